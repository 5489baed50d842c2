import PyProof.Rows.All
import Wide.All
import OpenK.AllK
import Wide.FinOn
import HandS.ForMost
import HandS.Evl
import HandS.ExcInit
import HandS.ExcIs
import HandS.ExcField
import HandS.WideBits
import PyProof.ReprRoads
import KE.KExcIs
import HandS.IsInst
import HandS.ExcValue
import HandS.Wide
import HandS.Walk
import PySem.Challenge.RW_hiddenrates_k01_errors_each_of_its_own
set_option Elab.async false
set_option linter.all false
set_option maxRecDepth 100000
set_option maxHeartbeats 4000000
/-! ### calls made where no repr is under way: the promise of a def for such callers alone -/
namespace KX
open PySem PySem.Spec PyProof.Rows L2

abbrev Quiet (A : Around) : Prop := A.guards = some []
structure FnG (P : Program) (w : World) (K : PySem.W.Frag) (mg : Str → Option Value) (base : Heap) (k : Nat) (f : Addr) (fd : FuncData) (ps : List Str) (sp : Sp) : Prop where
  arity : ∀ {vs H Q E}, sp vs H Q E → vs.length = ps.length
  goes : ∀ {A outer s H args us vs Q E}, Quiet A → Room k A → Env0 P w K mg base A outer s H → BindsTo s fd args (ps.zip us) → Vals vs us → sp vs H Q E →
    codeAny (model P w) A (.call (.ref f) args) (CR CX0 outer P w H s Q E) s

section
variable {P : Program} {w : World} {K : PySem.W.Frag} {mg : Str → Option Value} {base : Heap} {k : Nat} {f : Addr} {fd : FuncData} {ps : List Str} {sp : Sp}
theorem FnG.of (F : FnOk P w K mg base CX0 k f fd ps sp) : FnG P w K mg base k f fd ps sp := ⟨fun h => F.len _ _ _ _ h, fun _ a b c d e => F.run _ _ _ _ _ _ _ _ _ a b c d e⟩
theorem FnG.lift {j : Nat} (F : FnG P w K mg base j f fd ps sp) (h : j ≤ k) : FnG P w K mg base k f fd ps sp := ⟨F.arity, fun q r => F.goes q (r.mono h)⟩
end

section
variable {X : Cx} {k : Nat} {f : Addr} {fd : FuncData} {ps : List Str} {sp : Sp} {x : Str} {p pos : Pos} {e : Expr} {es : List Expr} {t : TA}
theorem FnG.callee {pins : List (Addr × Obj)} {σ : L2.St} {H : Hp} {s : Shared} {Q : VK} {us : List Value} {vs : List V} (F : FnG X.prog X.w X.K X.mg X.base k f fd ps sp) (qu : Quiet X.A) (hr : Room k X.A) (hb : Binds X.K fd ps [])
    (I : Inv X pins σ H s) (r : Vals vs us) (h : sp vs H Q E0) : wpAny (model X.prog X.w) X.A (call (.ref f) us) (EP X pins σ Q) X.xe s := by
  have bt := hb s us I.kIn (by rw [List.append_nil, ← r.length]; exact F.arity h)
  rw [List.append_nil] at bt
  refine wpAny_call (codeAny_mono (F.goes qu hr I.env0 bt r h) ?_)
  rintro (e | fl) s' z
  · exact z.elim
  · cases fl <;> first | exact I.after z | exact False.elim z
def tQuiet (sp : Sp) (t : TA) : TE := fun σ H Q => t σ H fun vs H1 => sp vs H1 Q E0
theorem pe_quiet (F : FnG X.prog X.w X.K X.mg X.base k f fd ps sp) (qu : Quiet X.A) (hr : Room k X.A) (hg : Gl X x) (hm : X.mg x = some (.ref f)) (hk : PySem.W.keepIn X.K (.ref f) = true) (hb : Binds X.K fd ps [])
    (ha : PA X (e :: es) t) (h1 : (x == ("__debug__" : Str)) = false := by decide) (h2 : starEach (e :: es) X.env = (false, eval e X.env) :: starEach es X.env := by rfl) (h3 : (backTo pos (starEach es X.env)).any (·.1) = false := by rfl) :
    PE X (.Call (.Name x p) (e :: es) [] pos) (tQuiet sp t) :=
  ⟨fun pins s σ H Q I h => wpAny_Call_Name_kw (ld_glob I hg hm (PySem.W.callWith_K (h₀ := X.base) I.ok.mod.kin hk
    (thn (ha.run pos pins s σ H _ I h) fun us s1 ⟨vs, H1, I1, r, q⟩ => ⟨I1.kIn, F.callee qu hr hb I1 r q⟩) h2 h3) h1)⟩
end

/-- a def's body, entered where no repr is under way -/
theorem FnG.mk' {P : Program} {w : World} {K : PySem.W.Frag} {mg : Str → Option Value} {base : Heap} {x qual : Str} {st : Stmt} {f : Addr} {fd : FuncData} {N ps : List Str} {k : Nat} {sp : Sp} (F : Fun K x qual st f fd) (S : FnScope N ps (defScope st)) (len : ∀ {vs H Q E}, sp vs H Q E → vs.length = ps.length)
    (body : ∀ (cdv : Value) (A : Around) (outer : List Env) (s : Shared) (H : Hp) (vs : List V) (Q : VK) (E : XK), Quiet A → Room k (A.deeper (envOfC qual (defScope st) s.heap.objs.size f cdv)) → sp vs H Q E →
      ∃ t, PSs (cxOf CX0 P w K mg base N qual (defScope st) f cdv A outer s H E).nox (defBody st) t ∧ t { nx := fun _ H' => Q .non H', rt := Q } (start N vs) H) : FnG P w K mg base (k + 1) f fd ps sp := by
  obtain ⟨oc, od, kV, doc, pm, an, cdv, ct, osl, rfl, lk, hcd⟩ := F.ex
  refine ⟨len, fun {A outer s H args us vs Q E} qu hr e0 hb r hsp => ?_⟩
  have inK : K.In s.heap := e0.mod.kin.keeps fun b o z => (e0.bs b o z).1
  refine Att.call_fn inK (e0.mod.nolimit.keeps fun b o z => (e0.bs b o z).1) lk hcd hr.depth hb ?_ (fun s1 ic => ?_) S.co S.gen S.kind
  · refine List.all_eq_true.mpr fun ⟨y, v⟩ hy => ?_
    rcases S.par y (List.of_mem_zip hy).1 with z | z <;> simp [z]
  · obtain ⟨t, ht, hq⟩ := body cdv A outer s H vs Q E qu (hr.deeper _) hsp
    have I0 := inv_start (CX := CX0) (N := N) (E := E) S hr.hd e0 (len hsp) r ic
    refine wpAny_mono (ht.nox.run [] s1 _ H _ I0 hq) ?_ fun _ _ z => z
    rintro (_ | _ | _ | u) s' z
    · obtain ⟨_, H', J, q⟩ := z
      exact ⟨.non, H', J.os, J.bare, J.base, J.hok, rfl, q⟩
    · obtain ⟨_, _, _, q⟩ := z
      exact q.elim
    · obtain ⟨_, _, _, q⟩ := z
      exact q.elim
    · obtain ⟨v, _, H', J, rv, q⟩ := z
      exact ⟨v, H', J.os, J.bare, J.base, J.hok, rv, q⟩

/-! ### the end of a law whose def is quiet -/
open Classical in
theorem lawG {P : Program} {w : World} {K : PySem.W.Frag} {mg mb : Str → Option Value} {k : Nat} {fa a : Addr} {fd : FuncData} {x : Str} {sp : Sp} {s₁ : Shared} {vs : List Value} {ns : List Int}
    (inK : K.In s₁.heap) (hns : s₁.heap.Ns mainGlobals mg) (hb : s₁.heap.Ns builtinsNs mb) (hbb : ∀ y : Str, y ≠ "__name__" → mb y = bootBuiltins y) (hlim : s₁.heap.NoLimit) (hg : s₁.gens = #[])
    (ha : s₁.heap.get? a = some { cls := .type "list", data := .seq vs.toArray }) (hi : IntsAre vs ns) (hl : ns.length ≤ sizeLine) (hr : Room k callerA)
    (F : ∀ base : Heap, K.In base → base.Ns mainGlobals mg → FnG P w K mg base k fa fd [x] sp) (hbind : ∀ (s : Shared) (u : Value), BindsTo s fd ⟨[u], []⟩ [(x, u)])
    (hsp : ∀ H : Hp, Only H → SqL K H a (ns.map V.int) → sp [.ref a] H (fun v _ => v = .bl true) fun _ _ _ => False) :
    codeAny (model P w) callerA (.call (.ref fa) ⟨[.ref a], []⟩) (fun r s' => r = .ok (.ret (.bool true)) ∧ OldK s₁.heap s'.heap ∧ s'.os = s₁.os ∧ AllBare s'.gens) s₁ := by
  let scr : Obj := { cls := .type "list", data := .seq vs.toArray }
  let H : Hp := fun b => if K.lookup a = none ∧ b = a then some (.frz scr (.lst (ns.map V.int))) else none
  have rv := vals_ints hi
  have hA : ∀ {b u}, H b = some u → K.lookup a = none ∧ b = a ∧ u = .frz scr (.lst (ns.map V.int)) := fun {b u} z => by
    by_cases c : K.lookup a = none ∧ b = a
    · have z' : some (HO.frz scr (.lst (ns.map V.int))) = some u := (if_pos c).symm.trans z
      exact ⟨c.1, c.2, (Option.some.inj z').symm⟩
    · have z' : none = some u := (if_neg c).symm.trans z
      cases z'
  have nK : ∀ {b o}, K.lookup b = some o → H b = none := fun {b o} e => by
    cases z : H b with
    | none => rfl
    | some u =>
      obtain ⟨z1, z2, _⟩ := hA z
      rw [z2, z1] at e
      cases e
  have nD : ∀ {b m}, s₁.heap.Ns b m → (hidT s₁.heap H).Ns b m := by
    rintro b m ⟨o, es, ep, e, d, r⟩
    refine ⟨o, es, ep, hidT_get e ?_, d, r⟩
    cases z : H b with
    | none => rfl
    | some u =>
      obtain ⟨_, z2, _⟩ := hA z
      rw [z2, ha] at e
      cases e
      cases d
  have inB : K.In (hidT s₁.heap H) := fun b o e => hidT_get (inK b o e) (nK e)
  have hok : HOk P w H s₁.heap := fun b u z => by
    obtain ⟨_, rfl, rfl⟩ := hA z
    exact ⟨ha, by rw [List.length_map]; exact hl, vs, _, rv, ha⟩
  have only : Only H := fun b => by
    cases z : H b with
    | none => exact .inl rfl
    | some u => exact .inr ⟨scr, ns.map V.int, by rw [(hA z).2.2]⟩
  have sq : SqL K H a (ns.map V.int) := by
    cases z : K.lookup a with
    | none => exact .inl (.inr ⟨scr, if_pos ⟨z, rfl⟩⟩)
    | some o =>
      have e := inK a o z
      rw [ha] at e
      cases e
      exact .inr ⟨_, vs.toArray, _, z, rfl, rfl, rfl, by rw [List.size_toArray, hi.length]; exact hl, by simpa using rv⟩
  have e0 : Env0 P w K mg (hidT s₁.heap H) callerA [] s₁ H :=
    ⟨rfl, ⟨inB, nD hns, ⟨mb, nD hb, hbb⟩, let ⟨mc, h1, h2⟩ := hlim; ⟨mc, nD h1, h2⟩⟩, fun b o e => of_hidT e, Nat.le_of_eq (hidT_size _ _), trivial, fun b z => (nomatch z), hok, .of_eq hg⟩
  refine codeAny_mono ((F _ inB (nD hns)).goes (us := [.ref a]) (vs := [.ref a]) rfl hr e0 (hbind s₁ (.ref a)) (.cons rfl .nil) (hsp H only sq)) ?_
  rintro (e | (_ | _ | _ | u)) s' z
  · exact z.elim
  · exact False.elim z
  · exact False.elim z
  · exact False.elim z
  · obtain ⟨v, H', os, bare, un, hok', r', q⟩ := z
    subst q
    obtain rfl : u = Value.bool true := r'
    refine ⟨rfl, OldK.of_keep fun b o e => ?_, os, bare⟩
    cases c : H b with
    | none => exact un.keep b o e c (fun z => nomatch z) (fun z => nomatch z)
    | some y =>
      obtain ⟨_, rfl, rfl⟩ := hA c
      have e1 := (hok _ _ c).1
      have e2 := (hok' _ _ (un.frzs _ _ _ c)).1
      rw [e1] at e
      cases e
      exact e2

theorem walkG {l : PySem.W.OpenLaw} {n k : Nat} {q : Program} {loose : List Str} {XP : (Str → Option Value) → Heap → Prop} {YP : World → Heap → Prop} {d : DefRec} {K : Params → PySem.W.Frag} {sp : PySem.W.Frag → Sp} {x : Str}
    (hn : l.most = some n) (hn2 : n ≤ sizeLine) (hdf : d.params.defaults = []) (hr : Room k callerA) (hY : ∀ (w : World) (h : Heap), YP w h → (K w.params).In h)
    (F : ∀ (w : World) (mg : Str → Option Value) (fa : Addr) (h : Heap), (K w.params).In h → h.Ns mainGlobals mg → mg d.name = some (.ref fa) →
      ∃ fd : FuncData, (∀ (s : Shared) (u : Value), BindsTo s fd ⟨[u], []⟩ [(x, u)]) ∧ ∀ base : Heap, (K w.params).In base → base.Ns mainGlobals mg → FnG l.prog w (K w.params) mg base k fa fd [x] (sp (K w.params)))
    (hsp : ∀ (K : PySem.W.Frag) (H : Hp) (a : Addr) (ns : List Int), ns.length ≤ n → Only H → SqL K H a (ns.map V.int) → sp K [.ref a] H (fun v _ => v = .bl true) fun _ _ _ => False) :
    PySem.W.WalkO q loose XP YP l.row.toRowW d [] (fun f vs => PySem.call f vs) :=
  Att.attach_call hn hdf fun w s₀ s₁ mg mb fa o pm cd doc a vs ns G Y ho hd hcd hmg hobj hints hlen hg => by
    obtain ⟨fd, b, f⟩ := F w mg fa _ (hY w _ Y) G.T.g hmg
    exact lawG (hY w _ Y) G.T.g G.T.b G.T.builtins G.T.nolimit hg hobj hints (Nat.le_trans hlen hn2) hr f b fun H h1 h2 => hsp _ H a ns hlen h1 h2

/-! ### repr of data -/
/-- what x is as data: anything of the data's kinds, or the empty dict -/
def Shw (K : PySem.W.Frag) (H : Hp) (x : V) (d : PyData) : Prop :=
  d.showable = true ∧ d.shown.length ≤ sizeLine ∧ d.depth ≤ 60 ∧ ((d.hasDict = false ∧ Dp K H x d) ∨ (d = .dict [] ∧ ∃ a, x = .ref a ∧ H a = some (.dK [])))
def rRepr (K : PySem.W.Frag) : List V → Hp → VK → Prop := fun xs H Q => ∃ x d, xs = [x] ∧ Shw K H x d ∧ Q (.str d.shown) H
theorem call_repr_none' {P : Program} {w : World} {A : Around} {E : Value → Shared → Prop} {s : Shared} {Q : Value → Shared → Prop} (h : Q (.str "None" s.toks) { s with toks := s.toks + 1 }) : wpAny (model P w) A (call (.builtin "repr") [.none]) Q E s :=
  PySem.P.repr_of_none h
theorem cr_repr {X : Cx} (qu : Quiet X.A) (hu : X.A.units + 64 < cLine) : CallR X (.builtin "repr") (rRepr X.K) := by
  rintro pins s σ H xs us Q I r ⟨x, d, rfl, ⟨hs, hz, hd, hx⟩, q⟩
  obtain ⟨u, rfl, rx⟩ := vals1 r
  have big : ∀ {y : Value} {b : Addr} {as : List Addr}, y = .ref b → Reads s.heap y d as → (d.hasDict = true → sysModules ∉ as) → wpAny (model X.prog X.w) X.A (call (.builtin "repr") [y]) (EP X pins σ Q) X.xe s := by
    rintro y b as rfl rd hm
    refine repr_of_reads' rd hs hm qu (by omega) (fun _ _ z => z) (fun h' u tk k => ?_) hz
    exact ⟨.str d.shown, H, I.kept k, ⟨_, rfl⟩, q⟩
  rcases hx with ⟨hn, hx⟩ | ⟨rfl, a, rfl, ha⟩
  · have nd : d.hasDict = true → ∀ as : List Addr, sysModules ∉ as := fun z => by
      rw [hn] at z
      cases z
    have tx : ∀ (y : Str) (t : Tok) (tk : Nat), Q (.str y) H → EP X pins σ Q (.str y t) { s with toks := tk } := fun y t tk z => ⟨.str y, H, I.tok _, ⟨_, rfl⟩, z⟩
    cases hx with
    | non =>
      obtain rfl : u = Value.none := rx
      exact PySem.P.repr_of_none (tx _ _ _ q)
    | bl b =>
      obtain rfl : u = Value.bool b := rx
      refine PySem.P.repr_of_bool (tx _ _ _ ?_)
      cases b <;> exact q
    | int i =>
      obtain ⟨t, rfl⟩ := rx
      exact PySem.P.repr_of_int (of_decide_eq_true hs) (tx _ _ _ q)
    | str y =>
      obtain ⟨t, rfl⟩ := rx
      exact PySem.P.repr_of_str (tx _ _ _ q) hz
    | lst h1 h2 =>
      obtain ⟨as, rd⟩ := Dp.reads I _ _ u (.lst h1 h2) rx
      exact big rx rd fun z => nd z _
    | tup h1 h2 =>
      obtain ⟨as, rd⟩ := Dp.reads I _ _ u (.tup h1 h2) rx
      exact big rx rd fun z => nd z _
  · obtain ⟨_, hne, vs, kv, o, es, ep, h1, h2, h3, h4⟩ := (show ObjOk X.prog X.w H s.heap a (.dK []) from I.hok a _ ha)
    cases kv
    have h5 : es.toList = [] := by
      have z := h4.2.1
      generalize es.toList = l at z
      cases z
      rfl
    obtain rfl : u = Value.ref a := rx
    refine big rfl (Reads.dict (kvs := []) (as := []) (bs := []) h1 h2.1 h3 (by rw [h5]; exact .nil) (by rw [h5]; exact .nil)) fun _ z => ?_
    have z' : sysModules ∈ [a] := z
    rw [List.mem_singleton] at z'
    rw [z'] at hne
    simp at hne
end KX

set_option Elab.async false
set_option linter.all false
set_option maxRecDepth 100000
set_option maxHeartbeats 4000000
/-! ### own exceptions as values, made by place and by name -/
namespace KX
open PySem PySem.Spec PySem.W PySem.Calls PyProof.Rows PySem.HandSPX
section
variable {prog : Program} {w : World} {A : Around} {E : Value → Shared → Prop} {R : Result → Shared → Prop} {h : Heap} {g : Array GenState} {d : Drawn} {t : Nat} {os : OsState}
variable {nm q : Str} {C N : Addr} {bs bm bmB : List Value} {hdct : Bool} {sn : List Str} {sub : List Value} {ab : Bool} {col : Option Bool} {dd : Option Addr} {k0 k1 k2 k3 k5 : Option Value} {B newId initId : String} {kw : List (Str × Value)}
theorem newCheckKw (F : ExcBaseFacts B newId initId bmB) (hT : ∀ Y : String, bm.contains (.type Y) = bmB.contains (.type Y)) {rest : List Value} {Q : Unit → Shared → Prop} {M : Model}
    (hC : h.get? C = some (excClassObj nm q C N bs bm hdct sn sub ab col dd k0 k1 k2 k3 k5 newId)) (hq : Q () ⟨h, g, d, t, os⟩) : wpAny M A (checkBuiltinCall newId ⟨.ref C :: rest, kw⟩) Q E ⟨h, g, d, t, os⟩ := by
  have c1 : (Value.ref C :: bm).contains (.type B) = true := by rw [List.contains_cons, hT, F.hasB, Bool.or_true]
  have c2 := F.noStar
  simp only [checkBuiltinCall, F.newKind, F.newSplit, F.newRow]
  repeat (first
    | refine wpAny_loadPart_at hC ?_
    | (refine wpAny_isSubtype_exc hC ?_; rw [c1])
    | refine wpAny_staticBase_exc hC ?_
    | refine wpAny_madeBy_exc hC ?_
    | simp only [bne_self_eq_false, Bool.false_eq_true, if_false]
    | wp_step)
  exact hq
theorem newKw (F : ExcBaseFacts B newId initId bmB) (hT : ∀ Y : String, bm.contains (.type Y) = bmB.contains (.type Y)) {rest : List Value}
    (hC : h.get? C = some (excClassObj nm q C N bs bm hdct sn sub ab col dd k0 k1 k2 k3 k5 newId)) (hz : rest.length ≤ sizeLine)
    (hq : R (.ok (.ret (.ref (h.objs.size + 1)))) ⟨(h.push (kdv_tup rest)).push (excO C h.objs.size), g, d, t, os⟩) : codeAny (model prog w) A (.builtin newId ⟨.ref C :: rest, kw⟩) R ⟨h, g, d, t, os⟩ := by
  have e0 := F.ends
  have c1 : (Value.ref C :: bm).contains (.type B) = true := by rw [List.contains_cons, hT, F.hasB, Bool.or_true]
  have c2 : (Value.ref C :: bm).contains (.type "AttributeError") = false := by rw [List.contains_cons, hT, F.noAttr]; rfl
  have c3 : (Value.ref C :: bm).contains (.type "NameError") = false := by rw [List.contains_cons, hT, F.noName]; rfl
  refine codeAny_builtinAt F.entry ?_
  unfold Builtin.«BaseException.__new__»
  refine PySem.wpAt_bind ?_
  show PySem.wpAt _ _ _ (stack >>= _) _ _ _
  refine PySem.wpAt_bind (PySem.wpAt_stack fun p below => PySem.wpAt_of_wpAny ?_)
  wp_walk
  refine PySem.wpAt_of_wpAny ?_
  rw [F.owner]
  repeat (first
    | with_reducible refine wpAny_madeHere_exc F.canon hC ?_
    | with_reducible refine wpAny_loadPart_at hC ?_
    | (with_reducible refine wpAny_isSubtype_exc hC ?_; first | rw [c1] | rw [c2] | rw [c3])
    | wp_step)
  show R _ _
  rw [Heap.size_push]
  exact hq
theorem callKw (F : ExcBaseFacts B newId initId bmB) (hT : ∀ Y : String, bm.contains (.type Y) = bmB.contains (.type Y)) {rest : List Value} {fI : Addr}
    (hC : h.get? C = some (excClassObj nm q C N bs bm hdct sn sub ab col dd k0 k1 k2 k3 k5 newId))
    (hi : Looks (model prog w) h (typeLookup (.ref C) "__init__") (some (.ref fI))) (hb : ∀ self, Looks (model prog w) h (bindSpecial (.ref fI) self) (.ref fI, [self])) (hz : rest.length ≤ sizeLine)
    (hq : codeAny (model prog w) (A.under (.builtin "type.__call__" ⟨.ref C :: rest, kw⟩)) (.call (.ref fI) ⟨.ref (h.objs.size + 1) :: rest, kw⟩) (InitBack (h.objs.size + 1) R)
      ⟨(h.push (kdv_tup rest)).push (excO C h.objs.size), g, d, t, os⟩) :
    codeAny (model prog w) A (.call (.ref C) ⟨rest, kw⟩) R ⟨h, g, d, t, os⟩ := by
  have f1 := tc_lookup
  have f2 := tc_bind (.ref C)
  have f3 := tc_sub
  have hTy : (⟨h, g, d, t, os⟩ : Shared).TypeIs (.ref C) "type" := ⟨_, hC, rfl⟩
  have kp : ∀ b o, h.get? b = some o → ((h.push (kdv_tup rest)).push (excO C h.objs.size)).get? b = some o := fun b o e => Heap.get?_push_of_some _ (Heap.get?_push_of_some _ e)
  have hC1 := kp _ _ hC
  have hE : ((h.push (kdv_tup rest)).push (excO C h.objs.size)).get? (h.objs.size + 1) = some (excO C h.objs.size) := by heap_get
  have cC : (Value.ref C :: bm).contains (.ref C) = true := by simp
  have i1 := hi.keeps kp
  have b1 := (hb (.ref (h.objs.size + 1))).keeps kp
  refine codeAny_of_tree ?_
  show wpAny _ _ (callAny (.ref C) _) _ _ _
  repeat (any_goals (first | assumption | with_reducible refine wpAny_loadPart_at hC ?_ | wp_step))
  refine ⟨rfl, ?_⟩
  refine codeAny_call_builtin_at (Code.quiet_builtin _ (by decide +kernel)) entry_typeCall ?_
  simp only [checkBuiltinCall, tc_kind, tc_split]
  repeat (any_goals (first | assumption | with_reducible refine wpAny_loadPart_at hC ?_ | with_reducible refine wpAny_onRaise ?_ | with_reducible refine wpAny_map ?_ | wp_step))
  show codeAny _ _ (.call (.builtin newId) ⟨.ref C :: rest, kw⟩) _ _
  refine codeAny_call_builtin_code (Code.quiet_builtin _ F.quiet) (newCheckKw F hT hC (newKw F hT hC hz ?_))
  show wpAny _ _ (isInstance (.ref (h.objs.size + 1)) (.ref C) >>= _) _ _ _
  unfold isInstance
  repeat (first
    | with_reducible refine wpAny_loadPart_at hE ?_
    | (with_reducible refine wpAny_isSubtype_exc hC1 ?_; rw [cC])
    | wp_step)
  show wpAny _ _ (typeLookup (.ref C) _) _ _ _
  refine i1.at (wpAny_holding (wpAny_bind (b1.at (wpAny_bind (wpAny_call (codeAny_mono hq ?_))))))
  rintro (e | (_ | _ | _ | v)) s' z
  · exact z
  · exact z.elim
  · exact z.elim
  · exact z.elim
  · obtain ⟨rfl, z⟩ := z

    exact wpAny_pure (wpAny_pure z)
end
end KX

set_option Elab.async false
set_option linter.all false
set_option maxRecDepth 100000
set_option maxHeartbeats 4000000
/-! ### own exceptions as values over the layer: made, asked, read -/
namespace KX
open PySem PySem.Spec PyProof.Rows L2

structure ExcT (K : PySem.W.Frag) (C fI : Addr) (fd : FuncData) (f : Str) : Prop where
  o : OexC K C
  e : ExcC K C
  nf : PySem.W.findIn K (.ref C) f = some none
  ini : PySem.W.findIn K (.ref C) "__init__" = some (some (.ref fI))
  ty : PySem.W.typeIn K (.ref fI) = some (.type "function")
  b1 : ∀ (s : Shared) (u v : Value), BindsTo s fd ⟨[u, v], []⟩ [("self", u), (f, v)]
  b2 : ∀ (s : Shared) (u v : Value), BindsTo s fd ⟨[u], [(f, v)]⟩ [("self", u), (f, v)]
/-- self.f = f, of an exception that is being made -/
def spEI (C : Addr) (f : Str) : Sp := fun vs H Q _ => ∃ a v, vs = [.ref a, v] ∧ H a = some (exo a C none) ∧ ∀ dx, H dx = none → dx ≠ a → Q .non (upd (upd H dx (exd dx [(f, v)])) a (exo a C (some dx)))
/-- a new exception of the class at C stands at a, its field f holds v; all else as it was -/
def Made (C : Addr) (f : Str) (v : V) (H : Hp) (Q : VK) : Prop := ∀ a dx H', H a = none → H dx = none → Same H H' → H' a = some (exo a C (some dx)) → H' dx = some (exd dx [(f, v)]) → Q (.ref a) H'
section
variable {X : Cx} {pins : List (Addr × Obj)} {σ : L2.St} {H : Hp} {s : Shared} {C fI : Addr} {fd : FuncData} {f : Str} {k : Nat} {Q : VK} {v : V} {u : Value} {x : Str} {e : Expr} {te : TE} {p pos kpos : Pos}
theorem make_exc (T : ExcT X.K C fI fd f) (F : FnOk X.prog X.w X.K X.mg X.base CX0 k fI fd ["self", f] (spEI C f)) (hr : Room (k + 1) X.A) (I : Inv X pins σ H s) (rv : RelV v u) {rest : List Value} {kw : List (Str × Value)}
    (hk : rest = [u] ∧ kw = [] ∨ rest = [] ∧ kw = [(f, u)]) (h : Made C f v H Q) : wpAny (model X.prog X.w) X.A (call (.ref C) rest kw) (EP X pins σ Q) X.xe s := by
  obtain ⟨nm, q, N, bs, bm, sn, sub, ab, col, dd, k0, k1, k2, k3, k5, hC, hbm⟩ := T.o.cls
  have inK := I.kIn
  obtain ⟨hp, g, dr, tk, os⟩ := s
  have hz : rest.length ≤ sizeLine := by
    rcases hk with ⟨rfl, _⟩ | ⟨rfl, _⟩
    · show 1 ≤ sizeLine
      decide
    · exact Nat.zero_le _
  have an : H (hp.objs.size + 1) = none := I.hok.fresh (Nat.le_succ _)
  have kp : ∀ b o, hp.get? b = some o → ((hp.push (PySem.W.kdv_tup rest)).push (PySem.HandSPX.excO C hp.objs.size)).get? b = some o := fun b o z => Heap.get?_push_of_some _ (Heap.get?_push_of_some _ z)
  have at1 : ((hp.push (PySem.W.kdv_tup rest)).push (PySem.HandSPX.excO C hp.objs.size)).get? (hp.objs.size + 1) = some (PySem.HandSPX.excO C hp.objs.size) := by heap_get
  have J : Inv X pins σ (upd H (hp.objs.size + 1) (exo (hp.objs.size + 1) C none)) ⟨(hp.push (PySem.W.kdv_tup rest)).push (PySem.HandSPX.excO C hp.objs.size), g, dr, tk, os⟩ := I.laid kp (Nat.le_succ _) (exo_ok at1)
  have bt : BindsTo ⟨(hp.push (PySem.W.kdv_tup rest)).push (PySem.HandSPX.excO C hp.objs.size), g, dr, tk, os⟩ fd ⟨.ref (hp.objs.size + 1) :: rest, kw⟩ ((["self", f] : List Str).zip [.ref (hp.objs.size + 1), u]) := by
    rcases hk with ⟨rfl, rfl⟩ | ⟨rfl, rfl⟩
    · exact T.b1 _ _ _
    · exact T.b2 _ _ _
  refine wpAny_call (callKw PySem.F.excBase_ValueError (fun Y => PySem.HandSPX.refsVE_contains Y bm hbm) (inK _ _ hC) (PySem.W.looks_findIn inK T.ini) (fun self => PySem.W.bind_fn inK self T.ty) hz
    (codeAny_mono (F.run _ X.stack _ _ _ [.ref (hp.objs.size + 1), u] [.ref (hp.objs.size + 1), v] (fun y H2 => y = .non ∧ Q (.ref (hp.objs.size + 1)) H2) E0 (hr.make C rest kw) (J.env0.make C rest kw) bt (.cons rfl (.cons rv .nil))
      ⟨_, v, rfl, upd_same, fun dx n1 n2 => ⟨rfl, ?_⟩⟩) ?_))
  · rw [upd_ne n2] at n1
    refine h _ dx _ an n1 (fun b o z => ?_) upd_same ?_
    · rw [upd_ne (ne_of_none z an), upd_ne (ne_of_none z n1), upd_ne (ne_of_none z an)]
      exact z
    · rw [upd_ne n2, upd_same]
  · rintro (er | (_ | _ | _ | y)) s' z
    · exact z.elim
    · exact False.elim z
    · exact False.elim z
    · exact False.elim z
    · obtain ⟨v', H', I3, r3, rfl, q3⟩ := J.after z
      exact ⟨r3, .ref (hp.objs.size + 1), H', I3, rfl, q3⟩
def tExc (C : Addr) (f : Str) (ta : TA) : TE := fun σ H Q => ta σ H fun vs H1 => ∃ v, vs = [v] ∧ Made C f v H1 Q
/-- C(e) -/
theorem pe_exc1 {ta : TA} (T : ExcT X.K C fI fd f) (F : FnOk X.prog X.w X.K X.mg X.base CX0 k fI fd ["self", f] (spEI C f)) (hr : Room (k + 1) X.A) (hg : Gl X x) (hm : X.mg x = some (.ref C)) (he : PA X [e] ta)
    (h1 : (x == ("__debug__" : Str)) = false := by decide) (h2 : starEach [e] X.env = (false, eval e X.env) :: starEach [] X.env := by rfl) :
    PE X (.Call (.Name x p) [e] [] pos) (tExc C f ta) :=
  ⟨fun pins s σ H Q I h => wpAny_Call_Name_kw (ld_glob I hg hm (PySem.W.callWith_K (h₀ := X.base) I.ok.mod.kin T.o.kC
    (thn (he.run pos pins s σ H _ I h) fun us s1 ⟨vs, H1, I1, r, v, ev, q⟩ => ⟨I1.kIn, by
        subst ev
        obtain ⟨u, rfl, rv⟩ := vals1 r
        exact make_exc T F hr I1 rv (.inl ⟨rfl, rfl⟩) q⟩) h2 rfl) h1)⟩
/-- C(f=e) -/
theorem pe_excK {ta : TA} (T : ExcT X.K C fI fd f) (F : FnOk X.prog X.w X.K X.mg X.base CX0 k fI fd ["self", f] (spEI C f)) (hr : Room (k + 1) X.A) (hg : Gl X x) (hm : X.mg x = some (.ref C)) (he : PK X [⟨some f, e, kpos⟩] ta)
    (h1 : (x == ("__debug__" : Str)) = false := by decide) (hall : (backToKw pos (keywordEach [⟨some f, e, kpos⟩] X.env)).all (·.1.isSome) = true := by rfl) (hks : (backToKw pos (keywordEach [⟨some f, e, kpos⟩] X.env)).filterMap (·.1) = [f] := by rfl)
    (hpl : ((backTo pos (starEach [] X.env)).any (·.1) || (backToKw pos (keywordEach [⟨some f, e, kpos⟩] X.env)).any (·.1.isNone)) = false := by rfl) :
    PE X (.Call (.Name x p) [] [⟨some f, e, kpos⟩] pos) (tExc C f ta) := by
  refine ⟨fun pins s σ H Q I h => wpAny_Call_Name_kw (ld_glob I hg hm (PySem.W.callWith_KW0 (h₀ := X.base) I.ok.mod.kin T.o.kC hall
    (thn (he.run pos pins s σ H _ I h) fun us s1 ⟨vs, H1, I1, r, v, ev, q⟩ => ⟨I1.kIn, ?_⟩) hpl) h1)⟩
  subst ev
  obtain ⟨u, rfl, rv⟩ := vals1 r
  rw [hks]
  exact make_exc T F hr I1 rv (.inr ⟨rfl, rfl⟩) q

/-! ### isinstance of such a value; its field -/
/-- isinstance(e, c), e an exception with a field, or without one -/
def rIsX (K : PySem.W.Frag) : List V → Hp → VK → Prop := fun xs H Q => ∃ (a C : Addr) (d : Option Addr) (c : V) (cv : Value) (b : Bool), xs = [.ref a, c] ∧ H a = some (exo a C d) ∧ (∀ dx, d = some dx → ∃ fs, H dx = some (exd dx fs)) ∧ ExcC K C ∧
  ClsV c cv ∧ PySem.W.kitOne K (.ref C) cv = some b ∧ Q (.bl b) H
theorem inst_of {d : Option Addr} {a : Addr} (I : Inv X pins σ H s) (e : H a = some (exo a C d)) (hd : ∀ dx, d = some dx → ∃ fs, H dx = some (exd dx fs)) : ∃ ox od, PySem.W.InstAt s.heap a ox C od := by
  obtain ⟨t1, ho⟩ := exo_at I.hok e
  cases d with
  | none => exact ⟨_, none, ⟨ho, rfl, rfl, trivial⟩⟩
  | some dx =>
    obtain ⟨fs, hf⟩ := hd dx rfl
    obtain ⟨mA, hns, hr⟩ := exd_at I.hok hf
    obtain ⟨od, hod, hl⟩ := lookIn_ns hns
    exact ⟨_, some od, ⟨ho, rfl, rfl, hod⟩⟩
theorem call_isX : CallR X (.builtin "isinstance") (rIsX X.K) := by
  rintro pins s σ H xs us Q I r ⟨a, C, d, c, cv, b, rfl, ha, hd, T, hc, he, q⟩
  obtain ⟨u1, u2, rfl, r1, r2⟩ := vals2 r
  obtain rfl : u1 = Value.ref a := r1
  obtain rfl := hc.eq r2
  obtain ⟨ox, od, J⟩ := inst_of I ha hd
  have hcl : (PySem.W.clsIn X.K C).isSome = true := by
    obtain ⟨cd, z, _⟩ := PySem.W.any_some T.hd
    rw [z]
    rfl
  exact PySem.W.kia_one (PySem.W.kitx_exc hcl T.hg T.hk T.hs T.ha T.hn T.ht T.hm) I.kIn J he (fun z => nomatch z) fun tk => ⟨.bl b, H, I.tok tk, rfl, q⟩
/-- e.f, e such an exception -/
def tFldX (K : PySem.W.Frag) (te : TE) (f : Str) : TE := fun σ H Q => te σ H fun x H1 => ∃ a C dx fs v, x = .ref a ∧ H1 a = some (exo a C (some dx)) ∧ H1 dx = some (exd dx fs) ∧ ExcC K C ∧ PySem.W.findIn K (.ref C) f = some none ∧ fs.lookup f = some v ∧ Q v H1
theorem pe_fldX (he : PE X e te) (hb : attributeBase e f X.env (eval e X.env) = eval e X.env := by rfl) : PE X (.Attribute e f pos) (tFldX X.K te f) := by
  refine ⟨fun pins s σ H Q I h => attr_of hb (thn (he.run pins s σ H _ I h) ?_)⟩
  rintro u s1 ⟨x, H1, I1, rx, a, C, dx, fs, v, rfl, ha, hd, T, hn, hl, q⟩
  obtain rfl : u = Value.ref a := rx
  obtain ⟨t1, ho⟩ := exo_at I1.hok ha
  obtain ⟨mA, hns, hr⟩ := exd_at I1.hok hd
  obtain ⟨od, hod, hlk⟩ := lookIn_ns hns
  have hrf := hr f
  rw [hl] at hrf
  obtain ⟨w, hw, rw'⟩ := RelO.some_of hrf
  exact HandSPX.exc_get I1.kIn (od := some od) ⟨ho, rfl, rfl, hod⟩ T.hg T.hk T.hs (PySem.W.findObj_own T.hd hn rfl (by rw [hlk, hw])) (handed_of rw') ⟨v, H1, I1.tok _, rw', q⟩
/-- the __init__ of such a class keeps its promise -/
theorem ok_excI {P : Program} {w : World} {K : PySem.W.Frag} {mg : Str → Option Value} {base : Heap} {qual : Str} {st : Stmt} {q1 q2 q3 q4 : Pos} (F : Fun K "__init__" qual st fI fd) (o : OexC K C) (nf : PySem.W.findIn K (.ref C) f = some none)
    (S : FnScope ["self", f] ["self", f] (defScope st)) (hb : defBody st = [.Assign [.Attribute (.Name "self" q1) f q2] (.Name f q3) q4]) (v0 : Vis (defScope st) "self") (v1 : Vis (defScope st) f)
    (d1 : (f == ("__debug__" : Str)) = false) (d2 : (f == ("__classdict__" : Str)) = false) : FnOk P w K mg base CX0 1 fI fd ["self", f] (spEI C f) := by
  refine F.ok S (fun vs H Q E h => ?_) (fun cdv A outer s H vs Q E hr h => ?_)
  · obtain ⟨a, v, rfl, _⟩ := h
    rfl
  · obtain ⟨a, v, rfl, ha, k⟩ := h
    rw [hb]
    refine ⟨_, pss_one (ps_ost (pe_var (i := 0) rfl v0) (pe_var (i := 1) rfl v1 d1 d2)), ?_⟩
    exact ⟨v, rfl, .ref a, rfl, a, C, rfl, o, nf, .inl ⟨ha, fun dx n1 n2 => k dx n1 n2⟩⟩
/-- C(), C without an __init__ of its own -/
theorem pe_exc0 (q : PySem.W.excIn X.K C HandSPX.veTail "ValueError.__new__" = true) (kC : PySem.W.keepIn X.K (.ref C) = true) (hg : Gl X x) (hm : X.mg x = some (.ref C)) (h1 : (x == ("__debug__" : Str)) = false := by decide) :
    PE X (.Call (.Name x p) [] [] pos) (fun _ H Q => ∀ a, H a = none → Q (.ref a) (upd H a (exo a C none))) := by
  refine ⟨fun pins s σ H Q I h => wpAny_Call_Name_kw (ld_glob I hg hm (PySem.W.callWith_K0 I.kIn kC ?_) h1)⟩
  show wpAny _ _ (call (.ref C) []) _ _ _
  obtain ⟨bm, N, nm, qn, bs, hdct, sn, sub, ab, col, dd, k0, k1, k2, k3, k5, mN, hC, hN, hni, T⟩ := exc_obj I.kIn q
  obtain ⟨hp, g, d, t, os⟩ := s
  refine wpAny_call_exc_subT PySem.F.excBase_ValueError T hC hN hni (fun h' e hm => ?_) (Nat.zero_le _)
  obtain ⟨t0, he, _⟩ := hm.there
  have n := I.hok.gone hm.new
  exact ⟨.ref e, _, I.laidN (t' := t) hm.keeps hm.new n (exo_ok he), rfl, h e n⟩
end
end KX

set_option Elab.async false
set_option linter.all false
set_option maxRecDepth 100000
set_option maxHeartbeats 4000000
/-! ### the law's draws -/
namespace KX
open PySem PySem.Spec PyProof.Rows L2
def top (i : Nat) : Stmt := PySem.Challenge.pw_hiddenrates_k01_errors_each_of_its_own.main.body.getD i (.Pass ⟨0, 0, 0, 0⟩)
abbrev sJar : Stmt := top 22
abbrev sDip : Stmt := top 23
abbrev sOne : Stmt := top 24

/-- a jar at j: a number to be parted, a mixed one, how often it was dipped (at most n) -/
def JarAt (H : Hp) (j : Addr) (n : Nat) : Prop := ∃ a b c : Int, H j = some (.lst [.int a, .int b, .int c]) ∧ 0 ≤ a ∧ 0 ≤ b ∧ b < 2147483399 ∧ 0 ≤ c ∧ c ≤ n
/-- all but j as it was -/
def But (j : Addr) (H H' : Hp) : Prop := ∀ b o, b ≠ j → H b = some o → H' b = some o
theorem But.trans {j : Addr} {H H1 H2 : Hp} (a : But j H H1) (b : But j H1 H2) : But j H H2 := fun c o n h => b c o n (a c o n h)
theorem But.same {j : Addr} {H H1 : Hp} (a : Same H H1) : But j H H1 := fun c o _ h => a c o h
def spJar (K : PySem.W.Frag) : Sp := fun vs H Q _ => ∃ (a : Addr) (ns : List Int) (t : Nat), vs = [.ref a, .int t] ∧ SqL K H a (ns.map V.int) ∧ ns.length ≤ 63 ∧ t ≤ 100 ∧ ∀ j H', H j = none → Same H H' → JarAt H' j 0 → Q (.ref j) H'
def spDip : Sp := fun vs H Q _ => ∃ (j : Addr) (top : Int) (n : Nat), vs = [.ref j, .int top] ∧ 0 < top ∧ top < 1000000 ∧ JarAt H j n ∧ n < 1000000 ∧ ∀ r H', 0 ≤ r → r < top → But j H H' → JarAt H' j (n + 1) → Q (.int r) H'
/-- one of some things: a list or a tuple -/
def spOne (K : PySem.W.Frag) : Sp := fun vs H Q _ => ∃ (j p : Addr) (xs : List V) (n : Nat), vs = [.ref j, .ref p] ∧ p ≠ j ∧ (H p = some (.lst xs) ∨ H p = some (.tup xs)) ∧ xs ≠ [] ∧ xs.length < 1000000 ∧ JarAt H j n ∧ n < 1000000 ∧
  ∀ x H', x ∈ xs → But j H H' → JarAt H' j (n + 1) → Q x H'
structure TxJ (mg : Str → Option Value) : Prop where
  int : mg "int" = none
  len : mg "len" = none
  abs : mg "abs" = none
  dvm : mg "divmod" = none
section
variable {P : Program} {w : World} {K : PySem.W.Frag} {mg : Str → Option Value} {base : Heap}
theorem scJar : FnScope ["script", "turn", "mixed", "cell", "own"] ["script", "turn"] (defScope sJar) := ⟨rfl, rfl, rfl, by decide +kernel, rfl, by decide +kernel, by decide +kernel⟩
theorem ok_jar {f : Addr} {fd : FuncData} (F : Fun K "_law_jar" "_law_jar" sJar f fd) (T : TxJ mg) : FnOk P w K mg base CX0 1 f fd ["script", "turn"] (spJar K) := by
  refine F.ok scJar (fun vs H Q E h => ?_) (fun cdv A outer s H vs Q E hr h => ?_)
  · obtain ⟨a, ns, t, rfl, _⟩ := h
    rfl
  · obtain ⟨a, ns, t, rfl, hS, hn, ht, k⟩ := h
    refine ⟨_, pss_cons (ps_set (i := 2) scJar.nd rfl (Or.inl rfl) (pe_op op_add pe_int (pe_op op_mul pe_int (pv 1))))
      (pss_cons (ps_for PassesOwn.never rfl (pi_list (pe_slice sl_list (pv 0) po_none (po_some pe_int))) (pg_name (i := 3) scJar.nd rfl (Or.inl rfl))
        (pss_one (ps_set (i := 2) scJar.nd rfl (Or.inl rfl) (pe_op op_mod (pe_callTy call_int1 (by rfl) T.int (by decide +kernel) (pa_cons
          (pe_op op_add (pe_op op_add (pe_op op_mul (pv 2) pe_int) (pe_op op_mul (pe_op op_mod (pe_callTy call_int1 (by rfl) T.int (by decide +kernel) (pa_cons (pv 3) pa_nil)) pe_int) pe_int)) pe_int) pa_nil)) pe_int))))
      (Evl.pss_cut (ps_set (i := 4) scJar.nd rfl (Or.inl rfl) (pe_ifExp (pt_cmpR op_lt (pv 1) (pe_callB call_len_seq (by rfl) T.len PySem.boot_len (pa_cons (pv 0) pa_nil)) (nomark _))
          (pe_callTy call_int1 (by rfl) T.int (by decide +kernel) (pa_cons (pe_ix ix_list (pv 0) (pv 1) (fun _ _ => rfl)) pa_nil)) pe_int))
      (pss_one (ps_ret (pe_lst (pa_cons (pe_ifExp (PW.pt (pw_or (pt_cmpR op_lt (pv 4) pe_int (nomark _)) (pw_or1 (pt_cmpR op_ge (pv 4) (pe_op op_pow pe_int pe_int) (nomark _)))))
          (pe_callB call_abs (by rfl) T.abs (by decide +kernel) (pa_cons (pv 4) pa_nil)) pe_int) (pa_cons (pv 2) (pa_cons pe_int pa_nil)))))))), ?_⟩
    refine ⟨_, rfl, _, _, rfl, rfl, .inl ⟨by decide, by decide⟩, _, _, rfl, rfl, ?_⟩
    refine ⟨_, rfl, _, rfl, a, _, rfl, hS, fun p hp => ⟨p, rfl, ⟨_, SqL.of upd_same⟩, ?_⟩⟩
    have allI : ∀ x ∈ cutV (ns.map V.int) none (some 10), ∃ i, x = V.int i := fun x hx => by
      have h1 := List.mem_of_mem_drop (List.mem_of_mem_take hx)
      obtain ⟨i, _, rfl⟩ := List.mem_map.mp h1
      exact ⟨i, rfl⟩
    refine for_list (xs := cutV (ns.map V.int) none (some 10)) (fun i σ H' => ∃ (m : Int) (v : Option V), σ = [some (.ref a), some (.int t), some (.int m), v, none] ∧ 0 ≤ m ∧ m < 2147483399 ∧ Same (upd H p (.lst (cutV (ns.map V.int) none (some 10)))) H')
      ⟨_, none, rfl, by omega, by omega, Same.refl _⟩ (fun i σ H' _ ⟨_, _, _, _, _, z⟩ => SqL.of (z _ _ upd_same)) ?_ ?_
    · rintro i x σ H' hi ⟨m, v, rfl, m0, m1, sm⟩
      obtain ⟨c, rfl⟩ := allI x (List.mem_of_getElem? hi)
      have hc0 := Int.emod_nonneg c (show (2147483399 : Int) ≠ 0 by decide)
      have hc1 := Int.emod_lt_of_pos c (show (0 : Int) < 2147483399 by decide)
      refine ⟨_, rfl, _, _, rfl, rfl, .inl ⟨by omega, by omega⟩, _, rfl, .inl ⟨_, rfl, _, _, rfl, rfl, (by decide : (0 : Int) < 2147483399), _, _, rfl, rfl, .inl ⟨by omega, by omega⟩, _, _, rfl, rfl, _, _, rfl, rfl, .inl ⟨_, rfl, _, _, rfl, rfl, (by decide : (0 : Int) < 2147483399), ?_⟩⟩⟩
      exact ⟨_, _, rfl, Int.emod_nonneg _ (by decide), Int.emod_lt_of_pos _ (by decide), sm⟩
    · rintro σ H' ⟨m, v, rfl, m0, m1, sm⟩
      have sm0 : Same H H' := fun b o e => sm b o (by rw [upd_ne (ne_of_none e hp)]; exact e)
      refine ⟨fun σ' H2 => ∃ own : Int, σ' = [some (.ref a), some (.int t), some (.int m), v, some (.int own)] ∧ Same H H2, ?_, ?_⟩
      · refine ⟨_, rfl, _, rfl, a, _, rfl, .inl (sm0.seq hS), _, _, rfl, rfl, _, rfl, ?_⟩
        refine ite2 (fun c => ?_) (fun c => ⟨_, rfl, sm0⟩)
        have c' := of_decide_eq_true c
        rw [List.length_map] at c'
        have ht' : t < ns.length := by omega
        exact ⟨_, rfl, _, rfl, a, _, _, .int ns[t], rfl, rfl, sm0.seq hS, atI_nat (by rw [List.getElem?_map, List.getElem?_eq_getElem ht']; rfl), .inl ⟨_, rfl, _, rfl, sm0⟩⟩
      · rintro σ' H2 ⟨own, rfl, sm2⟩
        have fin : ∀ x : Int, 0 ≤ x → ∀ j, H2 j = none → Q (.ref j) (upd H2 j (.lst [.int x, .int m, .int 0])) := fun x hx j hj =>
          k j _ (sm2.free hj) (fun b o e => by rw [upd_ne (ne_of_none (sm2 b o e) hj)]; exact sm2 b o e) ⟨x, m, 0, upd_same, hx, m0, m1, by decide, by decide⟩
        have l3 : ([V.int 0, .int 0, .int 0] : List V).length ≤ sizeLine := by decide
        refine ⟨_, rfl, _, _, rfl, rfl, _, rfl, ?_⟩
        refine ite2 (fun c => iteT ⟨_, rfl, _, rfl, _, rfl, l3, fin _ ?_⟩) (fun c => ⟨_, rfl, _, _, rfl, rfl, ⟨by decide, by decide, by decide⟩, _, _, rfl, rfl, _, rfl, ?_⟩)
        · split <;> omega
        · refine ite2 (fun c => ⟨_, rfl, _, rfl, _, rfl, l3, fin _ ?_⟩) (fun c => ⟨_, rfl, l3, fin _ (by decide)⟩)
          split <;> omega
theorem scDip : FnScope ["jar", "top", "figure", "stirred"] ["jar", "top"] (defScope sDip) := ⟨rfl, rfl, rfl, by decide +kernel, rfl, by decide +kernel, by decide +kernel⟩
theorem ok_dip {f : Addr} {fd : FuncData} (F : Fun K "_law_dip" "_law_dip" sDip f fd) (T : TxJ mg) : FnOk P w K mg base CX0 1 f fd ["jar", "top"] spDip := by
  refine F.ok scDip (fun vs H Q E h => ?_) (fun cdv A outer s H vs Q E hr h => ?_)
  · obtain ⟨j, t, n, rfl, _⟩ := h
    rfl
  · obtain ⟨j, t, n, rfl, t0, t1, ⟨a, b, c, hj, a0, b0, b1, c0, c1⟩, hn, k⟩ := h
    refine ⟨_, pss_cons (ps_if (pt_cmpR op_gt (pe_ix ix_list (pv 0) pe_int (fun _ _ => rfl)) pe_int (nomark _))
        (pss_cons (ps_asg (pe_callB call_divmodW (by rfl) T.dvm (by decide +kernel) (pa_cons (pe_ix ix_list (pv 0) pe_int (fun _ _ => rfl)) (pa_cons (pv 1) pa_nil)))
            (pg_tup rfl (pgs_cons (pg_sub (pv 0) pe_int set_list) (pgs_cons (pg_name (i := 2) scDip.nd rfl (Or.inl rfl)) pgs_nil))))
          (pss_one (ps_ret (pv 2)))) pss_nil)
      (pss_cons (ps_asg (pe_op op_add (pe_ix ix_list (pv 0) pe_int (fun _ _ => rfl)) pe_int) (pg_sub (pv 0) pe_int set_list))
      (pss_cons (ps_set (i := 3) scDip.nd rfl (Or.inl rfl) (pe_op op_mod (pe_callTy call_int1 (by rfl) T.int (by decide +kernel) (pa_cons
          (pe_op op_add (pe_ix ix_list (pv 0) pe_int (fun _ _ => rfl)) (pe_op op_mul pe_int (pe_ix ix_list (pv 0) pe_int (fun _ _ => rfl)))) pa_nil)) pe_int))
      (pss_cons (ps_asg (pe_op op_mod (pe_callTy call_int1 (by rfl) T.int (by decide +kernel) (pa_cons
          (pe_op op_add (pe_op op_mul (pv 3) (pe_op op_add (pe_op op_mod (pe_callTy call_int1 (by rfl) T.int (by decide +kernel) (pa_cons (pv 3) pa_nil)) pe_int) pe_int))
            (pe_op op_mul pe_int (pe_ix ix_list (pv 0) pe_int (fun _ _ => rfl)))) pa_nil)) pe_int) (pg_sub (pv 0) pe_int set_list))
      (pss_one (ps_ret (pe_op op_mod (pe_callTy call_int1 (by rfl) T.int (by decide +kernel) (pa_cons (pe_op op_fdiv (pe_ix ix_list (pv 0) pe_int (fun _ _ => rfl)) pe_int) pa_nil)) (pv 1))))))), ?_⟩
    have at0 : ∀ x y z : Int, atI [V.int x, .int y, .int z] 0 = some (.int x) := fun _ _ _ => rfl
    have at1 : ∀ x y z : Int, atI [V.int x, .int y, .int z] 1 = some (.int y) := fun _ _ _ => rfl
    have at2 : ∀ x y z : Int, atI [V.int x, .int y, .int z] 2 = some (.int z) := fun _ _ _ => rfl
    refine ⟨_, rfl, _, _, _, _, rfl, rfl, SqL.of hj, at0 _ _ _, _, _, rfl, rfl, _, rfl, ?_⟩
    refine ite2 (fun ca => ?_) (fun ca => ?_)
    · have ha := of_decide_eq_true ca
      refine ⟨_, rfl, _, _, _, _, rfl, rfl, SqL.of hj, at0 _ _ _, _, rfl, _, _, rfl, ⟨t0, PyProof.noPylong_of_log2 ?_⟩, fun p hp => ?_⟩
      · refine PySem.Flt.log2_lt_of (by decide) (Nat.lt_of_lt_of_le (show t.natAbs < 1000000 by omega) ?_)
        exact Nat.le_trans (by decide : 1000000 ≤ 2 ^ 20) (Nat.pow_le_pow_right (by decide) (by decide))
      · have npj : j ≠ p := ne_of_none hj hp
        refine ⟨p, _, rfl, SqT.of upd_same, rfl, _, _, rfl, ⟨_, rfl, j, _, 0, 0, rfl, rfl, Eq.trans (upd_ne npj) hj, rfl, ?_⟩⟩
        refine ⟨_, _, rfl, rfl, _, rfl, k _ _ (Int.emod_nonneg _ (by omega)) (Int.emod_lt_of_pos _ t0) (fun x o nx e => ?_) ⟨a / t, b, c, upd_same, Int.ediv_nonneg a0 (by omega), b0, b1, c0, by omega⟩⟩
        rw [upd_ne nx, upd_ne (ne_of_none e hp)]
        exact e
    · have c2 : (28657 : Int) * (c + 1) = (c + 1) * 28657 := Int.mul_comm _ _
      refine ⟨_, rfl, _, _, _, _, rfl, rfl, SqL.of hj, at2 _ _ _, _, _, rfl, rfl, _, rfl, j, _, 2, 2, rfl, rfl, hj, rfl, ?_⟩
      have h1 : (upd H j (.lst ([V.int a, .int b, .int c].set 2 (.int (c + 1))))) j = some (.lst [.int a, .int b, .int (c + 1)]) := upd_same
      refine ⟨_, rfl, _, _, _, _, rfl, rfl, SqL.of h1, at1 _ _ _, _, rfl, _, _, _, _, rfl, rfl, SqL.of h1, at2 _ _ _, _, _, rfl, rfl, .inl ⟨by decide, by decide⟩, _, _, rfl, rfl, .inl ⟨_, rfl, _, _, rfl, rfl, (by decide : (0 : Int) < 2147483399), ?_⟩⟩
      have s0 := Int.emod_nonneg (b + 28657 * (c + 1)) (show (2147483399 : Int) ≠ 0 by decide)
      have s1 := Int.emod_lt_of_pos (b + 28657 * (c + 1)) (show (0 : Int) < 2147483399 by decide)
      refine ⟨_, rfl, _, rfl, .inl ⟨_, rfl, _, _, rfl, rfl, (by decide : (0 : Int) < 5003), _, _, rfl, rfl, _, _, rfl, rfl, .inl ⟨by omega, by omega⟩, _, rfl, _, _, _, _, rfl, rfl, SqL.of h1, at2 _ _ _, _, _, rfl, rfl, .inl ⟨by decide, by decide⟩, _, _, rfl, rfl,
        .inl ⟨_, rfl, _, _, rfl, rfl, (by decide : (0 : Int) < 2147483399), _, rfl, j, _, 1, 1, rfl, rfl, h1, rfl, ?_⟩⟩⟩
      refine ⟨_, rfl, _, _, _, _, rfl, rfl, SqL.of upd_same, at1 _ _ _, _, _, rfl, rfl, ⟨by decide, by decide⟩, .inl ⟨_, rfl, _, rfl, _, _, rfl, rfl, t0, ?_⟩⟩
      refine k _ _ (Int.emod_nonneg _ (by omega)) (Int.emod_lt_of_pos _ t0) (fun x o nx e => ?_) ⟨a, _, c + 1, upd_same, a0, Int.emod_nonneg _ (by decide), Int.emod_lt_of_pos _ (by decide), by omega, by omega⟩
      rw [upd_ne nx, upd_ne nx]
      exact e
theorem scOne : FnScope ["jar", "some"] ["jar", "some"] (defScope sOne) := ⟨rfl, rfl, rfl, by decide +kernel, rfl, by decide +kernel, by decide +kernel⟩
theorem ok_one {f fD : Addr} {fd fdD : FuncData} (F : Fun K "_law_one_of" "_law_one_of" sOne f fd) (T : TxJ mg) (FD : FnOk P w K mg base CX0 1 fD fdD ["jar", "top"] spDip) (mD : mg "_law_dip" = some (.ref fD)) (kD : PySem.W.keepIn K (.ref fD) = true) (bD : Binds K fdD ["jar", "top"] []) :
    FnOk P w K mg base CX0 2 f fd ["jar", "some"] (spOne K) := by
  refine F.ok scOne (fun vs H Q E h => ?_) (fun cdv A outer s H vs Q E hr h => ?_)
  · obtain ⟨j, p, xs, n, rfl, _⟩ := h
    rfl
  · obtain ⟨j, p, xs, n, rfl, npj, hp, hx, hl, hj, hn, k⟩ := h
    have sq : SqL K H p xs ∨ SqT K H p xs := hp.elim (fun z => .inl (SqL.of z)) (fun z => .inr (SqT.of z))
    refine ⟨_, pss_one (ps_ret (pe_ix ix_seq (pv 1) (pe_call FD hr rfl mD kD bD .nil pass0 (pa_cons (pv 0) (pa_cons (pe_callB call_len_seq (by rfl) T.len PySem.boot_len (pa_cons (pv 1) pa_nil)) pa_nil))) (fun _ _ => rfl))), ?_⟩
    refine ⟨_, rfl, _, rfl, _, rfl, p, xs, rfl, sq, j, _, n, rfl, ?_, ?_, hj, hn, fun r H' r0 r1 bt hj' => ?_⟩
    · have := List.length_pos_iff.mpr hx
      omega
    · omega
    · obtain ⟨i, rfl⟩ := Int.eq_ofNat_of_zero_le r0
      have hi : i < xs.length := by omega
      have ha : atI xs ((i : Nat) : Int) = some xs[i] := atI_nat (List.getElem?_eq_getElem hi)
      have kk := k xs[i] H' (List.getElem_mem hi) bt hj'
      rcases hp with z | z
      · exact .inl ⟨p, _, _, _, rfl, rfl, SqL.of (bt _ _ npj z), ha, kk⟩
      · exact .inr (.inl ⟨p, _, _, _, rfl, rfl, SqT.of (bt _ _ npj z), ha, kk⟩)
end
end KX

set_option Elab.async false
set_option linter.all false
set_option maxRecDepth 100000
set_option maxHeartbeats 4000000
/-! ### a thing of any kind -/
namespace KX
open PySem PySem.Spec PyProof.Rows L2
abbrev sThing : Stmt := top 25
theorem same_upd {H : Hp} {p : Addr} {o : HO} (hp : H p = none) : Same H (upd H p o) := fun b u e => by
  rw [upd_ne (ne_of_none e hp)]
  exact e
theorem Dp.mono {K : PySem.W.Frag} {H H' : Hp} (s : Same H H') {v : V} {d : PyData} (h : Dp K H v d) : Dp K H' v d := by
  refine Dp.rec (motive_1 := fun v d _ => Dp K H' v d) (motive_2 := fun vs ds _ => DpAll K H' vs ds) .non (fun b => .bl b) (fun i => .int i) (fun x => .str x) (fun q _ ih => .lst (s.seq q) ih) (fun q _ ih => .tup (Evl.ex_t s q) ih) .nil (fun _ _ a b => .cons a b) h
theorem Shw.mono {K : PySem.W.Frag} {H H' : Hp} (s : Same H H') {v : V} {d : PyData} (h : Shw K H v d) : Shw K H' v d := by
  obtain ⟨h1, h2, h3, h4⟩ := h
  refine ⟨h1, h2, h3, ?_⟩
  rcases h4 with ⟨a, b⟩ | ⟨a, p, b, c⟩
  · exact .inl ⟨a, Dp.mono s b⟩
  · exact .inr ⟨a, p, b, s _ _ c⟩
/-- a written datum, shown in few signs -/
theorem shw_of {K : PySem.W.Frag} {H : Hp} {v : V} {d : PyData} (h : Dp K H v d) (c1 : d.showable = true) (c2 : d.shown.length ≤ 100000) (c3 : d.depth ≤ 60) (c4 : d.hasDict = false) : Shw K H v d :=
  ⟨c1, Nat.le_trans c2 (by decide), c3, .inl ⟨c4, h⟩⟩
def spThing (K : PySem.W.Frag) : Sp := fun vs H Q _ => ∃ (j : Addr) (n : Nat), vs = [.ref j] ∧ JarAt H j n ∧ n ≤ 1000 ∧ ∀ v d H', Shw K H' v d → But j H H' → Q v H'
theorem num_txt : ∀ n ∈ List.range 300, (toString (n : Int) : Str).length ≤ 3 ∧ ∀ c ∈ (toString (n : Int) : Str).cps.toList, c < 16 ^ 8 := by decide +kernel
theorem word_txt : ∀ x ∈ (["", "a", "x0", "net", "- 1/2"] : List Str), x.length ≤ 5 ∧ ∀ c ∈ x.cps.toList, c < 16 ^ 8 := by decide +kernel
theorem num_of {r m : Int} (h0 : 0 ≤ r) (h1 : r < m) (hm : m ≤ 300) : (toString r : Str).length ≤ 3 ∧ ∀ c ∈ (toString r : Str).cps.toList, c < 16 ^ 8 := by
  obtain ⟨i, rfl⟩ := Int.eq_ofNat_of_zero_le h0
  exact num_txt i (List.mem_range.mpr (by omega))
theorem small_log {r : Int} (h : r.natAbs < 2 ^ 64) : r.natAbs.log2 < 1920 := PySem.Flt.log2_lt_of (by decide) (Nat.lt_of_lt_of_le h (Nat.pow_le_pow_right (by decide) (by decide)))
theorem tupText_le (ts : List Str) : (tupleText ts).length ≤ piled ts + 3 := by
  unfold tupleText
  rw [strLen_append, strLen_append]
  have e1 : ((("(" : String) : Str)).length = 1 := rfl
  have e3 : (((if ts.length == 1 then ",)" else ")" : String) : Str)).length ≤ 2 := by split <;> decide
  rw [e1]
  by_cases h : ts = []
  · subst h
    show 1 + 0 + _ ≤ _
    omega
  · have := join_length_add ts h
    omega
theorem dec_le {n : Nat} (h : n ≤ 100000) : decide (n ≤ 100000) = true := decide_eq_true h
section
variable {P : Program} {w : World} {K : PySem.W.Frag} {mg : Str → Option Value} {base : Heap} {H : Hp}
theorem shw_int {i : Int} (h : i.natAbs < 2 ^ 128) : Shw K H (.int i) (.int i) := by
  have l : i.natAbs.log2 < 1920 := PySem.Flt.log2_lt_of (by decide) (Nat.lt_of_lt_of_le h (Nat.pow_le_pow_right (by decide) (by decide)))
  refine ⟨by simp [PyData.showable, l], ?_, by simp [PyData.depth], .inl ⟨by simp [PyData.hasDict], .int i⟩⟩
  simp only [PyData.shown]
  exact int_text_fits l
theorem shw_str {x : Str} (h : x.length ≤ 1000) (hc : ∀ c ∈ x.cps.toList, c < 16 ^ 8) : Shw K H (.str x) (.str x) := by
  refine ⟨by simp [PyData.showable], ?_, by simp [PyData.depth], .inl ⟨by simp [PyData.hasDict], .str x⟩⟩
  simp only [PyData.shown]
  have := StrLaws.reprText_len x hc
  exact Nat.le_trans (show _ ≤ 100000 by omega) (by decide)
theorem scThing : FnScope ["jar", "way", "some"] ["jar"] (defScope sThing) := ⟨rfl, rfl, rfl, by decide +kernel, rfl, by decide +kernel, by decide +kernel⟩
theorem ok_thing {f fD fO : Addr} {fd fdD fdO : FuncData} (F : Fun K "_law_thing" "_law_thing" sThing f fd) (FD : FnOk P w K mg base CX0 1 fD fdD ["jar", "top"] spDip) (mD : mg "_law_dip" = some (.ref fD)) (kD : PySem.W.keepIn K (.ref fD) = true) (bD : Binds K fdD ["jar", "top"] [])
    (FO : FnOk P w K mg base CX0 2 fO fdO ["jar", "some"] (spOne K)) (mO : mg "_law_one_of" = some (.ref fO)) (kO : PySem.W.keepIn K (.ref fO) = true) (bO : Binds K fdO ["jar", "some"] []) (mS : mg "str" = none) :
    FnOk P w K mg base CX0 3 f fd ["jar"] (spThing K) := by
  refine F.ok scThing (fun vs H Q E h => ?_) (fun cdv A outer s H vs Q E hr h => ?_)
  · obtain ⟨j, n, rfl, _⟩ := h
    rfl
  · obtain ⟨j, n, rfl, hj, hn, k⟩ := h
    have hr1 : Room 1 _ := hr.mono (by decide)
    refine ⟨_, pss_cons (ps_set (i := 1) scThing.nd rfl (Or.inl rfl) (pe_call FD hr1 rfl mD kD bD .nil pass0 (pa_cons (pv 0) (pa_cons pe_int pa_nil))))
      (pss_cons (ps_if (pt_cmpR op_eq (pv 1) pe_int (nomark _)) (pss_one (ps_ret (pe_op op_sub (pe_call FD hr1 rfl mD kD bD .nil pass0 (pa_cons (pv 0) (pa_cons pe_int pa_nil))) pe_int))) pss_nil)
      (pss_cons (ps_if (pt_cmpR op_eq (pv 1) pe_int (nomark _)) (pss_one (ps_ret (pe_op op_add_str (pe_call FO hr rfl mO kO bO .nil pass0 (pa_cons (pv 0) (pa_cons (pe_lst (pa_cons pe_str (pa_cons pe_str (pa_cons pe_str (pa_cons pe_str (pa_cons pe_str pa_nil)))))) pa_nil))) (pe_callTy call_str_int (by rfl) mS (by decide +kernel) (pa_cons (pe_call FD hr1 rfl mD kD bD .nil pass0 (pa_cons (pv 0) (pa_cons pe_int pa_nil))) pa_nil))))) pss_nil)
      (pss_cons (ps_if (pt_cmpR op_eq (pv 1) pe_int (nomark _)) (pss_one (ps_ret (pe_tup (pa_cons (pe_call FD hr1 rfl mD kD bD .nil pass0 (pa_cons (pv 0) (pa_cons pe_int pa_nil))) (pa_cons (pe_call FD hr1 rfl mD kD bD .nil pass0 (pa_cons (pv 0) (pa_cons pe_int pa_nil))) (pa_cons (pe_tup (pa_cons pe_non (pa_cons pe_str pa_nil))) pa_nil)))))) pss_nil)
      (pss_cons (ps_set (i := 2) scThing.nd rfl (Or.inl rfl) (pe_lst (pa_cons pe_non (pa_cons pe_bl (pa_cons pe_bl (pa_cons (pe_un un_neg pe_int) (pa_cons pe_int (pa_cons pe_int (pa_cons pe_str (pa_cons (pe_tup pa_nil) (pa_cons (pe_lst pa_nil) (pa_cons pe_dnewK (pa_cons (pe_lst (pa_cons pe_int pa_nil)) (pa_cons (pe_tup (pa_cons pe_int pa_nil)) (pa_cons (pe_tup (pa_cons pe_str (pa_cons pe_int pa_nil))) (pa_cons (pe_tup (pa_cons pe_int (pa_cons pe_int pa_nil))) (pa_cons pe_int (pa_cons (pe_tup (pa_cons (pe_tup pa_nil) pa_nil)) (pa_cons (pe_op op_pow pe_int pe_int) pa_nil)))))))))))))))))))
      (pss_one (ps_ret (pe_call FO hr rfl mO kO bO .nil pass0 (pa_cons (pv 0) (pa_cons (pv 2) pa_nil))))))))), ?_⟩
    refine ⟨_, rfl, j, _, n, rfl, by decide, by decide, hj, by omega, fun way H1 w0 w1 b1 j1 => ?_⟩
    refine ⟨_, rfl, rfl, _, rfl, ite2 (fun c => ?_) (fun c => ?_)⟩
    · refine ⟨_, rfl, j, _, _, rfl, by decide, by decide, j1, by omega, fun r H2 r0 r1 b2 _ => ⟨_, _, rfl, rfl, ?_⟩⟩
      exact k _ _ _ (shw_int (Nat.lt_of_lt_of_le (show (r - 9).natAbs < 2 ^ 16 by omega) (by decide))) (b1.trans b2)
    refine ⟨_, rfl, rfl, _, rfl, ite2 (fun c => ?_) (fun c => ?_)⟩
    · refine ⟨_, rfl, by decide, fun p hp => ?_⟩
      have npj : p ≠ j := fun z => by
        obtain ⟨_, _, _, z2, _⟩ := j1
        rw [z, z2] at hp
        cases hp
      have j1' : JarAt (upd H1 p (.lst [.str "", .str "a", .str "x0", .str "net", .str "- 1/2"])) j (n + 1) := by
        obtain ⟨x, y, z, e, q⟩ := j1
        exact ⟨x, y, z, (same_upd hp) _ _ e, q⟩
      refine ⟨j, p, _, _, rfl, npj, .inl upd_same, by simp, by decide, j1', by omega, fun x H2 hx b2 j2 => ?_⟩
      obtain ⟨y, hy, rfl⟩ : ∃ y ∈ (["", "a", "x0", "net", "- 1/2"] : List Str), x = V.str y := by
        simp only [List.mem_cons, List.not_mem_nil, or_false] at hx
        rcases hx with rfl | rfl | rfl | rfl | rfl <;> exact ⟨_, by simp, rfl⟩
      refine ⟨_, rfl, j, _, _, rfl, by decide, by decide, j2, by omega, fun r H3 r0 r1 b3 _ => ⟨_, rfl, small_log (Nat.lt_of_lt_of_le (show r.natAbs < 2 ^ 16 by omega) (by decide)), ?_⟩⟩
      have hr3 := num_of r0 r1 (by decide)
      have hy3 := word_txt y hy
      refine ⟨_, _, rfl, rfl, ?_, k _ _ _ (shw_str ?_ ?_) (b1.trans ((But.same (same_upd hp)).trans (b2.trans b3)))⟩
      · exact Nat.le_trans (show _ ≤ 100 by omega) (by decide)
      · rw [strLen_append]
        omega
      · intro c hc
        rw [Str.cps_append, Array.toList_append, List.mem_append] at hc
        exact hc.elim (hy3.2 c) (hr3.2 c)
    refine ⟨_, rfl, rfl, _, rfl, ite2 (fun c => ?_) (fun c => ?_)⟩
    · refine ⟨_, rfl, j, _, _, rfl, by decide, by decide, j1, by omega, fun r H2 r0 r1 b2 j2 => ?_⟩
      refine ⟨_, rfl, j, _, _, rfl, by decide, by decide, j2, by omega, fun q H3 q0 q1 b3 j3 => ?_⟩
      refine ⟨by decide, fun p hp => ⟨(by decide : 3 ≤ sizeLine), fun t ht => ?_⟩⟩
      have e1 : upd (upd H3 p (.tup [.non, .str "x"])) t (.tup [.int r, .int q, .ref p]) p = some (.tup [.non, .str "x"]) := (same_upd ht) _ _ upd_same
      refine k _ (.tuple [.int r, .int q, .tuple [.none, .str "x"]]) _ ?_ (b1.trans (b2.trans (b3.trans ((But.same (same_upd hp)).trans (But.same (same_upd ht))))))
      have l1 := (num_of r0 r1 (by decide)).1
      have l2 := (num_of q0 q1 (by decide)).1
      refine shw_of (.tup (SqT.of upd_same) (.cons (.int r) (.cons (.int q) (.cons (.tup (SqT.of e1) (.cons .non (.cons (.str _) .nil))) .nil)))) ?_ ?_ (by simp [PyData.depth, PyData.depthAll]) (by simp [PyData.hasDict, PyData.hasDictAll])
      · simp [PyData.showable, PyData.showableAll, small_log (Nat.lt_of_lt_of_le (show r.natAbs < 2 ^ 16 by omega) (by decide)), small_log (Nat.lt_of_lt_of_le (show q.natAbs < 2 ^ 16 by omega) (by decide))]
      · simp only [PyData.shown, PyData.shownAll]
        have l3 := tupText_le [(toString r : Str), toString q, tupleText ["None", reprText "x"]]
        have l4 : (tupleText ["None", reprText "x"]).length ≤ 100 := by decide +kernel
        rw [piled_cons, piled_cons, piled_cons, piled_nil] at l3
        omega
    · refine ⟨_, rfl, by decide, fun p1 h1 => ⟨by decide, fun p2 h2 => fun p3 h3 => ⟨by decide, fun p4 h4 => ⟨by decide, fun p5 h5 => ⟨by decide, fun p6 h6 => ⟨by decide, fun p7 h7 => ⟨by decide, fun p8 h8 => ⟨(by decide : 1 ≤ sizeLine), fun p9 h9 =>
        ⟨_, _, rfl, rfl, ⟨by decide, by decide, by decide⟩, (by decide : 17 ≤ sizeLine), fun p ph => ?_⟩⟩⟩⟩⟩⟩⟩⟩⟩
      have q9 := same_upd (o := .lst [.non, .bl true, .bl false, .int (-1), .int 0, .int 1, .str "", .ref p1, .ref p2, .ref p3, .ref p4, .ref p5, .ref p6, .ref p7, .int 4294967296, .ref p9, .int (10 ^ (30 : Int).toNat)]) ph
      have q8 := (same_upd h9).trans q9
      have q7 := (same_upd h8).trans q8
      have q6 := (same_upd h7).trans q7
      have q5 := (same_upd h6).trans q6
      have q4 := (same_upd h5).trans q5
      have q3 := (same_upd h4).trans q4
      have q2 := (same_upd h3).trans q3
      have q1 := (same_upd h2).trans q2
      have q0 := (same_upd h1).trans q1
      have a1 := q1 _ _ upd_same
      have a2 := q2 _ _ upd_same
      have a3 := q3 _ _ upd_same
      have a4 := q4 _ _ upd_same
      have a5 := q5 _ _ upd_same
      have a6 := q6 _ _ upd_same
      have a7 := q7 _ _ upd_same
      have a8 := q8 _ _ upd_same
      have a9 := q9 _ _ upd_same
      obtain ⟨x0, y0, z0, ej, jr⟩ := j1
      have ej' := q0 _ _ ej
      refine ⟨_, rfl, _, rfl, j, p, _, n + 1, rfl, ne_of upd_same ej' (by simp), .inl upd_same, by simp, (by decide : 17 < 1000000), ⟨x0, y0, z0, ej', jr⟩, by omega, fun x H2 hx b2 _ => ?_⟩
      have kk : ∀ d, Shw K H2 x d → Q x H2 := fun d hd => k x d H2 hd (b1.trans ((But.same q0).trans b2))
      have g1 := b2 _ _ (ne_of a1 ej' (by simp)) a1
      have g2 := b2 _ _ (ne_of a2 ej' (by simp)) a2
      have g3 := b2 _ _ (ne_of a3 ej' (by simp)) a3
      have g4 := b2 _ _ (ne_of a4 ej' (by simp)) a4
      have g5 := b2 _ _ (ne_of a5 ej' (by simp)) a5
      have g6 := b2 _ _ (ne_of a6 ej' (by simp)) a6
      have g7 := b2 _ _ (ne_of a7 ej' (by simp)) a7
      have g8 := b2 _ _ (ne_of a8 ej' (by simp)) a8
      have g9 := b2 _ _ (ne_of a9 ej' (by simp)) a9
      have sh : ∀ {v : V} {d : PyData}, Dp K H2 v d → d.showable = true → d.shown.length ≤ 100000 → d.depth ≤ 60 → d.hasDict = false → Shw K H2 v d := fun a b c d e => shw_of a b c d e
      simp only [List.mem_cons, List.not_mem_nil, or_false] at hx
      rcases hx with rfl | rfl | rfl | rfl | rfl | rfl | rfl | rfl | rfl | rfl | rfl | rfl | rfl | rfl | rfl | rfl | rfl
      · refine kk .none (sh .non ?_ ?_ ?_ ?_) <;> simp only [PyData.shown, PyData.shownAll, PyData.showable, PyData.showableAll, PyData.depth, PyData.depthAll, PyData.hasDict, PyData.hasDictAll] <;> decide +kernel
      · refine kk (.bool true) (sh (.bl _) ?_ ?_ ?_ ?_) <;> simp only [PyData.shown, PyData.shownAll, PyData.showable, PyData.showableAll, PyData.depth, PyData.depthAll, PyData.hasDict, PyData.hasDictAll] <;> decide +kernel
      · refine kk (.bool false) (sh (.bl _) ?_ ?_ ?_ ?_) <;> simp only [PyData.shown, PyData.shownAll, PyData.showable, PyData.showableAll, PyData.depth, PyData.depthAll, PyData.hasDict, PyData.hasDictAll] <;> decide +kernel
      · exact kk _ (shw_int (by decide))
      · exact kk _ (shw_int (by decide))
      · exact kk _ (shw_int (by decide))
      · exact kk _ (shw_str (by decide) (by decide))
      · refine kk (.tuple []) (sh (.tup (SqT.of g1) .nil) ?_ ?_ ?_ ?_) <;> simp only [PyData.shown, PyData.shownAll, PyData.showable, PyData.showableAll, PyData.depth, PyData.depthAll, PyData.hasDict, PyData.hasDictAll] <;> decide +kernel
      · refine kk (.list []) (sh (.lst (SqL.of g2) .nil) ?_ ?_ ?_ ?_) <;> simp only [PyData.shown, PyData.shownAll, PyData.showable, PyData.showableAll, PyData.depth, PyData.depthAll, PyData.hasDict, PyData.hasDictAll] <;> decide +kernel
      · refine kk (.dict []) ⟨?_, ?_, ?_, .inr ⟨rfl, p3, rfl, g3⟩⟩
        · simp [PyData.showable, PyData.showableKv]
        · refine Nat.le_trans (m := 100000) ?_ (by decide)
          simp only [PyData.shown, PyData.shownKv]
          decide +kernel
        · simp [PyData.depth, PyData.depthKv]
      · refine kk (.list [.int 1]) (sh (.lst (SqL.of g4) (.cons (.int _) .nil)) ?_ ?_ ?_ ?_) <;> simp only [PyData.shown, PyData.shownAll, PyData.showable, PyData.showableAll, PyData.depth, PyData.depthAll, PyData.hasDict, PyData.hasDictAll] <;> decide +kernel
      · refine kk (.tuple [.int 0]) (sh (.tup (SqT.of g5) (.cons (.int _) .nil)) ?_ ?_ ?_ ?_) <;> simp only [PyData.shown, PyData.shownAll, PyData.showable, PyData.showableAll, PyData.depth, PyData.depthAll, PyData.hasDict, PyData.hasDictAll] <;> decide +kernel
      · refine kk (.tuple [.str "x", .int 0]) (sh (.tup (SqT.of g6) (.cons (.str _) (.cons (.int _) .nil))) ?_ ?_ ?_ ?_) <;> simp only [PyData.shown, PyData.shownAll, PyData.showable, PyData.showableAll, PyData.depth, PyData.depthAll, PyData.hasDict, PyData.hasDictAll] <;> decide +kernel
      · refine kk (.tuple [.int 1, .int 2]) (sh (.tup (SqT.of g7) (.cons (.int _) (.cons (.int _) .nil))) ?_ ?_ ?_ ?_) <;> simp only [PyData.shown, PyData.shownAll, PyData.showable, PyData.showableAll, PyData.depth, PyData.depthAll, PyData.hasDict, PyData.hasDictAll] <;> decide +kernel
      · exact kk _ (shw_int (by decide))
      · refine kk (.tuple [.tuple []]) (sh (.tup (SqT.of g9) (.cons (.tup (SqT.of g8) .nil) .nil)) ?_ ?_ ?_ ?_) <;> simp only [PyData.shown, PyData.shownAll, PyData.showable, PyData.showableAll, PyData.depth, PyData.depthAll, PyData.hasDict, PyData.hasDictAll] <;> decide +kernel
      · exact kk _ (shw_int (by decide))
end
end KX

set_option Elab.async false
set_option linter.all false
set_option maxRecDepth 100000
set_option maxHeartbeats 4000000
/-! ### the errors of the law -/
namespace KX
open PySem PySem.Spec PyProof.Rows L2
abbrev sGiven : Stmt := top 26
abbrev sIndexed : Stmt := top 27
abbrev sUnder : Stmt := top 28
abbrev sStands : Stmt := top 29
abbrev sBase : Stmt := top 30
abbrev sRight : Stmt := top 31
abbrev sLaw : Stmt := top 32
def fieldOf (i : Nat) : Str := if i < 14 then "given" else if i < 18 then "index" else "place"
def ourOther : List String := ["LookupError", "TypeError", "ArithmeticError", "RuntimeError", "AttributeError"]
structure TxE (K : PySem.W.Frag) (mg : Str → Option Value) (cs fs : Nat → Addr) (fds : Nat → FuncData) : Prop where
  m0 : mg "InvalidNet" = some (.ref (cs 0))
  m1 : mg "InvalidNumber" = some (.ref (cs 1))
  m2 : mg "InvalidFraction" = some (.ref (cs 2))
  m3 : mg "InvalidPolynomial" = some (.ref (cs 3))
  m4 : mg "InvalidOrder" = some (.ref (cs 4))
  m5 : mg "InvalidTable" = some (.ref (cs 5))
  m6 : mg "InvalidSeries" = some (.ref (cs 6))
  m7 : mg "InvalidRow" = some (.ref (cs 7))
  m8 : mg "InvalidField" = some (.ref (cs 8))
  m9 : mg "InvalidLook" = some (.ref (cs 9))
  m10 : mg "InvalidKind" = some (.ref (cs 10))
  m11 : mg "InvalidChoice" = some (.ref (cs 11))
  m12 : mg "InvalidRenaming" = some (.ref (cs 12))
  m13 : mg "TooMany" = some (.ref (cs 13))
  m14 : mg "InvalidAssignment" = some (.ref (cs 14))
  m15 : mg "InvalidFillings" = some (.ref (cs 15))
  m16 : mg "InvalidText" = some (.ref (cs 16))
  m17 : mg "InvalidLines" = some (.ref (cs 17))
  m18 : mg "InvalidWriting" = some (.ref (cs 18))
  m19 : mg "RateError" = some (.ref (cs 19))
  t : ∀ i, i < 19 → ExcT K (cs i) (fs i) (fds i) (fieldOf i)
  x : ∀ i, i < 20 → ExcC K (cs i)
  kit : ∀ i j, i < 20 → j < 20 → PySem.W.kitOne K (.ref (cs i)) (.ref (cs j)) = some (decide (i = j) || decide (j = 19))
  kv : ∀ i, i < 20 → PySem.W.kitOne K (.ref (cs i)) (.type "ValueError") = some true
  ke : ∀ i, i < 20 → PySem.W.kitOne K (.ref (cs i)) (.type "Exception") = some true
  ko : ∀ i, i < 20 → ∀ n ∈ ourOther, PySem.W.kitOne K (.ref (cs i)) (.type n) = some false
  k0 : PySem.W.excIn K (cs 19) HandSPX.veTail "ValueError.__new__" = true
  kp : PySem.W.keepIn K (.ref (cs 19)) = true
  zisinstance : mg "isinstance" = none
  zenumerate : mg "enumerate" = none
  zrepr : mg "repr" = none
  zValueError : mg "ValueError" = none
  zException : mg "Exception" = none
  zLookupError : mg "LookupError" = none
  zTypeError : mg "TypeError" = none
  zArithmeticError : mg "ArithmeticError" = none
  zRuntimeError : mg "RuntimeError" = none
  zAttributeError : mg "AttributeError" = none

def ErrAt (H : Hp) (a C : Addr) (f : Str) (v : V) : Prop := ∃ dx, H a = some (exo a C (some dx)) ∧ H dx = some (exd dx [(f, v)])
theorem ErrAt.mono {H H' : Hp} {a C : Addr} {f : Str} {v : V} (s : Same H H') (h : ErrAt H a C f v) : ErrAt H' a C f v := by
  obtain ⟨dx, h1, h2⟩ := h
  exact ⟨dx, s _ _ h1, s _ _ h2⟩
abbrev ErrsAt (H : Hp) (f : Str) (v : V) : List Addr → List Addr → Prop := Paired fun a C => ErrAt H a C f v
/-- making errors, one of each class, all else as it was -/
def EvE (ta : TA) (σ : L2.St) (H : Hp) (Cs : List Addr) (f : Str) (v : V) : Prop := ∀ H1, Same H H1 → ∀ Q : List V → Hp → Prop, (∀ as H2, Same H1 H2 → ErrsAt H2 f v as Cs → Q (as.map V.ref) H2) → ta σ H1 Q
section
variable {σ : L2.St} {H : Hp} {C : Addr} {Cs : List Addr} {f : Str} {v : V} {tr : TA}
theorem evE_nil : EvE tNil σ H [] f v := fun H1 _ Q q => q [] H1 (Same.refl _) .nil
theorem evE_cons {i : Nat} (hs : σ[i]? = some (some v)) (h : EvE tr σ H Cs f v) : EvE (tCons (tExc C f (tCons (tVar i) tNil)) tr) σ H (C :: Cs) f v := fun H1 e Q q =>
  ⟨v, hs, v, rfl, fun a dx H2 _ _ s2 h1 h2 => h H2 (e.trans s2) _ fun as H3 s3 r => q (a :: as) H3 (s2.trans s3) (.cons ⟨dx, s3 _ _ h1, s3 _ _ h2⟩ r)⟩
end
def csGiven (cs : Nat → Addr) : List Addr := [cs 0, cs 0, cs 1, cs 1, cs 2, cs 2, cs 3, cs 3, cs 4, cs 4, cs 5, cs 5, cs 6, cs 6, cs 7, cs 7, cs 8, cs 8, cs 9, cs 9, cs 10, cs 10, cs 11, cs 11, cs 12, cs 12, cs 13, cs 13]
def csIndexed (cs : Nat → Addr) : List Addr := [cs 14, cs 14, cs 15, cs 15, cs 16, cs 16, cs 17, cs 17]
theorem evE_ret {σ : L2.St} {H : Hp} {Cs : List Addr} {f : Str} {v : V} {t : TA} {D : Ends} (h : EvE t σ H Cs f v) (hl : Cs.length ≤ 1000) (k : ∀ p as H', Same H H' → H' p = some (.lst (as.map V.ref)) → ErrsAt H' f v as Cs → D.rt (.ref p) H') : tRet (tLst t) D σ H :=
  h H (Same.refl _) _ fun as H2 s2 r => ⟨by rw [List.length_map, Paired.length r]; exact Nat.le_trans hl (by decide), fun p hp => k p as _ (s2.trans (same_upd hp)) upd_same (Paired.mapP r fun a C z => z.mono (same_upd hp))⟩
def spErrs (Cs : List Addr) (f : Str) : Sp := fun vs H Q _ => ∃ v, vs = [v] ∧ ∀ p as H', Same H H' → H' p = some (.lst (as.map V.ref)) → ErrsAt H' f v as Cs → Q (.ref p) H'
section
variable {P : Program} {w : World} {K : PySem.W.Frag} {mg : Str → Option Value} {base : Heap} {cs fs : Nat → Addr} {fds : Nat → FuncData}
/-- what the classes' own __init__ promise -/
abbrev Inits (P : Program) (w : World) (K : PySem.W.Frag) (mg : Str → Option Value) (base : Heap) (cs fs : Nat → Addr) (fds : Nat → FuncData) : Prop :=
  ∀ i, i < 19 → FnOk P w K mg base CX0 1 (fs i) (fds i) ["self", fieldOf i] (spEI (cs i) (fieldOf i))
theorem scGiven : FnScope ["thing"] ["thing"] (defScope sGiven) := ⟨rfl, rfl, rfl, by decide +kernel, rfl, by decide +kernel, by decide +kernel⟩
theorem ok_given {f : Addr} {fd : FuncData} (F : Fun K "_law_given" "_law_given" sGiven f fd) (T : TxE K mg cs fs fds) (G : Inits P w K mg base cs fs fds) : FnOk P w K mg base CX0 3 f fd ["thing"] (spErrs (csGiven cs) "given") := by
  refine F.ok scGiven (fun vs H Q E h => ?_) (fun cdv A outer s H vs Q E hr h => ?_)
  · obtain ⟨v, rfl, _⟩ := h
    rfl
  · obtain ⟨v, rfl, k⟩ := h
    have hr1 : Room 2 _ := hr.mono (by decide)
    refine ⟨_, pss_one (ps_ret (pe_lst (pa_cons (pe_exc1 (f := "given") (T.t 0 (by decide)) (G 0 (by decide)) hr1 rfl T.m0 (pa_cons (pv 0) pa_nil)) (pa_cons (pe_excK (f := "given") (T.t 0 (by decide)) (G 0 (by decide)) hr1 rfl T.m0 (pk_cons (pv 0) pk_nil)) (pa_cons (pe_exc1 (f := "given") (T.t 1 (by decide)) (G 1 (by decide)) hr1 rfl T.m1 (pa_cons (pv 0) pa_nil)) (pa_cons (pe_excK (f := "given") (T.t 1 (by decide)) (G 1 (by decide)) hr1 rfl T.m1 (pk_cons (pv 0) pk_nil)) (pa_cons (pe_exc1 (f := "given") (T.t 2 (by decide)) (G 2 (by decide)) hr1 rfl T.m2 (pa_cons (pv 0) pa_nil)) (pa_cons (pe_excK (f := "given") (T.t 2 (by decide)) (G 2 (by decide)) hr1 rfl T.m2 (pk_cons (pv 0) pk_nil)) (pa_cons (pe_exc1 (f := "given") (T.t 3 (by decide)) (G 3 (by decide)) hr1 rfl T.m3 (pa_cons (pv 0) pa_nil)) (pa_cons (pe_excK (f := "given") (T.t 3 (by decide)) (G 3 (by decide)) hr1 rfl T.m3 (pk_cons (pv 0) pk_nil)) (pa_cons (pe_exc1 (f := "given") (T.t 4 (by decide)) (G 4 (by decide)) hr1 rfl T.m4 (pa_cons (pv 0) pa_nil)) (pa_cons (pe_excK (f := "given") (T.t 4 (by decide)) (G 4 (by decide)) hr1 rfl T.m4 (pk_cons (pv 0) pk_nil)) (pa_cons (pe_exc1 (f := "given") (T.t 5 (by decide)) (G 5 (by decide)) hr1 rfl T.m5 (pa_cons (pv 0) pa_nil)) (pa_cons (pe_excK (f := "given") (T.t 5 (by decide)) (G 5 (by decide)) hr1 rfl T.m5 (pk_cons (pv 0) pk_nil)) (pa_cons (pe_exc1 (f := "given") (T.t 6 (by decide)) (G 6 (by decide)) hr1 rfl T.m6 (pa_cons (pv 0) pa_nil)) (pa_cons (pe_excK (f := "given") (T.t 6 (by decide)) (G 6 (by decide)) hr1 rfl T.m6 (pk_cons (pv 0) pk_nil)) (pa_cons (pe_exc1 (f := "given") (T.t 7 (by decide)) (G 7 (by decide)) hr1 rfl T.m7 (pa_cons (pv 0) pa_nil)) (pa_cons (pe_excK (f := "given") (T.t 7 (by decide)) (G 7 (by decide)) hr1 rfl T.m7 (pk_cons (pv 0) pk_nil)) (pa_cons (pe_exc1 (f := "given") (T.t 8 (by decide)) (G 8 (by decide)) hr1 rfl T.m8 (pa_cons (pv 0) pa_nil)) (pa_cons (pe_excK (f := "given") (T.t 8 (by decide)) (G 8 (by decide)) hr1 rfl T.m8 (pk_cons (pv 0) pk_nil)) (pa_cons (pe_exc1 (f := "given") (T.t 9 (by decide)) (G 9 (by decide)) hr1 rfl T.m9 (pa_cons (pv 0) pa_nil)) (pa_cons (pe_excK (f := "given") (T.t 9 (by decide)) (G 9 (by decide)) hr1 rfl T.m9 (pk_cons (pv 0) pk_nil)) (pa_cons (pe_exc1 (f := "given") (T.t 10 (by decide)) (G 10 (by decide)) hr1 rfl T.m10 (pa_cons (pv 0) pa_nil)) (pa_cons (pe_excK (f := "given") (T.t 10 (by decide)) (G 10 (by decide)) hr1 rfl T.m10 (pk_cons (pv 0) pk_nil)) (pa_cons (pe_exc1 (f := "given") (T.t 11 (by decide)) (G 11 (by decide)) hr1 rfl T.m11 (pa_cons (pv 0) pa_nil)) (pa_cons (pe_excK (f := "given") (T.t 11 (by decide)) (G 11 (by decide)) hr1 rfl T.m11 (pk_cons (pv 0) pk_nil)) (pa_cons (pe_exc1 (f := "given") (T.t 12 (by decide)) (G 12 (by decide)) hr1 rfl T.m12 (pa_cons (pv 0) pa_nil)) (pa_cons (pe_excK (f := "given") (T.t 12 (by decide)) (G 12 (by decide)) hr1 rfl T.m12 (pk_cons (pv 0) pk_nil)) (pa_cons (pe_exc1 (f := "given") (T.t 13 (by decide)) (G 13 (by decide)) hr1 rfl T.m13 (pa_cons (pv 0) pa_nil)) (pa_cons (pe_excK (f := "given") (T.t 13 (by decide)) (G 13 (by decide)) hr1 rfl T.m13 (pk_cons (pv 0) pk_nil)) pa_nil)))))))))))))))))))))))))))))), ?_⟩
    exact evE_ret (Cs := csGiven cs) (f := "given") (v := v) (evE_cons (i := 0) rfl (evE_cons (i := 0) rfl (evE_cons (i := 0) rfl (evE_cons (i := 0) rfl (evE_cons (i := 0) rfl (evE_cons (i := 0) rfl (evE_cons (i := 0) rfl (evE_cons (i := 0) rfl (evE_cons (i := 0) rfl (evE_cons (i := 0) rfl (evE_cons (i := 0) rfl (evE_cons (i := 0) rfl (evE_cons (i := 0) rfl (evE_cons (i := 0) rfl (evE_cons (i := 0) rfl (evE_cons (i := 0) rfl (evE_cons (i := 0) rfl (evE_cons (i := 0) rfl (evE_cons (i := 0) rfl (evE_cons (i := 0) rfl (evE_cons (i := 0) rfl (evE_cons (i := 0) rfl (evE_cons (i := 0) rfl (evE_cons (i := 0) rfl (evE_cons (i := 0) rfl (evE_cons (i := 0) rfl (evE_cons (i := 0) rfl (evE_cons (i := 0) rfl evE_nil)))))))))))))))))))))))))))) (by show 28 ≤ 1000; decide) k
theorem scIndexed : FnScope ["thing"] ["thing"] (defScope sIndexed) := ⟨rfl, rfl, rfl, by decide +kernel, rfl, by decide +kernel, by decide +kernel⟩
theorem ok_indexed {f : Addr} {fd : FuncData} (F : Fun K "_law_indexed" "_law_indexed" sIndexed f fd) (T : TxE K mg cs fs fds) (G : Inits P w K mg base cs fs fds) : FnOk P w K mg base CX0 3 f fd ["thing"] (spErrs (csIndexed cs) "index") := by
  refine F.ok scIndexed (fun vs H Q E h => ?_) (fun cdv A outer s H vs Q E hr h => ?_)
  · obtain ⟨v, rfl, _⟩ := h
    rfl
  · obtain ⟨v, rfl, k⟩ := h
    have hr1 : Room 2 _ := hr.mono (by decide)
    refine ⟨_, pss_one (ps_ret (pe_lst (pa_cons (pe_exc1 (f := "index") (T.t 14 (by decide)) (G 14 (by decide)) hr1 rfl T.m14 (pa_cons (pv 0) pa_nil)) (pa_cons (pe_excK (f := "index") (T.t 14 (by decide)) (G 14 (by decide)) hr1 rfl T.m14 (pk_cons (pv 0) pk_nil)) (pa_cons (pe_exc1 (f := "index") (T.t 15 (by decide)) (G 15 (by decide)) hr1 rfl T.m15 (pa_cons (pv 0) pa_nil)) (pa_cons (pe_excK (f := "index") (T.t 15 (by decide)) (G 15 (by decide)) hr1 rfl T.m15 (pk_cons (pv 0) pk_nil)) (pa_cons (pe_exc1 (f := "index") (T.t 16 (by decide)) (G 16 (by decide)) hr1 rfl T.m16 (pa_cons (pv 0) pa_nil)) (pa_cons (pe_excK (f := "index") (T.t 16 (by decide)) (G 16 (by decide)) hr1 rfl T.m16 (pk_cons (pv 0) pk_nil)) (pa_cons (pe_exc1 (f := "index") (T.t 17 (by decide)) (G 17 (by decide)) hr1 rfl T.m17 (pa_cons (pv 0) pa_nil)) (pa_cons (pe_excK (f := "index") (T.t 17 (by decide)) (G 17 (by decide)) hr1 rfl T.m17 (pk_cons (pv 0) pk_nil)) pa_nil)))))))))), ?_⟩
    exact evE_ret (Cs := csIndexed cs) (f := "index") (v := v) (evE_cons (i := 0) rfl (evE_cons (i := 0) rfl (evE_cons (i := 0) rfl (evE_cons (i := 0) rfl (evE_cons (i := 0) rfl (evE_cons (i := 0) rfl (evE_cons (i := 0) rfl (evE_cons (i := 0) rfl evE_nil)))))))) (by show 8 ≤ 1000; decide) k
/-- an error of the class with a number, of whatever fields -/
def AnErr (K : PySem.W.Frag) (H : Hp) (a C : Addr) : Prop := ∃ d, H a = some (exo a C d) ∧ (∀ dx, d = some dx → ∃ fs, H dx = some (exd dx fs)) ∧ ExcC K C
theorem AnErr.mono {H H' : Hp} {a C : Addr} (s : Same H H') (h : AnErr K H a C) : AnErr K H' a C := by
  obtain ⟨d, h1, h2, h3⟩ := h
  exact ⟨d, s _ _ h1, fun dx e => (h2 dx e).imp fun fs z => s _ _ z, h3⟩
theorem AnErr.of {H : Hp} {a C : Addr} {f : Str} {v : V} (h : ErrAt H a C f v) (e : ExcC K C) : AnErr K H a C := by
  obtain ⟨dx, h1, h2⟩ := h
  refine ⟨some dx, h1, fun y q => ?_, e⟩
  cases q
  exact ⟨_, h2⟩
theorem ev_isX {σ : L2.St} {H : Hp} {a C : Addr} {c : V} {cv : Value} {b : Bool} (hs : σ[0]? = some (some (.ref a))) (h : AnErr K H a C) (hc : ClsV c cv) (hk : PySem.W.kitOne K (.ref C) cv = some b) :
    Evl.Ev (tCB (rIsX K) (tCons (tVar 0) (tCons (tC c) tNil))) σ H (.bl b) := fun H1 e Q q => by
  obtain ⟨d, h1, h2, h3⟩ := h.mono e
  exact ⟨_, hs, a, C, d, c, cv, b, rfl, h1, h2, h3, hc, hk, q H1 (Evl.Ex.refl _)⟩
theorem el_cat {σ : L2.St} {H : Hp} {ta tb : TE} {p : Addr} {xs ys : List V} (ha : Evl.Ev ta σ H (.ref p)) (hp : H p = some (.lst xs)) (hb : Evl.EvL tb σ H ys) (hl : xs.length + ys.length ≤ 1000) : Evl.EvL (tOp rCat ta tb) σ H (xs ++ ys) := fun H1 e Q q =>
  ha H1 e _ fun H2 e2 => hb H2 (e.trans e2) _ fun y H3 hy e3 h3 => ⟨p, y, xs, ys, rfl, rfl, (e.trans (e2.trans e3)) _ _ hp, h3, Nat.le_trans hl (by decide), fun z hz => q z _ (Evl.fresh_back (e2.trans e3) hz) ((e2.trans e3).trans (Evl.Ex.new hz)) upd_same⟩
def underOf (i : Nat) : List V := if i = 19 then [.int 19] else [.int i, .int 19]
def bits (i : Nat) : List V := (List.range 20).map fun j => .bl (decide (i = j) || decide (j = 19))
theorem lst_shaped (i j : Int) : SeqAt.shaped (.list [.int i, .int j]) = true := by simp [SeqAt.shaped, PyData.canLay0, PyData.canLayAll0, PyData.depth, PyData.depthAll]
theorem lst_eqv (i j : Int) : PyData.eqv (.list [.int i, .int j]) (.list [.int i, .int j]) = true := by simp [PyData.eqv, PyData.eqvAll]
def spUnder (K : PySem.W.Frag) (cs : Nat → Addr) : Sp := fun vs H Q _ => ∃ a i, vs = [.ref a] ∧ i < 20 ∧ AnErr K H a (cs i) ∧ ∀ p H', Same H H' → H' p = some (.lst (underOf i)) → Q (.ref p) H'
theorem under_bits : ∀ i ∈ List.range 20, underOf i = ((List.range 20).filter fun j => decide (i = j) || decide (j = 19)).map fun j => V.int (j : Nat) := by decide +kernel
theorem scUnder : FnScope ["error", "found", "at", "is_so"] ["error"] (defScope sUnder) := ⟨rfl, rfl, rfl, by decide +kernel, rfl, by decide +kernel, by decide +kernel⟩
theorem ok_under {f : Addr} {fd : FuncData} (F : Fun K "_law_under" "_law_under" sUnder f fd) (T : TxE K mg cs fs fds) : FnOk P w K mg base CX0 1 f fd ["error"] (spUnder K cs) := by
  refine F.ok scUnder (fun vs H Q E h => ?_) (fun cdv A outer s H vs Q E hr h => ?_)
  · obtain ⟨a, i, rfl, _⟩ := h
    rfl
  · obtain ⟨a, i, rfl, hi, ha, k⟩ := h
    refine ⟨_, (pss_cons (ps_set (i := 1) scUnder.nd rfl (Or.inl rfl) (pe_lst (pa_cons (pe_callB call_isX (by rfl) T.zisinstance (by decide +kernel) (pa_cons (pv 0) (pa_cons (pe_glob (v := .ref (cs 0)) rfl T.m0 rfl) pa_nil))) (pa_cons (pe_callB call_isX (by rfl) T.zisinstance (by decide +kernel) (pa_cons (pv 0) (pa_cons (pe_glob (v := .ref (cs 1)) rfl T.m1 rfl) pa_nil))) (pa_cons (pe_callB call_isX (by rfl) T.zisinstance (by decide +kernel) (pa_cons (pv 0) (pa_cons (pe_glob (v := .ref (cs 2)) rfl T.m2 rfl) pa_nil))) pa_nil)))))
      (pss_cons (ps_set (i := 1) scUnder.nd rfl (Or.inl rfl) (pe_op op_cat (pv 1) (pe_lst (pa_cons (pe_callB call_isX (by rfl) T.zisinstance (by decide +kernel) (pa_cons (pv 0) (pa_cons (pe_glob (v := .ref (cs 3)) rfl T.m3 rfl) pa_nil))) (pa_cons (pe_callB call_isX (by rfl) T.zisinstance (by decide +kernel) (pa_cons (pv 0) (pa_cons (pe_glob (v := .ref (cs 4)) rfl T.m4 rfl) pa_nil))) pa_nil)))))
      (pss_cons (ps_set (i := 1) scUnder.nd rfl (Or.inl rfl) (pe_op op_cat (pv 1) (pe_lst (pa_cons (pe_callB call_isX (by rfl) T.zisinstance (by decide +kernel) (pa_cons (pv 0) (pa_cons (pe_glob (v := .ref (cs 5)) rfl T.m5 rfl) pa_nil))) (pa_cons (pe_callB call_isX (by rfl) T.zisinstance (by decide +kernel) (pa_cons (pv 0) (pa_cons (pe_glob (v := .ref (cs 6)) rfl T.m6 rfl) pa_nil))) (pa_cons (pe_callB call_isX (by rfl) T.zisinstance (by decide +kernel) (pa_cons (pv 0) (pa_cons (pe_glob (v := .ref (cs 7)) rfl T.m7 rfl) pa_nil))) pa_nil))))))
      (pss_cons (ps_set (i := 1) scUnder.nd rfl (Or.inl rfl) (pe_op op_cat (pv 1) (pe_lst (pa_cons (pe_callB call_isX (by rfl) T.zisinstance (by decide +kernel) (pa_cons (pv 0) (pa_cons (pe_glob (v := .ref (cs 8)) rfl T.m8 rfl) pa_nil))) (pa_cons (pe_callB call_isX (by rfl) T.zisinstance (by decide +kernel) (pa_cons (pv 0) (pa_cons (pe_glob (v := .ref (cs 9)) rfl T.m9 rfl) pa_nil))) (pa_cons (pe_callB call_isX (by rfl) T.zisinstance (by decide +kernel) (pa_cons (pv 0) (pa_cons (pe_glob (v := .ref (cs 10)) rfl T.m10 rfl) pa_nil))) pa_nil))))))
      (pss_cons (ps_set (i := 1) scUnder.nd rfl (Or.inl rfl) (pe_op op_cat (pv 1) (pe_lst (pa_cons (pe_callB call_isX (by rfl) T.zisinstance (by decide +kernel) (pa_cons (pv 0) (pa_cons (pe_glob (v := .ref (cs 11)) rfl T.m11 rfl) pa_nil))) (pa_cons (pe_callB call_isX (by rfl) T.zisinstance (by decide +kernel) (pa_cons (pv 0) (pa_cons (pe_glob (v := .ref (cs 12)) rfl T.m12 rfl) pa_nil))) (pa_cons (pe_callB call_isX (by rfl) T.zisinstance (by decide +kernel) (pa_cons (pv 0) (pa_cons (pe_glob (v := .ref (cs 13)) rfl T.m13 rfl) pa_nil))) pa_nil))))))
      (pss_cons (ps_set (i := 1) scUnder.nd rfl (Or.inl rfl) (pe_op op_cat (pv 1) (pe_lst (pa_cons (pe_callB call_isX (by rfl) T.zisinstance (by decide +kernel) (pa_cons (pv 0) (pa_cons (pe_glob (v := .ref (cs 14)) rfl T.m14 rfl) pa_nil))) (pa_cons (pe_callB call_isX (by rfl) T.zisinstance (by decide +kernel) (pa_cons (pv 0) (pa_cons (pe_glob (v := .ref (cs 15)) rfl T.m15 rfl) pa_nil))) pa_nil)))))
      (pss_cons (ps_set (i := 1) scUnder.nd rfl (Or.inl rfl) (pe_op op_cat (pv 1) (pe_lst (pa_cons (pe_callB call_isX (by rfl) T.zisinstance (by decide +kernel) (pa_cons (pv 0) (pa_cons (pe_glob (v := .ref (cs 16)) rfl T.m16 rfl) pa_nil))) (pa_cons (pe_callB call_isX (by rfl) T.zisinstance (by decide +kernel) (pa_cons (pv 0) (pa_cons (pe_glob (v := .ref (cs 17)) rfl T.m17 rfl) pa_nil))) (pa_cons (pe_callB call_isX (by rfl) T.zisinstance (by decide +kernel) (pa_cons (pv 0) (pa_cons (pe_glob (v := .ref (cs 18)) rfl T.m18 rfl) pa_nil))) pa_nil))))))
      (pss_cons (ps_set (i := 1) scUnder.nd rfl (Or.inl rfl) (pe_op op_cat (pv 1) (pe_lst (pa_cons (pe_callB call_isX (by rfl) T.zisinstance (by decide +kernel) (pa_cons (pv 0) (pa_cons (pe_glob (v := .ref (cs 19)) rfl T.m19 rfl) pa_nil))) pa_nil))))
      (pss_one (ps_ret (pe_lc (own := [("at", 2), ("is_so", 3)]) (g := gTup K 2 (gCons (gName 2) (gCons (gName 3) gNil))) rfl scUnder.nd (pi_enum (by rfl) T.zenumerate (pa_cons (pv 1) pa_nil)) (blkOk_by (N := ["error", "found", "at", "is_so"]) (sc := defScope sUnder) (by decide +kernel))
        (fun _ _ _ _ _ => by exact pg_tup rfl (pgs_cons (pg_name (i := 2) scUnder.nd rfl (Or.inl rfl)) (pgs_cons (pg_name (i := 3) scUnder.nd rfl (Or.inl rfl)) pgs_nil))) (fun _ _ _ _ _ => pts_one (pt_val (pv 3))) (fun _ _ _ _ _ => pv 2)))))))))))), ?_⟩
    have ha0 := ha
    refine Evl.q_asgL (Evl.el_lst (Evl.ea_cons (ev_isX rfl ha0 (.own _) (T.kit i 0 hi (by decide))) (Evl.ea_cons (ev_isX rfl ha0 (.own _) (T.kit i 1 hi (by decide))) (Evl.ea_cons (ev_isX rfl ha0 (.own _) (T.kit i 2 hi (by decide))) Evl.ea_nil))) (by show 3 ≤ 100000; decide)) fun p0 H0 n0 e0 h0 => ?_
    have ha1 := ha0.mono e0
    refine Evl.q_asgL (el_cat (Evl.ev_var rfl) h0 (Evl.el_lst (Evl.ea_cons (ev_isX rfl ha1 (.own _) (T.kit i 3 hi (by decide))) (Evl.ea_cons (ev_isX rfl ha1 (.own _) (T.kit i 4 hi (by decide))) Evl.ea_nil)) (by show 2 ≤ 100000; decide)) (by show 5 ≤ 1000; decide)) fun p1 H1 n1 e1 h1 => ?_
    have ha2 := ha1.mono e1
    refine Evl.q_asgL (el_cat (Evl.ev_var rfl) h1 (Evl.el_lst (Evl.ea_cons (ev_isX rfl ha2 (.own _) (T.kit i 5 hi (by decide))) (Evl.ea_cons (ev_isX rfl ha2 (.own _) (T.kit i 6 hi (by decide))) (Evl.ea_cons (ev_isX rfl ha2 (.own _) (T.kit i 7 hi (by decide))) Evl.ea_nil))) (by show 3 ≤ 100000; decide)) (by show 8 ≤ 1000; decide)) fun p2 H2 n2 e2 h2 => ?_
    have ha3 := ha2.mono e2
    refine Evl.q_asgL (el_cat (Evl.ev_var rfl) h2 (Evl.el_lst (Evl.ea_cons (ev_isX rfl ha3 (.own _) (T.kit i 8 hi (by decide))) (Evl.ea_cons (ev_isX rfl ha3 (.own _) (T.kit i 9 hi (by decide))) (Evl.ea_cons (ev_isX rfl ha3 (.own _) (T.kit i 10 hi (by decide))) Evl.ea_nil))) (by show 3 ≤ 100000; decide)) (by show 11 ≤ 1000; decide)) fun p3 H3 n3 e3 h3 => ?_
    have ha4 := ha3.mono e3
    refine Evl.q_asgL (el_cat (Evl.ev_var rfl) h3 (Evl.el_lst (Evl.ea_cons (ev_isX rfl ha4 (.own _) (T.kit i 11 hi (by decide))) (Evl.ea_cons (ev_isX rfl ha4 (.own _) (T.kit i 12 hi (by decide))) (Evl.ea_cons (ev_isX rfl ha4 (.own _) (T.kit i 13 hi (by decide))) Evl.ea_nil))) (by show 3 ≤ 100000; decide)) (by show 14 ≤ 1000; decide)) fun p4 H4 n4 e4 h4 => ?_
    have ha5 := ha4.mono e4
    refine Evl.q_asgL (el_cat (Evl.ev_var rfl) h4 (Evl.el_lst (Evl.ea_cons (ev_isX rfl ha5 (.own _) (T.kit i 14 hi (by decide))) (Evl.ea_cons (ev_isX rfl ha5 (.own _) (T.kit i 15 hi (by decide))) Evl.ea_nil)) (by show 2 ≤ 100000; decide)) (by show 16 ≤ 1000; decide)) fun p5 H5 n5 e5 h5 => ?_
    have ha6 := ha5.mono e5
    refine Evl.q_asgL (el_cat (Evl.ev_var rfl) h5 (Evl.el_lst (Evl.ea_cons (ev_isX rfl ha6 (.own _) (T.kit i 16 hi (by decide))) (Evl.ea_cons (ev_isX rfl ha6 (.own _) (T.kit i 17 hi (by decide))) (Evl.ea_cons (ev_isX rfl ha6 (.own _) (T.kit i 18 hi (by decide))) Evl.ea_nil))) (by show 3 ≤ 100000; decide)) (by show 19 ≤ 1000; decide)) fun p6 H6 n6 e6 h6 => ?_
    have ha7 := ha6.mono e6
    refine Evl.q_asgL (el_cat (Evl.ev_var rfl) h6 (Evl.el_lst (Evl.ea_cons (ev_isX rfl ha7 (.own _) (T.kit i 19 hi (by decide))) Evl.ea_nil) (by show 1 ≤ 100000; decide)) (by show 20 ≤ 1000; decide)) fun p7 H7 n7 e7 h7 => ?_
    have ha8 := ha7.mono e7
    have hb : H7 p7 = some (.lst (bits i)) := h7
    have sm : Same H H7 := Same.trans e0 (Same.trans e1 (Same.trans e2 (Same.trans e3 (Same.trans e4 (Same.trans e5 (Same.trans e6 (e7)))))))
    have lb : (bits i).length = 20 := by unfold bits; rw [List.length_map, List.length_range]
    refine ⟨_, rfl, p7, _, rfl, SqL.of hb, fun D hD => ?_⟩
    refine lc_it (walk_enum (K := K) (a := p7) (xs := bits i)) (fun n H' => Same H7 H' ∧ H' D = some (.lst (Evl.given n (fun j => decide (i = j) || decide (j = 19)) fun j => .int (j : Nat)))) ⟨same_upd hD, upd_same⟩ (fun n H' _ z => SqL.of (z.1 _ _ hb)) ?_ ?_
    · rintro m x Ha Hb hm ⟨s7, hD'⟩ ⟨U, x1, y1, rfl, hU, rfl, hx, hy⟩
      rw [lb] at hm
      cases hx
      obtain rfl : y1 = .bl (decide (i = m) || decide (m = 19)) := by
        have z : (bits i)[m]? = some y1 := hy
        unfold bits at z
        rw [List.getElem?_map, List.getElem?_range hm] at z
        exact (Option.some.inj z).symm
      have sU := same_upd (o := .tup [.int (m : Nat), .bl (decide (i = m) || decide (m = 19))]) hU
      refine ⟨U, _, rfl, SqT.of upd_same, rfl, _, _, rfl, _, _, rfl, rfl, rfl, _, rfl, _, rfl, ?_⟩
      cases hf : (decide (i = m) || decide (m = 19)) with
      | true =>
        rw [hf] at sU
        refine iteT ⟨_, rfl, _, sU _ _ hD', ?_, fun b o e => ?_, ?_⟩
        · exact Nat.lt_of_le_of_lt (Evl.given_len _ _ _) (Nat.lt_of_lt_of_le hm (by decide))
        · have nb : b ≠ D := fun z => by
            rw [z, hD] at e
            cases e
          rw [upd_ne nb]
          exact sU _ _ (s7 _ _ e)
        · rw [Evl.given_yes (f := fun j => decide (i = j) || decide (j = 19)) hf]
          exact upd_same
      | false =>
        rw [hf] at sU
        refine iteF ⟨s7.trans sU, ?_⟩
        rw [Evl.given_no (f := fun j => decide (i = j) || decide (j = 19)) hf]
        exact sU _ _ hD'
    · rintro He ⟨s7, hE⟩
      rw [lb] at hE
      refine k D He (sm.trans s7) ?_
      rw [hE, under_bits i (List.mem_range.mpr hi)]
      rfl
end
end KX

set_option Elab.async false
set_option linter.all false
set_option maxRecDepth 100000
set_option maxHeartbeats 4000000
/-! ### the law itself -/
namespace KX
open PySem PySem.Spec PyProof.Rows L2
section
variable {P : Program} {w : World} {K : PySem.W.Frag} {mg : Str → Option Value} {base : Heap} {cs fs : Nat → Addr} {fds : Nat → FuncData}
/-- stands(e, i), e an error of the class numbered i: True -/
def spStands (K : PySem.W.Frag) (cs : Nat → Addr) : Sp := fun vs H Q _ => ∃ a i, vs = [.ref a, .int (i : Nat)] ∧ i < 19 ∧ AnErr K H a (cs i) ∧ ∀ H', Same H H' → Q (.bl true) H'
theorem scStands : FnScope ["error", "number"] ["error", "number"] (defScope sStands) := ⟨rfl, rfl, rfl, by decide +kernel, rfl, by decide +kernel, by decide +kernel⟩
theorem ok_stands {f fU : Addr} {fd fdU : FuncData} (F : Fun K "_law_stands" "_law_stands" sStands f fd) (T : TxE K mg cs fs fds) (FU : FnOk P w K mg base CX0 1 fU fdU ["error"] (spUnder K cs)) (mU : mg "_law_under" = some (.ref fU)) (kU : PySem.W.keepIn K (.ref fU) = true) (bU : Binds K fdU ["error"] []) :
    FnOk P w K mg base CX0 2 f fd ["error", "number"] (spStands K cs) := by
  refine F.ok scStands (fun vs H Q E h => ?_) (fun cdv A outer s H vs Q E hr h => ?_)
  · obtain ⟨a, i, rfl, _⟩ := h
    rfl
  · obtain ⟨a, i, rfl, hi, ha, k⟩ := h
    refine ⟨_, pss_cons (ps_if (PW.pt (pw_or (pt_cmpR (op_neD hr.units) (pe_call FU hr rfl mU kU bU .nil pass0 (pa_cons (pv 0) pa_nil)) (pe_lst (pa_cons (pv 1) (pa_cons pe_int pa_nil))) (nomark _))
        (pw_or (pt_not (pt_val (pe_callB call_isX (by rfl) T.zisinstance (by decide +kernel) (pa_cons (pv 0) (pa_cons (pe_bltn (v := .ty "ValueError") (by rfl) T.zValueError (by decide +kernel) rfl) pa_nil))))) (pw_or1 (pt_not (pt_val (pe_callB call_isX (by rfl) T.zisinstance (by decide +kernel) (pa_cons (pv 0) (pa_cons (pe_bltn (v := .ty "Exception") (by rfl) T.zException (by decide +kernel) rfl) pa_nil))))))))) (pss_one (ps_ret pe_bl)) pss_nil)
      (pss_cons (ps_if (PW.pt (pw_or (pt_val (pe_callB call_isX (by rfl) T.zisinstance (by decide +kernel) (pa_cons (pv 0) (pa_cons (pe_bltn (v := .ty "LookupError") (by rfl) T.zLookupError (by decide +kernel) rfl) pa_nil)))) (pw_or (pt_val (pe_callB call_isX (by rfl) T.zisinstance (by decide +kernel) (pa_cons (pv 0) (pa_cons (pe_bltn (v := .ty "TypeError") (by rfl) T.zTypeError (by decide +kernel) rfl) pa_nil)))) (pw_or1 (pt_val (pe_callB call_isX (by rfl) T.zisinstance (by decide +kernel) (pa_cons (pv 0) (pa_cons (pe_bltn (v := .ty "ArithmeticError") (by rfl) T.zArithmeticError (by decide +kernel) rfl) pa_nil)))))))) (pss_one (ps_ret pe_bl)) pss_nil)
      (pss_one (ps_ret (pe_and (pe_not (pe_callB call_isX (by rfl) T.zisinstance (by decide +kernel) (pa_cons (pv 0) (pa_cons (pe_bltn (v := .ty "RuntimeError") (by rfl) T.zRuntimeError (by decide +kernel) rfl) pa_nil)))) (pe_one (pe_not (pe_callB call_isX (by rfl) T.zisinstance (by decide +kernel) (pa_cons (pv 0) (pa_cons (pe_bltn (v := .ty "AttributeError") (by rfl) T.zAttributeError (by decide +kernel) rfl) pa_nil))))))))), ?_⟩
    have hi' : i < 20 := by omega
    have ne : (19 : Nat) ≠ i := by omega
    have un : underOf i = [.int (i : Nat), .int 19] := if_neg (Ne.symm ne)
    have no : ∀ {n : String} {x1 : Str}, n ∈ ourOther → Evl.Ev (tCB (rIsX K) (tCons (tVar 0) (tCons (tC (.ty n)) tNil))) (start ["error", "number"] [.ref a, .int (i : Nat)]) H (.bl false) := fun {n x1} hn => ev_isX rfl ha (.ty n) (T.ko i hi' n hn)
    have yv : Evl.Ev (tCB (rIsX K) (tCons (tVar 0) (tCons (tC (.ty "ValueError")) tNil))) (start ["error", "number"] [.ref a, .int (i : Nat)]) H (.bl true) := ev_isX rfl ha (.ty _) (T.kv i hi')
    have ye : Evl.Ev (tCB (rIsX K) (tCons (tVar 0) (tCons (tC (.ty "Exception")) tNil))) (start ["error", "number"] [.ref a, .int (i : Nat)]) H (.bl true) := ev_isX rfl ha (.ty _) (T.ke i hi')
    refine Evl.q_when (b := false) (Evl.et_or (a := false) (b := false) (fun H1 e Q1 q => ?_) fun _ => Evl.et_or (a := false) (b := false) (Evl.et_not (a := true) (Evl.et_B yv)) fun _ => Evl.et_not (a := true) (Evl.et_B ye)) (fun z => Bool.noConfusion z) fun _ H1 e1 => ?_
    · refine ⟨_, rfl, a, i, rfl, hi', ha.mono e, fun p H2 s2 hp => ⟨_, rfl, (by decide : 2 ≤ sizeLine), fun l hl => ?_⟩⟩
      rw [un] at hp
      have hp' := same_upd (o := .lst [.int (i : Nat), .int 19]) hl _ _ hp
      refine ⟨.list [.int (i : Nat), .int 19], .list [.int (i : Nat), .int 19], .lst (SqL.of hp') (.cons (.int _) (.cons (.int _) .nil)), .lst (SqL.of upd_same) (.cons (.int _) (.cons (.int _) .nil)), ?_, ?_, false, ?_, q _ (Evl.Ex.trans s2 (same_upd hl))⟩
      · exact lst_shaped _ _
      · exact lst_shaped _ _
      · rw [lst_eqv]
        rfl
    refine Evl.q_when (b := false) (Evl.et_or (a := false) (b := false) (Evl.et_B ((no (x1 := "") (by decide)).mono e1)) fun _ => Evl.et_or (a := false) (b := false) (Evl.et_B ((no (x1 := "") (by decide)).mono e1)) fun _ => Evl.et_B ((no (x1 := "") (by decide)).mono e1)) (fun z => Bool.noConfusion z) fun _ H2 e2 => ?_
    exact Evl.s_ret (v := .bl true) (Evl.ev_andV (a := true) (b := true) (Evl.ev_notV (a := false) ((no (x1 := "") (by decide)).mono (e1.trans e2))) fun _ => Evl.ev_notV (a := false) ((no (x1 := "") (by decide)).mono (e1.trans e2))) fun H3 e3 => k H3 (Same.trans e1 (Same.trans e2 e3))
theorem q_new {i : Nat} {te : TE} {tz : TS} {D : Ends} {σ : L2.St} {H : Hp} (h : te σ H fun v H1 => tz D (σ.set i (some v)) H1) : tSeq (tAsg te (gName i)) tz D σ H := h
def spBase : Sp := fun vs H Q _ => vs = [] ∧ ∀ H', Same H H' → Q (.bl true) H'
theorem scBase : FnScope ["base"] [] (defScope sBase) := ⟨rfl, rfl, rfl, by decide +kernel, rfl, by decide +kernel, by decide +kernel⟩
theorem ok_base {f fU : Addr} {fd fdU : FuncData} (F : Fun K "_law_is_base" "_law_is_base" sBase f fd) (T : TxE K mg cs fs fds) (FU : FnOk P w K mg base CX0 1 fU fdU ["error"] (spUnder K cs)) (mU : mg "_law_under" = some (.ref fU)) (kU : PySem.W.keepIn K (.ref fU) = true) (bU : Binds K fdU ["error"] []) :
    FnOk P w K mg base CX0 2 f fd [] spBase := by
  refine F.ok scBase (fun vs H Q E h => ?_) (fun cdv A outer s H vs Q E hr h => ?_)
  · obtain ⟨rfl, _⟩ := h
    rfl
  · obtain ⟨rfl, k⟩ := h
    refine ⟨_, pss_cons (ps_set (i := 0) scBase.nd rfl (Or.inl rfl) (pe_exc0 T.k0 T.kp rfl T.m19))
      (pss_cons (ps_if (PW.pt (pw_or (pt_cmpR (op_neD hr.units) (pe_call FU hr rfl mU kU bU .nil pass0 (pa_cons (pv 0) pa_nil)) (pe_lst (pa_cons pe_int pa_nil)) (nomark _))
        (pw_or1 (pt_not (pt_val (pe_callB call_isX (by rfl) T.zisinstance (by decide +kernel) (pa_cons (pv 0) (pa_cons (pe_bltn (v := .ty "ValueError") (by rfl) T.zValueError (by decide +kernel) rfl) pa_nil)))))))) (pss_one (ps_ret pe_bl)) pss_nil)
      (pss_one (ps_ret (pe_and (pe_not (pe_callB call_isX (by rfl) T.zisinstance (by decide +kernel) (pa_cons (pv 0) (pa_cons (pe_bltn (v := .ty "LookupError") (by rfl) T.zLookupError (by decide +kernel) rfl) pa_nil)))) (pe_one (pe_not (pe_callB call_isX (by rfl) T.zisinstance (by decide +kernel) (pa_cons (pv 0) (pa_cons (pe_bltn (v := .ty "TypeError") (by rfl) T.zTypeError (by decide +kernel) rfl) pa_nil))))))))), ?_⟩
    refine q_new fun a hn => ?_
    have ha : AnErr K (upd H a (exo a (cs 19) none)) a (cs 19) := ⟨none, upd_same, fun dx z => (nomatch z), T.x 19 (by decide)⟩
    have no : ∀ {n : String}, n ∈ ourOther → Evl.Ev (tCB (rIsX K) (tCons (tVar 0) (tCons (tC (.ty n)) tNil))) ((start ["base"] []).set 0 (some (.ref a))) (upd H a (exo a (cs 19) none)) (.bl false) := fun {n} hn => ev_isX rfl ha (.ty n) (T.ko 19 (by decide) n hn)
    have yv : Evl.Ev (tCB (rIsX K) (tCons (tVar 0) (tCons (tC (.ty "ValueError")) tNil))) ((start ["base"] []).set 0 (some (.ref a))) (upd H a (exo a (cs 19) none)) (.bl true) := ev_isX rfl ha (.ty _) (T.kv 19 (by decide))
    refine Evl.q_when (b := false) (Evl.et_or (a := false) (b := false) (fun H1 e Q1 q => ?_) fun _ => Evl.et_not (a := true) (Evl.et_B yv)) (fun z => Bool.noConfusion z) fun _ H1 e1 => ?_
    · refine ⟨_, rfl, a, 19, rfl, by decide, ha.mono e, fun p H2 s2 hp => ⟨(by decide : 1 ≤ sizeLine), fun l hl => ?_⟩⟩
      have hp' := same_upd (o := .lst [.int 19]) hl _ _ hp
      refine ⟨.list [.int 19], .list [.int 19], .lst (SqL.of hp') (.cons (.int _) .nil), .lst (SqL.of upd_same) (.cons (.int _) .nil), ?_, ?_, false, ?_, q _ (Evl.Ex.trans s2 (same_upd hl))⟩
      · simp [SeqAt.shaped, PyData.canLay0, PyData.canLayAll0, PyData.depth, PyData.depthAll]
      · simp [SeqAt.shaped, PyData.canLay0, PyData.canLayAll0, PyData.depth, PyData.depthAll]
      · simp [PyData.eqv, PyData.eqvAll]
    exact Evl.s_ret (v := .bl true) (Evl.ev_andV (a := true) (b := true) (Evl.ev_notV (a := false) ((no (by decide)).mono e1)) fun _ => Evl.ev_notV (a := false) ((no (by decide)).mono e1)) fun H3 e3 => k H3 (Same.trans (same_upd hn) (Same.trans e1 e3))
end
end KX

set_option Elab.async false
set_option linter.all false
set_option maxRecDepth 100000
set_option maxHeartbeats 4000000
/-! ### the law itself -/
namespace KX
open PySem PySem.Spec PyProof.Rows L2
theorem given_at (cs : Nat → Addr) : ∀ i, i < 28 → (csGiven cs)[i]? = some (cs (i / 2))
  | 0, _ => rfl
  | 1, _ => rfl
  | 2, _ => rfl
  | 3, _ => rfl
  | 4, _ => rfl
  | 5, _ => rfl
  | 6, _ => rfl
  | 7, _ => rfl
  | 8, _ => rfl
  | 9, _ => rfl
  | 10, _ => rfl
  | 11, _ => rfl
  | 12, _ => rfl
  | 13, _ => rfl
  | 14, _ => rfl
  | 15, _ => rfl
  | 16, _ => rfl
  | 17, _ => rfl
  | 18, _ => rfl
  | 19, _ => rfl
  | 20, _ => rfl
  | 21, _ => rfl
  | 22, _ => rfl
  | 23, _ => rfl
  | 24, _ => rfl
  | 25, _ => rfl
  | 26, _ => rfl
  | 27, _ => rfl
  | n + 28, h => absurd h (by omega)
theorem indexed_at (cs : Nat → Addr) : ∀ i, i < 8 → (csIndexed cs)[i]? = some (cs (14 + i / 2))
  | 0, _ => rfl
  | 1, _ => rfl
  | 2, _ => rfl
  | 3, _ => rfl
  | 4, _ => rfl
  | 5, _ => rfl
  | 6, _ => rfl
  | 7, _ => rfl
  | n + 8, h => absurd h (by omega)
theorem Paired.at {α β : Type} {F : α → β → Prop} : ∀ {l₁ : List α} {l₂ : List β} {i : Nat} {b : β}, Paired F l₁ l₂ → l₂[i]? = some b → ∃ a, l₁[i]? = some a ∧ F a b
  | _, _, _, _, .nil, e => by simp at e
  | _, _, 0, _, .cons r _, e => by
    simp at e
    subst e
    exact ⟨_, rfl, r⟩
  | _, _, i + 1, b, .cons _ t, e => by
    obtain ⟨a, h1, h2⟩ := Paired.at (i := i) (b := b) t (by simpa using e)
    exact ⟨a, by simpa using h1, h2⟩
theorem Paired.atL {α β : Type} {F : α → β → Prop} : ∀ {l₁ : List α} {l₂ : List β} {i : Nat} {a : α}, Paired F l₁ l₂ → l₁[i]? = some a → ∃ b, l₂[i]? = some b ∧ F a b
  | _, _, _, _, .nil, e => by simp at e
  | _, _, 0, _, .cons r _, e => by
    simp at e
    subst e
    exact ⟨_, rfl, r⟩
  | _, _, i + 1, a, .cons _ t, e => by
    obtain ⟨b, h1, h2⟩ := Paired.atL (i := i) (a := a) t (by simpa using e)
    exact ⟨b, by simpa using h1, h2⟩
section
variable {P : Program} {w : World} {K : PySem.W.Frag} {mg : Str → Option Value} {base : Heap} {cs fs : Nat → Addr} {fds : Nat → FuncData}
def spRight : Sp := fun vs H Q _ => ∃ j, vs = [.ref j] ∧ JarAt H j 0 ∧ ∀ H', But j H H' → Q (.bl true) H'
theorem scRight : FnScope ["jar", "thing", "due", "at", "error"] ["jar"] (defScope sRight) := ⟨rfl, rfl, rfl, by decide +kernel, rfl, by decide +kernel, by decide +kernel⟩
/-- one error: it stands, and its field is shown as due -/
theorem turn_ok {σ : L2.St} {H : Hp} {a : Addr} {i : Nat} {f : Str} {v : V} {d : PyData} {D : Ends} {tn : TE} (T : TxE K mg cs fs fds) (hi : i < 19) (hf : fieldOf i = f) (h4 : σ[4]? = some (some (.ref a))) (h2 : σ[2]? = some (some (.str d.shown))) (he : ErrAt H a (cs i) f v) (sw : Shw K H v d)
    (hn : Evl.Ev tn σ H (.int (i : Nat))) (k : ∀ H', Same H H' → D.nx σ H') :
    tIfS (tOr (tNot (tB (tCall (spStands K cs) [] E0 (tCons (tVar 4) (tCons tn tNil))))) (tTest (tOp rNe (tCB (rRepr K) (tCons (tFldX K (tVar 4) f) tNil)) (tVar 2)))) (tRet (tC (.bl false))) tNext D σ H := by
  refine Evl.s_when (b := false) (Evl.et_or (a := false) (b := false) (Evl.et_not (a := true) (Evl.et_B fun H1 e Q q => ?_)) fun _ => fun H1 e Q q => ?_) (fun z => Bool.noConfusion z) fun _ H1 e1 => k H1 e1
  · refine ⟨_, h4, ?_⟩
    refine hn H1 e _ fun H2 e2 => ?_
    exact ⟨a, i, rfl, hi, (AnErr.of he (T.x i (by omega))).mono (Same.trans e e2), fun H3 s3 => q H3 (Evl.Ex.trans e2 s3)⟩
  · obtain ⟨dx, h1, h3⟩ := he.mono e
    have nf := (T.t i hi).nf
    rw [hf] at nf
    refine ⟨_, h4, a, cs i, dx, _, v, rfl, h1, h3, T.x i (by omega), nf, ?_, v, d, rfl, sw.mono e, _, h2, rfl, false, ?_, q _ (Evl.Ex.refl _)⟩
    · simp [List.lookup]
    · simp
theorem for_errs {t : TA} {tb : TS} {D : Ends} {σ : L2.St} {H : Hp} {Cs : List Addr} {f : Str} {v : V} (h : EvE t σ H Cs f v) (hl : Cs.length ≤ 1000) (R : L2.St → Prop) (h0 : R σ)
    (turn : ∀ (a C : Addr) (σ' : L2.St) (H' : Hp) (N : L2.St → Hp → Prop), C ∈ Cs → R σ' → ErrAt H' a C f v → Same H H' → (∀ σ2 H3, R σ2 → Same H' H3 → N σ2 H3) → tb { D with nx := N, ct := N, bk := D.nx } (σ'.set 4 (some (.ref a))) H')
    (hd : ∀ σ' H', R σ' → Same H H' → D.nx σ' H') : tFor (iList K (tLst t)) (gName 4) tb D σ H :=
  h H (Same.refl _) _ fun as H2 s2 r => ⟨by rw [List.length_map, Paired.length r]; exact Nat.le_trans hl (by decide), fun p hp => ⟨p, rfl, ⟨_, SqL.of upd_same⟩, by
    have sp := same_upd (o := .lst (as.map V.ref)) hp
    refine for_list (xs := as.map V.ref) (fun i σ' H' => R σ' ∧ Same (upd H2 p (.lst (as.map V.ref))) H') ⟨h0, Same.refl _⟩ (fun i σ' H' _ z => SqL.of (z.2 _ _ upd_same)) ?_ fun σ' H' z => hd σ' H' z.1 (s2.trans (sp.trans z.2))
    rintro i x σ' H' hi ⟨hR, z⟩
    rw [List.getElem?_map] at hi
    obtain ⟨a, ha, rfl⟩ := Option.map_eq_some_iff.mp hi
    obtain ⟨C, hC, e⟩ := Paired.atL r ha
    exact turn a C σ' H' _ (List.mem_of_getElem? hC) hR ((e.mono sp).mono z) (s2.trans (sp.trans z)) fun σ2 H3 h1 h2 => ⟨h1, z.trans h2⟩⟩⟩
theorem ok_right {f fT fG fI fS fB : Addr} {fd fdT fdG fdI fdS fdB : FuncData} (F : Fun K "_law_right" "_law_right" sRight f fd) (T : TxE K mg cs fs fds) (G : Inits P w K mg base cs fs fds)
    (FT : FnOk P w K mg base CX0 3 fT fdT ["jar"] (spThing K)) (mT : mg "_law_thing" = some (.ref fT)) (kT : PySem.W.keepIn K (.ref fT) = true) (bT : Binds K fdT ["jar"] [])
    (FG : FnOk P w K mg base CX0 3 fG fdG ["thing"] (spErrs (csGiven cs) "given")) (mG : mg "_law_given" = some (.ref fG)) (kG : PySem.W.keepIn K (.ref fG) = true) (bG : Binds K fdG ["thing"] [])
    (FI : FnOk P w K mg base CX0 3 fI fdI ["thing"] (spErrs (csIndexed cs) "index")) (mI : mg "_law_indexed" = some (.ref fI)) (kI : PySem.W.keepIn K (.ref fI) = true) (bI : Binds K fdI ["thing"] [])
    (FS : FnOk P w K mg base CX0 2 fS fdS ["error", "number"] (spStands K cs)) (mS : mg "_law_stands" = some (.ref fS)) (kS : PySem.W.keepIn K (.ref fS) = true) (bS : Binds K fdS ["error", "number"] [])
    (FB : FnOk P w K mg base CX0 2 fB fdB [] spBase) (mB : mg "_law_is_base" = some (.ref fB)) (kB : PySem.W.keepIn K (.ref fB) = true) (bB : Binds K fdB [] []) :
    FnG P w K mg base 4 f fd ["jar"] spRight := by
  refine FnG.mk' F scRight (fun {vs H Q E} h => ?_) (fun cdv A outer s H vs Q E qu hr h => ?_)
  · obtain ⟨j, rfl, _⟩ := h
    rfl
  · obtain ⟨j, rfl, hj, k⟩ := h
    have hr2 : Room 2 _ := hr.mono (by decide)
    have hr1 : Room (1 + 1) _ := hr.mono (by decide)
    have qu' : Quiet (A.deeper (envOfC "_law_right" (defScope sRight) s.heap.objs.size f cdv)) := qu
    refine ⟨_, pss_cons (ps_set (i := 1) scRight.nd rfl (Or.inl rfl) (pe_call FT hr rfl mT kT bT .nil pass0 (pa_cons (pv 0) pa_nil)))
      (pss_cons (ps_set (i := 2) scRight.nd rfl (Or.inl rfl) (pe_callB (cr_repr qu' hr.units) (by rfl) T.zrepr (by decide +kernel) (pa_cons (pv 1) pa_nil)))
      (Evl.pss_cut (ps_for PassesOwn.never rfl (pi_enum (by rfl) T.zenumerate (pa_cons (pe_call FG hr rfl mG kG bG .nil pass0 (pa_cons (pv 1) pa_nil)) pa_nil)) (pg_tup rfl (pgs_cons (pg_name (i := 3) scRight.nd rfl (Or.inl rfl)) (pgs_cons (pg_name (i := 4) scRight.nd rfl (Or.inl rfl)) pgs_nil)))
        (pss_one (ps_if (PW.pt (pw_or (pt_not (pt_val (pe_call FS hr2 rfl mS kS bS .nil pass0 (pa_cons (pv 4) (pa_cons (pe_op op_fdiv (pv 3) pe_int) pa_nil)))))
          (pw_or1 (pt_cmpR op_ne (pe_callB (cr_repr qu' hr.units) (by rfl) T.zrepr (by decide +kernel) (pa_cons (pe_fldX (pv 4)) pa_nil)) (pv 2) (nomark _))))) (pss_one (ps_ret pe_bl)) pss_nil)))
      (Evl.pss_cut (ps_for PassesOwn.never rfl (pi_enum (by rfl) T.zenumerate (pa_cons (pe_call FI hr rfl mI kI bI .nil pass0 (pa_cons (pv 1) pa_nil)) pa_nil)) (pg_tup rfl (pgs_cons (pg_name (i := 3) scRight.nd rfl (Or.inl rfl)) (pgs_cons (pg_name (i := 4) scRight.nd rfl (Or.inl rfl)) pgs_nil)))
        (pss_one (ps_if (PW.pt (pw_or (pt_not (pt_val (pe_call FS hr2 rfl mS kS bS .nil pass0 (pa_cons (pv 4) (pa_cons (pe_op op_add pe_int (pe_op op_fdiv (pv 3) pe_int)) pa_nil)))))
          (pw_or1 (pt_cmpR op_ne (pe_callB (cr_repr qu' hr.units) (by rfl) T.zrepr (by decide +kernel) (pa_cons (pe_fldX (pv 4)) pa_nil)) (pv 2) (nomark _))))) (pss_one (ps_ret pe_bl)) pss_nil)))
      (Evl.pss_cut (ps_for PassesOwn.never rfl (pi_list (pe_lst (pa_cons (pe_exc1 (f := "place") (T.t 18 (by decide)) (G 18 (by decide)) hr1 rfl T.m18 (pa_cons (pv 1) pa_nil)) (pa_cons (pe_excK (f := "place") (T.t 18 (by decide)) (G 18 (by decide)) hr1 rfl T.m18 (pk_cons (pv 1) pk_nil)) pa_nil)))) (pg_name (i := 4) scRight.nd rfl (Or.inl rfl))
        (pss_one (ps_if (PW.pt (pw_or (pt_not (pt_val (pe_call FS hr2 rfl mS kS bS .nil pass0 (pa_cons (pv 4) (pa_cons pe_int pa_nil)))))
          (pw_or1 (pt_cmpR op_ne (pe_callB (cr_repr qu' hr.units) (by rfl) T.zrepr (by decide +kernel) (pa_cons (pe_fldX (pv 4)) pa_nil)) (pv 2) (nomark _))))) (pss_one (ps_ret pe_bl)) pss_nil)))
      (pss_one (ps_ret (pe_call0 FB hr2 rfl mB kB bB .nil pass0))))))), ?_⟩
    refine q_new ⟨_, rfl, j, 0, rfl, hj, by decide, fun v d H1 sw b1 => ?_⟩
    refine q_new ⟨_, rfl, v, d, rfl, sw, ?_⟩
    have dv : ∀ {σ' : L2.St} {Hc : Hp} {m : Nat}, σ'[3]? = some (some (.int (m : Nat))) → Evl.Ev (tOp (rI CDiv fun i j => V.int (i / j)) (tVar 3) (tC (.int 2))) σ' Hc (.int ((m / 2 : Nat) : Int)) := fun {σ' Hc m} h => Evl.ev_op (Evl.ev_var h) Evl.ev_c (Evl.rv_I ⟨by decide, by decide⟩)
    refine ⟨fun σ' H' => ∃ x y, σ' = [some (.ref j), some v, some (.str d.shown), x, y] ∧ Same H1 H', ?_, ?_⟩
    · refine ⟨_, rfl, v, rfl, fun p as H2 s2 hp er => ⟨p, _, rfl, SqL.of hp, ?_⟩⟩
      refine for_it (walk_enum (K := K) (a := p) (xs := as.map V.ref)) (fun i σ' H' => ∃ x y, σ' = [some (.ref j), some v, some (.str d.shown), x, y] ∧ Same H2 H') ⟨none, none, rfl, Same.refl _⟩ (fun i σ' H' _ ⟨_, _, _, z⟩ => SqL.of (z _ _ hp)) ?_ ?_
      · rintro m x σ' Ha Hb hm ⟨x0, y0, rfl, s3⟩ ⟨U, x1, y1, rfl, hU, rfl, hx, hy⟩
        cases hx
        have l : as.length = 28 := Paired.length er
        rw [List.length_map, l] at hm
        obtain ⟨a, ha, ea⟩ := Paired.at er (given_at cs m hm)
        obtain rfl : y1 = .ref a := by
          have z : (as.map V.ref)[m]? = some y1 := hy
          rw [List.getElem?_map, ha] at z
          exact (Option.some.inj z).symm
        have sU := same_upd (o := .tup [.int (m : Nat), .ref a]) hU
        refine ⟨U, _, rfl, SqT.of upd_same, rfl, _, _, rfl, _, _, rfl, rfl, ?_⟩
        exact turn_ok (i := m / 2) (f := "given") (v := v) (d := d) T (by omega) (if_pos (by omega)) rfl rfl ((ea.mono s3).mono sU) (Shw.mono (s2.trans (s3.trans sU)) sw) (dv rfl) fun H' s4 => ⟨_, _, rfl, s3.trans (sU.trans s4)⟩
      · rintro σ' H' ⟨x, y, rfl, z⟩
        exact ⟨x, y, rfl, s2.trans z⟩
    rintro σ1 H2 ⟨x, y, rfl, s2⟩
    have sw2 := Shw.mono s2 sw
    refine ⟨fun σ' H' => ∃ x y, σ' = [some (.ref j), some v, some (.str d.shown), x, y] ∧ Same H2 H', ?_, ?_⟩
    · refine ⟨_, rfl, v, rfl, fun p as H3 s3 hp er => ⟨p, _, rfl, SqL.of hp, ?_⟩⟩
      refine for_it (walk_enum (K := K) (a := p) (xs := as.map V.ref)) (fun i σ' H' => ∃ x y, σ' = [some (.ref j), some v, some (.str d.shown), x, y] ∧ Same H3 H') ⟨x, y, rfl, Same.refl _⟩ (fun i σ' H' _ ⟨_, _, _, z⟩ => SqL.of (z _ _ hp)) ?_ ?_
      · rintro m x2 σ' Ha Hb hm ⟨x0, y0, rfl, s4⟩ ⟨U, x1, y1, rfl, hU, rfl, hx, hy⟩
        cases hx
        have l : as.length = 8 := Paired.length er
        rw [List.length_map, l] at hm
        obtain ⟨a, ha, ea⟩ := Paired.at er (indexed_at cs m hm)
        obtain rfl : y1 = .ref a := by
          have z : (as.map V.ref)[m]? = some y1 := hy
          rw [List.getElem?_map, ha] at z
          exact (Option.some.inj z).symm
        have sU := same_upd (o := .tup [.int (m : Nat), .ref a]) hU
        refine ⟨U, _, rfl, SqT.of upd_same, rfl, _, _, rfl, _, _, rfl, rfl, ?_⟩
        refine turn_ok (i := 14 + m / 2) (f := "index") (v := v) (d := d) T (by omega) ?_ rfl rfl ((ea.mono s4).mono sU) (Shw.mono (s3.trans (s4.trans sU)) sw2) (Evl.ev_is (Evl.ev_op Evl.ev_c (dv rfl) Evl.rv_I0) rfl) fun H' s5 => ⟨_, _, rfl, s4.trans (sU.trans s5)⟩
        unfold fieldOf
        rw [if_neg (by omega), if_pos (by omega)]
      · rintro σ' H' ⟨x, y, rfl, z⟩
        exact ⟨x, y, rfl, s3.trans z⟩
    rintro σ1 H3 ⟨x, y, rfl, s3⟩
    have sw3 := Shw.mono s3 sw2
    refine ⟨fun σ' H' => (∃ x y, σ' = [some (.ref j), some v, some (.str d.shown), x, y]) ∧ Same H3 H', ?_, ?_⟩
    · refine for_errs (Cs := [cs 18, cs 18]) (f := "place") (v := v) (evE_cons (i := 1) rfl (evE_cons (i := 1) rfl evE_nil)) (by show 2 ≤ 1000; decide) (fun σ' => ∃ x y, σ' = [some (.ref j), some v, some (.str d.shown), x, y]) ⟨x, y, rfl⟩ ?_ fun σ' H' r z => ⟨r, z⟩
      rintro a C σ' H' N hC ⟨x0, y0, rfl⟩ ea s4 hN
      obtain rfl : C = cs 18 := by simpa using hC
      exact turn_ok (i := 18) (f := "place") (v := v) (d := d) T (by decide) rfl rfl rfl ea (Shw.mono s4 sw3) Evl.ev_c fun H5 s5 => hN _ _ ⟨_, _, rfl⟩ s5
    · rintro σ' H4 ⟨⟨x, y, rfl⟩, s4⟩
      exact ⟨rfl, fun H5 s5 => k H5 (b1.trans (But.same (s2.trans (s3.trans (s4.trans s5)))))⟩
end
end KX

set_option Elab.async false
set_option linter.all false
set_option maxRecDepth 100000
set_option maxHeartbeats 4000000
namespace KX
open PySem PySem.Spec PyProof.Rows L2
section
variable {P : Program} {w : World} {K : PySem.W.Frag} {mg : Str → Option Value} {base : Heap}
structure TxL (mg : Str → Option Value) : Prop where
  all : mg "all" = none
  range : mg "range" = none
  max : mg "max" = none
  min : mg "min" = none
  len : mg "len" = none
def spLaw (K : PySem.W.Frag) : Sp := fun vs H Q _ => ∃ (a : Addr) (ns : List Int), vs = [.ref a] ∧ SqL K H a (ns.map V.int) ∧ ns.length ≤ 63 ∧ ∀ H', Q (.bl true) H'
theorem scLaw : FnScope ["script", "turn"] ["script"] (defScope sLaw) := ⟨rfl, rfl, rfl, by decide +kernel, rfl, by decide +kernel, by decide +kernel⟩
theorem ok_law {f fR fJ : Addr} {fd fdR fdJ : FuncData} (F : Fun K "law" "law" sLaw f fd) (T : TxL mg)
    (FR : FnG P w K mg base 4 fR fdR ["jar"] spRight) (mR : mg "_law_right" = some (.ref fR)) (kR : PySem.W.keepIn K (.ref fR) = true) (bR : Binds K fdR ["jar"] [])
    (FJ : FnOk P w K mg base CX0 1 fJ fdJ ["script", "turn"] (spJar K)) (mJ : mg "_law_jar" = some (.ref fJ)) (kJ : PySem.W.keepIn K (.ref fJ) = true) (bJ : Binds K fdJ ["script", "turn"] []) :
    FnG P w K mg base 5 f fd ["script"] (spLaw K) := by
  refine FnG.mk' F scLaw (fun {vs H Q E} h => ?_) (fun cdv A outer s H vs Q E qu hr h => ?_)
  · obtain ⟨j, _, rfl, _⟩ := h
    rfl
  · obtain ⟨a, ns, rfl, hS, hn, k⟩ := h
    have hr1 : Room 1 _ := hr.mono (by decide)
    have qu' : Quiet (A.deeper (envOfC "law" (defScope sLaw) s.heap.objs.size f cdv)) := qu
    refine ⟨_, pss_one (ps_ret (pe_callB (cr_all rfl) (by rfl) T.all (by decide +kernel) (pa_cons (pe_lc (own := [("turn", 1)]) (g := gName 1) (tt := tYes) rfl scLaw.nd
      (pi_range1 rfl T.range (pa_cons (pe_callB (call_max2 rfl) (by rfl) T.max (by decide +kernel) (pa_cons pe_int (pa_cons (pe_callB (call_min2 rfl) (by rfl) T.min (by decide +kernel) (pa_cons (pe_callB call_len_seq (by rfl) T.len PySem.boot_len (pa_cons (pv 0) pa_nil)) (pa_cons pe_int pa_nil))) pa_nil))) pa_nil))
      (blkOk_by (N := ["script", "turn"]) (sc := defScope sLaw) (by decide +kernel)) (fun _ _ _ _ _ => pg_name (i := 1) scLaw.nd rfl (Or.inl rfl)) (fun _ _ _ _ _ => pts_nil)
      (fun _ _ _ _ _ => pe_quiet FR qu' hr rfl mR kR bR (pa_cons (pe_call FJ hr1 rfl mJ kJ bJ .nil pass0 (pa_cons (pv 0) (pa_cons (pv 1) pa_nil))) pa_nil))) pa_nil))), ?_⟩
    refine ⟨_, rfl, a, _, rfl, .inl hS, _, _, rfl, _, _, rfl, _, rfl, ?_, ?_, fun D hD => ?_⟩
    · split <;> split <;> omega
    · rw [List.length_map]
      split <;> split <;> omega
    · rw [List.length_map]
      generalize hN : (if (if (4 : Int) < (ns.length : Nat) then (4 : Int) else (ns.length : Nat)) > 2 then (if (4 : Int) < (ns.length : Nat) then (4 : Int) else (ns.length : Nat)) else (2 : Int)).toNat = N
      have hN4 : N ≤ 4 := by
        rw [← hN]
        split <;> split <;> omega
      refine lc_range (lo := 0) (n := N) (fun n H' => Same H H' ∧ H' D = some (.lst ((List.replicate n true).map V.bl))) ⟨same_upd hD, upd_same⟩ ?_ ?_
      · rintro i H1 hi ⟨s1, hD1⟩
        refine ⟨rfl, ?_⟩
        refine ⟨_, rfl, _, rfl, a, ns, i, by rw [Int.zero_add]; rfl, s1.seq hS, hn, by omega, fun j H2 hj s2 jr => ?_⟩
        refine ⟨j, rfl, jr, fun H3 b3 => ?_⟩
        have nD : D ≠ j := ne_of_none hD1 hj
        refine ⟨_, b3 _ _ nD (s2 _ _ hD1), ?_, fun b o e => ?_, ?_⟩
        · rw [List.length_map, List.length_replicate]
          exact Nat.lt_of_lt_of_le hi (Nat.le_trans hN4 (by decide))
        · have nb : b ≠ D := fun z => by
            rw [z, hD] at e
            cases e
          rw [upd_ne nb]
          have e1 := s1 _ _ e
          exact b3 _ _ (ne_of_none e1 hj) (s2 _ _ e1)
        · rw [upd_same, List.replicate_succ', List.map_append]
          rfl
      · rintro H1 ⟨s1, hD1⟩
        refine ⟨D, _, rfl, SqL.of hD1, ?_⟩
        have al : (List.replicate N true).all id = true := by
          rw [List.all_eq_true]
          intro x hx
          rw [List.eq_of_mem_replicate hx]
          rfl
        rw [al]
        exact k H1
end
end KX

set_option Elab.async false
set_option linter.all false
set_option maxRecDepth 100000
set_option maxHeartbeats 4000000
/-! ### what the top has written -/
namespace KX
open PySem PySem.Spec PyProof.Rows L2
def oneB (K : PySem.W.Frag) (C : Addr) : Bool :=
  decide (PySem.W.findIn K (.ref C) "__getattribute__" = some (some (.builtin "BaseException.__getattribute__"))) && (decide (PySem.W.findIn K (.ref C) "__getattr__" = some none) && (decide (PySem.W.subIn K (.ref C) (.type "BaseException") = some true) && (PySem.W.hasDictIn K C &&
  (decide (PySem.W.findIn K (.ref C) "__class__" = some (some (.builtin "object.__class__"))) && (decide (PySem.W.specialIn K (.builtin "object.__class__") "__get__" = some (some (.builtin "getset_descriptor.__get__"))) && (decide (PySem.W.takesIn K (.builtin "object.__class__") = some true) && decide (PySem.W.mroIn K C (.type "object") = some true)))))))
theorem oneB_ok {K : PySem.W.Frag} {C : Addr} (h : oneB K C = true) : ExcC K C := by
  simp only [oneB, Bool.and_eq_true, decide_eq_true_eq] at h
  obtain ⟨h1, h2, h3, h4, h5, h6, h7, h8⟩ := h
  exact ⟨h1, h2, h3, h4, h5, h6, h7, h8⟩
def excB (K : PySem.W.Frag) (C fI : Addr) (f : Str) : Bool :=
  oneB K C && (decide (PySem.W.findIn K (.ref C) "__setattr__" = some (some (.builtin "object.__setattr__"))) && (decide (PySem.W.typeIn K (.ref C) = some (.type "type")) && (PySem.W.keepIn K (.ref C) &&
  (decide (PySem.W.findIn K (.ref C) f = some none) && (decide (PySem.W.findIn K (.ref C) "__init__" = some (some (.ref fI))) && decide (PySem.W.typeIn K (.ref fI) = some (.type "function")))))))
theorem excB_ok {K : PySem.W.Frag} {C fI : Addr} {f : Str} {fd : FuncData} (h : excB K C fI f = true) (cls : ∃ nm q N bs bm sn sub ab col dd k0 k1 k2 k3 k5, K.lookup C = some (excClassObj nm q C N bs bm true sn sub ab col dd k0 k1 k2 k3 k5 "ValueError.__new__") ∧ PySem.HandSPX.refsVE bm = true)
    (b1 : ∀ (s : Shared) (u v : Value), BindsTo s fd ⟨[u, v], []⟩ [("self", u), (f, v)]) (b2 : ∀ (s : Shared) (u v : Value), BindsTo s fd ⟨[u], [(f, v)]⟩ [("self", u), (f, v)]) : ExcT K C fI fd f := by
  simp only [excB, Bool.and_eq_true, decide_eq_true_eq] at h
  obtain ⟨h1, h2, h3, h4, h5, h6, h7⟩ := h
  have e := oneB_ok h1
  exact ⟨⟨cls, h2, e.hs, h3, h4⟩, e, h5, h6, h7, b1, b2⟩
def kitB (K : PySem.W.Frag) (cs : Nat → Addr) : Bool := (List.range 20).all fun i =>
  ((List.range 20).all fun j => decide (PySem.W.kitOne K (.ref (cs i)) (.ref (cs j)) = some (decide (i = j) || decide (j = 19)))) && (decide (PySem.W.kitOne K (.ref (cs i)) (.type "ValueError") = some true) && (decide (PySem.W.kitOne K (.ref (cs i)) (.type "Exception") = some true) &&
  (ourOther.all fun n => decide (PySem.W.kitOne K (.ref (cs i)) (.type n) = some false))))
theorem kitB_ok {K : PySem.W.Frag} {cs : Nat → Addr} (h : kitB K cs = true) (i : Nat) (hi : i < 20) : (∀ j, j < 20 → PySem.W.kitOne K (.ref (cs i)) (.ref (cs j)) = some (decide (i = j) || decide (j = 19))) ∧ PySem.W.kitOne K (.ref (cs i)) (.type "ValueError") = some true ∧ PySem.W.kitOne K (.ref (cs i)) (.type "Exception") = some true ∧ ∀ n ∈ ourOther, PySem.W.kitOne K (.ref (cs i)) (.type n) = some false := by
  have q := List.all_eq_true.mp h i (List.mem_range.mpr hi)
  simp only [Bool.and_eq_true, decide_eq_true_eq] at q
  exact ⟨fun j hj => of_decide_eq_true (List.all_eq_true.mp q.1 j (List.mem_range.mpr hj)), q.2.1, q.2.2.1, fun n hn => of_decide_eq_true (List.all_eq_true.mp q.2.2.2 n hn)⟩
def tab (l : List Addr) : Nat → Addr := fun i => l.getD i 0
theorem all_mk {l : PySem.W.OpenLaw} {w : World} {K : PySem.W.Frag} {h : Heap} {mg : Str → Option Value} {fa : Addr} {C0 C1 C2 C3 C4 C5 C6 C7 C8 C9 C10 C11 C12 C13 C14 C15 C16 C17 C18 C19 I0 I1 I2 I3 I4 I5 I6 I7 I8 I9 I10 I11 I12 I13 I14 I15 I16 I17 I18 f0 f1 f2 f3 f4 f5 f6 f7 f8 f9 f10 : Addr} (X : K.In h) (G : h.Ns mainGlobals mg) (hfa : mg "law" = some (.ref fa))
    (aC0 : PySem.W.nsIn K mainGlobals "InvalidNet" = some (some (.ref C0)))
    (aC1 : PySem.W.nsIn K mainGlobals "InvalidNumber" = some (some (.ref C1)))
    (aC2 : PySem.W.nsIn K mainGlobals "InvalidFraction" = some (some (.ref C2)))
    (aC3 : PySem.W.nsIn K mainGlobals "InvalidPolynomial" = some (some (.ref C3)))
    (aC4 : PySem.W.nsIn K mainGlobals "InvalidOrder" = some (some (.ref C4)))
    (aC5 : PySem.W.nsIn K mainGlobals "InvalidTable" = some (some (.ref C5)))
    (aC6 : PySem.W.nsIn K mainGlobals "InvalidSeries" = some (some (.ref C6)))
    (aC7 : PySem.W.nsIn K mainGlobals "InvalidRow" = some (some (.ref C7)))
    (aC8 : PySem.W.nsIn K mainGlobals "InvalidField" = some (some (.ref C8)))
    (aC9 : PySem.W.nsIn K mainGlobals "InvalidLook" = some (some (.ref C9)))
    (aC10 : PySem.W.nsIn K mainGlobals "InvalidKind" = some (some (.ref C10)))
    (aC11 : PySem.W.nsIn K mainGlobals "InvalidChoice" = some (some (.ref C11)))
    (aC12 : PySem.W.nsIn K mainGlobals "InvalidRenaming" = some (some (.ref C12)))
    (aC13 : PySem.W.nsIn K mainGlobals "TooMany" = some (some (.ref C13)))
    (aC14 : PySem.W.nsIn K mainGlobals "InvalidAssignment" = some (some (.ref C14)))
    (aC15 : PySem.W.nsIn K mainGlobals "InvalidFillings" = some (some (.ref C15)))
    (aC16 : PySem.W.nsIn K mainGlobals "InvalidText" = some (some (.ref C16)))
    (aC17 : PySem.W.nsIn K mainGlobals "InvalidLines" = some (some (.ref C17)))
    (aC18 : PySem.W.nsIn K mainGlobals "InvalidWriting" = some (some (.ref C18)))
    (aC19 : PySem.W.nsIn K mainGlobals "RateError" = some (some (.ref C19)))
    {nm0 q0 : Str} {N0 : Addr} {bs0 bm0 : List Value} {sn0 : List Str} {sub0 : List Value} {ab0 : Bool} {col0 : Option Bool} {dd0 : Option Addr} {ka0 kb0 kc0 kd0 ke0 : Option Value}
    (xC0 : K.lookup C0 = some (excClassObj nm0 q0 C0 N0 bs0 bm0 true sn0 sub0 ab0 col0 dd0 ka0 kb0 kc0 kd0 ke0 "ValueError.__new__"))
    (rv0 : PySem.HandSPX.refsVE bm0 = true)
    (iC0 : PySem.W.findIn K (.ref C0) "__init__" = some (some (.ref I0)))
    {oci0 : Value} {odi0 ani0 : Option Addr} {sli0 : Array (Option Value)} {kVi0 dci0 pmi0 cdi0 cti0 : Value}
    (li0 : K.lookup I0 = some ⟨oci0, odi0, .func (PySem.W.fnOf "__init__" "InvalidNet.__init__" (defArgs (inClass (top 2) 0)) (defBody (inClass (top 2) 0)) (defScope (inClass (top 2) 0)) .none kVi0 dci0 pmi0 ani0 cdi0 cti0), sli0⟩)
    (ci0 : PySem.W.codeIn K cdi0 "InvalidNet.__init__" = true)
    (ki0 : PySem.W.keepIn K (.ref I0) = true)
    (eB0 : excB K C0 I0 "given" = true)
    {nm1 q1 : Str} {N1 : Addr} {bs1 bm1 : List Value} {sn1 : List Str} {sub1 : List Value} {ab1 : Bool} {col1 : Option Bool} {dd1 : Option Addr} {ka1 kb1 kc1 kd1 ke1 : Option Value}
    (xC1 : K.lookup C1 = some (excClassObj nm1 q1 C1 N1 bs1 bm1 true sn1 sub1 ab1 col1 dd1 ka1 kb1 kc1 kd1 ke1 "ValueError.__new__"))
    (rv1 : PySem.HandSPX.refsVE bm1 = true)
    (iC1 : PySem.W.findIn K (.ref C1) "__init__" = some (some (.ref I1)))
    {oci1 : Value} {odi1 ani1 : Option Addr} {sli1 : Array (Option Value)} {kVi1 dci1 pmi1 cdi1 cti1 : Value}
    (li1 : K.lookup I1 = some ⟨oci1, odi1, .func (PySem.W.fnOf "__init__" "InvalidNumber.__init__" (defArgs (inClass (top 3) 0)) (defBody (inClass (top 3) 0)) (defScope (inClass (top 3) 0)) .none kVi1 dci1 pmi1 ani1 cdi1 cti1), sli1⟩)
    (ci1 : PySem.W.codeIn K cdi1 "InvalidNumber.__init__" = true)
    (ki1 : PySem.W.keepIn K (.ref I1) = true)
    (eB1 : excB K C1 I1 "given" = true)
    {nm2 q2 : Str} {N2 : Addr} {bs2 bm2 : List Value} {sn2 : List Str} {sub2 : List Value} {ab2 : Bool} {col2 : Option Bool} {dd2 : Option Addr} {ka2 kb2 kc2 kd2 ke2 : Option Value}
    (xC2 : K.lookup C2 = some (excClassObj nm2 q2 C2 N2 bs2 bm2 true sn2 sub2 ab2 col2 dd2 ka2 kb2 kc2 kd2 ke2 "ValueError.__new__"))
    (rv2 : PySem.HandSPX.refsVE bm2 = true)
    (iC2 : PySem.W.findIn K (.ref C2) "__init__" = some (some (.ref I2)))
    {oci2 : Value} {odi2 ani2 : Option Addr} {sli2 : Array (Option Value)} {kVi2 dci2 pmi2 cdi2 cti2 : Value}
    (li2 : K.lookup I2 = some ⟨oci2, odi2, .func (PySem.W.fnOf "__init__" "InvalidFraction.__init__" (defArgs (inClass (top 4) 0)) (defBody (inClass (top 4) 0)) (defScope (inClass (top 4) 0)) .none kVi2 dci2 pmi2 ani2 cdi2 cti2), sli2⟩)
    (ci2 : PySem.W.codeIn K cdi2 "InvalidFraction.__init__" = true)
    (ki2 : PySem.W.keepIn K (.ref I2) = true)
    (eB2 : excB K C2 I2 "given" = true)
    {nm3 q3 : Str} {N3 : Addr} {bs3 bm3 : List Value} {sn3 : List Str} {sub3 : List Value} {ab3 : Bool} {col3 : Option Bool} {dd3 : Option Addr} {ka3 kb3 kc3 kd3 ke3 : Option Value}
    (xC3 : K.lookup C3 = some (excClassObj nm3 q3 C3 N3 bs3 bm3 true sn3 sub3 ab3 col3 dd3 ka3 kb3 kc3 kd3 ke3 "ValueError.__new__"))
    (rv3 : PySem.HandSPX.refsVE bm3 = true)
    (iC3 : PySem.W.findIn K (.ref C3) "__init__" = some (some (.ref I3)))
    {oci3 : Value} {odi3 ani3 : Option Addr} {sli3 : Array (Option Value)} {kVi3 dci3 pmi3 cdi3 cti3 : Value}
    (li3 : K.lookup I3 = some ⟨oci3, odi3, .func (PySem.W.fnOf "__init__" "InvalidPolynomial.__init__" (defArgs (inClass (top 5) 0)) (defBody (inClass (top 5) 0)) (defScope (inClass (top 5) 0)) .none kVi3 dci3 pmi3 ani3 cdi3 cti3), sli3⟩)
    (ci3 : PySem.W.codeIn K cdi3 "InvalidPolynomial.__init__" = true)
    (ki3 : PySem.W.keepIn K (.ref I3) = true)
    (eB3 : excB K C3 I3 "given" = true)
    {nm4 q4 : Str} {N4 : Addr} {bs4 bm4 : List Value} {sn4 : List Str} {sub4 : List Value} {ab4 : Bool} {col4 : Option Bool} {dd4 : Option Addr} {ka4 kb4 kc4 kd4 ke4 : Option Value}
    (xC4 : K.lookup C4 = some (excClassObj nm4 q4 C4 N4 bs4 bm4 true sn4 sub4 ab4 col4 dd4 ka4 kb4 kc4 kd4 ke4 "ValueError.__new__"))
    (rv4 : PySem.HandSPX.refsVE bm4 = true)
    (iC4 : PySem.W.findIn K (.ref C4) "__init__" = some (some (.ref I4)))
    {oci4 : Value} {odi4 ani4 : Option Addr} {sli4 : Array (Option Value)} {kVi4 dci4 pmi4 cdi4 cti4 : Value}
    (li4 : K.lookup I4 = some ⟨oci4, odi4, .func (PySem.W.fnOf "__init__" "InvalidOrder.__init__" (defArgs (inClass (top 6) 0)) (defBody (inClass (top 6) 0)) (defScope (inClass (top 6) 0)) .none kVi4 dci4 pmi4 ani4 cdi4 cti4), sli4⟩)
    (ci4 : PySem.W.codeIn K cdi4 "InvalidOrder.__init__" = true)
    (ki4 : PySem.W.keepIn K (.ref I4) = true)
    (eB4 : excB K C4 I4 "given" = true)
    {nm5 q5 : Str} {N5 : Addr} {bs5 bm5 : List Value} {sn5 : List Str} {sub5 : List Value} {ab5 : Bool} {col5 : Option Bool} {dd5 : Option Addr} {ka5 kb5 kc5 kd5 ke5 : Option Value}
    (xC5 : K.lookup C5 = some (excClassObj nm5 q5 C5 N5 bs5 bm5 true sn5 sub5 ab5 col5 dd5 ka5 kb5 kc5 kd5 ke5 "ValueError.__new__"))
    (rv5 : PySem.HandSPX.refsVE bm5 = true)
    (iC5 : PySem.W.findIn K (.ref C5) "__init__" = some (some (.ref I5)))
    {oci5 : Value} {odi5 ani5 : Option Addr} {sli5 : Array (Option Value)} {kVi5 dci5 pmi5 cdi5 cti5 : Value}
    (li5 : K.lookup I5 = some ⟨oci5, odi5, .func (PySem.W.fnOf "__init__" "InvalidTable.__init__" (defArgs (inClass (top 7) 0)) (defBody (inClass (top 7) 0)) (defScope (inClass (top 7) 0)) .none kVi5 dci5 pmi5 ani5 cdi5 cti5), sli5⟩)
    (ci5 : PySem.W.codeIn K cdi5 "InvalidTable.__init__" = true)
    (ki5 : PySem.W.keepIn K (.ref I5) = true)
    (eB5 : excB K C5 I5 "given" = true)
    {nm6 q6 : Str} {N6 : Addr} {bs6 bm6 : List Value} {sn6 : List Str} {sub6 : List Value} {ab6 : Bool} {col6 : Option Bool} {dd6 : Option Addr} {ka6 kb6 kc6 kd6 ke6 : Option Value}
    (xC6 : K.lookup C6 = some (excClassObj nm6 q6 C6 N6 bs6 bm6 true sn6 sub6 ab6 col6 dd6 ka6 kb6 kc6 kd6 ke6 "ValueError.__new__"))
    (rv6 : PySem.HandSPX.refsVE bm6 = true)
    (iC6 : PySem.W.findIn K (.ref C6) "__init__" = some (some (.ref I6)))
    {oci6 : Value} {odi6 ani6 : Option Addr} {sli6 : Array (Option Value)} {kVi6 dci6 pmi6 cdi6 cti6 : Value}
    (li6 : K.lookup I6 = some ⟨oci6, odi6, .func (PySem.W.fnOf "__init__" "InvalidSeries.__init__" (defArgs (inClass (top 8) 0)) (defBody (inClass (top 8) 0)) (defScope (inClass (top 8) 0)) .none kVi6 dci6 pmi6 ani6 cdi6 cti6), sli6⟩)
    (ci6 : PySem.W.codeIn K cdi6 "InvalidSeries.__init__" = true)
    (ki6 : PySem.W.keepIn K (.ref I6) = true)
    (eB6 : excB K C6 I6 "given" = true)
    {nm7 q7 : Str} {N7 : Addr} {bs7 bm7 : List Value} {sn7 : List Str} {sub7 : List Value} {ab7 : Bool} {col7 : Option Bool} {dd7 : Option Addr} {ka7 kb7 kc7 kd7 ke7 : Option Value}
    (xC7 : K.lookup C7 = some (excClassObj nm7 q7 C7 N7 bs7 bm7 true sn7 sub7 ab7 col7 dd7 ka7 kb7 kc7 kd7 ke7 "ValueError.__new__"))
    (rv7 : PySem.HandSPX.refsVE bm7 = true)
    (iC7 : PySem.W.findIn K (.ref C7) "__init__" = some (some (.ref I7)))
    {oci7 : Value} {odi7 ani7 : Option Addr} {sli7 : Array (Option Value)} {kVi7 dci7 pmi7 cdi7 cti7 : Value}
    (li7 : K.lookup I7 = some ⟨oci7, odi7, .func (PySem.W.fnOf "__init__" "InvalidRow.__init__" (defArgs (inClass (top 9) 0)) (defBody (inClass (top 9) 0)) (defScope (inClass (top 9) 0)) .none kVi7 dci7 pmi7 ani7 cdi7 cti7), sli7⟩)
    (ci7 : PySem.W.codeIn K cdi7 "InvalidRow.__init__" = true)
    (ki7 : PySem.W.keepIn K (.ref I7) = true)
    (eB7 : excB K C7 I7 "given" = true)
    {nm8 q8 : Str} {N8 : Addr} {bs8 bm8 : List Value} {sn8 : List Str} {sub8 : List Value} {ab8 : Bool} {col8 : Option Bool} {dd8 : Option Addr} {ka8 kb8 kc8 kd8 ke8 : Option Value}
    (xC8 : K.lookup C8 = some (excClassObj nm8 q8 C8 N8 bs8 bm8 true sn8 sub8 ab8 col8 dd8 ka8 kb8 kc8 kd8 ke8 "ValueError.__new__"))
    (rv8 : PySem.HandSPX.refsVE bm8 = true)
    (iC8 : PySem.W.findIn K (.ref C8) "__init__" = some (some (.ref I8)))
    {oci8 : Value} {odi8 ani8 : Option Addr} {sli8 : Array (Option Value)} {kVi8 dci8 pmi8 cdi8 cti8 : Value}
    (li8 : K.lookup I8 = some ⟨oci8, odi8, .func (PySem.W.fnOf "__init__" "InvalidField.__init__" (defArgs (inClass (top 10) 0)) (defBody (inClass (top 10) 0)) (defScope (inClass (top 10) 0)) .none kVi8 dci8 pmi8 ani8 cdi8 cti8), sli8⟩)
    (ci8 : PySem.W.codeIn K cdi8 "InvalidField.__init__" = true)
    (ki8 : PySem.W.keepIn K (.ref I8) = true)
    (eB8 : excB K C8 I8 "given" = true)
    {nm9 q9 : Str} {N9 : Addr} {bs9 bm9 : List Value} {sn9 : List Str} {sub9 : List Value} {ab9 : Bool} {col9 : Option Bool} {dd9 : Option Addr} {ka9 kb9 kc9 kd9 ke9 : Option Value}
    (xC9 : K.lookup C9 = some (excClassObj nm9 q9 C9 N9 bs9 bm9 true sn9 sub9 ab9 col9 dd9 ka9 kb9 kc9 kd9 ke9 "ValueError.__new__"))
    (rv9 : PySem.HandSPX.refsVE bm9 = true)
    (iC9 : PySem.W.findIn K (.ref C9) "__init__" = some (some (.ref I9)))
    {oci9 : Value} {odi9 ani9 : Option Addr} {sli9 : Array (Option Value)} {kVi9 dci9 pmi9 cdi9 cti9 : Value}
    (li9 : K.lookup I9 = some ⟨oci9, odi9, .func (PySem.W.fnOf "__init__" "InvalidLook.__init__" (defArgs (inClass (top 11) 0)) (defBody (inClass (top 11) 0)) (defScope (inClass (top 11) 0)) .none kVi9 dci9 pmi9 ani9 cdi9 cti9), sli9⟩)
    (ci9 : PySem.W.codeIn K cdi9 "InvalidLook.__init__" = true)
    (ki9 : PySem.W.keepIn K (.ref I9) = true)
    (eB9 : excB K C9 I9 "given" = true)
    {nm10 q10 : Str} {N10 : Addr} {bs10 bm10 : List Value} {sn10 : List Str} {sub10 : List Value} {ab10 : Bool} {col10 : Option Bool} {dd10 : Option Addr} {ka10 kb10 kc10 kd10 ke10 : Option Value}
    (xC10 : K.lookup C10 = some (excClassObj nm10 q10 C10 N10 bs10 bm10 true sn10 sub10 ab10 col10 dd10 ka10 kb10 kc10 kd10 ke10 "ValueError.__new__"))
    (rv10 : PySem.HandSPX.refsVE bm10 = true)
    (iC10 : PySem.W.findIn K (.ref C10) "__init__" = some (some (.ref I10)))
    {oci10 : Value} {odi10 ani10 : Option Addr} {sli10 : Array (Option Value)} {kVi10 dci10 pmi10 cdi10 cti10 : Value}
    (li10 : K.lookup I10 = some ⟨oci10, odi10, .func (PySem.W.fnOf "__init__" "InvalidKind.__init__" (defArgs (inClass (top 12) 0)) (defBody (inClass (top 12) 0)) (defScope (inClass (top 12) 0)) .none kVi10 dci10 pmi10 ani10 cdi10 cti10), sli10⟩)
    (ci10 : PySem.W.codeIn K cdi10 "InvalidKind.__init__" = true)
    (ki10 : PySem.W.keepIn K (.ref I10) = true)
    (eB10 : excB K C10 I10 "given" = true)
    {nm11 q11 : Str} {N11 : Addr} {bs11 bm11 : List Value} {sn11 : List Str} {sub11 : List Value} {ab11 : Bool} {col11 : Option Bool} {dd11 : Option Addr} {ka11 kb11 kc11 kd11 ke11 : Option Value}
    (xC11 : K.lookup C11 = some (excClassObj nm11 q11 C11 N11 bs11 bm11 true sn11 sub11 ab11 col11 dd11 ka11 kb11 kc11 kd11 ke11 "ValueError.__new__"))
    (rv11 : PySem.HandSPX.refsVE bm11 = true)
    (iC11 : PySem.W.findIn K (.ref C11) "__init__" = some (some (.ref I11)))
    {oci11 : Value} {odi11 ani11 : Option Addr} {sli11 : Array (Option Value)} {kVi11 dci11 pmi11 cdi11 cti11 : Value}
    (li11 : K.lookup I11 = some ⟨oci11, odi11, .func (PySem.W.fnOf "__init__" "InvalidChoice.__init__" (defArgs (inClass (top 13) 0)) (defBody (inClass (top 13) 0)) (defScope (inClass (top 13) 0)) .none kVi11 dci11 pmi11 ani11 cdi11 cti11), sli11⟩)
    (ci11 : PySem.W.codeIn K cdi11 "InvalidChoice.__init__" = true)
    (ki11 : PySem.W.keepIn K (.ref I11) = true)
    (eB11 : excB K C11 I11 "given" = true)
    {nm12 q12 : Str} {N12 : Addr} {bs12 bm12 : List Value} {sn12 : List Str} {sub12 : List Value} {ab12 : Bool} {col12 : Option Bool} {dd12 : Option Addr} {ka12 kb12 kc12 kd12 ke12 : Option Value}
    (xC12 : K.lookup C12 = some (excClassObj nm12 q12 C12 N12 bs12 bm12 true sn12 sub12 ab12 col12 dd12 ka12 kb12 kc12 kd12 ke12 "ValueError.__new__"))
    (rv12 : PySem.HandSPX.refsVE bm12 = true)
    (iC12 : PySem.W.findIn K (.ref C12) "__init__" = some (some (.ref I12)))
    {oci12 : Value} {odi12 ani12 : Option Addr} {sli12 : Array (Option Value)} {kVi12 dci12 pmi12 cdi12 cti12 : Value}
    (li12 : K.lookup I12 = some ⟨oci12, odi12, .func (PySem.W.fnOf "__init__" "InvalidRenaming.__init__" (defArgs (inClass (top 14) 0)) (defBody (inClass (top 14) 0)) (defScope (inClass (top 14) 0)) .none kVi12 dci12 pmi12 ani12 cdi12 cti12), sli12⟩)
    (ci12 : PySem.W.codeIn K cdi12 "InvalidRenaming.__init__" = true)
    (ki12 : PySem.W.keepIn K (.ref I12) = true)
    (eB12 : excB K C12 I12 "given" = true)
    {nm13 q13 : Str} {N13 : Addr} {bs13 bm13 : List Value} {sn13 : List Str} {sub13 : List Value} {ab13 : Bool} {col13 : Option Bool} {dd13 : Option Addr} {ka13 kb13 kc13 kd13 ke13 : Option Value}
    (xC13 : K.lookup C13 = some (excClassObj nm13 q13 C13 N13 bs13 bm13 true sn13 sub13 ab13 col13 dd13 ka13 kb13 kc13 kd13 ke13 "ValueError.__new__"))
    (rv13 : PySem.HandSPX.refsVE bm13 = true)
    (iC13 : PySem.W.findIn K (.ref C13) "__init__" = some (some (.ref I13)))
    {oci13 : Value} {odi13 ani13 : Option Addr} {sli13 : Array (Option Value)} {kVi13 dci13 pmi13 cdi13 cti13 : Value}
    (li13 : K.lookup I13 = some ⟨oci13, odi13, .func (PySem.W.fnOf "__init__" "TooMany.__init__" (defArgs (inClass (top 15) 0)) (defBody (inClass (top 15) 0)) (defScope (inClass (top 15) 0)) .none kVi13 dci13 pmi13 ani13 cdi13 cti13), sli13⟩)
    (ci13 : PySem.W.codeIn K cdi13 "TooMany.__init__" = true)
    (ki13 : PySem.W.keepIn K (.ref I13) = true)
    (eB13 : excB K C13 I13 "given" = true)
    {nm14 q14 : Str} {N14 : Addr} {bs14 bm14 : List Value} {sn14 : List Str} {sub14 : List Value} {ab14 : Bool} {col14 : Option Bool} {dd14 : Option Addr} {ka14 kb14 kc14 kd14 ke14 : Option Value}
    (xC14 : K.lookup C14 = some (excClassObj nm14 q14 C14 N14 bs14 bm14 true sn14 sub14 ab14 col14 dd14 ka14 kb14 kc14 kd14 ke14 "ValueError.__new__"))
    (rv14 : PySem.HandSPX.refsVE bm14 = true)
    (iC14 : PySem.W.findIn K (.ref C14) "__init__" = some (some (.ref I14)))
    {oci14 : Value} {odi14 ani14 : Option Addr} {sli14 : Array (Option Value)} {kVi14 dci14 pmi14 cdi14 cti14 : Value}
    (li14 : K.lookup I14 = some ⟨oci14, odi14, .func (PySem.W.fnOf "__init__" "InvalidAssignment.__init__" (defArgs (inClass (top 16) 0)) (defBody (inClass (top 16) 0)) (defScope (inClass (top 16) 0)) .none kVi14 dci14 pmi14 ani14 cdi14 cti14), sli14⟩)
    (ci14 : PySem.W.codeIn K cdi14 "InvalidAssignment.__init__" = true)
    (ki14 : PySem.W.keepIn K (.ref I14) = true)
    (eB14 : excB K C14 I14 "index" = true)
    {nm15 q15 : Str} {N15 : Addr} {bs15 bm15 : List Value} {sn15 : List Str} {sub15 : List Value} {ab15 : Bool} {col15 : Option Bool} {dd15 : Option Addr} {ka15 kb15 kc15 kd15 ke15 : Option Value}
    (xC15 : K.lookup C15 = some (excClassObj nm15 q15 C15 N15 bs15 bm15 true sn15 sub15 ab15 col15 dd15 ka15 kb15 kc15 kd15 ke15 "ValueError.__new__"))
    (rv15 : PySem.HandSPX.refsVE bm15 = true)
    (iC15 : PySem.W.findIn K (.ref C15) "__init__" = some (some (.ref I15)))
    {oci15 : Value} {odi15 ani15 : Option Addr} {sli15 : Array (Option Value)} {kVi15 dci15 pmi15 cdi15 cti15 : Value}
    (li15 : K.lookup I15 = some ⟨oci15, odi15, .func (PySem.W.fnOf "__init__" "InvalidFillings.__init__" (defArgs (inClass (top 17) 0)) (defBody (inClass (top 17) 0)) (defScope (inClass (top 17) 0)) .none kVi15 dci15 pmi15 ani15 cdi15 cti15), sli15⟩)
    (ci15 : PySem.W.codeIn K cdi15 "InvalidFillings.__init__" = true)
    (ki15 : PySem.W.keepIn K (.ref I15) = true)
    (eB15 : excB K C15 I15 "index" = true)
    {nm16 q16 : Str} {N16 : Addr} {bs16 bm16 : List Value} {sn16 : List Str} {sub16 : List Value} {ab16 : Bool} {col16 : Option Bool} {dd16 : Option Addr} {ka16 kb16 kc16 kd16 ke16 : Option Value}
    (xC16 : K.lookup C16 = some (excClassObj nm16 q16 C16 N16 bs16 bm16 true sn16 sub16 ab16 col16 dd16 ka16 kb16 kc16 kd16 ke16 "ValueError.__new__"))
    (rv16 : PySem.HandSPX.refsVE bm16 = true)
    (iC16 : PySem.W.findIn K (.ref C16) "__init__" = some (some (.ref I16)))
    {oci16 : Value} {odi16 ani16 : Option Addr} {sli16 : Array (Option Value)} {kVi16 dci16 pmi16 cdi16 cti16 : Value}
    (li16 : K.lookup I16 = some ⟨oci16, odi16, .func (PySem.W.fnOf "__init__" "InvalidText.__init__" (defArgs (inClass (top 18) 0)) (defBody (inClass (top 18) 0)) (defScope (inClass (top 18) 0)) .none kVi16 dci16 pmi16 ani16 cdi16 cti16), sli16⟩)
    (ci16 : PySem.W.codeIn K cdi16 "InvalidText.__init__" = true)
    (ki16 : PySem.W.keepIn K (.ref I16) = true)
    (eB16 : excB K C16 I16 "index" = true)
    {nm17 q17 : Str} {N17 : Addr} {bs17 bm17 : List Value} {sn17 : List Str} {sub17 : List Value} {ab17 : Bool} {col17 : Option Bool} {dd17 : Option Addr} {ka17 kb17 kc17 kd17 ke17 : Option Value}
    (xC17 : K.lookup C17 = some (excClassObj nm17 q17 C17 N17 bs17 bm17 true sn17 sub17 ab17 col17 dd17 ka17 kb17 kc17 kd17 ke17 "ValueError.__new__"))
    (rv17 : PySem.HandSPX.refsVE bm17 = true)
    (iC17 : PySem.W.findIn K (.ref C17) "__init__" = some (some (.ref I17)))
    {oci17 : Value} {odi17 ani17 : Option Addr} {sli17 : Array (Option Value)} {kVi17 dci17 pmi17 cdi17 cti17 : Value}
    (li17 : K.lookup I17 = some ⟨oci17, odi17, .func (PySem.W.fnOf "__init__" "InvalidLines.__init__" (defArgs (inClass (top 19) 0)) (defBody (inClass (top 19) 0)) (defScope (inClass (top 19) 0)) .none kVi17 dci17 pmi17 ani17 cdi17 cti17), sli17⟩)
    (ci17 : PySem.W.codeIn K cdi17 "InvalidLines.__init__" = true)
    (ki17 : PySem.W.keepIn K (.ref I17) = true)
    (eB17 : excB K C17 I17 "index" = true)
    {nm18 q18 : Str} {N18 : Addr} {bs18 bm18 : List Value} {sn18 : List Str} {sub18 : List Value} {ab18 : Bool} {col18 : Option Bool} {dd18 : Option Addr} {ka18 kb18 kc18 kd18 ke18 : Option Value}
    (xC18 : K.lookup C18 = some (excClassObj nm18 q18 C18 N18 bs18 bm18 true sn18 sub18 ab18 col18 dd18 ka18 kb18 kc18 kd18 ke18 "ValueError.__new__"))
    (rv18 : PySem.HandSPX.refsVE bm18 = true)
    (iC18 : PySem.W.findIn K (.ref C18) "__init__" = some (some (.ref I18)))
    {oci18 : Value} {odi18 ani18 : Option Addr} {sli18 : Array (Option Value)} {kVi18 dci18 pmi18 cdi18 cti18 : Value}
    (li18 : K.lookup I18 = some ⟨oci18, odi18, .func (PySem.W.fnOf "__init__" "InvalidWriting.__init__" (defArgs (inClass (top 20) 0)) (defBody (inClass (top 20) 0)) (defScope (inClass (top 20) 0)) .none kVi18 dci18 pmi18 ani18 cdi18 cti18), sli18⟩)
    (ci18 : PySem.W.codeIn K cdi18 "InvalidWriting.__init__" = true)
    (ki18 : PySem.W.keepIn K (.ref I18) = true)
    (eB18 : excB K C18 I18 "place" = true)
    (eB19 : oneB K C19 = true)
    (k0 : PySem.W.excIn K C19 HandSPX.veTail "ValueError.__new__" = true)
    (kp : PySem.W.keepIn K (.ref C19) = true)
    (kit : kitB K (tab [C0, C1, C2, C3, C4, C5, C6, C7, C8, C9, C10, C11, C12, C13, C14, C15, C16, C17, C18, C19]) = true)
    (a0 : PySem.W.nsIn K mainGlobals "_law_jar" = some (some (.ref f0)))
    {oc0 : Value} {od0 an0 : Option Addr} {sl0 : Array (Option Value)} {kV0 dc0 pm0 cd0 ct0 : Value}
    (l0 : K.lookup f0 = some ⟨oc0, od0, .func (PySem.W.fnOf "_law_jar" "_law_jar" (defArgs sJar) (defBody sJar) (defScope sJar) .none kV0 dc0 pm0 an0 cd0 ct0), sl0⟩)
    (c0 : PySem.W.codeIn K cd0 "_law_jar" = true)
    (kk0 : PySem.W.keepIn K (.ref f0) = true)
    (a1 : PySem.W.nsIn K mainGlobals "_law_dip" = some (some (.ref f1)))
    {oc1 : Value} {od1 an1 : Option Addr} {sl1 : Array (Option Value)} {kV1 dc1 pm1 cd1 ct1 : Value}
    (l1 : K.lookup f1 = some ⟨oc1, od1, .func (PySem.W.fnOf "_law_dip" "_law_dip" (defArgs sDip) (defBody sDip) (defScope sDip) .none kV1 dc1 pm1 an1 cd1 ct1), sl1⟩)
    (c1 : PySem.W.codeIn K cd1 "_law_dip" = true)
    (kk1 : PySem.W.keepIn K (.ref f1) = true)
    (a2 : PySem.W.nsIn K mainGlobals "_law_one_of" = some (some (.ref f2)))
    {oc2 : Value} {od2 an2 : Option Addr} {sl2 : Array (Option Value)} {kV2 dc2 pm2 cd2 ct2 : Value}
    (l2 : K.lookup f2 = some ⟨oc2, od2, .func (PySem.W.fnOf "_law_one_of" "_law_one_of" (defArgs sOne) (defBody sOne) (defScope sOne) .none kV2 dc2 pm2 an2 cd2 ct2), sl2⟩)
    (c2 : PySem.W.codeIn K cd2 "_law_one_of" = true)
    (kk2 : PySem.W.keepIn K (.ref f2) = true)
    (a3 : PySem.W.nsIn K mainGlobals "_law_thing" = some (some (.ref f3)))
    {oc3 : Value} {od3 an3 : Option Addr} {sl3 : Array (Option Value)} {kV3 dc3 pm3 cd3 ct3 : Value}
    (l3 : K.lookup f3 = some ⟨oc3, od3, .func (PySem.W.fnOf "_law_thing" "_law_thing" (defArgs sThing) (defBody sThing) (defScope sThing) .none kV3 dc3 pm3 an3 cd3 ct3), sl3⟩)
    (c3 : PySem.W.codeIn K cd3 "_law_thing" = true)
    (kk3 : PySem.W.keepIn K (.ref f3) = true)
    (a4 : PySem.W.nsIn K mainGlobals "_law_given" = some (some (.ref f4)))
    {oc4 : Value} {od4 an4 : Option Addr} {sl4 : Array (Option Value)} {kV4 dc4 pm4 cd4 ct4 : Value}
    (l4 : K.lookup f4 = some ⟨oc4, od4, .func (PySem.W.fnOf "_law_given" "_law_given" (defArgs sGiven) (defBody sGiven) (defScope sGiven) .none kV4 dc4 pm4 an4 cd4 ct4), sl4⟩)
    (c4 : PySem.W.codeIn K cd4 "_law_given" = true)
    (kk4 : PySem.W.keepIn K (.ref f4) = true)
    (a5 : PySem.W.nsIn K mainGlobals "_law_indexed" = some (some (.ref f5)))
    {oc5 : Value} {od5 an5 : Option Addr} {sl5 : Array (Option Value)} {kV5 dc5 pm5 cd5 ct5 : Value}
    (l5 : K.lookup f5 = some ⟨oc5, od5, .func (PySem.W.fnOf "_law_indexed" "_law_indexed" (defArgs sIndexed) (defBody sIndexed) (defScope sIndexed) .none kV5 dc5 pm5 an5 cd5 ct5), sl5⟩)
    (c5 : PySem.W.codeIn K cd5 "_law_indexed" = true)
    (kk5 : PySem.W.keepIn K (.ref f5) = true)
    (a6 : PySem.W.nsIn K mainGlobals "_law_under" = some (some (.ref f6)))
    {oc6 : Value} {od6 an6 : Option Addr} {sl6 : Array (Option Value)} {kV6 dc6 pm6 cd6 ct6 : Value}
    (l6 : K.lookup f6 = some ⟨oc6, od6, .func (PySem.W.fnOf "_law_under" "_law_under" (defArgs sUnder) (defBody sUnder) (defScope sUnder) .none kV6 dc6 pm6 an6 cd6 ct6), sl6⟩)
    (c6 : PySem.W.codeIn K cd6 "_law_under" = true)
    (kk6 : PySem.W.keepIn K (.ref f6) = true)
    (a7 : PySem.W.nsIn K mainGlobals "_law_stands" = some (some (.ref f7)))
    {oc7 : Value} {od7 an7 : Option Addr} {sl7 : Array (Option Value)} {kV7 dc7 pm7 cd7 ct7 : Value}
    (l7 : K.lookup f7 = some ⟨oc7, od7, .func (PySem.W.fnOf "_law_stands" "_law_stands" (defArgs sStands) (defBody sStands) (defScope sStands) .none kV7 dc7 pm7 an7 cd7 ct7), sl7⟩)
    (c7 : PySem.W.codeIn K cd7 "_law_stands" = true)
    (kk7 : PySem.W.keepIn K (.ref f7) = true)
    (a8 : PySem.W.nsIn K mainGlobals "_law_is_base" = some (some (.ref f8)))
    {oc8 : Value} {od8 an8 : Option Addr} {sl8 : Array (Option Value)} {kV8 dc8 pm8 cd8 ct8 : Value}
    (l8 : K.lookup f8 = some ⟨oc8, od8, .func (PySem.W.fnOf "_law_is_base" "_law_is_base" (defArgs sBase) (defBody sBase) (defScope sBase) .none kV8 dc8 pm8 an8 cd8 ct8), sl8⟩)
    (c8 : PySem.W.codeIn K cd8 "_law_is_base" = true)
    (kk8 : PySem.W.keepIn K (.ref f8) = true)
    (a9 : PySem.W.nsIn K mainGlobals "_law_right" = some (some (.ref f9)))
    {oc9 : Value} {od9 an9 : Option Addr} {sl9 : Array (Option Value)} {kV9 dc9 pm9 cd9 ct9 : Value}
    (l9 : K.lookup f9 = some ⟨oc9, od9, .func (PySem.W.fnOf "_law_right" "_law_right" (defArgs sRight) (defBody sRight) (defScope sRight) .none kV9 dc9 pm9 an9 cd9 ct9), sl9⟩)
    (c9 : PySem.W.codeIn K cd9 "_law_right" = true)
    (kk9 : PySem.W.keepIn K (.ref f9) = true)
    (a10 : PySem.W.nsIn K mainGlobals "law" = some (some (.ref f10)))
    {oc10 : Value} {od10 an10 : Option Addr} {sl10 : Array (Option Value)} {kV10 dc10 pm10 cd10 ct10 : Value}
    (l10 : K.lookup f10 = some ⟨oc10, od10, .func (PySem.W.fnOf "law" "law" (defArgs sLaw) (defBody sLaw) (defScope sLaw) .none kV10 dc10 pm10 an10 cd10 ct10), sl10⟩)
    (c10 : PySem.W.codeIn K cd10 "law" = true)
    (kk10 : PySem.W.keepIn K (.ref f10) = true)
    (zint : PySem.W.nsIn K mainGlobals "int" = some none)
    (zlen : PySem.W.nsIn K mainGlobals "len" = some none)
    (zabs : PySem.W.nsIn K mainGlobals "abs" = some none)
    (zdivmod : PySem.W.nsIn K mainGlobals "divmod" = some none)
    (zstr : PySem.W.nsIn K mainGlobals "str" = some none)
    (zisinstance : PySem.W.nsIn K mainGlobals "isinstance" = some none)
    (zenumerate : PySem.W.nsIn K mainGlobals "enumerate" = some none)
    (zrepr : PySem.W.nsIn K mainGlobals "repr" = some none)
    (zValueError : PySem.W.nsIn K mainGlobals "ValueError" = some none)
    (zException : PySem.W.nsIn K mainGlobals "Exception" = some none)
    (zLookupError : PySem.W.nsIn K mainGlobals "LookupError" = some none)
    (zTypeError : PySem.W.nsIn K mainGlobals "TypeError" = some none)
    (zArithmeticError : PySem.W.nsIn K mainGlobals "ArithmeticError" = some none)
    (zRuntimeError : PySem.W.nsIn K mainGlobals "RuntimeError" = some none)
    (zAttributeError : PySem.W.nsIn K mainGlobals "AttributeError" = some none)
    (zall : PySem.W.nsIn K mainGlobals "all" = some none)
    (zrange : PySem.W.nsIn K mainGlobals "range" = some none)
    (zmax : PySem.W.nsIn K mainGlobals "max" = some none)
    (zmin : PySem.W.nsIn K mainGlobals "min" = some none)
    : ∃ fd : FuncData, (∀ (s : Shared) (v : Value), BindsTo s fd ⟨[v], []⟩ [("script", v)]) ∧ ∀ base : Heap, K.In base → base.Ns mainGlobals mg → FnG l.prog w K mg base 5 fa fd ["script"] (spLaw K) := by
  have e := hfa.symm.trans (PySem.W.mg_of X G a10)
  cases e
  have Fi0 := fun_mk (st := (inClass (top 2) 0)) li0 ci0 ki0
  have Te0 : ExcT K C0 I0 _ "given" := excB_ok eB0 ⟨_, _, _, _, _, _, _, _, _, _, _, _, _, _, _, xC0, rv0⟩ (fd := PySem.W.fnOf "__init__" "InvalidNet.__init__" (defArgs (inClass (top 2) 0)) (defBody (inClass (top 2) 0)) (defScope (inClass (top 2) 0)) .none kVi0 dci0 pmi0 ani0 cdi0 cti0) (fun _ _ _ => .of_eq rfl) (fun _ _ _ => .of_eq rfl)
  have Fi1 := fun_mk (st := (inClass (top 3) 0)) li1 ci1 ki1
  have Te1 : ExcT K C1 I1 _ "given" := excB_ok eB1 ⟨_, _, _, _, _, _, _, _, _, _, _, _, _, _, _, xC1, rv1⟩ (fd := PySem.W.fnOf "__init__" "InvalidNumber.__init__" (defArgs (inClass (top 3) 0)) (defBody (inClass (top 3) 0)) (defScope (inClass (top 3) 0)) .none kVi1 dci1 pmi1 ani1 cdi1 cti1) (fun _ _ _ => .of_eq rfl) (fun _ _ _ => .of_eq rfl)
  have Fi2 := fun_mk (st := (inClass (top 4) 0)) li2 ci2 ki2
  have Te2 : ExcT K C2 I2 _ "given" := excB_ok eB2 ⟨_, _, _, _, _, _, _, _, _, _, _, _, _, _, _, xC2, rv2⟩ (fd := PySem.W.fnOf "__init__" "InvalidFraction.__init__" (defArgs (inClass (top 4) 0)) (defBody (inClass (top 4) 0)) (defScope (inClass (top 4) 0)) .none kVi2 dci2 pmi2 ani2 cdi2 cti2) (fun _ _ _ => .of_eq rfl) (fun _ _ _ => .of_eq rfl)
  have Fi3 := fun_mk (st := (inClass (top 5) 0)) li3 ci3 ki3
  have Te3 : ExcT K C3 I3 _ "given" := excB_ok eB3 ⟨_, _, _, _, _, _, _, _, _, _, _, _, _, _, _, xC3, rv3⟩ (fd := PySem.W.fnOf "__init__" "InvalidPolynomial.__init__" (defArgs (inClass (top 5) 0)) (defBody (inClass (top 5) 0)) (defScope (inClass (top 5) 0)) .none kVi3 dci3 pmi3 ani3 cdi3 cti3) (fun _ _ _ => .of_eq rfl) (fun _ _ _ => .of_eq rfl)
  have Fi4 := fun_mk (st := (inClass (top 6) 0)) li4 ci4 ki4
  have Te4 : ExcT K C4 I4 _ "given" := excB_ok eB4 ⟨_, _, _, _, _, _, _, _, _, _, _, _, _, _, _, xC4, rv4⟩ (fd := PySem.W.fnOf "__init__" "InvalidOrder.__init__" (defArgs (inClass (top 6) 0)) (defBody (inClass (top 6) 0)) (defScope (inClass (top 6) 0)) .none kVi4 dci4 pmi4 ani4 cdi4 cti4) (fun _ _ _ => .of_eq rfl) (fun _ _ _ => .of_eq rfl)
  have Fi5 := fun_mk (st := (inClass (top 7) 0)) li5 ci5 ki5
  have Te5 : ExcT K C5 I5 _ "given" := excB_ok eB5 ⟨_, _, _, _, _, _, _, _, _, _, _, _, _, _, _, xC5, rv5⟩ (fd := PySem.W.fnOf "__init__" "InvalidTable.__init__" (defArgs (inClass (top 7) 0)) (defBody (inClass (top 7) 0)) (defScope (inClass (top 7) 0)) .none kVi5 dci5 pmi5 ani5 cdi5 cti5) (fun _ _ _ => .of_eq rfl) (fun _ _ _ => .of_eq rfl)
  have Fi6 := fun_mk (st := (inClass (top 8) 0)) li6 ci6 ki6
  have Te6 : ExcT K C6 I6 _ "given" := excB_ok eB6 ⟨_, _, _, _, _, _, _, _, _, _, _, _, _, _, _, xC6, rv6⟩ (fd := PySem.W.fnOf "__init__" "InvalidSeries.__init__" (defArgs (inClass (top 8) 0)) (defBody (inClass (top 8) 0)) (defScope (inClass (top 8) 0)) .none kVi6 dci6 pmi6 ani6 cdi6 cti6) (fun _ _ _ => .of_eq rfl) (fun _ _ _ => .of_eq rfl)
  have Fi7 := fun_mk (st := (inClass (top 9) 0)) li7 ci7 ki7
  have Te7 : ExcT K C7 I7 _ "given" := excB_ok eB7 ⟨_, _, _, _, _, _, _, _, _, _, _, _, _, _, _, xC7, rv7⟩ (fd := PySem.W.fnOf "__init__" "InvalidRow.__init__" (defArgs (inClass (top 9) 0)) (defBody (inClass (top 9) 0)) (defScope (inClass (top 9) 0)) .none kVi7 dci7 pmi7 ani7 cdi7 cti7) (fun _ _ _ => .of_eq rfl) (fun _ _ _ => .of_eq rfl)
  have Fi8 := fun_mk (st := (inClass (top 10) 0)) li8 ci8 ki8
  have Te8 : ExcT K C8 I8 _ "given" := excB_ok eB8 ⟨_, _, _, _, _, _, _, _, _, _, _, _, _, _, _, xC8, rv8⟩ (fd := PySem.W.fnOf "__init__" "InvalidField.__init__" (defArgs (inClass (top 10) 0)) (defBody (inClass (top 10) 0)) (defScope (inClass (top 10) 0)) .none kVi8 dci8 pmi8 ani8 cdi8 cti8) (fun _ _ _ => .of_eq rfl) (fun _ _ _ => .of_eq rfl)
  have Fi9 := fun_mk (st := (inClass (top 11) 0)) li9 ci9 ki9
  have Te9 : ExcT K C9 I9 _ "given" := excB_ok eB9 ⟨_, _, _, _, _, _, _, _, _, _, _, _, _, _, _, xC9, rv9⟩ (fd := PySem.W.fnOf "__init__" "InvalidLook.__init__" (defArgs (inClass (top 11) 0)) (defBody (inClass (top 11) 0)) (defScope (inClass (top 11) 0)) .none kVi9 dci9 pmi9 ani9 cdi9 cti9) (fun _ _ _ => .of_eq rfl) (fun _ _ _ => .of_eq rfl)
  have Fi10 := fun_mk (st := (inClass (top 12) 0)) li10 ci10 ki10
  have Te10 : ExcT K C10 I10 _ "given" := excB_ok eB10 ⟨_, _, _, _, _, _, _, _, _, _, _, _, _, _, _, xC10, rv10⟩ (fd := PySem.W.fnOf "__init__" "InvalidKind.__init__" (defArgs (inClass (top 12) 0)) (defBody (inClass (top 12) 0)) (defScope (inClass (top 12) 0)) .none kVi10 dci10 pmi10 ani10 cdi10 cti10) (fun _ _ _ => .of_eq rfl) (fun _ _ _ => .of_eq rfl)
  have Fi11 := fun_mk (st := (inClass (top 13) 0)) li11 ci11 ki11
  have Te11 : ExcT K C11 I11 _ "given" := excB_ok eB11 ⟨_, _, _, _, _, _, _, _, _, _, _, _, _, _, _, xC11, rv11⟩ (fd := PySem.W.fnOf "__init__" "InvalidChoice.__init__" (defArgs (inClass (top 13) 0)) (defBody (inClass (top 13) 0)) (defScope (inClass (top 13) 0)) .none kVi11 dci11 pmi11 ani11 cdi11 cti11) (fun _ _ _ => .of_eq rfl) (fun _ _ _ => .of_eq rfl)
  have Fi12 := fun_mk (st := (inClass (top 14) 0)) li12 ci12 ki12
  have Te12 : ExcT K C12 I12 _ "given" := excB_ok eB12 ⟨_, _, _, _, _, _, _, _, _, _, _, _, _, _, _, xC12, rv12⟩ (fd := PySem.W.fnOf "__init__" "InvalidRenaming.__init__" (defArgs (inClass (top 14) 0)) (defBody (inClass (top 14) 0)) (defScope (inClass (top 14) 0)) .none kVi12 dci12 pmi12 ani12 cdi12 cti12) (fun _ _ _ => .of_eq rfl) (fun _ _ _ => .of_eq rfl)
  have Fi13 := fun_mk (st := (inClass (top 15) 0)) li13 ci13 ki13
  have Te13 : ExcT K C13 I13 _ "given" := excB_ok eB13 ⟨_, _, _, _, _, _, _, _, _, _, _, _, _, _, _, xC13, rv13⟩ (fd := PySem.W.fnOf "__init__" "TooMany.__init__" (defArgs (inClass (top 15) 0)) (defBody (inClass (top 15) 0)) (defScope (inClass (top 15) 0)) .none kVi13 dci13 pmi13 ani13 cdi13 cti13) (fun _ _ _ => .of_eq rfl) (fun _ _ _ => .of_eq rfl)
  have Fi14 := fun_mk (st := (inClass (top 16) 0)) li14 ci14 ki14
  have Te14 : ExcT K C14 I14 _ "index" := excB_ok eB14 ⟨_, _, _, _, _, _, _, _, _, _, _, _, _, _, _, xC14, rv14⟩ (fd := PySem.W.fnOf "__init__" "InvalidAssignment.__init__" (defArgs (inClass (top 16) 0)) (defBody (inClass (top 16) 0)) (defScope (inClass (top 16) 0)) .none kVi14 dci14 pmi14 ani14 cdi14 cti14) (fun _ _ _ => .of_eq rfl) (fun _ _ _ => .of_eq rfl)
  have Fi15 := fun_mk (st := (inClass (top 17) 0)) li15 ci15 ki15
  have Te15 : ExcT K C15 I15 _ "index" := excB_ok eB15 ⟨_, _, _, _, _, _, _, _, _, _, _, _, _, _, _, xC15, rv15⟩ (fd := PySem.W.fnOf "__init__" "InvalidFillings.__init__" (defArgs (inClass (top 17) 0)) (defBody (inClass (top 17) 0)) (defScope (inClass (top 17) 0)) .none kVi15 dci15 pmi15 ani15 cdi15 cti15) (fun _ _ _ => .of_eq rfl) (fun _ _ _ => .of_eq rfl)
  have Fi16 := fun_mk (st := (inClass (top 18) 0)) li16 ci16 ki16
  have Te16 : ExcT K C16 I16 _ "index" := excB_ok eB16 ⟨_, _, _, _, _, _, _, _, _, _, _, _, _, _, _, xC16, rv16⟩ (fd := PySem.W.fnOf "__init__" "InvalidText.__init__" (defArgs (inClass (top 18) 0)) (defBody (inClass (top 18) 0)) (defScope (inClass (top 18) 0)) .none kVi16 dci16 pmi16 ani16 cdi16 cti16) (fun _ _ _ => .of_eq rfl) (fun _ _ _ => .of_eq rfl)
  have Fi17 := fun_mk (st := (inClass (top 19) 0)) li17 ci17 ki17
  have Te17 : ExcT K C17 I17 _ "index" := excB_ok eB17 ⟨_, _, _, _, _, _, _, _, _, _, _, _, _, _, _, xC17, rv17⟩ (fd := PySem.W.fnOf "__init__" "InvalidLines.__init__" (defArgs (inClass (top 19) 0)) (defBody (inClass (top 19) 0)) (defScope (inClass (top 19) 0)) .none kVi17 dci17 pmi17 ani17 cdi17 cti17) (fun _ _ _ => .of_eq rfl) (fun _ _ _ => .of_eq rfl)
  have Fi18 := fun_mk (st := (inClass (top 20) 0)) li18 ci18 ki18
  have Te18 : ExcT K C18 I18 _ "place" := excB_ok eB18 ⟨_, _, _, _, _, _, _, _, _, _, _, _, _, _, _, xC18, rv18⟩ (fd := PySem.W.fnOf "__init__" "InvalidWriting.__init__" (defArgs (inClass (top 20) 0)) (defBody (inClass (top 20) 0)) (defScope (inClass (top 20) 0)) .none kVi18 dci18 pmi18 ani18 cdi18 cti18) (fun _ _ _ => .of_eq rfl) (fun _ _ _ => .of_eq rfl)
  have F0 := fun_mk (st := sJar) l0 c0 kk0
  have m0 := PySem.W.mg_of X G a0
  have F1 := fun_mk (st := sDip) l1 c1 kk1
  have m1 := PySem.W.mg_of X G a1
  have F2 := fun_mk (st := sOne) l2 c2 kk2
  have m2 := PySem.W.mg_of X G a2
  have F3 := fun_mk (st := sThing) l3 c3 kk3
  have m3 := PySem.W.mg_of X G a3
  have F4 := fun_mk (st := sGiven) l4 c4 kk4
  have m4 := PySem.W.mg_of X G a4
  have F5 := fun_mk (st := sIndexed) l5 c5 kk5
  have m5 := PySem.W.mg_of X G a5
  have F6 := fun_mk (st := sUnder) l6 c6 kk6
  have m6 := PySem.W.mg_of X G a6
  have F7 := fun_mk (st := sStands) l7 c7 kk7
  have m7 := PySem.W.mg_of X G a7
  have F8 := fun_mk (st := sBase) l8 c8 kk8
  have m8 := PySem.W.mg_of X G a8
  have F9 := fun_mk (st := sRight) l9 c9 kk9
  have m9 := PySem.W.mg_of X G a9
  have F10 := fun_mk (st := sLaw) l10 c10 kk10
  have m10 := PySem.W.mg_of X G a10
  have b0 := F0.binds (ps := ["script", "turn"]) fun _ _ _ _ _ _ us hl => match us, hl with | [_, _], _ => rfl
  have b1 := F1.binds (ps := ["jar", "top"]) fun _ _ _ _ _ _ us hl => match us, hl with | [_, _], _ => rfl
  have b2 := F2.binds (ps := ["jar", "some"]) fun _ _ _ _ _ _ us hl => match us, hl with | [_, _], _ => rfl
  have b3 := F3.binds (ps := ["jar"]) fun _ _ _ _ _ _ us hl => match us, hl with | [_], _ => rfl
  have b4 := F4.binds (ps := ["thing"]) fun _ _ _ _ _ _ us hl => match us, hl with | [_], _ => rfl
  have b5 := F5.binds (ps := ["thing"]) fun _ _ _ _ _ _ us hl => match us, hl with | [_], _ => rfl
  have b6 := F6.binds (ps := ["error"]) fun _ _ _ _ _ _ us hl => match us, hl with | [_], _ => rfl
  have b7 := F7.binds (ps := ["error", "number"]) fun _ _ _ _ _ _ us hl => match us, hl with | [_, _], _ => rfl
  have b8 := F8.binds (ps := []) fun _ _ _ _ _ _ us hl => match us, hl with | [], _ => rfl
  have b9 := F9.binds (ps := ["jar"]) fun _ _ _ _ _ _ us hl => match us, hl with | [_], _ => rfl
  let cs : Nat → Addr := tab [C0, C1, C2, C3, C4, C5, C6, C7, C8, C9, C10, C11, C12, C13, C14, C15, C16, C17, C18, C19]
  let fs : Nat → Addr := tab [I0, I1, I2, I3, I4, I5, I6, I7, I8, I9, I10, I11, I12, I13, I14, I15, I16, I17, I18]
  let fds : Nat → FuncData := fun i => [(PySem.W.fnOf "__init__" "InvalidNet.__init__" (defArgs (inClass (top 2) 0)) (defBody (inClass (top 2) 0)) (defScope (inClass (top 2) 0)) .none kVi0 dci0 pmi0 ani0 cdi0 cti0), (PySem.W.fnOf "__init__" "InvalidNumber.__init__" (defArgs (inClass (top 3) 0)) (defBody (inClass (top 3) 0)) (defScope (inClass (top 3) 0)) .none kVi1 dci1 pmi1 ani1 cdi1 cti1), (PySem.W.fnOf "__init__" "InvalidFraction.__init__" (defArgs (inClass (top 4) 0)) (defBody (inClass (top 4) 0)) (defScope (inClass (top 4) 0)) .none kVi2 dci2 pmi2 ani2 cdi2 cti2), (PySem.W.fnOf "__init__" "InvalidPolynomial.__init__" (defArgs (inClass (top 5) 0)) (defBody (inClass (top 5) 0)) (defScope (inClass (top 5) 0)) .none kVi3 dci3 pmi3 ani3 cdi3 cti3), (PySem.W.fnOf "__init__" "InvalidOrder.__init__" (defArgs (inClass (top 6) 0)) (defBody (inClass (top 6) 0)) (defScope (inClass (top 6) 0)) .none kVi4 dci4 pmi4 ani4 cdi4 cti4), (PySem.W.fnOf "__init__" "InvalidTable.__init__" (defArgs (inClass (top 7) 0)) (defBody (inClass (top 7) 0)) (defScope (inClass (top 7) 0)) .none kVi5 dci5 pmi5 ani5 cdi5 cti5), (PySem.W.fnOf "__init__" "InvalidSeries.__init__" (defArgs (inClass (top 8) 0)) (defBody (inClass (top 8) 0)) (defScope (inClass (top 8) 0)) .none kVi6 dci6 pmi6 ani6 cdi6 cti6), (PySem.W.fnOf "__init__" "InvalidRow.__init__" (defArgs (inClass (top 9) 0)) (defBody (inClass (top 9) 0)) (defScope (inClass (top 9) 0)) .none kVi7 dci7 pmi7 ani7 cdi7 cti7), (PySem.W.fnOf "__init__" "InvalidField.__init__" (defArgs (inClass (top 10) 0)) (defBody (inClass (top 10) 0)) (defScope (inClass (top 10) 0)) .none kVi8 dci8 pmi8 ani8 cdi8 cti8), (PySem.W.fnOf "__init__" "InvalidLook.__init__" (defArgs (inClass (top 11) 0)) (defBody (inClass (top 11) 0)) (defScope (inClass (top 11) 0)) .none kVi9 dci9 pmi9 ani9 cdi9 cti9), (PySem.W.fnOf "__init__" "InvalidKind.__init__" (defArgs (inClass (top 12) 0)) (defBody (inClass (top 12) 0)) (defScope (inClass (top 12) 0)) .none kVi10 dci10 pmi10 ani10 cdi10 cti10), (PySem.W.fnOf "__init__" "InvalidChoice.__init__" (defArgs (inClass (top 13) 0)) (defBody (inClass (top 13) 0)) (defScope (inClass (top 13) 0)) .none kVi11 dci11 pmi11 ani11 cdi11 cti11), (PySem.W.fnOf "__init__" "InvalidRenaming.__init__" (defArgs (inClass (top 14) 0)) (defBody (inClass (top 14) 0)) (defScope (inClass (top 14) 0)) .none kVi12 dci12 pmi12 ani12 cdi12 cti12), (PySem.W.fnOf "__init__" "TooMany.__init__" (defArgs (inClass (top 15) 0)) (defBody (inClass (top 15) 0)) (defScope (inClass (top 15) 0)) .none kVi13 dci13 pmi13 ani13 cdi13 cti13), (PySem.W.fnOf "__init__" "InvalidAssignment.__init__" (defArgs (inClass (top 16) 0)) (defBody (inClass (top 16) 0)) (defScope (inClass (top 16) 0)) .none kVi14 dci14 pmi14 ani14 cdi14 cti14), (PySem.W.fnOf "__init__" "InvalidFillings.__init__" (defArgs (inClass (top 17) 0)) (defBody (inClass (top 17) 0)) (defScope (inClass (top 17) 0)) .none kVi15 dci15 pmi15 ani15 cdi15 cti15), (PySem.W.fnOf "__init__" "InvalidText.__init__" (defArgs (inClass (top 18) 0)) (defBody (inClass (top 18) 0)) (defScope (inClass (top 18) 0)) .none kVi16 dci16 pmi16 ani16 cdi16 cti16), (PySem.W.fnOf "__init__" "InvalidLines.__init__" (defArgs (inClass (top 19) 0)) (defBody (inClass (top 19) 0)) (defScope (inClass (top 19) 0)) .none kVi17 dci17 pmi17 ani17 cdi17 cti17), (PySem.W.fnOf "__init__" "InvalidWriting.__init__" (defArgs (inClass (top 20) 0)) (defBody (inClass (top 20) 0)) (defScope (inClass (top 20) 0)) .none kVi18 dci18 pmi18 ani18 cdi18 cti18)].getD i (PySem.W.fnOf "__init__" "InvalidNet.__init__" (defArgs (inClass (top 2) 0)) (defBody (inClass (top 2) 0)) (defScope (inClass (top 2) 0)) .none kVi0 dci0 pmi0 ani0 cdi0 cti0)
  have T : TxE K mg cs fs fds := {
    m0 := PySem.W.mg_of X G aC0
    m1 := PySem.W.mg_of X G aC1
    m2 := PySem.W.mg_of X G aC2
    m3 := PySem.W.mg_of X G aC3
    m4 := PySem.W.mg_of X G aC4
    m5 := PySem.W.mg_of X G aC5
    m6 := PySem.W.mg_of X G aC6
    m7 := PySem.W.mg_of X G aC7
    m8 := PySem.W.mg_of X G aC8
    m9 := PySem.W.mg_of X G aC9
    m10 := PySem.W.mg_of X G aC10
    m11 := PySem.W.mg_of X G aC11
    m12 := PySem.W.mg_of X G aC12
    m13 := PySem.W.mg_of X G aC13
    m14 := PySem.W.mg_of X G aC14
    m15 := PySem.W.mg_of X G aC15
    m16 := PySem.W.mg_of X G aC16
    m17 := PySem.W.mg_of X G aC17
    m18 := PySem.W.mg_of X G aC18
    m19 := PySem.W.mg_of X G aC19
    t := fun i hi => match i, hi with
      | 0, _ => Te0
      | 1, _ => Te1
      | 2, _ => Te2
      | 3, _ => Te3
      | 4, _ => Te4
      | 5, _ => Te5
      | 6, _ => Te6
      | 7, _ => Te7
      | 8, _ => Te8
      | 9, _ => Te9
      | 10, _ => Te10
      | 11, _ => Te11
      | 12, _ => Te12
      | 13, _ => Te13
      | 14, _ => Te14
      | 15, _ => Te15
      | 16, _ => Te16
      | 17, _ => Te17
      | 18, _ => Te18
      | n + 19, q => absurd q (by omega)
    x := fun i hi => match i, hi with
      | 0, _ => Te0.e
      | 1, _ => Te1.e
      | 2, _ => Te2.e
      | 3, _ => Te3.e
      | 4, _ => Te4.e
      | 5, _ => Te5.e
      | 6, _ => Te6.e
      | 7, _ => Te7.e
      | 8, _ => Te8.e
      | 9, _ => Te9.e
      | 10, _ => Te10.e
      | 11, _ => Te11.e
      | 12, _ => Te12.e
      | 13, _ => Te13.e
      | 14, _ => Te14.e
      | 15, _ => Te15.e
      | 16, _ => Te16.e
      | 17, _ => Te17.e
      | 18, _ => Te18.e
      | 19, _ => oneB_ok eB19
      | n + 20, q => absurd q (by omega)
    kit := fun i j hi hj => (kitB_ok kit i hi).1 j hj
    kv := fun i hi => (kitB_ok kit i hi).2.1
    ke := fun i hi => (kitB_ok kit i hi).2.2.1
    ko := fun i hi => (kitB_ok kit i hi).2.2.2
    k0 := k0
    kp := kp
    zisinstance := PySem.W.mg_none_of X G zisinstance
    zenumerate := PySem.W.mg_none_of X G zenumerate
    zrepr := PySem.W.mg_none_of X G zrepr
    zValueError := PySem.W.mg_none_of X G zValueError
    zException := PySem.W.mg_none_of X G zException
    zLookupError := PySem.W.mg_none_of X G zLookupError
    zTypeError := PySem.W.mg_none_of X G zTypeError
    zArithmeticError := PySem.W.mg_none_of X G zArithmeticError
    zRuntimeError := PySem.W.mg_none_of X G zRuntimeError
    zAttributeError := PySem.W.mg_none_of X G zAttributeError
  }
  have TJ : TxJ mg := ⟨PySem.W.mg_none_of X G zint, PySem.W.mg_none_of X G zlen, PySem.W.mg_none_of X G zabs, PySem.W.mg_none_of X G zdivmod⟩
  have TL : TxL mg := ⟨PySem.W.mg_none_of X G zall, PySem.W.mg_none_of X G zrange, PySem.W.mg_none_of X G zmax, PySem.W.mg_none_of X G zmin, PySem.W.mg_none_of X G zlen⟩
  refine ⟨PySem.W.fnOf "law" "law" (defArgs sLaw) (defBody sLaw) (defScope sLaw) .none kV10 dc10 pm10 an10 cd10 ct10, fun s v => .of_eq rfl, fun base _ _ => ?_⟩
  have GI : Inits l.prog w K mg base cs fs fds := fun i hi => match i, hi with
    | 0, _ => ok_excI (C := C0) Fi0 Te0.o Te0.nf ⟨rfl, rfl, rfl, by decide +kernel, rfl, by decide +kernel, by decide +kernel⟩ rfl (Or.inl rfl) (Or.inl rfl) (by decide) (by decide)
    | 1, _ => ok_excI (C := C1) Fi1 Te1.o Te1.nf ⟨rfl, rfl, rfl, by decide +kernel, rfl, by decide +kernel, by decide +kernel⟩ rfl (Or.inl rfl) (Or.inl rfl) (by decide) (by decide)
    | 2, _ => ok_excI (C := C2) Fi2 Te2.o Te2.nf ⟨rfl, rfl, rfl, by decide +kernel, rfl, by decide +kernel, by decide +kernel⟩ rfl (Or.inl rfl) (Or.inl rfl) (by decide) (by decide)
    | 3, _ => ok_excI (C := C3) Fi3 Te3.o Te3.nf ⟨rfl, rfl, rfl, by decide +kernel, rfl, by decide +kernel, by decide +kernel⟩ rfl (Or.inl rfl) (Or.inl rfl) (by decide) (by decide)
    | 4, _ => ok_excI (C := C4) Fi4 Te4.o Te4.nf ⟨rfl, rfl, rfl, by decide +kernel, rfl, by decide +kernel, by decide +kernel⟩ rfl (Or.inl rfl) (Or.inl rfl) (by decide) (by decide)
    | 5, _ => ok_excI (C := C5) Fi5 Te5.o Te5.nf ⟨rfl, rfl, rfl, by decide +kernel, rfl, by decide +kernel, by decide +kernel⟩ rfl (Or.inl rfl) (Or.inl rfl) (by decide) (by decide)
    | 6, _ => ok_excI (C := C6) Fi6 Te6.o Te6.nf ⟨rfl, rfl, rfl, by decide +kernel, rfl, by decide +kernel, by decide +kernel⟩ rfl (Or.inl rfl) (Or.inl rfl) (by decide) (by decide)
    | 7, _ => ok_excI (C := C7) Fi7 Te7.o Te7.nf ⟨rfl, rfl, rfl, by decide +kernel, rfl, by decide +kernel, by decide +kernel⟩ rfl (Or.inl rfl) (Or.inl rfl) (by decide) (by decide)
    | 8, _ => ok_excI (C := C8) Fi8 Te8.o Te8.nf ⟨rfl, rfl, rfl, by decide +kernel, rfl, by decide +kernel, by decide +kernel⟩ rfl (Or.inl rfl) (Or.inl rfl) (by decide) (by decide)
    | 9, _ => ok_excI (C := C9) Fi9 Te9.o Te9.nf ⟨rfl, rfl, rfl, by decide +kernel, rfl, by decide +kernel, by decide +kernel⟩ rfl (Or.inl rfl) (Or.inl rfl) (by decide) (by decide)
    | 10, _ => ok_excI (C := C10) Fi10 Te10.o Te10.nf ⟨rfl, rfl, rfl, by decide +kernel, rfl, by decide +kernel, by decide +kernel⟩ rfl (Or.inl rfl) (Or.inl rfl) (by decide) (by decide)
    | 11, _ => ok_excI (C := C11) Fi11 Te11.o Te11.nf ⟨rfl, rfl, rfl, by decide +kernel, rfl, by decide +kernel, by decide +kernel⟩ rfl (Or.inl rfl) (Or.inl rfl) (by decide) (by decide)
    | 12, _ => ok_excI (C := C12) Fi12 Te12.o Te12.nf ⟨rfl, rfl, rfl, by decide +kernel, rfl, by decide +kernel, by decide +kernel⟩ rfl (Or.inl rfl) (Or.inl rfl) (by decide) (by decide)
    | 13, _ => ok_excI (C := C13) Fi13 Te13.o Te13.nf ⟨rfl, rfl, rfl, by decide +kernel, rfl, by decide +kernel, by decide +kernel⟩ rfl (Or.inl rfl) (Or.inl rfl) (by decide) (by decide)
    | 14, _ => ok_excI (C := C14) Fi14 Te14.o Te14.nf ⟨rfl, rfl, rfl, by decide +kernel, rfl, by decide +kernel, by decide +kernel⟩ rfl (Or.inl rfl) (Or.inl rfl) (by decide) (by decide)
    | 15, _ => ok_excI (C := C15) Fi15 Te15.o Te15.nf ⟨rfl, rfl, rfl, by decide +kernel, rfl, by decide +kernel, by decide +kernel⟩ rfl (Or.inl rfl) (Or.inl rfl) (by decide) (by decide)
    | 16, _ => ok_excI (C := C16) Fi16 Te16.o Te16.nf ⟨rfl, rfl, rfl, by decide +kernel, rfl, by decide +kernel, by decide +kernel⟩ rfl (Or.inl rfl) (Or.inl rfl) (by decide) (by decide)
    | 17, _ => ok_excI (C := C17) Fi17 Te17.o Te17.nf ⟨rfl, rfl, rfl, by decide +kernel, rfl, by decide +kernel, by decide +kernel⟩ rfl (Or.inl rfl) (Or.inl rfl) (by decide) (by decide)
    | 18, _ => ok_excI (C := C18) Fi18 Te18.o Te18.nf ⟨rfl, rfl, rfl, by decide +kernel, rfl, by decide +kernel, by decide +kernel⟩ rfl (Or.inl rfl) (Or.inl rfl) (by decide) (by decide)
    | n + 19, q => absurd q (by omega)
  have G0 := ok_jar (P := l.prog) (w := w) (base := base) F0 TJ
  have G1 := ok_dip (P := l.prog) (w := w) (base := base) F1 TJ
  have G2 := ok_one F2 TJ G1 m1 kk1 b1
  have G3 := ok_thing F3 G1 m1 kk1 b1 G2 m2 kk2 b2 (PySem.W.mg_none_of X G zstr)
  have G4 := ok_given F4 T GI
  have G5 := ok_indexed F5 T GI
  have G6 := ok_under (P := l.prog) (w := w) (base := base) F6 T
  have G7 := ok_stands F7 T G6 m6 kk6 b6
  have G8 := ok_base F8 T G6 m6 kk6 b6
  have G9 := ok_right F9 T GI G3 m3 kk3 b3 G4 m4 kk4 b4 G5 m5 kk5 b5 G7 m7 kk7 b7 G8 m8 kk8 b8
  exact ok_law F10 TL G9 m9 kk9 b9 G0 m0 kk0 b0
end KX


set_option Elab.async false
set_option linter.all false
open PySem PySem.W PyProof.Rows in
set_option maxRecDepth 100000 in
set_option maxHeartbeats 0 in
theorem PySem.Challenge.cw_hiddenrates_k01_errors_each_of_its_own_holds : PySem.Challenge.rw_hiddenrates_k01_errors_each_of_its_own.Holds := by
  w_on; o_law; k_head; (case hw => w_witness2)
  k_fill
  refine KX.walkG (l := PySem.Challenge.rw_hiddenrates_k01_errors_each_of_its_own) (n := 63) (k := 5) (x := "script") (sp := KX.spLaw) rfl (by decide) rfl ⟨rfl, by decide, by decide⟩ (fun w h Y => PySem.W.kIn_of Y) ?F (fun K H a ns hl _ hS => ⟨a, ns, rfl, hS, hl, fun _ => rfl⟩)
  case F =>
    intro w mg fa h inK G hmg
    refine' _root_.KX.all_mk inK G hmg ?aC0 ?aC1 ?aC2 ?aC3 ?aC4 ?aC5 ?aC6 ?aC7 ?aC8 ?aC9 ?aC10 ?aC11 ?aC12 ?aC13 ?aC14 ?aC15 ?aC16 ?aC17 ?aC18 ?aC19 ?xC0 ?rv0 ?iC0 ?li0 ?ci0 ?ki0 ?eB0 ?xC1 ?rv1 ?iC1 ?li1 ?ci1 ?ki1 ?eB1 ?xC2 ?rv2 ?iC2 ?li2 ?ci2 ?ki2 ?eB2 ?xC3 ?rv3 ?iC3 ?li3 ?ci3 ?ki3 ?eB3 ?xC4 ?rv4 ?iC4 ?li4 ?ci4 ?ki4 ?eB4 ?xC5 ?rv5 ?iC5 ?li5 ?ci5 ?ki5 ?eB5 ?xC6 ?rv6 ?iC6 ?li6 ?ci6 ?ki6 ?eB6 ?xC7 ?rv7 ?iC7 ?li7 ?ci7 ?ki7 ?eB7 ?xC8 ?rv8 ?iC8 ?li8 ?ci8 ?ki8 ?eB8 ?xC9 ?rv9 ?iC9 ?li9 ?ci9 ?ki9 ?eB9 ?xC10 ?rv10 ?iC10 ?li10 ?ci10 ?ki10 ?eB10 ?xC11 ?rv11 ?iC11 ?li11 ?ci11 ?ki11 ?eB11 ?xC12 ?rv12 ?iC12 ?li12 ?ci12 ?ki12 ?eB12 ?xC13 ?rv13 ?iC13 ?li13 ?ci13 ?ki13 ?eB13 ?xC14 ?rv14 ?iC14 ?li14 ?ci14 ?ki14 ?eB14 ?xC15 ?rv15 ?iC15 ?li15 ?ci15 ?ki15 ?eB15 ?xC16 ?rv16 ?iC16 ?li16 ?ci16 ?ki16 ?eB16 ?xC17 ?rv17 ?iC17 ?li17 ?ci17 ?ki17 ?eB17 ?xC18 ?rv18 ?iC18 ?li18 ?ci18 ?ki18 ?eB18 ?eB19 ?k0 ?kp ?kit ?a0 ?l0 ?c0 ?kk0 ?a1 ?l1 ?c1 ?kk1 ?a2 ?l2 ?c2 ?kk2 ?a3 ?l3 ?c3 ?kk3 ?a4 ?l4 ?c4 ?kk4 ?a5 ?l5 ?c5 ?kk5 ?a6 ?l6 ?c6 ?kk6 ?a7 ?l7 ?c7 ?kk7 ?a8 ?l8 ?c8 ?kk8 ?a9 ?l9 ?c9 ?kk9 ?a10 ?l10 ?c10 ?kk10 ?zint ?zlen ?zabs ?zdivmod ?zstr ?zisinstance ?zenumerate ?zrepr ?zValueError ?zException ?zLookupError ?zTypeError ?zArithmeticError ?zRuntimeError ?zAttributeError ?zall ?zrange ?zmax ?zmin
    (case aC0 => k_is)
    (case aC1 => k_is)
    (case aC2 => k_is)
    (case aC3 => k_is)
    (case aC4 => k_is)
    (case aC5 => k_is)
    (case aC6 => k_is)
    (case aC7 => k_is)
    (case aC8 => k_is)
    (case aC9 => k_is)
    (case aC10 => k_is)
    (case aC11 => k_is)
    (case aC12 => k_is)
    (case aC13 => k_is)
    (case aC14 => k_is)
    (case aC15 => k_is)
    (case aC16 => k_is)
    (case aC17 => k_is)
    (case aC18 => k_is)
    (case aC19 => k_is)
    (case xC0 => k_is)
    (case iC0 => k_is)
    (case li0 => k_is)
    (case ci0 => k_is)
    (case ki0 => k_is)
    (case xC1 => k_is)
    (case iC1 => k_is)
    (case li1 => k_is)
    (case ci1 => k_is)
    (case ki1 => k_is)
    (case xC2 => k_is)
    (case iC2 => k_is)
    (case li2 => k_is)
    (case ci2 => k_is)
    (case ki2 => k_is)
    (case xC3 => k_is)
    (case iC3 => k_is)
    (case li3 => k_is)
    (case ci3 => k_is)
    (case ki3 => k_is)
    (case xC4 => k_is)
    (case iC4 => k_is)
    (case li4 => k_is)
    (case ci4 => k_is)
    (case ki4 => k_is)
    (case xC5 => k_is)
    (case iC5 => k_is)
    (case li5 => k_is)
    (case ci5 => k_is)
    (case ki5 => k_is)
    (case xC6 => k_is)
    (case iC6 => k_is)
    (case li6 => k_is)
    (case ci6 => k_is)
    (case ki6 => k_is)
    (case xC7 => k_is)
    (case iC7 => k_is)
    (case li7 => k_is)
    (case ci7 => k_is)
    (case ki7 => k_is)
    (case xC8 => k_is)
    (case iC8 => k_is)
    (case li8 => k_is)
    (case ci8 => k_is)
    (case ki8 => k_is)
    (case xC9 => k_is)
    (case iC9 => k_is)
    (case li9 => k_is)
    (case ci9 => k_is)
    (case ki9 => k_is)
    (case xC10 => k_is)
    (case iC10 => k_is)
    (case li10 => k_is)
    (case ci10 => k_is)
    (case ki10 => k_is)
    (case xC11 => k_is)
    (case iC11 => k_is)
    (case li11 => k_is)
    (case ci11 => k_is)
    (case ki11 => k_is)
    (case xC12 => k_is)
    (case iC12 => k_is)
    (case li12 => k_is)
    (case ci12 => k_is)
    (case ki12 => k_is)
    (case xC13 => k_is)
    (case iC13 => k_is)
    (case li13 => k_is)
    (case ci13 => k_is)
    (case ki13 => k_is)
    (case xC14 => k_is)
    (case iC14 => k_is)
    (case li14 => k_is)
    (case ci14 => k_is)
    (case ki14 => k_is)
    (case xC15 => k_is)
    (case iC15 => k_is)
    (case li15 => k_is)
    (case ci15 => k_is)
    (case ki15 => k_is)
    (case xC16 => k_is)
    (case iC16 => k_is)
    (case li16 => k_is)
    (case ci16 => k_is)
    (case ki16 => k_is)
    (case xC17 => k_is)
    (case iC17 => k_is)
    (case li17 => k_is)
    (case ci17 => k_is)
    (case ki17 => k_is)
    (case xC18 => k_is)
    (case iC18 => k_is)
    (case li18 => k_is)
    (case ci18 => k_is)
    (case ki18 => k_is)
    (case kp => k_is)
    (case a0 => k_is)
    (case l0 => k_is)
    (case c0 => k_is)
    (case kk0 => k_is)
    (case a1 => k_is)
    (case l1 => k_is)
    (case c1 => k_is)
    (case kk1 => k_is)
    (case a2 => k_is)
    (case l2 => k_is)
    (case c2 => k_is)
    (case kk2 => k_is)
    (case a3 => k_is)
    (case l3 => k_is)
    (case c3 => k_is)
    (case kk3 => k_is)
    (case a4 => k_is)
    (case l4 => k_is)
    (case c4 => k_is)
    (case kk4 => k_is)
    (case a5 => k_is)
    (case l5 => k_is)
    (case c5 => k_is)
    (case kk5 => k_is)
    (case a6 => k_is)
    (case l6 => k_is)
    (case c6 => k_is)
    (case kk6 => k_is)
    (case a7 => k_is)
    (case l7 => k_is)
    (case c7 => k_is)
    (case kk7 => k_is)
    (case a8 => k_is)
    (case l8 => k_is)
    (case c8 => k_is)
    (case kk8 => k_is)
    (case a9 => k_is)
    (case l9 => k_is)
    (case c9 => k_is)
    (case kk9 => k_is)
    (case a10 => k_is)
    (case l10 => k_is)
    (case c10 => k_is)
    (case kk10 => k_is)
    (case zint => k_is)
    (case zlen => k_is)
    (case zabs => k_is)
    (case zdivmod => k_is)
    (case zstr => k_is)
    (case zisinstance => k_is)
    (case zenumerate => k_is)
    (case zrepr => k_is)
    (case zValueError => k_is)
    (case zException => k_is)
    (case zLookupError => k_is)
    (case zTypeError => k_is)
    (case zArithmeticError => k_is)
    (case zRuntimeError => k_is)
    (case zAttributeError => k_is)
    (case zall => k_is)
    (case zrange => k_is)
    (case zmax => k_is)
    (case zmin => k_is)
    (case rv0 => kernel_rfl)
    (case eB0 => kernel_rfl)
    (case rv1 => kernel_rfl)
    (case eB1 => kernel_rfl)
    (case rv2 => kernel_rfl)
    (case eB2 => kernel_rfl)
    (case rv3 => kernel_rfl)
    (case eB3 => kernel_rfl)
    (case rv4 => kernel_rfl)
    (case eB4 => kernel_rfl)
    (case rv5 => kernel_rfl)
    (case eB5 => kernel_rfl)
    (case rv6 => kernel_rfl)
    (case eB6 => kernel_rfl)
    (case rv7 => kernel_rfl)
    (case eB7 => kernel_rfl)
    (case rv8 => kernel_rfl)
    (case eB8 => kernel_rfl)
    (case rv9 => kernel_rfl)
    (case eB9 => kernel_rfl)
    (case rv10 => kernel_rfl)
    (case eB10 => kernel_rfl)
    (case rv11 => kernel_rfl)
    (case eB11 => kernel_rfl)
    (case rv12 => kernel_rfl)
    (case eB12 => kernel_rfl)
    (case rv13 => kernel_rfl)
    (case eB13 => kernel_rfl)
    (case rv14 => kernel_rfl)
    (case eB14 => kernel_rfl)
    (case rv15 => kernel_rfl)
    (case eB15 => kernel_rfl)
    (case rv16 => kernel_rfl)
    (case eB16 => kernel_rfl)
    (case rv17 => kernel_rfl)
    (case eB17 => kernel_rfl)
    (case rv18 => kernel_rfl)
    (case eB18 => kernel_rfl)
    (case eB19 => kernel_rfl)
    (case k0 => kernel_rfl)
    (case kit => kernel_rfl)


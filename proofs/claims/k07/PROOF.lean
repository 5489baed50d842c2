import PyProof.Rows.All
import Wide.All
import OpenK.AllK
import Wide.FinOn
import HandS.ForMost
import HandS.Evl
import HandS.ExcInit
import HandS.ExcIs
import HandS.ExcField
import HandS.WideBits
import PyProof.ReprRoads
import KE.KExcIs
import HandS.IsInst
import HandS.ExcValue
import HandS.Wide
import HandS.Walk
import PySem.Challenge.RW_hiddenrates_k07_whole_kept_sums_by_own_e
import HandS.Gcd
import HandS.More
import HandS.AnyAll
import HandS.GenList
import HandS.Zip
import KE.GoesEnum
import HandS.Iter
import HandS.Deep
import HandS.TupAny
import HandS.Conv
import HandS.SetFor
import HandS.Strs
import KE.KRevSl
import KE.GoesZip
import KE.GoesMore
import HandS.TupMul
import HandS.Steps
import PyProof.ReprLen
import HandS.EndTab
import KE.KNest
import HandS.SetKeys
import HandS.Dict
import KE.KDictCopyH
import PyProof.DictMoreH
import KE.KDictWalk
import HandS.DictComp
import HandS.Style
set_option Elab.async false
set_option linter.all false
set_option maxRecDepth 100000
set_option maxHeartbeats 4000000
/-! ### calls made where no repr is under way: the promise of a def for such callers alone -/
namespace KX
open PySem PySem.Spec PyProof.Rows L2

abbrev Quiet (A : Around) : Prop := A.guards = some []
structure FnG (P : Program) (w : World) (K : PySem.W.Frag) (mg : Str → Option Value) (base : Heap) (k : Nat) (f : Addr) (fd : FuncData) (ps : List Str) (sp : Sp) : Prop where
  arity : ∀ {vs H Q E}, sp vs H Q E → vs.length = ps.length
  goes : ∀ {A outer s H args us vs Q E}, Quiet A → Room k A → Env0 P w K mg base A outer s H → BindsTo s fd args (ps.zip us) → Vals vs us → sp vs H Q E →
    codeAny (model P w) A (.call (.ref f) args) (CR CX0 outer P w H s Q E) s

section
variable {P : Program} {w : World} {K : PySem.W.Frag} {mg : Str → Option Value} {base : Heap} {k : Nat} {f : Addr} {fd : FuncData} {ps : List Str} {sp : Sp}
theorem FnG.of (F : FnOk P w K mg base CX0 k f fd ps sp) : FnG P w K mg base k f fd ps sp := ⟨fun h => F.len _ _ _ _ h, fun _ a b c d e => F.run _ _ _ _ _ _ _ _ _ a b c d e⟩
theorem FnG.lift {j : Nat} (F : FnG P w K mg base j f fd ps sp) (h : j ≤ k) : FnG P w K mg base k f fd ps sp := ⟨F.arity, fun q r => F.goes q (r.mono h)⟩
end

section
variable {X : Cx} {k : Nat} {f : Addr} {fd : FuncData} {ps : List Str} {sp : Sp} {x : Str} {p pos : Pos} {e : Expr} {es : List Expr} {t : TA}
theorem FnG.callee {pins : List (Addr × Obj)} {σ : L2.St} {H : Hp} {s : Shared} {Q : VK} {us : List Value} {vs : List V} (F : FnG X.prog X.w X.K X.mg X.base k f fd ps sp) (qu : Quiet X.A) (hr : Room k X.A) (hb : Binds X.K fd ps [])
    (I : Inv X pins σ H s) (r : Vals vs us) (h : sp vs H Q E0) : wpAny (model X.prog X.w) X.A (call (.ref f) us) (EP X pins σ Q) X.xe s := by
  have bt := hb s us I.kIn (by rw [List.append_nil, ← r.length]; exact F.arity h)
  rw [List.append_nil] at bt
  refine wpAny_call (codeAny_mono (F.goes qu hr I.env0 bt r h) ?_)
  rintro (e | fl) s' z
  · exact z.elim
  · cases fl <;> first | exact I.after z | exact False.elim z
def tQuiet (sp : Sp) (t : TA) : TE := fun σ H Q => t σ H fun vs H1 => sp vs H1 Q E0
theorem pe_quiet (F : FnG X.prog X.w X.K X.mg X.base k f fd ps sp) (qu : Quiet X.A) (hr : Room k X.A) (hg : Gl X x) (hm : X.mg x = some (.ref f)) (hk : PySem.W.keepIn X.K (.ref f) = true) (hb : Binds X.K fd ps [])
    (ha : PA X (e :: es) t) (h1 : (x == ("__debug__" : Str)) = false := by decide) (h2 : starEach (e :: es) X.env = (false, eval e X.env) :: starEach es X.env := by rfl) (h3 : (backTo pos (starEach es X.env)).any (·.1) = false := by rfl) :
    PE X (.Call (.Name x p) (e :: es) [] pos) (tQuiet sp t) :=
  ⟨fun pins s σ H Q I h => wpAny_Call_Name_kw (ld_glob I hg hm (PySem.W.callWith_K (h₀ := X.base) I.ok.mod.kin hk
    (thn (ha.run pos pins s σ H _ I h) fun us s1 ⟨vs, H1, I1, r, q⟩ => ⟨I1.kIn, F.callee qu hr hb I1 r q⟩) h2 h3) h1)⟩
end

/-- a def's body, entered where no repr is under way -/
theorem FnG.mk' {P : Program} {w : World} {K : PySem.W.Frag} {mg : Str → Option Value} {base : Heap} {x qual : Str} {st : Stmt} {f : Addr} {fd : FuncData} {N ps : List Str} {k : Nat} {sp : Sp} (F : Fun K x qual st f fd) (S : FnScope N ps (defScope st)) (len : ∀ {vs H Q E}, sp vs H Q E → vs.length = ps.length)
    (body : ∀ (cdv : Value) (A : Around) (outer : List Env) (s : Shared) (H : Hp) (vs : List V) (Q : VK) (E : XK), Quiet A → Room k (A.deeper (envOfC qual (defScope st) s.heap.objs.size f cdv)) → sp vs H Q E →
      ∃ t, PSs (cxOf CX0 P w K mg base N qual (defScope st) f cdv A outer s H E).nox (defBody st) t ∧ t { nx := fun _ H' => Q .non H', rt := Q } (start N vs) H) : FnG P w K mg base (k + 1) f fd ps sp := by
  obtain ⟨oc, od, kV, doc, pm, an, cdv, ct, osl, rfl, lk, hcd⟩ := F.ex
  refine ⟨len, fun {A outer s H args us vs Q E} qu hr e0 hb r hsp => ?_⟩
  have inK : K.In s.heap := e0.mod.kin.keeps fun b o z => (e0.bs b o z).1
  refine Att.call_fn inK (e0.mod.nolimit.keeps fun b o z => (e0.bs b o z).1) lk hcd hr.depth hb ?_ (fun s1 ic => ?_) S.co S.gen S.kind
  · refine List.all_eq_true.mpr fun ⟨y, v⟩ hy => ?_
    rcases S.par y (List.of_mem_zip hy).1 with z | z <;> simp [z]
  · obtain ⟨t, ht, hq⟩ := body cdv A outer s H vs Q E qu (hr.deeper _) hsp
    have I0 := inv_start (CX := CX0) (N := N) (E := E) S hr.hd e0 (len hsp) r ic
    refine wpAny_mono (ht.nox.run [] s1 _ H _ I0 hq) ?_ fun _ _ z => z
    rintro (_ | _ | _ | u) s' z
    · obtain ⟨_, H', J, q⟩ := z
      exact ⟨.non, H', J.os, J.bare, J.base, J.hok, rfl, q⟩
    · obtain ⟨_, _, _, q⟩ := z
      exact q.elim
    · obtain ⟨_, _, _, q⟩ := z
      exact q.elim
    · obtain ⟨v, _, H', J, rv, q⟩ := z
      exact ⟨v, H', J.os, J.bare, J.base, J.hok, rv, q⟩

/-! ### the end of a law whose def is quiet -/
open Classical in
theorem lawG {P : Program} {w : World} {K : PySem.W.Frag} {mg mb : Str → Option Value} {k : Nat} {fa a : Addr} {fd : FuncData} {x : Str} {sp : Sp} {s₁ : Shared} {vs : List Value} {ns : List Int}
    (inK : K.In s₁.heap) (hns : s₁.heap.Ns mainGlobals mg) (hb : s₁.heap.Ns builtinsNs mb) (hbb : ∀ y : Str, y ≠ "__name__" → mb y = bootBuiltins y) (hlim : s₁.heap.NoLimit) (hg : s₁.gens = #[])
    (ha : s₁.heap.get? a = some { cls := .type "list", data := .seq vs.toArray }) (hi : IntsAre vs ns) (hl : ns.length ≤ sizeLine) (hr : Room k callerA)
    (F : ∀ base : Heap, K.In base → base.Ns mainGlobals mg → FnG P w K mg base k fa fd [x] sp) (hbind : ∀ (s : Shared) (u : Value), BindsTo s fd ⟨[u], []⟩ [(x, u)])
    (hsp : ∀ H : Hp, Only H → SqL K H a (ns.map V.int) → sp [.ref a] H (fun v _ => v = .bl true) fun _ _ _ => False) :
    codeAny (model P w) callerA (.call (.ref fa) ⟨[.ref a], []⟩) (fun r s' => r = .ok (.ret (.bool true)) ∧ OldK s₁.heap s'.heap ∧ s'.os = s₁.os ∧ AllBare s'.gens) s₁ := by
  let scr : Obj := { cls := .type "list", data := .seq vs.toArray }
  let H : Hp := fun b => if K.lookup a = none ∧ b = a then some (.frz scr (.lst (ns.map V.int))) else none
  have rv := vals_ints hi
  have hA : ∀ {b u}, H b = some u → K.lookup a = none ∧ b = a ∧ u = .frz scr (.lst (ns.map V.int)) := fun {b u} z => by
    by_cases c : K.lookup a = none ∧ b = a
    · have z' : some (HO.frz scr (.lst (ns.map V.int))) = some u := (if_pos c).symm.trans z
      exact ⟨c.1, c.2, (Option.some.inj z').symm⟩
    · have z' : none = some u := (if_neg c).symm.trans z
      cases z'
  have nK : ∀ {b o}, K.lookup b = some o → H b = none := fun {b o} e => by
    cases z : H b with
    | none => rfl
    | some u =>
      obtain ⟨z1, z2, _⟩ := hA z
      rw [z2, z1] at e
      cases e
  have nD : ∀ {b m}, s₁.heap.Ns b m → (hidT s₁.heap H).Ns b m := by
    rintro b m ⟨o, es, ep, e, d, r⟩
    refine ⟨o, es, ep, hidT_get e ?_, d, r⟩
    cases z : H b with
    | none => rfl
    | some u =>
      obtain ⟨_, z2, _⟩ := hA z
      rw [z2, ha] at e
      cases e
      cases d
  have inB : K.In (hidT s₁.heap H) := fun b o e => hidT_get (inK b o e) (nK e)
  have hok : HOk P w H s₁.heap := fun b u z => by
    obtain ⟨_, rfl, rfl⟩ := hA z
    exact ⟨ha, by rw [List.length_map]; exact hl, vs, _, rv, ha⟩
  have only : Only H := fun b => by
    cases z : H b with
    | none => exact .inl rfl
    | some u => exact .inr ⟨scr, ns.map V.int, by rw [(hA z).2.2]⟩
  have sq : SqL K H a (ns.map V.int) := by
    cases z : K.lookup a with
    | none => exact .inl (.inr ⟨scr, if_pos ⟨z, rfl⟩⟩)
    | some o =>
      have e := inK a o z
      rw [ha] at e
      cases e
      exact .inr ⟨_, vs.toArray, _, z, rfl, rfl, rfl, by rw [List.size_toArray, hi.length]; exact hl, by simpa using rv⟩
  have e0 : Env0 P w K mg (hidT s₁.heap H) callerA [] s₁ H :=
    ⟨rfl, ⟨inB, nD hns, ⟨mb, nD hb, hbb⟩, let ⟨mc, h1, h2⟩ := hlim; ⟨mc, nD h1, h2⟩⟩, fun b o e => of_hidT e, Nat.le_of_eq (hidT_size _ _), trivial, fun b z => (nomatch z), hok, .of_eq hg⟩
  refine codeAny_mono ((F _ inB (nD hns)).goes (us := [.ref a]) (vs := [.ref a]) rfl hr e0 (hbind s₁ (.ref a)) (.cons rfl .nil) (hsp H only sq)) ?_
  rintro (e | (_ | _ | _ | u)) s' z
  · exact z.elim
  · exact False.elim z
  · exact False.elim z
  · exact False.elim z
  · obtain ⟨v, H', os, bare, un, hok', r', q⟩ := z
    subst q
    obtain rfl : u = Value.bool true := r'
    refine ⟨rfl, OldK.of_keep fun b o e => ?_, os, bare⟩
    cases c : H b with
    | none => exact un.keep b o e c (fun z => nomatch z) (fun z => nomatch z)
    | some y =>
      obtain ⟨_, rfl, rfl⟩ := hA c
      have e1 := (hok _ _ c).1
      have e2 := (hok' _ _ (un.frzs _ _ _ c)).1
      rw [e1] at e
      cases e
      exact e2

theorem walkG {l : PySem.W.OpenLaw} {n k : Nat} {q : Program} {loose : List Str} {XP : (Str → Option Value) → Heap → Prop} {YP : World → Heap → Prop} {d : DefRec} {K : Params → PySem.W.Frag} {sp : PySem.W.Frag → Sp} {x : Str}
    (hn : l.most = some n) (hn2 : n ≤ sizeLine) (hdf : d.params.defaults = []) (hr : Room k callerA) (hY : ∀ (w : World) (h : Heap), YP w h → (K w.params).In h)
    (F : ∀ (w : World) (mg : Str → Option Value) (fa : Addr) (h : Heap), (K w.params).In h → h.Ns mainGlobals mg → mg d.name = some (.ref fa) →
      ∃ fd : FuncData, (∀ (s : Shared) (u : Value), BindsTo s fd ⟨[u], []⟩ [(x, u)]) ∧ ∀ base : Heap, (K w.params).In base → base.Ns mainGlobals mg → FnG l.prog w (K w.params) mg base k fa fd [x] (sp (K w.params)))
    (hsp : ∀ (K : PySem.W.Frag) (H : Hp) (a : Addr) (ns : List Int), ns.length ≤ n → Only H → SqL K H a (ns.map V.int) → sp K [.ref a] H (fun v _ => v = .bl true) fun _ _ _ => False) :
    PySem.W.WalkO q loose XP YP l.row.toRowW d [] (fun f vs => PySem.call f vs) :=
  Att.attach_call hn hdf fun w s₀ s₁ mg mb fa o pm cd doc a vs ns G Y ho hd hcd hmg hobj hints hlen hg => by
    obtain ⟨fd, b, f⟩ := F w mg fa _ (hY w _ Y) G.T.g hmg
    exact lawG (hY w _ Y) G.T.g G.T.b G.T.builtins G.T.nolimit hg hobj hints (Nat.le_trans hlen hn2) hr f b fun H h1 h2 => hsp _ H a ns hlen h1 h2

/-! ### repr of data -/
/-- what x is as data: anything of the data's kinds, or the empty dict -/
def Shw (K : PySem.W.Frag) (H : Hp) (x : V) (d : PyData) : Prop :=
  d.showable = true ∧ d.shown.length ≤ sizeLine ∧ d.depth ≤ 60 ∧ ((d.hasDict = false ∧ Dp K H x d) ∨ (d = .dict [] ∧ ∃ a, x = .ref a ∧ H a = some (.dK [])))
def rRepr (K : PySem.W.Frag) : List V → Hp → VK → Prop := fun xs H Q => ∃ x d, xs = [x] ∧ Shw K H x d ∧ Q (.str d.shown) H
theorem call_repr_none' {P : Program} {w : World} {A : Around} {E : Value → Shared → Prop} {s : Shared} {Q : Value → Shared → Prop} (h : Q (.str "None" s.toks) { s with toks := s.toks + 1 }) : wpAny (model P w) A (call (.builtin "repr") [.none]) Q E s :=
  PySem.P.repr_of_none h
theorem cr_repr {X : Cx} (qu : Quiet X.A) (hu : X.A.units + 64 < cLine) : CallR X (.builtin "repr") (rRepr X.K) := by
  rintro pins s σ H xs us Q I r ⟨x, d, rfl, ⟨hs, hz, hd, hx⟩, q⟩
  obtain ⟨u, rfl, rx⟩ := vals1 r
  have big : ∀ {y : Value} {b : Addr} {as : List Addr}, y = .ref b → Reads s.heap y d as → (d.hasDict = true → sysModules ∉ as) → wpAny (model X.prog X.w) X.A (call (.builtin "repr") [y]) (EP X pins σ Q) X.xe s := by
    rintro y b as rfl rd hm
    refine repr_of_reads' rd hs hm qu (by omega) (fun _ _ z => z) (fun h' u tk k => ?_) hz
    exact ⟨.str d.shown, H, I.kept k, ⟨_, rfl⟩, q⟩
  rcases hx with ⟨hn, hx⟩ | ⟨rfl, a, rfl, ha⟩
  · have nd : d.hasDict = true → ∀ as : List Addr, sysModules ∉ as := fun z => by
      rw [hn] at z
      cases z
    have tx : ∀ (y : Str) (t : Tok) (tk : Nat), Q (.str y) H → EP X pins σ Q (.str y t) { s with toks := tk } := fun y t tk z => ⟨.str y, H, I.tok _, ⟨_, rfl⟩, z⟩
    cases hx with
    | non =>
      obtain rfl : u = Value.none := rx
      exact PySem.P.repr_of_none (tx _ _ _ q)
    | bl b =>
      obtain rfl : u = Value.bool b := rx
      refine PySem.P.repr_of_bool (tx _ _ _ ?_)
      cases b <;> exact q
    | int i =>
      obtain ⟨t, rfl⟩ := rx
      exact PySem.P.repr_of_int (of_decide_eq_true hs) (tx _ _ _ q)
    | str y =>
      obtain ⟨t, rfl⟩ := rx
      exact PySem.P.repr_of_str (tx _ _ _ q) hz
    | lst h1 h2 =>
      obtain ⟨as, rd⟩ := Dp.reads I _ _ u (.lst h1 h2) rx
      exact big rx rd fun z => nd z _
    | tup h1 h2 =>
      obtain ⟨as, rd⟩ := Dp.reads I _ _ u (.tup h1 h2) rx
      exact big rx rd fun z => nd z _
  · obtain ⟨_, hne, vs, kv, o, es, ep, h1, h2, h3, h4⟩ := (show ObjOk X.prog X.w H s.heap a (.dK []) from I.hok a _ ha)
    cases kv
    have h5 : es.toList = [] := by
      have z := h4.2.1
      generalize es.toList = l at z
      cases z
      rfl
    obtain rfl : u = Value.ref a := rx
    refine big rfl (Reads.dict (kvs := []) (as := []) (bs := []) h1 h2.1 h3 (by rw [h5]; exact .nil) (by rw [h5]; exact .nil)) fun _ z => ?_
    have z' : sysModules ∈ [a] := z
    rw [List.mem_singleton] at z'
    rw [z'] at hne
    simp at hne
end KX

set_option Elab.async false
set_option linter.all false
set_option maxRecDepth 100000
set_option maxHeartbeats 1000000
/-! ### things as data; whole numbers, fractions -/
namespace KP
open PySem PySem.Spec PyProof.Rows L2 KX
def top (i : Nat) : Stmt := PySem.Challenge.pw_hiddenrates_k07_whole_kept_sums_by_own_e.main.body.getD i (.Pass ⟨0, 0, 0, 0⟩)
abbrev sWhole : Stmt := top 8
abbrev sWithin : Stmt := top 9
abbrev sRatio : Stmt := top 10
abbrev sTold : Stmt := top 11
abbrev sNet : Stmt := top 29
abbrev sPipes : Stmt := top 30
abbrev sPipe : Stmt := top 31
abbrev sShare : Stmt := top 32
abbrev sTanks : Stmt := top 33
end KP
namespace KX
open PySem PySem.Spec PyProof.Rows L2
theorem SqT.of {K : PySem.W.Frag} {H : Hp} {a : Addr} {xs : List V} (h : Rd H a (.tup xs)) : L2.SqT K H a xs := .inl h
end KX
namespace L2
open PySem PySem.Spec PyProof.Rows
theorem Same.rd {H H' : Hp} (s : Same H H') {a : Addr} {u : HO} (h : Rd H a u) : Rd H' a u := h.elim (fun e => .inl (s _ _ e)) fun ⟨o, e⟩ => .inr ⟨o, s _ _ e⟩
end L2
namespace KP
open PySem PySem.Spec PyProof.Rows L2 KX
mutual
/-- what x is as data (tracked lists, tuples, the empty dict) -/
inductive Th (H : Hp) : V → PyData → Prop
  | non : Th H .non .none
  | bl (b : Bool) : Th H (.bl b) (.bool b)
  | int (i : Int) : Th H (.int i) (.int i)
  | str (x : Str) : Th H (.str x) (.str x)
  | lst {a : Addr} {xs : List V} {ds : List PyData} : H a = some (.lst xs) → ThAll H xs ds → Th H (.ref a) (.list ds)
  | tup' {a : Addr} {xs : List V} {ds : List PyData} : Rd H a (.tup xs) → ThAll H xs ds → Th H (.ref a) (.tuple ds)
  | emp {a : Addr} : H a = some (.dK []) → Th H (.ref a) (.dict [])
inductive ThAll (H : Hp) : List V → List PyData → Prop
  | nil : ThAll H [] []
  | cons {v : V} {vs : List V} {d : PyData} {ds : List PyData} : Th H v d → ThAll H vs ds → ThAll H (v :: vs) (d :: ds)
end
theorem Th.tup {H : Hp} {a : Addr} {xs : List V} {ds : List PyData} (e : H a = some (.tup xs)) (h : ThAll H xs ds) : Th H (.ref a) (.tuple ds) := .tup' (.inl e) h
/-- all but tables as it was -/
def Sm (H H' : Hp) : Prop := ∀ b u, H b = some u → (∀ q, u ≠ .tbl q) → H' b = some u
theorem Sm.refl (H : Hp) : Sm H H := fun _ _ e _ => e
theorem Sm.trans {H H1 H2 : Hp} (a : Sm H H1) (b : Sm H1 H2) : Sm H H2 := fun c u e n => b c u (a c u e n) n
theorem Sm.same {H H1 : Hp} (a : Same H H1) : Sm H H1 := fun c u e _ => a c u e
theorem Sm.rd {H H' : Hp} (s : Sm H H') {a : Addr} {xs : List V} (h : Rd H a (.tup xs)) : Rd H' a (.tup xs) := h.elim (fun e => .inl (s _ _ e fun _ z => by cases z)) fun ⟨o, e⟩ => .inr ⟨o, s _ _ e fun _ z => by cases z⟩
theorem Th.mono {H H' : Hp} (s : Sm H H') {v : V} {d : PyData} (h : Th H v d) : Th H' v d := by
  refine Th.rec (motive_1 := fun v d _ => Th H' v d) (motive_2 := fun vs ds _ => ThAll H' vs ds) .non (fun b => .bl b) (fun i => .int i) (fun x => .str x) (fun q _ ih => .lst (s _ _ q fun _ z => by cases z) ih) (fun q _ ih => .tup' (s.rd q) ih) (fun q => .emp (s _ _ q fun _ z => by cases z)) .nil (fun _ _ a b => .cons a b) h
def tyN : PyData → String
  | .none => "NoneType"
  | .bool _ => "bool"
  | .int _ => "int"
  | .str _ => "str"
  | .list _ => "list"
  | .tuple _ => "tuple"
  | .dict _ => "dict"
theorem Th.ty {K : PySem.W.Frag} {H : Hp} {v : V} {d : PyData} (h : Th H v d) : TyB K H v (tyN d) := by
  cases h with
  | non => exact .non
  | bl b => exact .bl b
  | int i => exact .int i
  | str x => exact .str x
  | lst e _ => exact .lst (SqL.of e)
  | tup' e _ => exact .tup (SqT.of e)
  | emp e => exact .dK e
def isI : PyData → Bool
  | .int _ => true
  | _ => false
def isW : PyData → Int → Int → Bool
  | .int i, lo, hi => decide (lo ≤ i) && decide (i ≤ hi)
  | _, _, _ => false
structure TxT (mg : Str → Option Value) : Prop where
  type : mg "type" = none
  int : mg "int" = none
  tuple : mg "tuple" = none
  str : mg "str" = none
  len : mg "len" = none
  abs : mg "abs" = none
  all : mg "all" = none
  enumerate : mg "enumerate" = none
  zip : mg "zip" = none
theorem isI_ty (d : PyData) : decide (tyN d = "int") = isI d := by cases d <;> simp [tyN, isI]
def spWhole : Sp := fun vs H Q _ => ∃ x d, vs = [x] ∧ Th H x d ∧ Q (.bl (isI d)) H
def spWithin : Sp := fun vs H Q _ => ∃ x d lo hi, vs = [x, .int lo, .int hi] ∧ Th H x d ∧ Q (.bl (isW d lo hi)) H
section
variable {P : Program} {w : World} {K : PySem.W.Frag} {mg : Str → Option Value} {base : Heap}
theorem scWhole : FnScope ["value"] ["value"] (defScope sWhole) := ⟨rfl, rfl, rfl, by decide +kernel, rfl, by decide +kernel, by decide +kernel⟩
theorem ok_whole {f : Addr} {fd : FuncData} (F : Fun K "is_whole" "is_whole" sWhole f fd) (T : TxT mg) : FnOk P w K mg base CX0 1 f fd ["value"] spWhole := by
  refine F.ok scWhole (fun vs H Q E h => ?_) (fun cdv A outer s H vs Q E hr h => ?_)
  · obtain ⟨x, d, rfl, _⟩ := h
    rfl
  · obtain ⟨x, d, rfl, hx, k⟩ := h
    refine ⟨_, pss_one (ps_ret (pe_cmpR op_isTyB (pe_callTy call_type1 (by rfl) T.type (by decide +kernel) (pa_cons (pv 0) pa_nil)) (pe_bltn (v := .ty "int") (by rfl) T.int (by decide +kernel) rfl) (nomark _))), ?_⟩
    refine ⟨_, rfl, _, _, rfl, Th.ty hx, _, _, rfl, rfl, ?_⟩
    show Q (.bl (decide (tyN d = "int"))) H
    rw [isI_ty]
    exact k
theorem scWithin : FnScope ["value", "least", "most"] ["value", "least", "most"] (defScope sWithin) := ⟨rfl, rfl, rfl, by decide +kernel, rfl, by decide +kernel, by decide +kernel⟩
theorem ok_within {f fW : Addr} {fd fdW : FuncData} (F : Fun K "is_within" "is_within" sWithin f fd) (FW : FnOk P w K mg base CX0 1 fW fdW ["value"] spWhole) (mW : mg "is_whole" = some (.ref fW)) (kW : PySem.W.keepIn K (.ref fW) = true) (bW : Binds K fdW ["value"] []) :
    FnOk P w K mg base CX0 2 f fd ["value", "least", "most"] spWithin := by
  refine F.ok scWithin (fun vs H Q E h => ?_) (fun cdv A outer s H vs Q E hr h => ?_)
  · obtain ⟨x, d, lo, hi, rfl, _⟩ := h
    rfl
  · obtain ⟨x, d, lo, hi, rfl, hx, k⟩ := h
    refine ⟨_, pss_one (ps_ret (pe_and (pe_call FW hr rfl mW kW bW .nil pass0 (pa_cons (pv 0) pa_nil)) (pe_one (pe_chain op_le op_le (pv 1) (pv 0) (pv 2))))), ?_⟩
    refine ⟨_, rfl, x, d, rfl, hx, _, rfl, ?_⟩
    cases hx with
    | int i =>
      refine ⟨_, rfl, _, rfl, _, _, rfl, rfl, _, rfl, ?_⟩
      by_cases c : lo ≤ i
      · rw [if_pos (decide_eq_true c)]
        refine ⟨_, rfl, _, _, rfl, rfl, ?_⟩
        have e : isW (.int i) lo hi = decide (i ≤ hi) := by simp [isW, c]
        rw [e] at k
        exact k
      · rw [if_neg (by simpa using c)]
        have e : isW (.int i) lo hi = false := by simp [isW, c]
        rw [e] at k
        exact k
    | _ => exact k
end
end KP

set_option Elab.async false
set_option linter.all false
set_option maxRecDepth 100000
set_option maxHeartbeats 1000000
/-! ### readings that change nothing; fractions, shares, pipes -/
namespace KP
open PySem PySem.Spec PyProof.Rows L2 KX
def Vi (t : TE) (σ : L2.St) (H : Hp) (v : V) : Prop := ∀ Q : VK, Q v H → t σ H Q
def Ti (t : TT) (σ : L2.St) (H : Hp) (b : Bool) : Prop := ∀ Q : Bool → Hp → Prop, Q b H → t σ H Q
def Ai (t : TA) (σ : L2.St) (H : Hp) (vs : List V) : Prop := ∀ Q : List V → Hp → Prop, Q vs H → t σ H Q
section
variable {K : PySem.W.Frag} {σ : L2.St} {H : Hp}
theorem vi_var {i : Nat} {v : V} (h : σ[i]? = some (some v)) : Vi (tVar i) σ H v := fun _ q => ⟨v, h, q⟩
theorem vi_c {v : V} : Vi (tC v) σ H v := fun _ q => q
theorem ai_nil : Ai tNil σ H [] := fun _ q => q
theorem ai_cons {te : TE} {ta : TA} {v : V} {vs : List V} (h : Vi te σ H v) (h2 : Ai ta σ H vs) : Ai (tCons te ta) σ H (v :: vs) := fun _ q => h _ (h2 _ q)
theorem vi_op {r : R2} {ta tb : TE} {x y v : V} (ha : Vi ta σ H x) (hb : Vi tb σ H y) (hr : ∀ Q : VK, Q v H → r x y H Q) : Vi (tOp r ta tb) σ H v := fun Q q => ha _ (hb _ (hr Q q))
theorem vi_cb {r : List V → Hp → VK → Prop} {t : TA} {vs : List V} {v : V} (ha : Ai t σ H vs) (hr : ∀ Q : VK, Q v H → r vs H Q) : Vi (tCB r t) σ H v := fun Q q => ha _ (hr Q q)
theorem vi_call {sp : Sp} {E : XK} {t : TA} {vs : List V} {v : V} (ha : Ai t σ H vs) (hr : ∀ Q : VK, Q v H → sp vs H Q E) : Vi (tCall sp [] E t) σ H v := fun Q q => ha _ (by rw [List.append_nil]; exact hr Q q)
theorem ti_test {te : TE} {b : Bool} (h : Vi te σ H (.bl b)) : Ti (tTest te) σ H b := fun Q q => h _ ⟨b, rfl, q⟩
theorem ti_val {te : TE} {b : Bool} (h : Vi te σ H (.bl b)) : Ti (tB te) σ H b := fun Q q => h _ ⟨b, rfl, q⟩
theorem ti_or {t u : TT} {a b : Bool} (h : Ti t σ H a) (h2 : a = false → Ti u σ H b) : Ti (tOr t u) σ H (a || b) := fun Q q => h _ (by
  cases a with
  | true => rw [if_pos rfl]; simpa using q
  | false => rw [if_neg Bool.false_ne_true]; exact h2 rfl _ (by simpa using q))
theorem ti_not {t : TT} {a : Bool} (h : Ti t σ H a) : Ti (tNot t) σ H (!a) := fun Q q => h _ q
theorem vi_and {ta tb : TE} {a b : Bool} (h : Vi ta σ H (.bl a)) (h2 : a = true → Vi tb σ H (.bl b)) : Vi (tAndV ta tb) σ H (.bl (a && b)) := fun Q q => h _ ⟨a, rfl, by
  cases a with
  | true => rw [if_pos rfl]; exact h2 rfl _ (by simpa using q)
  | false => rw [if_neg Bool.false_ne_true]; simpa using q⟩
theorem vi_or {ta tb : TE} {a b : Bool} (h : Vi ta σ H (.bl a)) (h2 : a = false → Vi tb σ H (.bl b)) : Vi (tOrV ta tb) σ H (.bl (a || b)) := fun Q q => h _ ⟨a, rfl, by
  cases a with
  | true => rw [if_pos rfl]; simpa using q
  | false => rw [if_neg Bool.false_ne_true]; exact h2 rfl _ (by simpa using q)⟩
theorem i_if {t : TT} {tu tw : TS} {b : Bool} {D : Ends} (h : Ti t σ H b) (h1 : b = true → tu D σ H) (h2 : b = false → tw D σ H) : tIfS t tu tw D σ H := h _ (by
  cases b with
  | true => rw [if_pos rfl]; exact h1 rfl
  | false => rw [if_neg Bool.false_ne_true]; exact h2 rfl)
theorem i_ret {te : TE} {v : V} {D : Ends} (h : Vi te σ H v) (k : D.rt v H) : tRet te D σ H := h _ k
/-- if test: return False -/
theorem i_guard {t : TT} {tz : TS} {b : Bool} {D : Ends} (h : Ti t σ H b) (h1 : b = true → D.rt (.bl false) H) (h2 : b = false → tz D σ H) : tSeq (tIfS t (tRet (tC (.bl false))) tNext) tz D σ H :=
  i_if (D := { D with nx := tz D }) h (fun z => i_ret vi_c (h1 z)) h2
theorem vi_type {K : PySem.W.Frag} {t : TA} {x : V} {d : PyData} (ha : Ai t σ H [x]) (h : Th H x d) : Vi (tCB (rTyp K) t) σ H (.ty (tyN d)) := vi_cb ha fun Q q => ⟨x, _, rfl, h.ty, q⟩
theorem ti_notTup {K : PySem.W.Frag} {te : TE} {x : V} {d : PyData} (ha : Vi te σ H x) (h : Th H x d) : Ti (tTest (tOp rNT (tCB (rTyp K) (tCons te tNil)) (tC (.ty "tuple")))) σ H (!decide (tyN d = "tuple")) :=
  ti_test (vi_op (vi_type (ai_cons ha ai_nil) h) vi_c fun Q q => ⟨_, _, rfl, rfl, q⟩)
end
def lenT : PyData → Nat
  | .tuple ds => ds.length
  | _ => 0
theorem all2 {H : Hp} {xs : List V} {ds : List PyData} (h : ThAll H xs ds) : xs.length = ds.length := by
  induction ds generalizing xs with
  | nil => cases h; rfl
  | cons d ds ih => cases h with | cons a b => rw [List.length_cons, List.length_cons, ih b]
def rLen (K : PySem.W.Frag) : List V → Hp → VK → Prop := fun xs H Q => ∃ p ys, xs = [.ref p] ∧ (SqL K H p ys ∨ SqT K H p ys) ∧ Q (.int ys.length) H
section
variable {K : PySem.W.Frag} {σ : L2.St} {H : Hp}
theorem tupOf {x : V} {d : PyData} (h : Th H x d) (z : tyN d = "tuple") : ∃ a xs ds, x = .ref a ∧ d = .tuple ds ∧ Rd H a (.tup xs) ∧ ThAll H xs ds := by
  cases h with
  | tup' e ha => exact ⟨_, _, _, rfl, rfl, e, ha⟩
  | _ => exact absurd z (by simp [tyN])
theorem vi_lenT {t : TA} {x : V} {d : PyData} (ha : Ai t σ H [x]) (h : Th H x d) (z : tyN d = "tuple") : Vi (tCB (rLen K) t) σ H (.int (lenT d)) := vi_cb ha fun Q q => by
  obtain ⟨a, xs, ds, rfl, rfl, e, hl⟩ := tupOf h z
  exact ⟨a, xs, rfl, .inr (SqT.of e), by rw [all2 hl]; exact q⟩
/-- the shape that is asked first -/
def shp (n : Nat) (d : PyData) : Bool := decide (tyN d = "tuple") && decide (lenT d = n)
theorem int_dec (a b : Nat) : decide ((V.int (a : Int)) = .int (b : Int)) = decide (a = b) := by
  rw [Bool.eq_iff_iff, decide_eq_true_eq, decide_eq_true_eq]
  constructor
  · intro y
    have := V.int.inj y
    omega
  · intro y
    rw [y]
theorem ti_shape {te : TE} {x : V} {d : PyData} {n : Nat} {m : Int} (hm : m = (n : Int)) (ha : Vi te σ H x) (h : Th H x d) :
    Ti (tOr (tTest (tOp rNT (tCB (rTyp K) (tCons te tNil)) (tC (.ty "tuple")))) (tTest (tOp rNe (tCB (rLen K) (tCons te tNil)) (tC (.int m))))) σ H (!shp n d) := by
  subst hm
  have e : (!shp n d) = ((!decide (tyN d = "tuple")) || !decide (lenT d = n)) := by unfold shp; rw [Bool.not_and]
  rw [e]
  refine ti_or (ti_notTup ha h) fun z => ti_test (vi_op (vi_lenT (ai_cons ha ai_nil) h (by simpa using z)) vi_c fun Q q => ⟨rfl, ?_⟩)
  rw [int_dec]
  exact q
theorem shp_of {x : V} {d : PyData} {n : Nat} (h : Th H x d) (z : (!shp n d) = false) : ∃ a xs ds, x = .ref a ∧ d = .tuple ds ∧ Rd H a (.tup xs) ∧ ThAll H xs ds ∧ ds.length = n := by
  have z : shp n d = true := by simpa using z
  unfold shp at z
  rw [Bool.and_eq_true, decide_eq_true_eq, decide_eq_true_eq] at z
  obtain ⟨a, xs, ds, e1, rfl, e2, hl⟩ := tupOf h z.1
  exact ⟨a, xs, ds, e1, rfl, e2, hl, z.2⟩
theorem not_shp {d : PyData} {n : Nat} (z : (!shp n d) = true) : ∀ ds, d = .tuple ds → ds.length ≠ n := by
  rintro ds rfl e
  simp [shp, tyN, lenT, e] at z
end
def ith (i : Nat) : PyData → PyData
  | .tuple ds => ds.getD i .none
  | _ => .none
def ratio2 : PyData → PyData → Bool
  | .int a, .int b => decide (0 < b) && decide (Nat.gcd a.natAbs b.natAbs = 1)
  | _, _ => false
def isR (d : PyData) : Bool := shp 2 d && ratio2 (ith 0 d) (ith 1 d)
def small2 : PyData → PyData → Bool
  | .int a, .int b => decide ((if a < 0 then -a else a) ≤ 999) && decide (b ≤ 999)
  | _, _ => false
def isTold (d : PyData) : Bool := isR d && small2 (ith 0 d) (ith 1 d)
def isX : PyData → Bool
  | .str s => decide (s = "x")
  | _ => false
def isShare (u : Int) (d : PyData) : Bool := shp 2 d && (if tyN (ith 0 d) = "str" then isX (ith 0 d) && isW (ith 1 d) 0 (u - 1) else isTold d)
def eqI : PyData → PyData → Bool
  | .int i, .int j => decide (i = j)
  | _, _ => false
def isNon : PyData → Bool
  | .none => true
  | _ => false
def isPipe (m u : Int) (d : PyData) : Bool := shp 3 d && (!(!isW (ith 0 d) 0 (m - 1) || !isShare u (ith 2 d)) && (isNon (ith 1 d) || (isW (ith 1 d) 0 (m - 1) && !eqI (ith 1 d) (ith 0 d))))
theorem len2 {α : Type} {l : List α} (h : l.length = 2) : ∃ a b, l = [a, b] := by
  match l, h with
  | [a, b], _ => exact ⟨a, b, rfl⟩
theorem len3 {α : Type} {l : List α} (h : l.length = 3) : ∃ a b c, l = [a, b, c] := by
  match l, h with
  | [a, b, c], _ => exact ⟨a, b, c, rfl⟩
theorem len5 {α : Type} {l : List α} (h : l.length = 5) : ∃ a b c d e, l = [a, b, c, d, e] := by
  match l, h with
  | [a, b, c, d, e], _ => exact ⟨a, b, c, d, e, rfl⟩
def spIs (p : PyData → Bool) : Sp := fun vs H Q _ => ∃ x d, vs = [x] ∧ Th H x d ∧ Q (.bl (p d)) H
section
variable {P : Program} {w : World} {K : PySem.W.Frag} {mg : Str → Option Value} {base : Heap}
theorem scRatio : FnScope ["value", "above", "below"] ["value"] (defScope sRatio) := ⟨rfl, rfl, rfl, by decide +kernel, rfl, by decide +kernel, by decide +kernel⟩
theorem ok_ratio {f fW : Addr} {fd fdW : FuncData} (F : Fun K "is_ratio" "is_ratio" sRatio f fd) (T : TxT mg) (mG : mg "gcd" = some (.builtin "math.gcd")) (FW : FnOk P w K mg base CX0 1 fW fdW ["value"] spWhole) (mW : mg "is_whole" = some (.ref fW)) (kW : PySem.W.keepIn K (.ref fW) = true) (bW : Binds K fdW ["value"] []) :
    FnOk P w K mg base CX0 2 f fd ["value"] (spIs isR) := by
  refine F.ok scRatio (fun vs H Q E h => ?_) (fun cdv A outer s H vs Q E hr h => ?_)
  · obtain ⟨x, d, rfl, _⟩ := h
    rfl
  · obtain ⟨x, d, rfl, hx, k⟩ := h
    refine ⟨_, pss_cons (ps_if (pw_or (pt_cmpR op_notTyB (pe_callTy call_type1 (by rfl) T.type (by decide +kernel) (pa_cons (pv 0) pa_nil)) (pe_bltn (v := .ty "tuple") (by rfl) T.tuple (by decide +kernel) rfl) (nomark _))
        (pw_or1 (pt_cmpR op_ne (pe_callB call_len_seq (by rfl) T.len PySem.boot_len (pa_cons (pv 0) pa_nil)) pe_int (nomark _)))).pt (pss_one (ps_ret pe_bl)) pss_nil)
      (pss_cons (ps_asg (pv 0) (pg_tup rfl (pgs_cons (pg_name (i := 1) scRatio.nd rfl (Or.inl rfl)) (pgs_cons (pg_name (i := 2) scRatio.nd rfl (Or.inl rfl)) pgs_nil))))
      (pss_one (ps_ret (pe_and (pe_call FW hr rfl mW kW bW .nil pass0 (pa_cons (pv 1) pa_nil)) (pe_and (pe_call FW hr rfl mW kW bW .nil pass0 (pa_cons (pv 2) pa_nil)) (pe_and (pe_cmpR op_gt (pv 2) pe_int (nomark _)) (pe_one (pe_cmpR op_eq (pe_callBfun cr_gcd (by rfl) mG (pa_cons (pv 1) (pa_cons (pv 2) pa_nil))) pe_int (nomark _))))))))), ?_⟩
    refine i_guard (ti_shape rfl (vi_var rfl) hx) (fun z => ?_) (fun z => ?_)
    · have e : isR d = false := by
        have z : shp 2 d = false := by simpa using z
        simp [isR, z]
      rw [e] at k
      exact k
    · obtain ⟨a, xs, ds, rfl, rfl, e, ha, l2⟩ := shp_of hx z
      obtain ⟨d1, d2, rfl⟩ := len2 l2
      cases ha with
      | cons h1 hr1 => cases hr1 with
          | cons h2 hr2 =>
            cases hr2
            refine ⟨_, rfl, a, _, rfl, SqT.of e, rfl, _, _, rfl, _, _, rfl, rfl, ?_⟩
            have e9 : isR (.tuple [d1, d2]) = (isI d1 && (isI d2 && ratio2 d1 d2)) := by cases d1 <;> cases d2 <;> simp [isI, isR, shp, ith, ratio2, tyN, lenT]
            rw [e9] at k
            dsimp only
            refine i_ret (v := .bl (isI d1 && (isI d2 && ratio2 d1 d2))) ?_ k
            refine vi_and (vi_call (ai_cons (vi_var rfl) ai_nil) fun Q q => ⟨_, _, rfl, h1, q⟩) fun c1 => ?_
            refine vi_and (vi_call (ai_cons (vi_var rfl) ai_nil) fun Q q => ⟨_, _, rfl, h2, q⟩) fun c2 => ?_
            cases h1 with
            | int i1 => cases h2 with
              | int i2 =>
                refine vi_and (vi_op (vi_var rfl) vi_c fun Q q => ⟨_, _, rfl, rfl, q⟩) fun c3 => ?_
                refine vi_op (vi_cb (v := .int ((Nat.gcd i1.natAbs i2.natAbs : Nat) : Int)) (ai_cons (vi_var rfl) (ai_cons (vi_var rfl) ai_nil)) fun Q q => ⟨_, _, rfl, q⟩) vi_c (fun Q q => ⟨rfl, ?_⟩)
                rw [show (V.int 1) = V.int ((1 : Nat) : Int) from rfl, int_dec]
                exact q
              | _ => simp [isI] at c2
            | _ => simp [isI] at c1
end
end KP

set_option Elab.async false
set_option linter.all false
set_option maxRecDepth 100000
set_option maxHeartbeats 1000000
/-! ### told fractions, shares, pipes -/
namespace KP
open PySem PySem.Spec PyProof.Rows L2 KX
theorem ratio_of {H : Hp} {x : V} {d : PyData} (h : Th H x d) (z : isR d = true) : ∃ a i j, x = .ref a ∧ d = .tuple [.int i, .int j] ∧ Rd H a (.tup [.int i, .int j]) := by
  unfold isR at z
  rw [Bool.and_eq_true] at z
  obtain ⟨a, xs, ds, rfl, rfl, e, ha, l2⟩ := shp_of h (by rw [z.1]; rfl)
  obtain ⟨d1, d2, rfl⟩ := len2 l2
  have z2 : ratio2 d1 d2 = true := z.2
  cases ha with
  | cons h1 hr1 => cases hr1 with
    | cons h2 hr2 =>
      cases hr2
      cases h1 with
      | int i => cases h2 with
        | int j => exact ⟨a, i, j, rfl, rfl, e⟩
        | _ => simp [ratio2] at z2
      | _ => cases h2 <;> simp [ratio2] at z2
theorem isW_int {x : V} {H : Hp} {d : PyData} {lo hi : Int} (h : Th H x d) (z : isW d lo hi = true) : ∃ i, x = .int i ∧ d = .int i := by
  cases h with
  | int i => exact ⟨i, rfl, rfl⟩
  | _ => simp [isW] at z
def spShare : Sp := fun vs H Q _ => ∃ x d u, vs = [x, .int u] ∧ Th H x d ∧ Q (.bl (isShare u d)) H
def spPipe : Sp := fun vs H Q _ => ∃ x d m u, vs = [x, .int m, .int u] ∧ Th H x d ∧ Q (.bl (isPipe m u d)) H
theorem spWithin_at {x : V} {d : PyData} {lo hi : Int} {H : Hp} {Q : VK} {E : XK} (h : Th H x d) (q : Q (.bl (isW d lo hi)) H) : spWithin [x, .int lo, .int hi] H Q E := ⟨x, d, lo, hi, rfl, h, q⟩
section
variable {P : Program} {w : World} {K : PySem.W.Frag} {mg : Str → Option Value} {base : Heap}
theorem scTold : FnScope ["value"] ["value"] (defScope sTold) := ⟨rfl, rfl, rfl, by decide +kernel, rfl, by decide +kernel, by decide +kernel⟩
theorem ok_told {f fR : Addr} {fd fdR : FuncData} {uB : Value} (F : Fun K "is_told" "is_told" sTold f fd) (T : TxT mg) (mB : mg "TOLD_BOUND" = some uB) (rB : RelV (.int 999) uB) (FR : FnOk P w K mg base CX0 2 fR fdR ["value"] (spIs isR)) (mR : mg "is_ratio" = some (.ref fR)) (kR : PySem.W.keepIn K (.ref fR) = true) (bR : Binds K fdR ["value"] []) :
    FnOk P w K mg base CX0 3 f fd ["value"] (spIs isTold) := by
  refine F.ok scTold (fun vs H Q E h => ?_) (fun cdv A outer s H vs Q E hr h => ?_)
  · obtain ⟨x, d, rfl, _⟩ := h
    rfl
  · obtain ⟨x, d, rfl, hx, k⟩ := h
    refine ⟨_, pss_one (ps_ret (pe_and (pe_call FR hr rfl mR kR bR .nil pass0 (pa_cons (pv 0) pa_nil)) (pe_and (pe_cmpR op_le (pe_callB call_abs (by rfl) T.abs (by decide +kernel) (pa_cons (pe_ix ix_seq (pv 0) pe_int (fun _ _ => rfl)) pa_nil)) (pe_glob (by rfl) mB rB) (nomark _))
      (pe_one (pe_cmpR op_le (pe_ix ix_seq (pv 0) pe_int (fun _ _ => rfl)) (pe_glob (by rfl) mB rB) (nomark _)))))), ?_⟩
    refine i_ret (D := { nx := fun _ H' => Q .non H', rt := Q }) (v := .bl (isR d && small2 (ith 0 d) (ith 1 d))) ?_ k
    refine vi_and (vi_call (ai_cons (vi_var rfl) ai_nil) fun Q q => ⟨_, _, rfl, hx, q⟩) fun c1 => ?_
    obtain ⟨a, i, j, rfl, rfl, e⟩ := ratio_of hx c1
    have x0 : ∀ {c : Int} {v : V}, atI [V.int i, V.int j] c = some v → Vi (tOp (rIx K) (tVar 0) (tC (.int c))) (L2.start ["value"] [V.ref a]) H v := fun {c v} h => vi_op (vi_var rfl) vi_c fun Q q => .inr (.inl ⟨a, _, c, v, rfl, rfl, SqT.of e, h, q⟩)
    refine vi_and (vi_op (vi_cb (ai_cons (x0 rfl) ai_nil) fun Q q => ⟨i, rfl, q⟩) vi_c fun Q q => ⟨_, _, rfl, rfl, q⟩) fun c2 => ?_
    exact vi_op (x0 rfl) vi_c fun Q q => ⟨_, _, rfl, rfl, q⟩
theorem scShare : FnScope ["share", "unknowns", "mark", "unknown"] ["share", "unknowns"] (defScope sShare) := ⟨rfl, rfl, rfl, by decide +kernel, rfl, by decide +kernel, by decide +kernel⟩
theorem ok_share {f fI fD : Addr} {fd fdI fdD : FuncData} (F : Fun K "_is_share" "_is_share" sShare f fd) (T : TxT mg) (FI : FnOk P w K mg base CX0 2 fI fdI ["value", "least", "most"] spWithin) (mI : mg "is_within" = some (.ref fI)) (kI : PySem.W.keepIn K (.ref fI) = true) (bI : Binds K fdI ["value", "least", "most"] [])
    (FD : FnOk P w K mg base CX0 3 fD fdD ["value"] (spIs isTold)) (mD : mg "is_told" = some (.ref fD)) (kD : PySem.W.keepIn K (.ref fD) = true) (bD : Binds K fdD ["value"] []) :
    FnOk P w K mg base CX0 4 f fd ["share", "unknowns"] spShare := by
  refine F.ok scShare (fun vs H Q E h => ?_) (fun cdv A outer s H vs Q E hr h => ?_)
  · obtain ⟨x, d, u, rfl, _⟩ := h
    rfl
  · obtain ⟨x, d, u, rfl, hx, k⟩ := h
    have hr2 : Room 2 _ := hr.mono (by decide)
    refine ⟨_, pss_cons (ps_if (pw_or (pt_cmpR op_notTyB (pe_callTy call_type1 (by rfl) T.type (by decide +kernel) (pa_cons (pv 0) pa_nil)) (pe_bltn (v := .ty "tuple") (by rfl) T.tuple (by decide +kernel) rfl) (nomark _))
        (pw_or1 (pt_cmpR op_ne (pe_callB call_len_seq (by rfl) T.len PySem.boot_len (pa_cons (pv 0) pa_nil)) pe_int (nomark _)))).pt (pss_one (ps_ret pe_bl)) pss_nil)
      (pss_cons (ps_asg (pv 0) (pg_tup rfl (pgs_cons (pg_name (i := 2) scShare.nd rfl (Or.inl rfl)) (pgs_cons (pg_name (i := 3) scShare.nd rfl (Or.inl rfl)) pgs_nil))))
      (pss_cons (ps_if (pt_cmpR op_isTyB (pe_callTy call_type1 (by rfl) T.type (by decide +kernel) (pa_cons (pv 2) pa_nil)) (pe_bltn (v := .ty "str") (by rfl) T.str (by decide +kernel) rfl) (nomark _))
        (pss_one (ps_ret (pe_and (pe_cmpR op_eq (pv 2) pe_str (nomark _)) (pe_one (pe_call FI hr2 rfl mI kI bI .nil pass0 (pa_cons (pv 3) (pa_cons pe_int (pa_cons (pe_op op_sub (pv 1) pe_int) pa_nil)))))))) pss_nil)
      (pss_one (ps_ret (pe_call FD hr rfl mD kD bD .nil pass0 (pa_cons (pv 0) pa_nil)))))), ?_⟩
    refine i_guard (ti_shape rfl (vi_var rfl) hx) (fun z => ?_) (fun z => ?_)
    · have z : shp 2 d = false := by simpa using z
      have e : isShare u d = false := by simp [isShare, z]
      rw [e] at k
      exact k
    · have hx0 := hx
      have z0 : shp 2 d = true := by simpa using z
      obtain ⟨a, xs, ds, rfl, rfl, e, ha, l2⟩ := shp_of hx z
      obtain ⟨d1, d2, rfl⟩ := len2 l2
      cases ha with
      | cons h1 hr1 => cases hr1 with
        | cons h2 hr2 =>
          cases hr2
          refine ⟨_, rfl, a, _, rfl, SqT.of e, rfl, _, _, rfl, _, _, rfl, rfl, ?_⟩
          have e8 : isShare u (.tuple [d1, d2]) = if tyN d1 = "str" then isX d1 && isW d2 0 (u - 1) else isTold (.tuple [d1, d2]) := by
            unfold isShare
            rw [z0, Bool.true_and]
            rfl
          rw [e8] at k
          dsimp only
          refine i_if (D := { nx := _, rt := Q }) (ti_test (vi_op (vi_type (ai_cons (vi_var rfl) ai_nil) h1) vi_c fun Q q => ⟨_, _, rfl, rfl, q⟩)) (fun c => ?_) (fun c => ?_)
          · have c : tyN d1 = "str" := of_decide_eq_true c
            rw [if_pos c] at k
            cases h1 with
            | str s =>
              refine i_ret (D := { nx := _, rt := Q }) (v := .bl (isX (.str s) && isW d2 0 (u - 1))) ?_ k
              refine vi_and (vi_op (vi_var rfl) vi_c fun Q q => ⟨rfl, ?_⟩) fun c1 => ?_
              · have e7 : decide (V.str s = V.str "x") = isX (.str s) := by simp [isX]
                rw [e7]
                exact q
              · exact vi_call (ai_cons (vi_var rfl) (ai_cons vi_c (ai_cons (vi_op (vi_var rfl) vi_c fun Q q => ⟨_, _, rfl, rfl, q⟩) ai_nil))) fun Q q => spWithin_at h2 q
            | _ => exact absurd c (by simp [tyN])
          · have c : ¬ tyN d1 = "str" := of_decide_eq_false c
            rw [if_neg c] at k
            refine i_ret (D := { nx := _, rt := Q }) (v := .bl (isTold (.tuple [d1, d2]))) (vi_call (ai_cons (vi_var rfl) ai_nil) fun Q q => ⟨_, _, rfl, hx0, q⟩) k
end
end KP

set_option Elab.async false
set_option linter.all false
set_option maxRecDepth 100000
set_option maxHeartbeats 1000000
/-! ### pipes -/
namespace KP
open PySem PySem.Spec PyProof.Rows L2 KX
section
variable {P : Program} {w : World} {K : PySem.W.Frag} {mg : Str → Option Value} {base : Heap}
theorem isNon_dec {x : V} {H : Hp} {d : PyData} (h : Th H x d) : decide (x = .non) = isNon d := by cases h <;> simp [isNon]
theorem scPipe : FnScope ["pipe", "many", "unknowns", "start", "end", "share"] ["pipe", "many", "unknowns"] (defScope sPipe) := ⟨rfl, rfl, rfl, by decide +kernel, rfl, by decide +kernel, by decide +kernel⟩
theorem ok_pipe {f fI fS : Addr} {fd fdI fdS : FuncData} (F : Fun K "_is_pipe" "_is_pipe" sPipe f fd) (T : TxT mg) (FI : FnOk P w K mg base CX0 2 fI fdI ["value", "least", "most"] spWithin) (mI : mg "is_within" = some (.ref fI)) (kI : PySem.W.keepIn K (.ref fI) = true) (bI : Binds K fdI ["value", "least", "most"] [])
    (FS : FnOk P w K mg base CX0 4 fS fdS ["share", "unknowns"] spShare) (mS : mg "_is_share" = some (.ref fS)) (kS : PySem.W.keepIn K (.ref fS) = true) (bS : Binds K fdS ["share", "unknowns"] []) :
    FnOk P w K mg base CX0 5 f fd ["pipe", "many", "unknowns"] spPipe := by
  refine F.ok scPipe (fun vs H Q E h => ?_) (fun cdv A outer s H vs Q E hr h => ?_)
  · obtain ⟨x, d, m, u, rfl, _⟩ := h
    rfl
  · obtain ⟨x, d, m, u, rfl, hx, k⟩ := h
    have hr2 : Room 2 _ := hr.mono (by decide)
    refine ⟨_, pss_cons (ps_if (pw_or (pt_cmpR op_notTyB (pe_callTy call_type1 (by rfl) T.type (by decide +kernel) (pa_cons (pv 0) pa_nil)) (pe_bltn (v := .ty "tuple") (by rfl) T.tuple (by decide +kernel) rfl) (nomark _))
        (pw_or1 (pt_cmpR op_ne (pe_callB call_len_seq (by rfl) T.len PySem.boot_len (pa_cons (pv 0) pa_nil)) pe_int (nomark _)))).pt (pss_one (ps_ret pe_bl)) pss_nil)
      (pss_cons (ps_asg (pv 0) (pg_tup rfl (pgs_cons (pg_name (i := 3) scPipe.nd rfl (Or.inl rfl)) (pgs_cons (pg_name (i := 4) scPipe.nd rfl (Or.inl rfl)) (pgs_cons (pg_name (i := 5) scPipe.nd rfl (Or.inl rfl)) pgs_nil)))))
      (pss_cons (ps_if (pw_or (pt_not (pt_val (pe_call FI hr2 (by rfl) mI kI bI .nil pass0 (pa_cons (pv 3) (pa_cons pe_int (pa_cons (pe_op op_sub (pv 1) pe_int) pa_nil))))))
          (pw_or1 (pt_not (pt_val (pe_call FS hr (by rfl) mS kS bS .nil pass0 (pa_cons (pv 5) (pa_cons (pv 2) pa_nil))))))).pt (pss_one (ps_ret pe_bl)) pss_nil)
      (pss_one (ps_ret (pe_or (pe_cmpR op_isN (pv 4) pe_non (nomark _)) (pe_one (pe_and (pe_call FI hr2 (by rfl) mI kI bI .nil pass0 (pa_cons (pv 4) (pa_cons pe_int (pa_cons (pe_op op_sub (pv 1) pe_int) pa_nil)))) (pe_one (pe_cmpR op_ne (pv 4) (pv 3) (nomark _)))))))))), ?_⟩
    refine i_guard (ti_shape rfl (vi_var rfl) hx) (fun z => ?_) (fun z => ?_)
    · have z : shp 3 d = false := by simpa using z
      have e : isPipe m u d = false := by simp [isPipe, z]
      rw [e] at k
      exact k
    · have z0 : shp 3 d = true := by simpa using z
      obtain ⟨a, xs, ds, rfl, rfl, e, ha, l2⟩ := shp_of hx z
      obtain ⟨d1, d2, d3, rfl⟩ := len3 l2
      cases ha with
      | cons h1 hr1 => cases hr1 with
        | cons h2 hr2' => cases hr2' with
          | cons h3 hr3 =>
            cases hr3
            refine ⟨_, rfl, a, _, rfl, SqT.of e, rfl, _, _, rfl, _, _, rfl, _, _, rfl, rfl, ?_⟩
            have e8 : isPipe m u (.tuple [d1, d2, d3]) = (!(!isW d1 0 (m - 1) || !isShare u d3) && (isNon d2 || (isW d2 0 (m - 1) && !eqI d2 d1))) := by
              unfold isPipe
              rw [z0, Bool.true_and]
              rfl
            rw [e8] at k
            dsimp only
            refine i_guard (D := { nx := _, rt := Q }) (ti_or (ti_not (ti_val (vi_call (ai_cons (vi_var rfl) (ai_cons vi_c (ai_cons (vi_op (vi_var rfl) vi_c fun Q q => ⟨_, _, rfl, rfl, q⟩) ai_nil))) fun Q q => spWithin_at h1 q)))
              fun _ => ti_not (ti_val (vi_call (ai_cons (vi_var rfl) (ai_cons (vi_var rfl) ai_nil)) fun Q q => ⟨_, _, _, rfl, h3, q⟩))) (fun z => ?_) (fun z => ?_)
            · rw [z] at k
              exact k
            · rw [z] at k
              have zw : isW d1 0 (m - 1) = true := by
                rw [Bool.or_eq_false_iff] at z
                simpa using z.1
              refine i_ret (D := { nx := _, rt := Q }) (v := .bl (isNon d2 || (isW d2 0 (m - 1) && !eqI d2 d1))) ?_ (by simpa using k)
              refine vi_or (vi_op (vi_var rfl) vi_c fun Q q => ⟨rfl, ?_⟩) fun c1 => ?_
              · rw [isNon_dec h2]
                exact q
              · refine vi_and (vi_call (ai_cons (vi_var rfl) (ai_cons vi_c (ai_cons (vi_op (vi_var rfl) vi_c fun Q q => ⟨_, _, rfl, rfl, q⟩) ai_nil))) fun Q q => spWithin_at h2 q) fun c2 => ?_
                obtain ⟨i, rfl, rfl⟩ := isW_int h1 zw
                obtain ⟨j, rfl, rfl⟩ := isW_int h2 c2
                refine vi_op (vi_var rfl) (vi_var rfl) fun Q q => ⟨rfl, ?_⟩
                have e7 : decide (V.int j = V.int i) = eqI (.int j) (.int i) := by simp [eqI]
                rw [e7]
                exact q
end
end KP

set_option Elab.async false
set_option linter.all false
set_option maxRecDepth 100000
set_option maxHeartbeats 1000000
/-! ### a generator expression whose element calls own functions: its body's segments, all(..) over it -/
namespace KG
open PySem PySem.Spec PyProof.Rows L2 GenW
/-- the body's turns: Lp m: at the loop's head, at most m items are left; Yd m: an item is just handed out, at most m are left; Dn: nothing is left -/
structure GWalk (P : Program) (w : World) (B : Around) (tg elt : Expr) (I : Addr) (cenv : Env) (Lp : Nat → Shared → Prop) (Yd : Nat → Value → Shared → Prop) (Dn : Shared → Prop) : Prop where
  turn : ∀ m s, Lp m s → wpAny (model P w) B (pyNext (.ref I)) (fun r s1 => match r with
    | none => Dn s1
    | some v => wpAny (model P w) B (letOwnedTupleGo tg (.ref I) v) (fun _ s2 => wpAny (model P w) B (assign tg cenv v) (fun _ s3 =>
        wpAny (model P w) B (eval elt cenv) (fun y s4 => ∃ m', m = m' + 1 ∧ Yd m' y s4) (fun _ _ => False) s3) (fun _ _ => False) s2) (fun _ _ => False) s1) (fun _ _ => False) s
  self : ∀ (A' : Around) m s (Q : Value → Shared → Prop) (E : Value → Shared → Prop), Lp m s → Q (.ref I) s → wpAny (model P w) A' (pyIter (.ref I)) Q E s
def RG (Dn : Shared → Prop) : GenEnd := fun _ _ r s₁ => ((r = .ok (.ret .none) ∨ r = .ok .next) ∧ Dn s₁) ∨ ∃ e : Value, r = .error e ∧ False
def YG (Lp : Nat → Shared → Prop) (Yd : Nat → Value → Shared → Prop) : Protocol := fun n _ v s kap => ∃ m', m' ≤ n ∧ Yd m' v s ∧ ∀ s'', Lp m' s'' → kap (.send .none) s''
section
variable {P : Program} {w : World} {A B : Around} {tg elt iter : Expr} {scope : Scope} {pos : Pos} {I : Addr} {cenv : Env} {Lp : Nat → Shared → Prop} {Yd : Nat → Value → Shared → Prop} {Dn : Shared → Prop}
theorem seg_loop (hB : A.over (.compLoop (.GeneratorExp elt [⟨tg, iter, [], 0⟩] scope pos) 0 (.ref I) .none cenv) [] = B) (hco : cenv.scope.isCoroutine = false) (W : GWalk P w B tg elt I cenv Lp Yd Dn) :
    ∀ (m n : Nat) (s₀ s : Shared), m ≤ n → Lp m s → Seg (model P w) A (RG Dn) (YG Lp Yd) n s₀ (.compLoop (.GeneratorExp elt [⟨tg, iter, [], 0⟩] scope pos) 0 (.ref I) .none cenv)
      ((model P w).den (.compLoop (.GeneratorExp elt [⟨tg, iter, [], 0⟩] scope pos) 0 (.ref I) .none cenv)) [] s := by
  have hy : ∀ v, yieldOut cenv v = yieldValue v := fun v => by simp only [yieldOut, hco, Bool.false_eq_true, if_false]
  intro m
  induction m using Nat.strongRecOn with
  | ind m ih =>
    intro n s₀ s hmn hL
    show Seg _ A _ _ _ s₀ _ ((compTurn (.GeneratorExp elt [⟨tg, iter, [], 0⟩] scope pos) 0 (.ref I) .none cenv).onRaise (leaving cenv)) [] s
    rw [compTurn_gen, Sem.onRaise_eq_wrap]
    refine seg_bind_wrap (wpAny_standAt ?_)
    refine seg_bind_wrap ?_
    rw [hB]
    refine wpAny_mono (W.turn m s hL) (fun r s1 h1 => ?_) (fun _ _ z => False.elim z)
    cases r with
    | none => exact seg_end (.ok .next) (.inl ⟨.inr rfl, h1⟩)
    | some v =>
      refine seg_bind_wrap ?_
      rw [hB]
      refine wpAny_mono h1 (fun _ s2 h2 => ?_) (fun _ _ z => False.elim z)
      refine seg_bind_wrap ?_
      rw [hB]
      refine wpAny_mono h2 (fun _ s3 h3 => ?_) (fun _ _ z => False.elim z)
      refine seg_bind_wrap (wpAny_tests_nil ?_)
      simp only [if_true]
      simp only [hy]
      rw [Sem.bind_eq_wrap', Sem.bind_eq_wrap', Sem.wrap_wrap, Sem.wrap_wrap]
      refine seg_wrap ?_
      rw [hB]
      refine wpAny_mono h3 (fun y s4 h4 => ?_) (fun _ _ z => False.elim z)
      obtain ⟨m', em, hY⟩ := h4
      obtain ⟨k, rfl⟩ : ∃ k, n = k + 1 := ⟨n - 1, by omega⟩
      refine seg_at (seg_yield rfl rfl rfl ⟨m', by omega, hY, fun s'' hL'' => ?_⟩)
      exact seg_again rfl (ih m' (by omega) k s'' s'' (by omega) hL'')
theorem seg_start (hB : A.over (.compLoop (.GeneratorExp elt [⟨tg, iter, [], 0⟩] scope pos) 0 (.ref I) .none cenv) [] = B) (hco : cenv.scope.isCoroutine = false) (W : GWalk P w B tg elt I cenv Lp Yd Dn)
    {m n : Nat} {s₀ s : Shared} (hmn : m ≤ n) (hL : Lp m s) : Seg (model P w) A (RG Dn) (YG Lp Yd) n s₀ (.compStart (.GeneratorExp elt [⟨tg, iter, [], 0⟩] scope pos) 0 (.ref I) .none cenv)
      ((model P w).den (.compStart (.GeneratorExp elt [⟨tg, iter, [], 0⟩] scope pos) 0 (.ref I) .none cenv)) [] s := by
  have loop := seg_loop (iter := iter) (scope := scope) (pos := pos) hB hco W m n s₀ s hmn hL
  show Seg _ A _ _ _ s₀ _ ((compStart (.GeneratorExp elt [⟨tg, iter, [], 0⟩] scope pos) 0 (.ref I) .none cenv).onRaise (leaving cenv)) [] s
  unfold compStart
  rw [Sem.onRaise_eq_wrap]
  show Seg _ A _ _ _ s₀ _ ((ask >>= _).wrap _ _ _ _) [] s
  refine seg_bind_wrap (wpAny_askSetting ?_)
  split
  · exact seg_again rfl loop
  · first
      | exact seg_bind_wrap (wpAny_rule (seg_bind_wrap (wpAny_standAt (seg_bind_wrap (W.self _ m s _ _ hL (seg_again rfl loop))))))
      | (refine seg_bind_wrap (wpAny_rule ?_); show Seg _ A _ _ _ s₀ _ ((standAt iter.pos >>= _).wrap _ _ _ _) [] s; exact seg_bind_wrap (wpAny_standAt (seg_bind_wrap (W.self _ m s _ _ hL (seg_again rfl loop)))))
/-- but for generators, counters, the same -/
structure Alike (s s' : Shared) : Prop where
  heap : s'.heap = s.heap
  os : s'.os = s.os
  bare : AllBare s'.gens
theorem all_loop {R : Result → Shared → Prop} {a : Addr} {g : Nat} (hh : A.handled = none) (hd : A.depth < recursionLimit)
    (item : ∀ m v s, Yd m v s → s.heap.NoLimit ∧ s.heap.IsGen a g ∧ AllBare s.gens ∧ ∃ b, v = .bool b ∧ ∀ s'', Alike s s'' → if b = true then Lp m s'' else R (.ok (.ret (.bool false))) s'')
    (done : ∀ s s', Dn s → (∀ b o, s.heap.get? b = some o → s'.heap.get? b = some o) → s'.os = s.os → s'.gens = (s.setGen g .finished).gens → R (.ok (.ret (.bool true))) s') :
    ∀ (n : Nat) (s : Shared) (gs : GenState), s.heap.NoLimit → s.heap.IsGen a g → s.gens[g]? = some gs → gs.Goes (model P w) A.in1.in1 (RG Dn) (YG Lp Yd) n (.send .none) (s.setGen g .running) →
      codeAny (model P w) A (.builtin "all.loop" ⟨[.ref a], []⟩) R s := by
  intro n
  induction n with
  | zero =>
    intro s gs hl hg hgs hgo
    refine codeAny_builtin F.entry_all_loop ?_
    rw [Around.under_plainId F.plain_all_loop _]
    show wpAny _ A.in1 (pyNext (.ref a) >>= _) _ _ s
    refine wpAny_bind (next_genG (A := A.in1) (F := fun _ _ s1 => Dn s1) (Er := fun _ _ => False) hh hl hd hg hgs hgo (fun v s₁ gs' hbare hv => ?_) (fun s₁ hp h' hk => ?_) fun e s₁ he => False.elim he)
    · obtain ⟨m', hm, hY, hk⟩ := hv
      obtain ⟨hl1, hg1, hb1, b, rfl, hR⟩ := item m' v s₁ hY
      have hal : Alike s₁ (s₁.setGen g gs') := ⟨rfl, rfl, allBare_setGen hb1 hbare⟩
      have hq := hR _ hal
      refine wpAny_bind (wpAny_holding (wpAny_truthy_bool ?_))
      refine wpAny_bind (wpAny_letGo ?_)
      cases b with
      | true => exact False.elim (hk _ (by simpa using hq))
      | false =>
        simp only [Bool.false_eq_true, if_false] at hq ⊢
        exact wpAny_bind (wpAny_rule (wpAny_pure hq))
    · refine wpAny_bind (wpAny_rule (wpAny_pure ?_))
      exact done s₁ _ hp hk rfl rfl
  | succ n ih =>
    intro s gs hl hg hgs hgo
    have hgl : g < s.gens.size := (Array.getElem?_eq_some_iff.mp hgs).1
    refine codeAny_builtin F.entry_all_loop ?_
    rw [Around.under_plainId F.plain_all_loop _]
    show wpAny _ A.in1 (pyNext (.ref a) >>= _) _ _ s
    refine wpAny_bind (wpAny_gsz (n := g + 1) hgl (next_genG (A := A.in1) (F := fun _ _ s1 => Dn s1) (Er := fun _ _ => False) hh hl hd hg hgs hgo (fun v s₁ gs' hbare hv => ?_) (fun s₁ hp h' hk => ?_) fun e s₁ he => False.elim he))
    · intro hsz
      obtain ⟨m', hm, hY, hk⟩ := hv
      obtain ⟨hl1, hg1, hb1, b, rfl, hR⟩ := item m' v s₁ hY
      have hal : Alike s₁ (s₁.setGen g gs') := ⟨rfl, rfl, allBare_setGen hb1 hbare⟩
      have hsz1 : g < s₁.gens.size := by
        have q : (s₁.setGen g gs').gens.size = s₁.gens.size := setGen_size _ _ _
        have hsz' : g + 1 ≤ (s₁.setGen g gs').gens.size := hsz
        omega
      refine wpAny_bind (wpAny_holding (wpAny_truthy_bool ?_))
      refine wpAny_bind (wpAny_letGo ?_)
      cases b with
      | true =>
        simp only [if_true]
        refine wpAny_pure ⟨plainId_quiet F.plain_all_loop _, ih _ gs' hl1 hg1 (setGen_at hsz1) ?_⟩
        refine hk _ ?_
        have q := hR ((s₁.setGen g gs').setGen g .running) ⟨rfl, rfl, allBare_setGen (s := s₁.setGen g gs') (allBare_setGen hb1 hbare) rfl⟩
        simpa using q
      | false =>
        have hq := hR _ hal
        simp only [Bool.false_eq_true, if_false] at hq ⊢
        exact wpAny_bind (wpAny_rule (wpAny_pure hq))
    · intro hsz
      refine wpAny_bind (wpAny_rule (wpAny_pure ?_))
      exact done s₁ _ hp hk rfl rfl
end
end KG

set_option Elab.async false
set_option linter.all false
set_option maxRecDepth 100000
set_option maxHeartbeats 1000000
/-! ### the context within a generator expression's body -/
namespace KG
open PySem PySem.Spec PyProof.Rows L2 GenW
/-- the generator's names: as a block's; a generator has a frame of its own, no cells of its own -/
structure GOk (N : List Str) (sc scope : Scope) (own : List (Str × Nat)) : Prop where
  blk : BlkOk N sc scope own
  co : scope.isCoroutine = false
  nocell : ∀ y ∈ scope.names, y.2 ≠ .cell
  dot : scope.names.lookup (".0" : Str) = some NameKind.local
abbrev gcx (X : Cx) (B : Around) (s : Shared) (H : Hp) (cenv : Env) (fp : List Addr) (pn : List (Addr × Obj)) : Cx :=
  { X with A := B, s_0 := s, H_0 := H, env := cenv, outer := X.stack, stack := cenv :: X.stack, ex := fp, fn := fun _ => false, pn := pn, xe := fun _ _ => False }
section
variable {X : Cx} {pins : List (Addr × Obj)} {σ : L2.St} {H : Hp} {s : Shared}
theorem Inv.alike {s' : Shared} (I : Inv X pins σ H s) (h : Alike s s') : Inv X pins σ H s' :=
  ⟨I.ok, h.os.trans I.os, h.bare, by rw [h.heap]; exact I.base, by rw [h.heap]; exact I.loc, by rw [h.heap]; exact I.cell, I.free, I.freeC, by rw [h.heap]; exact I.pin, by rw [h.heap]; exact I.hok, I.len⟩
theorem gen_start {B : Around} {scope : Scope} {own : List (Str × Nat)} {code : Value} {fp : List Addr} {pn : List (Addr × Obj)} {s' : Shared} {m : Str → Option Value} (I : Inv X pins σ H s) (ok : GOk X.N X.env.scope scope own) (hN : X.N.Nodup) (hfp : ∀ b ∈ fp, FpOk X pins H b ∧ b < s.heap.objs.size)
    (hB : B.handled = none) (hBf : B.frames = some (genEnv scope (cloFrom X.env.cells scope.names []) s.heap.objs.size code builtinsNs X.env :: X.stack))
    (os : s'.os = s.os) (bare : AllBare s'.gens) (kp : ∀ b o, s.heap.get? b = some o → s'.heap.get? b = some o) (hn : s'.heap.Ns s.heap.objs.size m)
    (hpn : ∀ p ∈ pn, s'.heap.get? p.1 = some p.2 ∧ s.heap.objs.size < p.1 ∧ ∀ v, p.2.data ≠ .cell v) :
    Inv (gcx X B s H (genEnv scope (cloFrom X.env.cells scope.names []) s.heap.objs.size code builtinsNs X.env) fp pn) [] (wipe σ (own.map (·.2))) H s' := by
  have hfree : ∀ y ∈ scope.names, y.2 = .free → ∃ c, X.env.cells.lookup y.1 = some c := fun y hy e => by
    rcases ok.blk.free y hy e with k | k
    · exact I.ok.has _ (.inl k)
    · exact I.ok.has _ (.inr k)
  generalize hcenv : genEnv scope (cloFrom X.env.cells scope.names []) s.heap.objs.size code builtinsNs X.env = cenv at hBf ⊢
  have hL : cenv.locals = s.heap.objs.size := by rw [← hcenv]; rfl
  have hcl : cenv.cells = cloFrom X.env.cells scope.names [] := by rw [← hcenv]; rfl
  have hsc : cenv.scope = scope := by rw [← hcenv]; rfl
  have hfrm : cenv.frame = some cenv.locals := by rw [← hcenv]; rfl
  have cm : ∀ {y c}, cenv.cells.lookup y = some c → X.env.cells.lookup y = some c ∧ c < s.heap.objs.size := fun {y c} e => by
    rw [hcl] at e
    rcases cloFrom_mem (PySem.mem_of_lookup e) with hm | ⟨h1, rfl⟩
    · cases hm
    · obtain ⟨c, hc⟩ := hfree _ h1 rfl
      rw [hc]
      obtain ⟨w, z⟩ := I.cell _ _ hc
      exact ⟨rfl, z.lt⟩
  have look : ∀ {y}, scope.names.lookup y = some .free → ∃ c, cenv.cells.lookup y = some c ∧ X.env.cells.lookup y = some c := fun {y} hl => by
    obtain ⟨c', e'⟩ := L2.mem_lookup (cloFrom_has (cells := X.env.cells) (acc := []) (PySem.mem_of_lookup hl))
    rw [← hcl] at e'
    exact ⟨c', e', (cm e').1⟩
  have okB : (gcx X B s H cenv fp pn).Ok := by
    refine ⟨I.ok.mod, by show cenv.scope.kind = _; rw [hsc]; exact ok.blk.kind, by show cenv.globals = _; rw [← hcenv]; exact I.ok.glob, by show cenv.builtins = _; rw [← hcenv]; rfl, by show s.heap.objs.size ≤ cenv.locals; rw [hL]; exact Nat.le_refl _,
      fun y z c e1 e2 => I.ok.inj y z c (cm e1).1 (cm e2).1, fun y hy => ?_, fun y c z e => absurd (show false = true from z) Bool.false_ne_true, fun _ => hB, hBf, .inr ⟨rfl, hfrm⟩, fun b hb => ⟨?_, fun y c e z => ?_⟩, I.bs, Nat.le_trans I.ok.bsz I.sz, fun b o e hb => ?_, fun b hb z => ?_, I.stack, I.stkFree⟩
    · show ∃ c, cenv.cells.lookup y = some c
      have key : ∀ k, cenv.kindOf y = some k → (k = .cell ∨ k = .free) → ∃ c, cenv.cells.lookup y = some c := fun k hk hk' => by
        unfold Env.kindOf at hk
        rw [hsc] at hk
        rcases hk' with rfl | rfl
        · exact absurd rfl (ok.nocell _ (PySem.mem_of_lookup hk))
        · obtain ⟨c, h1, _⟩ := look hk
          exact ⟨c, h1⟩
      rcases hy with hy | hy
      · exact key _ hy (.inl rfl)
      · exact key _ hy (.inr rfl)
    · show b ≠ cenv.locals
      rw [hL]; exact Nat.ne_of_lt (hfp b hb).2
    · exact (hfp b hb).1.2.2.2.2.1 y c (cm e).1 z
    · rcases (hfp b hb).1.2.2.2.1 with z | z
      · exact I.ok.noex b o e z
      · exact absurd (Nat.lt_of_lt_of_le (Heap.lt_size e) (Nat.le_trans I.ok.bsz z)) (Nat.lt_irrefl _)
    · rcases List.mem_cons.mp (I.stkSub b z) with z | z
      · exact (hfp b hb).1.2.1 z
      · exact (hfp b hb).1.2.2.1 z
  refine ⟨okB, os, bare, Un.kept kp, ⟨m, by show s'.heap.Ns cenv.locals m; rw [hL]; exact hn, fun i y av e1 e2 e3 => ?_⟩, fun y c e => ?_, ?_, fun y c e => ?_, fun p hp => ?_, I.hok.kept kp, by rw [wipe_length]; exact I.len⟩
  · obtain ⟨e2, hne⟩ := wipe_some e2
    have e3 : Vis cenv.scope y := e3
    have hk : scope.names.lookup y = some .free := by
      have no : ∀ k, scope.names.lookup y = some k → ¬ (k = .local ∨ k = .cell) := fun k e hh => by
        rcases ok.blk.own _ (PySem.mem_of_lookup e) hh with e' | e'
        · obtain ⟨p, hp, hpy⟩ := List.mem_map.mp e'
          have e3 := ok.blk.ix p hp
          have : p.1 = y := hpy
          rw [this] at e3
          exact hne (List.mem_map.mpr ⟨p, hp, nodup_ix hN e3 e1⟩)
        · exact e' (List.mem_of_getElem? e1)
      rw [hsc] at e3
      rcases e3 with e3 | e3 | e3
      · exact absurd (.inl rfl) (no _ e3)
      · exact absurd (.inr rfl) (no _ e3)
      · exact e3
    obtain ⟨m0, hn0, hl⟩ := I.loc
    have hvis : Vis X.env.scope y := (ok.blk.free _ (PySem.mem_of_lookup hk) rfl).elim (fun k => .inr (.inl k)) (fun k => .inr (.inr k))
    obtain ⟨w, r, q⟩ := hl i y av e1 e2 hvis
    refine ⟨w, r, .inr ⟨.inr (by show cenv.scope.names.lookup y = _; rw [hsc]; exact hk), ?_⟩⟩
    obtain ⟨c, h1, h2⟩ := look hk
    rcases q with ⟨k, _⟩ | ⟨_, c', e', z⟩
    · have k : X.env.scope.names.lookup y = some .local := k
      rcases ok.blk.free _ (PySem.mem_of_lookup hk) rfl with k' | k' <;> rw [show X.env.scope.names.lookup y = _ from k'] at k <;> cases k
    · rw [h2] at e'; cases e'
      exact ⟨c, h1, z.keeps kp⟩
  · obtain ⟨w, z⟩ := I.cell y c (cm e).1
    exact ⟨w, z.keeps kp⟩
  · show H cenv.locals = none
    rw [hL]; exact I.hok.fresh (Nat.le_refl _)
  · exact I.freeC y c (cm e).1
  · have hp : p ∈ pn ++ [] := hp
    rw [List.append_nil] at hp
    obtain ⟨h1, h2, h3⟩ := hpn p hp
    refine ⟨h1, I.hok.fresh (Nat.le_of_lt h2), by show p.1 ≠ cenv.locals; rw [hL]; exact Nat.ne_of_gt h2, fun hb => ?_, h3⟩
    have hb : p.1 ∈ frs X.stack := hb
    rcases List.mem_cons.mp (I.stkSub _ hb) with z | z
    · exact absurd (Nat.lt_trans I.lt h2) (by rw [z]; exact Nat.lt_irrefl _)
    · exact I.nofs (Nat.le_of_lt h2) z
end
end KG

set_option Elab.async false
set_option linter.all false
set_option maxRecDepth 100000
set_option maxHeartbeats 1000000
/-! ### all(elt for tg in iter), the element may call own functions -/
namespace KG
open PySem PySem.Spec PyProof.Rows L2 GenW
/-- W: by the turn and a measure; behind it the def's table may have grown -/
def tAllG (P : Addr) (wi : TI) (g : TG) (te : TE) (vs : List Nat) : TE := fun σ H Q => wi σ H fun J H1 => GxR.TabG H1 P ∧ ∀ H2, GxR.Tabbed P H1 H2 → ∃ W : Nat → Nat → Hp → Prop, (∃ m, W 0 m H2) ∧ ∀ i m H, W i m H →
  (J.stop i H ∧ Q (.bl true) H) ∨ (J.go i H ∧ ∀ x H', J.yld i H x H' → g x (wipe σ vs) H' fun σ2 H3 => wipe σ2 vs = wipe σ vs ∧ te σ2 H3 fun y H4 =>
    (y = .bl true ∧ ∃ m', m' < m ∧ W (i + 1) m' H4) ∨ (y = .bl false ∧ Q (.bl false) H4))
section
variable {X : Cx}
def LpG (Y : Cx) (σw : L2.St) (fp : List Addr) (tn : Nat → Heap → Prop) (W : Nat → Nat → Hp → Prop) (m : Nat) (s : Shared) : Prop :=
  ∃ i m0 H', m0 + 1 ≤ m ∧ Inv Y [] σw H' s ∧ tn i s.heap ∧ (∀ b ∈ fp, H' b = none) ∧ W i m0 H'
def YdG (Y : Cx) (σw : L2.St) (fp : List Addr) (tn : Nat → Heap → Prop) (W : Nat → Nat → Hp → Prop) (Q : VK) (m : Nat) (y : Value) (s : Shared) : Prop :=
  (y = .bool true ∧ LpG Y σw fp tn W m s) ∨ (y = .bool false ∧ ∃ σ' H', Inv Y [] σ' H' s ∧ Q (.bl false) H')
def DnG (Y : Cx) (σw : L2.St) (Q : VK) (s : Shared) : Prop := ∃ H', Inv Y [] σw H' s ∧ Q (.bl true) H'
theorem gwalk {Y : Cx} {σ : L2.St} {vs : List Nat} {fp : List Addr} {it : Addr} {tn : Nat → Heap → Prop} {J : It} {W : Nat → Nat → Hp → Prop} {Q : VK} {tg elt : Expr} {g : TG} {te : TE} (hc : Y.calm = true) (hex : Y.ex = fp) (hxe : Y.xe = fun _ _ => False)
    (hpn : ∀ p ∈ Y.pn, ∀ b ∈ fp, p.1 ≠ b) (T : Turn Y.prog Y.w Y.K tg J fp it tn) (pg : PG Y tg g) (pe : PE Y elt te)
    (turn : ∀ i m H, W i m H → (J.stop i H ∧ Q (.bl true) H) ∨ (J.go i H ∧ ∀ x H', J.yld i H x H' → g x (wipe σ vs) H' fun σ2 H3 => wipe σ2 vs = wipe σ vs ∧ te σ2 H3 fun y H4 =>
      (y = .bl true ∧ ∃ m', m' < m ∧ W (i + 1) m' H4) ∨ (y = .bl false ∧ Q (.bl false) H4))) :
    GWalk Y.prog Y.w Y.A tg elt it Y.env (LpG Y (wipe σ vs) fp tn W) (YdG Y (wipe σ vs) fp tn W Q) (DnG Y (wipe σ vs) Q) := by
  have stat : ∀ {σ' : L2.St} {H' : Hp} {s' : Shared}, Inv Y [] σ' H' s' → (∀ b ∈ fp, H' b = none) → ∀ b ∈ fp, FpOk Y [] H' b := fun {σ' H' s'} I' hn b hb =>
    ⟨hn b hb, (I'.ok.exf b (hex ▸ hb)).1, I'.ok.exfs b (hex ▸ hb), .inl (hex ▸ hb), fun x c e => (I'.ok.exf b (hex ▸ hb)).2 x c e, fun p hp => hpn p (by simpa using hp) b hb⟩
  have pgr := pg.run
  have per := pe.run
  rw [hxe] at pgr per
  refine ⟨?_, ?_⟩
  · rintro m s ⟨i, m0, H5, hm0, I5, st5, n5, w5⟩
    rcases turn i m0 H5 w5 with ⟨stop, qq⟩ | ⟨go, step⟩
    · refine thn (T.done Y rfl rfl rfl hc i [] s _ H5 (fun _ _ => False) I5 (stat I5 n5) st5 stop) fun r s6 ⟨hr, I6⟩ => ?_
      subst hr
      exact ⟨H5, I6, qq⟩
    · refine thn (T.item Y rfl rfl rfl hc i [] s _ H5 (fun _ _ => False) I5 (stat I5 n5) st5 go) fun r s6 ⟨u, hr, h6⟩ => ?_
      subst hr
      refine thn h6 fun _ s7 ⟨x, H7, I7, r7, y7, st7, n7⟩ => ?_
      have I7' := I7.pinned (stat I7 n7) (T.obj _ _ st7)
      refine thn (pgr _ s7 _ H7 x u _ I7' r7 (step x H7 y7)) fun _ s8 ⟨σ8, H8, I8, hw8, q8⟩ => ?_
      refine thn (per _ s8 σ8 H8 _ I8 q8) fun z s10 ⟨yv, H10, I10, r10, q10⟩ => ?_
      obtain ⟨m, rfl⟩ : ∃ k, m = k + 1 := ⟨m - 1, by omega⟩
      refine ⟨m, rfl, ?_⟩
      rcases q10 with ⟨rfl, m', hm, w'⟩ | ⟨rfl, q10⟩
      · refine .inl ⟨r10, i + 1, m', H10, by omega, ?_, ?_, ?_, w'⟩
        · have hl : (wipe σ vs).length = σ8.length := by rw [← hw8, wipe_length]
          refine (I10.unpinned (pins := [])).weak hl fun j v e => ?_
          rw [← hw8] at e
          exact (wipe_some e).1
        · refine T.keep _ _ _ st7 fun b hb o e => ?_
          exact (I10.pin (b, o) (List.mem_append_right _ (List.mem_append_right _ (mem_pinsAt hb e)))).1
        · intro b hb
          obtain ⟨o, e, _⟩ := T.obj _ _ st7 b hb
          exact (I10.pin (b, o) (List.mem_append_right _ (List.mem_append_right _ (mem_pinsAt hb e)))).2.1
      · exact .inr ⟨r10, _, H10, I10.unpinned (pins := []), q10⟩
  · rintro A' m s Q' E' ⟨i, m0, H5, hm0, I5, st5, n5, w5⟩ h
    exact T.self A' i s Q' E' st5 h
end
end KG

set_option Elab.async false
set_option linter.all false
set_option maxRecDepth 100000
set_option maxHeartbeats 1000000
/-! ### the rule -/
namespace KG
open PySem PySem.Spec PyProof.Rows L2 GenW
section
variable {X : Cx}
theorem pe_allG {c P : Addr} {elt tg iter : Expr} {scope : Scope} {own : List (Str × Nat)} {p pos gpos : Pos} {wi : TI} {g : TG} {te : TE} {k : Nat}
    (hc : X.calm = true) (hN : X.N.Nodup) (hr : Room (k + 1) X.A) (hg : Gl X "all") (hm : X.mg "all" = none) (hb : bootBuiltins "all" = some (.builtin "all")) (TB : GxR.TabB X.base X.mg c P) (hcode : X.env.code = .ref c) (ok : GOk X.N X.env.scope scope own) (hi : PI X tg iter wi)
    (hpg : ∀ (B : Around) (s : Shared) (H : Hp) (cl : List (Str × Addr)) (C : Addr) (code : Value) (fp : List Addr) (pn : List (Addr × Obj)), PG (gcx X B s H (genEnv scope cl C code builtinsNs X.env) fp pn) tg g)
    (hpe : ∀ (B : Around) (s : Shared) (H : Hp) (cl : List (Str × Addr)) (C : Addr) (code : Value) (fp : List Addr) (pn : List (Addr × Obj)), Room k B → PE (gcx X B s H (genEnv scope cl C code builtinsNs X.env) fp pn) elt te)
    (hs : ∀ v, genFold iter X.env v = pure v)
    (he : starEach [.GeneratorExp elt [⟨tg, iter, [], 0⟩] scope gpos] X.env = (false, eval (.GeneratorExp elt [⟨tg, iter, [], 0⟩] scope gpos) X.env) :: starEach [] X.env := by rfl) :
    PE X (.Call (.Name "all" p) [.GeneratorExp elt [⟨tg, iter, [], 0⟩] scope gpos] [] pos) (tAllG P wi g te (own.map (·.2))) := by
  refine ⟨fun pins s σ H Q I h => ?_⟩
  have hfree : ∀ y ∈ scope.names, y.2 = .free → ∃ c, X.env.cells.lookup y.1 = some c := fun y hy e => by
    rcases ok.blk.free y hy e with k | k
    · exact I.ok.has _ (.inl k)
    · exact I.ok.has _ (.inr k)
  refine wpAny_Call_Name_kw (ld_blt I hg hm hb ?_)
  refine PyProof.Rows.callWith_builtin1 ?_ he (by rfl)
  rw [he]
  show wpAny _ _ (spliced ((false, eval (.GeneratorExp elt [⟨tg, iter, [], 0⟩] scope gpos) X.env) :: backTo pos (starEach [] X.env))) _ _ s
  refine Calls.spliced_cons ?_
  refine wpAny_GeneratorExp_make ok.co (closure_ok hfree) ok.nocell ok.dot ok.blk.kind (by have := hr.dp; omega) ?_ hs
  refine wpAny_mono (hi.run pins s σ H _ I h) (fun xv s1 hx => wpAny_mono hx (fun itv s2 h2 => ?_) fun _ _ e => e) fun _ _ e => e
  obtain ⟨it, fp, tn, J, H2, e, I2, T, st2, f2, ⟨ps, hP, ht⟩, q⟩ := h2
  subst e
  refine ⟨I2.nolimit, ?_⟩
  have hPs : s2.heap.get? P = some { cls := .none, data := .fields ps } := I2.hok P _ hP
  have hPlt : P < s2.heap.objs.size := Heap.lt_size hPs
  have cd : PySem.W.CodeHd s2.heap c P := TB.code.keeps fun b u e => I2.bk b u e
  have cont : ∀ (code : Value) (h3 : Heap) (tk : Nat) (ps' : Array Value), Heap.ExtBut P s2.heap h3 → s2.heap.objs.size ≤ h3.objs.size → h3.get? P = some { cls := .none, data := .fields ps' } → (∃ more, ps' = ps ++ more) → TriplesOk ps'.toList →
      wpAny (model X.prog X.w) X.A (builtinsFor X.env.globals X.env.builtins) (fun bi s₄ =>
        ∀ h', h'.Ns s₄.heap.objs.size (fun y => if y = ".0" then some (.ref it) else none) → Heap.SameBut s₄.heap.objs.size (s₄.heap.push { cls := .type "frame", data := .dict #[] }) h' →
          wpAny (model X.prog X.w) X.A (spliced (backTo pos (starEach [] X.env))) (fun r s1 => wpAny (model X.prog X.w) X.A (call (.builtin "all") (.ref h'.objs.size :: r)) (EP X pins σ Q) X.xe s1) X.xe { s₄ with
            gens := s₄.gens.push (.fresh (.compStart (.GeneratorExp elt [⟨tg, iter, [], 0⟩] scope gpos) 0 (.ref it) .none (genEnv scope (cloFrom X.env.cells scope.names []) s₄.heap.objs.size code bi X.env))),
            toks := s₄.toks + 1 + 1 + 1,
            heap := h'.push { cls := .type "generator", data := .fields #[.int s₄.gens.size 0, .str "<genexpr>" (s₄.toks + 1), .str (X.env.qual ++ "<genexpr>") (s₄.toks + 1 + 1)] } }) X.xe { s2 with heap := h3, toks := tk } := by
    intro code h3 tk ps' hx hsz hP3 hmore ht3
    obtain ⟨bm, ob, e1, e2, e3, e4, e5, e6, e7, e8⟩ := TB.bm
    have keep3 : ∀ b u, b ≠ P → s2.heap.get? b = some u → h3.get? b = some u := fun b u hb e => hx b u hb e
    refine wpAny_builtinsFor (m := X.mg) (by rw [I2.ok.glob]; exact (I2.mod.glob.keeps I2.bk).extBut hx TB.gP) e1 e2 (keep3 _ _ e4 (I2.bk _ _ e5)) e6 e7 e8 ?_
    obtain ⟨more, rfl⟩ := hmore
    have I4 := GxR.inv_tab (more := more) (h' := h3) (g' := s2.gens) (d' := s2.drawn) (t' := tk) I2 hP (fun b u hb e => keep3 b u hb e) hP3 I2.bare
    have hT : GxR.Tabbed P H2 (upd H2 P (.tbl (ps ++ more))) := ⟨⟨ps ++ more, upd_same, ht3⟩, fun b hb => upd_ne hb⟩
    obtain ⟨W, ⟨m0, w0⟩, turn⟩ := q _ hT
    generalize upd H2 P (.tbl (ps ++ more)) = H3 at I4 hT w0
    have nP : ∀ b ∈ fp, b ≠ P := fun b hb z => by
      have := (f2 b hb).1
      rw [z, hP] at this
      cases this
    have lt2 : ∀ b ∈ fp, b < s2.heap.objs.size := fun b hb => by
      obtain ⟨o, e, _⟩ := T.obj _ _ st2 b hb
      exact Heap.lt_size e
    have f4 : ∀ b ∈ fp, FpOk X pins H3 b ∧ b < h3.objs.size := fun b hb => by
      refine ⟨⟨?_, (f2 b hb).2⟩, Nat.lt_of_lt_of_le (lt2 b hb) hsz⟩
      rw [hT.2 b (nP b hb)]
      exact (f2 b hb).1
    have st4 : tn 0 h3 := T.keep _ _ _ st2 fun b hb o e => keep3 b o (nP b hb) e
    generalize hs4 : ({ s2 with heap := h3, toks := tk } : Shared) = s4 at I4
    have eh4 : s4.heap = h3 := by rw [← hs4]
    have eg4 : s4.gens = s2.gens := by rw [← hs4]
    have eo4 : s4.os = s2.os := by rw [← hs4]
    rw [← eh4] at f4 st4
    intro h' hn' hs'
    have hsz' : h'.objs.size = s4.heap.objs.size + 1 := by rw [hs'.1, Heap.size_push]
    have keep' : ∀ b o, s4.heap.get? b = some o → h'.get? b = some o := fun b o e => hs'.extBut b o (Nat.ne_of_lt (Heap.lt_size e)) (Heap.get?_push_of_some _ e)
    generalize hgo : ({ cls := .type "generator", data := .fields #[.int s4.gens.size 0, .str "<genexpr>" (s4.toks + 1), .str (X.env.qual ++ "<genexpr>") (s4.toks + 1 + 1)] } : Obj) = go
    have keep5 : ∀ b o, s4.heap.get? b = some o → (h'.push go).get? b = some o := fun b o e => Heap.get?_push_of_some _ (keep' b o e)
    have ga : (h'.push go).get? h'.objs.size = some go := Heap.get?_push_size _ (by rw [← hgo]; rfl)
    generalize hcenv : genEnv scope (cloFrom X.env.cells scope.names []) s4.heap.objs.size code builtinsNs X.env = cenv
    generalize hs5 : ({ s4 with gens := s4.gens.push (.fresh (.compStart (.GeneratorExp elt [⟨tg, iter, [], 0⟩] scope gpos) 0 (.ref it) .none cenv)), toks := s4.toks + 1 + 1 + 1, heap := h'.push go } : Shared) = s5
    have eh5 : s5.heap = h'.push go := by rw [← hs5]
    have eo5 : s5.os = s4.os := by rw [← hs5]
    have eg5 : s5.gens = s4.gens.push (.fresh (.compStart (.GeneratorExp elt [⟨tg, iter, [], 0⟩] scope gpos) 0 (.ref it) .none cenv)) := by rw [← hs5]
    have hgen : ∀ h : Heap, h.get? h'.objs.size = some go → h.IsGen h'.objs.size s4.gens.size := fun h e => ⟨go, _, _, e, by rw [← hgo], by rw [← hgo], by rw [← hgo]⟩
    have gb5 : AllBare s5.gens := by rw [eg5]; exact I4.bare.push rfl
    generalize hB : X.A.in1.in1.over (.compLoop (.GeneratorExp elt [⟨tg, iter, [], 0⟩] scope gpos) 0 (.ref it) .none cenv) [] = B
    have hBh : B.handled = none := by rw [← hB]; exact hr.hd
    have hBf : B.frames = some (cenv :: X.stack) := by
      rw [← hB]
      have q : (X.A.in1.in1.over (.compLoop (.GeneratorExp elt [⟨tg, iter, [], 0⟩] scope gpos) 0 (.ref it) .none cenv) []).frames = pushEnvs (Code.envs (.compLoop (.GeneratorExp elt [⟨tg, iter, [], 0⟩] scope gpos) 0 (.ref it) .none cenv)) (pushEnvs (envsOf []) X.A.in1.in1.frames) := rfl
      rw [q, show X.A.in1.in1.frames = X.A.frames from rfl, I.ok.frames]
      rfl
    have hBr : Room k B := ⟨hBh, by rw [← hB]; have := hr.dp; show X.A.depth + 0 + 1 + 3 * k + 5 < _; omega, by rw [← hB]; have := hr.un; show X.A.units + 1 + 1 + 0 + 3 + 16 * k + 200 < _; omega⟩
    have hn5 : s5.heap.Ns s4.heap.objs.size (fun y => if y = ".0" then some (.ref it) else none) := by rw [eh5]; exact hn'.push _
    have I5 : Inv (gcx X B s4 H3 cenv fp [(h'.objs.size, go)]) [] (wipe σ (own.map (·.2))) H3 s5 := by
      have z := gen_start (B := B) (code := code) (s' := s5) (pn := [(h'.objs.size, go)]) I4 ok hN f4 hBh (by rw [hcenv]; exact hBf) eo5 gb5 (fun b o e => by rw [eh5]; exact keep5 b o e) hn5 (fun p hp => by
        have e := List.mem_singleton.mp hp
        rw [e]
        exact ⟨by rw [eh5]; exact ga, by show _ < h'.objs.size; omega, fun v z => by rw [← hgo] at z; cases z⟩)
      rw [hcenv] at z
      exact z
    have hapart : ∀ p ∈ [(h'.objs.size, go)], ∀ b ∈ fp, p.1 ≠ b := fun p hp b hb => by
      have e := List.mem_singleton.mp hp
      have l := (f4 b hb).2
      rw [e]
      exact Nat.ne_of_gt (Nat.lt_trans l (by rw [hsz']; exact Nat.lt_succ_self _))
    have pg := hpg B s4 H3 (cloFrom X.env.cells scope.names []) s4.heap.objs.size code fp [(h'.objs.size, go)]
    have pe := hpe B s4 H3 (cloFrom X.env.cells scope.names []) s4.heap.objs.size code fp [(h'.objs.size, go)] hBr
    rw [hcenv] at pg pe
    have Wk := gwalk (Y := gcx X B s4 H3 cenv fp [(h'.objs.size, go)]) (σ := σ) (vs := own.map (·.2)) hc rfl rfl hapart T pg pe turn
    have back : ∀ {σ' : L2.St} {H' : Hp} {s' : Shared}, Inv (gcx X B s4 H3 cenv fp [(h'.objs.size, go)]) [] σ' H' s' → Inv X pins σ H' s' := fun {σ' H' s'} I6 =>
      I4.call' (ch := fp) I6.os I6.base I6.hok I6.bare fun b hb => ⟨(f4 b hb).1.2.2.2.1, (f4 b hb).1.2.1, (f4 b hb).1.2.2.2.2.1, (f4 b hb).1.2.2.2.2.2⟩
    have gat : ∀ {σ' : L2.St} {H' : Hp} {s' : Shared}, Inv (gcx X B s4 H3 cenv fp [(h'.objs.size, go)]) [] σ' H' s' → s'.heap.IsGen h'.objs.size s4.gens.size := fun {σ' H' s'} I6 =>
      hgen _ (I6.pin (h'.objs.size, go) (List.mem_append_left _ List.mem_cons_self)).1
    refine Calls.spliced_nil ?_
    refine call_function_tree F.kind_all F.plain_all F.entry_all (F.args_all1 _) ?_
    unfold Builtin.«all»
    refine wpAny_bind (m := oneArg "all" _) (wpAny_pure ?_)
    refine wpAny_bind (wpAny_pyIter_gen (gat I5) ?_)
    refine wpAny_pure ⟨plainId_quiet F.plain_all_loop _, ?_⟩
    refine all_loop (P := X.prog) (w := X.w) (g := s4.gens.size) (Lp := LpG (gcx X B s4 H3 cenv fp [(h'.objs.size, go)]) (wipe σ (own.map (·.2))) fp tn W) (Yd := YdG (gcx X B s4 H3 cenv fp [(h'.objs.size, go)]) (wipe σ (own.map (·.2))) fp tn W Q) (Dn := DnG (gcx X B s4 H3 cenv fp [(h'.objs.size, go)]) (wipe σ (own.map (·.2))) Q)
      hr.hd (by have := hr.dp; omega) (fun m v s hY => ?_) (fun s s' hD hk ho hg => ?_) (m0 + 1) s5 (.fresh (.compStart (.GeneratorExp elt [⟨tg, iter, [], 0⟩] scope gpos) 0 (.ref it) .none cenv)) I5.nolimit (gat I5) (by rw [eg5]; exact Array.getElem?_push_size ..) ⟨rfl, ?_⟩
    · rcases hY with ⟨rfl, i, m1, H', hm1, I6, st6, n6, w6⟩ | ⟨rfl, σ', H', I6, q6⟩
      · refine ⟨I6.nolimit, gat I6, I6.bare, true, rfl, fun s'' hal => ?_⟩
        rw [if_pos rfl]
        exact ⟨i, m1, H', hm1, Inv.alike I6 hal, by rw [hal.heap]; exact st6, n6, w6⟩
      · refine ⟨I6.nolimit, gat I6, I6.bare, false, rfl, fun s'' hal => ?_⟩
        rw [if_neg Bool.false_ne_true]
        exact ⟨.bl false, H', back (Inv.alike I6 hal), rfl, q6⟩
    · obtain ⟨H', I6, q6⟩ := hD
      have I7 := I6.kept (t' := s.toks) hk
      refine ⟨.bl true, H', back (Inv.alike I7 ⟨rfl, ho, ?_⟩), rfl, q6⟩
      rw [hg]
      exact allBare_setGen I6.bare rfl
    · refine seg_start hB (by rw [← hcenv]; exact ok.co) Wk (Nat.le_refl _) ⟨0, m0, H3, Nat.le_refl _, Inv.alike I5 ⟨rfl, rfl, allBare_setGen gb5 rfl⟩, ?_, fun b hb => (f4 b hb).1.1, w0⟩
      show tn 0 s5.heap
      rw [eh5]
      exact T.keep _ _ _ st4 fun b hb o e => keep5 b o e
  cases hf : codeAmong gpos ps.toList with
  | none =>
    refine wpAny_genexprCodeX hcode (cd.code hPs ht) (cd.tab hPs) hf fun c' h' tk hx hge hlt hco' _ htab' _ => ?_
    obtain ⟨o1, vs, f1, tf, fl, tg, inF, tx, tt, op, _, _, _, _, _, _, _, _, _, htr, _⟩ := hco'
    exact cont _ h' tk _ hx (Nat.le_trans hge (Nat.le_of_lt hlt)) htab'.2 ⟨_, rfl⟩ htr
  | some cv =>
    refine wpAny_genexprCode_hit hcode (cd.code hPs ht) hf ?_
    exact cont cv s2.heap s2.toks ps (Heap.ExtBut.refl _ _) (Nat.le_refl _) hPs ⟨#[], by simp⟩ ht
end
end KG

set_option Elab.async false
set_option linter.all false
set_option maxRecDepth 100000
set_option maxHeartbeats 1000000
/-! ### defs with generator expressions: the reading of all(..) over a tuple -/
namespace KP
open PySem PySem.Spec PyProof.Rows L2 KX
/-- a def whose code object is known -/
structure FunC (K : PySem.W.Frag) (x qual : Str) (st : Stmt) (f : Addr) (fd : FuncData) (c : Addr) : Prop where
  ex : ∃ (oc : Value) (od : Option Addr) (kV doc pm : Value) (an : Option Addr) (ct : Value) (osl : Array (Option Value)),
    fd = PySem.W.fnOf x qual (defArgs st) (defBody st) (defScope st) .none kV doc pm an (.ref c) ct ∧ K.lookup f = some ⟨oc, od, .func fd, osl⟩ ∧ PySem.W.codeIn K (.ref c) qual = true
theorem FunC.ok {P : Program} {w : World} {K : PySem.W.Frag} {mg : Str → Option Value} {base : Heap} {x qual : Str} {st : Stmt} {f c : Addr} {fd : FuncData} {N ps : List Str} {k : Nat} {sp : Sp} (F : FunC K x qual st f fd c) (S : FnScope N ps (defScope st)) (len : ∀ {vs H Q E}, sp vs H Q E → vs.length = ps.length)
    (body : ∀ (A : Around) (outer : List Env) (s : Shared) (H : Hp) (vs : List V) (Q : VK) (E : XK), Room k (A.deeper (envOfC qual (defScope st) s.heap.objs.size f (.ref c))) → sp vs H Q E →
      ∃ t, PSs (cxOf CX0 P w K mg base N qual (defScope st) f (.ref c) A outer s H E).nox (defBody st) t ∧ t { nx := fun _ H' => Q .non H', rt := Q } (start N vs) H) : FnOk P w K mg base CX0 (k + 1) f fd ps sp := by
  obtain ⟨oc, od, kV, doc, pm, an, ct, osl, rfl, lk, hcd⟩ := F.ex
  exact fn_of lk hcd S (fun _ _ _ _ h => len h) fun A outer s H vs Q E hr hsp => let ⟨t, h, q⟩ := body A outer s H vs Q E hr hsp; ⟨t, h.nox, q⟩
theorem all_get {H : Hp} : ∀ {xs : List V} {ds : List PyData} {i : Nat} {x : V}, ThAll H xs ds → xs[i]? = some x → ∃ d, ds[i]? = some d ∧ Th H x d
  | _, _, 0, _, .cons h _, e => by
    cases e
    exact ⟨_, rfl, h⟩
  | _ :: _, _ :: _, _ + 1, _, .cons _ t, e => by
    obtain ⟨d, h1, h2⟩ := all_get t (show _ = _ from (List.getElem?_cons_succ ▸ e))
    exact ⟨d, by rw [List.getElem?_cons_succ]; exact h1, h2⟩
theorem ThAll.mono {H H' : Hp} (s : Sm H H') : ∀ {xs : List V} {ds : List PyData}, ThAll H xs ds → ThAll H' xs ds
  | _, _, .nil => .nil
  | _, _, .cons a b => .cons (a.mono s) (ThAll.mono s b)
/-- the tables stand -/
def Tbs (Ps : List Addr) (H : Hp) : Prop := ∀ P ∈ Ps, GxR.TabG H P
structure Grown (Ps : List Addr) (H H' : Hp) : Prop where
  sm : Sm H H'
  tbs : Tbs Ps H'
theorem Grown.trans {Ps : List Addr} {H H1 H2 : Hp} (a : Grown Ps H H1) (b : Grown Ps H1 H2) : Grown Ps H H2 := ⟨a.sm.trans b.sm, b.tbs⟩
theorem Grown.same {Ps : List Addr} {H H1 : Hp} (a : Same H H1) (t : Tbs Ps H) : Grown Ps H H1 := ⟨Sm.same a, fun P hP => let ⟨ps, e, k⟩ := t P hP; ⟨ps, a _ _ e, k⟩⟩
theorem Grown.tabbed {Ps : List Addr} {P : Addr} {H H1 : Hp} (a : GxR.Tabbed P H H1) (t : Tbs Ps H) (hP : P ∈ Ps) : Grown Ps H H1 := by
  obtain ⟨ps, e, _⟩ := t P hP
  refine ⟨fun b u eb n => ?_, fun R hR => ?_⟩
  · rw [a.2 b fun z => by rw [z, e] at eb; exact n ps (Option.some.inj eb).symm]
    exact eb
  · by_cases z : R = P
    · rw [z]; exact a.1
    · obtain ⟨qs, e2, k2⟩ := t R hR
      exact ⟨qs, (a.2 R z).trans e2, k2⟩
theorem all_vi {K : PySem.W.Frag} {Ps : List Addr} {P a : Addr} {i0 j : Nat} {te : TE} {vs : List Nat} {σ : L2.St} {H : Hp} {Q : VK} {xs : List V} {ds : List PyData} {pd : PyData → Bool} (h0 : σ[i0]? = some (some (.ref a))) (hx : Rd H a (.tup xs)) (hd : ThAll H xs ds) (ht : Tbs Ps H) (hP : P ∈ Ps)
    (hw : ∀ x : V, wipe ((wipe σ vs).set j (some x)) vs = wipe σ vs) (he : ∀ H2 x d, Th H2 x d → Vi te ((wipe σ vs).set j (some x)) H2 (.bl (pd d))) (q : ∀ H2, Grown Ps H H2 → Q (.bl (ds.all pd)) H2) : KG.tAllG P (iTup K (tVar i0)) (gName j) te vs σ H Q := by
  refine ⟨_, h0, a, rfl, ⟨xs, SqT.of hx⟩, ht P hP, fun H2 hT => ?_⟩
  have gr := Grown.tabbed hT ht hP
  have hx2 : Rd H2 a (.tup xs) := gr.sm.rd hx
  have hl := all2 hd
  refine ⟨fun i m H' => H' = H2 ∧ i ≤ xs.length ∧ m = xs.length - i ∧ (ds.take i).all pd = true, ⟨_, rfl, Nat.zero_le _, rfl, rfl⟩, ?_⟩
  rintro i m H' ⟨rfl, hi, rfl, hall⟩
  by_cases c : i < xs.length
  · refine .inr ⟨⟨xs, xs[i], SqT.of hx2, by simp [c]⟩, fun x H3 ⟨e, hy⟩ => ?_⟩
    subst e
    have hxi := hy xs (SqT.of hx2)
    obtain ⟨d, hdi, hth⟩ := all_get hd hxi
    refine ⟨hw x, he _ x d (hth.mono gr.sm) _ ?_⟩
    cases hp : pd d with
    | true =>
      refine .inl ⟨rfl, xs.length - (i + 1), by omega, rfl, c, rfl, ?_⟩
      rw [List.take_add_one, hdi, List.all_append, hall]
      simp [hp]
    | false =>
      refine .inr ⟨rfl, ?_⟩
      have e : ds.all pd = false := by
        rw [Bool.eq_false_iff]
        intro z
        have := List.all_eq_true.mp z d (List.mem_of_getElem? hdi)
        rw [hp] at this
        cases this
      rw [← e]
      exact q _ gr
  · refine .inl ⟨⟨xs, SqT.of hx2, by omega⟩, ?_⟩
    have e : ds.take i = ds := List.take_of_length_le (by omega)
    rw [e] at hall
    rw [← hall]
    exact q _ gr
end KP

set_option Elab.async false
set_option linter.all false
set_option maxRecDepth 100000
set_option maxHeartbeats 1000000
/-! ### tanks -/
namespace KP
open PySem PySem.Spec PyProof.Rows L2 KX
def itms : PyData → List PyData
  | .tuple ds => ds
  | _ => []
def ltI : PyData → PyData → Bool
  | .int i, .int j => decide (i < j)
  | _, _ => false
def ascB (ds : List PyData) : Bool := (List.range (ds.length - 1)).all fun i => ltI (ds.getD i .none) (ds.getD (i + 1) .none)
def areT (m : Int) (d : PyData) : Bool := decide (tyN d = "tuple") && (decide (1 ≤ (lenT d : Int)) && decide ((lenT d : Int) ≤ m)) && ((itms d).all (fun e => isW e 0 (m - 1)) && ascB (itms d))
def spTanks (Ps : List Addr) : Sp := fun vs H Q _ => ∃ x d m, vs = [x, .int m] ∧ Th H x d ∧ Tbs Ps H ∧ m ≤ 1000 ∧ ∀ H', Grown Ps H H' → Q (.bl (areT m d)) H'
theorem walk_zipT {K : PySem.W.Frag} {a b : Addr} {xs ys : List V} {n : Nat} (hn : n = min xs.length ys.length) : Walk (RZ.ItzT K a b) n (fun H => SqT K H a xs ∧ SqT K H b ys) (YPair (fun i => xs[i]?) (fun i => ys[i]?)) := by
  subst hn
  refine ⟨fun i H hi q => ?_, fun H q => ⟨xs, ys, q.1, q.2, by omega⟩, fun i H v H' _ q y => ?_⟩
  · exact ⟨xs, ys, xs[i]'(by omega), ys[i]'(by omega), q.1, q.2, List.getElem?_eq_getElem _, List.getElem?_eq_getElem _⟩
  · obtain ⟨T, x, z, h1, h2, h3, h4, h5⟩ := y
    exact ⟨T, x, z, h1, h2, h3, h4 _ (q.1), h5 _ (q.2)⟩
theorem i_guardE {te : TE} {tz : TS} {D : Ends} {σ : L2.St} {H : Hp} (h : te σ H (fun x H1 => ∃ c, x = .bl c ∧ (if (!c) = true then D.rt (.bl false) H1 else tz D σ H1))) : tSeq (tIfS (tNot (tB te)) (tRet (tC (.bl false))) tNext) tz D σ H := h
theorem vi_chain {σ : L2.St} {H : Hp} {r r' : R2} {ta tb tc : TE} {x y z : V} {a b : Bool} (ha : Vi ta σ H x) (hb : Vi tb σ H y) (h1 : ∀ Q : VK, Q (.bl a) H → r x y H Q) (hc : a = true → Vi tc σ H z) (h2 : a = true → ∀ Q : VK, Q (.bl b) H → r' y z H Q) : Vi (tChain r r' ta tb tc) σ H (.bl (a && b)) :=
  fun Q q => ha _ (hb _ (h1 _ ⟨a, rfl, by
    cases a with
    | true => rw [if_pos rfl]; exact hc rfl _ (h2 rfl _ (by simpa using q))
    | false => rw [if_neg Bool.false_ne_true]; simpa using q⟩))
theorem same_upd {H : Hp} {p : Addr} {o : HO} (hp : H p = none) : Same H (upd H p o) := fun b u e => by
  rw [upd_ne (ne_of_none e hp)]
  exact e
theorem sIx_one {n : Nat} (h : 1 ≤ n) : HT.sIx n 0 (some 1) = 1 := by
  have := HT.sIx_nat n 0 1
  rw [Nat.min_eq_left h] at this
  exact this
theorem cut_one {xs : List V} (h : 1 ≤ xs.length) : cutV xs (some 1) none = xs.drop 1 := by
  unfold cutV
  rw [sIx_one h]
  exact List.take_of_length_le (by rw [List.length_drop]; exact Nat.le_refl _)
section
variable {P : Program} {w : World} {K : PySem.W.Frag} {mg : Str → Option Value} {base : Heap}
theorem scTanks : FnScope ["tanks", "many", "tank", "one", "two"] ["tanks", "many"] (defScope sTanks) := ⟨rfl, rfl, rfl, by decide +kernel, rfl, by decide +kernel, by decide +kernel⟩
theorem ok_tanks {f fI c PT' : Addr} {fd fdI : FuncData} {Ps : List Addr} (F : FunC K "_are_tanks" "_are_tanks" sTanks f fd c) (T : TxT mg) (TB : GxR.TabB base mg c PT') (hP : PT' ∈ Ps) (FI : FnOk P w K mg base CX0 2 fI fdI ["value", "least", "most"] spWithin) (mI : mg "is_within" = some (.ref fI)) (kI : PySem.W.keepIn K (.ref fI) = true) (bI : Binds K fdI ["value", "least", "most"] []) :
    FnOk P w K mg base CX0 4 f fd ["tanks", "many"] (spTanks Ps) := by
  refine F.ok scTanks (fun {vs H Q E} h => ?_) (fun A outer s H vs Q E hr h => ?_)
  · obtain ⟨x, d, m, rfl, _⟩ := h
    rfl
  · obtain ⟨x, d, m, rfl, hx, ht, hlen, k⟩ := h
    refine ⟨_, pss_cons (ps_if (pw_or (pt_cmpR op_notTyB (pe_callTy call_type1 (by rfl) T.type (by decide +kernel) (pa_cons (pv 0) pa_nil)) (pe_bltn (v := .ty "tuple") (by rfl) T.tuple (by decide +kernel) rfl) (nomark _))
        (pw_or1 (pt_not (pt_chain op_le op_le pe_int (pe_callB call_len_seq (by rfl) T.len PySem.boot_len (pa_cons (pv 0) pa_nil)) (pv 1))))).pt (pss_one (ps_ret pe_bl)) pss_nil)
      (pss_cons (ps_if (pt_not (pt_val (KG.pe_allG (k := 2) (own := [("tank", 2)]) (g := gName 2) rfl scTanks.nd hr (by rfl) T.all (by decide +kernel) TB rfl ⟨blkOk_by (N := ["tanks", "many", "tank", "one", "two"]) (sc := defScope sTanks) (by decide +kernel), rfl, by decide +kernel, by decide +kernel⟩ (pi_tup (pv 0))
          (fun _ _ _ _ _ _ _ _ => pg_name (i := 2) scTanks.nd rfl (Or.inl rfl)) (fun _ _ _ _ _ _ _ _ hB => pe_call FI hB (by rfl) mI kI bI .nil pass0 (pa_cons (pv 2) (pa_cons pe_int (pa_cons (pe_op op_sub (pv 1) pe_int) pa_nil)))) (fun _ => rfl)))) (pss_one (ps_ret pe_bl)) pss_nil)
      (pss_one (ps_ret (pe_callB (cr_all rfl) (by rfl) T.all (by decide +kernel) (pa_cons (pe_lc (own := [("one", 3), ("two", 4)]) (g := gTup K 2 (gCons (gName 3) (gCons (gName 4) gNil))) (tt := tYes) rfl scTanks.nd (RZ.pi_zipA (by rfl) T.zip (pa_cons (pv 0) (pa_cons (pe_slice sl_tup (pv 0) (po_some pe_int) po_none) pa_nil)))
        (blkOk_by (N := ["tanks", "many", "tank", "one", "two"]) (sc := defScope sTanks) (by decide +kernel)) (fun _ _ _ _ _ => by exact pg_tup rfl (pgs_cons (pg_name (i := 3) scTanks.nd rfl (Or.inl rfl)) (pgs_cons (pg_name (i := 4) scTanks.nd rfl (Or.inl rfl)) pgs_nil))) (fun _ _ _ _ _ => pts_nil) (fun _ _ _ _ _ => pe_cmpR op_lt (pv 3) (pv 4) (nomark _))) pa_nil))))), ?_⟩
    have b1 : ∀ {σ : L2.St} {i0 i1 : Nat}, σ[i0]? = some (some x) → σ[i1]? = some (some (.int m)) → Ti (tOr (tTest (tOp rNT (tCB (rTyp K) (tCons (tVar i0) tNil)) (tC (.ty "tuple")))) (tNot (tTest (tChain (rI0 fun i j => .bl (decide (i ≤ j))) (rI0 fun i j => .bl (decide (i ≤ j))) (tC (.int 1)) (tCB (rLen K) (tCons (tVar i0) tNil)) (tVar i1))))) σ H
        (!decide (tyN d = "tuple") || !(decide (1 ≤ (lenT d : Int)) && decide ((lenT d : Int) ≤ m))) := fun e0 e1 =>
      ti_or (ti_notTup (vi_var e0) hx) fun z => ti_not (ti_test (vi_chain vi_c (vi_lenT (ai_cons (vi_var e0) ai_nil) hx (by simpa using z)) (fun Q q => ⟨_, _, rfl, rfl, q⟩) (fun _ => vi_var e1) (fun _ Q q => ⟨_, _, rfl, rfl, q⟩)))
    refine i_guard (b1 rfl rfl) (fun z => ?_) (fun z => ?_)
    · have e : areT m d = false := by
        unfold areT
        rw [Bool.or_eq_true, Bool.not_eq_true', Bool.not_eq_true'] at z
        rcases z with z | z <;> rw [z] <;> simp
      have := k H (Grown.same (Same.refl H) ht)
      rw [e] at this
      exact this
    rw [Bool.or_eq_false_iff, Bool.not_eq_false', Bool.not_eq_false'] at z
    obtain ⟨z1, z2⟩ := z
    obtain ⟨a, xs, ds, rfl, rfl, e, ha⟩ := tupOf hx (of_decide_eq_true z1)
    have e8 : areT m (.tuple ds) = (ds.all (fun e => isW e 0 (m - 1)) && ascB ds) := by
      unfold areT
      rw [z1, z2, Bool.true_and, Bool.true_and]
      rfl
    rw [e8] at k
    refine i_guardE (D := { nx := fun _ H' => Q .non H', rt := Q }) ?_
    refine all_vi (Ps := Ps) (pd := fun d => isW d 0 (m - 1)) rfl e ha ht hP (fun x => rfl) (fun H2 x d h => vi_call (ai_cons (vi_var rfl) (ai_cons vi_c (ai_cons (vi_op (vi_var rfl) vi_c fun Q q => ⟨_, _, rfl, rfl, q⟩) ai_nil))) fun Q q => spWithin_at h q) (fun H2 gr => ⟨_, rfl, ?_⟩)
    cases hall : ds.all (fun e => isW e 0 (m - 1)) with
    | false =>
      rw [hall] at k
      exact k _ gr
    | true =>
      rw [hall, Bool.true_and] at k
      rw [Bool.and_eq_true, decide_eq_true_eq, decide_eq_true_eq] at z2
      have e2 : Rd H2 a (.tup xs) := gr.sm.rd e
      have hl := all2 ha
      have n1 : 1 ≤ xs.length := by
        have := z2.1
        simp only [lenT] at this
        omega
      have hln : xs.length ≤ 2000 := by
        have := z2.2
        simp only [lenT] at this
        omega
      have isI : ∀ {i : Nat} {x : V}, xs[i]? = some x → ∃ j, x = .int j ∧ ds.getD i .none = .int j := fun {i x} hxi => by
        obtain ⟨d, hdi, hth⟩ := all_get ha hxi
        obtain ⟨j, rfl, rfl⟩ := isW_int hth (List.all_eq_true.mp hall d (List.mem_of_getElem? hdi))
        exact ⟨j, rfl, by rw [List.getD_eq_getElem?_getD, hdi]; rfl⟩
      refine ⟨_, rfl, _, rfl, _, rfl, a, xs, rfl, SqT.of e2, fun z => ?_, fun p hp => ?_⟩
      · have := z.1
        rw [sIx_one n1] at this
        cases this
      rw [cut_one n1]
      have sp := same_upd (o := .tup (xs.drop 1)) hp
      refine ⟨a, p, xs, xs.drop 1, rfl, .inr ⟨SqT.of (sp.rd e2), SqT.of upd_same, fun D hD => ?_⟩⟩
      refine lc_it (walk_zipT (K := K) (a := a) (b := p) (xs := xs) (ys := xs.drop 1) (n := xs.length - 1) (by rw [List.length_drop]; omega)) (fun n H' => Same (upd H2 p (.tup (xs.drop 1))) H' ∧ H' D = some (.lst ((List.range n).map fun i => V.bl (ltI (ds.getD i .none) (ds.getD (i + 1) .none))))) ⟨same_upd hD, upd_same⟩
        (fun n H' _ z => ⟨SqT.of (z.1.rd (sp.rd e2)), SqT.of (z.1 _ _ upd_same)⟩) ?_ ?_
      · rintro i x H' H'' hi ⟨s7, hD'⟩ ⟨U, x1, y1, rfl, hU, rfl, hx1, hy1⟩
        have hy2 : xs[i + 1]? = some y1 := by
          rw [← hy1]
          show _ = (xs.drop 1)[i]?
          rw [List.getElem?_drop, Nat.add_comm]
        obtain ⟨i1, rfl, g1⟩ := isI hx1
        obtain ⟨j1, rfl, g2⟩ := isI hy2
        have sU := same_upd (o := .tup [V.int i1, .int j1]) hU
        refine ⟨U, _, rfl, SqT.of upd_same, rfl, _, _, rfl, _, _, rfl, rfl, rfl, ?_⟩
        dsimp only [tYes]
        rw [if_pos rfl]
        refine ⟨_, rfl, _, rfl, _, _, rfl, rfl, _, sU _ _ hD', ?_, fun b o eb => ?_, ?_⟩
        · rw [List.length_map, List.length_range]
          exact Nat.lt_of_le_of_lt (show i ≤ 2000 by omega) (by decide)
        · have nb : b ≠ D := fun z => by
            rw [z, hD] at eb
            cases eb
          rw [upd_ne nb]
          exact sU _ _ (s7 _ _ eb)
        · rw [upd_same, List.range_succ, List.map_append, List.map_cons, List.map_nil, g1, g2]
          rfl
      · rintro H' ⟨s7, hD'⟩
        refine ⟨D, (List.range (xs.length - 1)).map fun i => ltI (ds.getD i .none) (ds.getD (i + 1) .none), rfl, SqL.of ?_, ?_⟩
        · rw [hD', List.map_map]
          rfl
        · have e3 : ((List.range (xs.length - 1)).map fun i => ltI (ds.getD i .none) (ds.getD (i + 1) .none)).all id = ascB ds := by
            rw [List.all_map, hl]
            rfl
          rw [e3]
          exact k _ (gr.trans (Grown.same (sp.trans s7) gr.tbs))
end
end KP

set_option Elab.async false
set_option linter.all false
set_option maxRecDepth 100000
set_option maxHeartbeats 1000000
/-! ### enumerate(tuple); x in tuple of data -/
namespace KT
open PySem PySem.Spec PyProof.Rows L2
theorem meets_enumB {v : Value} {o : Obj} {H : Heap → Prop} (B : Begins v o H) :
    Meets (Builtin.«enumerate.__new__» ⟨[.type "enumerate", v], []⟩) (fun _ R s => H s.heap ∧
      R (.ok (.ret (.ref (s.heap.push o).objs.size))) { s with heap := (s.heap.push o).push { cls := .type "enumerate", data := .fields #[.none, .bool false, .ref s.heap.objs.size, rawInt 0, .none, .none] } }) :=
  .of_wp fun prog w A R s h => by
    obtain ⟨hp, g, d, tk, os⟩ := s
    obtain ⟨h1, h⟩ := h
    have hsub := sub_enumerate
    have q1 : ∀ {A' : Around} {E : Value → Shared → Prop} {Q : Value → Shared → Prop}, Q (.ref hp.objs.size) ⟨hp.push o, g, d, tk, os⟩ → wpAny (model prog w) A' (pyIter v) Q E ⟨hp, g, d, tk, os⟩ :=
      fun q => B.iter prog w _ _ ⟨hp, g, d, tk, os⟩ _ h1 q
    wp_walk using q1
    refine wpAny_stack_any fun st => wpAny_pure ?_
    split
    · rename_i c _ _ _ _ _
      cases (c == Value.type "enumerate")
      · wp_walk using q1
        exact ⟨_, rfl, h⟩
      · wp_walk using q1
        exact ⟨_, rfl, h⟩
    · wp_walk using q1
      exact ⟨_, rfl, h⟩
theorem call_enumB {prog : Program} {w : World} {A : Around} {E : Value → Shared → Prop} {s : Shared} {v : Value} {o : Obj} {H : Heap → Prop} {Q : Value → Shared → Prop} (B : Begins v o H) (h1 : H s.heap)
    (h : ∀ h', IsEnum h' (s.heap.objs.size + 1) s.heap.objs.size 0 .none → h'.get? s.heap.objs.size = some o → (∀ b o, s.heap.get? b = some o → h'.get? b = some o) → Q (.ref (s.heap.objs.size + 1)) { s with heap := h' }) :
    wpAny (model prog w) A (call (.type "enumerate") [v]) Q E s := by
  refine callType_new F.called_enumerate (by decide) (F.typeCall_enumerate_1 _) (F.newCall_enumerate_1 _) (fun obj => F.args_object_init_2 obj _) F.entry_enumerate_new (meets_enumB B) ⟨h1, ?_⟩
  have hz : (s.heap.push o).objs.size = s.heap.objs.size + 1 := Heap.size_push ..
  show _ ∧ _
  rw [hz]
  have he : IsEnum ((s.heap.push o).push { cls := .type "enumerate", data := .fields #[.none, .bool false, .ref s.heap.objs.size, rawInt 0, .none, .none] }) (s.heap.objs.size + 1) s.heap.objs.size 0 .none := by
    have := Heap.get?_push_size (s.heap.push o) (o := { cls := .type "enumerate", data := .fields #[.none, .bool false, .ref s.heap.objs.size, rawInt 0, .none, .none] }) rfl
    rw [hz] at this
    exact this
  exact ⟨⟨_, he, rfl⟩, h _ he (Heap.get?_push_of_some _ (Heap.get?_push_size _ B.free)) fun b o x => Heap.get?_push_of_some _ (Heap.get?_push_of_some _ x)⟩
def IteT (K : PySem.W.Frag) (a : Addr) : It :=
  ⟨fun i H => ∃ (xs : List V) (x : V), SqT K H a xs ∧ xs[i]? = some x, fun i H v H' => ∃ T x, v = .ref T ∧ H T = none ∧ H' = upd H T (.tup [.int (i : Nat), x]) ∧ ∀ xs, SqT K H a xs → xs[i]? = some x, fun i H => ∃ xs : List V, SqT K H a xs ∧ xs.length = i⟩
theorem turn_enumT {P : Program} {w : World} {K : PySem.W.Frag} {elts : List Expr} {kk : Nat} {tpos : Pos} (a e it : Addr) :
    Turn P w K (.Tuple elts kk tpos) (IteT K a) [e, it] e (fun i h => (∃ old, IsEnum h e it ((i : Nat) : Int) old) ∧ h.IsTupleIter it a i ∧ e ≠ it ∧ a ≠ it ∧ a ≠ e) where
  mem := by simp
  obj := fun i h st b hb => by
    obtain ⟨⟨old, he⟩, ⟨o, ho, hc, hd⟩, _⟩ := st
    have e' : b = e ∨ b = it := by simpa using hb
    rcases e' with z | z
    · rw [z]; exact ⟨_, he, fun v q => nomatch q⟩
    · rw [z]; exact ⟨o, ho, fun v q => by rw [hd] at q; cases q⟩
  keep := fun i h h' st k => let ⟨⟨old, he⟩, hi, hne⟩ := st; ⟨⟨old, k e (by simp) _ he⟩, hi.at fun o q => k it (by simp) o q, hne⟩
  item := by
    intro X hP hw hK hc i pins s σ H E I hf st hg
    subst hP hw hK
    obtain ⟨⟨old, he⟩, hit, hne, hai, hae⟩ := st
    obtain ⟨xs, x, hq, hx⟩ := hg
    obtain ⟨its, rv, p, hz⟩ := I.tuple hq
    obtain ⟨u, hu, ru⟩ := rv.get hx
    have hel : e < s.heap.objs.size := Heap.lt_size he
    have hil : it < s.heap.objs.size := by obtain ⟨_, q, _⟩ := hit; exact Heap.lt_size q
    have hi : i < its.toArray.size := by
      have := (List.getElem?_eq_some_iff.mp hu).1
      simpa using this
    refine wpAny_pyNext_enum_itemD (Draws.tuple (A := X.A.in1) (I.ok.hd hc) it a hai its.toArray) he ⟨hit, p⟩ hi hne (by simp [hne, Ne.symm hae]) fun y h' tk hy ho hst hT hsz hk => ?_
    obtain rfl : u = y := by
      have : its[i]? = some y := by simpa using hy
      rw [hu] at this
      exact Option.some.inj this
    refine ⟨_, rfl, wpAny_letOwnedTupleGo_enum (s := { s with heap := h', toks := tk + 1 }) ho fun h'' he' sb => ?_⟩
    have hT2 : h''.get? s.heap.objs.size = some { cls := .type "tuple", data := .seq #[.int i tk, u] } := (sb.2 _ (Nat.ne_of_gt hel)).trans hT
    have new : ObjOk X.prog X.w (upd H s.heap.objs.size (.tup [.int (i : Nat), x])) h'' s.heap.objs.size (.tup [.int (i : Nat), x]) :=
      ⟨by show 2 ≤ sizeLine; decide, [.int i tk, u], .cons ⟨_, rfl⟩ (.cons ru .nil), ⟨_, hT2, rfl, _, rfl⟩⟩
    have I1 : Inv X pins σ (upd H s.heap.objs.size (.tup [.int (i : Nat), x])) { s with heap := h'', toks := tk + 1 } :=
      I.turnedNew (ch := [e, it]) (fun b ob hb q => (sb.2 b (fun z => hb (by simp [z]))).trans (hk b ob (fun z => hb (by simp [z])) (fun z => hb (by simp [z])) q)) hf (Nat.le_refl _) new
    refine ⟨.ref s.heap.objs.size, _, I1, rfl, ⟨_, x, rfl, I.hok.fresh (Nat.le_refl _), rfl, fun ys hy => by rw [I.tuple_inj hy hq]; exact hx⟩, ⟨⟨u, ?_⟩, hst.1.at fun o q => (sb.2 it (Ne.symm hne)).trans q, hne, hai, hae⟩, fun b hb => ?_⟩
    · have e1 : ((i + 1 : Nat) : Int) = (i : Int) + 1 := by omega
      rw [e1]; exact he'
    · have hb' : b < s.heap.objs.size := by
        have e' : b = e ∨ b = it := by simpa using hb
        rcases e' with z | z
        · rw [z]; exact hel
        · rw [z]; exact hil
      rw [upd_ne (Nat.ne_of_lt hb')]
      exact (hf b hb).1
  done := by
    intro X hP hw hK hc i pins s σ H E I hf st hg
    subst hP hw hK
    obtain ⟨⟨old, he⟩, hit, hne, hai, hae⟩ := st
    obtain ⟨xs, hq, hx⟩ := hg
    obtain ⟨its, rv, p, hz⟩ := I.tuple hq
    obtain ⟨f0, f1, f2, f3, f4, f5⟩ := hf it (by simp)
    have hl := rv.length
    have e1 : i = its.toArray.size := by simp; omega
    subst e1
    exact wpAny_pyNext_enum_endD (Draws.tuple (A := X.A.in1) (I.ok.hd hc) it a hai its.toArray) he ⟨hit, p⟩ fun h' eb => ⟨rfl, I.turned (t' := s.toks) (fun b o hb q => eb b o hb q) f0 f1 f3 f4 f5⟩
  self := fun A i s Q E st h => let ⟨⟨_, he⟩, _⟩ := st; wpAny_pyIter_enum he h
def iEnumT (K : PySem.W.Frag) (ta : TA) : TI := fun σ H R => ta σ H fun vs H1 => ∃ a xs, vs = [.ref a] ∧ SqT K H1 a xs ∧ R (IteT K a) H1
theorem pi_enumT {X : Cx} {e : Expr} {ta : TA} {p pos tpos : Pos} {elts : List Expr} {kk : Nat} (hg : Gl X "enumerate") (hm : X.mg "enumerate" = none) (ha : PA X [e] ta) (hs : starEach [e] X.env = [(false, eval e X.env)] := by rfl) :
    PI X (.Tuple elts kk tpos) (.Call (.Name "enumerate" p) [e] [] pos) (iEnumT X.K ta) := by
  refine ⟨fun pins s σ H R I h => ?_⟩
  refine Call_ (ld_blt I hg hm boot_enumerate (PyProof.Rows.callWith_type1 (thn (ha.run pos pins s σ H _ I h) fun us s1 ⟨vs, H1, I1, r1, q1⟩ => ?_) hs rfl))
  obtain ⟨a, xs, ex, hq, q⟩ := q1
  subst ex
  cases r1 with
  | cons r rr =>
    cases rr
    cases r
    obtain ⟨its, rv, p', hz⟩ := I1.tuple hq
    have hp : s1.heap.IsTuple a its.toArray := p'
    have hal : a < s1.heap.objs.size := by
      obtain ⟨o, e, _⟩ := hp
      exact Heap.lt_size e
    refine call_enumB (begins_tuple a its.toArray) hp fun h' he ho hk => wpAny_pyIter_enum he ?_
    have I2 : Inv X pins σ H1 { s1 with heap := h' } := I1.kept (t' := s1.toks) hk
    refine ⟨s1.heap.objs.size + 1, [s1.heap.objs.size + 1, s1.heap.objs.size], _, _, H1, rfl, I2, turn_enumT a (s1.heap.objs.size + 1) s1.heap.objs.size, ⟨⟨.none, he⟩, ⟨_, ho, rfl, rfl⟩, Nat.succ_ne_self _, Nat.ne_of_lt hal, Nat.ne_of_lt (Nat.lt_succ_of_lt hal)⟩, fun b hb => ?_, q⟩
    have e' : b = s1.heap.objs.size + 1 ∨ b = s1.heap.objs.size := by simpa using hb
    have hle : s1.heap.objs.size ≤ b := by
      rcases e' with z | z
      · rw [z]; exact Nat.le_add_right _ _
      · rw [z]; exact Nat.le_refl _
    exact I1.fpOk hle (I1.hok.fresh hle)
theorem walk_enumT {K : PySem.W.Frag} {a : Addr} {xs : List V} : Walk (IteT K a) xs.length (fun H => SqT K H a xs) (YPair (fun i => some (.int (i : Nat))) (fun i => xs[i]?)) := by
  refine ⟨fun i _ hi q => ⟨xs, xs[i], q, List.getElem?_eq_getElem _⟩, fun _ q => ⟨xs, q, rfl⟩, fun i H v H' _ q y => ?_⟩
  obtain ⟨T, x, h1, h2, h3, h4⟩ := y
  exact ⟨T, .int (i : Nat), x, h1, h2, h3, rfl, h4 xs q⟩
/-- x in t, x not in t: t a tuple of data -/
def rInT (K : PySem.W.Frag) : R2 := fun x y H Q => ∃ d ds, Dp K H x d ∧ Dp K H y (.tuple ds) ∧ SeqAt.shaped d = true ∧ SeqAt.shaped (.tuple ds) = true ∧ Q (.bl (ds.any fun z => PyData.eqv z d)) H
def rNotInT (K : PySem.W.Frag) : R2 := fun x y H Q => ∃ d ds, Dp K H x d ∧ Dp K H y (.tuple ds) ∧ SeqAt.shaped d = true ∧ SeqAt.shaped (.tuple ds) = true ∧ Q (.bl (!ds.any fun z => PyData.eqv z d)) H
theorem op_inT {X : Cx} (hu : X.A.units + 65 < cLine) : OpR X (compareOp .In) (rInT X.K) := fun pins s σ H x y v u Q I rx ry ⟨d, ds, hd, he, sd, se, q⟩ => by
  obtain ⟨as, r1⟩ := Dp.reads I d x v hd rx
  obtain ⟨bs, r2⟩ := Dp.reads I (.tuple ds) y u he ry
  exact SeqAt.in_tuple_reads r2 r1 (SeqAt.canLay_of_shaped se) (SeqAt.canLay_of_shaped sd) (room_in_shaped sd hu) ⟨.bl _, H, I, rfl, q⟩
theorem op_notInT {X : Cx} (hu : X.A.units + 65 < cLine) : OpR X (compareOp .NotIn) (rNotInT X.K) := fun pins s σ H x y v u Q I rx ry ⟨d, ds, hd, he, sd, se, q⟩ => by
  obtain ⟨as, r1⟩ := Dp.reads I d x v hd rx
  obtain ⟨bs, r2⟩ := Dp.reads I (.tuple ds) y u he ry
  exact SeqAt.notIn_tuple_reads r2 r1 (SeqAt.canLay_of_shaped se) (SeqAt.canLay_of_shaped sd) (room_in_shaped sd hu) ⟨.bl _, H, I, rfl, q⟩
end KT

set_option Elab.async false
set_option linter.all false
set_option maxRecDepth 100000
set_option maxHeartbeats 1000000
/-! ### pipes, all of them -/
namespace KP
open PySem PySem.Spec PyProof.Rows L2 KX KT
def distB (ds : List PyData) : Bool := (List.range ds.length).all fun i => !((ds.take i).any fun z => PyData.eqv z (ds.getD i .none))
def areP (m u : Int) (d : PyData) : Bool := decide (tyN d = "tuple") && !decide ((12 : Int) < (lenT d : Int)) && ((itms d).all (isPipe m u) && distB (itms d))
def spPipes (Ps : List Addr) : Sp := fun vs H Q _ => ∃ x d m u, vs = [x, .int m, .int u] ∧ Th H x d ∧ Tbs Ps H ∧ ∀ H', Grown Ps H H' → Q (.bl (areP m u d)) H'
theorem Th.dp {K : PySem.W.Frag} {H : Hp} {v : V} {d : PyData} (h : Th H v d) : d.hasDict = false → Dp K H v d := by
  refine Th.rec (motive_1 := fun v d _ => d.hasDict = false → Dp K H v d) (motive_2 := fun vs ds _ => PyData.hasDictAll ds = false → DpAll K H vs ds) (fun _ => .non) (fun b _ => .bl b) (fun i _ => .int i) (fun x _ => .str x)
    (fun q _ ih z => .lst (SqL.of q) (ih (by simpa [PyData.hasDict] using z))) (fun q _ ih z => .tup (SqT.of q) (ih (by simpa [PyData.hasDict] using z))) (fun q z => by simp [PyData.hasDict] at z) (fun _ => .nil) (fun _ _ a b z => ?_) h
  simp only [PyData.hasDictAll, Bool.or_eq_false_iff] at z
  exact .cons (a z.1) (b z.2)
theorem shp_data {n : Nat} {d : PyData} (z : shp n d = true) : ∃ ds, d = .tuple ds ∧ ds.length = n := by
  unfold shp at z
  rw [Bool.and_eq_true, decide_eq_true_eq, decide_eq_true_eq] at z
  cases d with
  | tuple ds => exact ⟨ds, rfl, z.2⟩
  | _ => exact absurd z.1 (by simp [tyN])
theorem isW_data {d : PyData} {lo hi : Int} (z : isW d lo hi = true) : ∃ i, d = .int i := by
  cases d with
  | int i => exact ⟨i, rfl⟩
  | _ => simp [isW] at z
/-- flat data: two signs of kinds -/
def Flat (d : PyData) : Prop := d.canLay0 = true ∧ d.depth ≤ 2 ∧ d.hasDict = false
theorem share_flat {u : Int} {d : PyData} (z : isShare u d = true) : (∃ i, d = .tuple [.str "x", .int i]) ∨ ∃ i j, d = .tuple [.int i, .int j] := by
  unfold isShare at z
  rw [Bool.and_eq_true] at z
  obtain ⟨ds, rfl, hl⟩ := shp_data z.1
  obtain ⟨a, b, rfl⟩ := len2 hl
  have z2 := z.2
  have e0 : ith 0 (.tuple [a, b]) = a := rfl
  have e1 : ith 1 (.tuple [a, b]) = b := rfl
  rw [e0, e1] at z2
  by_cases c : tyN a = "str"
  · rw [if_pos c, Bool.and_eq_true] at z2
    obtain ⟨i, rfl⟩ := isW_data z2.2
    cases a with
    | str s =>
      have e : s = "x" := of_decide_eq_true z2.1
      rw [e]
      exact .inl ⟨i, rfl⟩
    | _ => exact absurd c (by simp [tyN])
  · rw [if_neg c] at z2
    unfold isTold isR at z2
    simp only [Bool.and_eq_true] at z2
    have z3 := z2.1.2
    rw [e0, e1] at z3
    cases a with
    | int i =>
      cases b with
      | int j => exact .inr ⟨i, j, rfl⟩
      | _ => simp [ratio2] at z3
    | _ => cases b <;> simp [ratio2] at z3
theorem pipe_flat {m u : Int} {d : PyData} (z : isPipe m u d = true) : Flat d := by
  unfold isPipe at z
  rw [Bool.and_eq_true] at z
  obtain ⟨ds, rfl, hl⟩ := shp_data z.1
  obtain ⟨a, b, c, rfl⟩ := len3 hl
  have z2 := z.2
  rw [show ith 0 (.tuple [a, b, c]) = a from rfl, show ith 1 (.tuple [a, b, c]) = b from rfl, show ith 2 (.tuple [a, b, c]) = c from rfl] at z2
  simp only [Bool.and_eq_true, Bool.not_eq_true', Bool.or_eq_false_iff, Bool.not_eq_false', Bool.or_eq_true] at z2
  obtain ⟨⟨h1, h2⟩, h3⟩ := z2
  obtain ⟨i, rfl⟩ := isW_data h1
  have hb : b = .none ∨ ∃ j, b = .int j := by
    rcases h3 with h3 | h3
    · cases b with
      | none => exact .inl rfl
      | _ => simp [isNon] at h3
    · exact .inr (isW_data h3.1)
  have ok : PyData.strOk "x" = true := by decide +kernel
  rcases share_flat h2 with ⟨j, rfl⟩ | ⟨j, k, rfl⟩ <;> rcases hb with rfl | ⟨l, rfl⟩ <;>
    exact ⟨by simp [PyData.canLay0, PyData.canLayAll0, ok], by simp [PyData.depth, PyData.depthAll], by simp [PyData.hasDict, PyData.hasDictAll]⟩
theorem flat_all : ∀ {ds : List PyData}, (∀ d ∈ ds, Flat d) → PyData.canLayAll0 ds = true ∧ PyData.depthAll ds ≤ 2 ∧ PyData.hasDictAll ds = false
  | [], _ => by simp [PyData.canLayAll0, PyData.depthAll, PyData.hasDictAll]
  | d :: ds, h => by
    obtain ⟨a, b, c⟩ := h d List.mem_cons_self
    obtain ⟨a', b', c'⟩ := flat_all (ds := ds) fun e he => h e (List.mem_cons_of_mem _ he)
    refine ⟨by simp [PyData.canLayAll0, a, a'], ?_, by simp [PyData.hasDictAll, c, c']⟩
    simp only [PyData.depthAll]
    omega
theorem shaped_of {d : PyData} (a : d.canLay0 = true) (b : d.depth ≤ 64) : SeqAt.shaped d = true := by
  show (d.canLay0 && decide (d.depth ≤ 64)) = true
  rw [a, decide_eq_true b]
  rfl
theorem flat_shaped {ds : List PyData} (h : ∀ d ∈ ds, Flat d) : SeqAt.shaped (.tuple ds) = true ∧ (PyData.tuple ds).hasDict = false := by
  obtain ⟨a, b, c⟩ := flat_all h
  refine ⟨shaped_of (by simpa [PyData.canLay0] using a) ?_, by simpa [PyData.hasDict] using c⟩
  simp only [PyData.depth]
  omega
end KP

set_option Elab.async false
set_option linter.all false
set_option maxRecDepth 100000
set_option maxHeartbeats 1000000
namespace KP
open PySem PySem.Spec PyProof.Rows L2 KX KT
theorem sIx_nat0 {n i : Nat} (h : i ≤ n) (d : Nat) : HT.sIx n d (some (i : Int)) = i := by
  rw [HT.sIx_nat, Nat.min_eq_left h]
theorem cut_to {xs : List V} {i : Nat} (h : i ≤ xs.length) : cutV xs none (some (i : Int)) = xs.take i := by
  unfold cutV
  rw [sIx_nat0 h]
  rfl
theorem ThAll.take {H : Hp} : ∀ {xs : List V} {ds : List PyData} (i : Nat), ThAll H xs ds → ThAll H (xs.take i) (ds.take i)
  | _, _, 0, _ => by
    rw [List.take_zero, List.take_zero]
    exact .nil
  | _, _, _ + 1, .nil => .nil
  | _, _, i + 1, .cons a b => by
    rw [List.take_succ_cons, List.take_succ_cons]
    exact .cons a (ThAll.take i b)
section
variable {P : Program} {w : World} {K : PySem.W.Frag} {mg : Str → Option Value} {base : Heap}
theorem scPipes : FnScope ["pipes", "many", "unknowns", "pipe", "index"] ["pipes", "many", "unknowns"] (defScope sPipes) := ⟨rfl, rfl, rfl, by decide +kernel, rfl, by decide +kernel, by decide +kernel⟩
theorem ok_pipes {f fI c PT' : Addr} {fd fdI : FuncData} {Ps : List Addr} {uB : Value} (F : FunC K "_are_pipes" "_are_pipes" sPipes f fd c) (T : TxT mg) (TB : GxR.TabB base mg c PT') (hP : PT' ∈ Ps) (mB : mg "MOST_PIPES" = some uB) (rB : RelV (.int 12) uB)
    (FI : FnOk P w K mg base CX0 5 fI fdI ["pipe", "many", "unknowns"] spPipe) (mI : mg "_is_pipe" = some (.ref fI)) (kI : PySem.W.keepIn K (.ref fI) = true) (bI : Binds K fdI ["pipe", "many", "unknowns"] []) :
    FnOk P w K mg base CX0 7 f fd ["pipes", "many", "unknowns"] (spPipes Ps) := by
  refine F.ok scPipes (fun {vs H Q E} h => ?_) (fun A outer s H vs Q E hr h => ?_)
  · obtain ⟨x, d, m, u, rfl, _⟩ := h
    rfl
  · obtain ⟨x, d, m, u, rfl, hx, ht, k⟩ := h
    have hu : (A.deeper (envOfC "_are_pipes" (defScope sPipes) s.heap.objs.size f (.ref c))).units + 65 < cLine := by have := hr.un; omega
    refine ⟨_, pss_cons (ps_if (pw_or (pt_cmpR op_notTyB (pe_callTy call_type1 (by rfl) T.type (by decide +kernel) (pa_cons (pv 0) pa_nil)) (pe_bltn (v := .ty "tuple") (by rfl) T.tuple (by decide +kernel) rfl) (nomark _))
        (pw_or1 (pt_cmpR op_gt (pe_callB call_len_seq (by rfl) T.len PySem.boot_len (pa_cons (pv 0) pa_nil)) (pe_glob (by rfl) mB rB) (nomark _)))).pt (pss_one (ps_ret pe_bl)) pss_nil)
      (pss_cons (ps_if (pt_not (pt_val (KG.pe_allG (k := 5) (own := [("pipe", 3)]) (g := gName 3) rfl scPipes.nd hr (by rfl) T.all (by decide +kernel) TB rfl ⟨blkOk_by (N := ["pipes", "many", "unknowns", "pipe", "index"]) (sc := defScope sPipes) (by decide +kernel), rfl, by decide +kernel, by decide +kernel⟩ (pi_tup (pv 0))
          (fun _ _ _ _ _ _ _ _ => pg_name (i := 3) scPipes.nd rfl (Or.inl rfl)) (fun _ _ _ _ _ _ _ _ hB => pe_call FI hB (by rfl) mI kI bI .nil pass0 (pa_cons (pv 3) (pa_cons (pv 1) (pa_cons (pv 2) pa_nil)))) (fun _ => rfl)))) (pss_one (ps_ret pe_bl)) pss_nil)
      (pss_one (ps_ret (pe_callB (cr_all rfl) (by rfl) T.all (by decide +kernel) (pa_cons (pe_lc (own := [("index", 4), ("pipe", 3)]) (g := gTup K 2 (gCons (gName 4) (gCons (gName 3) gNil))) (tt := tYes) rfl scPipes.nd (pi_enumT (by rfl) T.enumerate (pa_cons (pv 0) pa_nil))
        (blkOk_by (N := ["pipes", "many", "unknowns", "pipe", "index"]) (sc := defScope sPipes) (by decide +kernel)) (fun _ _ _ _ _ => by exact pg_tup rfl (pgs_cons (pg_name (i := 4) scPipes.nd rfl (Or.inl rfl)) (pgs_cons (pg_name (i := 3) scPipes.nd rfl (Or.inl rfl)) pgs_nil))) (fun _ _ _ _ _ => pts_nil)
        (fun _ _ _ _ _ => pe_cmpR (r := rNotInT K) (by exact op_notInT hu) (pv 3) (pe_slice (r := rSlT K) (by exact sl_tup) (pv 0) po_none (po_some (pv 4))) (by rfl))) pa_nil))))), ?_⟩
    have b1 : ∀ {σ : L2.St} {i0 : Nat}, σ[i0]? = some (some x) → Ti (tOr (tTest (tOp rNT (tCB (rTyp K) (tCons (tVar i0) tNil)) (tC (.ty "tuple")))) (tTest (tOp (rI0 fun i j => .bl (decide (j < i))) (tCB (rLen K) (tCons (tVar i0) tNil)) (tC (.int 12))))) σ H
        (!decide (tyN d = "tuple") || decide ((12 : Int) < (lenT d : Int))) := fun e0 =>
      ti_or (ti_notTup (vi_var e0) hx) fun z => ti_test (vi_op (vi_lenT (ai_cons (vi_var e0) ai_nil) hx (by simpa using z)) vi_c fun Q q => ⟨_, _, rfl, rfl, q⟩)
    refine i_guard (b1 rfl) (fun z => ?_) (fun z => ?_)
    · have e : areP m u d = false := by
        unfold areP
        rw [Bool.or_eq_true, Bool.not_eq_true'] at z
        rcases z with z | z <;> rw [z] <;> simp
      have := k H (Grown.same (Same.refl H) ht)
      rw [e] at this
      exact this
    rw [Bool.or_eq_false_iff, Bool.not_eq_false'] at z
    obtain ⟨z1, z2⟩ := z
    obtain ⟨a, xs, ds, rfl, rfl, e, ha⟩ := tupOf hx (of_decide_eq_true z1)
    have e8 : areP m u (.tuple ds) = (ds.all (isPipe m u) && distB ds) := by
      unfold areP
      rw [z1, z2, Bool.true_and]
      rfl
    rw [e8] at k
    refine i_guardE (D := { nx := fun _ H' => Q .non H', rt := Q }) ?_
    refine all_vi (Ps := Ps) (pd := isPipe m u) rfl e ha ht hP (fun x => rfl) (fun H2 x d h => vi_call (ai_cons (vi_var rfl) (ai_cons (vi_var rfl) (ai_cons (vi_var rfl) ai_nil))) fun Q q => ⟨_, _, _, _, rfl, h, q⟩) (fun H2 gr => ⟨_, rfl, ?_⟩)
    cases hall : ds.all (isPipe m u) with
    | false =>
      rw [hall] at k
      exact k _ gr
    | true =>
      rw [hall, Bool.true_and] at k
      have z2 := of_decide_eq_false z2
      simp only [lenT] at z2
      have e2 : Rd H2 a (.tup xs) := gr.sm.rd e
      have ha2 := ThAll.mono gr.sm ha
      have hl := all2 ha
      have hfl : ∀ d ∈ ds, Flat d := fun d hd => pipe_flat (List.all_eq_true.mp hall d hd)
      refine ⟨_, rfl, a, xs, rfl, SqT.of e2, fun D hD => ?_⟩
      refine lc_it (walk_enumT (K := K) (a := a) (xs := xs)) (fun n H' => Same H2 H' ∧ H' D = some (.lst ((List.range n).map fun i => V.bl (!((ds.take i).any fun z => PyData.eqv z (ds.getD i .none)))))) ⟨same_upd hD, upd_same⟩
        (fun n H' _ z => SqT.of (z.1.rd e2)) ?_ ?_
      · rintro i x H' H'' hi ⟨s7, hD'⟩ ⟨U, x1, y1, rfl, hU, rfl, hx1, hy1⟩
        cases hx1
        obtain ⟨d, hdi, hth⟩ := all_get ha2 hy1
        have sU := same_upd (o := .tup [V.int (i : Nat), y1]) hU
        have s8 : Same H2 (upd H' U (.tup [V.int (i : Nat), y1])) := s7.trans sU
        refine ⟨U, _, rfl, SqT.of upd_same, rfl, _, _, rfl, _, _, rfl, rfl, rfl, ?_⟩
        dsimp only [tYes]
        rw [if_pos rfl]
        refine ⟨_, rfl, _, rfl, _, rfl, _, rfl, a, xs, rfl, SqT.of (s8.rd e2), fun z => ?_, fun p hp => ?_⟩
        · have := z.2
          rw [sIx_nat0 (Nat.le_of_lt hi)] at this
          omega
        rw [cut_to (Nat.le_of_lt hi)]
        have s9 := s8.trans (same_upd (o := .tup (xs.take i)) hp)
        have ed : ds.getD i .none = d := by rw [List.getD_eq_getElem?_getD, hdi]; rfl
        have hd : Flat d := hfl d (List.mem_of_getElem? hdi)
        have htk : ∀ e ∈ ds.take i, Flat e := fun e he => hfl e (List.mem_of_mem_take he)
        have t1 := flat_shaped htk
        refine ⟨d, ds.take i, Th.dp (hth.mono (Sm.same s9)) hd.2.2, Th.dp (.tup upd_same ((ThAll.mono (Sm.same s9) ha2).take i)) t1.2, shaped_of hd.1 (by have := hd.2.1; omega), t1.1, ?_⟩
        refine ⟨_, (sU.trans (same_upd hp)) _ _ hD', ?_, fun b o eb => ?_, ?_⟩
        · rw [List.length_map, List.length_range]
          exact Nat.lt_of_le_of_lt (show i ≤ 2000 by omega) (by decide)
        · have nb : b ≠ D := fun z => by
            rw [z, hD] at eb
            cases eb
          rw [upd_ne nb]
          exact s9 _ _ eb
        · rw [upd_same, List.range_succ, List.map_append, List.map_cons, List.map_nil, ed]
      · rintro H' ⟨s7, hD'⟩
        refine ⟨D, (List.range xs.length).map fun i => (!((ds.take i).any fun z => PyData.eqv z (ds.getD i .none))), rfl, SqL.of ?_, ?_⟩
        · rw [hD', List.map_map]
          rfl
        · have e3 : ((List.range xs.length).map fun i => (!((ds.take i).any fun z => PyData.eqv z (ds.getD i .none)))).all id = distB ds := by
            rw [List.all_map, hl]
            rfl
          rw [e3]
          exact k _ (gr.trans (Grown.same s7 gr.tbs))
end
end KP

set_option Elab.async false
set_option linter.all false
set_option maxRecDepth 100000
set_option maxHeartbeats 1000000
/-! ### is_net -/
namespace KP
open PySem PySem.Spec PyProof.Rows L2 KX KT
def netAt (a b c d e : PyData) : Bool :=
  match a, b with
  | .int m, .int u => !decide (7 < m + u) && (areP m u c && (areT m d && areT m e))
  | _, _ => false
def isNet (d : PyData) : Bool := shp 5 d && (!(!isW (ith 0 d) 1 4 || !isW (ith 1 d) 0 4) && netAt (ith 0 d) (ith 1 d) (ith 2 d) (ith 3 d) (ith 4 d))
def spNet (Ps : List Addr) : Sp := fun vs H Q _ => ∃ x d, vs = [x] ∧ Th H x d ∧ Tbs Ps H ∧ ∀ H', Grown Ps H H' → Q (.bl (isNet d)) H'
section
variable {P : Program} {w : World} {K : PySem.W.Frag} {mg : Str → Option Value} {base : Heap}
theorem scNet : FnScope ["value", "many", "unknowns", "pipes", "filled", "seen"] ["value"] (defScope sNet) := ⟨rfl, rfl, rfl, by decide +kernel, rfl, by decide +kernel, by decide +kernel⟩
theorem ok_net {f fI fP fT : Addr} {fd fdI fdP fdT : FuncData} {Ps : List Addr} {u1 u2 u3 : Value} (F : Fun K "is_net" "is_net" sNet f fd) (T : TxT mg) (m1 : mg "MOST_TANKS" = some u1) (r1 : RelV (.int 4) u1) (m2 : mg "MOST_UNKNOWNS" = some u2) (r2 : RelV (.int 4) u2) (m3 : mg "MOST_TOGETHER" = some u3) (r3 : RelV (.int 7) u3)
    (FI : FnOk P w K mg base CX0 2 fI fdI ["value", "least", "most"] spWithin) (mI : mg "is_within" = some (.ref fI)) (kI : PySem.W.keepIn K (.ref fI) = true) (bI : Binds K fdI ["value", "least", "most"] [])
    (FP : FnOk P w K mg base CX0 7 fP fdP ["pipes", "many", "unknowns"] (spPipes Ps)) (mP : mg "_are_pipes" = some (.ref fP)) (kP : PySem.W.keepIn K (.ref fP) = true) (bP : Binds K fdP ["pipes", "many", "unknowns"] [])
    (FT : FnOk P w K mg base CX0 4 fT fdT ["tanks", "many"] (spTanks Ps)) (mT : mg "_are_tanks" = some (.ref fT)) (kT : PySem.W.keepIn K (.ref fT) = true) (bT : Binds K fdT ["tanks", "many"] []) :
    FnOk P w K mg base CX0 8 f fd ["value"] (spNet Ps) := by
  refine F.ok scNet (fun vs H Q E h => ?_) (fun cdv A outer s H vs Q E hr h => ?_)
  · obtain ⟨x, d, rfl, _⟩ := h
    rfl
  · obtain ⟨x, d, rfl, hx, ht, k⟩ := h
    have hr2 : Room 2 _ := hr.mono (by decide)
    have hr4 : Room 4 _ := hr.mono (by decide)
    refine ⟨_, pss_cons (ps_if (pw_or (pt_cmpR op_notTyB (pe_callTy call_type1 (by rfl) T.type (by decide +kernel) (pa_cons (pv 0) pa_nil)) (pe_bltn (v := .ty "tuple") (by rfl) T.tuple (by decide +kernel) rfl) (nomark _))
        (pw_or1 (pt_cmpR op_ne (pe_callB call_len_seq (by rfl) T.len PySem.boot_len (pa_cons (pv 0) pa_nil)) pe_int (nomark _)))).pt (pss_one (ps_ret pe_bl)) pss_nil)
      (pss_cons (ps_asg (pv 0) (pg_tup rfl (pgs_cons (pg_name (i := 1) scNet.nd rfl (Or.inl rfl)) (pgs_cons (pg_name (i := 2) scNet.nd rfl (Or.inl rfl)) (pgs_cons (pg_name (i := 3) scNet.nd rfl (Or.inl rfl)) (pgs_cons (pg_name (i := 4) scNet.nd rfl (Or.inl rfl)) (pgs_cons (pg_name (i := 5) scNet.nd rfl (Or.inl rfl)) pgs_nil)))))))
      (pss_cons (ps_if (pw_or (pt_not (pt_val (pe_call FI hr2 (by rfl) mI kI bI .nil pass0 (pa_cons (pv 1) (pa_cons pe_int (pa_cons (pe_glob (by rfl) m1 r1) pa_nil))))))
          (pw_or1 (pt_not (pt_val (pe_call FI hr2 (by rfl) mI kI bI .nil pass0 (pa_cons (pv 2) (pa_cons pe_int (pa_cons (pe_glob (by rfl) m2 r2) pa_nil)))))))).pt (pss_one (ps_ret pe_bl)) pss_nil)
      (pss_cons (ps_if (pw_or (pt_cmpR op_gt (pe_op op_add (pv 1) (pv 2)) (pe_glob (by rfl) m3 r3) (nomark _)) (pw_or1 (pt_not (pt_val (pe_call FP hr (by rfl) mP kP bP .nil pass0 (pa_cons (pv 3) (pa_cons (pv 1) (pa_cons (pv 2) pa_nil)))))))).pt (pss_one (ps_ret pe_bl)) pss_nil)
      (pss_one (ps_ret (pe_and (pe_call FT hr4 rfl mT kT bT .nil pass0 (pa_cons (pv 4) (pa_cons (pv 1) pa_nil))) (pe_one (pe_call FT hr4 rfl mT kT bT .nil pass0 (pa_cons (pv 5) (pa_cons (pv 1) pa_nil)))))))))), ?_⟩
    have g0 : Grown Ps H H := Grown.same (Same.refl H) ht
    refine i_guard (ti_shape rfl (vi_var rfl) hx) (fun z => ?_) (fun z => ?_)
    · have z : shp 5 d = false := by simpa using z
      have e : isNet d = false := by simp [isNet, z]
      have := k H g0
      rw [e] at this
      exact this
    have z0 : shp 5 d = true := by simpa using z
    obtain ⟨a, xs, ds, rfl, rfl, e, ha, l2⟩ := shp_of hx z
    obtain ⟨d1, d2, d3, d4, d5, rfl⟩ := len5 l2
    cases ha with
    | cons h1 hr1 => cases hr1 with
      | cons h2 hr2' => cases hr2' with
        | cons h3 hr3 => cases hr3 with
          | cons h4 hr4' => cases hr4' with
            | cons h5 hr5 =>
              cases hr5
              refine ⟨_, rfl, a, _, rfl, SqT.of e, rfl, _, _, rfl, _, _, rfl, _, _, rfl, _, _, rfl, _, _, rfl, rfl, ?_⟩
              have e8 : isNet (.tuple [d1, d2, d3, d4, d5]) = (!(!isW d1 1 4 || !isW d2 0 4) && netAt d1 d2 d3 d4 d5) := by
                unfold isNet
                rw [z0, Bool.true_and]
                rfl
              rw [e8] at k
              dsimp only
              refine i_guard (D := { nx := _, rt := Q }) (ti_or (ti_not (ti_val (vi_call (ai_cons (vi_var rfl) (ai_cons vi_c (ai_cons vi_c ai_nil))) fun Q q => spWithin_at h1 q)))
                fun _ => ti_not (ti_val (vi_call (ai_cons (vi_var rfl) (ai_cons vi_c (ai_cons vi_c ai_nil))) fun Q q => spWithin_at h2 q))) (fun z => ?_) (fun z => ?_)
              · have := k H g0
                rw [z] at this
                exact this
              rw [z, Bool.not_false, Bool.true_and] at k
              rw [Bool.or_eq_false_iff, Bool.not_eq_false', Bool.not_eq_false'] at z
              have hm4 : ∀ {i}, d1 = .int i → i ≤ 4 := fun {i} e => by
                have := z.1
                rw [e] at this
                simp only [isW, Bool.and_eq_true, decide_eq_true_eq] at this
                exact this.2
              obtain ⟨m, rfl, rfl⟩ := isW_int h1 z.1
              obtain ⟨u, rfl, rfl⟩ := isW_int h2 z.2
              have hm4 := hm4 rfl
              have e9 : netAt (.int m) (.int u) d3 d4 d5 = (!decide (7 < m + u) && (areP m u d3 && (areT m d4 && areT m d5))) := rfl
              rw [e9] at k
              refine ⟨_, rfl, _, rfl, _, _, rfl, rfl, _, _, rfl, rfl, _, rfl, ?_⟩
              cases c7 : decide (7 < m + u) with
              | true =>
                rw [c7] at k
                exact k H g0
              | false =>
                rw [c7, Bool.not_false, Bool.true_and] at k
                dsimp only
                rw [if_neg Bool.false_ne_true]
                refine ⟨_, rfl, _, rfl, _, rfl, _, _, _, _, rfl, h3, ht, fun H1 g1 => ⟨_, rfl, ?_⟩⟩
                cases cp : areP m u d3 with
                | false =>
                  rw [cp] at k
                  exact k H1 g1
                | true =>
                  rw [cp, Bool.true_and] at k
                  refine ⟨_, rfl, _, rfl, _, _, _, rfl, h4.mono g1.sm, g1.tbs, by omega, fun H2 g2 => ⟨_, rfl, ?_⟩⟩
                  cases ct : areT m d4 with
                  | false =>
                    rw [ct] at k
                    exact k H2 (g1.trans g2)
                  | true =>
                    rw [ct, Bool.true_and] at k
                    dsimp only
                    rw [if_pos rfl]
                    exact ⟨_, rfl, _, rfl, _, _, _, rfl, (h5.mono g1.sm).mono g2.sm, g2.tbs, by omega, fun H3 g3 => k H3 ((g1.trans g2).trans g3)⟩
end
end KP

set_option Elab.async false
set_option linter.all false
set_option maxRecDepth 100000
set_option maxHeartbeats 1000000
/-! ### the law's own look: whole numbers -/
namespace KP
open PySem PySem.Spec PyProof.Rows L2 KX KT
abbrev lJar : Stmt := top 38
abbrev lDip : Stmt := top 39
abbrev lOne : Stmt := top 40
abbrev lSame : Stmt := top 41
abbrev lFrac : Stmt := top 42
abbrev lToldPart : Stmt := top 47
abbrev lLot : Stmt := top 48
abbrev lNet : Stmt := top 49
abbrev lRight : Stmt := top 60
abbrev lLaw : Stmt := top 61
structure TxL (mg : Str → Option Value) : Prop extends TxT mg where
  isinstance : mg "isinstance" = none
  bool : mg "bool" = none
  range : mg "range" = none
  any : mg "any" = none
theorem Th.tyx {K : PySem.W.Frag} {H : Hp} {v : V} {d : PyData} (h : Th H v d) : TyX K H v (.type (tyN d)) := by
  cases h with
  | non => exact .base .non
  | bl b => exact .base (.bl b)
  | int i => exact .base (.int i)
  | str x => exact .base (.str x)
  | lst e _ => exact .base (.lst e)
  | tup' e _ => exact e.elim (fun e => .base (.tup e)) fun ⟨_, e⟩ => .fTuple e
  | emp e => exact .base (.dK e)
def isin (a n : String) : Bool := decide (a = n) || (decide (a = "bool") && decide (n = "int"))
theorem kit_all : ∀ a ∈ ["NoneType", "bool", "int", "str", "list", "tuple", "dict"], ∀ n ∈ ["int", "bool", "tuple", "str"], kitB a n = some (isin a n) := by decide +kernel
theorem tyN_mem (d : PyData) : tyN d ∈ ["NoneType", "bool", "int", "str", "list", "tuple", "dict"] := by cases d <;> simp [tyN]
section
variable {K : PySem.W.Frag} {σ : L2.St} {H : Hp}
theorem vi_isi {te : TE} {x : V} {d : PyData} {n : String} (ha : Vi te σ H x) (h : Th H x d) (hn : n ∈ ["int", "bool", "tuple", "str"]) : Vi (tCB (rIsi K) (tCons te (tCons (tC (.ty n)) tNil))) σ H (.bl (isin (tyN d) n)) :=
  vi_cb (ai_cons ha (ai_cons vi_c ai_nil)) fun Q q => ⟨_, _, _, _, _, rfl, .ty n, h.tyx, kit_ty (kit_all _ (tyN_mem d) _ hn), q⟩
theorem vi_not {ta : TE} {a : Bool} (h : Vi ta σ H (.bl a)) : Vi (tNotV ta) σ H (.bl (!a)) := fun Q q => h _ ⟨a, rfl, q⟩
end
section
variable {P : Program} {w : World} {K : PySem.W.Frag} {mg : Str → Option Value} {base : Heap}
end
end KP

set_option Elab.async false
set_option linter.all false
set_option maxRecDepth 100000
set_option maxHeartbeats 1000000
/-! ### readings behind which the heap has only grown; all([.. for x in tuple]) -/
namespace KP
open PySem PySem.Spec PyProof.Rows L2 KX KT
def Vg (t : TE) (σ : L2.St) (H : Hp) (v : V) : Prop := ∀ Q : VK, (∀ H', Same H H' → Q v H') → t σ H Q
def Tg (t : TT) (σ : L2.St) (H : Hp) (b : Bool) : Prop := ∀ Q : Bool → Hp → Prop, (∀ H', Same H H' → Q b H') → t σ H Q
section
variable {K : PySem.W.Frag} {σ : L2.St} {H : Hp}
theorem tg_of {t : TT} {b : Bool} (h : Ti t σ H b) : Tg t σ H b := fun Q q => h _ (q H (Same.refl H))
theorem vg_of {t : TE} {v : V} (h : Vi t σ H v) : Vg t σ H v := fun Q q => h _ (q H (Same.refl H))
theorem tg_or {t u : TT} {a b : Bool} (h : Tg t σ H a) (h2 : a = false → ∀ H', Same H H' → Tg u σ H' b) : Tg (tOr t u) σ H (a || b) := fun Q q => h _ fun H' s => by
  cases a with
  | true => rw [if_pos rfl]; simpa using q H' s
  | false => rw [if_neg Bool.false_ne_true]; exact h2 rfl H' s _ fun H2 s2 => by simpa using q H2 (s.trans s2)
theorem tg_not {t : TT} {a : Bool} (h : Tg t σ H a) : Tg (tNot t) σ H (!a) := fun Q q => h _ fun H' s => q H' s
theorem tg_val {te : TE} {b : Bool} (h : Vg te σ H (.bl b)) : Tg (tB te) σ H b := fun Q q => h _ fun H' s => ⟨b, rfl, q H' s⟩
theorem tg_test {te : TE} {b : Bool} (h : Vg te σ H (.bl b)) : Tg (tTest te) σ H b := fun Q q => h _ fun H' s => ⟨b, rfl, q H' s⟩
theorem g_guard {t : TT} {tz : TS} {b : Bool} {D : Ends} (h : Tg t σ H b) (h1 : b = true → ∀ H', Same H H' → D.rt (.bl false) H') (h2 : b = false → ∀ H', Same H H' → tz D σ H') : tSeq (tIfS t (tRet (tC (.bl false))) tNext) tz D σ H := h _ fun H' s => by
  cases b with
  | true => rw [if_pos rfl]; exact h1 rfl H' s
  | false => rw [if_neg Bool.false_ne_true]; exact h2 rfl H' s
theorem g_ret {te : TE} {v : V} {D : Ends} (h : Vg te σ H v) (k : ∀ H', Same H H' → D.rt v H') : tRet te D σ H := h _ k
theorem vg_and {ta tb : TE} {a b : Bool} (h : Vg ta σ H (.bl a)) (h2 : a = true → ∀ H', Same H H' → Vg tb σ H' (.bl b)) : Vg (tAndV ta tb) σ H (.bl (a && b)) := fun Q q => h _ fun H' s => ⟨a, rfl, by
  cases a with
  | true => rw [if_pos rfl]; exact h2 rfl H' s _ fun H2 s2 => by simpa using q H2 (s.trans s2)
  | false => rw [if_neg Bool.false_ne_true]; simpa using q H' s⟩
/-- all([elt for x in te]) -/
theorem vg_all {te tel : TE} {a : Addr} {j : Nat} {vs : List Nat} {xs : List V} {ds : List PyData} {pd : PyData → Bool} (h : Vi te σ H (.ref a)) (e : Rd H a (.tup xs)) (ha : ThAll H xs ds) (hl : ds.length ≤ 2000) (hw : ∀ x : V, wipe ((wipe σ vs).set j (some x)) vs = wipe σ vs)
    (he : ∀ H2 x d, Same H H2 → Th H2 x d → Vg tel ((wipe σ vs).set j (some x)) H2 (.bl (pd d))) : Vg (tCB (rAll K) (tCons (tLc (iTup K te) (gName j) tYes tel vs) tNil)) σ H (.bl (ds.all pd)) := fun Q q => by
  have hlen := all2 ha
  refine h _ ⟨a, rfl, ⟨xs, SqT.of e⟩, fun D hD => ?_⟩
  refine lc_it (walk_tup (K := K) (a := a) (xs := xs)) (fun n H' => Same H H' ∧ H' D = some (.lst ((ds.take n).map fun d => V.bl (pd d)))) ⟨same_upd hD, upd_same⟩ (fun n H' _ z => SqT.of (z.1.rd e)) ?_ ?_
  · rintro i x H' H'' hi ⟨s7, hD'⟩ ⟨rfl, hx⟩
    obtain ⟨d, hdi, hth⟩ := all_get ha hx
    refine ⟨hw x, ?_⟩
    dsimp only [tYes]
    rw [if_pos rfl]
    refine he _ x d s7 (hth.mono (Sm.same s7)) _ fun H2 s2 => ⟨_, s2 _ _ hD', ?_, fun b o eb => ?_, ?_⟩
    · rw [List.length_map, List.length_take]
      exact Nat.lt_of_le_of_lt (show min i ds.length ≤ 2000 by omega) (by decide)
    · have nb : b ≠ D := fun z => by
        rw [z, hD] at eb
        cases eb
      rw [upd_ne nb]
      exact s2 _ _ (s7 _ _ eb)
    · rw [upd_same, List.take_add_one, hdi, List.map_append]
      rfl
  · rintro H' ⟨s7, hD'⟩
    have e1 : ds.take xs.length = ds := List.take_of_length_le (by omega)
    rw [e1] at hD'
    refine ⟨D, ds.map pd, rfl, SqL.of (by rw [hD', List.map_map]; rfl), ?_⟩
    have e2 : (ds.map pd).all id = ds.all pd := by rw [List.all_map]; rfl
    rw [e2]
    exact q _ s7
end
end KP

set_option Elab.async false
set_option linter.all false
set_option maxRecDepth 100000
set_option maxHeartbeats 4000000
/-! ### the law's draws -/
namespace KJ
open PySem PySem.Spec PyProof.Rows L2 KX KP
abbrev sJar : Stmt := top 38
abbrev sDip : Stmt := top 39
abbrev sOne : Stmt := top 40

/-- a jar at j: a number to be parted, a mixed one, how often it was dipped (at most n) -/
def JarAt (H : Hp) (j : Addr) (n : Nat) : Prop := ∃ a b c : Int, H j = some (.lst [.int a, .int b, .int c]) ∧ 0 ≤ a ∧ 0 ≤ b ∧ b < 2147483399 ∧ 0 ≤ c ∧ c ≤ n
/-- all but j as it was -/
def But (j : Addr) (H H' : Hp) : Prop := ∀ b o, b ≠ j → H b = some o → H' b = some o
theorem But.trans {j : Addr} {H H1 H2 : Hp} (a : But j H H1) (b : But j H1 H2) : But j H H2 := fun c o n h => b c o n (a c o n h)
theorem But.same {j : Addr} {H H1 : Hp} (a : Same H H1) : But j H H1 := fun c o _ h => a c o h
def spJar (K : PySem.W.Frag) : Sp := fun vs H Q _ => ∃ (a : Addr) (ns : List Int) (t : Nat), vs = [.ref a, .int t] ∧ SqL K H a (ns.map V.int) ∧ ns.length ≤ 63 ∧ t ≤ 100 ∧ ∀ j H', H j = none → Same H H' → JarAt H' j 0 → Q (.ref j) H'
def spDip : Sp := fun vs H Q _ => ∃ (j : Addr) (top : Int) (n : Nat), vs = [.ref j, .int top] ∧ 0 < top ∧ top < 1000000 ∧ JarAt H j n ∧ n < 1000000 ∧ ∀ r H', 0 ≤ r → r < top → But j H H' → JarAt H' j (n + 1) → Q (.int r) H'
/-- one of some things: a list or a tuple -/
def spOne (K : PySem.W.Frag) : Sp := fun vs H Q _ => ∃ (j p : Addr) (xs : List V) (n : Nat), vs = [.ref j, .ref p] ∧ p ≠ j ∧ (H p = some (.lst xs) ∨ Rd H p (.tup xs)) ∧ xs ≠ [] ∧ xs.length < 1000000 ∧ JarAt H j n ∧ n < 1000000 ∧
  ∀ x H', x ∈ xs → But j H H' → JarAt H' j (n + 1) → Q x H'
structure TxJ (mg : Str → Option Value) : Prop where
  int : mg "int" = none
  len : mg "len" = none
  abs : mg "abs" = none
  dvm : mg "divmod" = none
section
variable {P : Program} {w : World} {K : PySem.W.Frag} {mg : Str → Option Value} {base : Heap}
theorem scJar : FnScope ["script", "turn", "mixed", "cell", "own"] ["script", "turn"] (defScope sJar) := ⟨rfl, rfl, rfl, by decide +kernel, rfl, by decide +kernel, by decide +kernel⟩
theorem ok_jar {f : Addr} {fd : FuncData} (F : Fun K "_law_jar" "_law_jar" sJar f fd) (T : TxJ mg) : FnOk P w K mg base CX0 1 f fd ["script", "turn"] (spJar K) := by
  refine F.ok scJar (fun vs H Q E h => ?_) (fun cdv A outer s H vs Q E hr h => ?_)
  · obtain ⟨a, ns, t, rfl, _⟩ := h
    rfl
  · obtain ⟨a, ns, t, rfl, hS, hn, ht, k⟩ := h
    refine ⟨_, pss_cons (ps_set (i := 2) scJar.nd rfl (Or.inl rfl) (pe_op op_add pe_int (pe_op op_mul pe_int (pv 1))))
      (pss_cons (ps_for PassesOwn.never rfl (pi_list (pe_slice sl_list (pv 0) po_none (po_some pe_int))) (pg_name (i := 3) scJar.nd rfl (Or.inl rfl))
        (pss_one (ps_set (i := 2) scJar.nd rfl (Or.inl rfl) (pe_op op_mod (pe_callTy call_int1 (by rfl) T.int (by decide +kernel) (pa_cons
          (pe_op op_add (pe_op op_add (pe_op op_mul (pv 2) pe_int) (pe_op op_mul (pe_op op_mod (pe_callTy call_int1 (by rfl) T.int (by decide +kernel) (pa_cons (pv 3) pa_nil)) pe_int) pe_int)) pe_int) pa_nil)) pe_int))))
      (Evl.pss_cut (ps_set (i := 4) scJar.nd rfl (Or.inl rfl) (pe_ifExp (pt_cmpR op_lt (pv 1) (pe_callB call_len_seq (by rfl) T.len PySem.boot_len (pa_cons (pv 0) pa_nil)) (nomark _))
          (pe_callTy call_int1 (by rfl) T.int (by decide +kernel) (pa_cons (pe_ix ix_list (pv 0) (pv 1) (fun _ _ => rfl)) pa_nil)) pe_int))
      (pss_one (ps_ret (pe_lst (pa_cons (pe_ifExp (PW.pt (pw_or (pt_cmpR op_lt (pv 4) pe_int (nomark _)) (pw_or1 (pt_cmpR op_ge (pv 4) (pe_op op_pow pe_int pe_int) (nomark _)))))
          (pe_callB call_abs (by rfl) T.abs (by decide +kernel) (pa_cons (pv 4) pa_nil)) pe_int) (pa_cons (pv 2) (pa_cons pe_int pa_nil)))))))), ?_⟩
    refine ⟨_, rfl, _, _, rfl, rfl, .inl ⟨by decide, by decide⟩, _, _, rfl, rfl, ?_⟩
    refine ⟨_, rfl, _, rfl, a, _, rfl, hS, fun p hp => ⟨p, rfl, ⟨_, SqL.of upd_same⟩, ?_⟩⟩
    have allI : ∀ x ∈ cutV (ns.map V.int) none (some 10), ∃ i, x = V.int i := fun x hx => by
      have h1 := List.mem_of_mem_drop (List.mem_of_mem_take hx)
      obtain ⟨i, _, rfl⟩ := List.mem_map.mp h1
      exact ⟨i, rfl⟩
    refine for_list (xs := cutV (ns.map V.int) none (some 10)) (fun i σ H' => ∃ (m : Int) (v : Option V), σ = [some (.ref a), some (.int t), some (.int m), v, none] ∧ 0 ≤ m ∧ m < 2147483399 ∧ Same (upd H p (.lst (cutV (ns.map V.int) none (some 10)))) H')
      ⟨_, none, rfl, by omega, by omega, Same.refl _⟩ (fun i σ H' _ ⟨_, _, _, _, _, z⟩ => SqL.of (z _ _ upd_same)) ?_ ?_
    · rintro i x σ H' hi ⟨m, v, rfl, m0, m1, sm⟩
      obtain ⟨c, rfl⟩ := allI x (List.mem_of_getElem? hi)
      have hc0 := Int.emod_nonneg c (show (2147483399 : Int) ≠ 0 by decide)
      have hc1 := Int.emod_lt_of_pos c (show (0 : Int) < 2147483399 by decide)
      refine ⟨_, rfl, _, _, rfl, rfl, .inl ⟨by omega, by omega⟩, _, rfl, .inl ⟨_, rfl, _, _, rfl, rfl, (by decide : (0 : Int) < 2147483399), _, _, rfl, rfl, .inl ⟨by omega, by omega⟩, _, _, rfl, rfl, _, _, rfl, rfl, .inl ⟨_, rfl, _, _, rfl, rfl, (by decide : (0 : Int) < 2147483399), ?_⟩⟩⟩
      exact ⟨_, _, rfl, Int.emod_nonneg _ (by decide), Int.emod_lt_of_pos _ (by decide), sm⟩
    · rintro σ H' ⟨m, v, rfl, m0, m1, sm⟩
      have sm0 : Same H H' := fun b o e => sm b o (by rw [upd_ne (ne_of_none e hp)]; exact e)
      refine ⟨fun σ' H2 => ∃ own : Int, σ' = [some (.ref a), some (.int t), some (.int m), v, some (.int own)] ∧ Same H H2, ?_, ?_⟩
      · refine ⟨_, rfl, _, rfl, a, _, rfl, .inl (sm0.seq hS), _, _, rfl, rfl, _, rfl, ?_⟩
        refine ite2 (fun c => ?_) (fun c => ⟨_, rfl, sm0⟩)
        have c' := of_decide_eq_true c
        rw [List.length_map] at c'
        have ht' : t < ns.length := by omega
        exact ⟨_, rfl, _, rfl, a, _, _, .int ns[t], rfl, rfl, sm0.seq hS, atI_nat (by rw [List.getElem?_map, List.getElem?_eq_getElem ht']; rfl), .inl ⟨_, rfl, _, rfl, sm0⟩⟩
      · rintro σ' H2 ⟨own, rfl, sm2⟩
        have fin : ∀ x : Int, 0 ≤ x → ∀ j, H2 j = none → Q (.ref j) (upd H2 j (.lst [.int x, .int m, .int 0])) := fun x hx j hj =>
          k j _ (sm2.free hj) (fun b o e => by rw [upd_ne (ne_of_none (sm2 b o e) hj)]; exact sm2 b o e) ⟨x, m, 0, upd_same, hx, m0, m1, by decide, by decide⟩
        have l3 : ([V.int 0, .int 0, .int 0] : List V).length ≤ sizeLine := by decide
        refine ⟨_, rfl, _, _, rfl, rfl, _, rfl, ?_⟩
        refine ite2 (fun c => iteT ⟨_, rfl, _, rfl, _, rfl, l3, fin _ ?_⟩) (fun c => ⟨_, rfl, _, _, rfl, rfl, ⟨by decide, by decide, by decide⟩, _, _, rfl, rfl, _, rfl, ?_⟩)
        · split <;> omega
        · refine ite2 (fun c => ⟨_, rfl, _, rfl, _, rfl, l3, fin _ ?_⟩) (fun c => ⟨_, rfl, l3, fin _ (by decide)⟩)
          split <;> omega
theorem scDip : FnScope ["jar", "top", "figure", "stirred"] ["jar", "top"] (defScope sDip) := ⟨rfl, rfl, rfl, by decide +kernel, rfl, by decide +kernel, by decide +kernel⟩
theorem ok_dip {f : Addr} {fd : FuncData} (F : Fun K "_law_dip" "_law_dip" sDip f fd) (T : TxJ mg) : FnOk P w K mg base CX0 1 f fd ["jar", "top"] spDip := by
  refine F.ok scDip (fun vs H Q E h => ?_) (fun cdv A outer s H vs Q E hr h => ?_)
  · obtain ⟨j, t, n, rfl, _⟩ := h
    rfl
  · obtain ⟨j, t, n, rfl, t0, t1, ⟨a, b, c, hj, a0, b0, b1, c0, c1⟩, hn, k⟩ := h
    refine ⟨_, pss_cons (ps_if (pt_cmpR op_gt (pe_ix ix_list (pv 0) pe_int (fun _ _ => rfl)) pe_int (nomark _))
        (pss_cons (ps_asg (pe_callB call_divmodW (by rfl) T.dvm (by decide +kernel) (pa_cons (pe_ix ix_list (pv 0) pe_int (fun _ _ => rfl)) (pa_cons (pv 1) pa_nil)))
            (pg_tup rfl (pgs_cons (pg_sub (pv 0) pe_int set_list) (pgs_cons (pg_name (i := 2) scDip.nd rfl (Or.inl rfl)) pgs_nil))))
          (pss_one (ps_ret (pv 2)))) pss_nil)
      (pss_cons (ps_asg (pe_op op_add (pe_ix ix_list (pv 0) pe_int (fun _ _ => rfl)) pe_int) (pg_sub (pv 0) pe_int set_list))
      (pss_cons (ps_set (i := 3) scDip.nd rfl (Or.inl rfl) (pe_op op_mod (pe_callTy call_int1 (by rfl) T.int (by decide +kernel) (pa_cons
          (pe_op op_add (pe_ix ix_list (pv 0) pe_int (fun _ _ => rfl)) (pe_op op_mul pe_int (pe_ix ix_list (pv 0) pe_int (fun _ _ => rfl)))) pa_nil)) pe_int))
      (pss_cons (ps_asg (pe_op op_mod (pe_callTy call_int1 (by rfl) T.int (by decide +kernel) (pa_cons
          (pe_op op_add (pe_op op_mul (pv 3) (pe_op op_add (pe_op op_mod (pe_callTy call_int1 (by rfl) T.int (by decide +kernel) (pa_cons (pv 3) pa_nil)) pe_int) pe_int))
            (pe_op op_mul pe_int (pe_ix ix_list (pv 0) pe_int (fun _ _ => rfl)))) pa_nil)) pe_int) (pg_sub (pv 0) pe_int set_list))
      (pss_one (ps_ret (pe_op op_mod (pe_callTy call_int1 (by rfl) T.int (by decide +kernel) (pa_cons (pe_op op_fdiv (pe_ix ix_list (pv 0) pe_int (fun _ _ => rfl)) pe_int) pa_nil)) (pv 1))))))), ?_⟩
    have at0 : ∀ x y z : Int, atI [V.int x, .int y, .int z] 0 = some (.int x) := fun _ _ _ => rfl
    have at1 : ∀ x y z : Int, atI [V.int x, .int y, .int z] 1 = some (.int y) := fun _ _ _ => rfl
    have at2 : ∀ x y z : Int, atI [V.int x, .int y, .int z] 2 = some (.int z) := fun _ _ _ => rfl
    refine ⟨_, rfl, _, _, _, _, rfl, rfl, SqL.of hj, at0 _ _ _, _, _, rfl, rfl, _, rfl, ?_⟩
    refine ite2 (fun ca => ?_) (fun ca => ?_)
    · have ha := of_decide_eq_true ca
      refine ⟨_, rfl, _, _, _, _, rfl, rfl, SqL.of hj, at0 _ _ _, _, rfl, _, _, rfl, ⟨t0, PyProof.noPylong_of_log2 ?_⟩, fun p hp => ?_⟩
      · refine PySem.Flt.log2_lt_of (by decide) (Nat.lt_of_lt_of_le (show t.natAbs < 1000000 by omega) ?_)
        exact Nat.le_trans (by decide : 1000000 ≤ 2 ^ 20) (Nat.pow_le_pow_right (by decide) (by decide))
      · have npj : j ≠ p := ne_of_none hj hp
        refine ⟨p, _, rfl, SqT.of upd_same, rfl, _, _, rfl, ⟨_, rfl, j, _, 0, 0, rfl, rfl, Eq.trans (upd_ne npj) hj, rfl, ?_⟩⟩
        refine ⟨_, _, rfl, rfl, _, rfl, k _ _ (Int.emod_nonneg _ (by omega)) (Int.emod_lt_of_pos _ t0) (fun x o nx e => ?_) ⟨a / t, b, c, upd_same, Int.ediv_nonneg a0 (by omega), b0, b1, c0, by omega⟩⟩
        rw [upd_ne nx, upd_ne (ne_of_none e hp)]
        exact e
    · have c2 : (28657 : Int) * (c + 1) = (c + 1) * 28657 := Int.mul_comm _ _
      refine ⟨_, rfl, _, _, _, _, rfl, rfl, SqL.of hj, at2 _ _ _, _, _, rfl, rfl, _, rfl, j, _, 2, 2, rfl, rfl, hj, rfl, ?_⟩
      have h1 : (upd H j (.lst ([V.int a, .int b, .int c].set 2 (.int (c + 1))))) j = some (.lst [.int a, .int b, .int (c + 1)]) := upd_same
      refine ⟨_, rfl, _, _, _, _, rfl, rfl, SqL.of h1, at1 _ _ _, _, rfl, _, _, _, _, rfl, rfl, SqL.of h1, at2 _ _ _, _, _, rfl, rfl, .inl ⟨by decide, by decide⟩, _, _, rfl, rfl, .inl ⟨_, rfl, _, _, rfl, rfl, (by decide : (0 : Int) < 2147483399), ?_⟩⟩
      have s0 := Int.emod_nonneg (b + 28657 * (c + 1)) (show (2147483399 : Int) ≠ 0 by decide)
      have s1 := Int.emod_lt_of_pos (b + 28657 * (c + 1)) (show (0 : Int) < 2147483399 by decide)
      refine ⟨_, rfl, _, rfl, .inl ⟨_, rfl, _, _, rfl, rfl, (by decide : (0 : Int) < 5003), _, _, rfl, rfl, _, _, rfl, rfl, .inl ⟨by omega, by omega⟩, _, rfl, _, _, _, _, rfl, rfl, SqL.of h1, at2 _ _ _, _, _, rfl, rfl, .inl ⟨by decide, by decide⟩, _, _, rfl, rfl,
        .inl ⟨_, rfl, _, _, rfl, rfl, (by decide : (0 : Int) < 2147483399), _, rfl, j, _, 1, 1, rfl, rfl, h1, rfl, ?_⟩⟩⟩
      refine ⟨_, rfl, _, _, _, _, rfl, rfl, SqL.of upd_same, at1 _ _ _, _, _, rfl, rfl, ⟨by decide, by decide⟩, .inl ⟨_, rfl, _, rfl, _, _, rfl, rfl, t0, ?_⟩⟩
      refine k _ _ (Int.emod_nonneg _ (by omega)) (Int.emod_lt_of_pos _ t0) (fun x o nx e => ?_) ⟨a, _, c + 1, upd_same, a0, Int.emod_nonneg _ (by decide), Int.emod_lt_of_pos _ (by decide), by omega, by omega⟩
      rw [upd_ne nx, upd_ne nx]
      exact e
theorem scOne : FnScope ["jar", "some"] ["jar", "some"] (defScope sOne) := ⟨rfl, rfl, rfl, by decide +kernel, rfl, by decide +kernel, by decide +kernel⟩
theorem ok_one {f fD : Addr} {fd fdD : FuncData} (F : Fun K "_law_one_of" "_law_one_of" sOne f fd) (T : TxJ mg) (FD : FnOk P w K mg base CX0 1 fD fdD ["jar", "top"] spDip) (mD : mg "_law_dip" = some (.ref fD)) (kD : PySem.W.keepIn K (.ref fD) = true) (bD : Binds K fdD ["jar", "top"] []) :
    FnOk P w K mg base CX0 2 f fd ["jar", "some"] (spOne K) := by
  refine F.ok scOne (fun vs H Q E h => ?_) (fun cdv A outer s H vs Q E hr h => ?_)
  · obtain ⟨j, p, xs, n, rfl, _⟩ := h
    rfl
  · obtain ⟨j, p, xs, n, rfl, npj, hp, hx, hl, hj, hn, k⟩ := h
    have sq : SqL K H p xs ∨ SqT K H p xs := hp.elim (fun z => .inl (SqL.of z)) (fun z => .inr (.inl z))
    refine ⟨_, pss_one (ps_ret (pe_ix ix_seq (pv 1) (pe_call FD hr rfl mD kD bD .nil pass0 (pa_cons (pv 0) (pa_cons (pe_callB call_len_seq (by rfl) T.len PySem.boot_len (pa_cons (pv 1) pa_nil)) pa_nil))) (fun _ _ => rfl))), ?_⟩
    refine ⟨_, rfl, _, rfl, _, rfl, p, xs, rfl, sq, j, _, n, rfl, ?_, ?_, hj, hn, fun r H' r0 r1 bt hj' => ?_⟩
    · have := List.length_pos_iff.mpr hx
      omega
    · omega
    · obtain ⟨i, rfl⟩ := Int.eq_ofNat_of_zero_le r0
      have hi : i < xs.length := by omega
      have ha : atI xs ((i : Nat) : Int) = some xs[i] := atI_nat (List.getElem?_eq_getElem hi)
      have kk := k xs[i] H' (List.getElem_mem hi) bt hj'
      rcases hp with z | z
      · exact .inl ⟨p, _, _, _, rfl, rfl, SqL.of (bt _ _ npj z), ha, kk⟩
      · exact .inr (.inl ⟨p, _, _, _, rfl, rfl, z.elim (fun z => .inl (.inl (bt _ _ npj z))) (fun ⟨o, z⟩ => .inl (.inr ⟨o, bt _ _ npj z⟩)), ha, kk⟩)
end
end KJ

set_option Elab.async false
set_option linter.all false
set_option maxRecDepth 100000
set_option maxHeartbeats 1000000
/-! ### written data, beside a jar; drawn told fractions -/
namespace KP
open PySem PySem.Spec PyProof.Rows L2 KX KT KJ
/-- the heap without the jar -/
def hid (j : Addr) (H : Hp) : Hp := fun b => if b = j then none else H b
theorem hid_ne {j b : Addr} {H : Hp} (h : b ≠ j) : hid j H b = H b := if_neg h
theorem hid_same (j : Addr) (H : Hp) : Same (hid j H) H := fun b o e => by
  by_cases c : b = j
  · rw [c] at e
    have : hid j H j = none := if_pos rfl
    rw [this] at e
    cases e
  · rw [hid_ne c] at e
    exact e
theorem hid_but {j : Addr} {H H' : Hp} (h : KJ.But j H H') : Same (hid j H) (hid j H') := fun b o e => by
  by_cases c : b = j
  · rw [c] at e
    have : hid j H j = none := if_pos rfl
    rw [this] at e
    cases e
  · rw [hid_ne c] at e ⊢
    exact h b o c e
theorem Thj.but {j : Addr} {H H' : Hp} {v : V} {d : PyData} (h : Th (hid j H) v d) (b : KJ.But j H H') : Th (hid j H') v d := h.mono (Sm.same (hid_but b))
theorem Thj.same {j : Addr} {H H' : Hp} {v : V} {d : PyData} (h : Th (hid j H) v d) (b : Same H H') : Th (hid j H') v d := Thj.but h (KJ.But.same b)
theorem ThAllj.same {j : Addr} {H H' : Hp} {v : List V} {d : List PyData} (h : ThAll (hid j H) v d) (b : Same H H') : ThAll (hid j H') v d := ThAll.mono (Sm.same (hid_but (KJ.But.same b))) h
theorem Thj.th {j : Addr} {H : Hp} {v : V} {d : PyData} (h : Th (hid j H) v d) : Th H v d := h.mono (Sm.same (hid_same j H))
/-- a written datum -/
def Lit (j : Addr) (t : TE) (σ : L2.St) (d : PyData) : Prop := ∀ H Q, H j ≠ none → (∀ v H', Same H H' → Th (hid j H') v d → Q v H') → t σ H Q
def LitA (j : Addr) (t : TA) (σ : L2.St) (ds : List PyData) : Prop := ∀ (H : Hp) (Q : List V → Hp → Prop), H j ≠ none → (∀ vs H', Same H H' → ThAll (hid j H') vs ds → Q vs H') → t σ H Q
section
variable {j : Addr} {σ : L2.St}
theorem same_ne {H H' : Hp} (h : Same H H') (e : H j ≠ none) : H' j ≠ none := by
  cases c : H j with
  | none => exact absurd c e
  | some o =>
    rw [h j o c]
    simp
theorem lit_int {i : Int} : Lit j (tC (.int i)) σ (.int i) := fun H Q _ q => q _ _ (Same.refl H) (.int i)
theorem lit_str {x : Str} : Lit j (tC (.str x)) σ (.str x) := fun H Q _ q => q _ _ (Same.refl H) (.str x)
theorem lit_bl {b : Bool} : Lit j (tC (.bl b)) σ (.bool b) := fun H Q _ q => q _ _ (Same.refl H) (.bl b)
theorem lit_non : Lit j (tC .non) σ .none := fun H Q _ q => q _ _ (Same.refl H) .non
theorem lit_neg {i : Int} : Lit j (tUn (rU fun i => .int (-i)) (tC (.int i))) σ (.int (-i)) := fun H Q _ q => ⟨i, rfl, q _ _ (Same.refl H) (.int (-i))⟩
theorem litA_nil : LitA j tNil σ [] := fun H Q _ q => q _ _ (Same.refl H) .nil
theorem litA_cons {te : TE} {ta : TA} {d : PyData} {ds : List PyData} (h : Lit j te σ d) (h2 : LitA j ta σ ds) : LitA j (tCons te ta) σ (d :: ds) := fun H Q n q =>
  h H _ n fun v H1 s1 t1 => h2 H1 _ (same_ne s1 n) fun vs H2 s2 t2 => q _ _ (s1.trans s2) (.cons (Thj.same t1 s2) t2)
theorem new_ne {H : Hp} {p : Addr} (hp : H p = none) (n : H j ≠ none) : p ≠ j := fun z => n (by rw [← z]; exact hp)
theorem lit_tup {ta : TA} {ds : List PyData} (h : LitA j ta σ ds) (hl : ds.length ≤ 1000) : Lit j (tTup ta) σ (.tuple ds) := fun H Q n q =>
  h H _ n fun vs H1 s1 t1 => ⟨Nat.le_trans (by rw [all2 t1]; exact hl) (by decide), fun p hp => by
    have sp := same_upd (o := .tup vs) hp
    have np := new_ne hp (same_ne s1 n)
    exact q _ _ (s1.trans sp) (.tup (by rw [hid_ne np]; exact upd_same) (ThAllj.same t1 sp))⟩
theorem lit_lst {ta : TA} {ds : List PyData} (h : LitA j ta σ ds) (hl : ds.length ≤ 1000) : Lit j (tLst ta) σ (.list ds) := fun H Q n q =>
  h H _ n fun vs H1 s1 t1 => ⟨Nat.le_trans (by rw [all2 t1]; exact hl) (by decide), fun p hp => by
    have sp := same_upd (o := .lst vs) hp
    have np := new_ne hp (same_ne s1 n)
    exact q _ _ (s1.trans sp) (.lst (by rw [hid_ne np]; exact upd_same) (ThAllj.same t1 sp))⟩
theorem lit_emp : Lit j tDNewK σ (.dict []) := fun H Q n q p hp => by
  have sp := same_upd (o := .dK []) hp
  have np := new_ne hp n
  exact q _ _ sp (.emp (by rw [hid_ne np]; exact upd_same))
theorem all_mem {H : Hp} : ∀ {xs : List V} {ds : List PyData} {x : V}, ThAll H xs ds → x ∈ xs → ∃ d ∈ ds, Th H x d
  | _ :: _, _ :: _, x, .cons a b, h => by
    rcases List.mem_cons.mp h with e | h
    · rw [e]
      exact ⟨_, List.mem_cons_self, a⟩
    · obtain ⟨d, hd, t⟩ := all_mem b h
      exact ⟨d, List.mem_cons_of_mem _ hd, t⟩
/-- one of a written list (or tuple) -/
theorem one_of {H : Hp} {Q : VK} {E : XK} {p : Addr} {d : PyData} {ds : List PyData} {n : Nat} {K : PySem.W.Frag} (t : Th (hid j H) (.ref p) d) (hd : d = .list ds ∨ d = .tuple ds) (h0 : ds ≠ []) (hl : ds.length ≤ 1000) (hj : JarAt H j n) (hn : n < 1000000)
    (k : ∀ x e H', e ∈ ds → Th (hid j H') x e → KJ.But j H H' → JarAt H' j (n + 1) → Q x H') : spOne K [.ref j, .ref p] H Q E := by
  have fin : ∀ xs : List V, ThAll (hid j H) xs ds → (H p = some (.lst xs) ∨ Rd H p (.tup xs)) → p ≠ j → spOne K [.ref j, .ref p] H Q E := fun xs ta hp np =>
    ⟨j, p, xs, n, rfl, np, hp, fun z => by
      have := all2 ta
      rw [z] at this
      exact h0 (List.length_eq_zero_iff.mp this.symm), by rw [all2 ta]; exact Nat.lt_of_le_of_lt hl (by decide), hj, hn, fun x H' hx b jr => by
      obtain ⟨e, he, te⟩ := all_mem ta hx
      exact k x e H' he (Thj.but te b) b jr⟩
  have np : ∀ {u : HO}, hid j H p = some u → p ≠ j ∧ H p = some u := fun {u} e => by
    refine ⟨fun z => ?_, hid_same j H _ _ e⟩
    rw [z, show hid j H j = none from if_pos rfl] at e
    cases e
  rcases hd with rfl | rfl
  · cases t with
    | lst e ta => exact fin _ ta (.inl (np e).2) (np e).1
  · cases t with
    | tup' e ta => exact fin _ ta (.inr ((hid_same j H).rd e)) (e.elim (fun e => (np e).1) fun ⟨_, e⟩ => (np e).1)
end
theorem jar_ne {H : Hp} {j : Addr} {n : Nat} (h : JarAt H j n) : H j ≠ none := by
  obtain ⟨a, b, c, e, _⟩ := h
  rw [e]
  simp
theorem jar_same {H H' : Hp} {j : Addr} {n : Nat} (h : JarAt H j n) (s : Same H H') : JarAt H' j n := by
  obtain ⟨a, b, c, e, r⟩ := h
  exact ⟨a, b, c, s _ _ e, r⟩
theorem jar_more {H : Hp} {j : Addr} {n m : Nat} (h : JarAt H j n) (hm : n ≤ m) : JarAt H j m := by
  obtain ⟨a, b, c, e, r0, r1, r2, r3, r4⟩ := h
  exact ⟨a, b, c, e, r0, r1, r2, r3, by omega⟩
end KP

set_option Elab.async false
set_option linter.all false
set_option maxRecDepth 100000
set_option maxHeartbeats 1000000
/-! ### readings that make data out of names; how wide data are -/
namespace KP
open PySem PySem.Spec PyProof.Rows L2 KX KT KJ
theorem ThAll.append {H : Hp} : ∀ {xs ys : List V} {ds es : List PyData}, ThAll H xs ds → ThAll H ys es → ThAll H (xs ++ ys) (ds ++ es)
  | _, _, _, _, .nil, b => b
  | _, _, _, _, .cons a t, b => .cons a (ThAll.append t b)
mutual
/-- the greatest length of a tuple or list within -/
def wid : PyData → Nat
  | .tuple ds => max ds.length (widAll ds)
  | .list ds => max ds.length (widAll ds)
  | _ => 0
def widAll : List PyData → Nat
  | [] => 0
  | d :: ds => max (wid d) (widAll ds)
end
theorem widAll_le {n : Nat} : ∀ {ds : List PyData}, (∀ d ∈ ds, wid d ≤ n) → widAll ds ≤ n
  | [], _ => by simp [widAll]
  | d :: ds, h => by
    simp only [widAll]
    have h1 := h d List.mem_cons_self
    have h2 := widAll_le (ds := ds) fun e he => h e (List.mem_cons_of_mem _ he)
    omega
theorem le_widAll : ∀ {ds : List PyData} {d : PyData}, d ∈ ds → wid d ≤ widAll ds
  | e :: ds, d, h => by
    simp only [widAll]
    rcases List.mem_cons.mp h with rfl | h
    · omega
    · have := le_widAll h
      omega
theorem wid_tup {n : Nat} {ds : List PyData} (hl : ds.length ≤ n) (h : ∀ d ∈ ds, wid d ≤ n) : wid (.tuple ds) ≤ n := by
  simp only [wid]
  have := widAll_le h
  omega
theorem wid_lst {n : Nat} {ds : List PyData} (hl : ds.length ≤ n) (h : ∀ d ∈ ds, wid d ≤ n) : wid (.list ds) ≤ n := by
  simp only [wid]
  have := widAll_le h
  omega
theorem wid_mem {ds : List PyData} {d : PyData} (h : d ∈ ds) : wid d ≤ wid (.tuple ds) := by
  simp only [wid]
  have := le_widAll h
  omega
theorem wid_len {ds : List PyData} : ds.length ≤ wid (.tuple ds) := by
  simp only [wid]
  omega
theorem wid_ith {d : PyData} {i : Nat} : wid (ith i d) ≤ wid d := by
  cases d with
  | tuple ds =>
    show wid (ds.getD i .none) ≤ _
    rw [List.getD_eq_getElem?_getD]
    cases e : ds[i]? with
    | none => simp [wid]
    | some a => exact wid_mem (List.mem_of_getElem? e)
  | _ => simp [ith, wid]
theorem lenT_wid {d : PyData} : lenT d ≤ wid d := by
  cases d with
  | tuple ds => exact wid_len
  | _ => simp [lenT]
/-- e makes the datum d, in heaps that have grown from H -/
def Mk (j : Addr) (t : TE) (σ : L2.St) (H : Hp) (d : PyData) : Prop := ∀ H1, Same H H1 → ∀ Q : VK, (∀ v H', Same H1 H' → Th (hid j H') v d → Q v H') → t σ H1 Q
def MkA (j : Addr) (t : TA) (σ : L2.St) (H : Hp) (ds : List PyData) : Prop := ∀ H1, Same H H1 → ∀ Q : List V → Hp → Prop, (∀ vs H', Same H1 H' → ThAll (hid j H') vs ds → Q vs H') → t σ H1 Q
section
variable {j : Addr} {σ : L2.St} {H : Hp}
theorem mk_lit {t : TE} {d : PyData} (hj : H j ≠ none) (h : Lit j t σ d) : Mk j t σ H d := fun H1 s Q q => h H1 Q (same_ne s hj) q
theorem mk_var {i : Nat} {v : V} {d : PyData} (h : σ[i]? = some (some v)) (t : Th (hid j H) v d) : Mk j (tVar i) σ H d := fun H1 s Q q => ⟨v, h, q v H1 (Same.refl H1) (Thj.same t s)⟩
theorem mkA_nil : MkA j tNil σ H [] := fun H1 s Q q => q _ _ (Same.refl H1) .nil
theorem mkA_cons {te : TE} {ta : TA} {d : PyData} {ds : List PyData} (h : Mk j te σ H d) (h2 : MkA j ta σ H ds) : MkA j (tCons te ta) σ H (d :: ds) := fun H1 s Q q =>
  h H1 s _ fun v H2 s2 t2 => h2 H2 (s.trans s2) _ fun vs H3 s3 t3 => q _ _ (s2.trans s3) (.cons (Thj.same t2 s3) t3)
theorem mk_tup {ta : TA} {ds : List PyData} (hj : H j ≠ none) (h : MkA j ta σ H ds) (hl : ds.length ≤ 1000) : Mk j (tTup ta) σ H (.tuple ds) := fun H1 s Q q =>
  h H1 s _ fun vs H2 s2 t2 => ⟨Nat.le_trans (by rw [all2 t2]; exact hl) (by decide), fun p hp => by
    have sp := same_upd (o := .tup vs) hp
    have np := new_ne hp (same_ne (s.trans s2) hj)
    exact q _ _ (s2.trans sp) (.tup (by rw [hid_ne np]; exact upd_same) (ThAllj.same t2 sp))⟩
theorem mk_catA {K : PySem.W.Frag} {ta tb : TE} {ds es : List PyData} (hj : H j ≠ none) (h1 : Mk j ta σ H (.tuple ds)) (h2 : Mk j tb σ H (.tuple es)) (hl : ds.length + es.length ≤ 1000) : Mk j (tOp (rCatA K) ta tb) σ H (.tuple (ds ++ es)) := fun H1 s Q q =>
  h1 H1 s _ fun v H2 s2 t2 => h2 H2 (s.trans s2) _ fun u H3 s3 t3 => by
    have t2' := Thj.same t2 s3
    have s23 := s2.trans s3
    cases t2' with
    | @tup' a xs _ e1 ta1 =>
      have t3' := t3
      cases t3 with
      | @tup' b ys _ e2 ta2 =>
        refine ⟨a, b, xs, ys, rfl, rfl, SqT.of ((hid_same j H3).rd e1), SqT.of ((hid_same j H3).rd e2), Nat.le_trans (by rw [all2 ta1, all2 ta2]; exact hl) (by decide), fun z => ?_, fun _ z => ?_, fun _ _ p hp => ?_⟩
        · subst z
          cases ta1
          exact q _ _ s23 t3'
        · subst z
          cases ta2
          rw [List.append_nil] at q
          exact q _ _ s23 (.tup' e1 ta1)
        · have sp := same_upd (o := .tup (xs ++ ys)) hp
          have np := new_ne hp (same_ne (s.trans s23) hj)
          exact q _ _ (s23.trans sp) (.tup (by rw [hid_ne np]; exact upd_same) (ThAllj.same (ThAll.append ta1 ta2) sp))
theorem mk_ret {te : TE} {D : Ends} {d : PyData} (h : Mk j te σ H d) (k : ∀ v H', Same H H' → Th (hid j H') v d → D.rt v H') : tRet te D σ H := h H (Same.refl H) _ k
end
end KP

set_option Elab.async false
set_option linter.all false
set_option maxRecDepth 100000
set_option maxHeartbeats 1000000
/-! ### slices -/
namespace KP
open PySem PySem.Spec PyProof.Rows L2 KX KT KJ
def cutD (ds : List PyData) (lo hi : Option Int) : List PyData := (ds.drop (HT.sIx ds.length 0 lo)).take (HT.sIx ds.length ds.length hi - HT.sIx ds.length 0 lo)
theorem ThAll.drop {H : Hp} : ∀ {xs : List V} {ds : List PyData} (i : Nat), ThAll H xs ds → ThAll H (xs.drop i) (ds.drop i)
  | _, _, 0, h => h
  | _, _, _ + 1, .nil => .nil
  | _, _, i + 1, .cons a b => ThAll.drop i b
theorem ThAll.cut {H : Hp} {xs : List V} {ds : List PyData} (h : ThAll H xs ds) (lo hi : Option Int) : ThAll H (cutV xs lo hi) (cutD ds lo hi) := by
  unfold cutV cutD
  rw [all2 h]
  exact (h.drop _).take _
theorem cutD_mem {ds : List PyData} {lo hi : Option Int} {d : PyData} (h : d ∈ cutD ds lo hi) : d ∈ ds := List.mem_of_mem_drop (List.mem_of_mem_take h)
theorem cutD_len {ds : List PyData} {lo hi : Option Int} : (cutD ds lo hi).length ≤ ds.length := by
  unfold cutD
  rw [List.length_take, List.length_drop]
  omega
theorem cutD_to {ds : List PyData} {k : Nat} : (cutD ds none (some (k : Int))).length ≤ k := by
  unfold cutD
  rw [HT.sIx_nat, List.length_take]
  omega
section
variable {j : Addr} {σ : L2.St} {H : Hp}
theorem mk_slice {K : PySem.W.Frag} {te : TE} {tl th : TO} {lo hi : Option Int} {ds : List PyData} (hj : H j ≠ none) (h : Mk j te σ H (.tuple ds)) (hl : ∀ H1 Q, Q lo H1 → tl σ H1 Q) (hh : ∀ H1 Q, Q hi H1 → th σ H1 Q) : Mk j (tSl (rSlA K) te tl th) σ H (.tuple (cutD ds lo hi)) := fun H1 s Q q =>
  h H1 s _ fun v H2 s2 t2 => hl _ _ (hh _ _ (by
    have t2' := t2
    cases t2 with
    | @tup' a xs _ e1 ta1 =>
      refine ⟨a, xs, rfl, SqT.of ((hid_same j H2).rd e1), fun z => ?_, fun _ p hp => ?_⟩
      · have e : cutD ds lo hi = ds := by
          unfold cutD
          rw [all2 ta1] at z
          rw [z.1, z.2]
          simp
        rw [e] at q
        exact q _ _ s2 t2'
      · have sp := same_upd (o := .tup (cutV xs lo hi)) hp
        have np := new_ne hp (same_ne (s.trans s2) hj)
        exact q _ _ (s2.trans sp) (.tup (by rw [hid_ne np]; exact upd_same) (ThAllj.same (ta1.cut lo hi) sp))))
theorem p_none {H1 : Hp} {Q : Option Int → Hp → Prop} (q : Q none H1) : tNoPart σ H1 Q := q
theorem p_int {te : TE} {i : Int} (h : ∀ H1, Vi te σ H1 (.int i)) {H1 : Hp} {Q : Option Int → Hp → Prop} (q : Q (some i) H1) : tPart te σ H1 Q := h H1 _ ⟨i, rfl, q⟩
end
end KP

set_option Elab.async false
set_option linter.all false
set_option maxRecDepth 100000
set_option maxHeartbeats 2000000
/-! ### more that makes data -/
namespace KP
open PySem PySem.Spec PyProof.Rows L2 KX KT KJ
section
variable {j : Addr} {σ : L2.St} {H : Hp}
theorem mk_vi {t : TE} {i : Int} (h : ∀ H1, Vi t σ H1 (.int i)) : Mk j t σ H (.int i) := fun H1 s Q q => h H1 _ (q _ _ (Same.refl H1) (.int i))
theorem thAll_ints {H : Hp} : ∀ l : List Int, ThAll H (l.map V.int) (l.map PyData.int)
  | [] => .nil
  | i :: l => .cons (.int i) (thAll_ints l)
theorem mk_rg {ta : TE} {n : Int} (hj : H j ≠ none) (h : ∀ H1, Vi ta σ H1 (.int n)) (h0 : 0 ≤ n) (h1 : n ≤ 1000) : Mk j (tTupRg (tRg1 ta)) σ H (.tuple (((List.range (n - 0).toNat).map fun i => (0 : Int) + (i : Nat)).map PyData.int)) := fun H1 s Q q => h H1 _
  ⟨n, rfl, RgOk.of_le (by decide) (by omega) (by decide) h0, fun p hp => by
    have sp := same_upd (o := .tup (rgV 0 n)) hp
    have np := new_ne hp (same_ne s hj)
    refine q _ _ sp (.tup (by rw [hid_ne np]; exact upd_same) ?_)
    have e : rgV 0 n = ((List.range (n - 0).toNat).map fun i => (0 : Int) + (i : Nat)).map V.int := by
      unfold rgV
      rw [List.map_map]
      rfl
    rw [e]
    exact thAll_ints _⟩
theorem mk_if {c : TT} {ta tb : TE} {b : Bool} {d e : PyData} (h : ∀ H1, Ti c σ H1 b) (h1 : Mk j ta σ H d) (h2 : Mk j tb σ H e) : Mk j (tIf c ta tb) σ H (if b = true then d else e) := fun H1 s Q q => h H1 _ (by
  cases b with
  | true => exact h1 H1 s Q q
  | false => exact h2 H1 s Q q)
end
end KP

set_option Elab.async false
set_option linter.all false
set_option maxRecDepth 100000
set_option maxHeartbeats 4000000
/-! ### set(a list of ints); t[::-1] of a tuple -/
namespace KS
open PySem PySem.Spec PyProof.Rows L2
section
variable {P : Program} {w : World} {A : Around} {E : Value → Shared → Prop} {s : Shared}
/-- a set object with nothing in it -/
abbrev eSet (w : World) : Obj := { cls := .type "set", dict := none, data := .set #[] 0 (.fresh 0 0 (!w.params.followText "set-order")) }
abbrev Grew (h h' : Heap) : Prop := ∀ b o, h.get? b = some o → h'.get? b = some o
/-- what set.__init__ leaves -/
abbrev Made (w : World) (ns : List Int) (s : Shared) (r : Value) (z : Shared) : Prop :=
  r = .none ∧ ∃ g t n, z = { s with heap := g, toks := t } ∧ SetR w g s.heap.objs.size (fun j => decide (j ∈ ns)) n ∧ n ≤ ns.length ∧ Grew s.heap g
set_option maxHeartbeats 8000000 in
theorem set_of_list {a : Addr} {us : Array Value} (ns : List Int) {Q : Value → Shared → Prop} (hn : A.handled = none) (la : s.heap.IsList a us) (iu : IntsAre us.toList ns) (few : ns.length + 1 < scanBound)
    (q : ∀ (g : Heap) (t n : Nat), SetR w g s.heap.objs.size (fun j => decide (j ∈ ns)) n → n ≤ ns.length → Grew s.heap g → Q (.ref s.heap.objs.size) { s with heap := g, toks := t }) :
    wpAny (model P w) A (call (.type "set") [.ref a]) Q E s := by
  have us_len : us.size = ns.length := (Array.length_toList (xs := us)).symm.trans iu.length
  obtain ⟨_, _, hmro⟩ := F.called_set.mro
  have m0 := F.called_set.made
  have m1 := F.called_set.sub
  refine wpAny_call (codeAny_of_tree ?_)
  show wpAny _ _ (callAny (.type "set") _) _ _ _
  refine wpAny_pure ⟨Code.quiet_builtin _ (by decide +kernel), codeAny_builtin F.entry_type_call ?_⟩
  rw [Around.under_plain (weight_type_call_type "set" [.ref a] []) rfl]
  have m2 := F.called_set.notType
  have m3 := F.called_set.canCreate
  have m4 := F.typeCall_set_1 (.ref a)
  repeat (any_goals (first | assumption | wp_step))
  refine codeAny_mono (code_set_led1 (.ref a) (E := E) (Q₁ := fun x z => x = .ref s.heap.objs.size ∧ z = { s with heap := s.heap.push (eSet w) }) ⟨rfl, rfl⟩) fun r s₁ hr => ?_
  rcases r with e | (_ | _ | _ | x)
  · exact hr
  · exact hr.elim
  · exact hr.elim
  · exact hr.elim
  obtain ⟨rfl, rfl⟩ := hr
  have gS : (s.heap.push (eSet w)).get? s.heap.objs.size = some (eSet w) := Heap.get?_push_size _ rfl
  have tS : Shared.TypeIs { s with heap := s.heap.push (eSet w) } (.ref s.heap.objs.size) "set" := ⟨_, gS, rfl⟩
  have m5 := F.called_set.init.lookup
  have m6 := F.called_set.init.bind (.ref s.heap.objs.size)
  repeat (any_goals (first | assumption | wp_step))
  refine codeAny_mono (codeAny_call_builtin (R := wants (Made w ns s) E) F.called_set.init.plain F.entry_set_init (check_set_init_1 tS ?_)) fun r2 s2 hr2 => ?_
  · obtain ⟨⟨lc, ld, lda, lsl⟩, gl, lcls, nl, ldat⟩ := la
    simp only at lcls ldat
    subst lcls; subst ldat
    have gl1 : (s.heap.push (eSet w)).get? a = some { cls := .type "list", dict := ld, data := .seq us nl, slots := lsl } := Heap.get?_push_of_some _ gl
    have f1 := F.sub_list_set
    have f2 := F.sub_list_frozenset
    have f3 : (Value.type "list" == Value.type "dict") = false := by decide
    have la1 : (s.heap.push (eSet w)).IsList a us := ⟨_, gl1, rfl, nl, rfl⟩
    unfold Builtin.«set.__init__» noKeywords Builtin.Frozenset.updateFrom
    generalize kept : pyIter = it
    wp_walk
    subst kept
    refine wpAny_pyIter_list la1 (wpAny_bind (wpAny_runValue ?_))
    have lt : a < s.heap.objs.size := Heap.lt_size gl
    have sz : (s.heap.push (eSet w)).objs.size = s.heap.objs.size + 1 := Heap.size_push ..
    have n1 : a ≠ (s.heap.push (eSet w)).objs.size := by rw [sz]; exact Nat.ne_of_lt (Nat.lt_succ_of_lt lt)
    have n2 : s.heap.objs.size ∉ [(s.heap.push (eSet w)).objs.size, a] := by
      rw [sz]
      simp only [List.mem_cons, List.not_mem_nil, or_false, not_or]
      exact ⟨Nat.ne_of_lt (Nat.lt_succ_self _), Nat.ne_of_gt lt⟩
    have at' : ∀ (i : Nat) (v : Value), us[i]? = some v → ∃ k t, ns[i]? = some k ∧ v = .int k t := fun i v hv => by
      have hi : i < ns.length := by rw [← us_len]; exact (Array.getElem?_eq_some_iff.mp hv).1
      obtain ⟨t, e⟩ := IntsAre.int_at iu i v (by rw [Array.getElem?_toList]; exact hv)
      refine ⟨ns[i], t, List.getElem?_eq_getElem hi, e.trans ?_⟩
      rw [List.getD_eq_getElem?_getD, List.getElem?_eq_getElem hi] <;> rfl
    refine set_update_ints ((Walks.list (by simp [hn]) _ a n1 us).toS) s.heap.objs.size n2 ns us_len few at' (us.size - 0) 0 _ (by omega) (Nat.zero_le _)
      ⟨⟨_, Heap.get?_push_size _ rfl, rfl, rfl⟩, (la1.push _)⟩ ⟨0, Nat.le_refl 0, setR_new_at (Heap.get?_push_of_some _ gS)⟩ fun z n mv hz hR => ?_
    obtain ⟨g, gg, dd, tk, oo⟩ := z
    obtain rfl : gg = s.gens := mv.gens
    obtain rfl : dd = s.drawn := mv.drawn
    obtain rfl : oo = s.os := mv.os
    refine wpAny_pure ?_
    show wpAny _ _ (ret Value.none) _ _ _
    rw [us_len] at hz
    refine wpAny_pure ⟨rfl, g, tk, n, rfl, hR, hz, fun b o e => mv.heap b o ?_ (Heap.get?_push_of_some _ (Heap.get?_push_of_some _ e))⟩
    have hb : b < s.heap.objs.size := Heap.lt_size e
    simp only [List.mem_cons, List.not_mem_nil, or_false, not_or]
    exact ⟨Nat.ne_of_lt hb, by rw [sz]; exact Nat.ne_of_lt (Nat.lt_succ_of_lt hb)⟩
  · rcases r2 with e | (_ | _ | _ | x)
    · exact hr2
    · exact hr2.elim
    · exact hr2.elim
    · exact hr2.elim
    obtain ⟨rfl, g, tk, n, rfl, hR, hz, gr⟩ := hr2
    repeat (any_goals (first | assumption | wp_step))
    exact q _ _ _ hR hz gr
end
section
variable {X : Cx}
/-- set(xs), xs a list of ints -/
def rSetL (K : PySem.W.Frag) (w : World) : List V → Hp → VK → Prop := fun vs H Q => ∃ (a : Addr) (ns : List Int), vs = [.ref a] ∧ SqL K H a (ns.map V.int) ∧ ns.length ≤ 1000 ∧
  ∀ p n, H p = none → n ≤ ns.length → Q (.ref p) (upd H p (SetO w p (fun j => decide (j ∈ ns)) n))
theorem cr_setL (hc : X.calm = true) : CallR X (.type "set") (rSetL X.K X.w) := by
  intro pins s σ H vs us Q I r h
  obtain ⟨a, ns, rfl, hs, hl, q⟩ := h
  rw [Vals.ref1 r]
  obtain ⟨its, rv, pl, hz⟩ := I.list hs
  refine set_of_list ns (I.ok.hd hc) pl.isList (by simpa using intsAre_of rv) (by unfold scanBound; omega) fun g t n R hn gr => ?_
  exact ⟨.ref _, upd H s.heap.objs.size (SetO X.w s.heap.objs.size (fun j => decide (j ∈ ns)) n), I.laid (t' := t) (fun b u e => gr b u e) (Nat.le_refl _) (setO_new R), rfl, q _ _ (I.hok.fresh (Nat.le_refl _)) hn⟩
end

/-! ### t[::-1] -/
section
variable {prog : Program} {w : World} {A : Around} {E : Value → Shared → Prop} {s : Shared}
open HT
theorem adj_rev (n : Nat) : Builtin.Slice.sliceAdjust none none (-1) (n : Int) = ((n : Int) - 1, -1) := by
  unfold Builtin.Slice.sliceAdjust
  simp
theorem places_rev (n : Nat) : Builtin.Slice.slicePlaces ((n : Int) - 1) (-1) (-1) = n := by
  unfold Builtin.Slice.slicePlaces
  have h1 : ¬ ((-1 : Int) > 0) := by omega
  rw [if_neg h1]
  split
  · rw [show (- -1 : Int) = 1 by decide, Int.ediv_one]
    omega
  · omega
theorem applied_rev {sl : Addr} {n : Nat} {u : Tok} {Q : Int × Int × Nat → Shared → Prop} (hs : s.heap.IsSliceOf sl .none .none (.int (-1) u)) (h : Q ((n : Int) - 1, -1, n) s) :
    wpAny (model prog w) A (Builtin.Slice.sliceApplied (.ref sl) (pure (n : Int))) Q E s := by
  obtain ⟨so, hso, _, hf⟩ := id hs
  unfold Builtin.Slice.sliceApplied Builtin.Slice.sliceFields
  refine wpAny_bind (wpAny_bind (wpAny_field hso hf (x := .none) rfl (wpAny_bind (wpAny_field hso hf (x := .none) rfl (wpAny_bind (wpAny_field hso hf (x := .int (-1) u) rfl (wpAny_pure ?_)))))))
  refine wpAny_bind (slicePart_int ?_)
  show wpAny _ _ (if ((-1 : Int) == 0) = true then _ else _) _ _ s
  rw [if_neg (by decide)]
  refine wpAny_bind (slicePart_none (wpAny_bind (slicePart_none (wpAny_bind (wpAny_pure ?_)))))
  show wpAny _ _ (match Builtin.Slice.sliceAdjust none none (-1) (n : Int) with | (lo, hi) => pure (lo, (-1 : Int), Builtin.Slice.slicePlaces lo hi (-1))) _ _ s
  rw [adj_rev n]
  show wpAny _ _ (pure ((n : Int) - 1, (-1 : Int), Builtin.Slice.slicePlaces ((n : Int) - 1) (-1) (-1))) _ _ s
  rw [places_rev]
  exact wpAny_pure h
theorem fm_congr {α β : Type} {f g : α → Option β} : ∀ {l : List α}, (∀ x ∈ l, f x = g x) → l.filterMap f = l.filterMap g
  | [], _ => rfl
  | x :: l, h => by rw [List.filterMap_cons, List.filterMap_cons, h x List.mem_cons_self, fm_congr (l := l) fun y hy => h y (List.mem_cons_of_mem _ hy)]
theorem pick_rev (xs : Array Value) : ((List.range xs.size).filterMap fun (k : Nat) => xs[((xs.size : Int) - 1 + (k : Int) * (-1)).toNat]?).toArray = xs.toList.reverse.toArray := by
  have e : (List.range xs.size).filterMap (fun (k : Nat) => xs[((xs.size : Int) - 1 + (k : Int) * (-1)).toNat]?) = ((List.range xs.size).map fun k => xs.size - 1 - k).filterMap (xs[·]?) := by
    rw [List.filterMap_map]
    refine fm_congr fun k hk => ?_
    have := List.mem_range.mp hk
    show xs[((xs.size : Int) - 1 + (k : Int) * (-1)).toNat]? = xs[xs.size - 1 - k]?
    congr 1
    omega
  rw [e, PySem.W.krv_range, List.filterMap_reverse, PySem.W.krv_all]
theorem rev_tup {t sl : Addr} {us : Array Value} {u : Tok} {Q : Value → Shared → Prop} (ht : IsTup s.heap t us) (hs : s.heap.IsSliceOf sl .none .none (.int (-1) u)) (hz : us.size ≤ sizeLine)
    (h : Q (.ref s.heap.objs.size) { s with heap := s.heap.push { cls := .type "tuple", data := .seq us.toList.reverse.toArray } }) : wpAny (model prog w) A (getItem (.ref t) (.ref sl)) Q E s := by
  have ok : sizeOk (.seq us.toList.reverse.toArray) := by
    show us.toList.reverse.toArray.size ≤ sizeLine
    rw [List.size_toArray, List.length_reverse, Array.length_toList]
    exact hz
  obtain ⟨so, hso, hsc, _⟩ := id hs
  have tS : s.TypeIs (.ref sl) "slice" := ⟨so, hso, hsc⟩
  unfold getItem
  try with_reducible refine wpAny_holding ?_
  first | refine wpAny_bind (wpAny_pure ?_) | skip
  refine wpAny_bind (wpAny_sequenceKey ht.typeIs (by decide) ?_)
  refine wpAny_bind (wpAny_callSpecial?_slot (name := Str.ofString "__getitem__") ht.typeIs PyProof.Rows.slot_tuple_getitem (wpAny_call_entry PyProof.Rows.slot_tuple_getitem ht.typeIs entry_tuple_getitem ?_ (args_tuple_getitem _ _)))
  show wpAny _ _ (Builtin.Tuple.tupleItemsOf (.ref t) >>= _) _ _ s
  refine wpAny_bind (tupleItemsOf_ ht (wpAny_bind (wpAny_typeOf tS ?_)))
  rw [if_pos (by decide)]
  refine wpAny_bind (applied_rev hs ?_)
  have no : ¬ (((us.size : Int) - 1 == 0 && (-1 : Int) == 1 && us.size == us.size) = true) := by
    rw [show ((-1 : Int) == 1) = false by decide, Bool.and_false, Bool.false_and]
    exact Bool.false_ne_true
  show wpAny _ _ (if ((us.size : Int) - 1 == 0 && (-1 : Int) == 1 && us.size == us.size) = true then _ else _) _ _ s
  rw [if_neg no, pick_rev]
  first
    | exact wpAny_bind (m := Builtin.Tuple.tupleExact _) (wpAny_newObj_type (wpAny_pure ⟨_, rfl, wpAny_pure h⟩) ok)
    | exact wpAny_bind (m := Builtin.Tuple.tupleExact _) (wpAny_newObj_type (wpAny_bind (wpAny_pure (wpAny_pure ⟨_, rfl, wpAny_pure h⟩))) ok)
    | exact wpAny_bind (wpAny_bind (m := Builtin.Tuple.tupleExact _) (wpAny_newObj_type (wpAny_pure (wpAny_pure ⟨_, rfl, wpAny_pure h⟩)) ok))
    | exact wpAny_bind (wpAny_bind (m := Builtin.Tuple.tupleExact _) (wpAny_newObj_type (wpAny_pure ⟨_, rfl, wpAny_pure h⟩) ok))
end
section
variable {X : Cx}
def tRevT (K : PySem.W.Frag) (te : TE) : TE := fun σ H Q => te σ H fun x H1 => ∃ a xs, x = .ref a ∧ SqT K H1 a xs ∧ ∀ p, H1 p = none → Q (.ref p) (upd H1 p (.tup xs.reverse))
theorem pe_revT {e : Expr} {te : TE} {k : Nat} {p1 p2 p3 pos : Pos} (he : PE X e te) : PE X (.Subscript e (.Slice none none (some (.UnaryOp .USub (.Constant (.int 1) k p1) p2)) p3) pos) (tRevT X.K te) := by
  refine ⟨fun pins s σ H Q I h => Subscript_ (thn (he.run pins s σ H _ I h) fun v s1 ⟨x, H1, I1, r1, q1⟩ => ?_)⟩
  obtain ⟨a, xs, rfl, hx, q⟩ := q1
  cases r1
  have st : PO X (some (.UnaryOp .USub (.Constant (.int 1) k p1) p2)) (tPart (tUn (rU fun i => .int (-i)) (tC (.int 1)))) := po_some (pe_un un_neg pe_int)
  refine wpAny_Slice (thn (po_none.run pins s1 σ H1 (fun o G => o = none ∧ G = H1) I1 ⟨rfl, rfl⟩) fun vl s2 ⟨l, H2, I2, pl, el, e2⟩ => ?_)
  subst el e2
  refine thn (po_none.run pins s2 σ H2 (fun o G => o = none ∧ G = H2) I2 ⟨rfl, rfl⟩) fun vu s3 ⟨u, H3, I3, pu, eu, e3⟩ => ?_
  subst eu e3
  refine thn (st.run pins s3 σ H3 (fun o G => o = some (-1) ∧ G = H3) I3 ⟨1, rfl, -1, rfl, rfl, rfl⟩) fun vs s4 ⟨o, H4, I4, ps, eo, e4⟩ => ?_
  subst eo e4
  cases pl
  cases pu
  cases ps with
  | int _ tk =>
    have I5 : Inv X pins σ H4 { s4 with heap := s4.heap.push { cls := .type "slice", data := .fields #[.none, .none, .int (-1) tk] } } := I4.kept (t' := s4.toks) fun b ob q => Heap.get?_push_of_some _ q
    obtain ⟨its, r, ht, hz⟩ := I5.tuple hx
    have hlen := r.length
    show wpAny (model X.prog X.w) X.A (subscriptTail e (.Slice none none (some (.UnaryOp .USub (.Constant (.int 1) k p1) p2)) p3) (.ref a) (.ref s4.heap.objs.size)) (EP X pins σ Q) X.xe { s4 with heap := s4.heap.push { cls := .type "slice", data := .fields #[.none, .none, .int (-1) tk] } }
    refine tail_any (ops := [.ref a, .ref s4.heap.objs.size]) ht.typeIs PyProof.Rows.slot_tuple_getitem.lookup ?_ (by with_unfolding_all rfl)
    refine rev_tup ht (Heap.IsSliceOf.new _ .none .none (.int (-1) tk)) (by rw [List.size_toArray, ← hlen]; exact hz) ?_
    refine ⟨.ref _, _, I5.laid (t' := s4.toks) (o := .tup xs.reverse) (fun b ob q => Heap.get?_push_of_some _ q) (Nat.le_refl _) ?_, rfl, q _ (I5.hok.fresh (Nat.le_refl _))⟩
    exact ⟨by rw [List.length_reverse]; exact hz, _, r.reverse, IsTup.new _ _⟩
end
end KS

set_option Elab.async false
set_option linter.all false
set_option maxRecDepth 100000
set_option maxHeartbeats 2000000
/-! ### zip(tuple, list); t * 1 -/
namespace MZ
open PySem PySem.Spec PyProof.Rows L2
abbrev G1 (h : Heap) (o1 : Obj) : Heap := h.push o1
abbrev G2 (h : Heap) (o1 o2 : Obj) : Heap := (G1 h o1).push o2
abbrev G3 (h : Heap) (o1 o2 : Obj) : Heap := (G2 h o1 o2).push { cls := .type "tuple", data := .seq #[.ref h.objs.size, .ref (G1 h o1).objs.size] }
abbrev G4 (h : Heap) (o1 o2 : Obj) : Heap := (G3 h o1 o2).push { cls := .type "tuple", data := .seq #[.none, .none] }
abbrev G5 (h : Heap) (o1 o2 : Obj) : Heap := (G4 h o1 o2).push { cls := .type "zip", data := .fields #[.none, .bool false, .bool false, .ref (G2 h o1 o2).objs.size, .ref (G3 h o1 o2).objs.size] }
theorem meets_zipB {v1 v2 : Value} {o1 o2 : Obj} {H1 H2 : Heap → Prop} (B1 : Begins v1 o1 H1) (B2 : Begins v2 o2 H2) :
    Meets (Builtin.«zip.__new__» ⟨[.type "zip", v1, v2], []⟩) (fun _ R s => H1 s.heap ∧ H2 s.heap ∧ R (.ok (.ret (.ref (G4 s.heap o1 o2).objs.size))) { s with heap := G5 s.heap o1 o2 }) :=
  .of_wp fun prog w A R s h => by
    obtain ⟨hp, g, d, tk, os⟩ := s
    obtain ⟨h1, h2, h⟩ := h
    have hsub := sub_zip
    have p1 : ∀ {A' : Around} {E : Value → Shared → Prop} {Q : Value → Shared → Prop}, Q (.ref hp.objs.size) ⟨hp.push o1, g, d, tk, os⟩ → wpAny (model prog w) A' (pyIter v1) Q E ⟨hp, g, d, tk, os⟩ := fun q => B1.iter prog w _ _ ⟨hp, g, d, tk, os⟩ _ h1 q
    have p2 : ∀ {A' : Around} {E : Value → Shared → Prop} {Q : Value → Shared → Prop}, Q (.ref (hp.push o1).objs.size) ⟨(hp.push o1).push o2, g, d, tk, os⟩ → wpAny (model prog w) A' (pyIter v2) Q E ⟨hp.push o1, g, d, tk, os⟩ := fun q =>
      B2.iter prog w _ _ ⟨hp.push o1, g, d, tk, os⟩ _ (B2.keeps _ _ h2 fun b o' e => Heap.get?_push_of_some _ e) q
    wp_walk using p1, p2
    exact ⟨_, rfl, h⟩
section
variable {prog : Program} {w : World} {A : Around} {E : Value → Shared → Prop} {s : Shared}
theorem call_zipB {v1 v2 : Value} {o1 o2 : Obj} {H1 H2 : Heap → Prop} {Q : Value → Shared → Prop} (B1 : Begins v1 o1 H1) (B2 : Begins v2 o2 H2) (q1 : H1 s.heap) (q2 : H2 s.heap)
    (h : ∀ h', IsZip h' (s.heap.objs.size + 4) (s.heap.objs.size + 2) (s.heap.objs.size + 3) .none → IsTupOf2 h' (s.heap.objs.size + 2) (.ref s.heap.objs.size) (.ref (s.heap.objs.size + 1)) → IsTupOf2 h' (s.heap.objs.size + 3) .none .none →
      h'.get? s.heap.objs.size = some o1 → h'.get? (s.heap.objs.size + 1) = some o2 → (∀ c o, s.heap.get? c = some o → h'.get? c = some o) → Q (.ref (s.heap.objs.size + 4)) { s with heap := h' }) :
    wpAny (model prog w) A (call (.type "zip") [v1, v2]) Q E s := by
  refine callType_new F.called_zip (by decide) (F.typeCall_zip_2 _ _) (F.newCall_zip_2 _ _) (fun obj => F.args_object_init_3 obj _ _) F.entry_zip_new (meets_zipB B1 B2) ⟨q1, q2, ?_⟩
  have s1 : (G1 s.heap o1).objs.size = s.heap.objs.size + 1 := Heap.size_push ..
  have s2 : (G2 s.heap o1 o2).objs.size = s.heap.objs.size + 2 := by rw [Heap.size_push, s1]
  have s3 : (G3 s.heap o1 o2).objs.size = s.heap.objs.size + 3 := by rw [Heap.size_push, s2]
  have s4 : (G4 s.heap o1 o2).objs.size = s.heap.objs.size + 4 := by rw [Heap.size_push, s3]
  have r5 : (G5 s.heap o1 o2).get? (G4 s.heap o1 o2).objs.size = some _ := Heap.get?_push_size _ rfl
  have r4 : (G5 s.heap o1 o2).get? (G3 s.heap o1 o2).objs.size = some _ := Heap.get?_push_of_some _ (Heap.get?_push_size _ rfl)
  have r3 : (G5 s.heap o1 o2).get? (G2 s.heap o1 o2).objs.size = some _ := Heap.get?_push_of_some _ (Heap.get?_push_of_some _ (Heap.get?_push_size _ rfl))
  have r2 : (G5 s.heap o1 o2).get? (G1 s.heap o1).objs.size = some _ := Heap.get?_push_of_some _ (Heap.get?_push_of_some _ (Heap.get?_push_of_some _ (Heap.get?_push_size _ B2.free)))
  have r1 : (G5 s.heap o1 o2).get? s.heap.objs.size = some _ := Heap.get?_push_of_some _ (Heap.get?_push_of_some _ (Heap.get?_push_of_some _ (Heap.get?_push_of_some _ (Heap.get?_push_size _ B1.free))))
  show _ ∧ _
  rw [s2, s3, s4] at r5
  rw [s1, s2] at r3
  rw [s3] at r4
  rw [s1] at r2
  rw [s4]
  exact ⟨⟨_, r5, rfl⟩, h _ r5 r3 r4 r1 r2 fun c o x => Heap.get?_push_of_some _ (Heap.get?_push_of_some _ (Heap.get?_push_of_some _ (Heap.get?_push_of_some _ (Heap.get?_push_of_some _ x))))⟩
end
/-- a tuple and a list, in new pairs -/
def ItzM (K : PySem.W.Frag) (a b : Addr) : It :=
  ⟨fun i H => ∃ (xs ys : List V) (x y : V), SqT K H a xs ∧ SqL K H b ys ∧ xs[i]? = some x ∧ ys[i]? = some y,
    fun i H v H' => ∃ T x y, v = .ref T ∧ H T = none ∧ H' = upd H T (.tup [x, y]) ∧ (∀ xs, SqT K H a xs → xs[i]? = some x) ∧ ∀ ys, SqL K H b ys → ys[i]? = some y,
    fun i H => ∃ xs ys : List V, SqT K H a xs ∧ SqL K H b ys ∧ i ≤ xs.length ∧ i ≤ ys.length ∧ (i = xs.length ∨ i = ys.length)⟩
structure Ap (z TI TO i1 i2 a b : Addr) : Prop where
  sep : ZipSep2 z TI TO i1 i2 [i1, a] [i2, b]
  n1 : a ≠ i1
  n2 : b ≠ i2
theorem turn_zipM {P : Program} {w : World} {K : PySem.W.Frag} {elts : List Expr} {kk : Nat} {tpos : Pos} {a b z TI TO i1 i2 : Addr} (D : Ap z TI TO i1 i2 a b) :
    Turn P w K (.Tuple elts kk tpos) (ItzM K a b) [z, TI, TO, i1, i2] z (fun i h => IsZip h z TI TO .none ∧ IsTupOf2 h TI (.ref i1) (.ref i2) ∧ (∃ x y, IsTupOf2 h TO x y) ∧ h.IsTupleIter i1 a i ∧ h.IsListIter i2 b i) where
  mem := by simp
  obj := fun i h st c hc => by
    obtain ⟨hz, hI, ⟨x, y, hO⟩, ⟨o1, e1, _, d1⟩, ⟨o2, e2, _, d2⟩⟩ := st
    simp only [List.mem_cons, List.not_mem_nil, or_false] at hc
    rcases hc with rfl | rfl | rfl | rfl | rfl
    · exact ⟨_, hz, fun v q => nomatch q⟩
    · exact ⟨_, hI, fun v q => nomatch q⟩
    · exact ⟨_, hO, fun v q => nomatch q⟩
    · exact ⟨o1, e1, fun v q => by rw [d1] at q; cases q⟩
    · exact ⟨o2, e2, fun v q => by rw [d2] at q; cases q⟩
  keep := fun i h h' st k => by
    obtain ⟨hz, hI, ⟨x, y, hO⟩, h1, h2⟩ := st
    exact ⟨k z (by simp) _ hz, k TI (by simp) _ hI, ⟨x, y, k TO (by simp) _ hO⟩, h1.at fun o q => k i1 (by simp) o q, h2.at fun o q => k i2 (by simp) o q⟩
  item := by
    intro X hP hw hK hc i pins s σ H E I hf st hg
    subst hP hw hK
    obtain ⟨hz, hI, ⟨x0, y0, hO⟩, h1, h2⟩ := st
    obtain ⟨xs, ys, x, y, hqx, hqy, hx, hy⟩ := hg
    obtain ⟨its, rv, p, _⟩ := I.tuple hqx
    obtain ⟨its2, rv2, p2, _⟩ := I.list hqy
    obtain ⟨u, hu, ru⟩ := rv.get hx
    obtain ⟨u2, hu2, ru2⟩ := rv2.get hy
    have hzl : z < s.heap.objs.size := Heap.lt_size hz
    have hi1 : i < its.toArray.size := by simpa using (List.getElem?_eq_some_iff.mp hu).1
    have hi2 : i < its2.toArray.size := by simpa using (List.getElem?_eq_some_iff.mp hu2).1
    have pt : s.heap.IsTuple a its.toArray := p
    refine wpAny_pyNext_zipD2_item D.sep (Draws.tuple (A := X.A.in1) (I.ok.hd hc) i1 a D.n1 its.toArray) (Draws.list (A := X.A.in1) (I.ok.hd hc) i2 b D.n2 its2.toArray) hz hI hO ⟨h1, pt⟩ ⟨h2, p2.isList⟩ hi1 hi2 fun w1 w2 h' tk y1 y2 z' O' st1 st2 hT hsz hk => ?_
    obtain rfl : u = w1 := by
      have e : its[i]? = some w1 := by simpa using y1
      rw [hu] at e
      exact Option.some.inj e
    obtain rfl : u2 = w2 := by
      have e : its2[i]? = some w2 := by simpa using y2
      rw [hu2] at e
      exact Option.some.inj e
    refine ⟨_, rfl, wpAny_letOwnedTupleGo_zip (s := { s with heap := h', toks := tk }) z' fun h'' z'' sb => ?_⟩
    have hT2 : h''.get? s.heap.objs.size = some { cls := .type "tuple", data := .seq #[u, u2] } := (sb.2 _ (Nat.ne_of_gt hzl)).trans hT
    have new : ObjOk X.prog X.w (upd H s.heap.objs.size (.tup [x, y])) h'' s.heap.objs.size (.tup [x, y]) := ⟨by show 2 ≤ sizeLine; decide, [u, u2], .cons ru (.cons ru2 .nil), ⟨_, hT2, rfl, _, rfl⟩⟩
    have I1 : Inv X pins σ (upd H s.heap.objs.size (.tup [x, y])) { s with heap := h'', toks := tk } :=
      I.turnedNew (ch := [z, TI, TO, i1, i2]) (fun c o hb q => (sb.2 c (fun q' => hb (by simp [q']))).trans (hk c o (fun q' => hb (by simp [q'])) (fun q' => hb (by simp [q'])) (fun q' => hb (by simp [q'])) (fun q' => hb (by simp [q'])) q)) hf (Nat.le_refl _) new
    have m1 : i1 ≠ z := fun e => D.sep.zf1 (by simp [e])
    have m2 : i2 ≠ z := fun e => D.sep.zf2 (by simp [e])
    refine ⟨.ref s.heap.objs.size, _, I1, rfl, ⟨_, x, y, rfl, I.hok.fresh (Nat.le_refl _), rfl, fun l hl => by rw [I.tuple_inj hl hqx]; exact hx, fun l hl => by rw [I.list_inj hl hqy]; exact hy⟩, ⟨z'', ?_, ⟨u, u2, ?_⟩, ?_, ?_⟩, fun c hcm => ?_⟩
    · exact (sb.2 _ D.sep.TIz).trans (hk _ _ D.sep.TIz D.sep.TITO D.sep.TIi1 D.sep.TIi2 hI)
    · exact (sb.2 _ D.sep.TOz).trans O'
    · exact st1.1.at fun o q => (sb.2 _ m1).trans q
    · exact st2.1.at fun o q => (sb.2 _ m2).trans q
    · have hlt : c < s.heap.objs.size := by
        simp only [List.mem_cons, List.not_mem_nil, or_false] at hcm
        rcases hcm with rfl | rfl | rfl | rfl | rfl
        · exact hzl
        · exact Heap.lt_size hI
        · exact Heap.lt_size hO
        · obtain ⟨_, e1, _⟩ := h1; exact Heap.lt_size e1
        · obtain ⟨_, e2, _⟩ := h2; exact Heap.lt_size e2
      rw [upd_ne (Nat.ne_of_lt hlt)]
      exact (hf c hcm).1
  done := by
    intro X hP hw hK hc i pins s σ H E I hf st hg
    subst hP hw hK
    obtain ⟨hz, hI, ⟨x0, y0, hO⟩, h1, h2⟩ := st
    obtain ⟨xs, ys, hqx, hqy, hl1, hl2, hend⟩ := hg
    obtain ⟨its, rv, p, _⟩ := I.tuple hqx
    obtain ⟨its2, rv2, p2, _⟩ := I.list hqy
    have l1 := rv.length
    have l2 := rv2.length
    have pt : s.heap.IsTuple a its.toArray := p
    refine wpAny_pyNext_zipD2_end D.sep (Draws.tuple (A := X.A.in1) (I.ok.hd hc) i1 a D.n1 its.toArray) (Draws.list (A := X.A.in1) (I.ok.hd hc) i2 b D.n2 its2.toArray) hz hI hO ⟨h1, pt⟩ ⟨h2, p2.isList⟩ (by simp; omega) (by simp; omega) (by simp; omega) fun h' tk hk => ?_
    exact ⟨rfl, I.turnedL (t' := tk) (ch := [z, TI, TO, i1, i2]) (fun c o hb q => hk c o (fun q' => hb (by simp [q'])) (fun q' => hb (by simp [q'])) (fun q' => hb (by simp [q'])) (fun q' => hb (by simp [q'])) q) hf⟩
  self := fun A i s Q E st h => wpAny_pyIter_zip st.1 h
def iZipM (K : PySem.W.Frag) (ta : TA) : TI := fun σ H R => ta σ H fun vs H1 => ∃ a b xs ys, vs = [.ref a, .ref b] ∧ SqT K H1 a xs ∧ SqL K H1 b ys ∧ R (ItzM K a b) H1
theorem pi_zipM {X : Cx} {e e2 : Expr} {ta : TA} {p pos tpos : Pos} {elts : List Expr} {kk : Nat} (hg : Gl X "zip") (hm : X.mg "zip" = none) (ha : PA X [e, e2] ta)
    (hs : starEach [e, e2] X.env = (false, eval e X.env) :: starEach [e2] X.env := by rfl) (hpl : (backTo pos (starEach [e2] X.env)).any (·.1) = false := by rfl) : PI X (.Tuple elts kk tpos) (.Call (.Name "zip" p) [e, e2] [] pos) (iZipM X.K ta) := by
  refine ⟨fun pins s σ H R I h => Call_ (ld_blt I hg hm PyProof.Rows.boot_zip (PyProof.Rows.callWith_type1 (thn (ha.run pos pins s σ H _ I h) fun us s1 ⟨vs, H1, I1, r1, q1⟩ => ?_) hs hpl))⟩
  obtain ⟨a, b, xs, ys, rfl, hqx, hqy, q⟩ := q1
  cases r1 with
  | cons r rr => cases rr with
    | cons r' rr =>
      cases rr
      cases r
      cases r'
      obtain ⟨its, rv, p1, _⟩ := I1.tuple hqx
      obtain ⟨its2, rv2, p2, _⟩ := I1.list hqy
      have pt : s1.heap.IsTuple a its.toArray := p1
      obtain ⟨oa, ea, _⟩ := id pt
      obtain ⟨ob, eb, _⟩ := id p2.isList
      have la := Heap.lt_size ea
      have lb := Heap.lt_size eb
      refine call_zipB (begins_tuple a its.toArray) (begins_list b its2.toArray) pt p2.isList fun h' hz hI hO h1 h2 hk => wpAny_pyIter_zip hz ?_
      have I2 : Inv X pins σ H1 { s1 with heap := h' } := I1.kept (t' := s1.toks) hk
      have ad : ∀ {m n : Nat}, m ≠ n → s1.heap.objs.size + m ≠ s1.heap.objs.size + n := fun h e => h (Nat.add_left_cancel e)
      have ap : Ap (s1.heap.objs.size + 4) (s1.heap.objs.size + 2) (s1.heap.objs.size + 3) s1.heap.objs.size (s1.heap.objs.size + 1) a b := by
        have lt : ∀ {c : Addr} {n : Nat}, c < s1.heap.objs.size → s1.heap.objs.size + n ≠ c := fun h e => Nat.not_lt.mpr (Nat.le_add_right _ _) (e ▸ h)
        have z0 : ∀ {n : Nat}, n ≠ 0 → s1.heap.objs.size + n ≠ s1.heap.objs.size := fun h => ad (n := 0) h
        refine ⟨⟨ad (by decide), ad (by decide), ad (by decide), z0 (by decide), by simp, ?_, ?_, ad (by decide), by simp, ?_, ?_, ?_, ?_⟩, Nat.ne_of_lt la, (lt lb).symm⟩
        · simp only [List.mem_cons, List.not_mem_nil, or_false, not_or]; exact ⟨z0 (by decide), lt la⟩
        · simp only [List.mem_cons, List.not_mem_nil, or_false, not_or]; exact ⟨z0 (by decide), lt la⟩
        · simp only [List.mem_cons, List.not_mem_nil, or_false, not_or]; exact ⟨ad (by decide), lt lb⟩
        · simp only [List.mem_cons, List.not_mem_nil, or_false, not_or]; exact ⟨ad (by decide), lt lb⟩
        · simp only [List.mem_cons, List.not_mem_nil, or_false, not_or]; exact ⟨(z0 (by decide)).symm, Nat.ne_of_gt lb⟩
        · simp only [List.mem_cons, List.not_mem_nil, or_false, not_or]; exact ⟨z0 (by decide), lt la⟩
      refine ⟨s1.heap.objs.size + 4, [s1.heap.objs.size + 4, s1.heap.objs.size + 2, s1.heap.objs.size + 3, s1.heap.objs.size, s1.heap.objs.size + 1], _, _, H1, rfl, I2, turn_zipM ap, ⟨hz, hI, ⟨_, _, hO⟩, ⟨_, h1, rfl, rfl⟩, ⟨_, h2, rfl, rfl⟩⟩, fun c hc => ?_, q⟩
      have hle : s1.heap.objs.size ≤ c := by
        simp only [List.mem_cons, List.not_mem_nil, or_false] at hc
        rcases hc with rfl | rfl | rfl | rfl | rfl
        · exact Nat.le_add_right _ _
        · exact Nat.le_add_right _ _
        · exact Nat.le_add_right _ _
        · exact Nat.le_refl _
        · exact Nat.le_add_right _ _
      exact I1.fpOk hle (I1.hok.fresh hle)
theorem walk_zipM {K : PySem.W.Frag} {a b : Addr} {xs ys : List V} {n : Nat} (hn : n = min xs.length ys.length) : Walk (ItzM K a b) n (fun H => SqT K H a xs ∧ SqL K H b ys) (YPair (fun i => xs[i]?) (fun i => ys[i]?)) := by
  subst hn
  refine ⟨fun i H hi q => ⟨xs, ys, xs[i]'(by omega), ys[i]'(by omega), q.1, q.2, List.getElem?_eq_getElem _, List.getElem?_eq_getElem _⟩, fun H q => ⟨xs, ys, q.1, q.2, by omega, by omega, by omega⟩, fun i H v H' _ q y => ?_⟩
  obtain ⟨T, x, z, h1, h2, h3, h4, h5⟩ := y
  exact ⟨T, x, z, h1, h2, h3, h4 _ q.1, h5 _ q.2⟩
theorem walk_zipTT {K : PySem.W.Frag} {a b : Addr} {xs ys : List V} {n : Nat} (hn : n = min xs.length ys.length) : Walk (RZ.ItzT K a b) n (fun H => SqT K H a xs ∧ SqT K H b ys) (YPair (fun i => xs[i]?) (fun i => ys[i]?)) := by
  subst hn
  refine ⟨fun i H hi q => ⟨xs, ys, xs[i]'(by omega), ys[i]'(by omega), q.1, q.2, List.getElem?_eq_getElem _, List.getElem?_eq_getElem _⟩, fun H q => ⟨xs, ys, q.1, q.2, by omega⟩, fun i H v H' _ q y => ?_⟩
  obtain ⟨T, x, z, h1, h2, h3, h4, h5⟩ := y
  exact ⟨T, x, z, h1, h2, h3, h4 _ q.1, h5 _ q.2⟩
end MZ

set_option Elab.async false
set_option linter.all false
set_option maxRecDepth 100000
set_option maxHeartbeats 2000000
/-! ### t * k, k from 1 on -/
namespace MZ
open PySem PySem.Spec PyProof.Rows L2
theorem tuple_once (l : Addr) (items : Array Value) (n : Nat) (dd : Option Addr) (sl : Array (Option Value)) (u : Tok) :
    Meets (Builtin.«tuple.__mul__» ⟨[.ref l, .int 1 u], []⟩) (fun _ R s => s.heap.get? l = some { cls := .type "tuple", dict := dd, data := .seq items n, slots := sl } ∧ R (.ok (.ret (Value.ref l))) s) :=
  .of_wp fun prog w A R s h => by
    obtain ⟨hp, g, d, tk, os⟩ := s
    obtain ⟨hl, h⟩ := h
    have f1 := AutoSeq1.idx_int
    wp_walk using wpAny_loadPart' hl
    repeat (first
      | (refine wpAny_ite_true (by simp) ?_; wp_walk using wpAny_loadPart' hl)
      | (refine wpAny_ite_false (by simp) ?_; wp_walk using wpAny_loadPart' hl))
    first
      | exact ⟨_, rfl, h⟩
      | exact h
def rRepA (K : PySem.W.Frag) : R2 := fun x y H Q => ∃ l k xs, x = .ref l ∧ y = .int k ∧ SqT K H l xs ∧ xs ≠ [] ∧ 1 ≤ k ∧ k ≤ 1000 ∧ xs.length ≤ 1000 ∧ (k = 1 → Q (.ref l) H) ∧ (k ≠ 1 → ∀ p, H p = none → Q (.ref p) (upd H p (.tup (List.replicate k.toNat xs).flatten)))
theorem op_repA {X : Cx} : OpR X (binaryOp .Mult) (rRepA X.K) := by
  intro pins s σ H x y v u Q I rx ry h
  obtain ⟨l, k, xs, rfl, rfl, hT, hne, h1, h2, hz, q1, q2⟩ := h
  by_cases c : k = 1
  · subst c
    cases rx
    obtain ⟨t, rfl⟩ := ry
    obtain ⟨its, r, ⟨⟨cls, dd, data, sl⟩, ho, hc, n, hd⟩, hs⟩ := I.tuple hT
    simp only at hc hd
    subst hc hd
    exact wpAny_binaryOp_repeat_ref (T := "tuple") (U := "int") (by decide) ⟨_, ho, rfl⟩ (fun s' => typeIs_int s' 1 t) noFill_tuple_mul F.fills_int_mul F.slot_int_rmul repeat_tuple F.slot_int_index.lookup
      (call_meets F.slot_int_rmul (typeIs_int s 1 t) F.entry_int_rmul (F.args_int_rmul_2 _ _) (int_rmul_tuple 1 t l its.toArray n dd sl)
        ⟨ho, rfl, ⟨_, ho, rfl⟩, call_meets F.slot_tuple_mul ⟨_, ho, rfl⟩ F.entry_tuple_mul (F.args_tuple_mul_2 _ _) (tuple_once l its.toArray n dd sl t) ⟨ho, ⟨.ref l, H, I, rfl, q1 rfl⟩⟩⟩)
  · exact op_repT pins s σ H _ _ v u Q I rx ry ⟨l, k, xs, rfl, rfl, hT, hne, by omega, h2, hz, q2 c⟩
end MZ

set_option Elab.async false
set_option linter.all false
set_option maxRecDepth 100000
set_option maxHeartbeats 1000000
/-! ### fractions: lowest terms, bounds by a common denominator -/
namespace FR
abbrev Fr := Int × Int
/-- t / l in lowest terms -/
def low (t l : Int) : Fr := (t / (Nat.gcd t.natAbs l.natAbs : Nat), l / (Nat.gcd t.natAbs l.natAbs : Nat))
def addF (x y : Fr) : Fr := low (x.1 * y.2 + y.1 * x.2) (x.2 * y.2)
def lesF (x y : Fr) : Fr := low (x.1 * y.2 - y.1 * x.2) (x.2 * y.2)
def mulF (x y : Fr) : Fr := low (x.1 * y.1) (x.2 * y.2)
def negF (x : Fr) : Fr := (-x.1, x.2)
theorem les_neg (x y : Fr) : addF x (negF y) = lesF x y := by
  unfold addF lesF negF
  have e : x.1 * y.2 + -y.1 * x.2 = x.1 * y.2 - y.1 * x.2 := by rw [Int.neg_mul]; omega
  rw [e]
theorem low_one (t : Int) : low t 1 = (t, 1) := by
  unfold low
  rw [show (1 : Int).natAbs = 1 from rfl, Nat.gcd_one_right]
  simp
theorem add_one {x y : Fr} (h1 : x.2 = 1) (h2 : y.2 = 1) : addF x y = (x.1 + y.1, 1) := by
  unfold addF
  rw [h1, h2, Int.mul_one, Int.mul_one, Int.mul_one, low_one]
theorem mul_one {x y : Fr} (h1 : x.2 = 1) (h2 : y.2 = 1) : mulF x y = (x.1 * y.1, 1) := by
  unfold mulF
  rw [h1, h2, Int.mul_one, low_one]
/-- a denominator of M, at most N -/
structure Bd (M N : Nat) (x : Fr) : Prop where
  pos : 0 < x.2
  dvd : x.2 ∣ (M : Int)
  le : x.1.natAbs ≤ N * x.2.natAbs
theorem gcd_pos {t l : Int} (h : 0 < l) : 0 < Nat.gcd t.natAbs l.natAbs := Nat.gcd_pos_of_pos_right _ (by omega)
theorem low_abs {t l : Int} (h : 0 < l) : (low t l).1.natAbs = t.natAbs / Nat.gcd t.natAbs l.natAbs ∧ (low t l).2 = ((l.natAbs / Nat.gcd t.natAbs l.natAbs : Nat) : Int) := by
  have hg := gcd_pos (t := t) h
  have d1 : ((Nat.gcd t.natAbs l.natAbs : Nat) : Int) ∣ t := Int.ofNat_dvd_left.mpr (Nat.gcd_dvd_left _ _)
  have d2 : Nat.gcd t.natAbs l.natAbs ∣ l.natAbs := Nat.gcd_dvd_right _ _
  constructor
  · show (t / _).natAbs = _
    rw [Int.natAbs_ediv_of_dvd d1]
    rfl
  · show l / _ = _
    have e : l = (l.natAbs : Int) := by omega
    rw [e]
    simp [Int.natAbs_natCast]
theorem low_bd {t l : Int} {M N : Nat} (h : 0 < l) (hd : l ∣ t * (M : Int)) (hn : t.natAbs ≤ N * l.natAbs) : Bd M N (low t l) := by
  have hg := gcd_pos (t := t) h
  obtain ⟨e1, e2⟩ := low_abs (t := t) h
  have g1 : Nat.gcd t.natAbs l.natAbs ∣ t.natAbs := Nat.gcd_dvd_left _ _
  have g2 : Nat.gcd t.natAbs l.natAbs ∣ l.natAbs := Nat.gcd_dvd_right _ _
  have hl : 0 < l.natAbs := by omega
  have q2 : 0 < l.natAbs / Nat.gcd t.natAbs l.natAbs := Nat.div_pos (Nat.le_of_dvd hl g2) hg
  refine ⟨by rw [e2]; omega, ?_, ?_⟩
  · rw [e2]
    refine Int.natCast_dvd_natCast.mpr ?_
    have hd' : l.natAbs ∣ t.natAbs * M := by
      have := Int.natAbs_dvd_natAbs.mpr hd
      rwa [Int.natAbs_mul, Int.natAbs_natCast] at this
    have cp : Nat.Coprime (l.natAbs / Nat.gcd t.natAbs l.natAbs) (t.natAbs / Nat.gcd t.natAbs l.natAbs) := (Nat.coprime_div_gcd_div_gcd hg).symm
    refine cp.dvd_of_dvd_mul_left ?_
    have e3 : l.natAbs = Nat.gcd t.natAbs l.natAbs * (l.natAbs / Nat.gcd t.natAbs l.natAbs) := (Nat.mul_div_cancel' g2).symm
    have e4 : t.natAbs = Nat.gcd t.natAbs l.natAbs * (t.natAbs / Nat.gcd t.natAbs l.natAbs) := (Nat.mul_div_cancel' g1).symm
    generalize Nat.gcd t.natAbs l.natAbs = g at *
    generalize l.natAbs / g = b at *
    generalize t.natAbs / g = a at *
    rw [e3, e4, Nat.mul_assoc] at hd'
    exact Nat.dvd_of_mul_dvd_mul_left hg hd'
  · rw [e1, e2, Int.natAbs_natCast]
    have e3 : l.natAbs = Nat.gcd t.natAbs l.natAbs * (l.natAbs / Nat.gcd t.natAbs l.natAbs) := (Nat.mul_div_cancel' g2).symm
    have e4 : t.natAbs = Nat.gcd t.natAbs l.natAbs * (t.natAbs / Nat.gcd t.natAbs l.natAbs) := (Nat.mul_div_cancel' g1).symm
    generalize Nat.gcd t.natAbs l.natAbs = g at *
    generalize l.natAbs / g = b at *
    generalize t.natAbs / g = a at *
    rw [e3, e4] at hn
    have z : g * a ≤ g * (N * b) := by
      calc g * a ≤ N * (g * b) := hn
        _ = g * (N * b) := by rw [Nat.mul_left_comm]
    exact Nat.le_of_mul_le_mul_left z hg
theorem Bd.mono {M M' N N' : Nat} {x : Fr} (h : Bd M N x) (hm : M ∣ M') (hn : N ≤ N') : Bd M' N' x :=
  ⟨h.pos, Int.dvd_trans h.dvd (Int.natCast_dvd_natCast.mpr hm), Nat.le_trans h.le (Nat.mul_le_mul_right _ hn)⟩
theorem Bd.neg {M N : Nat} {x : Fr} (h : Bd M N x) : Bd M N (negF x) := ⟨h.pos, h.dvd, by show (-x.1).natAbs ≤ _; rw [Int.natAbs_neg]; exact h.le⟩
theorem Bd.add {M N N' : Nat} {x y : Fr} (h : Bd M N x) (h' : Bd M N' y) : Bd M (N + N') (addF x y) := by
  refine low_bd (Int.mul_pos h.pos h'.pos) ?_ ?_
  · rw [Int.add_mul]
    refine Int.dvd_add ?_ ?_
    · have : x.1 * y.2 * (M : Int) = x.1 * ((M : Int) * y.2) := by rw [Int.mul_assoc, Int.mul_comm y.2]
      rw [this]
      exact Int.dvd_mul_of_dvd_right (Int.mul_dvd_mul h.dvd (Int.dvd_refl _))
    · have : y.1 * x.2 * (M : Int) = y.1 * (x.2 * (M : Int)) := Int.mul_assoc _ _ _
      rw [this]
      exact Int.dvd_mul_of_dvd_right (Int.mul_dvd_mul (Int.dvd_refl _) h'.dvd)
  · refine Nat.le_trans (Int.natAbs_add_le _ _) ?_
    rw [Int.natAbs_mul, Int.natAbs_mul, Int.natAbs_mul, Nat.add_mul]
    refine Nat.add_le_add ?_ ?_
    · rw [← Nat.mul_assoc]
      exact Nat.mul_le_mul_right _ h.le
    · rw [Nat.mul_comm x.2.natAbs, ← Nat.mul_assoc]
      exact Nat.mul_le_mul_right _ h'.le
theorem Bd.les {M N N' : Nat} {x y : Fr} (h : Bd M N x) (h' : Bd M N' y) : Bd M (N + N') (lesF x y) := by
  rw [← les_neg]
  exact h.add h'.neg
theorem Bd.mul {M M' N N' : Nat} {x y : Fr} (h : Bd M N x) (h' : Bd M' N' y) : Bd (M * M') (N * N') (mulF x y) := by
  refine low_bd (Int.mul_pos h.pos h'.pos) ?_ ?_
  · refine Int.dvd_mul_of_dvd_right ?_
    rw [Int.natCast_mul]
    exact Int.mul_dvd_mul h.dvd h'.dvd
  · rw [Int.natAbs_mul, Int.natAbs_mul]
    calc x.1.natAbs * y.1.natAbs ≤ (N * x.2.natAbs) * (N' * y.2.natAbs) := Nat.mul_le_mul h.le h'.le
      _ = N * N' * (x.2.natAbs * y.2.natAbs) := by rw [Nat.mul_mul_mul_comm]
/-- how great both numbers are -/
structure Sz (b : Nat) (x : Fr) : Prop where
  pos : 0 < x.2
  n : x.1.natAbs < 2 ^ b
  d : x.2.natAbs < 2 ^ b
theorem Bd.sz {M N a b : Nat} {x : Fr} (h : Bd M N x) (hM : 0 < M) (ha : M < 2 ^ a) (hb : N < 2 ^ b) : Sz (a + b) x := by
  have hd : x.2.natAbs ≤ M := by
    have := Int.natAbs_dvd_natAbs.mpr h.dvd
    rw [Int.natAbs_natCast] at this
    exact Nat.le_of_dvd hM this
  have b1 : 0 < 2 ^ b := Nat.two_pow_pos b
  refine ⟨h.pos, ?_, ?_⟩
  · refine Nat.lt_of_le_of_lt h.le ?_
    refine Nat.lt_of_le_of_lt (Nat.mul_le_mul_left _ hd) ?_
    rw [Nat.mul_comm, Nat.pow_add]
    exact Nat.mul_lt_mul'' ha hb
  · refine Nat.lt_of_le_of_lt hd (Nat.lt_of_lt_of_le ha ?_)
    exact Nat.pow_le_pow_right (by decide) (by omega)
theorem Sz.mono {a b : Nat} {x : Fr} (h : Sz a x) (hab : a ≤ b) : Sz b x := ⟨h.pos, Nat.lt_of_lt_of_le h.n (Nat.pow_le_pow_right (by decide) hab), Nat.lt_of_lt_of_le h.d (Nat.pow_le_pow_right (by decide) hab)⟩
end FR

set_option Elab.async false
set_option linter.all false
set_option maxRecDepth 100000
set_option maxHeartbeats 1000000
/-! ### fractions in the heap, and what is worked out with them -/
namespace KP
open PySem PySem.Spec PyProof.Rows L2 KX KT KJ KS FR
abbrev sLowest : Stmt := top 12
abbrev sAdded : Stmt := top 13
abbrev sNeg : Stmt := top 14
abbrev sLess : Stmt := top 15
abbrev sMul : Stmt := top 16
abbrev lPlus : Stmt := top 43
abbrev lLess : Stmt := top 44
abbrev lBy : Stmt := top 45
theorem iteB {b : Bool} {A B : Prop} (h1 : b = true → A) (h2 : b = false → B) : if b = true then A else B := by
  cases b with
  | true => rw [if_pos rfl]; exact h1 rfl
  | false => rw [if_neg Bool.false_ne_true]; exact h2 rfl
/-- the heap's tuples alone -/
def tO (H : Hp) : Hp := fun b => match H b with
  | some (.tup xs) => some (.tup xs)
  | some (.frz _ (.tup xs)) => some (.tup xs)
  | _ => none
theorem tO_of {H : Hp} {a : Addr} {xs : List V} (h : H a = some (.tup xs)) : tO H a = some (.tup xs) := by
  unfold tO
  rw [h]
theorem tO_rd {H : Hp} {a : Addr} {xs : List V} (h : Rd H a (.tup xs)) : tO H a = some (.tup xs) := by
  rcases h with h | ⟨o, h⟩
  · exact tO_of h
  · unfold tO
    rw [h]
theorem of_tO {H : Hp} {a : Addr} {u : HO} (h : tO H a = some u) : ∃ xs, u = .tup xs ∧ Rd H a (.tup xs) := by
  unfold tO at h
  split at h
  · rename_i xs e
    cases h
    exact ⟨xs, rfl, .inl e⟩
  · rename_i o xs e
    cases h
    exact ⟨xs, rfl, .inr ⟨o, e⟩⟩
  · cases h
theorem tO_same (H : Hp) (a : Addr) (xs : List V) (e : tO H a = some (.tup xs)) : Rd H a (.tup xs) := by
  obtain ⟨ys, z, r⟩ := of_tO e
  cases z
  exact r
theorem tO_eq {H : Hp} {a : Addr} {xs : List V} (h : Rd (tO H) a (.tup xs)) : tO H a = some (.tup xs) := by
  rcases h with h | ⟨o, h⟩
  · exact h
  · obtain ⟨ys, z, _⟩ := of_tO h
    cases z
/-- all tuples stay -/
def Tk (H H' : Hp) : Prop := Same (tO H) (tO H')
theorem Tk.refl (H : Hp) : Tk H H := Same.refl _
theorem Tk.trans {H H1 H2 : Hp} (a : Tk H H1) (b : Tk H1 H2) : Tk H H2 := Same.trans a b
theorem Tk.same {H H' : Hp} (s : Same H H') : Tk H H' := fun b u e => by
  obtain ⟨xs, rfl, e1⟩ := of_tO e
  exact tO_rd (s.rd e1)
theorem Tk.sm {H H' : Hp} (s : Sm H H') : Tk H H' := fun b u e => by
  obtain ⟨xs, rfl, e1⟩ := of_tO e
  exact tO_rd (s.rd e1)
theorem Tk.but {j : Addr} {H H' : Hp} {xs : List V} (hj : H j = some (.lst xs)) (s : KJ.But j H H') : Tk H H' := fun b u e => by
  obtain ⟨ys, rfl, e1⟩ := of_tO e
  rcases e1 with e1 | ⟨o, e1⟩
  · exact tO_of (s _ _ (fun z => by rw [z, hj] at e1; cases e1) e1)
  · exact tO_rd (.inr ⟨o, s _ _ (fun z => by rw [z, hj] at e1; cases e1) e1⟩)
theorem Tk.jar {j : Addr} {H H' : Hp} {n : Nat} (hj : JarAt H j n) (s : KJ.But j H H') : Tk H H' := by
  obtain ⟨_, _, _, e, _⟩ := hj
  exact Tk.but e s
theorem Tk.put {H : Hp} {p : Addr} {xs ys : List V} (h : H p = some (.lst xs)) : Tk H (upd H p (.lst ys)) := fun b u e => by
  obtain ⟨zs, rfl, e1⟩ := of_tO e
  rcases e1 with e1 | ⟨o, e1⟩
  · exact tO_of (by rw [upd_ne (fun z => by rw [z, h] at e1; cases e1)]; exact e1)
  · exact tO_rd (.inr ⟨o, by rw [upd_ne (fun z => by rw [z, h] at e1; cases e1)]; exact e1⟩)
theorem Th.tk {H H' : Hp} {v : V} {d : PyData} (h : Th (tO H) v d) (s : Tk H H') : Th (tO H') v d := h.mono (Sm.same s)
theorem Th.up {H : Hp} {v : V} {d : PyData} (h : Th (tO H) v d) : Th H v d := by
  refine Th.rec (motive_1 := fun v d _ => Th H v d) (motive_2 := fun vs ds _ => ThAll H vs ds) .non (fun b => .bl b) (fun i => .int i) (fun x => .str x) (fun q _ ih => ?_) (fun q _ ih => .tup' (tO_same H _ _ (tO_eq q)) ih) (fun q => ?_) .nil (fun _ _ a b => .cons a b) h
  · obtain ⟨_, z, _⟩ := of_tO q
    cases z
  · obtain ⟨_, z, _⟩ := of_tO q
    cases z
theorem ThAll.up {H : Hp} : ∀ {vs : List V} {ds : List PyData}, ThAll (tO H) vs ds → ThAll H vs ds
  | [], [], _ => .nil
  | _ :: _, _ :: _, .cons a b => .cons a.up b.up
theorem sqT_up {K : PySem.W.Frag} {H : Hp} {a : Addr} {xs : List V} (h : SqT K (tO H) a xs) : SqT K H a xs := by
  rcases h with h | h
  · exact .inl (tO_same H _ _ (tO_eq h))
  · exact .inr h
theorem same_sqT {K : PySem.W.Frag} {H H' : Hp} {a : Addr} {xs : List V} (e : Same H H') (h : SqT K H a xs) : SqT K H' a xs := by
  rcases h with (h | ⟨o, h⟩) | h
  · exact .inl (.inl (e _ _ h))
  · exact .inl (.inr ⟨o, e _ _ h⟩)
  · exact .inr h
/-- v is the fraction x -/
def FrV (K : PySem.W.Frag) (H : Hp) (v : V) (x : Fr) : Prop := ∃ a, v = .ref a ∧ SqT K (tO H) a [.int x.1, .int x.2]
theorem FrV.tk {K : PySem.W.Frag} {H H' : Hp} {v : V} {x : Fr} (h : FrV K H v x) (s : Tk H H') : FrV K H' v x := by
  obtain ⟨a, e, q⟩ := h
  exact ⟨a, e, same_sqT s q⟩
theorem FrV.new {K : PySem.W.Frag} {H : Hp} {p : Addr} {x : Fr} : FrV K (upd H p (.tup [.int x.1, .int x.2])) (.ref p) x := ⟨p, rfl, SqT.of (tO_of upd_same)⟩
theorem FrV.at {K : PySem.W.Frag} {H : Hp} {p : Addr} {x : Fr} (h : H p = some (.tup [.int x.1, .int x.2])) : FrV K H (.ref p) x := ⟨p, rfl, SqT.of (tO_of h)⟩
section
variable {K : PySem.W.Frag} {σ : L2.St} {H : Hp} {D : Ends}
theorem vi_ix0 {i : Nat} {v : V} {x : Fr} (h : σ[i]? = some (some v)) (f : FrV K H v x) : Vi (tOp (rIxT K) (tVar i) (tC (.int 0))) σ H (.int x.1) := by
  obtain ⟨a, rfl, q⟩ := f
  exact vi_op (vi_var h) vi_c fun Q k => ⟨a, _, 0, _, rfl, rfl, sqT_up q, rfl, k⟩
theorem vi_ix1 {i : Nat} {v : V} {x : Fr} (h : σ[i]? = some (some v)) (f : FrV K H v x) : Vi (tOp (rIxT K) (tVar i) (tC (.int 1))) σ H (.int x.2) := by
  obtain ⟨a, rfl, q⟩ := f
  exact vi_op (vi_var h) vi_c fun Q k => ⟨a, _, 1, _, rfl, rfl, sqT_up q, rfl, k⟩
theorem vi_mul {ta tb : TE} {a b : Int} (ha : Vi ta σ H (.int a)) (hb : Vi tb σ H (.int b)) (c : CMulW a b) : Vi (tOp (rI CMulW fun i j => .int (i * j)) ta tb) σ H (.int (a * b)) := vi_op ha hb fun Q q => ⟨_, _, rfl, rfl, c, q⟩
theorem vi_add {ta tb : TE} {a b : Int} (ha : Vi ta σ H (.int a)) (hb : Vi tb σ H (.int b)) : Vi (tOp (rI0 fun i j => .int (i + j)) ta tb) σ H (.int (a + b)) := vi_op ha hb fun Q q => ⟨_, _, rfl, rfl, q⟩
theorem vi_sub {ta tb : TE} {a b : Int} (ha : Vi ta σ H (.int a)) (hb : Vi tb σ H (.int b)) : Vi (tOp (rI0 fun i j => .int (i - j)) ta tb) σ H (.int (a - b)) := vi_op ha hb fun Q q => ⟨_, _, rfl, rfl, q⟩
theorem ti_and {t u : TT} {a b : Bool} (h : Ti t σ H a) (h2 : a = true → Ti u σ H b) : Ti (tAnd t u) σ H (a && b) := fun Q q => h _ (by
  cases a with
  | true => rw [if_pos rfl]; exact h2 rfl _ q
  | false => rw [if_neg Bool.false_ne_true]; exact q)
theorem i_when {t : TT} {tu tz : TS} {b : Bool} (h : Ti t σ H b) (h1 : b = true → tu { D with nx := tz D } σ H) (h2 : b = false → tz D σ H) : tSeq (tIfS t tu tNext) tz D σ H := i_if (D := { D with nx := tz D }) h h1 h2
theorem i_set {te : TE} {tz : TS} {i : Nat} {v : V} (h : Vi te σ H v) (k : tz D (σ.set i (some v)) H) : tSeq (tAsg te (gName i)) tz D σ H := h _ k
end
theorem ret_call {K : PySem.W.Frag} {σ : L2.St} {H : Hp} {D : Ends} {sp : Sp} {E : XK} {ta : TA} {vs : List V} (h : Ai ta σ H vs) (k : sp vs H D.rt E) : tRet (tCall sp [] E ta) D σ H := h _ (by rw [List.append_nil]; exact k)
theorem ret_tup2 {σ : L2.St} {H : Hp} {D : Ends} {ta tb : TE} {a b : Int} (ha : Vi ta σ H (.int a)) (hb : Vi tb σ H (.int b)) (k : ∀ p, H p = none → D.rt (.ref p) (upd H p (.tup [.int a, .int b]))) : tRet (tTup (tCons ta (tCons tb tNil))) D σ H := ha _ (hb _ ⟨(by show 2 ≤ sizeLine; decide), k⟩)
theorem cmul {x y : Int} {a b : Nat} (hx : x.natAbs < 2 ^ (a + 1)) (hy : y.natAbs < 2 ^ (b + 1)) (h : a + b ≤ 900000) : CMulW x y := wide_mul hx hy (by omega) (by omega) (by omega)
/-- lowest, and the law's own -/
def spLow : Sp := fun vs H Q _ => ∃ t l : Int, vs = [.int t, .int l] ∧ 0 < l ∧ l.natAbs < 2 ^ 9000 ∧ ∀ p, H p = none → Q (.ref p) (upd H p (.tup [.int (low t l).1, .int (low t l).2]))
def spBin (K : PySem.W.Frag) (f : Fr → Fr → Fr) : Sp := fun vs H Q _ => ∃ u v x y, vs = [u, v] ∧ FrV K H u x ∧ FrV K H v y ∧ Sz 4000 x ∧ Sz 4000 y ∧ ∀ r H', Same H H' → FrV K H' r (f x y) → Q r H'
def spNegF (K : PySem.W.Frag) : Sp := fun vs H Q _ => ∃ u x, vs = [u] ∧ FrV K H u x ∧ ∀ r H', Same H H' → FrV K H' r (negF x) → Q r H'
theorem z9 {x y : Fr} (hx : Sz 4000 x) (hy : Sz 4000 y) : 0 < x.2 * y.2 ∧ (x.2 * y.2).natAbs < 2 ^ 9000 := ⟨Int.mul_pos hx.pos hy.pos, Nat.lt_of_lt_of_le (wide_lt hx.d hy.d) (Nat.pow_le_pow_right (by decide) (by decide))⟩
section
variable {P : Program} {w : World} {K : PySem.W.Frag} {mg : Str → Option Value} {base : Heap}
theorem scLowest : FnScope ["above", "below", "divisor"] ["above", "below"] (defScope sLowest) := ⟨rfl, rfl, rfl, by decide +kernel, rfl, by decide +kernel, by decide +kernel⟩
theorem ok_lowest {f : Addr} {fd : FuncData} (F : Fun K "lowest" "lowest" sLowest f fd) (mG : mg "gcd" = some (.builtin "math.gcd")) : FnOk P w K mg base CX0 1 f fd ["above", "below"] spLow := by
  refine F.ok scLowest (fun vs H Q E h => ?_) (fun cdv A outer s H vs Q E hr h => ?_)
  · obtain ⟨t, l, rfl, _⟩ := h
    rfl
  · obtain ⟨t, l, rfl, l0, l9, k⟩ := h
    refine ⟨_, pss_cons (ps_set (i := 2) scLowest.nd rfl (Or.inl rfl) (pe_callBfun cr_gcd (by rfl) mG (pa_cons (pv 0) (pa_cons (pv 1) pa_nil))))
      (pss_one (ps_ret (pe_tup (pa_cons (pe_op op_fdivW (pv 0) (pv 2)) (pa_cons (pe_op op_fdivW (pv 1) (pv 2)) pa_nil))))), ?_⟩
    have hg := gcd_pos (t := t) l0
    have hd : CDivW t ((Nat.gcd t.natAbs l.natAbs : Nat) : Int) := wide_div (b := 9000) (by omega) (by rw [Int.natAbs_natCast]; exact Nat.lt_of_le_of_lt (Nat.le_of_dvd (by omega) (Nat.gcd_dvd_right _ _)) l9) (by decide) (Nat.le_refl _)
    exact ⟨_, rfl, _, rfl, _, _, rfl, _, rfl, _, rfl, _, _, rfl, rfl, hd, _, rfl, _, rfl, _, _, rfl, rfl, hd, (by show 2 ≤ sizeLine; decide), fun p hp => k p hp⟩
theorem scAdded : FnScope ["one", "two"] ["one", "two"] (defScope sAdded) := ⟨rfl, rfl, rfl, by decide +kernel, rfl, by decide +kernel, by decide +kernel⟩
theorem ok_added {f fL : Addr} {fd fdL : FuncData} (F : Fun K "added" "added" sAdded f fd) (FL : FnOk P w K mg base CX0 1 fL fdL ["above", "below"] spLow) (mL : mg "lowest" = some (.ref fL)) (kL : PySem.W.keepIn K (.ref fL) = true) (bL : Binds K fdL ["above", "below"] []) :
    FnOk P w K mg base CX0 2 f fd ["one", "two"] (spBin K addF) := by
  refine F.ok scAdded (fun vs H Q E h => ?_) (fun cdv A outer s H vs Q E hr h => ?_)
  · obtain ⟨u, v, x, y, rfl, _⟩ := h
    rfl
  · obtain ⟨u, v, x, y, rfl, hx, hy, zx, zy, k⟩ := h
    refine ⟨_, pss_cons (ps_if (pw_and (pt_cmpR op_eq (pe_ix ix_tup (pv 0) pe_int (fun _ _ => rfl)) pe_int (nomark _)) (pw_and1 (pt_cmpR op_eq (pe_ix ix_tup (pv 1) pe_int (fun _ _ => rfl)) pe_int (nomark _)))).pt
        (pss_one (ps_ret (pe_tup (pa_cons (pe_op op_add (pe_ix ix_tup (pv 0) pe_int (fun _ _ => rfl)) (pe_ix ix_tup (pv 1) pe_int (fun _ _ => rfl))) (pa_cons pe_int pa_nil))))) pss_nil)
      (pss_one (ps_ret (pe_call FL hr rfl mL kL bL .nil pass0 (pa_cons (pe_op op_add (pe_op op_mulW (pe_ix ix_tup (pv 0) pe_int (fun _ _ => rfl)) (pe_ix ix_tup (pv 1) pe_int (fun _ _ => rfl))) (pe_op op_mulW (pe_ix ix_tup (pv 1) pe_int (fun _ _ => rfl)) (pe_ix ix_tup (pv 0) pe_int (fun _ _ => rfl))))
        (pa_cons (pe_op op_mulW (pe_ix ix_tup (pv 0) pe_int (fun _ _ => rfl)) (pe_ix ix_tup (pv 1) pe_int (fun _ _ => rfl))) pa_nil))))), ?_⟩
    refine i_when (D := { nx := _, rt := Q }) (b := decide (V.int x.2 = V.int 1) && decide (V.int y.2 = V.int 1)) (ti_and (ti_test (vi_op (vi_ix1 rfl hx) vi_c fun Q q => ⟨rfl, q⟩)) fun _ => ti_test (vi_op (vi_ix1 rfl hy) vi_c fun Q q => ⟨rfl, q⟩)) (fun c => ?_) (fun c => ?_)
    · rw [Bool.and_eq_true] at c
      have e1 := V.int.inj (of_decide_eq_true c.1)
      have e2 := V.int.inj (of_decide_eq_true c.2)
      refine ret_tup2 (vi_add (vi_ix0 rfl hx) (vi_ix0 rfl hy)) vi_c fun p hp => k _ _ (same_upd hp) ?_
      rw [add_one e1 e2]
      exact FrV.new (x := (x.1 + y.1, 1))
    · obtain ⟨z1, z2⟩ := z9 zx zy
      refine ret_call (K := K) (D := { nx := _, rt := Q }) (ai_cons (vi_add (vi_mul (vi_ix0 rfl hx) (vi_ix1 rfl hy) (cmul (a := 3999) (b := 3999) zx.n zy.d (by decide))) (vi_mul (vi_ix0 rfl hy) (vi_ix1 rfl hx) (cmul (a := 3999) (b := 3999) zy.n zx.d (by decide)))) (ai_cons (vi_mul (vi_ix1 rfl hx) (vi_ix1 rfl hy) (cmul (a := 3999) (b := 3999) zx.d zy.d (by decide))) ai_nil)) ?_
      exact ⟨_, _, rfl, z1, z2, fun p hp => k _ _ (same_upd hp) (FrV.new (x := addF x y))⟩
theorem scNeg : FnScope ["one"] ["one"] (defScope sNeg) := ⟨rfl, rfl, rfl, by decide +kernel, rfl, by decide +kernel, by decide +kernel⟩
theorem ok_negative {f : Addr} {fd : FuncData} (F : Fun K "negative" "negative" sNeg f fd) : FnOk P w K mg base CX0 1 f fd ["one"] (spNegF K) := by
  refine F.ok scNeg (fun vs H Q E h => ?_) (fun cdv A outer s H vs Q E hr h => ?_)
  · obtain ⟨u, x, rfl, _⟩ := h
    rfl
  · obtain ⟨u, x, rfl, hx, k⟩ := h
    refine ⟨_, pss_one (ps_ret (pe_tup (pa_cons (pe_un un_neg (pe_ix ix_tup (pv 0) pe_int (fun _ _ => rfl))) (pa_cons (pe_ix ix_tup (pv 0) pe_int (fun _ _ => rfl)) pa_nil)))), ?_⟩
    exact ret_tup2 (D := { nx := _, rt := Q }) (fun Q q => vi_ix0 (i := 0) rfl hx _ ⟨_, rfl, q⟩) (vi_ix1 rfl hx) fun p hp => k _ _ (same_upd hp) (FrV.new (x := negF x))
theorem scLess : FnScope ["one", "two"] ["one", "two"] (defScope sLess) := ⟨rfl, rfl, rfl, by decide +kernel, rfl, by decide +kernel, by decide +kernel⟩
theorem ok_lessened {f fA fN : Addr} {fd fdA fdN : FuncData} (F : Fun K "lessened" "lessened" sLess f fd) (FA : FnOk P w K mg base CX0 2 fA fdA ["one", "two"] (spBin K addF)) (mA : mg "added" = some (.ref fA)) (kA : PySem.W.keepIn K (.ref fA) = true) (bA : Binds K fdA ["one", "two"] [])
    (FN : FnOk P w K mg base CX0 1 fN fdN ["one"] (spNegF K)) (mN : mg "negative" = some (.ref fN)) (kN : PySem.W.keepIn K (.ref fN) = true) (bN : Binds K fdN ["one"] []) : FnOk P w K mg base CX0 3 f fd ["one", "two"] (spBin K lesF) := by
  refine F.ok scLess (fun vs H Q E h => ?_) (fun cdv A outer s H vs Q E hr h => ?_)
  · obtain ⟨u, v, x, y, rfl, _⟩ := h
    rfl
  · obtain ⟨u, v, x, y, rfl, hx, hy, zx, zy, k⟩ := h
    refine ⟨_, pss_one (ps_ret (pe_call FA hr rfl mA kA bA .nil pass0 (pa_cons (pv 0) (pa_cons (pe_call FN (hr.mono (by decide)) rfl mN kN bN .nil pass0 (pa_cons (pv 1) pa_nil)) pa_nil)))), ?_⟩
    refine ⟨_, rfl, _, rfl, v, y, rfl, hy, fun r H1 s1 h1 => ?_⟩
    refine ⟨_, _, x, negF y, rfl, hx.tk (Tk.same s1), h1, zx, ⟨zy.pos, by show (-y.1).natAbs < _; rw [Int.natAbs_neg]; exact zy.n, zy.d⟩, fun r2 H2 s2 h2 => k _ _ (s1.trans s2) ?_⟩
    rw [← les_neg]
    exact h2
theorem scMul : FnScope ["one", "two"] ["one", "two"] (defScope sMul) := ⟨rfl, rfl, rfl, by decide +kernel, rfl, by decide +kernel, by decide +kernel⟩
theorem ok_multiplied {f fL : Addr} {fd fdL : FuncData} (F : Fun K "multiplied" "multiplied" sMul f fd) (FL : FnOk P w K mg base CX0 1 fL fdL ["above", "below"] spLow) (mL : mg "lowest" = some (.ref fL)) (kL : PySem.W.keepIn K (.ref fL) = true) (bL : Binds K fdL ["above", "below"] []) :
    FnOk P w K mg base CX0 2 f fd ["one", "two"] (spBin K mulF) := by
  refine F.ok scMul (fun vs H Q E h => ?_) (fun cdv A outer s H vs Q E hr h => ?_)
  · obtain ⟨u, v, x, y, rfl, _⟩ := h
    rfl
  · obtain ⟨u, v, x, y, rfl, hx, hy, zx, zy, k⟩ := h
    refine ⟨_, pss_cons (ps_if (pw_and (pt_cmpR op_eq (pe_ix ix_tup (pv 0) pe_int (fun _ _ => rfl)) pe_int (nomark _)) (pw_and1 (pt_cmpR op_eq (pe_ix ix_tup (pv 1) pe_int (fun _ _ => rfl)) pe_int (nomark _)))).pt
        (pss_one (ps_ret (pe_tup (pa_cons (pe_op op_mulW (pe_ix ix_tup (pv 0) pe_int (fun _ _ => rfl)) (pe_ix ix_tup (pv 1) pe_int (fun _ _ => rfl))) (pa_cons pe_int pa_nil))))) pss_nil)
      (pss_one (ps_ret (pe_call FL hr rfl mL kL bL .nil pass0 (pa_cons (pe_op op_mulW (pe_ix ix_tup (pv 0) pe_int (fun _ _ => rfl)) (pe_ix ix_tup (pv 1) pe_int (fun _ _ => rfl)))
        (pa_cons (pe_op op_mulW (pe_ix ix_tup (pv 0) pe_int (fun _ _ => rfl)) (pe_ix ix_tup (pv 1) pe_int (fun _ _ => rfl))) pa_nil))))), ?_⟩
    refine i_when (D := { nx := _, rt := Q }) (b := decide (V.int x.2 = V.int 1) && decide (V.int y.2 = V.int 1)) (ti_and (ti_test (vi_op (vi_ix1 rfl hx) vi_c fun Q q => ⟨rfl, q⟩)) fun _ => ti_test (vi_op (vi_ix1 rfl hy) vi_c fun Q q => ⟨rfl, q⟩)) (fun c => ?_) (fun c => ?_)
    · rw [Bool.and_eq_true] at c
      have e1 := V.int.inj (of_decide_eq_true c.1)
      have e2 := V.int.inj (of_decide_eq_true c.2)
      refine ret_tup2 (vi_mul (vi_ix0 rfl hx) (vi_ix0 rfl hy) (cmul (a := 3999) (b := 3999) zx.n zy.n (by decide))) vi_c fun p hp => k _ _ (same_upd hp) ?_
      rw [mul_one e1 e2]
      exact FrV.new (x := (x.1 * y.1, 1))
    · obtain ⟨z1, z2⟩ := z9 zx zy
      refine ret_call (K := K) (D := { nx := _, rt := Q }) (ai_cons (vi_mul (vi_ix0 rfl hx) (vi_ix0 rfl hy) (cmul (a := 3999) (b := 3999) zx.n zy.n (by decide))) (ai_cons (vi_mul (vi_ix1 rfl hx) (vi_ix1 rfl hy) (cmul (a := 3999) (b := 3999) zx.d zy.d (by decide))) ai_nil)) ?_
      exact ⟨_, _, rfl, z1, z2, fun p hp => k _ _ (same_upd hp) (FrV.new (x := mulF x y))⟩
-- the law's own
theorem scFrac : FnScope ["top", "low", "one", "two"] ["top", "low"] (defScope lFrac) := ⟨rfl, rfl, rfl, by decide +kernel, rfl, by decide +kernel, by decide +kernel⟩
theorem ok_fracW {f : Addr} {fd : FuncData} (F : Fun K "_law_frac" "_law_frac" lFrac f fd) (T : TxT mg) : FnOk P w K mg base CX0 1 f fd ["top", "low"] spLow := by
  refine F.ok scFrac (fun vs H Q E h => ?_) (fun cdv A outer s H vs Q E hr h => ?_)
  · obtain ⟨t, l, rfl, _⟩ := h
    rfl
  · obtain ⟨t, l, rfl, l0, l9, k⟩ := h
    refine ⟨_, pss_cons (ps_par (i := 2) (j := 3) (by rfl) scFrac.nd rfl rfl (by decide) rfl rfl (pa_cons (pe_callB call_abs (by rfl) T.abs (by decide +kernel) (pa_cons (pv 0) pa_nil)) (pa_cons (pv 1) pa_nil)) (by rfl))
      (pss_cons (ps_while PassesOwn.never (pt_cmpR op_gt (pv 3) pe_int (nomark _)) (pss_one (ps_par (i := 2) (j := 3) (by rfl) scFrac.nd rfl rfl (by decide) rfl rfl (pa_cons (pv 3) (pa_cons (pe_op op_mod (pe_callTy call_int1 (by rfl) T.int (by decide +kernel) (pa_cons (pv 2) pa_nil)) (pv 3)) pa_nil)) (by rfl))))
      (pss_one (ps_ret (pe_tup (pa_cons (pe_op op_fdivW (pv 0) (pv 2)) (pa_cons (pe_op op_fdivW (pv 1) (pv 2)) pa_nil)))))), ?_⟩
    have hg := gcd_pos (t := t) l0
    refine ⟨_, rfl, _, rfl, _, rfl, _, _, rfl, ?_⟩
    refine ⟨fun m σ H' => H' = H ∧ ∃ a b : Nat, σ = [some (.int t), some (.int l), some (.int a), some (.int b)] ∧ Nat.gcd a b = Nat.gcd t.natAbs l.natAbs ∧ m = b, ⟨_, rfl, t.natAbs, l.natAbs, ?_, rfl, rfl⟩, ?_⟩
    · have e1 : (if t < 0 then -t else t) = (t.natAbs : Int) := by split <;> omega
      have e2 : l = (l.natAbs : Int) := by omega
      show [some (V.int t), some (V.int l), some (V.int (if t < 0 then -t else t)), some (V.int l)] = _
      rw [e1, ← e2]
    · rintro m σ H' ⟨rfl, a, b, rfl, hgc, hm⟩
      refine ⟨_, rfl, _, _, rfl, rfl, _, rfl, ?_⟩
      dsimp only
      by_cases c : 0 < b
      · rw [if_pos (decide_eq_true (show (0 : Int) < (b : Int) by omega))]
        refine ⟨fun σ' H2 => H2 = H' ∧ σ' = [some (.int t), some (.int l), some (.int b), some (.int ((a % b : Nat) : Int))], ?_, ?_⟩
        · rintro σ' H2 ⟨rfl, rfl⟩
          have lt := Nat.mod_lt a c
          refine ⟨a % b, by omega, rfl, b, a % b, rfl, ?_, rfl⟩
          rw [← hgc, Nat.gcd_comm a b, Nat.gcd_rec b a, Nat.gcd_comm]
        · refine ⟨_, rfl, _, rfl, .inl ⟨_, rfl, _, rfl, _, _, rfl, rfl, show (0 : Int) < (b : Int) by omega, _, _, rfl, rfl, ?_⟩⟩
          show [some (V.int t), some (V.int l), some (V.int b), some (V.int ((a : Int) % (b : Int)))] = _
          rw [Int.natCast_emod]
      · have b0 : b = 0 := by omega
        subst b0
        rw [if_neg (by decide)]
        rw [Nat.gcd_zero_right] at hgc
        subst hgc
        have hd : CDivW t ((Nat.gcd t.natAbs l.natAbs : Nat) : Int) := wide_div (b := 9000) (by omega) (by rw [Int.natAbs_natCast]; exact Nat.lt_of_le_of_lt (Nat.le_of_dvd (by omega) (Nat.gcd_dvd_right _ _)) l9) (by decide) (Nat.le_refl _)
        exact ⟨_, rfl, _, rfl, _, _, rfl, rfl, hd, _, rfl, _, rfl, _, _, rfl, rfl, hd, (by decide : 2 ≤ sizeLine), fun p hp => k p hp⟩
theorem scPlus : FnScope ["one", "two"] ["one", "two"] (defScope lPlus) := ⟨rfl, rfl, rfl, by decide +kernel, rfl, by decide +kernel, by decide +kernel⟩
theorem ok_plusL {f fL : Addr} {fd fdL : FuncData} (F : Fun K "_law_plus" "_law_plus" lPlus f fd) (FL : FnOk P w K mg base CX0 1 fL fdL ["top", "low"] spLow) (mL : mg "_law_frac" = some (.ref fL)) (kL : PySem.W.keepIn K (.ref fL) = true) (bL : Binds K fdL ["top", "low"] []) :
    FnOk P w K mg base CX0 2 f fd ["one", "two"] (spBin K addF) := by
  refine F.ok scPlus (fun vs H Q E h => ?_) (fun cdv A outer s H vs Q E hr h => ?_)
  · obtain ⟨u, v, x, y, rfl, _⟩ := h
    rfl
  · obtain ⟨u, v, x, y, rfl, hx, hy, zx, zy, k⟩ := h
    refine ⟨_, pss_one (ps_ret (pe_call FL hr rfl mL kL bL .nil pass0 (pa_cons (pe_op op_add (pe_op op_mulW (pe_ix ix_tup (pv 0) pe_int (fun _ _ => rfl)) (pe_ix ix_tup (pv 1) pe_int (fun _ _ => rfl))) (pe_op op_mulW (pe_ix ix_tup (pv 1) pe_int (fun _ _ => rfl)) (pe_ix ix_tup (pv 0) pe_int (fun _ _ => rfl))))
        (pa_cons (pe_op op_mulW (pe_ix ix_tup (pv 0) pe_int (fun _ _ => rfl)) (pe_ix ix_tup (pv 1) pe_int (fun _ _ => rfl))) pa_nil)))), ?_⟩
    obtain ⟨z1, z2⟩ := z9 zx zy
    refine ret_call (K := K) (D := { nx := _, rt := Q }) (ai_cons (vi_add (vi_mul (vi_ix0 rfl hx) (vi_ix1 rfl hy) (cmul (a := 3999) (b := 3999) zx.n zy.d (by decide))) (vi_mul (vi_ix0 rfl hy) (vi_ix1 rfl hx) (cmul (a := 3999) (b := 3999) zy.n zx.d (by decide)))) (ai_cons (vi_mul (vi_ix1 rfl hx) (vi_ix1 rfl hy) (cmul (a := 3999) (b := 3999) zx.d zy.d (by decide))) ai_nil)) ?_
    exact ⟨_, _, rfl, z1, z2, fun p hp => k _ _ (same_upd hp) (FrV.new (x := addF x y))⟩
theorem scLessL : FnScope ["one", "two"] ["one", "two"] (defScope lLess) := ⟨rfl, rfl, rfl, by decide +kernel, rfl, by decide +kernel, by decide +kernel⟩
theorem ok_lessL {f fL : Addr} {fd fdL : FuncData} (F : Fun K "_law_less" "_law_less" lLess f fd) (FL : FnOk P w K mg base CX0 1 fL fdL ["top", "low"] spLow) (mL : mg "_law_frac" = some (.ref fL)) (kL : PySem.W.keepIn K (.ref fL) = true) (bL : Binds K fdL ["top", "low"] []) :
    FnOk P w K mg base CX0 2 f fd ["one", "two"] (spBin K lesF) := by
  refine F.ok scLessL (fun vs H Q E h => ?_) (fun cdv A outer s H vs Q E hr h => ?_)
  · obtain ⟨u, v, x, y, rfl, _⟩ := h
    rfl
  · obtain ⟨u, v, x, y, rfl, hx, hy, zx, zy, k⟩ := h
    refine ⟨_, pss_one (ps_ret (pe_call FL hr rfl mL kL bL .nil pass0 (pa_cons (pe_op op_sub (pe_op op_mulW (pe_ix ix_tup (pv 0) pe_int (fun _ _ => rfl)) (pe_ix ix_tup (pv 1) pe_int (fun _ _ => rfl))) (pe_op op_mulW (pe_ix ix_tup (pv 1) pe_int (fun _ _ => rfl)) (pe_ix ix_tup (pv 0) pe_int (fun _ _ => rfl))))
        (pa_cons (pe_op op_mulW (pe_ix ix_tup (pv 0) pe_int (fun _ _ => rfl)) (pe_ix ix_tup (pv 1) pe_int (fun _ _ => rfl))) pa_nil)))), ?_⟩
    obtain ⟨z1, z2⟩ := z9 zx zy
    refine ret_call (K := K) (D := { nx := _, rt := Q }) (ai_cons (vi_sub (vi_mul (vi_ix0 rfl hx) (vi_ix1 rfl hy) (cmul (a := 3999) (b := 3999) zx.n zy.d (by decide))) (vi_mul (vi_ix0 rfl hy) (vi_ix1 rfl hx) (cmul (a := 3999) (b := 3999) zy.n zx.d (by decide)))) (ai_cons (vi_mul (vi_ix1 rfl hx) (vi_ix1 rfl hy) (cmul (a := 3999) (b := 3999) zx.d zy.d (by decide))) ai_nil)) ?_
    exact ⟨_, _, rfl, z1, z2, fun p hp => k _ _ (same_upd hp) (FrV.new (x := lesF x y))⟩
theorem scByL : FnScope ["one", "two"] ["one", "two"] (defScope lBy) := ⟨rfl, rfl, rfl, by decide +kernel, rfl, by decide +kernel, by decide +kernel⟩
theorem ok_byL {f fL : Addr} {fd fdL : FuncData} (F : Fun K "_law_by" "_law_by" lBy f fd) (FL : FnOk P w K mg base CX0 1 fL fdL ["top", "low"] spLow) (mL : mg "_law_frac" = some (.ref fL)) (kL : PySem.W.keepIn K (.ref fL) = true) (bL : Binds K fdL ["top", "low"] []) :
    FnOk P w K mg base CX0 2 f fd ["one", "two"] (spBin K mulF) := by
  refine F.ok scByL (fun vs H Q E h => ?_) (fun cdv A outer s H vs Q E hr h => ?_)
  · obtain ⟨u, v, x, y, rfl, _⟩ := h
    rfl
  · obtain ⟨u, v, x, y, rfl, hx, hy, zx, zy, k⟩ := h
    refine ⟨_, pss_one (ps_ret (pe_call FL hr rfl mL kL bL .nil pass0 (pa_cons (pe_op op_mulW (pe_ix ix_tup (pv 0) pe_int (fun _ _ => rfl)) (pe_ix ix_tup (pv 1) pe_int (fun _ _ => rfl)))
        (pa_cons (pe_op op_mulW (pe_ix ix_tup (pv 0) pe_int (fun _ _ => rfl)) (pe_ix ix_tup (pv 1) pe_int (fun _ _ => rfl))) pa_nil)))), ?_⟩
    obtain ⟨z1, z2⟩ := z9 zx zy
    refine ret_call (K := K) (D := { nx := _, rt := Q }) (ai_cons (vi_mul (vi_ix0 rfl hx) (vi_ix0 rfl hy) (cmul (a := 3999) (b := 3999) zx.n zy.n (by decide))) (ai_cons (vi_mul (vi_ix1 rfl hx) (vi_ix1 rfl hy) (cmul (a := 3999) (b := 3999) zx.d zy.d (by decide))) ai_nil)) ?_
    exact ⟨_, _, rfl, z1, z2, fun p hp => k _ _ (same_upd hp) (FrV.new (x := mulF x y))⟩
end
end KP

set_option Elab.async false
set_option linter.all false
set_option maxRecDepth 100000
set_option maxHeartbeats 2000000
/-! ### drawn nets that are nets: the data -/
namespace KP
open PySem PySem.Spec PyProof.Rows L2 KX KT KJ KS FR
structure Told (x : Fr) : Prop where
  pos : 0 < x.2
  d : x.2 ≤ 999
  n : x.1.natAbs ≤ 999
  g : Nat.gcd x.1.natAbs x.2.natAbs = 1
def fD (x : Fr) : PyData := .tuple [.int x.1, .int x.2]
theorem low_told {t l : Int} (h : 0 < l) (hl : l ≤ 999) (ht : t.natAbs ≤ 999) : Told (low t l) := by
  have hg := gcd_pos (t := t) h
  obtain ⟨e1, e2⟩ := low_abs (t := t) h
  have g2 : Nat.gcd t.natAbs l.natAbs ∣ l.natAbs := Nat.gcd_dvd_right _ _
  have q2 : 0 < l.natAbs / Nat.gcd t.natAbs l.natAbs := Nat.div_pos (Nat.le_of_dvd (by omega) g2) hg
  have q3 := Nat.div_le_self l.natAbs (Nat.gcd t.natAbs l.natAbs)
  have q4 := Nat.div_le_self t.natAbs (Nat.gcd t.natAbs l.natAbs)
  refine ⟨by rw [e2]; omega, by rw [e2]; omega, by rw [e1]; omega, ?_⟩
  rw [e1, e2, Int.natAbs_natCast]
  exact Nat.coprime_div_gcd_div_gcd hg
theorem told_is {x : Fr} (h : Told x) : isTold (fD x) = true := by
  obtain ⟨h1, h2, h3, h4⟩ := h
  have e : (if x.1 < 0 then -x.1 else x.1) ≤ 999 := by split <;> omega
  simp [isTold, isR, shp, fD, tyN, lenT, ith, ratio2, small2, h1, h2, h4, e]
theorem told_bd {x : Fr} (h : Told x) : Bd x.2.natAbs 999 x := ⟨h.pos, by have := h.pos; rw [show ((x.2.natAbs : Nat) : Int) = x.2 by omega]; exact Int.dvd_refl _, Nat.le_trans h.n (by have := h.pos; omega)⟩
structure Pp where
  s : Nat
  e : Option Nat
  sh : Nat ⊕ Fr
def shD : Nat ⊕ Fr → PyData
  | .inl j => .tuple [.str "x", .int (j : Nat)]
  | .inr x => fD x
def enD : Option Nat → PyData
  | none => .none
  | some k => .int (k : Nat)
def ppD (p : Pp) : PyData := .tuple [.int (p.s : Nat), enD p.e, shD p.sh]
def natsD (ns : List Nat) : List PyData := ns.map fun i => .int (i : Nat)
structure NetM where
  m : Nat
  u : Nat
  ps : List Pp
  fs : List Nat
  ss : List Nat
def NetM.d (n : NetM) : PyData := .tuple [.int (n.m : Nat), .int (n.u : Nat), .tuple (n.ps.map ppD), .tuple (natsD n.fs), .tuple (natsD n.ss)]
def GoodS (u : Nat) : Nat ⊕ Fr → Prop
  | .inl j => j < u
  | .inr x => Told x
structure GoodP (m u : Nat) (p : Pp) : Prop where
  s : p.s < m
  e : ∀ k, p.e = some k → k < m ∧ k ≠ p.s
  sh : GoodS u p.sh
structure GoodT (m : Nat) (ns : List Nat) : Prop where
  ne : ns ≠ []
  asc : ns.Pairwise (· < ·)
  lt : ∀ i ∈ ns, i < m
  len : ns.length ≤ m
structure GoodN (n : NetM) : Prop where
  m1 : 1 ≤ n.m
  m4 : n.m ≤ 4
  u4 : n.u ≤ 4
  mu : n.m + n.u ≤ 7
  len : n.ps.length ≤ 12
  ps : ∀ p ∈ n.ps, GoodP n.m n.u p
  dist : distB (n.ps.map ppD) = true
  fs : GoodT n.m n.fs
  ss : GoodT n.m n.ss
theorem goodP_is {m u : Nat} {p : Pp} (h : GoodP m u p) : isPipe (m : Nat) (u : Nat) (ppD p) = true := by
  obtain ⟨h1, h2, h3⟩ := h
  have c1 : isW (.int (p.s : Nat)) 0 ((m : Int) - 1) = true := by simp only [isW, Bool.and_eq_true, decide_eq_true_eq]; omega
  have c2 : isShare (u : Nat) (shD p.sh) = true := by
    cases q : p.sh with
    | inl j =>
      rw [q] at h3
      have h3 : j < u := h3
      have : (j : Int) ≤ (u : Int) - 1 := by omega
      simp [shD, isShare, shp, tyN, lenT, ith, isX, isW, this]
    | inr x =>
      rw [q] at h3
      have h3 : Told x := h3
      have z := told_is h3
      show (shp 2 (fD x) && _) = true
      rw [show shp 2 (fD x) = true from rfl, Bool.true_and, if_neg (by simp [ith, shD, fD, tyN])]
      exact z
  have c3 : (isNon (enD p.e) || (isW (enD p.e) 0 ((m : Int) - 1) && !eqI (enD p.e) (.int (p.s : Nat)))) = true := by
    cases q : p.e with
    | none => rfl
    | some k =>
      obtain ⟨a, b⟩ := h2 k q
      have e1 : (k : Int) ≤ (m : Int) - 1 := by omega
      have e2 : ¬ (k : Int) = (p.s : Int) := by omega
      simp [enD, isNon, isW, eqI, e1, e2]
  show (shp 3 (ppD p) && (!(!isW (.int (p.s : Nat)) 0 ((m : Int) - 1) || !isShare (u : Nat) (shD p.sh)) && (isNon (enD p.e) || (isW (enD p.e) 0 ((m : Int) - 1) && !eqI (enD p.e) (.int (p.s : Nat)))))) = true
  rw [c1, c2, c3]
  rfl
theorem nats_get {ns : List Nat} {i : Nat} (h : i < ns.length) : (natsD ns).getD i .none = .int ((ns[i] : Nat) : Int) := by
  rw [List.getD_eq_getElem?_getD]
  simp [natsD, List.getElem?_eq_getElem h]
theorem goodT_is {m : Nat} {ns : List Nat} (h : GoodT m ns) : areT (m : Nat) (.tuple (natsD ns)) = true := by
  obtain ⟨h1, h2, h3, h4⟩ := h
  have hl : (natsD ns).length = ns.length := List.length_map _
  have l1 : 1 ≤ ns.length := List.length_pos_iff.mpr h1
  have e2 : areT (m : Nat) (.tuple (natsD ns)) = ((decide (1 ≤ ((natsD ns).length : Int)) && decide (((natsD ns).length : Int) ≤ (m : Nat))) && ((natsD ns).all (fun e => isW e 0 ((m : Int) - 1)) && ascB (natsD ns))) := by
    unfold areT
    have e0 : decide (tyN (.tuple (natsD ns)) = "tuple") = true := decide_eq_true rfl
    rw [e0, Bool.true_and]
    rfl
  rw [e2, hl, decide_eq_true (show (1 : Int) ≤ (ns.length : Nat) by omega), decide_eq_true (show ((ns.length : Nat) : Int) ≤ (m : Nat) by omega), Bool.true_and, Bool.true_and, Bool.and_eq_true]
  constructor
  · rw [List.all_eq_true]
    intro d hd
    obtain ⟨i, hi, rfl⟩ := List.mem_map.mp hd
    have := h3 i hi
    simp only [isW, Bool.and_eq_true, decide_eq_true_eq]
    omega
  · unfold ascB
    rw [List.all_eq_true]
    intro i hi
    rw [List.mem_range, hl] at hi
    rw [nats_get (by omega), nats_get (by omega)]
    have := List.pairwise_iff_getElem.mp h2 i (i + 1) (by omega) (by omega) (by omega)
    simp only [ltI, decide_eq_true_eq]
    omega
theorem goodN_is {n : NetM} (h : GoodN n) : isNet n.d = true := by
  have c1 : isW (.int (n.m : Nat)) 1 4 = true := by have := h.m1; have := h.m4; simp only [isW, Bool.and_eq_true, decide_eq_true_eq]; omega
  have c2 : isW (.int (n.u : Nat)) 0 4 = true := by have := h.u4; simp only [isW, Bool.and_eq_true, decide_eq_true_eq]; omega
  have c3 : areP (n.m : Nat) (n.u : Nat) (.tuple (n.ps.map ppD)) = true := by
    unfold areP
    have e0 : decide (tyN (.tuple (n.ps.map ppD)) = "tuple") = true := decide_eq_true rfl
    have e1 : decide ((12 : Int) < (lenT (.tuple (n.ps.map ppD)) : Int)) = false := decide_eq_false (by have := h.len; show ¬ (12 : Int) < ((n.ps.map ppD).length : Int); rw [List.length_map]; omega)
    have e2 : (itms (.tuple (n.ps.map ppD))).all (isPipe (n.m : Nat) (n.u : Nat)) = true := by
      rw [List.all_eq_true]
      intro d hd
      obtain ⟨p, hp, rfl⟩ := List.mem_map.mp (show d ∈ n.ps.map ppD from hd)
      exact goodP_is (h.ps p hp)
    rw [e0, e1, e2]
    exact h.dist
  have c4 : decide ((7 : Int) < (n.m : Nat) + (n.u : Nat)) = false := decide_eq_false (by have := h.mu; omega)
  show (shp 5 n.d && (!(!isW (.int (n.m : Nat)) 1 4 || !isW (.int (n.u : Nat)) 0 4) && (!decide ((7 : Int) < (n.m : Nat) + (n.u : Nat)) && (areP (n.m : Nat) (n.u : Nat) (.tuple (n.ps.map ppD)) && (areT (n.m : Nat) (.tuple (natsD n.fs)) && areT (n.m : Nat) (.tuple (natsD n.ss))))))) = true
  rw [c1, c2, c3, c4, goodT_is h.fs, goodT_is h.ss]
  rfl
theorem dist_snoc {ds : List PyData} {d : PyData} (h : distB ds = true) (hn : (ds.any fun z => PyData.eqv z d) = false) : distB (ds ++ [d]) = true := by
  unfold distB at h ⊢
  rw [List.all_eq_true] at h ⊢
  intro i hi
  rw [List.mem_range, List.length_append, List.length_singleton] at hi
  by_cases c : i < ds.length
  · have q := h i (List.mem_range.mpr c)
    rw [List.take_append_of_le_length (Nat.le_of_lt c), List.getD_eq_getElem?_getD, List.getElem?_append_left c, ← List.getD_eq_getElem?_getD]
    exact q
  · have e : i = ds.length := by omega
    subst e
    rw [List.take_append_of_le_length (Nat.le_refl _), List.take_length, List.getD_eq_getElem?_getD, List.getElem?_append_right (Nat.le_refl _), Nat.sub_self]
    show (!ds.any fun z => PyData.eqv z d) = true
    rw [hn]
    rfl
theorem pp_flat {p : Pp} : Flat (ppD p) := by
  have ok : PyData.strOk "x" = true := by decide +kernel
  cases p with
  | mk s e sh =>
    cases sh <;> cases e <;> exact ⟨by simp [ppD, enD, shD, fD, PyData.canLay0, PyData.canLayAll0, ok], by simp [ppD, enD, shD, fD, PyData.depth, PyData.depthAll], by simp [ppD, enD, shD, fD, PyData.hasDict, PyData.hasDictAll]⟩
theorem flat_shapedL {ds : List PyData} (h : ∀ d ∈ ds, Flat d) : SeqAt.shaped (.list ds) = true ∧ (PyData.list ds).hasDict = false := by
  obtain ⟨a, b, c⟩ := flat_all h
  refine ⟨shaped_of (by simpa [PyData.canLay0] using a) ?_, by simpa [PyData.hasDict] using c⟩
  simp only [PyData.depth]
  omega
end KP

set_option Elab.async false
set_option linter.all false
set_option maxRecDepth 100000
set_option maxHeartbeats 2000000
/-! ### tuples whose object is known to have no dict: made by tuple(list), cut, asked for a place -/
namespace KX
open PySem PySem.Spec PyProof.Rows L2
/-- a tuple with no dict of its own -/
def FzV (H : Hp) (v : V) : Prop := ∃ (a : Addr) (xs : List V) (o : Obj), v = .ref a ∧ o.dict = none ∧ H a = some (.frz o (.tup xs))
theorem FzV.same {H H' : Hp} {v : V} (h : FzV H v) (s : Same H H') : FzV H' v := by
  obtain ⟨a, xs, o, e, d, q⟩ := h
  exact ⟨a, xs, o, e, d, s _ _ q⟩
section
variable {X : Cx} {a : Expr} {ta : TE}
def kTupF (K : PySem.W.Frag) (x : V) (H : Hp) (Q : VK) : Prop := ∃ p xs, x = .ref p ∧ SqL K H p xs ∧ ∀ q o, H q = none → o.dict = none → Q (.ref q) (upd H q (.frz o (.tup xs)))
theorem rl_tupleF (pins : List (Addr × Obj)) (s : Shared) (σ : L2.St) (H : Hp) (x : V) (v : Value) (Q : VK) (I : Inv X pins σ H s) (r : RelV x v) (h : kTupF X.K x H Q) :
    wpAny (model X.prog X.w) X.A (call (.type "tuple") [v]) (EP X pins σ Q) X.xe s := by
  obtain ⟨p, xs, rfl, hs, q⟩ := h
  obtain rfl : v = .ref p := r
  obtain ⟨its, rv, pl, hz⟩ := I.list hs
  refine call_tuple_list pl.isList (fun h' hk => ?_) (by rw [List.size_toArray, ← rv.length]; exact hz)
  have I1 : Inv X pins σ H { s with heap := h' } := I.kept (t' := s.toks) hk
  have I2 : Inv X pins σ (upd H h'.objs.size (.frz { cls := .type "tuple", data := .seq its.toArray } (.tup xs))) { s with heap := h'.push { cls := .type "tuple", data := .seq its.toArray } } :=
    I1.laid (t' := s.toks) (fun b o e => Heap.get?_push_of_some _ e) (Nat.le_refl _) (show ObjOk X.prog X.w _ _ _ (.frz _ (.tup xs)) from ⟨Heap.get?_push_size _ rfl, hz, its, rv, IsTup.new _ _⟩)
  exact ⟨.ref h'.objs.size, _, I2, rfl, q _ _ (I1.hok.fresh (Nat.le_refl _)) rfl⟩
theorem pe_tupleOfF {p pos : Pos} (hg : Gl X "tuple") (hm : X.mg "tuple" = none) (ha : PE X a ta) (na : starEach [a] X.env = (false, eval a X.env) :: starEach [] X.env := by rfl) :
    PE X (.Call (.Name "tuple" p) [a] [] pos) (tThen ta (kTupF X.K)) := by
  refine ⟨fun pins s σ H Q I h => ?_⟩
  exact Call_ (ld_blt I hg hm boot_tuple (PyProof.Rows.callWith_type1 (one_arg ha I h (fun v s2 x H2 I2 r q => rl_tupleF pins s2 σ H2 x v Q I2 r q) na) na))
def rSlF (K : PySem.W.Frag) : V → Option Int → Option Int → Hp → VK → Prop := fun x lo hi H Q => ∃ a xs o, x = .ref a ∧ H a = some (.frz o (.tup xs)) ∧ 
  (HT.sIx xs.length 0 lo = 0 ∧ HT.sIx xs.length xs.length hi = xs.length → Q (.ref a) H) ∧ (¬ (HT.sIx xs.length 0 lo = 0 ∧ HT.sIx xs.length xs.length hi = xs.length) → ∀ p o', H p = none → o'.dict = none → Q (.ref p) (upd H p (.frz o' (.tup (cutV xs lo hi)))))
theorem sl_tupF : SlR X (rSlF X.K) := by
  intro pins s σ H x v vl vu lo hi sl Q I rx hs pl pu h
  obtain ⟨a, xs, o, rfl, hx, q1, q2⟩ := h
  cases rx
  obtain ⟨its, r, ht, hz⟩ := I.tuple (show SqT X.K H a xs from .inl (.inr ⟨o, hx⟩))
  have hlen : its.toArray.size = xs.length := by rw [List.size_toArray]; exact r.length.symm
  refine ⟨"tuple", _, PyProof.Rows.slot_tuple_getitem.lookup, ht.typeIs, ?_⟩
  by_cases hw : HT.sIx xs.length 0 lo = 0 ∧ HT.sIx xs.length xs.length hi = xs.length
  · exact getItem_tuple_whole ht hs pl pu (by rw [hlen]; exact hw) ⟨.ref a, H, I, rfl, q1 hw⟩
  · refine HT.getItem_tuple_cut ht hs pl pu (by rw [hlen]; exact hw) ?_ (by rw [hlen]; exact hz)
    rw [hlen]
    refine ⟨.ref s.heap.objs.size, _, I.laid (t' := s.toks) (o := .frz { cls := .type "tuple", data := .seq ((its.toArray.toList.drop (HT.sIx xs.length 0 lo)).take (HT.sIx xs.length xs.length hi - HT.sIx xs.length 0 lo)).toArray } (.tup (cutV xs lo hi))) (fun b ob q => Heap.get?_push_of_some _ q) (Nat.le_refl _) ?_, rfl, q2 hw _ _ (I.hok.fresh (Nat.le_refl _)) rfl⟩
    exact ⟨Heap.get?_push_size _ rfl, Nat.le_trans (cutV_length xs lo hi) hz, _, (r.drop (HT.sIx xs.length 0 lo)).take (HT.sIx xs.length xs.length hi - HT.sIx xs.length 0 lo), IsTup.new _ _⟩
theorem fzV_is {pins : List (Addr × Obj)} {σ : L2.St} {H : Hp} {s : Shared} {x : V} {v : Value} (I : Inv X pins σ H s) (r : RelV x v) (ty : FzV H x) :
    s.TypeIs v "tuple" ∧ ∀ a, v = .ref a → ∃ ob, s.heap.get? a = some ob ∧ ob.dict = none := by
  obtain ⟨a, xs, o, rfl, d, e⟩ := ty
  obtain rfl : v = .ref a := r
  obtain ⟨h1, _, its, _, ht⟩ := (show ObjOk X.prog X.w H s.heap a (.frz o (.tup xs)) from I.hok a _ e)
  exact ⟨ht.typeIs, fun b hb => by cases hb; exact ⟨o, h1, d⟩⟩
def tBMF (r : V → List V → Hp → VK → Prop) (to : TE) (t : TA) : TE := fun σ H Q => to σ H fun x H1 => FzV H1 x ∧ t σ H1 fun xs H2 => r x xs H2 Q
variable {o e : Expr} {es : List Expr} {to : TE} {t : TA} {name : Str} {apos cpos : Pos} {id : String} {r : V → List V → Hp → VK → Prop}
theorem pe_bmF (pa : PlainAttrs "tuple") (slot : Slot "tuple" name id) (hty : typeOf (.builtin id) = pure (.type "method_descriptor")) (hm : MtR X id r) (ho : PE X o to) (ha : PA X (e :: es) t)
    (hbase : attributeBase o name X.env (eval o X.env) = eval o X.env := by rfl)
    (hfew : ((backTo cpos (starEach (e :: es) X.env)).all (fun x => !x.1) && (backToKw cpos (keywordEach [] X.env)).all (fun x => x.1.isSome)
      && decide ((e :: es).length + ([] : List Keyword).length + (if ([] : List Keyword).isEmpty then 0 else 1) < 30)) = true := by rfl)
    (hline : (apos.endLine == cpos.line) = true := by rfl) (hs : starEach (e :: es) X.env = (false, eval e X.env) :: starEach es X.env := by rfl) (hplain : (backTo cpos (starEach es X.env)).any (·.1) = false := by rfl) :
    PE X (.Call (.Attribute o name apos) (e :: es) [] cpos) (tBMF r to t) := by
  refine ⟨fun pins s σ H Q I h => ?_⟩
  refine wpAny_Call_method_late hbase hfew hline rfl (thn (ho.run pins s σ H _ I h) fun v s1 ⟨x, H1, I1, r1, ty, q1⟩ => ?_)
  obtain ⟨h1, h2⟩ := fzV_is I1 r1 ty
  refine ⟨"tuple", id, pa, slot, hty, h1, h2, ?_⟩
  have hA := ha.run cpos pins s1 σ H1 _ I1 q1
  rw [hs] at hA ⊢
  refine Calls.callWith_builtin (by show (false || (backTo cpos (starEach es X.env)).any (·.1)) = false; rw [hplain] <;> rfl) (Calls.evalArgs_plain ?_)
  exact thn hA fun us s2 ⟨vs, H2, I2, r2, q2⟩ => hm pins s2 σ H2 x vs v us Q I2 r1 r2 q2
end
end KX

set_option Elab.async false
set_option linter.all false
set_option maxRecDepth 100000
set_option maxHeartbeats 4000000
/-! ### drawn nets that are nets: the draws -/
namespace KP
open PySem PySem.Spec PyProof.Rows L2 KX KT KJ KS FR
structure TxD (mg : Str → Option Value) : Prop extends TxL mg where
  set : mg "set" = none
  sorted : mg "sorted" = none
  list : mg "list" = none
  repr : mg "repr" = none
  max : mg "max" = none
  min : mg "min" = none
def spPart2 : Sp := fun vs H Q _ => ∃ j n, vs = [.ref j] ∧ JarAt H j n ∧ n ≤ 900000 ∧ ∀ v x H', Told x → Th (hid j H') v (fD x) → KJ.But j H H' → JarAt H' j (n + 3) → Q v H'
def spLot2 : Sp := fun vs H Q _ => ∃ j, ∃ m n : Nat, vs = [.ref j, .int (m : Nat)] ∧ 1 ≤ m ∧ m ≤ 4 ∧ JarAt H j n ∧ n ≤ 900000 ∧ ∀ v ns H', GoodT m ns → Th (hid j H') v (.tuple (natsD ns)) → FzV (hid j H') v → KJ.But j H H' → JarAt H' j (n + 2) → Q v H'
/-- a net whose fifth part has no dict of its own -/
def NetZ (H : Hp) (v : V) : Prop := ∃ (a : Addr) (p0 p1 p2 p3 u : V), v = .ref a ∧ H a = some (.tup [p0, p1, p2, p3, u]) ∧ FzV H u
theorem NetZ.same {H H' : Hp} {v : V} (h : NetZ H v) (s : Same H H') : NetZ H' v := by
  obtain ⟨a, p0, p1, p2, p3, u, e, q, f⟩ := h
  exact ⟨a, p0, p1, p2, p3, u, e, s _ _ q, f.same s⟩
def spMake2 : Sp := fun vs H Q _ => ∃ j n, vs = [.ref j, .int 4] ∧ JarAt H j n ∧ n ≤ 800000 ∧ ∀ v nt H', GoodN nt → Th (hid j H') v nt.d → NetZ (hid j H') v → KJ.But j H H' → JarAt H' j (n + 100) → Q v H'
theorem asc_card : ∀ {ns : List Nat} {m : Nat}, ns.Pairwise (· < ·) → (∀ i ∈ ns, i < m) → ns.length ≤ m := by
  intro ns m h1 h2
  have h : ∀ i (hi : i < ns.length), i ≤ ns[i] := by
    intro i
    induction i with
    | zero => intro _; exact Nat.zero_le _
    | succ i ih =>
      intro hi
      have a := ih (by omega)
      have b := List.pairwise_iff_getElem.mp h1 i (i + 1) (by omega) hi (by omega)
      omega
  by_cases c : ns.length = 0
  · omega
  · have a := h (ns.length - 1) (by omega)
    have b := h2 (ns[ns.length - 1]'(by omega)) (List.getElem_mem _)
    omega
theorem goodT_of {m : Nat} {ms : List Int} (hp : ms.Pairwise (· < ·)) (h0 : ∀ z ∈ ms, 0 ≤ z ∧ z < (m : Nat)) (hn : ms ≠ []) : GoodT m (ms.map Int.toNat) ∧ ms.map PyData.int = natsD (ms.map Int.toNat) := by
  have e : ms.map PyData.int = natsD (ms.map Int.toNat) := by
    unfold natsD
    rw [List.map_map]
    refine List.map_congr_left fun z hz => ?_
    have := (h0 z hz).1
    show PyData.int z = PyData.int ((z.toNat : Nat) : Int)
    rw [Int.toNat_of_nonneg this]
  have lt : ∀ i ∈ ms.map Int.toNat, i < m := fun i hi => by
    obtain ⟨z, hz, rfl⟩ := List.mem_map.mp hi
    have := h0 z hz
    omega
  have asc : (ms.map Int.toNat).Pairwise (· < ·) := by
    rw [List.pairwise_map]
    refine hp.imp_of_mem fun {a b} ha hb h => ?_
    have := h0 a ha
    have := h0 b hb
    omega
  exact ⟨⟨fun z => hn (List.map_eq_nil_iff.mp z), asc, lt, asc_card asc lt⟩, e⟩
theorem cut_map {ms : List Int} {k : Nat} : cutD (ms.map PyData.int) none (some (k : Int)) = (ms.take k).map PyData.int := by
  unfold cutD
  rw [HT.sIx_nat, HT.sIx_none, List.drop_zero, Nat.sub_zero, List.length_map, ← List.map_take]
  congr 1
  rw [← List.take_take, List.take_length]
theorem mk_lst {j : Addr} {σ : L2.St} {H : Hp} {ta : TA} {ds : List PyData} (hj : H j ≠ none) (h : MkA j ta σ H ds) (hl : ds.length ≤ 1000) : Mk j (tLst ta) σ H (.list ds) := fun H1 s Q q =>
  h H1 s _ fun vs H2 s2 t2 => ⟨Nat.le_trans (by rw [all2 t2]; exact hl) (by decide), fun p hp => by
    have sp := same_upd (o := .lst vs) hp
    have np := new_ne hp (same_ne (s.trans s2) hj)
    exact q _ _ (s2.trans sp) (.lst (by rw [hid_ne np]; exact upd_same) (ThAllj.same t2 sp))⟩
theorem mk_i {j : Addr} {σ : L2.St} {H : Hp} {i : Int} : Mk j (tC (.int i)) σ H (.int i) := mk_vi fun _ => vi_c
theorem lit_pair {j : Addr} {σ : L2.St} {a b : Int} : Lit j (tTup (tCons (tC (.int a)) (tCons (tC (.int b)) tNil))) σ (.tuple [.int a, .int b]) := lit_tup (litA_cons lit_int (litA_cons lit_int litA_nil)) (by simp)
abbrev nLot : List Str := ["jar", "many", "found", "keep", "at"]
abbrev nMk : List Str := ["jar", "most", "many", "unknowns", "pipes", "turn", "start", "aims", "share", "pipe", "at"]
section
variable {P : Program} {w : World} {K : PySem.W.Frag} {mg : Str → Option Value} {base : Heap}
theorem scPart : FnScope ["jar", "way"] ["jar"] (defScope lToldPart) := ⟨rfl, rfl, rfl, by decide +kernel, rfl, by decide +kernel, by decide +kernel⟩
theorem ok_part2 {f fD fO fF : Addr} {fd fdD fdO fdF : FuncData} (F : Fun K "_law_told_part" "_law_told_part" lToldPart f fd)
    (FD : FnOk P w K mg base CX0 1 fD fdD ["jar", "top"] spDip) (mD : mg "_law_dip" = some (.ref fD)) (kD : PySem.W.keepIn K (.ref fD) = true) (bD : Binds K fdD ["jar", "top"] [])
    (FO : FnOk P w K mg base CX0 2 fO fdO ["jar", "some"] (spOne K)) (mO : mg "_law_one_of" = some (.ref fO)) (kO : PySem.W.keepIn K (.ref fO) = true) (bO : Binds K fdO ["jar", "some"] [])
    (FF : FnOk P w K mg base CX0 1 fF fdF ["top", "low"] spLow) (mF : mg "_law_frac" = some (.ref fF)) (kF : PySem.W.keepIn K (.ref fF) = true) (bF : Binds K fdF ["top", "low"] []) :
    FnOk P w K mg base CX0 3 f fd ["jar"] spPart2 := by
  refine F.ok scPart (fun vs H Q E h => ?_) (fun cdv A outer s H vs Q E hr h => ?_)
  · obtain ⟨j, n, rfl, _⟩ := h
    rfl
  · obtain ⟨j, n, rfl, hj, hn, k⟩ := h
    have hr1 : Room 1 _ := hr.mono (by decide)
    refine ⟨_, pss_cons (ps_set (i := 1) scPart.nd rfl (Or.inl rfl) (pe_call FD hr1 rfl mD kD bD .nil pass0 (pa_cons (pv 0) (pa_cons pe_int pa_nil))))
      (pss_cons (ps_if (pt_cmpR op_lt (pv 1) pe_int (nomark _)) (pss_one (ps_ret (pe_call FO hr rfl mO kO bO .nil pass0 (pa_cons (pv 0) (pa_cons (pe_lst (pa_cons (pe_tup (pa_cons pe_int (pa_cons pe_int pa_nil))) (pa_cons (pe_tup (pa_cons pe_int (pa_cons pe_int pa_nil))) (pa_cons (pe_tup (pa_cons pe_int (pa_cons pe_int pa_nil))) (pa_cons (pe_tup (pa_cons pe_int (pa_cons pe_int pa_nil)))
          (pa_cons (pe_tup (pa_cons pe_int (pa_cons pe_int pa_nil))) (pa_cons (pe_tup (pa_cons pe_int (pa_cons pe_int pa_nil))) (pa_cons (pe_tup (pa_cons (pe_un un_neg pe_int) (pa_cons pe_int pa_nil))) (pa_cons (pe_tup (pa_cons pe_int (pa_cons pe_int pa_nil))) (pa_cons (pe_tup (pa_cons pe_int (pa_cons pe_int pa_nil))) (pa_cons (pe_tup (pa_cons pe_int (pa_cons pe_int pa_nil))) pa_nil))))))))))) pa_nil))))) pss_nil)
      (pss_cons (ps_if (pt_cmpR op_lt (pv 1) pe_int (nomark _)) (pss_one (ps_ret (pe_call FF hr1 rfl mF kF bF .nil pass0 (pa_cons (pe_op op_sub (pe_call FD hr1 rfl mD kD bD .nil pass0 (pa_cons (pv 0) (pa_cons pe_int pa_nil))) pe_int) (pa_cons (pe_op op_add pe_int (pe_call FD hr1 rfl mD kD bD .nil pass0 (pa_cons (pv 0) (pa_cons pe_int pa_nil)))) pa_nil))))) pss_nil)
      (pss_one (ps_ret (pe_call FF hr1 rfl mF kF bF .nil pass0 (pa_cons (pe_op op_sub (pe_call FD hr1 rfl mD kD bD .nil pass0 (pa_cons (pv 0) (pa_cons pe_int pa_nil))) pe_int) (pa_cons (pe_op op_add pe_int (pe_call FD hr1 rfl mD kD bD .nil pass0 (pa_cons (pv 0) (pa_cons pe_int pa_nil)))) pa_nil))))))), ?_⟩
    have two : ∀ (H1 : Hp) (a1 a2 : Int) (p : Addr), 0 < a2 → a2 ≤ 999 → a1.natAbs ≤ 999 → KJ.But j H H1 → JarAt H1 j (n + 3) → H1 p = none → Q (.ref p) (upd H1 p (.tup [.int (low a1 a2).1, .int (low a1 a2).2])) := fun H1 a1 a2 p h1 h2 h3 b jr hp => by
      have sp := same_upd (o := .tup [V.int (low a1 a2).1, .int (low a1 a2).2]) hp
      exact k _ (low a1 a2) _ (low_told h1 h2 h3) (.tup (by rw [hid_ne (new_ne hp (jar_ne jr))]; exact upd_same) (.cons (.int _) (.cons (.int _) .nil))) (b.trans (KJ.But.same sp)) (jar_same jr sp)
    have p9 : ∀ {l : Int}, 0 < l → l ≤ 999 → l.natAbs < 2 ^ 9000 := fun {l} h1 h2 => Nat.lt_of_lt_of_le (show l.natAbs < 2 ^ 10 by omega) (Nat.pow_le_pow_right (by decide) (by decide))
    refine ⟨_, rfl, j, _, n, rfl, by decide, by decide, hj, by omega, fun way H1 w0 w1 b1 j1 => ?_⟩
    refine ⟨_, rfl, _, _, rfl, rfl, _, rfl, ite2 (fun c => ?_) (fun c => ?_)⟩
    · refine ⟨_, rfl, ?_⟩
      have L : Lit j (tLst (tCons (tTup (tCons (tC (.int 0)) (tCons (tC (.int 1)) tNil))) (tCons (tTup (tCons (tC (.int 1)) (tCons (tC (.int 1)) tNil))) (tCons (tTup (tCons (tC (.int 1)) (tCons (tC (.int 2)) tNil))) (tCons (tTup (tCons (tC (.int 1)) (tCons (tC (.int 3)) tNil))) (tCons (tTup (tCons (tC (.int 1)) (tCons (tC (.int 4)) tNil)))
        (tCons (tTup (tCons (tC (.int 2)) (tCons (tC (.int 3)) tNil))) (tCons (tTup (tCons (tUn (rU fun i => .int (-i)) (tC (.int 1))) (tCons (tC (.int 2)) tNil))) (tCons (tTup (tCons (tC (.int 3)) (tCons (tC (.int 2)) tNil))) (tCons (tTup (tCons (tC (.int 1)) (tCons (tC (.int 5)) tNil))) (tCons (tTup (tCons (tC (.int 2)) (tCons (tC (.int 1)) tNil))) tNil))))))))))) ((L2.start ["jar", "way"] [V.ref j]).set 1 (some (.int way))) _ :=
        lit_lst (litA_cons lit_pair (litA_cons lit_pair (litA_cons lit_pair (litA_cons lit_pair (litA_cons lit_pair (litA_cons lit_pair (litA_cons (lit_tup (litA_cons lit_neg (litA_cons lit_int litA_nil)) (by simp)) (litA_cons lit_pair (litA_cons lit_pair (litA_cons lit_pair litA_nil)))))))))) (by simp)
      refine L H1 _ (jar_ne j1) fun v H2 s2 t2 => ?_
      have tv := t2
      cases t2 with
      | lst e2 ta =>
        refine one_of (K := K) (E := L2.E0) tv (.inl rfl) (by simp) (by simp) (jar_same j1 s2) (by omega) fun x e H3 he te b3 j3 => ?_
        obtain ⟨f, rfl, hf⟩ : ∃ f, e = KP.fD f ∧ Told f := by
          simp only [List.mem_cons, List.not_mem_nil, or_false] at he
          rcases he with rfl | rfl | rfl | rfl | rfl | rfl | rfl | rfl | rfl | rfl
          · exact ⟨(0, 1), rfl, by decide, by decide, by decide, by decide +kernel⟩
          · exact ⟨(1, 1), rfl, by decide, by decide, by decide, by decide +kernel⟩
          · exact ⟨(1, 2), rfl, by decide, by decide, by decide, by decide +kernel⟩
          · exact ⟨(1, 3), rfl, by decide, by decide, by decide, by decide +kernel⟩
          · exact ⟨(1, 4), rfl, by decide, by decide, by decide, by decide +kernel⟩
          · exact ⟨(2, 3), rfl, by decide, by decide, by decide, by decide +kernel⟩
          · exact ⟨(-1, 2), rfl, by decide, by decide, by decide, by decide +kernel⟩
          · exact ⟨(3, 2), rfl, by decide, by decide, by decide, by decide +kernel⟩
          · exact ⟨(1, 5), rfl, by decide, by decide, by decide, by decide +kernel⟩
          · exact ⟨(2, 1), rfl, by decide, by decide, by decide, by decide +kernel⟩
        exact k x f H3 hf te (b1.trans ((KJ.But.same s2).trans b3)) (jar_more j3 (by omega))
    refine ⟨_, rfl, _, _, rfl, rfl, _, rfl, ite2 (fun c2 => ?_) (fun c2 => ?_)⟩
    · refine ⟨_, rfl, j, _, _, rfl, by decide, by decide, j1, by omega, fun r1 H2 r10 r11 b2 j2 => ⟨_, _, rfl, rfl, ?_⟩⟩
      refine ⟨_, rfl, j, _, _, rfl, by decide, by decide, j2, by omega, fun r2 H3 r20 r21 b3 j3 => ⟨_, _, rfl, rfl, ?_⟩⟩
      exact ⟨_, _, rfl, by omega, p9 (by omega) (by omega), fun p hp => two H3 _ _ p (by omega) (by omega) (by omega) (b1.trans (b2.trans b3)) j3 hp⟩
    · refine ⟨_, rfl, j, _, _, rfl, by decide, by decide, j1, by omega, fun r1 H2 r10 r11 b2 j2 => ⟨_, _, rfl, rfl, ?_⟩⟩
      refine ⟨_, rfl, j, _, _, rfl, by decide, by decide, j2, by omega, fun r2 H3 r20 r21 b3 j3 => ⟨_, _, rfl, rfl, ?_⟩⟩
      exact ⟨_, _, rfl, by omega, p9 (by omega) (by omega), fun p hp => two H3 _ _ p (by omega) (by omega) (by omega) (b1.trans (b2.trans b3)) j3 hp⟩
theorem scLot : FnScope nLot ["jar", "many"] (defScope lLot) := ⟨rfl, rfl, rfl, by decide +kernel, rfl, by decide +kernel, by decide +kernel⟩
theorem ok_lot2 {f fD : Addr} {fd fdD : FuncData} (F : Fun K "_law_lot" "_law_lot" lLot f fd) (T : TxD mg)
    (FD : FnOk P w K mg base CX0 1 fD fdD ["jar", "top"] spDip) (mD : mg "_law_dip" = some (.ref fD)) (kD : PySem.W.keepIn K (.ref fD) = true) (bD : Binds K fdD ["jar", "top"] []) :
    FnOk P w K mg base CX0 2 f fd ["jar", "many"] spLot2 := by
  refine F.ok scLot (fun vs H Q E h => ?_) (fun cdv A outer s H vs Q E hr h => ?_)
  · obtain ⟨j, m, n, rfl, _⟩ := h
    rfl
  · obtain ⟨j, m, n, rfl, m1, m4, hj, hn, k⟩ := h
    refine ⟨_, pss_cons (ps_setLc (i := 2) (own := [("at", 4)]) (g := gName 4) rfl scLot.nd rfl rfl (sw_true rfl rfl rfl (by decide +kernel)) (pi_range1 rfl T.range (pa_cons (pv 1) pa_nil)) (blkOk_by (N := nLot) (sc := defScope lLot) (by decide +kernel))
          (fun _ _ _ _ _ => pg_name (i := 4) scLot.nd rfl (Or.inl rfl))
          (fun _ _ _ _ _ => pts_one (pt_cmpR op_eq (pe_op op_and (pe_op op_shr (pe_ix (r := rIx K) (by exact ix_seq) (pv 0) pe_int (fun _ _ => rfl)) (pv 4)) pe_int) pe_int (nomark _)))
          (fun _ _ _ _ _ => pv 4))
      (pss_cons (ps_set (i := 3) scLot.nd rfl (Or.inl rfl) (pe_call FD hr rfl mD kD bD .nil pass0 (pa_cons (pv 0) (pa_cons (pv 1) pa_nil))))
      (pss_one (ps_ret (pe_slice sl_tupF (pe_tupleOfF (by rfl) T.tuple (pe_callB (cr_sortedSet rfl) (by rfl) T.sorted (by decide +kernel) (pa_cons (pe_callTy (cr_setL rfl) (by rfl) T.set (by decide +kernel)
          (pa_cons (pe_op op_cat (pv 2) (pe_lst (pa_cons (pv 3) pa_nil))) pa_nil)) pa_nil))) po_none (po_some (pe_op op_add pe_int (pe_call FD hr rfl mD kD bD .nil pass0 (pa_cons (pv 0) (pa_cons (pv 1) pa_nil))))))))), ?_⟩
    refine ⟨_, rfl, _, rfl, by omega, by omega, fun D hD => ?_⟩
    obtain ⟨ja, jb, jc, ej, _⟩ := id hj
    refine lc_range (lo := 0) (n := (m : Int).toNat) (fun i H' => Same H H' ∧ ∃ ns : List Int, ns.length ≤ i ∧ (∀ z ∈ ns, 0 ≤ z ∧ z < (m : Nat)) ∧ H' D = some (.lst (ns.map V.int))) ⟨same_upd hD, [], Nat.le_refl _, (fun z hz => by cases hz), upd_same⟩ ?_ ?_
    · rintro i H' hi ⟨s7, ns, ln, nz, eD⟩
      refine ⟨rfl, ?_⟩
      refine ⟨_, rfl, .inl ⟨j, _, _, .int jb, rfl, rfl, SqL.of (s7 _ _ ej), rfl, ?_⟩⟩
      refine ⟨_, rfl, _, _, rfl, rfl, (by show (0 : Int) ≤ 0 + (i : Int); omega), _, _, rfl, rfl, rfl, _, rfl, ?_⟩
      refine ite2 (fun c => ?_) (fun c => ?_)
      · refine ⟨_, rfl, _, eD, ?_, fun b o eb => ?_, ns ++ [0 + (i : Int)], ?_, fun z hz => ?_, ?_⟩
        · rw [List.length_map]
          exact Nat.lt_of_le_of_lt (show ns.length ≤ 4 by omega) (by decide)
        · have nb : b ≠ D := fun z => by
            rw [z, hD] at eb
            cases eb
          rw [upd_ne nb]
          exact s7 _ _ eb
        · rw [List.length_append, List.length_singleton]
          omega
        · rcases List.mem_append.mp hz with h | h
          · exact nz z h
          · rw [List.mem_singleton.mp h]
            omega
        · rw [upd_same, List.map_append]
          rfl
      · exact ⟨s7, ns, Nat.le_succ_of_le ln, nz, eD⟩
    · rintro H1 ⟨s1, ns, ln, nz, eD⟩
      have nD : D ≠ j := fun z => by
        rw [z, ej] at hD
        cases hD
      refine ⟨_, rfl, _, rfl, j, (m : Nat), n, rfl, by omega, by omega, jar_same hj s1, by omega, fun kp H2 k0 k1 b2 j2 => ?_⟩
      have eD2 : H2 D = some (.lst (ns.map V.int)) := b2 _ _ nD eD
      obtain ⟨ja2, jb2, jc2, ej2, _⟩ := id j2
      refine ⟨_, rfl, _, rfl, (by show 1 ≤ sizeLine; decide), fun l hl => ?_⟩
      have sl := same_upd (o := .lst [V.int kp]) hl
      refine ⟨D, l, _, _, rfl, rfl, sl _ _ eD2, upd_same, ?_, fun p hp => ?_⟩
      · rw [List.length_map]
        exact Nat.le_trans (show ns.length + 1 ≤ 10 by omega) (by decide)
      have sp := same_upd (o := .lst (ns.map V.int ++ [V.int kp])) hp
      have em : ns.map V.int ++ [V.int kp] = (ns ++ [kp]).map V.int := by rw [List.map_append]; rfl
      have ln5 : (ns ++ [kp]).length ≤ 5 := by rw [List.length_append, List.length_singleton]; omega
      refine ⟨p, ns ++ [kp], rfl, SqL.of (by rw [upd_same, em]), by omega, fun q c hq hc => ?_⟩
      have sq := same_upd (o := SetO w q (fun j => decide (j ∈ ns ++ [kp])) c) hq
      refine ⟨q, _, c, rfl, upd_same, by omega, fun ms r asc mem lm hr' => ?_⟩
      have sr := same_upd (o := .lst (ms.map V.int)) hr'
      refine ⟨r, _, rfl, SqL.of upd_same, fun t o ht od => ?_⟩
      have st := same_upd (o := .frz o (.tup (ms.map V.int))) ht
      have s3 := ((sl.trans sp).trans sq).trans (sr.trans st)
      have nT : t ≠ j := new_ne ht (jar_ne (jar_same j2 (((sl.trans sp).trans sq).trans sr)))
      have j3 := jar_same j2 s3
      have mz : ∀ z ∈ ms, 0 ≤ z ∧ z < (m : Nat) := fun z hz => by
        have := of_decide_eq_true ((mem z).mp hz)
        rcases List.mem_append.mp this with h | h
        · exact nz z h
        · rw [List.mem_singleton.mp h]
          exact ⟨k0, k1⟩
      have kin : kp ∈ ms := (mem kp).mpr (decide_eq_true (List.mem_append_right _ (List.mem_singleton.mpr rfl)))
      refine ⟨_, rfl, _, rfl, j, (m : Nat), _, rfl, by omega, by omega, j3, by omega, fun r2 H3 r0 r1 b3 j4 => ⟨_, _, rfl, rfl, _, rfl, ?_⟩⟩
      have eT3 : H3 t = some (.frz o (.tup (ms.map V.int))) := b3 _ _ nT upd_same
      have bb : KJ.But j H H3 := (KJ.But.same s1).trans (b2.trans ((KJ.But.same s3).trans b3))
      have ta := thAll_ints (H := hid j H3) ms
      refine ⟨t, _, o, rfl, eT3, fun z => ?_, fun _ p2 o2 hp2 od2 => ?_⟩
      · obtain ⟨g, e⟩ := goodT_of asc mz (fun z => by rw [z] at kin; cases kin)
        refine k _ _ H3 g (.tup' (.inr ⟨o, by rw [hid_ne nT]; exact eT3⟩) ?_) ⟨t, _, o, rfl, od, by rw [hid_ne nT]; exact eT3⟩ bb j4
        rw [← e]
        exact ta
      · have s4 := same_upd (o := .frz o2 (.tup (cutV (ms.map V.int) none (some (1 + r2))))) hp2
        have er : (1 : Int) + r2 = ((1 + r2.toNat : Nat) : Int) := by omega
        have tc : ThAll (hid j (upd H3 p2 (.frz o2 (.tup (cutV (ms.map V.int) none (some (1 + r2))))))) (cutV (ms.map V.int) none (some (1 + r2))) ((ms.take (1 + r2.toNat)).map PyData.int) := by
          have z := ThAllj.same (ta.cut none (some (1 + r2))) s4
          have e : cutD (ms.map PyData.int) none (some (1 + r2)) = (ms.take (1 + r2.toNat)).map PyData.int := by rw [er, cut_map]
          rw [e] at z
          exact z
        obtain ⟨g, e⟩ := goodT_of (ms := ms.take (1 + r2.toNat)) (m := m) (asc.sublist (List.take_sublist _ _)) (fun z hz => mz z (List.mem_of_mem_take hz)) (fun z => by
          have := congrArg List.length z
          rw [List.length_take, List.length_nil] at this
          have l0 := List.length_pos_of_mem kin
          omega)
        rw [e] at tc
        exact k _ _ _ g (.tup' (.inr ⟨o2, by rw [hid_ne (new_ne hp2 (jar_ne j4))]; exact upd_same⟩) tc) ⟨p2, _, o2, rfl, od2, by rw [hid_ne (new_ne hp2 (jar_ne j4))]; exact upd_same⟩ (bb.trans (KJ.But.same s4)) (jar_same j4 s4)
end
end KP

set_option Elab.async false
set_option linter.all false
set_option maxRecDepth 100000
set_option maxHeartbeats 4000000
/-! ### drawn nets that are nets -/
namespace KP
open PySem PySem.Spec PyProof.Rows L2 KX KT KJ KS FR
section
variable {P : Program} {w : World} {K : PySem.W.Frag} {mg : Str → Option Value} {base : Heap}
theorem scMk : FnScope nMk ["jar", "most"] (defScope lNet) := ⟨rfl, rfl, rfl, by decide +kernel, rfl, by decide +kernel, by decide +kernel⟩
theorem ok_make2 {f fd1 fO fP fL : Addr} {fd fdD fdO fdP fdL : FuncData} (F : Fun K "_law_net" "_law_net" lNet f fd) (T : TxD mg)
    (FD : FnOk P w K mg base CX0 1 fd1 fdD ["jar", "top"] spDip) (mD : mg "_law_dip" = some (.ref fd1)) (kD : PySem.W.keepIn K (.ref fd1) = true) (bD : Binds K fdD ["jar", "top"] [])
    (FO : FnOk P w K mg base CX0 2 fO fdO ["jar", "some"] (spOne K)) (mO : mg "_law_one_of" = some (.ref fO)) (kO : PySem.W.keepIn K (.ref fO) = true) (bO : Binds K fdO ["jar", "some"] [])
    (FP : FnOk P w K mg base CX0 3 fP fdP ["jar"] spPart2) (mP : mg "_law_told_part" = some (.ref fP)) (kP : PySem.W.keepIn K (.ref fP) = true) (bP : Binds K fdP ["jar"] [])
    (FL : FnOk P w K mg base CX0 2 fL fdL ["jar", "many"] spLot2) (mL : mg "_law_lot" = some (.ref fL)) (kL : PySem.W.keepIn K (.ref fL) = true) (bL : Binds K fdL ["jar", "many"] []) :
    FnOk P w K mg base CX0 4 f fd ["jar", "most"] spMake2 := by
  refine F.ok scMk (fun vs H Q E h => ?_) (fun cdv A outer s H vs Q E hr h => ?_)
  · obtain ⟨j, n, rfl, _⟩ := h
    rfl
  · obtain ⟨j, n, rfl, hj, hn, k⟩ := h
    have hr1 : Room 1 _ := hr.mono (by decide)
    have hr2 : Room 2 _ := hr.mono (by decide)
    have hu : (A.deeper (envOfC "_law_net" (defScope lNet) s.heap.objs.size f cdv)).units + 65 < cLine := by have := hr.un; omega
    refine ⟨_, pss_cons (ps_set (i := 2) scMk.nd rfl (Or.inl rfl) (pe_call FO hr2 rfl mO kO bO .nil pass0 (pa_cons (pv 0) (pa_cons (pe_slice sl_list (pe_lst (pa_cons pe_int (pa_cons pe_int (pa_cons pe_int (pa_cons pe_int (pa_cons pe_int (pa_cons pe_int pa_nil))))))) po_none (po_some (pe_op op_add (pv 1) pe_int))) pa_nil))))
      (pss_cons (ps_par (i := 3) (j := 4) (by rfl) scMk.nd rfl rfl (by decide) rfl rfl (pa_cons (pe_call FO hr2 rfl mO kO bO .nil pass0 (pa_cons (pv 0) (pa_cons (pe_lst (pa_cons pe_int (pa_cons pe_int (pa_cons pe_int (pa_cons pe_int (pa_cons pe_int (pa_cons pe_int
          (pa_cons (pe_ifExp (pt_cmpR op_eq (pv 2) pe_int (nomark _)) pe_int pe_int) pa_nil)))))))) pa_nil))) (pa_cons (pe_lst pa_nil) pa_nil)) (by rfl))
      (pss_cons (ps_for PassesOwn.never rfl (pi_range1 rfl T.range (pa_cons (pe_call FO hr2 rfl mO kO bO .nil pass0 (pa_cons (pv 0) (pa_cons (pe_lst (pa_cons pe_int (pa_cons pe_int (pa_cons pe_int (pa_cons pe_int (pa_cons pe_int (pa_cons pe_int (pa_cons pe_int (pa_cons pe_int (pa_cons pe_int pa_nil)))))))))) pa_nil))) pa_nil)) (pg_name (i := 5) scMk.nd rfl (Or.inl rfl))
        (pss_cons (ps_set (i := 6) scMk.nd rfl (by first | exact Or.inl rfl | exact Or.inr rfl) (pe_call FD hr1 rfl mD kD bD .nil pass0 (pa_cons (pv 0) (pa_cons (pv 2) pa_nil))))
        (pss_cons (ps_set (i := 7) scMk.nd rfl (Or.inl rfl) (pe_op op_cat (pe_lc (own := [("at", 10)]) (g := gName 10) rfl scMk.nd (pi_range1 rfl T.range (pa_cons (pv 2) pa_nil)) (blkOk_by (N := nMk) (sc := defScope lNet) (by decide +kernel))
            (fun _ _ _ _ _ => pg_name (i := 10) scMk.nd rfl (Or.inl rfl)) (fun _ _ _ _ _ => pts_one (pt_cmpR op_ne (pv 10) (pv 6) (nomark _))) (fun _ _ _ _ _ => pv 10)) (pe_lst (pa_cons pe_non pa_nil))))
        (Evl.pss_cut (ps_set (i := 8) scMk.nd rfl (Or.inl rfl) (pe_ifExp (PW.pt (pw_and (pt_cmpR op_gt (pv 3) pe_int (nomark _)) (pw_and1 (pt_cmpR op_gt (pe_call FD hr1 rfl mD kD bD .nil pass0 (pa_cons (pv 0) (pa_cons pe_int pa_nil))) pe_int (nomark _)))))
            (pe_tup (pa_cons pe_str (pa_cons (pe_call FD hr1 rfl mD kD bD .nil pass0 (pa_cons (pv 0) (pa_cons (pv 3) pa_nil))) pa_nil))) (pe_call FP hr rfl mP kP bP .nil pass0 (pa_cons (pv 0) pa_nil))))
        (pss_cons (ps_set (i := 9) scMk.nd rfl (Or.inl rfl) (pe_tup (pa_cons (pv 6) (pa_cons (pe_call FO hr2 rfl mO kO bO .nil pass0 (pa_cons (pv 0) (pa_cons (pv 7) pa_nil))) (pa_cons (pv 8) pa_nil)))))
        (pss_one (ps_set (i := 4) scMk.nd rfl (Or.inl rfl) (pe_op op_cat (pv 4) (pe_ifExp (pt_cmpR (op_notInD hu) (pv 9) (pv 4) (by rfl)) (pe_lst (pa_cons (pv 9) pa_nil)) (pe_lst pa_nil))))))))))
      (pss_one (ps_ret (pe_tup (pa_cons (pv 2) (pa_cons (pv 3) (pa_cons (pe_tupleOf (by rfl) T.tuple (pv 4)) (pa_cons (pe_call FL hr2 rfl mL kL bL .nil pass0 (pa_cons (pv 0) (pa_cons (pv 2) pa_nil))) (pa_cons (pe_call FL hr2 rfl mL kL bL .nil pass0 (pa_cons (pv 0) (pa_cons (pv 2) pa_nil))) pa_nil)))))))))), ?_⟩
    -- many
    have hjn := jar_ne hj
    refine ⟨_, rfl, by decide, fun l0 hl0 => ⟨_, rfl, _, _, rfl, rfl, _, rfl, l0, _, rfl, SqL.of upd_same, fun p0 hp0 => ?_⟩⟩
    have sl0 := same_upd (o := .lst [V.int 1, .int 2, .int 2, .int 3, .int 3, .int 4]) hl0
    have sp0 := same_upd (o := .lst (cutV [V.int 1, .int 2, .int 2, .int 3, .int 3, .int 4] none (some (4 + 2)))) hp0
    have s0 := sl0.trans sp0
    have hj0 := jar_same hj s0
    have np0 := new_ne hp0 (jar_ne (jar_same hj sl0))
    refine one_of (K := K) (E := L2.E0) (ds := cutD [.int 1, .int 2, .int 2, .int 3, .int 3, .int 4] none (some (4 + 2))) (.lst (by rw [hid_ne np0]; exact upd_same) (ThAll.cut (thAll_ints [1, 2, 2, 3, 3, 4]) none (some (4 + 2)))) (.inl rfl)
      (fun z => by have z' : (6 : Nat) = 0 := congrArg List.length z; omega) (Nat.le_trans cutD_len (by decide)) hj0 (by omega) fun x e H1 he te b1 j1 => ?_
    obtain ⟨m, rfl, m1, m4⟩ : ∃ m : Nat, e = .int (m : Nat) ∧ 1 ≤ m ∧ m ≤ 4 := by
      have := cutD_mem he
      simp only [List.mem_cons, List.not_mem_nil, or_false] at this
      rcases this with rfl | rfl | rfl | rfl | rfl | rfl
      · exact ⟨1, rfl, by decide, by decide⟩
      · exact ⟨2, rfl, by decide, by decide⟩
      · exact ⟨2, rfl, by decide, by decide⟩
      · exact ⟨3, rfl, by decide, by decide⟩
      · exact ⟨3, rfl, by decide, by decide⟩
      · exact ⟨4, rfl, by decide, by decide⟩
    cases te
    have b1 := (KJ.But.same s0).trans b1
    clear hj0 s0 sp0 np0
    -- unknowns, pipes
    have hj1 := jar_ne j1
    have M : Mk j (tLst (tCons (tC (.int 0)) (tCons (tC (.int 1)) (tCons (tC (.int 1)) (tCons (tC (.int 2)) (tCons (tC (.int 2)) (tCons (tC (.int 3)) (tCons (tIf (tTest (tOp rEq (tVar 2) (tC (.int 4)))) (tC (.int 3)) (tC (.int 4))) tNil)))))))) ((L2.start nMk [V.ref j, .int 4]).set 2 (some (.int (m : Nat)))) H1
        (.list [.int 0, .int 1, .int 1, .int 2, .int 2, .int 3, if decide (V.int (m : Nat) = V.int 4) = true then .int 3 else .int 4]) :=
      mk_lst hj1 (mkA_cons mk_i (mkA_cons mk_i (mkA_cons mk_i (mkA_cons mk_i (mkA_cons mk_i (mkA_cons mk_i (mkA_cons (mk_if (fun H1 => ti_test (vi_op (vi_var rfl) vi_c fun Q q => ⟨rfl, q⟩)) mk_i mk_i) mkA_nil))))))) (by simp)
    refine ⟨_, rfl, M H1 (Same.refl H1) _ fun v2 H2 s2 tv2 => ?_⟩
    have tv2' := tv2
    cases tv2 with
    | lst e2 ta2 =>
    refine one_of (K := K) (E := L2.E0) tv2' (.inl rfl) (by simp) (by simp) (jar_same j1 s2) (by omega) fun x e H3 he te b3 j3 => ?_
    obtain ⟨u, rfl, u4, mu⟩ : ∃ u : Nat, e = .int (u : Nat) ∧ u ≤ 4 ∧ m + u ≤ 7 := by
      simp only [List.mem_cons, List.not_mem_nil, or_false] at he
      rcases he with rfl | rfl | rfl | rfl | rfl | rfl | rfl
      · exact ⟨0, rfl, by decide, by omega⟩
      · exact ⟨1, rfl, by decide, by omega⟩
      · exact ⟨1, rfl, by decide, by omega⟩
      · exact ⟨2, rfl, by decide, by omega⟩
      · exact ⟨2, rfl, by decide, by omega⟩
      · exact ⟨3, rfl, by decide, by omega⟩
      · by_cases c : m = 4
        · rw [if_pos (by rw [c]; rfl)]
          exact ⟨3, rfl, by decide, by omega⟩
        · rw [if_neg (by
            intro z
            have := V.int.inj (of_decide_eq_true z)
            omega)]
          exact ⟨4, rfl, by decide, by omega⟩
    cases te
    refine ⟨by decide, fun pp hpp => ⟨_, _, rfl, ?_⟩⟩
    have spp := same_upd (o := .lst []) hpp
    have npp : pp ≠ j := new_ne hpp (jar_ne j3)
    have bA := b1.trans ((KJ.But.same s2).trans (b3.trans (KJ.But.same spp)))
    have jA := jar_same j3 spp
    have eA : upd H3 pp (.lst []) pp = some (.lst []) := upd_same
    generalize upd H3 pp (.lst []) = HA at bA jA eA ⊢
    clear spp hpp b3 j3 s2 ta2 tv2' e2 j1 b1
    -- the loop
    have L : ∀ {σ : L2.St}, Lit j (tLst (tCons (tC (.int 0)) (tCons (tC (.int 1)) (tCons (tC (.int 2)) (tCons (tC (.int 3)) (tCons (tC (.int 4)) (tCons (tC (.int 5)) (tCons (tC (.int 6)) (tCons (tC (.int 8)) (tCons (tC (.int 12)) tNil)))))))))) σ (.list [.int 0, .int 1, .int 2, .int 3, .int 4, .int 5, .int 6, .int 8, .int 12]) :=
      lit_lst (litA_cons lit_int (litA_cons lit_int (litA_cons lit_int (litA_cons lit_int (litA_cons lit_int (litA_cons lit_int (litA_cons lit_int (litA_cons lit_int (litA_cons lit_int litA_nil))))))))) (by simp)
    refine ⟨_, rfl, L HA _ (jar_ne jA) fun v2 H2 s2 tv2 => ?_⟩
    have tv2' := tv2
    cases tv2 with
    | lst e2 ta2 =>
    refine one_of (K := K) (E := L2.E0) tv2' (.inl rfl) (by simp) (by simp) (jar_same jA s2) (by omega) fun x e H3 he te b3 j3 => ?_
    obtain ⟨t, rfl, t0, t12⟩ : ∃ t, e = .int t ∧ 0 ≤ t ∧ t ≤ 12 := by
      simp only [List.mem_cons, List.not_mem_nil, or_false] at he
      rcases he with rfl | rfl | rfl | rfl | rfl | rfl | rfl | rfl | rfl <;> exact ⟨_, rfl, by decide, by decide⟩
    cases te
    have bB := bA.trans ((KJ.But.same s2).trans b3)
    have eB : H3 pp = some (.lst []) := b3 _ _ npp (s2 _ _ eA)
    refine ⟨_, rfl, by omega, by omega, ?_⟩
    refine for_range (lo := 0) (n := t.toNat) (fun i σ H' => ∃ (o5 o6 o7 o8 o9 : Option V) (p : Addr) (xs : List V) (ps : List Pp), σ = [some (.ref j), some (.int 4), some (.int (m : Nat)), some (.int (u : Nat)), some (.ref p), o5, o6, o7, o8, o9, none] ∧ KJ.But j H H' ∧
      JarAt H' j (n + 3 + 6 * i) ∧ p ≠ j ∧ H' p = some (.lst xs) ∧ ThAll (hid j H') xs (ps.map ppD) ∧ ps.length ≤ i ∧ (∀ p ∈ ps, GoodP m u p) ∧ distB (ps.map ppD) = true) ⟨none, none, none, none, none, pp, [], [], rfl, bB, jar_more j3 (by omega), npp, eB, .nil, Nat.le_refl _, (fun d hd => by cases hd), rfl⟩ ?_ ?_
    · rintro i σ H' hi ⟨o5, o6, o7, o8, o9, p, xs, ps, rfl, b0, j0, np, ep, ta, ln, hg, hdist⟩
      have i12 : i < 12 := by omega
      refine ⟨_, rfl, _, rfl, j, (m : Nat), _, rfl, by omega, by omega, j0, by omega, fun st H4 st0 st1 b4 j4 => ?_⟩
      refine ⟨_, rfl, _, rfl, by omega, by omega, fun D hD => ?_⟩
      refine lc_range (lo := 0) (n := (m : Int).toNat) (fun i H' => Same H4 H' ∧ ∃ ns : List Int, ns.length ≤ i ∧ (∀ z ∈ ns, 0 ≤ z ∧ z < (m : Nat) ∧ z ≠ st) ∧ H' D = some (.lst (ns.map V.int))) ⟨same_upd hD, [], Nat.le_refl _, (fun z hz => by cases hz), upd_same⟩ ?_ ?_
      · rintro i5 H5 hi5 ⟨s7, ns, lnn, nz, eD⟩
        refine ⟨rfl, ?_⟩
        refine ⟨_, rfl, _, rfl, rfl, _, rfl, iteB (fun c => ?_) (fun c => ?_)⟩
        · refine ⟨_, rfl, _, eD, ?_, fun b o eb => ?_, ns ++ [0 + (i5 : Int)], ?_, fun z hz => ?_, ?_⟩
          · rw [List.length_map]
            exact Nat.lt_of_le_of_lt (show ns.length ≤ 4 by omega) (by decide)
          · have nb : b ≠ D := fun z => by
              rw [z, hD] at eb
              cases eb
            rw [upd_ne nb]
            exact s7 _ _ eb
          · rw [List.length_append, List.length_singleton]
            omega
          · rcases List.mem_append.mp hz with h | h
            · exact nz z h
            · rw [List.mem_singleton.mp h]
              rw [Bool.not_eq_true'] at c
              have c := of_decide_eq_false c
              exact ⟨by omega, by omega, fun e => c (by rw [e])⟩
          · rw [upd_same, List.map_append]
            rfl
        · exact ⟨s7, ns, Nat.le_succ_of_le lnn, nz, eD⟩
      · rintro H5 ⟨s5, ns, lnn, nz, eD⟩
        refine ⟨by decide, fun l hl => ?_⟩
        have sl := same_upd (o := .lst [V.non]) hl
        refine ⟨D, l, _, _, rfl, rfl, sl _ _ eD, upd_same, ?_, fun q hq => ?_⟩
        · rw [List.length_map]
          exact Nat.le_trans (show ns.length + 1 ≤ 10 by omega) (by decide)
        have sq := same_upd (o := .lst (ns.map V.int ++ [V.non])) hq
        have nq : q ≠ j := new_ne hq (jar_ne (jar_same j4 (s5.trans sl)))
        have s6 := s5.trans (sl.trans sq)
        have eq6 : upd (upd H5 l (.lst [V.non])) q (.lst (ns.map V.int ++ [V.non])) q = some (.lst (ns.map V.int ++ [V.non])) := upd_same
        generalize upd (upd H5 l (.lst [V.non])) q (.lst (ns.map V.int ++ [V.non])) = H6 at s6 eq6 ⊢
        have j6 := jar_same j4 s6
        have b6 := b4.trans (KJ.But.same s6)
        -- the share
        refine ⟨fun σ' H7 => ∃ v sh, σ' = [some (.ref j), some (.int 4), some (.int (m : Nat)), some (.int (u : Nat)), some (.ref p), some (.int (0 + (i : Int))), some (.int st), some (.ref q), some v, o9, none] ∧ KJ.But j H6 H7 ∧ JarAt H7 j (n + 3 + 6 * i + 1 + 4) ∧
          Th (hid j H7) v (shD sh) ∧ GoodS u sh, ?_, ?_⟩
        · have part : ∀ (H7 : Hp) (c : Nat), c ≤ n + 3 + 6 * i + 1 + 1 → KJ.But j H6 H7 → JarAt H7 j c → spPart2 [.ref j] H7 (fun v H8 => ∃ v' sh, [some (V.ref j), some (V.int 4), some (.int (m : Nat)), some (.int (u : Nat)), some (.ref p), some (.int (0 + (i : Int))), some (.int st), some (.ref q), some v, o9, none] = [some (.ref j), some (.int 4), some (.int (m : Nat)), some (.int (u : Nat)), some (.ref p), some (.int (0 + (i : Int))), some (.int st), some (.ref q), some v', o9, none] ∧ KJ.But j H6 H8 ∧ JarAt H8 j (n + 3 + 6 * i + 1 + 4) ∧
              Th (hid j H8) v' (shD sh) ∧ GoodS u sh) L2.E0 := fun H7 c hc b7 j7 =>
            ⟨j, c, rfl, j7, by omega, fun v x H8 hx th b8 j8 => ⟨v, .inr x, rfl, b7.trans b8, jar_more j8 (by omega), th, hx⟩⟩
          refine ⟨_, rfl, _, _, rfl, rfl, _, rfl, iteB (fun c => ?_) (fun c => ?_)⟩
          · have c' := of_decide_eq_true c
            refine ⟨_, rfl, j, _, _, rfl, by decide, by decide, j6, by omega, fun r H7 r0 r1 b7 j7 => ⟨_, _, rfl, rfl, _, rfl, iteB (fun c2 => ?_) (fun c2 => ?_)⟩⟩
            · refine ⟨_, rfl, _, rfl, j, (u : Nat), _, rfl, by omega, by omega, j7, by omega, fun r2 H8 q0 q1 b8 j8 => ⟨(by show 2 ≤ sizeLine; decide), fun z hz => ?_⟩⟩
              have sz := same_upd (o := .tup [V.str "x", .int r2]) hz
              refine ⟨_, .inl r2.toNat, rfl, b7.trans (b8.trans (KJ.But.same sz)), jar_more (jar_same j8 sz) (by omega), .tup (by rw [hid_ne (new_ne hz (jar_ne j8))]; exact upd_same) (.cons (.str _) (.cons ?_ .nil)), by show r2.toNat < u; omega⟩
              rw [Int.toNat_of_nonneg q0]
              exact .int _
            · exact ⟨_, rfl, part H7 _ (by omega) b7 j7⟩
          · exact ⟨_, rfl, part H6 _ (by omega) (fun _ _ _ e => e) j6⟩
        · rintro σ' H7 ⟨v, sh, rfl, b7, j7, th, hsh⟩
          refine ⟨_, rfl, _, rfl, _, rfl, j, q, _, _, rfl, nq, .inl (b7 _ _ nq eq6), by simp, ?_, j7, by omega, fun x H8 hx b8 j8 => ⟨_, rfl, by show 3 ≤ sizeLine; decide, fun z hz => ?_⟩⟩
          · rw [List.length_append, List.length_map]
            exact Nat.lt_of_le_of_lt (show ns.length + 1 ≤ 10 by omega) (by decide)
          obtain ⟨a, hxa, haa⟩ : ∃ a, Th (hid j H8) x (enD a) ∧ ∀ k, a = some k → k < m ∧ k ≠ st.toNat := by
            rcases List.mem_append.mp hx with h | h
            · obtain ⟨y, hy, rfl⟩ := List.mem_map.mp h
              obtain ⟨y0, y1, y2⟩ := nz y hy
              refine ⟨some y.toNat, ?_, fun k hk => ?_⟩
              · show Th _ _ (.int ((y.toNat : Nat) : Int))
                rw [Int.toNat_of_nonneg y0]
                exact .int y
              · cases hk
                omega
            · rw [List.mem_singleton.mp h]
              exact ⟨none, .non, fun k hk => by cases hk⟩
          have sz := same_upd (o := .tup [V.int st, x, v]) hz
          have thp : Th (hid j (upd H8 z (.tup [V.int st, x, v]))) (.ref z) (ppD ⟨st.toNat, a, sh⟩) := .tup (by rw [hid_ne (new_ne hz (jar_ne j8))]; exact upd_same) (.cons (by rw [Int.toNat_of_nonneg st0]; exact .int _) (.cons (Thj.same hxa sz) (.cons (Thj.same (Thj.but th b8) sz) .nil)))
          have gp : GoodP m u ⟨st.toNat, a, sh⟩ := ⟨by show st.toNat < m; omega, haa, hsh⟩
          have fl : Flat (ppD ⟨st.toNat, a, sh⟩) := pp_flat
          generalize (⟨st.toNat, a, sh⟩ : Pp) = pd at thp gp fl
          generalize upd H8 z (.tup [V.int st, x, v]) = H9 at sz thp ⊢
          have b9 := b6.trans (b7.trans (b8.trans (KJ.But.same sz)))
          have ep9 : H9 p = some (.lst xs) := b9 _ _ np ep
          have ta9 : ThAll (hid j H9) xs (ps.map ppD) := ThAll.mono (Sm.same (hid_but b9)) ta
          have j9 := jar_same j8 sz
          have sL := flat_shapedL (ds := ps.map ppD) fun e he => by
            obtain ⟨p', _, rfl⟩ := List.mem_map.mp he
            exact pp_flat
          have lx : xs.length ≤ 12 := by rw [all2 ta9, List.length_map]; omega
          refine ⟨_, rfl, _, rfl, _, rfl, ppD pd, ps.map ppD, Th.dp (Thj.th thp) fl.2.2, Th.dp (.lst ep9 (ThAll.mono (Sm.same (hid_same j H9)) ta9)) sL.2, shaped_of fl.1 (by have := fl.2.1; omega), sL.1, _, rfl, iteB (fun c => ?_) (fun c => ?_)⟩
          · rw [Bool.not_eq_true'] at c
            refine ⟨_, rfl, (by show 1 ≤ sizeLine; decide), fun l hl => ⟨p, l, xs, [.ref z], rfl, rfl, (same_upd hl) _ _ ep9, upd_same, Nat.le_trans (show xs.length + 1 ≤ 13 by omega) (by decide), fun r hr' => ?_⟩⟩
            have sr := (same_upd (o := .lst [V.ref z]) hl).trans (same_upd (o := .lst (xs ++ [V.ref z])) hr')
            refine ⟨_, _, _, _, _, r, xs ++ [.ref z], ps ++ [pd], rfl, b0.trans (b9.trans (KJ.But.same sr)), jar_more (jar_same j9 sr) (by omega), new_ne hr' (jar_ne (jar_same j9 (same_upd hl))), upd_same, ?_, by rw [List.length_append, List.length_singleton]; omega, fun e he => ?_, ?_⟩
            · rw [List.map_append]
              exact ThAllj.same (ThAll.append ta9 (.cons thp .nil)) sr
            · rcases List.mem_append.mp he with h | h
              · exact hg e h
              · rw [List.mem_singleton.mp h]
                exact gp
            · rw [List.map_append]
              exact dist_snoc hdist c
          · refine ⟨by decide, fun l hl => ⟨p, l, xs, [], rfl, rfl, (same_upd hl) _ _ ep9, upd_same, Nat.le_trans (show xs.length + 0 ≤ 13 by omega) (by decide), fun r hr' => ?_⟩⟩
            have sr := (same_upd (o := .lst ([] : List V)) hl).trans (same_upd (o := .lst (xs ++ [])) hr')
            exact ⟨_, _, _, _, _, r, xs ++ [], ps, rfl, b0.trans (b9.trans (KJ.But.same sr)), jar_more (jar_same j9 sr) (by omega), new_ne hr' (jar_ne (jar_same j9 (same_upd hl))), upd_same, (by have z := ThAllj.same ta9 sr; rw [List.append_nil] at z ⊢; exact z), by omega, hg, hdist⟩
    · rintro σ H' ⟨o5, o6, o7, o8, o9, p, xs, ps, rfl, b0, j0, np, ep, ta, ln, hg, hdist⟩
      refine ⟨_, rfl, _, rfl, _, rfl, .inl ⟨p, xs, rfl, SqL.of ep, fun q hq => ?_⟩⟩
      have sq := same_upd (o := .tup xs) hq
      have tq : Th (hid j (upd H' q (.tup xs))) (.ref q) (.tuple (ps.map ppD)) := .tup (by rw [hid_ne (new_ne hq (jar_ne j0))]; exact upd_same) (ThAllj.same ta sq)
      generalize upd H' q (.tup xs) = H4 at sq tq ⊢
      refine ⟨_, rfl, _, rfl, j, m, _, rfl, m1, m4, jar_same j0 sq, by omega, fun v5 n5 H5 g5 t5 _ b5 j5 => ?_⟩
      refine ⟨_, rfl, _, rfl, j, m, _, rfl, m1, m4, j5, by omega, fun v6 n6 H6 g6 t6 f6 b6 j6 => ⟨by show 5 ≤ sizeLine; decide, fun z hz => ?_⟩⟩
      have sz := same_upd (o := .tup [V.int (m : Nat), .int (u : Nat), .ref q, v5, v6]) hz
      refine k _ ⟨m, u, ps, n5, n6⟩ _ ⟨m1, m4, u4, mu, by show ps.length ≤ 12; omega, hg, hdist, g5, g6⟩ (.tup (by rw [hid_ne (new_ne hz (jar_ne j6))]; exact upd_same) (.cons (.int _) (.cons (.int _) (.cons (Thj.same (Thj.but (Thj.but tq b5) b6) sz) (.cons (Thj.same (Thj.but t5 b6) sz) (.cons (Thj.same t6 sz) .nil)))))) ⟨z, _, _, _, _, v6, rfl, by rw [hid_ne (new_ne hz (jar_ne j6))]; exact upd_same, f6.same (hid_but (KJ.But.same sz))⟩
        (b0.trans ((KJ.But.same sq).trans (b5.trans (b6.trans (KJ.But.same sz))))) (jar_more (jar_same j6 sz) (by omega))
end
end KP

set_option Elab.async false
set_option linter.all false
set_option maxRecDepth 100000
set_option maxHeartbeats 2000000
/-! ### what is asked of arguments, of nets and told fractions -/
namespace KP
open PySem PySem.Spec PyProof.Rows L2 KX KT KJ KS FR
abbrev sNeedNet : Stmt := top 34
mutual
/-- tuples, ints, texts alone -/
def tpD : PyData → Bool
  | .tuple ds => tpAll ds
  | .list _ => false
  | .dict _ => false
  | _ => true
def tpAll : List PyData → Bool
  | [] => true
  | d :: ds => tpD d && tpAll ds
end
theorem tpAll_of : ∀ {ds : List PyData}, (∀ d ∈ ds, tpD d = true) → tpAll ds = true
  | [], _ => rfl
  | d :: ds, h => by
    simp only [tpAll, Bool.and_eq_true]
    exact ⟨h d List.mem_cons_self, tpAll_of fun e he => h e (List.mem_cons_of_mem _ he)⟩
theorem th_tO {H : Hp} {v : V} {d : PyData} (h : Th H v d) : tpD d = true → Th (tO H) v d := by
  refine Th.rec (motive_1 := fun v d _ => tpD d = true → Th (tO H) v d) (motive_2 := fun vs ds _ => tpAll ds = true → ThAll (tO H) vs ds) (fun _ => .non) (fun b _ => .bl b) (fun i _ => .int i) (fun x _ => .str x)
    (fun _ _ _ z => by simp [tpD] at z) (fun q _ ih z => .tup (tO_rd q) (ih (by simpa [tpD] using z))) (fun _ z => by simp [tpD] at z) (fun _ => .nil) (fun _ _ a b z => ?_) h
  simp only [tpAll, Bool.and_eq_true] at z
  exact .cons (a z.1) (b z.2)
theorem tp_f (x : Fr) : tpD (fD x) = true := by simp [fD, tpD, tpAll]
theorem tp_pp (p : Pp) : tpD (ppD p) = true := by
  cases p with
  | mk s e sh => cases sh <;> cases e <;> simp [ppD, enD, shD, fD, tpD, tpAll]
theorem tp_nats (ns : List Nat) : tpAll (natsD ns) = true := tpAll_of fun d hd => by
  obtain ⟨i, _, rfl⟩ := List.mem_map.mp hd
  rfl
theorem tp_net (n : NetM) : tpD n.d = true := by
  have h : tpAll (n.ps.map ppD) = true := tpAll_of fun d hd => by
    obtain ⟨p, _, rfl⟩ := List.mem_map.mp hd
    exact tp_pp p
  simp [NetM.d, tpD, tpAll, h, tp_nats]
theorem tp_fs (as : List Fr) : tpD (.tuple (as.map fD)) = true := by
  have h : tpAll (as.map fD) = true := tpAll_of fun d hd => by
    obtain ⟨p, _, rfl⟩ := List.mem_map.mp hd
    exact tp_f p
  simp [tpD, h]
/-- a net's parts -/
theorem net_parts {H : Hp} {x : V} {n : NetM} (h : Th (tO H) x n.d) : ∃ a ps fs ss, x = .ref a ∧ tO H a = some (.tup [.int (n.m : Nat), .int (n.u : Nat), ps, fs, ss]) ∧ Th (tO H) ps (.tuple (n.ps.map ppD)) ∧ Th (tO H) fs (.tuple (natsD n.fs)) ∧ Th (tO H) ss (.tuple (natsD n.ss)) := by
  cases h with
  | tup' e h => cases h with
    | cons a1 h => cases h with
      | cons a2 h => cases h with
        | cons a3 h => cases h with
          | cons a4 h => cases h with
            | cons a5 h =>
              cases h
              cases a1
              cases a2
              exact ⟨_, _, _, _, rfl, tO_eq e, a3, a4, a5⟩
theorem tup_parts {H : Hp} {x : V} {ds : List PyData} (h : Th (tO H) x (.tuple ds)) : ∃ a xs, x = .ref a ∧ tO H a = some (.tup xs) ∧ ThAll (tO H) xs ds := by
  cases h with
  | tup' e h => exact ⟨_, _, rfl, tO_eq e, h⟩
theorem frv_of {K : PySem.W.Frag} {H : Hp} {v : V} {x : Fr} (h : Th (tO H) v (fD x)) : FrV K H v x := by
  cases h with
  | tup' e h => cases h with
    | cons a1 h => cases h with
      | cons a2 h =>
        cases h
        cases a1
        cases a2
        exact ⟨_, rfl, SqT.of e⟩
def ToldS (as : List Fr) : Prop := ∀ a ∈ as, Told a
def AsOk (n : NetM) (as : List Fr) : Prop := as.length = n.u ∧ ToldS as
def FiOk (n : NetM) (fl : List (List Fr)) : Prop := fl.length ≤ 30 ∧ ∀ r ∈ fl, r.length = n.fs.length ∧ ToldS r
def flD (fl : List (List Fr)) : PyData := .tuple (fl.map fun r => .tuple (r.map fD))
def spNeedNet (Ps : List Addr) : Sp := fun vs H Q _ => ∃ x n, vs = [x] ∧ GoodN n ∧ Th (tO H) x n.d ∧ Tbs Ps H ∧ ∀ H', Grown Ps H H' → Q .non H'
def spNeedAs : Sp := fun vs H Q _ => ∃ x y n as, vs = [x, y] ∧ Th (tO H) x (NetM.d n) ∧ AsOk n as ∧ Th (tO H) y (.tuple (as.map fD)) ∧ ∀ H', Same H H' → Q .non H'
def spIsFi (Ps : List Addr) : Sp := fun vs H Q _ => ∃ x y n r, vs = [x, y] ∧ Th (tO H) x (NetM.d n) ∧ r.length = n.fs.length ∧ ToldS r ∧ Th (tO H) y (.tuple (r.map fD)) ∧ Tbs Ps H ∧ ∀ H', Grown Ps H H' → Q (.bl true) H'
def spNeedFi (Ps : List Addr) : Sp := fun vs H Q _ => ∃ x y n fl, vs = [x, y] ∧ Th (tO H) x (NetM.d n) ∧ FiOk n fl ∧ Th (tO H) y (flD fl) ∧ Tbs Ps H ∧ ∀ H', Grown Ps H H' → Q .non H'
theorem told_all {as : List Fr} (h : ToldS as) : (as.map fD).all isTold = true := by
  rw [List.all_eq_true]
  intro d hd
  obtain ⟨x, hx, rfl⟩ := List.mem_map.mp hd
  exact told_is (h x hx)
section
variable {P : Program} {w : World} {K : PySem.W.Frag} {mg : Str → Option Value} {base : Heap}
theorem scNeedNet : FnScope ["net"] ["net"] (defScope sNeedNet) := ⟨rfl, rfl, rfl, by decide +kernel, rfl, by decide +kernel, by decide +kernel⟩
theorem ok_neednet {f fN : Addr} {fd fdN : FuncData} {Ps : List Addr} (F : Fun K "need_net" "need_net" sNeedNet f fd) (FN : FnOk P w K mg base CX0 8 fN fdN ["value"] (spNet Ps)) (mN : mg "is_net" = some (.ref fN)) (kN : PySem.W.keepIn K (.ref fN) = true) (bN : Binds K fdN ["value"] []) :
    FnOk P w K mg base CX0 9 f fd ["net"] (spNeedNet Ps) := by
  refine F.ok scNeedNet (fun vs H Q E h => ?_) (fun cdv A outer s H vs Q E hr h => ?_)
  · obtain ⟨x, n, rfl, _⟩ := h
    rfl
  · obtain ⟨x, n, rfl, g, th, tb, k⟩ := h
    refine ⟨_, pss_one (ps_if (pt_not (pt_val (pe_call FN hr rfl mN kN bN .nil pass0 (pa_cons (pv 0) pa_nil)))) (pss_one ps_never) pss_nil), ?_⟩
    refine ⟨_, rfl, x, n.d, rfl, th.up, tb, fun H' gr => ⟨_, rfl, iteB (fun z => ?_) (fun _ => k H' gr)⟩⟩
    rw [goodN_is g] at z
    cases z
abbrev nNA : List Str := ["net", "assignment", "index", "share"]
theorem vi_netix {σ : L2.St} {H : Hp} {i : Nat} {a : Addr} {xs : List V} {k : Int} {v : V} (h : σ[i]? = some (some (.ref a))) (e : tO H a = some (.tup xs)) (hk : atI xs k = some v) : Vi (tOp (rIxT K) (tVar i) (tC (.int k))) σ H v :=
  vi_op (vi_var h) vi_c fun Q q => ⟨a, xs, k, v, rfl, rfl, SqT.of (tO_same H _ _ e), hk, q⟩
abbrev nNF : List Str := ["net", "fillings", "index", "filling"]
end
end KP

set_option Elab.async false
set_option linter.all false
set_option maxRecDepth 100000
set_option maxHeartbeats 2000000
/-! ### tables: the data; lists of lists in the heap -/
namespace KP
open PySem PySem.Spec PyProof.Rows L2 KX KT KJ KS FR
abbrev Tab := List (List Fr)
def gt (t : Tab) (i k : Nat) : Fr := (t.getD i []).getD k (0, 1)
def st (t : Tab) (i k : Nat) (x : Fr) : Tab := t.set i ((t.getD i []).set k x)
def partF (as : List Fr) : Nat ⊕ Fr → Fr
  | .inl j => as.getD j (0, 1)
  | .inr x => x
def step1 (t : Tab) (s : Nat) (x : Fr) : Tab := st t s s (lesF (gt t s s) x)
def stepF (as : List Fr) (t : Tab) (p : Pp) : Tab := match p.e with
  | none => step1 t p.s (partF as p.sh)
  | some k => st (step1 t p.s (partF as p.sh)) k p.s (addF (gt (step1 t p.s (partF as p.sh)) k p.s) (partF as p.sh))
def row0 (m i : Nat) : List Fr := (List.range m).map fun k => if i = k then (1, 1) else (0, 1)
def tab0 (m : Nat) : Tab := (List.range m).map (row0 m)
def tabF (n : NetM) (as : List Fr) : Tab := n.ps.foldl (stepF as) (tab0 n.m)
/-- m rows of m -/
structure Sq (m : Nat) (t : Tab) : Prop where
  len : t.length = m
  row : ∀ i, i < m → (t.getD i []).length = m
theorem Sq.st {m : Nat} {t : Tab} (h : Sq m t) (i k : Nat) (x : Fr) : Sq m (KP.st t i k x) := by
  refine ⟨by unfold KP.st; rw [List.length_set]; exact h.len, fun i' hi' => ?_⟩
  have hr := h.row i' hi'
  unfold KP.st
  rw [List.getD_eq_getElem?_getD, List.getElem?_set]
  rw [List.getD_eq_getElem?_getD] at hr
  by_cases c : i = i'
  · subst c
    rw [if_pos rfl, if_pos (by rw [h.len]; exact hi'), List.getD_eq_getElem?_getD]
    show (List.set _ _ _).length = m
    rw [List.length_set]
    exact hr
  · rw [if_neg c]
    exact hr
theorem Sq.step {m : Nat} {t : Tab} (h : Sq m t) (as : List Fr) (p : Pp) : Sq m (stepF as t p) := by
  unfold stepF step1
  split
  · exact h.st _ _ _
  · exact (h.st _ _ _).st _ _ _
theorem sq0 (m : Nat) : Sq m (tab0 m) := by
  refine ⟨by simp [tab0], fun i hi => ?_⟩
  rw [List.getD_eq_getElem?_getD]
  simp [tab0, hi, row0]
theorem sqF (n : NetM) (as : List Fr) : Sq n.m (tabF n as) := by
  have h : ∀ (ps : List Pp) (t : Tab), Sq n.m t → Sq n.m (ps.foldl (stepF as) t) := by
    intro ps
    induction ps with
    | nil => exact fun t h => h
    | cons p ps ih => exact fun t h => ih _ (h.step as p)
  exact h _ _ (sq0 _)
/-- bounds of all entries -/
def TBd (a : Nat) (N : Nat) (t : Tab) : Prop := ∃ M, 0 < M ∧ M < 2 ^ a ∧ ∀ row ∈ t, ∀ x ∈ row, Bd M N x
theorem told_pow {x : Fr} (h : Told x) : 0 < x.2.natAbs ∧ x.2.natAbs < 2 ^ 10 := by
  have h1 := h.pos
  have h2 := h.d
  exact ⟨by omega, Nat.lt_of_lt_of_le (show x.2.natAbs < 1000 by omega) (by decide)⟩
theorem told_sz {x : Fr} (h : Told x) : Sz 4000 x := ((told_bd h).sz (told_pow h).1 (told_pow h).2 (b := 10) (by decide)).mono (by decide)
theorem gt_mem {m : Nat} {t : Tab} (h : Sq m t) {i k : Nat} (hi : i < m) (hk : k < m) : ∃ row ∈ t, gt t i k ∈ row := by
  have h1 := h.row i hi
  have h2 : i < t.length := by rw [h.len]; exact hi
  have e1 : t.getD i [] = t[i] := by
    rw [List.getD_eq_getElem?_getD, List.getElem?_eq_getElem h2]
    rfl
  rw [e1] at h1
  have h3 : k < (t[i]).length := by omega
  refine ⟨t[i], List.getElem_mem _, ?_⟩
  unfold gt
  rw [e1]
  have e2 : (t[i]).getD k (0, 1) = (t[i])[k] := by
    rw [List.getD_eq_getElem?_getD, List.getElem?_eq_getElem h3]
    rfl
  rw [e2]
  exact List.getElem_mem _
theorem TBd.at {m a N : Nat} {t : Tab} (h : TBd a N t) (sq : Sq m t) {i k : Nat} (hi : i < m) (hk : k < m) : ∃ M, 0 < M ∧ M < 2 ^ a ∧ Bd M N (gt t i k) := by
  obtain ⟨M, h0, h1, h2⟩ := h
  obtain ⟨row, hr, hx⟩ := gt_mem sq hi hk
  exact ⟨M, h0, h1, h2 row hr _ hx⟩
theorem mem_st {t : Tab} {i k : Nat} {x : Fr} {row : List Fr} {y : Fr} (hr : row ∈ st t i k x) (hy : y ∈ row) : y = x ∨ ∃ row ∈ t, y ∈ row := by
  unfold st at hr
  rcases List.mem_or_eq_of_mem_set hr with h | h
  · exact .inr ⟨row, h, hy⟩
  · rw [h] at hy
    rcases List.mem_or_eq_of_mem_set hy with h2 | h2
    · rw [List.getD_eq_getElem?_getD] at h2
      cases e : t[i]? with
      | none =>
        rw [e] at h2
        cases h2
      | some r =>
        rw [e] at h2
        exact .inr ⟨r, List.mem_of_getElem? e, h2⟩
    · exact .inl h2
/-- an entry worked out of entries and a told fraction -/
theorem TBd.put {m a N : Nat} {t : Tab} (h : TBd a N t) (sq : Sq m t) {i k i' k' : Nat} (hi : i' < m) (hk : k' < m) {x : Fr} (hx : Told x) (f : Fr → Fr → Fr) (hf : ∀ {M N N' : Nat} {y z : Fr}, Bd M N y → Bd M N' z → Bd M (N + N') (f y z)) : TBd (a + 10) (N + 999) (st t i k (f (gt t i' k') x)) := by
  obtain ⟨M, h0, h1, h2⟩ := h
  obtain ⟨p0, p1⟩ := told_pow hx
  refine ⟨M * x.2.natAbs, Nat.mul_pos h0 p0, by rw [Nat.pow_add]; exact Nat.mul_lt_mul'' h1 p1, fun row hr y hy => ?_⟩
  have up : ∀ {y}, (∃ row ∈ t, y ∈ row) → Bd (M * x.2.natAbs) N y := fun ⟨r, hr, hy⟩ => (h2 r hr _ hy).mono (Nat.dvd_mul_right _ _) (Nat.le_refl _)
  rcases mem_st hr hy with rfl | h
  · exact hf (up (gt_mem sq hi hk)) ((told_bd hx).mono (Nat.dvd_mul_left _ _) (Nat.le_refl _))
  · exact (up h).mono (Nat.dvd_refl _) (by omega)
theorem tb0 (m : Nat) : TBd 1 1 (tab0 m) := by
  refine ⟨1, by decide, by decide, fun row hr x hx => ?_⟩
  obtain ⟨i, _, rfl⟩ := List.mem_map.mp hr
  obtain ⟨k, _, rfl⟩ := List.mem_map.mp hx
  split <;> exact ⟨by decide, ⟨1, rfl⟩, by decide⟩
theorem part_told {u : Nat} {as : List Fr} {sh : Nat ⊕ Fr} (h : GoodS u sh) (hl : as.length = u) (ht : ToldS as) : Told (partF as sh) := by
  cases sh with
  | inl j =>
    have h : j < u := h
    show Told (as.getD j (0, 1))
    rw [List.getD_eq_getElem?_getD, List.getElem?_eq_getElem (by omega)]
    exact ht _ (List.getElem_mem _)
  | inr x => exact h
theorem bdm_put {m M N : Nat} {t : Tab} (h2 : ∀ row ∈ t, ∀ x ∈ row, Bd M N x) (sq : Sq m t) {i k i' k' : Nat} (hi : i' < m) (hk : k' < m) {x : Fr} (hx : Told x) (hd : x.2.natAbs ∣ M) (f : Fr → Fr → Fr) (hf : ∀ {M N N' : Nat} {y z : Fr}, Bd M N y → Bd M N' z → Bd M (N + N') (f y z)) :
    ∀ row ∈ st t i k (f (gt t i' k') x), ∀ x ∈ row, Bd M (N + 999) x := fun row hr y hy => by
  have up : ∀ {y}, (∃ row ∈ t, y ∈ row) → Bd M N y := fun ⟨r, hr, hy⟩ => h2 r hr _ hy
  rcases mem_st hr hy with rfl | h
  · exact hf (up (gt_mem sq hi hk)) ((told_bd hx).mono hd (Nat.le_refl _))
  · exact (up h).mono (Nat.dvd_refl _) (by omega)
theorem TBd.step {m u a N : Nat} {t : Tab} {as : List Fr} {p : Pp} (h : TBd a N t) (sq : Sq m t) (g : GoodP m u p) (hl : as.length = u) (ht : ToldS as) : TBd (a + 10) (N + 1998) (stepF as t p) := by
  have hp := part_told g.sh hl ht
  obtain ⟨p0, p1⟩ := told_pow hp
  obtain ⟨M, h0, h1, h2⟩ := h
  have z1 : ∀ row ∈ t, ∀ x ∈ row, Bd (M * (partF as p.sh).2.natAbs) N x := fun r hr x hx => (h2 r hr x hx).mono (Nat.dvd_mul_right _ _) (Nat.le_refl _)
  have z2 : ∀ row ∈ step1 t p.s (partF as p.sh), ∀ x ∈ row, Bd (M * (partF as p.sh).2.natAbs) (N + 999) x := bdm_put z1 sq g.s g.s hp (Nat.dvd_mul_left _ _) lesF Bd.les
  refine ⟨M * (partF as p.sh).2.natAbs, Nat.mul_pos h0 p0, by rw [Nat.pow_add]; exact Nat.mul_lt_mul'' h1 p1, ?_⟩
  unfold stepF
  split
  · exact fun r hr x hx => (z2 r hr x hx).mono (Nat.dvd_refl _) (by omega)
  · rename_i k hk
    have := bdm_put (i := k) (k := p.s) z2 (sq.st _ _ _) (g.e k hk).1 g.s hp (Nat.dvd_mul_left _ _) addF Bd.add
    exact this
/-- row by row -/
structure FrL (K : PySem.W.Frag) (H : Hp) (vs : List V) (row : List Fr) : Prop where
  len : vs.length = row.length
  get : ∀ (k : Nat) (v : V) (x : Fr), vs[k]? = some v → row[k]? = some x → FrV K H v x
theorem FrL.tk {K : PySem.W.Frag} {H H' : Hp} {vs : List V} {row : List Fr} (h : FrL K H vs row) (s : Tk H H') : FrL K H' vs row := ⟨h.len, fun k v x a b => (h.get k v x a b).tk s⟩
theorem FrL.set {K : PySem.W.Frag} {H : Hp} {vs : List V} {row : List Fr} (h : FrL K H vs row) (k : Nat) {w : V} {x : Fr} (f : FrV K H w x) : FrL K H (vs.set k w) (row.set k x) := by
  refine ⟨by rw [List.length_set, List.length_set]; exact h.len, fun i v y a b => ?_⟩
  rw [List.getElem?_set] at a b
  have hl := h.len
  by_cases c : k = i
  · rw [if_pos c] at a b
    by_cases c2 : k < vs.length
    · rw [if_pos c2] at a
      rw [if_pos (by omega)] at b
      cases a
      cases b
      exact f
    · rw [if_neg c2] at a
      cases a
  · rw [if_neg c] at a b
    exact h.get i v y a b
theorem FrL.snoc {K : PySem.W.Frag} {H : Hp} {vs : List V} {row : List Fr} (h : FrL K H vs row) {w : V} {x : Fr} (f : FrV K H w x) : FrL K H (vs ++ [w]) (row ++ [x]) := by
  have hl := h.len
  refine ⟨by rw [List.length_append, List.length_append, hl]; rfl, fun i v y a b => ?_⟩
  by_cases c : i < vs.length
  · rw [List.getElem?_append_left c] at a
    rw [List.getElem?_append_left (by omega)] at b
    exact h.get i v y a b
  · rw [List.getElem?_append_right (by omega)] at a
    rw [List.getElem?_append_right (by omega)] at b
    have e : i - vs.length = 0 := by
      have := (List.getElem?_eq_some_iff.mp a).1
      rw [List.length_singleton] at this
      omega
    rw [e] at a
    rw [← hl, e] at b
    cases a
    cases b
    exact f
theorem FrL.nil {K : PySem.W.Frag} {H : Hp} : FrL K H [] [] := ⟨rfl, fun k v x a => by simp at a⟩
theorem frl_of {K : PySem.W.Frag} {H : Hp} : ∀ {vs : List V} {row : List Fr}, ThAll (tO H) vs (row.map fD) → FrL K H vs row := fun {vs row} h => by
  refine ⟨by rw [all2 h, List.length_map], fun k v x a b => ?_⟩
  obtain ⟨d, hd, td⟩ := all_get h a
  rw [List.getElem?_map, b] at hd
  cases hd
  exact frv_of td
/-- a list of lists, all new since H0 -/
structure TabL (K : PySem.W.Frag) (H0 H : Hp) (T : Addr) (rs : List Addr) (t : Tab) : Prop where
  top : H T = some (.lst (rs.map V.ref))
  nd : rs.Nodup
  out : T ∉ rs
  new : ∀ r ∈ rs, H0 r = none
  len : rs.length = t.length
  row : ∀ (i : Nat) (r : Addr) (row : List Fr), rs[i]? = some r → t[i]? = some row → ∃ vs, H r = some (.lst vs) ∧ FrL K H vs row
theorem TabL.same {K : PySem.W.Frag} {H0 H H' : Hp} {T : Addr} {rs : List Addr} {t : Tab} (h : TabL K H0 H T rs t) (s : Same H H') : TabL K H0 H' T rs t :=
  ⟨s _ _ h.top, h.nd, h.out, h.new, h.len, fun i r row a b => let ⟨vs, e, f⟩ := h.row i r row a b; ⟨vs, s _ _ e, f.tk (Tk.same s)⟩⟩
theorem grown_put {Ps : List Addr} {H0 H : Hp} {r : Addr} {xs ys : List V} (g : Grown Ps H0 H) (h0 : H0 r = none) (h : H r = some (.lst xs)) : Grown Ps H0 (upd H r (.lst ys)) := by
  refine ⟨fun b u e n => ?_, fun P hP => ?_⟩
  · rw [upd_ne (ne_of_none e h0)]
    exact g.sm b u e n
  · obtain ⟨ps, e, k⟩ := g.tbs P hP
    exact ⟨ps, by rw [upd_ne (fun z => by rw [z, h] at e; cases e)]; exact e, k⟩
/-- an entry, and storing there -/
theorem tab_at {K : PySem.W.Frag} {H0 H : Hp} {T : Addr} {rs : List Addr} {t : Tab} {m : Nat} (h : TabL K H0 H T rs t) (sq : Sq m t) {i k : Nat} (hi : i < m) (hk : k < m) :
    ∃ r vs v, rs[i]? = some r ∧ H r = some (.lst vs) ∧ vs[k]? = some v ∧ vs.length = m ∧ H0 r = none ∧ FrV K H v (gt t i k) ∧ ∀ {H'} {w x}, Same H H' → FrV K H' w x → TabL K H0 (upd H' r (.lst (vs.set k w))) T rs (st t i k x) := by
  have h2 : i < t.length := by rw [sq.len]; exact hi
  have h3 : i < rs.length := by rw [h.len]; exact h2
  have e1 := List.getElem?_eq_getElem h3
  have e2 := List.getElem?_eq_getElem h2
  obtain ⟨vs, e, f⟩ := h.row i _ _ e1 e2
  have hrow : (t[i]).length = m := by
    have := sq.row i hi
    rw [List.getD_eq_getElem?_getD, e2] at this
    exact this
  have lv : vs.length = m := by rw [f.len, hrow]
  have ek := List.getElem?_eq_getElem (show k < vs.length by omega)
  have er := List.getElem?_eq_getElem (show k < (t[i]).length by omega)
  refine ⟨rs[i], vs, vs[k], e1, e, ek, lv, h.new _ (List.getElem_mem _), ?_, fun {H' w x} s fw => ?_⟩
  · have := f.get k _ _ ek er
    have g1 : t.getD i [] = t[i] := by
      rw [List.getD_eq_getElem?_getD, e2]
      rfl
    have g2 : gt t i k = (t[i])[k] := by
      unfold gt
      rw [g1, List.getD_eq_getElem?_getD, er]
      rfl
    rw [g2]
    exact this
  · have e' := s _ _ e
    have nT : T ≠ rs[i] := fun z => h.out (by rw [z]; exact List.getElem_mem _)
    refine ⟨by rw [upd_ne nT]; exact s _ _ h.top, h.nd, h.out, h.new, by unfold st; rw [List.length_set]; exact h.len, fun i' r' row' a b => ?_⟩
    unfold st at b
    rw [List.getElem?_set] at b
    by_cases c : i = i'
    · subst c
      rw [e1] at a
      cases a
      rw [if_pos rfl, if_pos h2] at b
      cases b
      refine ⟨vs.set k w, upd_same, ?_⟩
      have z := ((f.tk (Tk.same s)).set k fw).tk (Tk.put (ys := vs.set k w) e')
      rw [List.getD_eq_getElem?_getD, e2]
      exact z
    · rw [if_neg c] at b
      obtain ⟨vs', e3, f3⟩ := h.row i' r' row' a b
      have nr : r' ≠ rs[i] := fun z => by
        have h4 := (List.getElem?_eq_some_iff.mp a)
        obtain ⟨h5, h6⟩ := h4
        exact c ((List.getElem_inj h.nd).mp (h6.trans z)).symm
      exact ⟨vs', by rw [upd_ne nr]; exact s _ _ e3, (f3.tk (Tk.same s)).tk (Tk.put e')⟩
/-- a tuple of tuples -/
def RowT (K : PySem.W.Frag) (H : Hp) (u : V) (row : List Fr) : Prop := ∃ b vs, u = .ref b ∧ tO H b = some (.tup vs) ∧ FrL K H vs row
theorem RowT.tk {K : PySem.W.Frag} {H H' : Hp} {u : V} {row : List Fr} (h : RowT K H u row) (s : Tk H H') : RowT K H' u row := by
  obtain ⟨b, vs, e, e2, f⟩ := h
  exact ⟨b, vs, e, s _ _ e2, f.tk s⟩
structure RowsT (K : PySem.W.Frag) (H : Hp) (us : List V) (t : Tab) : Prop where
  len : us.length = t.length
  get : ∀ (i : Nat) (u : V) (row : List Fr), us[i]? = some u → t[i]? = some row → RowT K H u row
theorem RowsT.tk {K : PySem.W.Frag} {H H' : Hp} {us : List V} {t : Tab} (h : RowsT K H us t) (s : Tk H H') : RowsT K H' us t := ⟨h.len, fun i u row a b => (h.get i u row a b).tk s⟩
theorem RowsT.nil {K : PySem.W.Frag} {H : Hp} : RowsT K H [] [] := ⟨rfl, fun k v x a => by simp at a⟩
theorem RowsT.snoc {K : PySem.W.Frag} {H : Hp} {vs : List V} {row : Tab} (h : RowsT K H vs row) {w : V} {x : List Fr} (f : RowT K H w x) : RowsT K H (vs ++ [w]) (row ++ [x]) := by
  have hl := h.len
  refine ⟨by rw [List.length_append, List.length_append, hl]; rfl, fun i v y a b => ?_⟩
  by_cases c : i < vs.length
  · rw [List.getElem?_append_left c] at a
    rw [List.getElem?_append_left (by omega)] at b
    exact h.get i v y a b
  · rw [List.getElem?_append_right (by omega)] at a
    rw [List.getElem?_append_right (by omega)] at b
    have e : i - vs.length = 0 := by
      have := (List.getElem?_eq_some_iff.mp a).1
      rw [List.length_singleton] at this
      omega
    rw [e] at a
    rw [← hl, e] at b
    cases a
    cases b
    exact f
def TabT (K : PySem.W.Frag) (H : Hp) (v : V) (t : Tab) : Prop := ∃ a us, v = .ref a ∧ tO H a = some (.tup us) ∧ RowsT K H us t
theorem TabT.tk {K : PySem.W.Frag} {H H' : Hp} {v : V} {t : Tab} (h : TabT K H v t) (s : Tk H H') : TabT K H' v t := by
  obtain ⟨b, vs, e, e2, f⟩ := h
  exact ⟨b, vs, e, s _ _ e2, f.tk s⟩
theorem ixN_nat {n i : Nat} (h : i < n) : ixN n (i : Nat) = some i := by
  unfold ixN
  rw [if_pos (by omega), if_pos (by omega), Int.toNat_natCast]
end KP

set_option Elab.async false
set_option linter.all false
set_option maxRecDepth 100000
set_option maxHeartbeats 4000000
/-! ### shares; the unit's rows -/
namespace KP
open PySem PySem.Spec PyProof.Rows L2 KX KT KJ KS FR
abbrev lShare : Stmt := top 51
theorem th_ty {H : Hp} {v : V} {d : PyData} : Th (tO H) v d → Th H v d := Th.up
theorem same_put {H0 H : Hp} {p : Addr} {o : HO} (s : Same H0 H) (h : H0 p = none) : Same H0 (upd H p o) := fun b u e => by
  rw [upd_ne (ne_of_none e h)]
  exact s _ _ e
def spShareV : Sp := fun vs H Q _ => ∃ x y sh as u, vs = [x, y] ∧ Th (tO H) x (shD sh) ∧ GoodS u sh ∧ as.length = u ∧ Th (tO H) y (.tuple (as.map fD)) ∧ ∀ v, Th (tO H) v (fD (partF as sh)) → Q v H
/-- the mark of a share -/
def markV : Nat ⊕ Fr → V
  | .inl _ => .str "x"
  | .inr x => .int x.1
theorem share_parts {H : Hp} {x : V} {sh : Nat ⊕ Fr} (h : Th (tO H) x (shD sh)) : ∃ a y, x = .ref a ∧ tO H a = some (.tup [markV sh, y]) ∧ ∀ j, sh = .inl j → y = .int (j : Nat) := by
  cases sh with
  | inl j =>
    cases h with
    | tup' e h => cases h with
      | cons a1 h => cases h with
        | cons a2 h =>
          cases h
          cases a1
          cases a2
          exact ⟨_, _, rfl, tO_eq e, fun k z => by cases z; rfl⟩
  | inr x =>
    cases h with
    | tup' e h => cases h with
      | cons a1 h => cases h with
        | cons a2 h =>
          cases h
          cases a1
          cases a2
          exact ⟨_, _, rfl, tO_eq e, fun k z => by cases z⟩
theorem mark_scal (sh : Nat ⊕ Fr) : scal (markV sh) (.str "x") = true := by cases sh <;> rfl
theorem as_get {H : Hp} {ys : List V} {as : List Fr} {u j : Nat} (ta : ThAll (tO H) ys (as.map fD)) (hl : as.length = u) (hj : j < u) : ∃ v, ys[j]? = some v ∧ Th (tO H) v (fD (as.getD j (0, 1))) := by
  have ly : ys.length = as.length := by rw [all2 ta, List.length_map]
  have hy : j < ys.length := by omega
  obtain ⟨d, hd, td⟩ := all_get ta (List.getElem?_eq_getElem hy)
  refine ⟨_, List.getElem?_eq_getElem hy, ?_⟩
  rw [List.getElem?_map, List.getElem?_eq_getElem (show j < as.length by omega)] at hd
  cases hd
  rw [List.getD_eq_getElem?_getD, List.getElem?_eq_getElem (show j < as.length by omega)]
  exact td
section
variable {P : Program} {w : World} {K : PySem.W.Frag} {mg : Str → Option Value} {base : Heap}
theorem vi_mark {σ : L2.St} {H : Hp} {i : Nat} {a : Addr} {m y : V} (h : σ[i]? = some (some (.ref a))) (e : tO H a = some (.tup [m, y])) : Vi (tOp (rIxT K) (tVar i) (tC (.int 0))) σ H m := vi_netix h e rfl
theorem scShareL : FnScope ["share", "assignment"] ["share", "assignment"] (defScope lShare) := ⟨rfl, rfl, rfl, by decide +kernel, rfl, by decide +kernel, by decide +kernel⟩
theorem ok_shareL {f : Addr} {fd : FuncData} (F : Fun K "_law_share" "_law_share" lShare f fd) : FnOk P w K mg base CX0 1 f fd ["share", "assignment"] spShareV := by
  refine F.ok scShareL (fun vs H Q E h => ?_) (fun cdv A outer s H vs Q E hr h => ?_)
  · obtain ⟨x, y, sh, as, u, rfl, _⟩ := h
    rfl
  · obtain ⟨x, y, sh, as, u, rfl, th, gs, hl, ty, k⟩ := h
    refine ⟨_, pss_one (ps_ret (pe_ifExp (pt_cmpR op_eq (pe_ix ix_tup (pv 0) pe_int (fun _ _ => rfl)) pe_str (nomark _)) (pe_ix ix_tup (pv 1) (pe_ix ix_tup (pv 0) pe_int (fun _ _ => rfl)) (fun _ _ => rfl)) (pv 0))), ?_⟩
    obtain ⟨a, y1, rfl, ea, hy1⟩ := share_parts th
    obtain ⟨b, ys, rfl, eb, ta⟩ := tup_parts ty
    have hc : Ti (tTest (tOp rEq (tOp (rIxT K) (tVar 0) (tC (.int 0))) (tC (.str "x")))) (L2.start ["share", "assignment"] [.ref a, .ref b]) H (decide (markV sh = .str "x")) := ti_test (vi_op (vi_mark rfl ea) vi_c fun Q q => ⟨mark_scal sh, q⟩)
    refine hc _ ?_
    cases sh with
    | inl j =>
      obtain rfl := hy1 j rfl
      obtain ⟨v, hv, tv⟩ := as_get ta hl (show j < u from gs)
      rw [if_pos (by simp [markV])]
      exact (vi_op (r := rIxT K) (vi_var rfl) (vi_netix (K := K) (i := 0) (k := 1) rfl ea rfl) fun Q q => ⟨b, ys, _, v, rfl, rfl, SqT.of (tO_same H _ _ eb), atI_nat hv, q⟩ : Vi _ _ _ _) _ (k v tv)
    | inr x =>
      rw [if_neg (by simp [markV])]
      exact ⟨_, rfl, k _ th⟩
end
end KP

set_option Elab.async false
set_option linter.all false
set_option maxRecDepth 100000
set_option maxHeartbeats 4000000
/-! ### comprehensions; the unit's rows -/
namespace KP
open PySem PySem.Spec PyProof.Rows L2 KX KT KJ KS FR
structure Cst (K : PySem.W.Frag) (mg : Str → Option Value) (aU aN : Addr) : Prop where
  mU : mg "UNIT" = some (.ref aU)
  mN : mg "NOUGHT" = some (.ref aN)
  cU : ∀ H, SqT K H aU [.int 1, .int 1]
  cN : ∀ H, SqT K H aN [.int 0, .int 1]
/-- a list of tuples of fractions -/
def RowsL (K : PySem.W.Frag) (H : Hp) (a : Addr) (t : Tab) : Prop := ∃ us, H a = some (.lst us) ∧ RowsT K H us t
def spUnit (K : PySem.W.Frag) : Sp := fun vs H Q _ => ∃ m : Nat, vs = [.int (m : Nat)] ∧ m ≤ 4 ∧ ∀ a H', H a = none → Same H H' → RowsL K H' a (tab0 m) → Q (.ref a) H'
theorem FrV.cst {K : PySem.W.Frag} {H : Hp} {a : Addr} {x : Fr} (h : ∀ H, SqT K H a [.int x.1, .int x.2]) : FrV K H (.ref a) x := ⟨a, rfl, h _⟩
def PvM (H1 : Hp) (D : Addr) (Rr : Hp → List V → Nat → Prop) (i : Nat) (H : Hp) : Prop := Same H1 H ∧ ∃ xs, H D = some (.lst xs) ∧ Rr H xs i
def Aft (H1 : Hp) (D : Addr) (Rr : Hp → List V → Nat → Prop) (k : Nat) : VK := fun y H4 => ∃ acc, H4 D = some (.lst acc) ∧ acc.length < sizeLine ∧ PvM H1 D Rr k (upd H4 D (.lst (acc ++ [y])))
theorem aft {H1 H4 : Hp} {D : Addr} {Rr : Hp → List V → Nat → Prop} {k : Nat} {xs : List V} {y : V} (hD : H1 D = none) (s : Same H1 H4) (e : H4 D = some (.lst xs)) (hl : xs.length < sizeLine) (r : Rr (upd H4 D (.lst (xs ++ [y]))) (xs ++ [y]) k) : Aft H1 D Rr k y H4 :=
  ⟨xs, e, hl, same_put s hD, _, upd_same, r⟩
/-- a comprehension with one name and no condition: the list by the turn -/
theorem lc_map {J : It} {n : Nat} {G : Hp → Prop} {Y : Nat → Hp → V → Hp → Prop} (wk : Walk J n G Y) {j : Nat} {te : TE} {vs : List Nat} {σ : L2.St} {H1 : Hp} {D : Addr} {Qd : Hp → Prop} (Rr : Hp → List V → Nat → Prop) (hD : H1 D = none) (hn : n ≤ 1000)
    (hlen : ∀ H xs i, Rr H xs i → xs.length = i) (r0 : Rr (upd H1 D (.lst [])) [] 0) (hG : ∀ H, Same H1 H → G H) (hw : ∀ x : V, wipe ((wipe σ vs).set j (some x)) vs = wipe σ vs)
    (hs : ∀ i x H H' xs, i < n → Same H1 H → H D = some (.lst xs) → xs.length < sizeLine → Rr H xs i → Y i H x H' → te ((wipe σ vs).set j (some x)) H' (Aft H1 D Rr (i + 1)))
    (hd : ∀ H xs, Same H1 H → H D = some (.lst xs) → Rr H xs n → Qd H) :
    ∃ W : Nat → Nat → Hp → Prop, (∃ m, W 0 m (upd H1 D (.lst []))) ∧ ∀ i m H, W i m H →
      (J.stop i H ∧ Qd H) ∨ (J.go i H ∧ ∃ Nx : Hp → Prop, (∀ H', Nx H' → ∃ m', m' < m ∧ W (i + 1) m' H') ∧ ∀ x H', J.yld i H x H' → gName j x (wipe σ vs) H' fun σ2 H2 => wipe σ2 vs = wipe σ vs ∧ tYes σ2 H2 fun b H3 =>
        if b = true then te σ2 H3 fun y H4 => ∃ acc, H4 D = some (.lst acc) ∧ acc.length < sizeLine ∧ Nx (upd H4 D (.lst (acc ++ [y]))) else Nx H3) := by
  refine lc_it wk (PvM H1 D Rr) ⟨same_put (Same.refl H1) hD, [], upd_same, r0⟩ (fun i H hi p => hG H p.1) ?_ ?_
  · rintro i x H H' hi ⟨s, xs, e, r⟩ y
    refine ⟨hw x, ?_⟩
    have l := hlen _ _ _ r
    exact hs i x H H' xs hi s e (Nat.lt_of_lt_of_le (show xs.length < 1001 by omega) (by decide)) r y
  · rintro H ⟨s, xs, e, r⟩
    exact hd H xs s e r
theorem row0_succ {m i k : Nat} : (List.range (k + 1)).map (fun k => if i = k then ((1, 1) : Fr) else (0, 1)) = (List.range k).map (fun k => if i = k then ((1, 1) : Fr) else (0, 1)) ++ [if i = k then (1, 1) else (0, 1)] := by
  rw [List.range_succ, List.map_append]
  rfl
theorem RowsT.len' {K : PySem.W.Frag} {H : Hp} {xs : List V} {f : Nat → List Fr} {i : Nat} (h : RowsT K H xs ((List.range i).map f)) : xs.length = i := by
  rw [h.len, List.length_map, List.length_range]
theorem FrL.len' {K : PySem.W.Frag} {H : Hp} {xs : List V} {f : Nat → Fr} {i : Nat} (h : FrL K H xs ((List.range i).map f)) : xs.length = i := by
  rw [h.len, List.length_map, List.length_range]
theorem pe_tupK {X : Cx} {K : PySem.W.Frag} {a : Expr} {ta : TE} {p pos : Pos} (hk : X.K = K) (hg : Gl X "tuple") (hm : X.mg "tuple" = none) (ha : PE X a ta) (na : starEach [a] X.env = (false, eval a X.env) :: starEach [] X.env := by rfl) :
    PE X (.Call (.Name "tuple" p) [a] [] pos) (tThen ta (kTup K)) := hk ▸ pe_tupleOf hg hm ha na
abbrev scRow : Scope := { kind := .function, names := [(".0", .local), ("row", .cell), ("tuple", .globalImplicit), ("range", .globalImplicit), ("many", .cell)], isGenerator := false, isCoroutine := false }
abbrev nUn : List Str := ["many", "row", "column"]
section
variable {P : Program} {w : World} {K : PySem.W.Frag} {mg : Str → Option Value} {base : Heap}
end
end KP

set_option Elab.async false
set_option linter.all false
set_option maxRecDepth 100000
set_option maxHeartbeats 4000000
/-! ### tables: storing in them, freezing them -/
namespace KP
open PySem PySem.Spec PyProof.Rows L2 KX KT KJ KS FR
theorem none_same {H H' : Hp} {l : Addr} (s : Same H H') (h : H' l = none) : H l = none := by
  cases e : H l with
  | none => rfl
  | some u => rw [s _ _ e] at h; cases h
def enV : Option Nat → V
  | none => .non
  | some k => .int (k : Nat)
theorem pipe_parts {H : Hp} {x : V} {p : Pp} (h : Th (tO H) x (ppD p)) : ∃ b sv, x = .ref b ∧ tO H b = some (.tup [.int (p.s : Nat), enV p.e, sv]) ∧ Th (tO H) sv (shD p.sh) := by
  cases h with
  | tup' e h => cases h with
    | cons a1 h => cases h with
      | cons a2 h => cases h with
        | cons a3 h =>
          cases h
          cases a1
          obtain ⟨s, en, sh⟩ := p
          cases en with
          | none => cases a2; exact ⟨_, _, rfl, tO_eq e, a3⟩
          | some k => cases a2; exact ⟨_, _, rfl, tO_eq e, a3⟩
section
variable {K : PySem.W.Frag} {σ : L2.St} {H0 H : Hp} {T : Addr} {rs : List Addr} {t : Tab} {m i k : Nat}
theorem i_tabset {Ps : List Addr} {E : XK} {o2 io ko uo : Nat} {u : V} {y : Fr} {f : Fr → Fr → Fr} {D : Ends} (h : TabL K H0 H T rs t) (gr : Grown Ps H0 H) (sq : Sq m t) (hi : i < m) (hk : k < m) (h2 : σ[o2]? = some (some (.ref T))) (h3 : σ[io]? = some (some (.int (i : Nat)))) (h4 : σ[ko]? = some (some (.int (k : Nat))))
    (h6 : σ[uo]? = some (some u)) (fu : FrV K H u y) (z1 : Sz 4000 (gt t i k)) (z2 : Sz 4000 y) (nx : ∀ H', Grown Ps H0 H' → Tk H H' → TabL K H0 H' T rs (st t i k (f (gt t i k) y)) → D.nx σ H') :
    tAsg (tCall (spBin K f) [] E (tCons (tOp (rIxL K) (tOp (rIxL K) (tVar o2) (tVar io)) (tVar ko)) (tCons (tVar uo) tNil))) (gSub (tOp (rIxL K) (tVar o2) (tVar io)) (tVar ko) rSetL) D σ H := by
  obtain ⟨r, vs, v, e1, e2, e3, lv, n0, fv, put⟩ := tab_at h sq hi hk
  have e1' : (rs.map V.ref)[i]? = some (.ref r) := by rw [List.getElem?_map, e1]; rfl
  refine ⟨_, h2, _, h3, T, _, _, _, rfl, rfl, SqL.of h.top, atI_nat e1', _, h4, r, vs, _, v, rfl, rfl, SqL.of e2, atI_nat e3, _, h6, v, u, _, y, rfl, fv, fu, z1, z2, fun w H1 s1 fw => ?_⟩
  have h1 := h.same s1
  have e2' := s1 _ _ e2
  refine ⟨_, h2, _, h3, T, _, _, _, rfl, rfl, SqL.of h1.top, atI_nat e1', _, h4, r, vs, _, k, rfl, rfl, e2', ixN_nat (by omega), ?_⟩
  exact nx _ (grown_put (gr.trans (Grown.same s1 gr.tbs)) n0 e2') ((Tk.same s1).trans (Tk.put e2')) (put s1 fw)
theorem i_freeze {Q : VK} {o2 j : Nat} {vs : List Nat} (h : TabL K H0 H T rs t) (tl : t.length ≤ 4) (h2 : σ[o2]? = some (some (.ref T))) (hw : ∀ x : V, wipe ((wipe σ vs).set j (some x)) vs = wipe σ vs) (hj : ∀ x : V, ((wipe σ vs).set j (some x))[j]? = some (some x))
    (k : ∀ v H', Same H H' → TabT K H' v t → Q v H') : tThen (tLc (iList K (tVar o2)) (gName j) tYes (tThen (tVar j) (kTup K)) vs) (kTup K) σ H Q := by
  refine ⟨_, h2, T, rfl, ⟨_, SqL.of h.top⟩, fun D hD => ?_⟩
  have ll : (rs.map V.ref).length = t.length := by rw [List.length_map, h.len]
  refine lc_map walk_list (fun H' xs i => RowsT K H' xs (t.take i) ∧ i ≤ t.length) hD (by omega) (fun _ _ i r => by rw [r.1.len, List.length_take]; have := r.2; omega) ⟨by rw [List.take_zero]; exact RowsT.nil, Nat.zero_le _⟩ (fun H' s => SqL.of (s _ _ h.top)) hw ?_ ?_
  · rintro i x _ H' xs hi s e hl ⟨r, hle⟩ ⟨rfl, hx⟩
    rw [List.getElem?_map] at hx
    have hr : i < rs.length := by rw [List.length_map] at hi; exact hi
    have ht : i < t.length := by omega
    rw [List.getElem?_eq_getElem hr] at hx
    cases hx
    obtain ⟨vs', e2, f2⟩ := h.row i _ _ (List.getElem?_eq_getElem hr) (List.getElem?_eq_getElem ht)
    refine ⟨_, hj _, .inl ⟨_, vs', rfl, SqL.of (s _ _ e2), fun q hq => ?_⟩⟩
    have sq := same_upd (o := .tup vs') hq
    refine aft hD (s.trans sq) (sq _ _ e) hl ?_
    have tk : Tk (upd H' q (.tup vs')) _ := Tk.put (ys := xs ++ [.ref q]) (sq _ _ e)
    refine ⟨?_, ht⟩
    rw [List.take_add_one, List.getElem?_eq_getElem ht]
    exact (r.tk ((Tk.same sq).trans tk)).snoc ⟨q, vs', rfl, tk _ _ (tO_of upd_same), f2.tk ((Tk.same (s.trans sq)).trans tk)⟩
  · rintro H' xs s e ⟨r, _⟩
    rw [ll, List.take_length] at r
    refine .inl ⟨D, xs, rfl, SqL.of e, fun q hq => ?_⟩
    have sq := same_upd (o := .tup xs) hq
    exact k _ _ (s.trans sq) ⟨q, xs, rfl, tO_of upd_same, r.tk (Tk.same sq)⟩
end
end KP

set_option Elab.async false
set_option linter.all false
set_option maxRecDepth 100000
set_option maxHeartbeats 4000000
/-! ### table_of -/
namespace KP
open PySem PySem.Spec PyProof.Rows L2 KX KT KJ KS FR
def spTable (K : PySem.W.Frag) (Ps : List Addr) : Sp := fun vs H Q _ => ∃ x y n as, vs = [x, y] ∧ GoodN n ∧ Th (tO H) x (NetM.d n) ∧ AsOk n as ∧ Th (tO H) y (.tuple (as.map fD)) ∧ Tbs Ps H ∧ ∀ v H', Grown Ps H H' → TabT K H' v (tabF n as) → Q v H'
abbrev nTb : List Str := ["net", "assignment", "table", "start", "end", "share", "size", "row"]
def rListOf (K : PySem.W.Frag) : List V → Hp → VK → Prop := fun xs H Q => ∃ p ys, xs = [.ref p] ∧ (SqL K H p ys ∨ SqT K H p ys) ∧ ∀ l, H l = none → Q (.ref l) (upd H l (.lst ys))
/-- the table after some pipes -/
def tabI (n : NetM) (as : List Fr) (i : Nat) : Tab := (n.ps.take i).foldl (stepF as) (tab0 n.m)
theorem tabI_zero (n : NetM) (as : List Fr) : tabI n as 0 = tab0 n.m := rfl
theorem tabI_all (n : NetM) (as : List Fr) : tabI n as n.ps.length = tabF n as := by unfold tabI; rw [List.take_length]; rfl
theorem tabI_succ {n : NetM} {as : List Fr} {i : Nat} {p : Pp} (h : n.ps[i]? = some p) : tabI n as (i + 1) = stepF as (tabI n as i) p := by
  unfold tabI
  rw [List.take_add_one, h, List.foldl_append]
  rfl
theorem tabI_sq (n : NetM) (as : List Fr) (i : Nat) : Sq n.m (tabI n as i) := by
  have h : ∀ (ps : List Pp) (t : Tab), Sq n.m t → Sq n.m (ps.foldl (stepF as) t) := by
    intro ps
    induction ps with
    | nil => exact fun t h => h
    | cons p ps ih => exact fun t h => ih _ (h.step as p)
  exact h _ _ (sq0 _)
theorem tabI_bd {n : NetM} {as : List Fr} (g : GoodN n) (ok : AsOk n as) : ∀ {i : Nat}, i ≤ n.ps.length → TBd (1 + 10 * i) (1 + 1998 * i) (tabI n as i)
  | 0, _ => tb0 _
  | i + 1, h => by
    have h2 : i < n.ps.length := by omega
    rw [tabI_succ (List.getElem?_eq_getElem h2)]
    have z := (tabI_bd g ok (i := i) (by omega)).step (tabI_sq n as i) (g.ps _ (List.getElem_mem h2)) ok.1 ok.2
    have e1 : 1 + 10 * (i + 1) = 1 + 10 * i + 10 := by omega
    have e2 : 1 + 1998 * (i + 1) = 1 + 1998 * i + 1998 := by omega
    rw [e1, e2]
    exact z
theorem TBd.sz {m a N : Nat} {t : Tab} (h : TBd a N t) (sq : Sq m t) {i k : Nat} (hi : i < m) (hk : k < m) (ha : a ≤ 300) (hN : N ≤ 30000) : Sz 4000 (gt t i k) := by
  obtain ⟨M, m0, m1, b⟩ := h.at sq hi hk
  exact (b.sz m0 m1 (b := 16) (Nat.lt_of_le_of_lt hN (by decide))).mono (by omega)
section
variable {P : Program} {w : World} {K : PySem.W.Frag} {mg : Str → Option Value} {base : Heap}
end
end KP

set_option Elab.async false
set_option linter.all false
set_option maxRecDepth 100000
set_option maxHeartbeats 4000000
/-! ### the law's own table -/
namespace KP
open PySem PySem.Spec PyProof.Rows L2 KX KT KJ KS FR
abbrev lTable : Stmt := top 52
def spTableL (K : PySem.W.Frag) : Sp := fun vs H Q _ => ∃ x y n as, vs = [x, y] ∧ GoodN n ∧ Th (tO H) x (NetM.d n) ∧ AsOk n as ∧ Th (tO H) y (.tuple (as.map fD)) ∧ ∀ v H', Same H H' → TabT K H' v (tabF n as) → Q v H'
abbrev nTl : List Str := ["net", "assignment", "many", "rows", "start", "aim", "share", "part", "at", "to", "row"]
abbrev scAt : Scope := { kind := .function, names := [(".0", .local), ("at", .cell), ("range", .globalImplicit), ("many", .cell)], isGenerator := false, isCoroutine := false }
theorem i_tabsetS {K : PySem.W.Frag} {σ : L2.St} {H0 H : Hp} {T : Addr} {rs : List Addr} {t : Tab} {m i k : Nat} {E : XK} {o2 io ko uo : Nat} {u : V} {y : Fr} {f : Fr → Fr → Fr} {D : Ends} (h : TabL K H0 H T rs t) (gr : Same H0 H) (sq : Sq m t) (hi : i < m) (hk : k < m) (h2 : σ[o2]? = some (some (.ref T))) (h3 : σ[io]? = some (some (.int (i : Nat)))) (h4 : σ[ko]? = some (some (.int (k : Nat))))
    (h6 : σ[uo]? = some (some u)) (fu : FrV K H u y) (z1 : Sz 4000 (gt t i k)) (z2 : Sz 4000 y) (nx : ∀ H', Same H0 H' → Tk H H' → TabL K H0 H' T rs (st t i k (f (gt t i k) y)) → D.nx σ H') :
    tAsg (tCall (spBin K f) [] E (tCons (tOp (rIxL K) (tOp (rIxL K) (tVar o2) (tVar io)) (tVar ko)) (tCons (tVar uo) tNil))) (gSub (tOp (rIxL K) (tVar o2) (tVar io)) (tVar ko) rSetL) D σ H := by
  obtain ⟨r, vs, v, e1, e2, e3, lv, n0, fv, put⟩ := tab_at h sq hi hk
  have e1' : (rs.map V.ref)[i]? = some (.ref r) := by rw [List.getElem?_map, e1]; rfl
  refine ⟨_, h2, _, h3, T, _, _, _, rfl, rfl, SqL.of h.top, atI_nat e1', _, h4, r, vs, _, v, rfl, rfl, SqL.of e2, atI_nat e3, _, h6, v, u, _, y, rfl, fv, fu, z1, z2, fun w H1 s1 fw => ?_⟩
  have h1 := h.same s1
  have e2' := s1 _ _ e2
  refine ⟨_, h2, _, h3, T, _, _, _, rfl, rfl, SqL.of h1.top, atI_nat e1', _, h4, r, vs, _, k, rfl, rfl, e2', ixN_nat (by omega), ?_⟩
  exact nx _ (same_put (gr.trans s1) n0) ((Tk.same s1).trans (Tk.put e2')) (put s1 fw)
section
variable {P : Program} {w : World} {K : PySem.W.Frag} {mg : Str → Option Value} {base : Heap}
theorem scTl : FnScope nTl ["net", "assignment"] (defScope lTable) := ⟨rfl, rfl, rfl, by decide +kernel, rfl, by decide +kernel, by decide +kernel⟩
theorem ok_tableL {f fS fL fP : Addr} {fd fdS fdL fdP : FuncData} (F : Fun K "_law_table" "_law_table" lTable f fd) (T : TxD mg)
    (FS : FnOk P w K mg base CX0 1 fS fdS ["share", "assignment"] spShareV) (mS : mg "_law_share" = some (.ref fS)) (kS : PySem.W.keepIn K (.ref fS) = true) (bS : Binds K fdS ["share", "assignment"] [])
    (FL : FnOk P w K mg base CX0 2 fL fdL ["one", "two"] (spBin K lesF)) (mL : mg "_law_less" = some (.ref fL)) (kL : PySem.W.keepIn K (.ref fL) = true) (bL : Binds K fdL ["one", "two"] [])
    (FP : FnOk P w K mg base CX0 2 fP fdP ["one", "two"] (spBin K addF)) (mP : mg "_law_plus" = some (.ref fP)) (kP : PySem.W.keepIn K (.ref fP) = true) (bP : Binds K fdP ["one", "two"] []) :
    FnOk P w K mg base CX0 3 f fd ["net", "assignment"] (spTableL K) := by
  refine F.ok scTl (fun vs H Q E h => ?_) (fun cdv A outer s H vs Q E hr h => ?_)
  · obtain ⟨x, y, n, as, rfl, _⟩ := h
    rfl
  · obtain ⟨x, y, n, as, rfl, g, th2, ok, ty2, k⟩ := h
    refine ⟨_, pss_cons (ps_set (i := 2) scTl.nd rfl (Or.inr rfl) (pe_ix ix_tup (pv 0) pe_int (fun _ _ => rfl)))
      (pss_cons (ps_setLc (i := 3) (own := [("at", 8)]) (g := gName 8) rfl scTl.nd rfl rfl (sw_true rfl rfl rfl (by decide +kernel)) (pi_range1 rfl T.range (pa_cons (pv 2) pa_nil)) (blkOk_by (N := nTl) (sc := defScope lTable) (by decide +kernel))
          (fun _ _ _ _ _ => pg_name (i := 8) scTl.nd rfl (Or.inr rfl)) (fun _ _ _ _ _ => pts_nil)
          (fun _ _ _ _ _ => pe_lc (own := [("to", 9)]) (g := gName 9) rfl scTl.nd (pi_range1 rfl T.range (pa_cons (pv 2) pa_nil)) (blkOk_by (N := nTl) (sc := scAt) (by decide +kernel))
            (fun _ _ _ _ _ => pg_name (i := 9) scTl.nd rfl (Or.inl rfl)) (fun _ _ _ _ _ => pts_nil)
            (fun _ _ _ _ _ => pe_tup (pa_cons (pe_callTy call_int1 (by rfl) T.int (by decide +kernel) (pa_cons (pe_cmpR op_eq (pv 8) (pv 9) (nomark _)) pa_nil)) (pa_cons pe_int pa_nil)))))
      (pss_cons (ps_for PassesOwn.never rfl (pi_tup (pe_ix ix_tup (pv 0) pe_int (fun _ _ => rfl))) (pg_tup rfl (pgs_cons (pg_name (i := 4) scTl.nd rfl (Or.inl rfl)) (pgs_cons (pg_name (i := 5) scTl.nd rfl (Or.inl rfl)) (pgs_cons (pg_name (i := 6) scTl.nd rfl (Or.inl rfl)) pgs_nil))))
        (pss_cons (ps_set (i := 7) scTl.nd rfl (Or.inl rfl) (pe_call FS (hr.mono (by decide)) rfl mS kS bS .nil pass0 (pa_cons (pv 6) (pa_cons (pv 1) pa_nil))))
        (pss_cons (ps_asg (pe_call FL (hr.mono (by decide)) rfl mL kL bL .nil pass0 (pa_cons (pe_ix ix_list (pe_ix ix_list (pv 3) (pv 4) (fun _ _ => rfl)) (pv 4) (fun _ _ => rfl)) (pa_cons (pv 7) pa_nil))) (pg_sub (pe_ix ix_list (pv 3) (pv 4) (fun _ _ => rfl)) (pv 4) set_list))
        (pss_one (ps_if (pt_cmpR op_notN1 (pv 5) pe_non (nomark _)) (pss_one (ps_asg (pe_call FP (hr.mono (by decide)) rfl mP kP bP .nil pass0 (pa_cons (pe_ix ix_list (pe_ix ix_list (pv 3) (pv 5) (fun _ _ => rfl)) (pv 4) (fun _ _ => rfl)) (pa_cons (pv 7) pa_nil))) (pg_sub (pe_ix ix_list (pv 3) (pv 5) (fun _ _ => rfl)) (pv 4) set_list))) pss_nil)))))
      (pss_one (ps_ret (pe_tupleOf (by rfl) T.tuple (pe_lc (own := [("row", 10)]) (g := gName 10) rfl scTl.nd (pi_list (pv 3)) (blkOk_by (N := nTl) (sc := defScope lTable) (by decide +kernel))
          (fun _ _ _ _ _ => pg_name (i := 10) scTl.nd rfl (Or.inl rfl)) (fun _ _ _ _ _ => pts_nil) (fun _ _ _ _ _ => pe_tupK (K := K) rfl (by rfl) T.tuple (pv 10)))))))), ?_⟩
    obtain ⟨a, ps, fs, ss, rfl, ea, tps, _, _⟩ := net_parts th2
    have m4 := g.m4
    have t0l : (tab0 n.m).length = n.m := (sq0 n.m).len
    refine ⟨_, rfl, a, _, _, _, rfl, rfl, SqT.of (tO_same H _ _ ea), rfl, ?_⟩
    refine ⟨_, rfl, (n.m : Int), rfl, by omega, by omega, fun D hD => ?_⟩
    rw [show ((n.m : Nat) : Int).toNat = n.m from rfl]
    refine lc_map (walk_range (lo := 0) (n := n.m)) (fun H' xs i => ∃ rs : List Addr, xs = rs.map V.ref ∧ rs.Nodup ∧ D ∉ rs ∧ (∀ r ∈ rs, H r = none) ∧ rs.length = i ∧ ∀ (k : Nat) (r : Addr) (row : List Fr), rs[k]? = some r → (tab0 n.m)[k]? = some row → ∃ vs, H' r = some (.lst vs) ∧ FrL K H' vs row) hD (by omega)
      (fun _ xs i r => by obtain ⟨rs, rfl, _, _, _, l, _⟩ := r; rw [List.length_map]; exact l) ⟨[], rfl, List.nodup_nil, by simp, by simp, rfl, fun k r row e => by simp at e⟩ (fun _ _ => trivial) (fun _ => rfl) ?_ ?_
    · rintro i x _ H' xs hi s e hl ⟨rs, rfl, nd, nD, nw, lr, rows⟩ ⟨rfl, rfl⟩
      have hi0 : i < (tab0 n.m).length := by omega
      refine ⟨_, rfl, (n.m : Int), rfl, by omega, by omega, fun D2 hD2 => ?_⟩
      rw [show ((n.m : Nat) : Int).toNat = n.m from rfl]
      have n1 : D2 ≠ D := fun z => by rw [z, e] at hD2; cases hD2
      have n2 : D2 ∉ rs := fun z => by
        obtain ⟨k', hk', rfl⟩ := List.getElem_of_mem z
        obtain ⟨vs', e', _⟩ := rows k' _ _ (List.getElem?_eq_getElem hk') (List.getElem?_eq_getElem (show k' < (tab0 n.m).length by omega))
        rw [e'] at hD2
        cases hD2
      refine lc_map (walk_range (lo := 0) (n := n.m)) (fun H' xs k => FrL K H' xs ((List.range k).map fun k => if i = k then (1, 1) else (0, 1))) hD2 (by omega) (fun _ _ _ r => r.len') FrL.nil (fun _ _ => trivial) (fun _ => rfl) ?_ ?_
      · rintro c x _ H2 ys hc s2 e2 hl2 r2 ⟨rfl, rfl⟩
        refine ⟨_, rfl, _, rfl, rfl, .inr ⟨_, rfl, (by show 2 ≤ sizeLine; decide), fun q hq => ?_⟩⟩
        have sq := same_upd (o := .tup [V.int (if decide (V.int (0 + (i : Int)) = V.int (0 + (c : Int))) = true then 1 else 0), V.int 1]) hq
        refine aft hD2 (s2.trans sq) (sq _ _ e2) hl2 ?_
        rw [row0_succ (m := n.m)]
        have tk := Tk.put (ys := ys ++ [.ref q]) (sq _ _ e2)
        refine (r2.tk ((Tk.same sq).trans tk)).snoc ?_
        have fq : FrV K (upd H2 q (.tup [V.int (if decide (V.int (0 + (i : Int)) = V.int (0 + (c : Int))) = true then 1 else 0), V.int 1])) (.ref q) (if i = c then (1, 1) else (0, 1)) := by
          by_cases ic : i = c
          · subst ic
            rw [if_pos (decide_eq_true rfl), if_pos rfl]
            exact FrV.new (x := (1, 1))
          · rw [if_neg (fun z => ic (by have := V.int.inj (of_decide_eq_true z); omega)), if_neg ic]
            exact FrV.new (x := (0, 1))
        exact fq.tk tk
      · rintro H2 ys s2 e2 r2
        have eD := s2 _ _ e
        refine aft hD (s.trans s2) eD hl ⟨rs ++ [D2], by rw [List.map_append]; rfl, ?_, ?_, fun r hr' => ?_, by rw [List.length_append, List.length_singleton, lr], fun k' r row a1 a2 => ?_⟩
        · rw [List.nodup_append]
          refine ⟨nd, by simp, fun p hp q hq => ?_⟩
          rw [List.mem_singleton.mp hq]
          exact fun z => n2 (z ▸ hp)
        · intro z
          rcases List.mem_append.mp z with z | z
          · exact nD z
          · exact n1 (List.mem_singleton.mp z).symm
        · rcases List.mem_append.mp hr' with z | z
          · exact nw r z
          · rw [List.mem_singleton.mp z]
            exact none_same s hD2
        · have tkD := Tk.put (ys := rs.map V.ref ++ [.ref D2]) eD
          by_cases c : k' < rs.length
          · rw [List.getElem?_append_left c] at a1
            obtain ⟨vs', e', f'⟩ := rows k' r row a1 a2
            have nr : r ≠ D := fun z => nD (z ▸ List.mem_of_getElem? a1)
            exact ⟨vs', by rw [upd_ne nr]; exact s2 _ _ e', f'.tk ((Tk.same s2).trans tkD)⟩
          · rw [List.getElem?_append_right (by omega)] at a1
            have z : k' - rs.length = 0 := by
              have := (List.getElem?_eq_some_iff.mp a1).1
              rw [List.length_singleton] at this
              omega
            rw [z] at a1
            cases a1
            have z2 : k' = i := by omega
            subst z2
            unfold tab0 at a2
            rw [List.getElem?_map, List.getElem?_range (by omega)] at a2
            cases a2
            exact ⟨ys, by rw [upd_ne n1]; exact e2, r2.tk tkD⟩
    · rintro H4 xs s e ⟨rs, rfl, nd, nD, nw, lr, rows⟩
      have T4 : TabL K H H4 D rs (tab0 n.m) := ⟨e, nd, nD, nw, by rw [lr, t0l], rows⟩
      obtain ⟨pa, pvs, rfl, ep, tpv⟩ := tup_parts tps
      have lp : pvs.length = n.ps.length := by rw [all2 tpv, List.length_map]
      have l12 := g.len
      refine ⟨_, rfl, a, _, _, _, rfl, rfl, SqT.of (s.rd (tO_same H _ _ ea)), rfl, pa, rfl, ⟨pvs, SqT.of (s.rd (tO_same H _ _ ep))⟩, ?_⟩
      refine for_it (walk_tup (K := K) (a := pa) (xs := pvs)) (fun i σ H' => (∃ o4 o5 o6 o7, σ = [some (.ref a), some y, some (.int (n.m : Nat)), some (.ref D), o4, o5, o6, o7, none, none, none]) ∧ Same H H' ∧ TabL K H H' D rs (tabI n as i)) ⟨⟨none, none, none, none, rfl⟩, s, T4⟩
        (fun i σ H' _ z => SqT.of (tO_same H' _ _ ((Tk.same z.2.1) _ _ ep))) ?_ ?_
      · rintro i v σ _ H' hi ⟨⟨o4, o5, o6, o7, rfl⟩, gr5, T5⟩ ⟨rfl, hv⟩
        have tk5 := Tk.same gr5
        obtain ⟨d, hd, td⟩ := all_get tpv hv
        have hip : i < n.ps.length := by omega
        have epi := List.getElem?_eq_getElem hip
        rw [List.getElem?_map, epi] at hd
        cases hd
        have gp := g.ps _ (List.getElem_mem hip)
        rw [tabI_succ epi]
        have bd := tabI_bd g ok (i := i) (by omega)
        have sq := tabI_sq n as i
        generalize n.ps[i] = p at td gp ⊢
        generalize tabI n as i = t at T5 bd sq ⊢
        obtain ⟨b, sv, rfl, eb, tsv⟩ := pipe_parts (td.tk tk5)
        refine ⟨b, _, rfl, SqT.of (tO_same H' _ _ eb), rfl, _, _, rfl, _, _, rfl, _, _, rfl, rfl, ?_⟩
        refine ⟨_, rfl, _, rfl, sv, y, p.sh, as, n.u, rfl, tsv, gp.sh, ok.1, ty2.tk tk5, fun v tv => ?_⟩
        have pt := part_told gp.sh ok.1 ok.2
        have fv : FrV K H' v (partF as p.sh) := frv_of tv
        refine i_tabsetS (o2 := 3) (io := 4) (ko := 4) (uo := 7) T5 gr5 sq gp.s gp.s rfl rfl rfl rfl fv (bd.sz sq gp.s gp.s (by omega) (by omega)) (told_sz pt) fun H6 gr6 tk6 T6 => ?_
        have T6 : TabL K H H6 D rs (step1 t p.s (partF as p.sh)) := T6
        have bd1 : TBd (1 + 10 * i + 10) (1 + 1998 * i + 999) (step1 t p.s (partF as p.sh)) := bd.put sq gp.s gp.s pt lesF Bd.les
        have sq1 : Sq n.m (step1 t p.s (partF as p.sh)) := sq.st _ _ _
        refine i_if (b := !decide (enV p.e = .non)) (ti_test (vi_op (vi_var rfl) vi_c fun Q q => ⟨rfl, q⟩)) (fun z => ?_) (fun z => ?_)
        · cases he : p.e with
          | none => rw [he] at z; cases z
          | some k' =>
            have hk := gp.e k' he
            refine i_tabsetS (o2 := 3) (io := 5) (ko := 4) (uo := 7) T6 gr6 sq1 hk.1 gp.s rfl rfl rfl rfl (fv.tk tk6) (bd1.sz sq1 hk.1 gp.s (by omega) (by omega)) (told_sz pt) fun H7 gr7 tk7 T7 => ?_
            refine ⟨⟨_, _, _, _, rfl⟩, gr7, ?_⟩
            unfold stepF
            rw [he]
            exact T7
        · cases he : p.e with
          | some k' => rw [he] at z; simp [enV] at z
          | none =>
            refine ⟨⟨_, _, _, _, rfl⟩, gr6, ?_⟩
            unfold stepF
            rw [he]
            exact T6
      · rintro σ H5 ⟨⟨o4, o5, o6, o7, rfl⟩, gr5, T5⟩
        rw [lp, tabI_all] at T5
        refine i_freeze (o2 := 3) (j := 10) T5 (by rw [(sqF n as).len]; exact m4) rfl (fun _ => rfl) (fun _ => rfl) fun v H6 s6 tv => k v H6 (gr5.trans s6) tv
end
end KP

set_option Elab.async false
set_option linter.all false
set_option maxRecDepth 100000
set_option maxHeartbeats 4000000
/-! ### sums of products -/
namespace KP
open PySem PySem.Spec PyProof.Rows L2 KX KT KJ KS FR
abbrev lDot : Stmt := top 53
def dotS (s : Fr) (p : Fr × Fr) : Fr := addF s (mulF p.1 p.2)
def dotI (a b : List Fr) (i : Nat) : Fr := ((a.zip b).take i).foldl dotS (0, 1)
def dotF (a b : List Fr) : Fr := dotI a b a.length
/-- bounds of all entries of a row -/
def HB (a b : Nat) (h : List Fr) : Prop := ∃ M N, 0 < M ∧ M < 2 ^ a ∧ N < 2 ^ b ∧ ∀ x ∈ h, Bd M N x
theorem dotI_zero (a b : List Fr) : dotI a b 0 = (0, 1) := rfl
theorem dotI_succ {a b : List Fr} {i : Nat} {x y : Fr} (ha : a[i]? = some x) (hb : b[i]? = some y) : dotI a b (i + 1) = addF (dotI a b i) (mulF x y) := by
  unfold dotI
  have e : (a.zip b)[i]? = some (x, y) := by
    rw [List.getElem?_zip_eq_some]
    exact ⟨ha, hb⟩
  rw [List.take_add_one, e, List.foldl_append]
  rfl
theorem bd0 {M N : Nat} (hM : 0 < M) : Bd M N (0, 1) := ⟨by decide, ⟨M, by omega⟩, by simp⟩
theorem dotI_bd {a b : List Fr} {M N M' N' : Nat} (hM : 0 < M) (hM' : 0 < M') (ha : ∀ x ∈ a, Bd M N x) (hb : ∀ x ∈ b, Bd M' N' x) (hl : a.length = b.length) : ∀ {i : Nat}, i ≤ a.length → Bd (M * M') (i * (N * N')) (dotI a b i)
  | 0, _ => bd0 (Nat.mul_pos hM hM')
  | i + 1, h => by
    have e1 := List.getElem?_eq_getElem (show i < a.length by omega)
    have e2 := List.getElem?_eq_getElem (show i < b.length by omega)
    rw [dotI_succ e1 e2]
    have z := (dotI_bd hM hM' ha hb hl (i := i) (by omega)).add ((ha _ (List.mem_of_getElem? e1)).mul (hb _ (List.mem_of_getElem? e2)))
    rw [show (i + 1) * (N * N') = i * (N * N') + N * N' from Nat.succ_mul _ _]
    exact z
theorem pow_mul_lt {x y a b : Nat} (hx : x < 2 ^ a) (hy : y < 2 ^ b) : x * y < 2 ^ (a + b) := by
  rw [Nat.pow_add]
  exact Nat.mul_lt_mul'' hx hy
/-- all that is worked out on the way is small enough -/
theorem dot_sz {r h : List Fr} {a b a' b' : Nat} (hr : HB a b r) (hh : HB a' b' h) (hl : r.length = h.length) (l4 : r.length ≤ 4) (hz : a + b + a' + b' + 3 ≤ 4000) {i : Nat} (hi : i ≤ r.length) :
    Sz 4000 (dotI r h i) ∧ ∀ x y, r[i]? = some x → h[i]? = some y → Sz 4000 x ∧ Sz 4000 y ∧ Sz 4000 (mulF x y) := by
  obtain ⟨M, N, m0, m1, n1, b1⟩ := hr
  obtain ⟨M', N', m0', m1', n1', b1'⟩ := hh
  have hMM := Nat.mul_pos m0 m0'
  have hm := pow_mul_lt m1 m1'
  have hn := pow_mul_lt n1 n1'
  refine ⟨((dotI_bd m0 m0' b1 b1' hl hi).sz hMM hm (b := 3 + (b + b')) (pow_mul_lt (show i < 2 ^ 3 by omega) hn)).mono (by omega), fun x y hx hy => ?_⟩
  have bx := b1 _ (List.mem_of_getElem? hx)
  have bY := b1' _ (List.mem_of_getElem? hy)
  exact ⟨(bx.sz m0 m1 n1).mono (by omega), (bY.sz m0' m1' n1').mono (by omega), ((bx.mul bY).sz hMM hm hn).mono (by omega)⟩
def DotOk (r h : List Fr) : Prop := r.length = h.length ∧ r.length ≤ 4 ∧ ∃ a b a' b', HB a b r ∧ HB a' b' h ∧ a + b + a' + b' + 3 ≤ 4000
theorem RowT.parts {K : PySem.W.Frag} {H : Hp} {u : V} {row : List Fr} (h : RowT K H u row) : ∃ b vs, u = .ref b ∧ tO H b = some (.tup vs) ∧ FrL K H vs row := h
def spDot (K : PySem.W.Frag) : Sp := fun vs H Q _ => ∃ u v r h, vs = [u, v] ∧ RowT K H u r ∧ RowT K H v h ∧ DotOk r h ∧ ∀ w H', Same H H' → FrV K H' w (dotF r h) → Q w H'
def spDotL (K : PySem.W.Frag) : Sp := fun vs H Q _ => ∃ u c ys r h, vs = [u, .ref c] ∧ RowT K H u r ∧ H c = some (.lst ys) ∧ FrL K H ys h ∧ DotOk r h ∧ ∀ w H', Same H H' → FrV K H' w (dotF r h) → Q w H'
section
variable {P : Program} {w : World} {K : PySem.W.Frag} {mg : Str → Option Value} {base : Heap}
abbrev nRt : List Str := ["row", "other", "worth", "one", "two"]
abbrev nDt : List Str := ["one", "two", "found", "x", "y"]
theorem scDt : FnScope nDt ["one", "two"] (defScope lDot) := ⟨rfl, rfl, rfl, by decide +kernel, rfl, by decide +kernel, by decide +kernel⟩
theorem ok_dotL {f fA fM : Addr} {fd fdA fdM : FuncData} (F : Fun K "_law_dot" "_law_dot" lDot f fd) (T : TxD mg) (mZ : mg "zip" = none)
    (FA : FnOk P w K mg base CX0 2 fA fdA ["one", "two"] (spBin K addF)) (mA : mg "_law_plus" = some (.ref fA)) (kA : PySem.W.keepIn K (.ref fA) = true) (bA : Binds K fdA ["one", "two"] [])
    (FM : FnOk P w K mg base CX0 2 fM fdM ["one", "two"] (spBin K mulF)) (mM : mg "_law_by" = some (.ref fM)) (kM : PySem.W.keepIn K (.ref fM) = true) (bM : Binds K fdM ["one", "two"] []) :
    FnOk P w K mg base CX0 3 f fd ["one", "two"] (spDotL K) := by
  refine F.ok scDt (fun vs H Q E h => ?_) (fun cdv A outer s H vs Q E hr h => ?_)
  · obtain ⟨u, c, ys, r, h, rfl, _⟩ := h
    rfl
  · obtain ⟨u, b, ys, r, h, rfl, hu, eb, fb, ok, k⟩ := h
    refine ⟨_, pss_cons (ps_set (i := 2) scDt.nd rfl (Or.inl rfl) (pe_tup (pa_cons pe_int (pa_cons pe_int pa_nil))))
      (pss_cons (ps_for PassesOwn.never rfl (MZ.pi_zipM (by rfl) mZ (pa_cons (pv 0) (pa_cons (pv 1) pa_nil))) (pg_tup rfl (pgs_cons (pg_name (i := 3) scDt.nd rfl (Or.inl rfl)) (pgs_cons (pg_name (i := 4) scDt.nd rfl (Or.inl rfl)) pgs_nil)))
        (pss_one (ps_set (i := 2) scDt.nd rfl (Or.inl rfl) (pe_call FA hr rfl mA kA bA .nil pass0 (pa_cons (pv 2) (pa_cons (pe_call FM hr rfl mM kM bM .nil pass0 (pa_cons (pv 3) (pa_cons (pv 4) pa_nil))) pa_nil))))))
      (pss_one (ps_ret (pv 2)))), ?_⟩
    obtain ⟨a, xs, rfl, ea, fa⟩ := hu
    obtain ⟨hl, l4, a1, b1, a2, b2, hb1, hb2, hz⟩ := ok
    have lx := fa.len
    have ly := fb.len
    refine ⟨(by show 2 ≤ sizeLine; decide), fun p hp => ?_⟩
    have sp := same_upd (o := .tup [V.int 0, V.int 1]) hp
    refine ⟨_, rfl, _, rfl, a, b, xs, ys, rfl, SqT.of (sp.rd (tO_same H _ _ ea)), SqL.of (sp _ _ eb), ?_⟩
    refine for_it (MZ.walk_zipM (K := K) (a := a) (b := b) (xs := xs) (ys := ys) (n := r.length) (by omega)) (fun i σ H' => (∃ w o3 o4, σ = [some (.ref a), some (.ref b), some w, o3, o4] ∧ FrV K H' w (dotI r h i)) ∧ Same H H') ⟨⟨_, _, _, rfl, FrV.new (x := (0, 1))⟩, sp⟩
      (fun i σ H' _ z => ⟨SqT.of (z.2.rd (tO_same H _ _ ea)), SqL.of (z.2 _ _ eb)⟩) ?_ ?_
    · rintro i v σ H' H'' hi ⟨⟨w, o3, o4, rfl, fw⟩, s1⟩ ⟨U, x1, y1, rfl, hU, rfl, hx1, hy1⟩
      have sU := same_upd (o := .tup [x1, y1]) hU
      have s2 : Same H _ := s1.trans sU
      have ex := List.getElem?_eq_getElem (show i < r.length by omega)
      have ey := List.getElem?_eq_getElem (show i < h.length by omega)
      have fx := (fa.get i _ _ hx1 ex).tk (Tk.same s2)
      have fy := (fb.get i _ _ hy1 ey).tk (Tk.same s2)
      obtain ⟨z0, z1⟩ := dot_sz hb1 hb2 hl l4 (by omega) (i := i) (by omega)
      obtain ⟨zx, zy, zm⟩ := z1 _ _ ex ey
      refine ⟨U, _, rfl, SqT.of upd_same, rfl, _, _, rfl, _, _, rfl, rfl, ?_⟩
      refine ⟨_, rfl, _, rfl, _, rfl, _, _, _, _, rfl, fx, fy, zx, zy, fun wm H3 s3 fm => ?_⟩
      refine ⟨_, _, _, _, rfl, fw.tk (Tk.same (sU.trans s3)), fm, z0, zm, fun wa H4 s4 fa' => ⟨⟨_, _, _, rfl, ?_⟩, s2.trans (s3.trans s4)⟩⟩
      rw [dotI_succ ex ey]
      exact fa'
    · rintro σ H' ⟨⟨w, o3, o4, rfl, fw⟩, s1⟩
      exact ⟨_, rfl, k w H' s1 fw⟩
end
end KP

set_option Elab.async false
set_option linter.all false
set_option maxRecDepth 100000
set_option maxHeartbeats 4000000
/-! ### what tanks hold: the data -/
namespace KP
open PySem PySem.Spec PyProof.Rows L2 KX KT KJ KS FR
def HBN (a N : Nat) (h : List Fr) : Prop := ∃ M, 0 < M ∧ M < 2 ^ a ∧ ∀ x ∈ h, Bd M N x
theorem HBN.hb {a b N : Nat} {h : List Fr} (z : HBN a N h) (hN : N < 2 ^ b) : HB a b h := let ⟨M, m0, m1, b1⟩ := z; ⟨M, N, m0, m1, hN, b1⟩
theorem HBN.mono {a a' N N' : Nat} {h : List Fr} (z : HBN a N h) (ha : a ≤ a') (hN : N ≤ N') : HBN a' N' h := let ⟨M, m0, m1, b1⟩ := z; ⟨M, m0, Nat.lt_of_lt_of_le m1 (Nat.pow_le_pow_right (by decide) ha), fun x hx => (b1 x hx).mono (Nat.dvd_refl _) hN⟩
theorem HBN.sz {a b N : Nat} {h : List Fr} (z : HBN a N h) (hN : N < 2 ^ b) (hz : a + b ≤ 4000) {x : Fr} (hx : x ∈ h) : Sz 4000 x := let ⟨M, m0, m1, b1⟩ := z; ((b1 x hx).sz m0 m1 hN).mono hz
def sentF (t : Tab) (h : List Fr) : List Fr := t.map fun r => dotF r h
def fillS (h : List Fr) (p : Nat × Fr) : List Fr := h.set p.1 (addF (h.getD p.1 (0, 1)) p.2)
def fillI (fs : List Nat) (r : List Fr) (h : List Fr) (i : Nat) : List Fr := ((fs.zip r).take i).foldl fillS h
def fillF (fs : List Nat) (r : List Fr) (h : List Fr) : List Fr := fillI fs r h r.length
def seenF (ss : List Nat) (h : List Fr) : List Fr := ss.map fun i => h.getD i (0, 1)
def held0 (m : Nat) : List Fr := List.replicate m (0, 1)
def heldI (n : NetM) (as : List Fr) (fl : List (List Fr)) (k : Nat) : List Fr := (fl.take k).foldl (fun h r => fillF n.fs r (sentF (tabF n as) h)) (held0 n.m)
def seenAll (n : NetM) (as : List Fr) (fl : List (List Fr)) : Tab := (List.range (fl.length + 1)).map fun k => seenF n.ss (heldI n as fl k)
theorem fillI_succ {fs : List Nat} {r h : List Fr} {i j : Nat} {x : Fr} (ha : fs[i]? = some j) (hb : r[i]? = some x) : fillI fs r h (i + 1) = fillS (fillI fs r h i) (j, x) := by
  unfold fillI
  have e : (fs.zip r)[i]? = some (j, x) := by
    rw [List.getElem?_zip_eq_some]
    exact ⟨ha, hb⟩
  rw [List.take_add_one, e, List.foldl_append]
  rfl
theorem fillS_len (h : List Fr) (p : Nat × Fr) : (fillS h p).length = h.length := List.length_set
theorem fillI_len {fs : List Nat} {r h : List Fr} {i : Nat} : (fillI fs r h i).length = h.length := by
  have z : ∀ (ps : List (Nat × Fr)) (h : List Fr), (ps.foldl fillS h).length = h.length := by
    intro ps
    induction ps with
    | nil => exact fun _ => rfl
    | cons p ps ih => exact fun h => (ih _).trans (fillS_len h p)
  exact z _ _
theorem getD_mem {h : List Fr} {i : Nat} (hi : i < h.length) : h.getD i (0, 1) ∈ h := by
  have e : h.getD i (0, 1) = h[i] := by
    rw [List.getD_eq_getElem?_getD, List.getElem?_eq_getElem hi]
    rfl
  rw [e]
  exact List.getElem_mem _
theorem fillS_bd {a N : Nat} {h : List Fr} {j : Nat} {x : Fr} (z : HBN a N h) (hj : j < h.length) (hx : Told x) : HBN (a + 10) (N + 999) (fillS h (j, x)) := by
  obtain ⟨M, m0, m1, b1⟩ := z
  obtain ⟨p0, p1⟩ := told_pow hx
  refine ⟨M * x.2.natAbs, Nat.mul_pos m0 p0, pow_mul_lt m1 p1, fun y hy => ?_⟩
  have up : ∀ {y}, y ∈ h → Bd (M * x.2.natAbs) N y := fun hy => (b1 _ hy).mono (Nat.dvd_mul_right _ _) (Nat.le_refl _)
  rcases List.mem_or_eq_of_mem_set hy with hy | rfl
  · exact (up hy).mono (Nat.dvd_refl _) (by omega)
  · exact (up (getD_mem hj)).add ((told_bd hx).mono (Nat.dvd_mul_left _ _) (Nat.le_refl _))
theorem fillI_bd {a N : Nat} {fs : List Nat} {r h : List Fr} (z : HBN a N h) (hf : ∀ j ∈ fs, j < h.length) (hr : ToldS r) (hl : r.length = fs.length) : ∀ {i : Nat}, i ≤ r.length → HBN (a + 10 * i) (N + 999 * i) (fillI fs r h i)
  | 0, _ => z
  | i + 1, h' => by
    have e1 := List.getElem?_eq_getElem (show i < fs.length by omega)
    have e2 := List.getElem?_eq_getElem (show i < r.length by omega)
    rw [fillI_succ e1 e2]
    have z2 := fillS_bd (fillI_bd z hf hr hl (i := i) (by omega)) (j := fs[i]) (by rw [fillI_len]; exact hf _ (List.getElem_mem _)) (hr _ (List.getElem_mem (show i < r.length by omega)))
    exact z2.mono (by omega) (by omega)
theorem tab_hb {n : NetM} {as : List Fr} (g : GoodN n) (ok : AsOk n as) {row : List Fr} (h : row ∈ tabF n as) : HBN 121 23977 row := by
  have z := tabI_bd g ok (Nat.le_refl _)
  rw [tabI_all] at z
  obtain ⟨M, m0, m1, b1⟩ := z
  have l := g.len
  exact ⟨M, m0, Nat.lt_of_lt_of_le m1 (Nat.pow_le_pow_right (by decide) (by omega)), fun x hx => (b1 row h x hx).mono (Nat.dvd_refl _) (by omega)⟩
theorem tab_row {n : NetM} {as : List Fr} {row : List Fr} (h : row ∈ tabF n as) : row.length = n.m := by
  obtain ⟨i, hi, rfl⟩ := List.getElem_of_mem h
  have z := (sqF n as).row i (by rw [← (sqF n as).len]; exact hi)
  rw [List.getD_eq_getElem?_getD, List.getElem?_eq_getElem hi] at z
  exact z
theorem sentF_len (n : NetM) (as : List Fr) (h : List Fr) : (sentF (tabF n as) h).length = n.m := by
  unfold sentF
  rw [List.length_map]
  exact (sqF n as).len
theorem sent_bd {n : NetM} {as : List Fr} (g : GoodN n) (ok : AsOk n as) {a N : Nat} {h : List Fr} (z : HBN a N h) (hl : h.length = n.m) : HBN (121 + a) (4 * (23977 * N)) (sentF (tabF n as) h) := by
  have zt := tabI_bd g ok (Nat.le_refl _)
  rw [tabI_all] at zt
  obtain ⟨Mt, m0, m1, b1⟩ := zt
  obtain ⟨M, p0, p1, b2⟩ := z
  have l := g.len
  have m4 := g.m4
  have m1' : Mt < 2 ^ 121 := Nat.lt_of_lt_of_le m1 (Nat.pow_le_pow_right (by decide) (by omega))
  refine ⟨Mt * M, Nat.mul_pos m0 p0, pow_mul_lt m1' p1, fun x hx => ?_⟩
  obtain ⟨row, hrow, rfl⟩ := List.mem_map.mp hx
  have lr := tab_row hrow
  have zz := dotI_bd (N := 23977) (N' := N) m0 p0 (fun x hx => (b1 row hrow x hx).mono (Nat.dvd_refl _) (by omega)) b2 (by omega) (Nat.le_refl row.length)
  exact zz.mono (Nat.dvd_refl _) (Nat.mul_le_mul_right _ (by omega))
theorem sent_ok {n : NetM} {as : List Fr} (g : GoodN n) (ok : AsOk n as) {a N b : Nat} {h : List Fr} (z : HBN a N h) (hN : N < 2 ^ b) (hz : a + b + 300 ≤ 4000) (hl : h.length = n.m) : ∀ row ∈ tabF n as, DotOk row h := fun row hr => by
  have lr := tab_row hr
  have m4 := g.m4
  exact ⟨by omega, by omega, 121, 15, a, b, (tab_hb g ok hr).hb (by decide), z.hb hN, by omega⟩
theorem heldI_zero (n : NetM) (as : List Fr) (fl : List (List Fr)) : heldI n as fl 0 = held0 n.m := rfl
theorem heldI_succ {n : NetM} {as : List Fr} {fl : List (List Fr)} {k : Nat} {r : List Fr} (h : fl[k]? = some r) : heldI n as fl (k + 1) = fillF n.fs r (sentF (tabF n as) (heldI n as fl k)) := by
  unfold heldI
  rw [List.take_add_one, h, List.foldl_append]
  rfl
def FlOk (n : NetM) (fl : List (List Fr)) : Prop := fl.length ≤ 8 ∧ ∀ r ∈ fl, r.length = n.fs.length ∧ ToldS r
theorem held_ok {n : NetM} {as : List Fr} {fl : List (List Fr)} (g : GoodN n) (ok : AsOk n as) (hf : FlOk n fl) : ∀ {k : Nat}, k ≤ fl.length → HBN (1 + 161 * k) (2 ^ (18 * k)) (heldI n as fl k) ∧ (heldI n as fl k).length = n.m
  | 0, _ => ⟨⟨1, by decide, by decide, fun x hx => by
      rw [heldI_zero] at hx
      rw [(List.mem_replicate.mp hx).2]
      exact bd0 (by decide)⟩, by rw [heldI_zero]; exact List.length_replicate⟩
  | k + 1, h => by
    obtain ⟨z, hl⟩ := held_ok g ok hf (k := k) (by omega)
    have e := List.getElem?_eq_getElem (show k < fl.length by omega)
    rw [heldI_succ e]
    obtain ⟨lr, tr⟩ := hf.2 _ (List.getElem_mem (show k < fl.length by omega))
    have zs := sent_bd g ok z hl
    have ls := sentF_len n as (heldI n as fl k)
    have f4 : n.fs.length ≤ 4 := Nat.le_trans g.fs.len g.m4
    have zf := fillI_bd zs (fs := n.fs) (r := fl[k]) (fun j hj => by rw [ls]; exact g.fs.lt j hj) tr lr (Nat.le_refl _)
    refine ⟨zf.mono (by omega) ?_, by unfold fillF; rw [fillI_len, ls]⟩
    have p1 : 1 ≤ 2 ^ (18 * k) := Nat.one_le_two_pow
    have e18 : 2 ^ (18 * (k + 1)) = 2 ^ (18 * k) * 262144 := by rw [Nat.mul_succ, Nat.pow_add]
    rw [e18]
    generalize 2 ^ (18 * k) = X at p1 ⊢
    omega
end KP

set_option Elab.async false
set_option linter.all false
set_option maxRecDepth 100000
set_option maxHeartbeats 4000000
/-! ### sent, filled_up, seen_of; the law's sent -/
namespace KP
open PySem PySem.Spec PyProof.Rows L2 KX KT KJ KS FR
theorem frl_at {K : PySem.W.Frag} {H : Hp} {vs : List V} {h : List Fr} (f : FrL K H vs h) {j : Nat} (hj : j < h.length) : ∃ v, vs[j]? = some v ∧ FrV K H v (h.getD j (0, 1)) := by
  have hv : j < vs.length := by rw [f.len]; exact hj
  refine ⟨_, List.getElem?_eq_getElem hv, ?_⟩
  have e : h.getD j (0, 1) = h[j] := by
    rw [List.getD_eq_getElem?_getD, List.getElem?_eq_getElem hj]
    rfl
  rw [e]
  exact f.get j _ _ (List.getElem?_eq_getElem hv) (List.getElem?_eq_getElem hj)
theorem nats_at {H : Hp} {vs : List V} {ns : List Nat} {i : Nat} {v : V} (h : ThAll H vs (natsD ns)) (e : vs[i]? = some v) : ∃ j, ns[i]? = some j ∧ v = .int (j : Nat) := by
  obtain ⟨d, hd, td⟩ := all_get h e
  unfold natsD at hd
  rw [List.getElem?_map] at hd
  cases z : ns[i]? with
  | none => rw [z] at hd; cases hd
  | some j =>
    rw [z] at hd
    cases hd
    cases td
    exact ⟨j, rfl, rfl⟩
def spSent (K : PySem.W.Frag) : Sp := fun vs H Q _ => ∃ u v t h, vs = [u, v] ∧ TabT K H u t ∧ RowT K H v h ∧ t.length ≤ 4 ∧ (∀ row ∈ t, DotOk row h) ∧ ∀ w H', Same H H' → RowT K H' w (sentF t h) → Q w H'
def spSentL (K : PySem.W.Frag) : Sp := fun vs H Q _ => ∃ u c ys t h, vs = [u, .ref c] ∧ TabT K H u t ∧ H c = some (.lst ys) ∧ FrL K H ys h ∧ t.length ≤ 4 ∧ (∀ row ∈ t, DotOk row h) ∧ ∀ p zs H', Same H H' → H p = none → H' p = some (.lst zs) → FrL K H' zs (sentF t h) → Q (.ref p) H'
def spSeenOf (K : PySem.W.Frag) : Sp := fun vs H Q _ => ∃ x u n h, vs = [x, u] ∧ GoodN n ∧ Th (tO H) x (NetM.d n) ∧ RowT K H u h ∧ h.length = n.m ∧ ∀ w H', Same H H' → RowT K H' w (seenF n.ss h) → Q w H'
def spFilled (K : PySem.W.Frag) : Sp := fun vs H Q _ => ∃ x u z n h r a N, vs = [x, u, z] ∧ GoodN n ∧ Th (tO H) x (NetM.d n) ∧ RowT K H u h ∧ h.length = n.m ∧ Th (tO H) z (.tuple (r.map fD)) ∧ r.length = n.fs.length ∧ ToldS r ∧ HBN a N h ∧ a ≤ 2600 ∧ N < 2 ^ 180 ∧ ∀ w H', Same H H' → RowT K H' w (fillF n.fs r h) → Q w H'
section
variable {P : Program} {w : World} {K : PySem.W.Frag} {mg : Str → Option Value} {base : Heap}
abbrev nFu : List Str := ["net", "held", "filling", "amounts", "tank", "amount"]
end
end KP

set_option Elab.async false
set_option linter.all false
set_option maxRecDepth 100000
set_option maxHeartbeats 4000000
/-! ### seen_in -/
namespace KP
open PySem PySem.Spec PyProof.Rows L2 KX KT KJ KS FR
def spRuns (K : PySem.W.Frag) (Ps : List Addr) : Sp := fun vs H Q _ => ∃ x y z n as fl, vs = [x, y, z] ∧ GoodN n ∧ Th (tO H) x (NetM.d n) ∧ AsOk n as ∧ Th (tO H) y (.tuple (as.map fD)) ∧ FlOk n fl ∧ Th (tO H) z (flD fl) ∧ Tbs Ps H ∧ ∀ v H', Grown Ps H H' → TabT K H' v (seenAll n as fl) → Q v H'
abbrev nSi : List Str := ["net", "assignment", "fillings", "table", "held", "rows", "filling"]
theorem rep_vec {K : PySem.W.Frag} {H : Hp} {p aN : Addr} {m : Nat} {Q : VK} (cN : ∀ H, SqT K H aN [.int 0, .int 1]) (m1 : 1 ≤ m) (m4 : m ≤ 4) (e : H p = some (.tup [.ref aN])) (k : ∀ v H', Same H H' → RowT K H' v (held0 m) → Q v H') : MZ.rRepA K (.ref p) (.int (m : Nat)) H Q := by
  have fr : ∀ (H : Hp) (j : Nat), FrL K H (List.replicate j (V.ref aN)) (held0 j) := by
    intro H j
    induction j with
    | zero => exact FrL.nil
    | succ j ih =>
      have e1 : List.replicate (j + 1) (V.ref aN) = List.replicate j (V.ref aN) ++ [V.ref aN] := List.replicate_succ'
      have e2 : held0 (j + 1) = held0 j ++ [(0, 1)] := List.replicate_succ'
      rw [e1, e2]
      exact ih.snoc (FrV.cst cN)
  refine ⟨p, (m : Int), _, rfl, rfl, SqT.of e, by simp, by omega, by omega, by simp, fun z => ?_, fun z q hq => ?_⟩
  · have m1 : m = 1 := by omega
    subst m1
    exact k _ H (Same.refl H) ⟨p, _, rfl, tO_of e, fr H 1⟩
  · have e3 : (List.replicate ((m : Int)).toNat [V.ref aN]).flatten = List.replicate m (V.ref aN) := by
      rw [Int.toNat_natCast]
      exact List.flatten_replicate_singleton
    rw [e3]
    exact k _ _ (same_upd hq) ⟨q, _, rfl, tO_of upd_same, fr _ m⟩
/-- what is seen, after some beats -/
def seenI (n : NetM) (as : List Fr) (fl : List (List Fr)) (i : Nat) : Tab := (List.range i).map fun k => seenF n.ss (heldI n as fl k)
theorem seenI_succ {n : NetM} {as : List Fr} {fl : List (List Fr)} {i : Nat} : seenI n as fl (i + 1) = seenI n as fl i ++ [seenF n.ss (heldI n as fl i)] := by
  unfold seenI
  rw [List.range_succ, List.map_append]
  rfl
theorem seenI_all {n : NetM} {as : List Fr} {fl : List (List Fr)} : seenI n as fl (fl.length + 1) = seenAll n as fl := rfl
theorem n17 {k : Nat} (h : k ≤ 8) : 4 * (23977 * 2 ^ (18 * k)) < 2 ^ 180 := by
  have p1 : 0 < 2 ^ (18 * k) := Nat.pow_pos (by decide)
  have e : 2 ^ (17 + 18 * k) = 131072 * 2 ^ (18 * k) := by rw [Nat.pow_add]
  have l : 2 ^ (17 + 18 * k) ≤ 2 ^ 180 := Nat.pow_le_pow_right (by decide) (by omega)
  rw [e] at l
  generalize 2 ^ (18 * k) = X at p1 l ⊢
  omega
theorem n18 {k : Nat} (h : k ≤ 8) : 2 ^ (18 * k) < 2 ^ 145 := Nat.pow_lt_pow_right (by decide) (by omega)
section
variable {P : Program} {w : World} {K : PySem.W.Frag} {mg : Str → Option Value} {base : Heap}
end
end KP

set_option Elab.async false
set_option linter.all false
set_option maxRecDepth 100000
set_option maxHeartbeats 4000000
/-! ### the law's own runs -/
namespace KP
open PySem PySem.Spec PyProof.Rows L2 KX KT KJ KS FR
def spRunsL (K : PySem.W.Frag) : Sp := fun vs H Q _ => ∃ x y z n as fl, vs = [x, y, z] ∧ GoodN n ∧ Th (tO H) x (NetM.d n) ∧ AsOk n as ∧ Th (tO H) y (.tuple (as.map fD)) ∧ FlOk n fl ∧ Th (tO H) z (flD fl) ∧ ∀ v H', Same H H' → TabT K H' v (seenAll n as fl) → Q v H'
abbrev nSl : List Str := ["net", "assignment", "fillings", "table", "held", "found", "row", "at", "part"]
theorem cat_none {K : PySem.W.Frag} {H : Hp} {a p : Addr} {zs : List V} {Q : VK} (ea : H a = some (.tup zs)) (ep : H p = some (.tup [.non])) (hl : zs.length ≤ 1000) (k : ∀ c H', Same H H' → H' c = some (.tup (zs ++ [.non])) → Q (.ref c) H') : rCatA K (.ref a) (.ref p) H Q :=
  ⟨a, p, zs, _, rfl, rfl, SqT.of ea, SqT.of ep, Nat.le_trans (show zs.length + 1 ≤ 1001 by omega) (by decide), (fun z => by subst z; exact k p H (Same.refl H) ep), (fun _ z => by cases z), fun _ _ q hq => k q _ (same_upd hq) upd_same⟩
theorem i_ifE {t : TT} {ta tb : TE} {b : Bool} {σ : L2.St} {H : Hp} {Q : VK} (h : Ti t σ H b) (h1 : b = true → ta σ H Q) (h2 : b = false → tb σ H Q) : tIf t ta tb σ H Q := h _ (iteB h1 h2)
theorem rep_lst {H : Hp} {l : Addr} {x : V} {m : Nat} {Q : VK} (m4 : m ≤ 4) (e : H l = some (.lst [x])) (k : ∀ q, H q = none → Q (.ref q) (upd H q (.lst (List.replicate m x)))) : rRep (.ref l) (.int (m : Nat)) H Q := by
  refine ⟨l, (m : Int), _, rfl, rfl, e, by omega, by omega, ?_, fun q hq => ?_⟩
  · rw [Int.toNat_natCast]
    exact Nat.le_trans (show 1 * m ≤ 4 by omega) (by decide)
  · rw [Int.toNat_natCast, List.flatten_replicate_singleton]
    exact k q hq
theorem frl_rep {K : PySem.W.Frag} {H : Hp} {v : V} (f : FrV K H v (0, 1)) : ∀ j : Nat, FrL K H (List.replicate j v) (held0 j)
  | 0 => FrL.nil
  | j + 1 => by
    have e1 : List.replicate (j + 1) v = List.replicate j v ++ [v] := List.replicate_succ'
    have e2 : held0 (j + 1) = held0 j ++ [(0, 1)] := List.replicate_succ'
    rw [e1, e2]
    exact (frl_rep f j).snoc f
end KP

set_option Elab.async false
set_option linter.all false
set_option maxRecDepth 100000
set_option maxHeartbeats 4000000
/-! ### drawn assignments and fillings -/
namespace KP
open PySem PySem.Spec PyProof.Rows L2 KX KT KJ KS FR
abbrev lAsn : Stmt := top 50
theorem th_hid {j : Addr} {H : Hp} {v : V} {d : PyData} (h : Th (hid j H) v d) (z : tpD d = true) : Th (tO H) v d := th_tO (h.mono (Sm.same (hid_same j H))) z
theorem thAll_tk {H H' : Hp} {vs : List V} {ds : List PyData} (h : ThAll (tO H) vs ds) (s : Tk H H') : ThAll (tO H') vs ds := ThAll.mono (Sm.same s) h
theorem but_put {j p : Addr} {H H' : Hp} {o : HO} (b : KJ.But j H H') (h : H p = none) : KJ.But j H (upd H' p o) := fun c u n e => by
  rw [upd_ne (ne_of_none e h)]
  exact b c u n e
theorem jar_put {j p : Addr} {H : Hp} {n : Nat} {o : HO} (h : JarAt H j n) (np : p ≠ j) : JarAt (upd H p o) j n := by
  obtain ⟨x1, x2, x3, ej, r⟩ := h
  exact ⟨x1, x2, x3, by rw [upd_ne (Ne.symm np)]; exact ej, r⟩
def spAsn : Sp := fun vs H Q _ => ∃ j n x nt, vs = [.ref j, x] ∧ JarAt H j n ∧ n ≤ 800000 ∧ GoodN nt ∧ Th (tO H) x (NetM.d nt) ∧ ∀ v as H', AsOk nt as → Th (tO H') v (.tuple (as.map fD)) → KJ.But j H H' → JarAt H' j (n + 12) → Q v H'
def spFil : Sp := fun vs H Q _ => ∃ j n x nt, vs = [.ref j, x, .int 6] ∧ JarAt H j n ∧ n ≤ 800000 ∧ GoodN nt ∧ Th (tO H) x (NetM.d nt) ∧ ∀ v fl H', FlOk nt fl → Th (tO H') v (flD fl) → KJ.But j H H' → JarAt H' j (n + 129) → Q v H'
section
variable {P : Program} {w : World} {K : PySem.W.Frag} {mg : Str → Option Value} {base : Heap}
abbrev nAsn : List Str := ["jar", "net", "found", "at"]
theorem scAsn : FnScope nAsn ["jar", "net"] (defScope lAsn) := ⟨rfl, rfl, rfl, by decide +kernel, rfl, by decide +kernel, by decide +kernel⟩
theorem ok_asn {f fP : Addr} {fd fdP : FuncData} (F : Fun K "_law_assignment" "_law_assignment" lAsn f fd) (T : TxD mg)
    (FP : FnOk P w K mg base CX0 3 fP fdP ["jar"] spPart2) (mP : mg "_law_told_part" = some (.ref fP)) (kP : PySem.W.keepIn K (.ref fP) = true) (bP : Binds K fdP ["jar"] []) :
    FnOk P w K mg base CX0 4 f fd ["jar", "net"] spAsn := by
  refine F.ok scAsn (fun vs H Q E h => ?_) (fun cdv A outer s H vs Q E hr h => ?_)
  · obtain ⟨j, n, x, nt, rfl, _⟩ := h
    rfl
  · obtain ⟨j, n, x, nt, rfl, hj, hn, g, th, k⟩ := h
    refine ⟨_, pss_cons (ps_set (i := 2) scAsn.nd rfl (Or.inl rfl) (pe_lst pa_nil))
      (pss_cons (ps_for PassesOwn.never rfl (pi_range1 rfl T.range (pa_cons (pe_ix ix_tup (pv 1) pe_int (fun _ _ => rfl)) pa_nil)) (pg_name (i := 3) scAsn.nd rfl (Or.inl rfl))
        (pss_one (ps_expr (pe_bm PySem.F.plainAttrs_list PySem.F.slot_list_append PySem.F.type_list_append mt_append (pv 2) (pa_cons (pe_call FP hr rfl mP kP bP .nil pass0 (pa_cons (pv 0) pa_nil)) pa_nil)))))
      (pss_one (ps_ret (pe_tupleOf (by rfl) T.tuple (pv 2))))), ?_⟩
    obtain ⟨a, ps, fs, ss, rfl, ea, _, _, _⟩ := net_parts th
    have u4 := g.u4
    refine ⟨by decide, fun p hp => ?_⟩
    have sp := same_upd (o := .lst ([] : List V)) hp
    have np : p ≠ j := new_ne hp (jar_ne hj)
    refine ⟨_, rfl, a, _, _, _, rfl, rfl, SqT.of (sp.rd (tO_same H _ _ ea)), rfl, (nt.u : Int), rfl, by omega, by omega, ?_⟩
    rw [show ((nt.u : Nat) : Int).toNat = nt.u from rfl]
    refine for_range (lo := 0) (n := nt.u) (fun i σ H' => ∃ o3 xs as, σ = [some (.ref j), some (.ref a), some (.ref p), o3] ∧ H' p = some (.lst xs) ∧ ThAll (tO H') xs (as.map fD) ∧ as.length = i ∧ ToldS as ∧ KJ.But j H H' ∧ JarAt H' j (n + 3 * i)) ⟨none, [], [], rfl, upd_same, .nil, rfl, (fun a h => by cases h), KJ.But.same sp, jar_same hj sp⟩ ?_ ?_
    · rintro i σ H' hi ⟨o3, xs, as, rfl, ep, ta, la, ht, b0, j0⟩
      have lx : xs.length = i := by rw [all2 ta, List.length_map, la]
      refine ⟨_, rfl, .inl ⟨rfl, _, SqL.of ep⟩, ⟨_, rfl, j, _, rfl, j0, by omega, fun v f H1 hf tv b1 j1 => ?_⟩⟩
      have ep1 := b1 _ _ np ep
      refine ⟨p, xs, v, rfl, rfl, ep1, Nat.lt_of_lt_of_le (show xs.length < 1000 by omega) (by decide), ?_⟩
      have tk := Tk.put (ys := xs ++ [v]) ep1
      refine ⟨_, xs ++ [v], as ++ [f], rfl, upd_same, ?_, by rw [List.length_append, List.length_singleton, la], fun y hy => ?_, but_put (b0.trans b1) hp, by rw [show n + 3 * (i + 1) = n + 3 * i + 3 by omega]; exact jar_put j1 np⟩
      · rw [List.map_append]
        exact ThAll.append (thAll_tk ta ((Tk.jar j0 b1).trans tk)) (.cons ((th_hid tv (tp_f f)).tk tk) .nil)
      · rcases List.mem_append.mp hy with h | h
        · exact ht y h
        · rw [List.mem_singleton.mp h]
          exact hf
    · rintro σ H' ⟨o3, xs, as, rfl, ep, ta, la, ht, b0, j0⟩
      refine ⟨_, rfl, .inl ⟨p, xs, rfl, SqL.of ep, fun q hq => ?_⟩⟩
      have sq := same_upd (o := .tup xs) hq
      exact k _ as _ ⟨la, ht⟩ (.tup (tO_of upd_same) (thAll_tk ta (Tk.same sq))) (b0.trans (KJ.But.same sq)) (jar_more (jar_same j0 sq) (by omega))
/-- a row that is being drawn -/
def RowI (j p2 : Addr) (H' : Hp) (c b : Nat) (H2 : Hp) : Prop := ∃ ys r, H2 p2 = some (.lst ys) ∧ ThAll (tO H2) ys (r.map fD) ∧ r.length = b ∧ ToldS r ∧ KJ.But j H' H2 ∧ Tk H' H2 ∧ JarAt H2 j (c + 4 * b)
theorem RowI.jar {j p2 : Addr} {H' H2 : Hp} {c b : Nat} (R : RowI j p2 H' c b H2) : JarAt H2 j (c + 4 * b) := let ⟨_, _, _, _, _, _, _, _, z⟩ := R; z
theorem RowI.lst {j p2 : Addr} {H' H2 : Hp} {c b : Nat} (R : RowI j p2 H' c b H2) : ∃ ys, H2 p2 = some (.lst ys) := let ⟨ys, _, e, _⟩ := R; ⟨ys, e⟩
theorem RowI.more {j p2 : Addr} {H' H2 H3 : Hp} {c b : Nat} (R : RowI j p2 H' c b H2) (hp2 : H' p2 = none) (np2 : p2 ≠ j) {v : V} {f : Fr} (hf : Told f) (tv : Th (tO H3) v (fD f)) (b3 : KJ.But j H2 H3) (j3 : JarAt H3 j (c + 4 * b + 4)) :
    ∃ ys, H3 p2 = some (.lst ys) ∧ ys.length = b ∧ RowI j p2 H' c (b + 1) (upd H3 p2 (.lst (ys ++ [v]))) := by
  obtain ⟨ys, r, ey, ty, lr, hr', b2, tk2, j2⟩ := R
  have ey3 := b3 _ _ np2 ey
  have tk := Tk.put (ys := ys ++ [v]) ey3
  have tk3 := (Tk.jar j2 b3).trans tk
  refine ⟨ys, ey3, by rw [all2 ty, List.length_map, lr], ys ++ [v], r ++ [f], upd_same, ?_, by rw [List.length_append, List.length_singleton, lr], fun y hy => ?_, but_put (b2.trans b3) hp2, tk2.trans tk3, by rw [show c + 4 * (b + 1) = c + 4 * b + 4 by omega]; exact jar_put j3 np2⟩
  · rw [List.map_append]
    exact ThAll.append (thAll_tk ty tk3) (.cons (tv.tk tk) .nil)
  · rcases List.mem_append.mp hy with h | h
    · exact hr' y h
    · rw [List.mem_singleton.mp h]
      exact hf
abbrev nFil : List Str := ["jar", "net", "most", "found", "turn", "row", "at"]
end
end KP

set_option Elab.async false
set_option linter.all false
set_option maxRecDepth 100000
set_option maxHeartbeats 4000000
/-! ### tables as data that can be shown; parts of tuples -/
namespace KP
open PySem PySem.Spec PyProof.Rows L2 KX KT KJ KS FR
structure FOk (x : Fr) : Prop where
  n : x.1.natAbs < 2 ^ 1920
  d : x.2.natAbs < 2 ^ 1920
structure TOk (t : Tab) : Prop where
  len : t.length ≤ 9
  row : ∀ r ∈ t, r.length ≤ 4 ∧ ∀ x ∈ r, FOk x
theorem log_ok {n : Nat} (h : n < 2 ^ 1920) : n.log2 < 1920 := by
  by_cases z : n = 0
  · subst z
    decide
  · exact (Nat.log2_lt z).mpr h
theorem shownAll_map : ∀ ds : List PyData, PyData.shownAll ds = ds.map PyData.shown
  | [] => rfl
  | d :: ds => by
    simp only [PyData.shownAll, List.map_cons]
    rw [shownAll_map ds]
theorem showableAll_of : ∀ {ds : List PyData}, (∀ d ∈ ds, d.showable = true) → PyData.showableAll ds = true
  | [], _ => rfl
  | d :: ds, h => by
    simp only [PyData.showableAll, Bool.and_eq_true]
    exact ⟨h d List.mem_cons_self, showableAll_of fun e he => h e (List.mem_cons_of_mem _ he)⟩
theorem hasDictAll_of : ∀ {ds : List PyData}, (∀ d ∈ ds, d.hasDict = false) → PyData.hasDictAll ds = false
  | [], _ => rfl
  | d :: ds, h => by
    simp only [PyData.hasDictAll, Bool.or_eq_false_iff]
    exact ⟨h d List.mem_cons_self, hasDictAll_of fun e he => h e (List.mem_cons_of_mem _ he)⟩
theorem depthAll_of {n : Nat} : ∀ {ds : List PyData}, (∀ d ∈ ds, d.depth ≤ n) → PyData.depthAll ds ≤ n
  | [], _ => by simp [PyData.depthAll]
  | d :: ds, h => by
    simp only [PyData.depthAll]
    have h1 := h d List.mem_cons_self
    have h2 := depthAll_of (ds := ds) fun e he => h e (List.mem_cons_of_mem _ he)
    omega
/-- what can be shown in so many signs -/
structure Sw (L n : Nat) (d : PyData) : Prop where
  ok : d.showable = true
  len : d.shown.length ≤ L
  dep : d.depth ≤ n
  nod : d.hasDict = false
theorem sum_le {α : Type} {f : α → Nat} {B : Nat} : ∀ {l : List α}, (∀ x ∈ l, f x ≤ B) → (l.map f).sum ≤ l.length * B
  | [], _ => by simp
  | x :: l, h => by
    have h1 := h x List.mem_cons_self
    have h2 := sum_le (l := l) fun y hy => h y (List.mem_cons_of_mem _ hy)
    rw [List.map_cons, List.sum_cons, List.length_cons, Nat.succ_mul]
    omega
theorem sw_int {i : Int} (h : i.natAbs < 2 ^ 1920) : Sw 1921 1 (.int i) :=
  ⟨by simpa [PyData.showable] using log_ok h, by simp only [PyData.shown]; exact int_text_len_1921 (log_ok h), by simp [PyData.depth], by simp [PyData.hasDict]⟩
theorem sw_tup {L n k : Nat} {ds : List PyData} (h : ∀ d ∈ ds, Sw L n d) (hk : ds.length ≤ k) : Sw (k * (L + 2) + 3) (n + 1) (.tuple ds) := by
  refine ⟨by simp only [PyData.showable]; exact showableAll_of fun d hd => (h d hd).ok, ?_, ?_, by simp only [PyData.hasDict]; exact hasDictAll_of fun d hd => (h d hd).nod⟩
  · simp only [PyData.shown]
    rw [shownAll_map]
    have a := tupleText_len_le (ds.map PyData.shown)
    rw [List.map_map, List.length_map] at a
    have b := sum_le (f := fun d : PyData => d.shown.length) (l := ds) fun d hd => (h d hd).len
    have c : ds.length * L + 2 * ds.length ≤ k * (L + 2) := by
      rw [Nat.mul_comm 2, ← Nat.mul_add]
      exact Nat.mul_le_mul_right _ hk
    have e : (List.map (Str.length ∘ PyData.shown) ds).sum ≤ ds.length * L := b
    have a' : (tupleText (ds.map PyData.shown)).length ≤ (List.map (Str.length ∘ PyData.shown) ds).sum + 2 * ds.length + 3 := a
    omega
  · simp only [PyData.depth]
    have := depthAll_of (ds := ds) fun d hd => (h d hd).dep
    omega
theorem sw_lst {L n k : Nat} {ds : List PyData} (h : ∀ d ∈ ds, Sw L n d) (hk : ds.length ≤ k) : Sw (k * (L + 2) + 3) (n + 1) (.list ds) := by
  refine ⟨by simp only [PyData.showable]; exact showableAll_of fun d hd => (h d hd).ok, ?_, ?_, by simp only [PyData.hasDict]; exact hasDictAll_of fun d hd => (h d hd).nod⟩
  · simp only [PyData.shown]
    rw [shownAll_map]
    have a := listText_len_le (ds.map PyData.shown)
    rw [List.map_map, List.length_map] at a
    have b := sum_le (f := fun d : PyData => d.shown.length) (l := ds) fun d hd => (h d hd).len
    have c : ds.length * L + 2 * ds.length ≤ k * (L + 2) := by
      rw [Nat.mul_comm 2, ← Nat.mul_add]
      exact Nat.mul_le_mul_right _ hk
    have e : (List.map (Str.length ∘ PyData.shown) ds).sum ≤ ds.length * L := b
    have a' : (listText (ds.map PyData.shown)).length ≤ (List.map (Str.length ∘ PyData.shown) ds).sum + 2 * ds.length + 3 := a
    omega
  · simp only [PyData.depth]
    have := depthAll_of (ds := ds) fun d hd => (h d hd).dep
    omega
theorem sw_tab {t : Tab} (h : TOk t) : Sw 200000 4 (flD t) := by
  have f : ∀ x, FOk x → Sw 3849 2 (fD x) := fun x hx => sw_tup (k := 2) (L := 1921) (n := 1) (fun d hd => by
    simp only [List.mem_cons, List.not_mem_nil, or_false] at hd
    rcases hd with rfl | rfl
    · exact sw_int hx.n
    · exact sw_int hx.d) (by simp)
  have r : ∀ r ∈ t, Sw 15407 3 (.tuple (r.map fD)) := fun r hr => sw_tup (k := 4) (L := 3849) (n := 2) (fun d hd => by
    obtain ⟨x, hx, rfl⟩ := List.mem_map.mp hd
    exact f x ((h.row r hr).2 x hx)) (by rw [List.length_map]; exact (h.row r hr).1)
  have z := sw_tup (k := 9) (L := 15407) (n := 3) (ds := t.map fun r => PyData.tuple (r.map fD)) (fun d hd => by
    obtain ⟨r', hr, rfl⟩ := List.mem_map.mp hd
    exact r r' hr) (by rw [List.length_map]; exact h.len)
  exact ⟨z.ok, Nat.le_trans z.len (by decide), z.dep, z.nod⟩
section
variable {K : PySem.W.Frag} {H : Hp}
theorem dp_fr {v : V} {x : Fr} (h : FrV K H v x) : Dp K H v (fD x) := by
  obtain ⟨a, rfl, q⟩ := h
  exact .tup (sqT_up q) (.cons (.int _) (.cons (.int _) .nil))
theorem dpAll_of {α : Type} {f : α → PyData} : ∀ {vs : List V} {xs : List α}, vs.length = xs.length → (∀ (k : Nat) (v : V) (x : α), vs[k]? = some v → xs[k]? = some x → Dp K H v (f x)) → DpAll K H vs (xs.map f)
  | [], [], _, _ => .nil
  | v :: vs, x :: xs, hl, h => .cons (h 0 v x rfl rfl) (dpAll_of (by simpa using hl) fun k v' x' a b => h (k + 1) v' x' (by simpa using a) (by simpa using b))
  | [], _ :: _, hl, _ => by simp at hl
  | _ :: _, [], hl, _ => by simp at hl
theorem dp_tab {v : V} {t : Tab} (h : TabT K H v t) : Dp K H v (flD t) := by
  obtain ⟨a, us, rfl, e, r⟩ := h
  refine .tup (SqT.of (tO_same H _ _ e)) (dpAll_of r.len fun k u row a b => ?_)
  obtain ⟨c, vs, rfl, e2, f⟩ := r.get k u row a b
  exact .tup (SqT.of (tO_same H _ _ e2)) (dpAll_of f.len fun k v x a b => dp_fr (f.get k v x a b))
theorem shw_tab {v : V} {t : Tab} (h : TabT K H v t) (ok : TOk t) : Shw K H v (flD t) := by
  have z := sw_tab ok
  exact ⟨z.ok, Nat.le_trans z.len (by decide), Nat.le_trans z.dep (by decide), .inl ⟨z.nod, dp_tab h⟩⟩
theorem shw_two {a : Addr} {v1 v2 : V} {t : Tab} (e : H a = some (.lst [v1, v2])) (h1 : TabT K H v1 t) (h2 : TabT K H v2 t) (ok : TOk t) : Shw K H (.ref a) (.list [flD t, flD t]) := by
  have s := sw_tab ok
  have z := sw_lst (k := 2) (L := 200000) (n := 4) (ds := [flD t, flD t]) (fun d hd => by
    simp only [List.mem_cons, List.not_mem_nil, or_false] at hd
    rcases hd with rfl | rfl <;> exact s) (by simp)
  exact ⟨z.ok, Nat.le_trans z.len (by decide), Nat.le_trans z.dep (by decide), .inl ⟨z.nod, .lst (SqL.of e) (.cons (dp_tab h1) (.cons (dp_tab h2) .nil))⟩⟩
/-- a beginning of a tuple -/
theorem sl_take {a : Addr} {xs : List V} {k : Nat} {Q : VK} (e : tO H a = some (.tup xs)) (q : ∀ b H', Same H H' → tO H' b = some (.tup (xs.take k)) → Q (.ref b) H') : rSlA K (.ref a) none (some (k : Int)) H Q := by
  refine ⟨a, xs, rfl, SqT.of (tO_same H _ _ e), fun z => ?_, fun _ p hp => ?_⟩
  · rw [HT.sIx_nat] at z
    refine q a H (Same.refl H) ?_
    rw [List.take_of_length_le (by have := z.2; omega)]
    exact e
  · have ec : cutV xs none (some (k : Int)) = xs.take k := by
      unfold cutV
      rw [HT.sIx_nat, HT.sIx_none, List.drop_zero, Nat.sub_zero, ← List.take_take, List.take_length]
    rw [ec]
    exact q p _ (same_upd hp) (tO_of upd_same)
theorem TabT.take {k : Nat} {a : Addr} {us : List V} {t : Tab} (e : tO H a = some (.tup (us.take k))) (r : RowsT K H us t) : TabT K H (.ref a) (t.take k) := by
  refine ⟨a, _, rfl, e, by rw [List.length_take, List.length_take, r.len], fun i u row h1 h2 => ?_⟩
  rw [List.getElem?_take] at h1 h2
  split at h1
  · rename_i hi
    rw [if_pos hi] at h2
    exact r.get i u row h1 h2
  · cases h1
theorem ThAll.take' : ∀ {xs : List V} {ds : List PyData} (k : Nat), ThAll H xs ds → ThAll H (xs.take k) (ds.take k)
  | _, _, 0, _ => .nil
  | _, _, _ + 1, .nil => .nil
  | _, _, k + 1, .cons a b => .cons a (ThAll.take' k b)
end
/-- the runs of a beginning are the beginning of the runs -/
theorem seenAll_take {n : NetM} {as : List Fr} {fl : List (List Fr)} {k : Nat} (h : k ≤ fl.length) : seenAll n as (fl.take k) = (seenAll n as fl).take (k + 1) := by
  unfold seenAll
  rw [← List.map_take, List.take_range, List.length_take, Nat.min_eq_left h, Nat.min_eq_left (by omega)]
  refine List.map_congr_left fun i hi => ?_
  have hi := List.mem_range.mp hi
  unfold heldI
  rw [List.take_take, Nat.min_eq_left (by omega)]
theorem hbn_ok {a N : Nat} {h : List Fr} (z : HBN a N h) (hN : N < 2 ^ 145) (ha : a ≤ 1775) {x : Fr} (hx : x ∈ h) : FOk x := by
  obtain ⟨M, m0, m1, b1⟩ := z
  have s := ((b1 x hx).sz m0 m1 hN).mono (b := 1920) (by omega) |>.d
  have s' := ((b1 x hx).sz m0 m1 hN).mono (b := 1920) (by omega) |>.n
  exact ⟨s', s⟩
theorem tab_tok {n : NetM} {as : List Fr} (g : GoodN n) (ok : AsOk n as) : TOk (tabF n as) := by
  have m4 := g.m4
  refine ⟨by rw [(sqF n as).len]; omega, fun r hr => ⟨by rw [tab_row hr]; exact m4, fun x hx => hbn_ok (tab_hb g ok hr) (Nat.lt_of_lt_of_le (show 23977 < 2 ^ 15 by decide) (Nat.pow_le_pow_right (by decide) (by decide))) (by omega) hx⟩⟩
theorem seen_tok {n : NetM} {as : List Fr} {fl : List (List Fr)} (g : GoodN n) (ok : AsOk n as) (hf : FlOk n fl) : TOk (seenAll n as fl) := by
  have l8 := hf.1
  refine ⟨by unfold seenAll; rw [List.length_map, List.length_range]; omega, fun r hr => ?_⟩
  unfold seenAll at hr
  obtain ⟨k, hk, rfl⟩ := List.mem_map.mp hr
  have hk := List.mem_range.mp hk
  obtain ⟨hb, hl⟩ := held_ok g ok hf (k := k) (by omega)
  refine ⟨by unfold seenF; rw [List.length_map]; exact Nat.le_trans g.ss.len g.m4, fun x hx => ?_⟩
  unfold seenF at hx
  obtain ⟨i, hi, rfl⟩ := List.mem_map.mp hx
  exact hbn_ok hb (n18 (by omega)) (by omega) (getD_mem (by rw [hl]; exact g.ss.lt i hi))
theorem FlOk.take {n : NetM} {fl : List (List Fr)} (h : FlOk n fl) (k : Nat) : FlOk n (fl.take k) := ⟨by rw [List.length_take]; have := h.1; omega, fun r hr => h.2 r (List.mem_of_mem_take hr)⟩
theorem TOk.take {t : Tab} (h : TOk t) (k : Nat) : TOk (t.take k) := ⟨by rw [List.length_take]; have := h.len; omega, fun r hr => h.row r (List.mem_of_mem_take hr)⟩
end KP

set_option Elab.async false
set_option linter.all false
set_option maxRecDepth 100000
set_option maxHeartbeats 4000000
/-! ### the law's check of one jar, and the law -/
namespace KP
open PySem PySem.Spec PyProof.Rows L2 KX KT KJ KS FR
abbrev lSame3 : Stmt := top 41
abbrev lRight3 : Stmt := top 60
abbrev lLaw3 : Stmt := top 61
/-- f(k = v, ..) -/
theorem pe_callK0 {X : Cx} {CX : CXT} {k : Nat} {f : Addr} {fd : FuncData} {ps ks : List Str} {sp : Sp} {E : XK} {x : Str} {p pos : Pos} {kws : List Keyword} {tk : TA} {g : List Value → List Value → List Value} {gV : List V → List V → List V}
    (F : FnOk X.prog X.w X.K X.mg X.base CX k f fd ps sp) (hr : Room k X.A) (hg : Gl X x) (hm : X.mg x = some (.ref f)) (hk : PySem.W.keepIn X.K (.ref f) = true) (hb : KBinds X.K fd ps ks g gV) (hx : Passes CX X E) (hkw : PK X kws tk)
    (hall : (backToKw pos (keywordEach kws X.env)).all (·.1.isSome) = true := by rfl) (hks : (backToKw pos (keywordEach kws X.env)).filterMap (·.1) = ks := by rfl) (hdb : (x == ("__debug__" : Str)) = false := by decide)
    (hpl : ((backTo pos (starEach [] X.env)).any (·.1) || (backToKw pos (keywordEach kws X.env)).any (·.1.isNone)) = false := by rfl) : PE X (.Call (.Name x p) [] kws pos) (tCallK sp gV E tNil tk) :=
  ⟨fun pins s σ H Q I h => wpAny_Call_Name_kw (ld_glob I hg hm (PySem.W.callWith_KW0 (h₀ := X.base) I.ok.mod.kin hk hall (thn (hkw.run pos pins s σ H _ I h) fun ws s2 ⟨zs, H2, I2, rz, q2⟩ => ⟨I2.kIn, by
    rw [hks]
    exact run_fnk F hr hb hx I2 .nil rz q2⟩) hpl) hdb)⟩
def Bt (j : Addr) (H H' : Hp) : Prop := ∀ b u, b ≠ j → H b = some u → (∀ q, u ≠ .tbl q) → H' b = some u
theorem Bt.but {j : Addr} {H H1 H2 : Hp} (a : Bt j H H1) (b : KJ.But j H1 H2) : Bt j H H2 := fun c u n e t => b c u n (a c u n e t)
theorem Bt.sm {j : Addr} {H H1 H2 : Hp} (a : Bt j H H1) (b : Sm H1 H2) : Bt j H H2 := fun c u n e t => b c u (a c u n e t) t
theorem jar_sm {H H' : Hp} {j : Addr} {n : Nat} (h : JarAt H j n) (s : Sm H H') : JarAt H' j n := by
  obtain ⟨a, b, c, e, r⟩ := h
  exact ⟨a, b, c, s _ _ e (fun _ z => by cases z), r⟩
theorem tbs_but {Ps : List Addr} {H H' : Hp} {j : Addr} {n : Nat} (t : Tbs Ps H) (jr : JarAt H j n) (b : KJ.But j H H') : Tbs Ps H' := fun P hP => by
  obtain ⟨ps, e, k⟩ := t P hP
  obtain ⟨_, _, _, ej, _⟩ := jr
  exact ⟨ps, b _ _ (fun z => by rw [z, ej] at e; cases e) e, k⟩
theorem tbs_same {Ps : List Addr} {H H' : Hp} (t : Tbs Ps H) (b : Same H H') : Tbs Ps H' := fun P hP => by
  obtain ⟨ps, e, k⟩ := t P hP
  exact ⟨ps, b _ _ e, k⟩
theorem sq_sm {K : PySem.W.Frag} {H H' : Hp} {a : Addr} {xs : List V} (s : Sm H H') (h : SqL K H a xs) : SqL K H' a xs := by
  rcases h with (h | ⟨o, h⟩) | h
  · exact .inl (.inl (s _ _ h fun _ z => by cases z))
  · exact .inl (.inr ⟨o, s _ _ h fun _ z => by cases z⟩)
  · exact .inr h
def spSame3 (K : PySem.W.Frag) : Sp := fun vs H Q _ => ∃ a b d, vs = [a, b] ∧ Shw K H a d ∧ Shw K H b d ∧ Q (.bl true) H
def spRight3 (Ps : List Addr) : Sp := fun vs H Q _ => ∃ j, vs = [.ref j] ∧ JarAt H j 0 ∧ Tbs Ps H ∧ ∀ H', Bt j H H' → Tbs Ps H' → Q (.bl true) H'
def spLaw3 (K : PySem.W.Frag) (Ps : List Addr) : Sp := fun vs H Q _ => ∃ (a : Addr) (ns : List Int), vs = [.ref a] ∧ SqL K H a (ns.map V.int) ∧ ns.length ≤ 63 ∧ Tbs Ps H ∧ ∀ H', Q (.bl true) H'
def gRev (us ws : List Value) : List Value := us ++ ws.reverse
def gRevV (us ws : List V) : List V := us ++ ws.reverse
section
variable {P : Program} {w : World} {K : PySem.W.Frag} {mg : Str → Option Value} {base : Heap}
theorem scSm3 : FnScope ["told", "due"] ["told", "due"] (defScope lSame3) := ⟨rfl, rfl, rfl, by decide +kernel, rfl, by decide +kernel, by decide +kernel⟩
theorem ok_same3 {f : Addr} {fd : FuncData} (F : Fun K "_law_same" "_law_same" lSame3 f fd) (T : TxD mg) : FnG P w K mg base 1 f fd ["told", "due"] (spSame3 K) := by
  refine FnG.mk' F scSm3 (fun {vs H Q E} h => ?_) (fun cdv A outer s H vs Q E qu hr h => ?_)
  · obtain ⟨a, b, x, rfl, _⟩ := h
    rfl
  · obtain ⟨a, b, d, rfl, ea, eb, k⟩ := h
    have qu' : Quiet (A.deeper (envOfC "_law_same" (defScope lSame3) s.heap.objs.size f cdv)) := qu
    have hu : (A.deeper (envOfC "_law_same" (defScope lSame3) s.heap.objs.size f cdv)).units + 64 < cLine := by have := hr.un; omega
    refine ⟨_, pss_one (ps_ret (pe_cmpR op_eq (pe_callB (cr_repr qu' hu) (by rfl) T.repr (by decide +kernel) (pa_cons (pv 0) pa_nil)) (pe_callB (cr_repr qu' hu) (by rfl) T.repr (by decide +kernel) (pa_cons (pv 1) pa_nil)) (nomark _))), ?_⟩
    refine ⟨_, rfl, _, _, rfl, ea, _, rfl, _, _, rfl, eb, rfl, ?_⟩
    rw [decide_eq_true rfl]
    exact k
end
end KP

set_option Elab.async false
set_option linter.all false
set_option maxRecDepth 100000
set_option maxHeartbeats 4000000
/-! ### the law -/
namespace KP
open PySem PySem.Spec PyProof.Rows L2 KX KT KJ KS FR
section
variable {P : Program} {w : World} {K : PySem.W.Frag} {mg : Str → Option Value} {base : Heap}
theorem scLw3 : FnScope ["script", "turn"] ["script"] (defScope lLaw3) := ⟨rfl, rfl, rfl, by decide +kernel, rfl, by decide +kernel, by decide +kernel⟩
theorem ok_law3 {f fR fJ : Addr} {fd fdR fdJ : FuncData} {Ps : List Addr} (F : Fun K "law" "law" lLaw3 f fd) (T : TxD mg)
    (FR : FnG P w K mg base 14 fR fdR ["jar"] (spRight3 Ps)) (mR : mg "_law_right" = some (.ref fR)) (kR : PySem.W.keepIn K (.ref fR) = true) (bR : Binds K fdR ["jar"] [])
    (FJ : FnOk P w K mg base CX0 1 fJ fdJ ["script", "turn"] (spJar K)) (mJ : mg "_law_jar" = some (.ref fJ)) (kJ : PySem.W.keepIn K (.ref fJ) = true) (bJ : Binds K fdJ ["script", "turn"] []) :
    FnG P w K mg base 15 f fd ["script"] (spLaw3 K Ps) := by
  refine FnG.mk' F scLw3 (fun {vs H Q E} h => ?_) (fun cdv A outer s H vs Q E qu hr h => ?_)
  · obtain ⟨j, _, rfl, _⟩ := h
    rfl
  · obtain ⟨a, ns, rfl, hS, hn, tb, k⟩ := h
    have hr1 : Room 1 _ := hr.mono (by decide)
    have qu' : Quiet (A.deeper (envOfC "law" (defScope lLaw3) s.heap.objs.size f cdv)) := qu
    refine ⟨_, pss_one (ps_ret (pe_callB (cr_all rfl) (by rfl) T.all (by decide +kernel) (pa_cons (pe_lc (own := [("turn", 1)]) (g := gName 1) (tt := tYes) rfl scLw3.nd
      (pi_range1 rfl T.range (pa_cons (pe_callB (call_max2 rfl) (by rfl) T.max (by decide +kernel) (pa_cons pe_int (pa_cons (pe_callB (call_min2 rfl) (by rfl) T.min (by decide +kernel) (pa_cons (pe_callB call_len_seq (by rfl) T.len PySem.boot_len (pa_cons (pv 0) pa_nil)) (pa_cons pe_int pa_nil))) pa_nil))) pa_nil))
      (blkOk_by (N := ["script", "turn"]) (sc := defScope lLaw3) (by decide +kernel)) (fun _ _ _ _ _ => pg_name (i := 1) scLw3.nd rfl (Or.inl rfl)) (fun _ _ _ _ _ => pts_nil)
      (fun _ _ _ _ _ => pe_quiet FR qu' hr rfl mR kR bR (pa_cons (pe_call FJ hr1 rfl mJ kJ bJ .nil pass0 (pa_cons (pv 0) (pa_cons (pv 1) pa_nil))) pa_nil))) pa_nil))), ?_⟩
    refine ⟨_, rfl, a, _, rfl, .inl hS, _, _, rfl, _, _, rfl, _, rfl, ?_, ?_, fun D hD => ?_⟩
    · split <;> split <;> omega
    · rw [List.length_map]
      split <;> split <;> omega
    · rw [List.length_map]
      generalize hN : (if (if (4 : Int) < (ns.length : Nat) then (4 : Int) else (ns.length : Nat)) > 2 then (if (4 : Int) < (ns.length : Nat) then (4 : Int) else (ns.length : Nat)) else (2 : Int)).toNat = N
      have hN4 : N ≤ 4 := by
        rw [← hN]
        split <;> split <;> omega
      refine lc_range (lo := 0) (n := N) (fun n H' => Sm H H' ∧ Tbs Ps H' ∧ H' D = some (.lst ((List.replicate n true).map V.bl))) ⟨Sm.same (same_upd hD), tbs_same tb (same_upd hD), upd_same⟩ ?_ ?_
      · rintro i H1 hi ⟨s1, t1, hD1⟩
        refine ⟨rfl, ?_⟩
        refine ⟨_, rfl, _, rfl, a, ns, i, by rw [Int.zero_add]; rfl, sq_sm s1 hS, hn, by omega, fun j H2 hj s2 jr => ?_⟩
        refine ⟨j, rfl, jr, tbs_same t1 s2, fun H3 b3 t3 => ?_⟩
        have nD : D ≠ j := ne_of_none hD1 hj
        refine ⟨_, b3 _ _ nD (s2 _ _ hD1) (fun _ z => by cases z), ?_, fun b o e nt => ?_, fun p hp => ?_, ?_⟩
        · rw [List.length_map, List.length_replicate]
          exact Nat.lt_of_lt_of_le hi (Nat.le_trans hN4 (by decide))
        · have nb : b ≠ D := fun z => by
            rw [z, hD] at e
            cases e
          rw [upd_ne nb]
          have e1 := s1 _ _ e nt
          exact b3 _ _ (ne_of_none e1 hj) (s2 _ _ e1) nt
        · obtain ⟨ps, e, c⟩ := t3 p hp
          have e3 := b3 _ _ nD (s2 _ _ hD1) (fun _ z => by cases z)
          exact ⟨ps, by rw [upd_ne (fun z => by rw [z, e3] at e; cases e)]; exact e, c⟩
        · rw [upd_same, List.replicate_succ', List.map_append]
          rfl
      · rintro H1 ⟨s1, t1, hD1⟩
        refine ⟨D, _, rfl, SqL.of hD1, ?_⟩
        have al : (List.replicate N true).all id = true := by
          rw [List.all_eq_true]
          intro x hx
          rw [List.eq_of_mem_replicate hx]
          rfl
        rw [al]
        exact k H1
end
end KP

set_option Elab.async false
set_option linter.all false
set_option maxRecDepth 100000
set_option maxHeartbeats 1000000
/-! ### the end of a law whose def is quiet, with tables of code -/
namespace KG
open PySem PySem.Spec PyProof.Rows L2 KX
open Classical in
theorem lawGT {P : Program} {w : World} {K : PySem.W.Frag} {mg mb : Str → Option Value} {k : Nat} {fa a : Addr} {cs : List (Addr × Addr)} {fd : FuncData} {x : Str} {sp : Sp} {s₁ : Shared} {vs : List Value} {ns : List Int}
    (inK : K.In s₁.heap) (hns : s₁.heap.Ns mainGlobals mg) (hb : s₁.heap.Ns builtinsNs mb) (hbb : ∀ y : Str, y ≠ "__name__" → mb y = bootBuiltins y) (hlim : s₁.heap.NoLimit) (hg : s₁.gens = #[])
    (hT : ∀ p ∈ cs, s₁.heap.get? p.2 = some { cls := .none, data := .fields #[] }) (nT : ∀ p ∈ cs, K.lookup p.2 = none) (C : ∀ p ∈ cs, PySem.W.CodeHd s₁.heap p.1 p.2)
    (hbm : ∃ (bm : Addr) (ob : Obj), mg "__builtins__" = some (.ref bm) ∧ bm ≠ builtinsNs ∧ s₁.heap.get? bm = some ob ∧ ob.cls = .type "module" ∧ ob.dict = some builtinsNs ∧ ob.data = .plain)
    (ha : s₁.heap.get? a = some { cls := .type "list", data := .seq vs.toArray }) (hi : IntsAre vs ns) (hl : ns.length ≤ sizeLine) (hr : Room k callerA)
    (F : ∀ base : Heap, K.In base → base.Ns mainGlobals mg → (∀ p ∈ cs, GxR.TabB base mg p.1 p.2) → FnG P w K mg base k fa fd [x] sp) (hbind : ∀ (s : Shared) (u : Value), BindsTo s fd ⟨[u], []⟩ [(x, u)])
    (hsp : ∀ H : Hp, (∀ p ∈ cs, H p.2 = some (.tbl #[])) → SqL K H a (ns.map V.int) → sp [.ref a] H (fun v _ => v = .bl true) fun _ _ _ => False) :
    codeAny (model P w) callerA (.call (.ref fa) ⟨[.ref a], []⟩) (fun r s' => r = .ok (.ret (.bool true)) ∧ OldK s₁.heap s'.heap ∧ s'.os = s₁.os ∧ AllBare s'.gens) s₁ := by
  let scr : Obj := { cls := .type "list", data := .seq vs.toArray }
  let H : Hp := fun b => if K.lookup a = none ∧ b = a then some (.frz scr (.lst (ns.map V.int))) else if b ∈ cs.map (·.2) then some (.tbl #[]) else none
  have rv := vals_ints hi
  have isT : ∀ {b : Addr}, b ∈ cs.map (·.2) → s₁.heap.get? b = some { cls := .none, data := .fields #[] } ∧ K.lookup b = none := fun {b} hb => by
    obtain ⟨p, hp, e⟩ := List.mem_map.mp hb
    rw [← e]
    exact ⟨hT p hp, nT p hp⟩
  have memT : ∀ p ∈ cs, p.2 ∈ cs.map (·.2) := fun p hp => List.mem_map.mpr ⟨p, hp, rfl⟩
  have aT : ∀ {b}, b ∈ cs.map (·.2) → b ≠ a := fun {b} hb z => by
    have q := (isT hb).1
    rw [z, ha] at q
    cases q
  have hA : ∀ {b u}, H b = some u → (K.lookup a = none ∧ b = a ∧ u = .frz scr (.lst (ns.map V.int))) ∨ (b ∈ cs.map (·.2) ∧ u = .tbl #[]) := fun {b u} z => by
    by_cases c : K.lookup a = none ∧ b = a
    · have z' : some (HO.frz scr (.lst (ns.map V.int))) = some u := (if_pos c).symm.trans z
      exact .inl ⟨c.1, c.2, (Option.some.inj z').symm⟩
    · have z1 := (if_neg c).symm.trans z
      by_cases c2 : b ∈ cs.map (·.2)
      · have z' : some (HO.tbl #[]) = some u := (if_pos c2).symm.trans z1
        exact .inr ⟨c2, (Option.some.inj z').symm⟩
      · have z' : none = some u := (if_neg c2).symm.trans z1
        cases z'
  have hTb : ∀ p ∈ cs, H p.2 = some (.tbl #[]) := fun p hp => (if_neg fun z => aT (memT p hp) z.2).trans (if_pos (memT p hp))
  have nK : ∀ {b o}, K.lookup b = some o → H b = none := fun {b o} e => by
    cases z : H b with
    | none => rfl
    | some u =>
      rcases hA z with ⟨z1, z2, _⟩ | ⟨z1, _⟩
      · rw [z2, z1] at e
        cases e
      · rw [(isT z1).2] at e
        cases e
  have noD : ∀ {b : Addr} {o : Obj}, s₁.heap.get? b = some o → (∀ vs n, o.data ≠ .seq vs n) → o.data ≠ .fields #[] → H b = none := fun {b o} e h1 h2 => by
    cases z : H b with
    | none => rfl
    | some u =>
      rcases hA z with ⟨_, z2, _⟩ | ⟨z1, _⟩
      · rw [z2, ha] at e
        cases e
        exact absurd rfl (h1 _ _)
      · rw [(isT z1).1] at e
        cases e
        exact absurd rfl h2
  have nD : ∀ {b m}, s₁.heap.Ns b m → (hidT s₁.heap H).Ns b m := by
    rintro b m ⟨o, es, ep, e, d, r⟩
    refine ⟨o, es, ep, hidT_get e (noD e (fun vs n z => ?_) fun z => ?_), d, r⟩ <;> (rw [d] at z; cases z)
  have inB : K.In (hidT s₁.heap H) := fun b o e => hidT_get (inK b o e) (nK e)
  have hok : HOk P w H s₁.heap := fun b u z => by
    rcases hA z with ⟨_, rfl, rfl⟩ | ⟨z1, rfl⟩
    · exact ⟨ha, by rw [List.length_map]; exact hl, vs, _, rv, ha⟩
    · exact (isT z1).1
  have sq : SqL K H a (ns.map V.int) := by
    cases z : K.lookup a with
    | none => exact .inl (.inr ⟨scr, if_pos ⟨z, rfl⟩⟩)
    | some o =>
      have e := inK a o z
      rw [ha] at e
      cases e
      exact .inr ⟨_, vs.toArray, _, z, rfl, rfl, rfl, by rw [List.size_toArray, hi.length]; exact hl, by simpa using rv⟩
  have TB : ∀ p ∈ cs, GxR.TabB (hidT s₁.heap H) mg p.1 p.2 := fun p hp => by
    have hTp := hT p hp
    refine ⟨?_, ?_, fun z => ?_⟩
    · obtain ⟨o, us, file, tf, flags, tg, inF, text, tt, e1, r1, r2, r3, r4, r5, r6, r7, r8, hne⟩ := C p hp
      refine ⟨o, us, file, tf, flags, tg, inF, text, tt, hidT_get e1 (noD e1 (fun vs n z => ?_) fun z => ?_), r1, r2, r3, r4, r5, r6, r7, r8, hne⟩
      · rw [r2] at z
        cases z
      · rw [r2] at z
        cases z
        simp at r3
    · obtain ⟨bm, ob, b1, b2, b3, b4, b5, b6⟩ := hbm
      have nG : bm ≠ mainGlobals := fun q => by
        obtain ⟨o, es, ep, e, hd, _⟩ := hns
        rw [q, e] at b3
        cases b3
        rw [hd] at b6
        cases b6
      have nP : bm ≠ p.2 := fun q => by
        rw [q, hTp] at b3
        cases b3
        cases b6
      refine ⟨bm, ob, b1, b2, nG, nP, hidT_get b3 (noD b3 (fun vs n z => ?_) fun z => ?_), b4, b5, b6⟩ <;> (rw [b6] at z; cases z)
    · obtain ⟨o, es, ep, e, hd, _⟩ := hns
      rw [z, hTp] at e
      cases e
      cases hd
  have e0 : Env0 P w K mg (hidT s₁.heap H) callerA [] s₁ H :=
    ⟨rfl, ⟨inB, nD hns, ⟨mb, nD hb, hbb⟩, let ⟨mc, h1, h2⟩ := hlim; ⟨mc, nD h1, h2⟩⟩, fun b o e => of_hidT e, Nat.le_of_eq (hidT_size _ _), trivial, fun b z => (nomatch z), hok, .of_eq hg⟩
  refine codeAny_mono ((F _ inB (nD hns) TB).goes (us := [.ref a]) (vs := [.ref a]) rfl hr e0 (hbind s₁ (.ref a)) (.cons rfl .nil) (hsp H hTb sq)) ?_
  rintro (e | (_ | _ | _ | u)) s' z
  · exact z.elim
  · exact False.elim z
  · exact False.elim z
  · exact False.elim z
  · obtain ⟨v, H', os, bare, un, hok', r', q⟩ := z
    subst q
    obtain rfl : u = Value.bool true := r'
    have key : ∀ b o, b ∉ cs.map (·.2) → s₁.heap.get? b = some o → s'.heap.get? b = some o := fun b o nb e => by
      cases c : H b with
      | none => exact un.keep b o e c (fun z => nomatch z) (fun z => nomatch z)
      | some y =>
        rcases hA c with ⟨_, rfl, rfl⟩ | ⟨z1, _⟩
        · have e1 := (hok _ _ c).1
          have e2 := (hok' _ _ (un.frzs _ _ _ c)).1
          rw [e1] at e
          cases e
          exact e2
        · exact absurd z1 nb
    have grown : ∀ p ∈ cs, ∃ more : Array Value, s'.heap.get? p.2 = some { cls := .none, data := .fields more } := fun p hp => by
      obtain ⟨more, z⟩ := un.tbls p.2 #[] (hTb p hp)
      exact ⟨_, hok' p.2 _ z⟩
    refine ⟨rfl, ⟨fun b o e => ?_, fun b o e => ?_⟩, os, bare⟩
    · by_cases hb : b ∈ cs.map (·.2)
      · obtain ⟨p, hp, ep⟩ := List.mem_map.mp hb
        obtain ⟨more, hm⟩ := grown p hp
        rw [← ep] at e ⊢
        rw [hT p hp] at e
        cases e
        exact .inr (.inl ⟨((C p hp).tab (hT p hp)).isCodeTable, rfl, #[], more, rfl, by rw [Array.empty_append]; exact hm⟩)
      · exact .inl (key b o hb e)
    · by_cases hb : b ∈ cs.map (·.2)
      · obtain ⟨p, hp, ep⟩ := List.mem_map.mp hb
        obtain ⟨more, hm⟩ := grown p hp
        rw [← ep]
        exact ⟨_, hm⟩
      · exact ⟨o, key b o hb e⟩
end KG

set_option Elab.async false
set_option linter.all false
set_option maxRecDepth 100000
set_option maxHeartbeats 4000000
/-! ### the end of a quiet law with tables -/
namespace KG
open PySem PySem.Spec PyProof.Rows L2 KX
/-- what is known of the table of a top def -/
abbrev TabFact (mg : Str → Option Value) (h : Heap) (y : Str) : Prop := ∃ (a : Addr) (o : Obj) (fd : FuncData) (c P : Addr), mg y = some (.ref a) ∧ h.get? a = some o ∧ o.data = .func fd ∧ fd.code = .ref c ∧ PySem.W.CodeHd h c P ∧ h.get? P = some { cls := .none, data := .fields #[] }
theorem walkGT {l : PySem.W.OpenLaw} {n k : Nat} {q : Program} {loose : List Str} {XP : (Str → Option Value) → Heap → Prop} {YP : World → Heap → Prop} {d : DefRec} {K : Params → PySem.W.Frag} {x : Str}
    (hn : l.most = some n) (hn2 : n ≤ sizeLine) (hdf : d.params.defaults = []) (hr : Room k callerA) (hY : ∀ (w : World) (h : Heap), YP w h → (K w.params).In h)
    (F : ∀ (w : World) (mg : Str → Option Value) (fa : Addr) (h : Heap), (K w.params).In h → h.Ns mainGlobals mg → mg d.name = some (.ref fa) → (∀ y : Str, ((recsOf q).any fun e => e.name == y) = true → TabFact mg h y) →
      ∃ (fd : FuncData) (cs : List (Addr × Addr)) (sp : Sp), (∀ p ∈ cs, h.get? p.2 = some { cls := .none, data := .fields #[] }) ∧ (∀ p ∈ cs, (K w.params).lookup p.2 = none) ∧ (∀ p ∈ cs, PySem.W.CodeHd h p.1 p.2) ∧ (∀ (s : Shared) (u : Value), BindsTo s fd ⟨[u], []⟩ [(x, u)]) ∧
        (∀ (H : Hp) (a : Addr) (ns : List Int), ns.length ≤ n → (∀ p ∈ cs, H p.2 = some (.tbl #[])) → SqL (K w.params) H a (ns.map V.int) → sp [.ref a] H (fun v _ => v = .bl true) fun _ _ _ => False) ∧
        ∀ base : Heap, (K w.params).In base → base.Ns mainGlobals mg → (∀ p ∈ cs, GxR.TabB base mg p.1 p.2) → FnG l.prog w (K w.params) mg base k fa fd [x] sp) :
    PySem.W.WalkO q loose XP YP l.row.toRowW d [] (fun f vs => PySem.call f vs) :=
  Att.attach_call hn hdf fun w s₀ s₁ mg mb fa o pm cd doc a vs ns G Y ho hd hcd hmg hobj hints hlen hg => by
    obtain ⟨fd, cs, sp, hT, nT, C, b, hsp, f⟩ := F w mg fa _ (hY w _ Y) G.T.g hmg fun y hy => by
      obtain ⟨e, he, en⟩ := List.any_eq_true.mp hy
      have en : e.name = y := beq_iff_eq.mp en
      obtain ⟨a1, o1, fd1, c1, P1, h1, h2, h3, h4, h5, h6⟩ := G.T.tab e he
      rw [en] at h1
      exact ⟨a1, o1, fd1, c1, P1, h1, h2, h3, h4, PySem.W.CodeHd.of h5 h6, h6.2⟩
    exact lawGT (hY w _ Y) G.T.g G.T.b G.T.builtins G.T.nolimit hg hT nT C G.T.bmain hobj hints (Nat.le_trans hlen hn2) hr f b fun H h1 h2 => hsp H a ns hlen h1 h2
/-- a def whose table is known -/
theorem tab_def {K : PySem.W.Frag} {h : Heap} {mg : Str → Option Value} {y : Str} {f : Addr} {oc : Value} {od : Option Addr} {fd : FuncData} {sl : Array (Option Value)} (X : K.In h) (m : mg y = some (.ref f)) (l : K.lookup f = some ⟨oc, od, .func fd, sl⟩) (nt : PySem.W.noTabs K = true) (t : TabFact mg h y) :
    ∃ c P, fd.code = .ref c ∧ PySem.W.CodeHd h c P ∧ h.get? P = some { cls := .none, data := .fields #[] } ∧ K.lookup P = none := by
  obtain ⟨a, o, fd', c, P, h1, h2, h3, h4, h5, h6⟩ := t
  rw [m] at h1
  cases h1
  have e := X _ _ l
  rw [e] at h2
  cases h2
  cases h3
  refine ⟨c, P, h4, h5, h6, ?_⟩
  cases z : K.lookup P with
  | none => rfl
  | some u =>
    have e := X _ _ z
    rw [h6] at e
    cases e
    have := List.all_eq_true.mp nt _ (PySem.W.mem_of_lookupK z)
    cases this
end KG

set_option Elab.async false
set_option linter.all false
set_option maxRecDepth 100000
set_option maxHeartbeats 2000000
/-! ### dicts whose keys are tuples of numbers, texts, None; their values things at addresses -/
namespace L2
open PySem PySem.Spec PyProof.Rows
def leafV : Leaf → V
  | .none => .non
  | .num i => .int i
  | .text x => .str x
theorem leaf_is {P : Program} {w : World} {k : Leaf} {v : Value} (r : RelV (leafV k) v) : (leafKind P w).is k v = true := by
  cases k with
  | none => cases r; rfl
  | num i =>
    obtain ⟨t, rfl⟩ := r
    exact decide_eq_true rfl
  | text x =>
    obtain ⟨t, rfl⟩ := r
    show Value.isStrOf x (.str x t) = true
    simp [Value.isStrOf]
theorem leaves_are {P : Program} {w : World} : ∀ {ks : List Leaf} {us : List Value}, Vals (ks.map leafV) us → ItemsAre (leafKind P w) ks us
  | [], _, r => by rw [List.map_nil] at r; cases r; exact .nil
  | k :: ks, _, r => by
    rw [List.map_cons] at r
    cases r with
    | cons h t => exact .cons (leaf_is h) (leaves_are t)
theorem keyL_of {P : Program} {w : World} {H : Hp} {h : Heap} {a : Addr} {ks : List Leaf} (ok : HOk P w H h) (e : H a = some (.tup (ks.map leafV))) : (tupleKind (leafKind P w)).is h ks a := by
  obtain ⟨_, its, r, o, h1, h2, n, h3⟩ := (show ObjOk P w H h a (.tup (ks.map leafV)) from ok a _ e)
  exact ⟨o, its.toArray, n, h1, h2, h3, by simpa using leaves_are r⟩
abbrev LfX := List (List Leaf × Addr × Addr)
def lfE (xs : LfX) : List (List Leaf × Addr × Value) := xs.map fun x => (x.1, x.2.1, .ref x.2.2)
/-- the dict at a -/
def LfO (P : Program) (w : World) (a : Addr) (xs : LfX) : HO := .ext fun h => (a == sysModules) = false ∧ xs.length ≤ sizeLine ∧ (xs.map (·.1)).Nodup ∧
  ∃ o es ep, h.get? a = some o ∧ o.ExactDict ∧ o.data = .dict es ep ∧ es.toList = (lfE xs).map (entryOfKey (tupleKind (leafKind P w)))
def LfK (H : Hp) (xs : LfX) : Prop := ∀ x ∈ xs, H x.2.1 = some (.tup (x.1.map leafV))
section
variable {X : Cx} {pins : List (Addr × Obj)} {σ : St} {H : Hp} {s : Shared} {a p d : Addr} {xs : LfX} {ks : List Leaf}
theorem lf_new {P : Program} {w : World} {h : Heap} (h1 : (a == sysModules) = false) (h2 : xs.length ≤ sizeLine) (D : h.DictOfH (tupleKind (leafKind P w)) a (lfE xs)) : ObjOk P w H h a (LfO P w a xs) := by
  obtain ⟨o, es, ep, e1, e2, e3, e4, e5, e6⟩ := D
  have nd : (xs.map (·.1)).Nodup := by
    unfold lfE at e6
    rw [List.map_map] at e6
    exact e6
  exact ⟨⟨h1, h2, nd, o, es, ep, e1, e2, e3, e4⟩, ⟨o, e1⟩, fun g1 g2 ⟨a1, a2, a3, o', es', ep', b1, b2⟩ k => ⟨a1, a2, a3, o', es', ep', k o' b1, b2⟩⟩
theorem lf_at (I : Inv X pins σ H s) (e : H a = some (LfO X.prog X.w a xs)) (hk : LfK H xs) : (a == sysModules) = false ∧ xs.length ≤ sizeLine ∧ s.heap.DictOfH (tupleKind (leafKind X.prog X.w)) a (lfE xs) := by
  obtain ⟨⟨a1, a2, a3, o, es, ep, b1, b2, b3, b4⟩, _⟩ := I.hok a _ e
  refine ⟨a1, a2, o, es, ep, b1, b2, b3, b4, fun x hx => ?_, by unfold lfE; rw [List.map_map]; exact a3⟩
  obtain ⟨y, hy, rfl⟩ := List.mem_map.mp hx
  exact keyL_of I.hok (hk y hy)
theorem l_setd {A : Around} {E : Value → Shared → Prop} {Q : Value → Shared → Prop} (hu : A.in1.units < cLine) (I : Inv X pins σ H s) (e : H a = some (LfO X.prog X.w a xs)) (hk : LfK H xs) (hp : H p = some (.tup (ks.map leafV))) (hl : xs.length < sizeLine)
    (h1 : ∀ x ∈ xs, x.1 = ks → ∀ s', Inv X pins σ H s' → Q (.ref x.2.2) s') (h2 : (∀ x ∈ xs, x.1 ≠ ks) → ∀ s', Inv X pins σ (upd H a (LfO X.prog X.w a (xs ++ [(ks, p, d)]))) s' → Q (.ref d) s') :
    wpAny (model X.prog X.w) A (call (.builtin "dict.setdefault") [.ref a, .ref p, .ref d]) Q E s := by
  obtain ⟨a1, a2, D⟩ := lf_at I e hk
  have ll : (lfE xs).length = xs.length := by unfold lfE; rw [List.length_map]
  refine call_setdefault_heap (knd := tupleKind (leafKind X.prog X.w)) hu (keyL_of I.hok hp) a1 D (fun q hq => ?_) (fun hn h' D' sb => ?_) (by rw [ll]; exact a2)
  · unfold atKey at hq
    cases f : (lfE xs).find? fun x => decide (x.1 = ks) with
    | none => rw [f] at hq; cases hq
    | some y =>
      rw [f] at hq
      cases hq
      obtain ⟨x, hx, rfl⟩ := List.mem_map.mp (List.mem_of_find?_eq_some f)
      have := List.find?_some f
      exact h1 x hx (of_decide_eq_true this) _ (I.kept (h' := s.heap) (t' := s.toks + (tupleKind (leafKind X.prog X.w)).draws ks) fun b u q => q)
  · rw [storedH_new hn] at D'
    have nk : ∀ x ∈ xs, x.1 ≠ ks := fun x hx z => by
      unfold atKey at hn
      rw [Option.map_eq_none_iff, List.find?_eq_none] at hn
      have := hn _ (List.mem_map.mpr ⟨x, hx, rfl⟩)
      exact this (decide_eq_true z)
    have D2 : h'.DictOfH (tupleKind (leafKind X.prog X.w)) a (lfE (xs ++ [(ks, p, d)])) := by
      have : lfE (xs ++ [(ks, p, d)]) = lfE xs ++ [(ks, p, .ref d)] := by unfold lfE; rw [List.map_append]; rfl
      rw [this]
      exact D'
    refine h2 nk _ ?_
    have he : ∃ u, h'.get? a = some u := by
      obtain ⟨o, _, _, ho, _⟩ := D2
      exact ⟨o, ho⟩
    exact I.write (e := a) (t' := s.toks + (tupleKind (leafKind X.prog X.w)).draws ks) (by rw [e]; trivial) (.inl rfl) (fun b u hb hu => (sb.2 b hb).trans hu) he (lf_new a1 (by rw [List.length_append, List.length_singleton]; omega) D2)
theorem lf_isD (I : Inv X pins σ H s) (e : H a = some (LfO X.prog X.w a xs)) : s.TypeIs (.ref a) "dict" ∧ ∀ b, Value.ref a = .ref b → ∃ ob, s.heap.get? b = some ob ∧ ob.dict = none := by
  obtain ⟨⟨a1, a2, a3, o, es, ep, b1, b2, b3, b4⟩, _⟩ := I.hok a _ e
  refine ⟨⟨o, b1, b2.1⟩, fun b q => ?_⟩
  cases q
  exact ⟨o, b1, b2.2.1⟩
/-- d.setdefault(y, z) -/
def tLSetd (P : Program) (w : World) (td ty tx : TE) : TE := fun σ H Q => td σ H fun x H1 => ∃ a xs0, x = .ref a ∧ H1 a = some (LfO P w a xs0) ∧ ty σ H1 fun y H2 => tx σ H2 fun z H3 => ∃ (xs : LfX) (ks : List Leaf) (p d : Addr), H3 a = some (LfO P w a xs) ∧ LfK H3 xs ∧ y = .ref p ∧ H3 p = some (.tup (ks.map leafV)) ∧ z = .ref d ∧ xs.length < sizeLine ∧
  (∀ x ∈ xs, x.1 = ks → Q (.ref x.2.2) H3) ∧ ((∀ x ∈ xs, x.1 ≠ ks) → Q (.ref d) (upd H3 a (LfO P w a (xs ++ [(ks, p, d)]))))
variable {o e f : Expr} {td ty tx : TE} {apos cpos : Pos}
theorem pe_lsetd (hu : X.A.in1.units < cLine) (ho : PE X o td) (he : PE X e ty) (hf : PE X f tx) (m : M2 X o "setdefault" apos e f cpos) : PE X (.Call (.Attribute o "setdefault" apos) [e, f] [] cpos) (tLSetd X.prog X.w td ty tx) := by
  refine ⟨fun pins s σ H Q I h => ?_⟩
  refine wpAny_Call_method m.base m.few m.line PySem.F.plainAttrs_dict PySem.F.slot_dict_setdefault PySem.F.type_dict_setdefault (thn (ho.run pins s σ H _ I h) fun u s1 ⟨x, H1, I1, rx, a, xs0, ex, d, q1⟩ => ?_)
  subst ex
  obtain rfl : u = Value.ref a := rx
  obtain ⟨t1, t2⟩ := lf_isD I1 d
  refine ⟨t1, t2, ?_⟩
  rw [m.trees]
  refine Calls.callWith_builtin rfl (Calls.evalArgs_plain (Calls.spliced_cons (thn (he.run pins s1 σ H1 _ I1 q1) fun iv s2 ⟨y, H2, I2, ry, q2⟩ =>
    Calls.spliced_cons (thn (hf.run pins s2 σ H2 _ I2 q2) fun fv s3 ⟨z, H3, I3, rz, xs, ks, p, d', ea, hk, ey, ep, ez, hl, q3, q4⟩ => Calls.spliced_nil ?_))))
  subst ey
  subst ez
  obtain rfl : iv = Value.ref p := ry
  obtain rfl : fv = Value.ref d' := rz
  exact l_setd hu I3 ea hk ep hl (fun x hx e w4 I4 => ⟨.ref x.2.2, _, I4, rfl, q3 x hx e⟩) fun hn w4 I4 => ⟨.ref d', _, I4, rfl, q4 hn⟩
/-- {} whose keys will be such tuples -/
def tLNew (P : Program) (w : World) : TE := fun σ H Q => ∀ p, H p = none → Q (.ref p) (upd H p (LfO P w p []))
theorem pe_lnew {pos : Pos} : PE X (.Dict [] [] pos) (tLNew X.prog X.w) := ⟨fun pins s σ H Q I h => by
  refine wpAny_Dict_empty ⟨.ref s.heap.objs.size, _, I.laid (a := s.heap.objs.size) (o := LfO X.prog X.w s.heap.objs.size []) (t' := s.toks) (fun _ _ q => Heap.get?_push_of_some _ q) (Nat.le_refl _) ?_, rfl, h _ (I.hok.fresh (Nat.le_refl _))⟩
  obtain ⟨z, y, xs, r, o, es, ep, h1, h2, h3, h4, h5⟩ := (dt_empty s.heap I.big : ObjOk X.prog X.w H _ _ (.dT []))
  cases r
  exact lf_new y (by simp) ⟨o, es, ep, h1, h2, h3, h4, (fun x hx => by cases hx), by simp [lfE]⟩⟩
end
end L2

set_option Elab.async false
set_option linter.all false
set_option maxRecDepth 100000
set_option maxHeartbeats 2000000
/-! ### list(d.values()) of such dicts -/
namespace L2
open PySem PySem.Spec PyProof.Rows
def viewO (v a : Addr) : HO := .ext fun h => h.IsValuesView v a
/-- d.values() -/
def tLVals (P : Program) (w : World) (td : TE) : TE := fun σ H Q => td σ H fun x H1 => ∃ a xs, x = .ref a ∧ H1 a = some (LfO P w a xs) ∧ ∀ v, H1 v = none → Q (.ref v) (upd H1 v (viewO v a))
/-- what list(v) hands back of such a view -/
def rListV (P : Program) (w : World) : List V → Hp → VK → Prop := fun us H Q => ∃ v a xs, us = [.ref v] ∧ H v = some (viewO v a) ∧ H a = some (LfO P w a xs) ∧ ∀ l, H l = none → Q (.ref l) (upd H l (.lst (xs.map fun x => V.ref x.2.2)))
theorem vals_get2 : ∀ {xs : List V} {us : List Value}, xs.length = us.length → (∀ (j : Nat) (x : V) (u : Value), xs[j]? = some x → us[j]? = some u → RelV x u) → Vals xs us
  | [], [], _, _ => .nil
  | x :: xs, u :: us, hl, h => .cons (h 0 x u rfl rfl) (vals_get2 (by simpa using hl) fun j y z a b => h (j + 1) y z (by simpa using a) (by simpa using b))
  | [], _ :: _, hl, _ => by simp at hl
  | _ :: _, [], hl, _ => by simp at hl
section
variable {X : Cx} {o : Expr} {td : TE} {apos cpos : Pos}
theorem pe_lvals (ho : PE X o td) (hbase : attributeBase o "values" X.env (eval o X.env) = eval o X.env := by rfl) (hline : (apos.endLine == cpos.line) = true := by rfl) : PE X (.Call (.Attribute o "values" apos) [] [] cpos) (tLVals X.prog X.w td) := by
  refine ⟨fun pins s σ H Q I h => ?_⟩
  refine wpAny_Call_method0_late hbase hline (thn (ho.run pins s σ H _ I h) fun v s1 ⟨x, H1, I1, r1, a, xs, ex, d, q1⟩ => ?_)
  subst ex
  obtain rfl : v = Value.ref a := r1
  obtain ⟨t1, t2⟩ := lf_isD I1 d
  refine ⟨"dict", "dict.values", PySem.F.plainAttrs_dict, PySem.F.slot_dict_values, PySem.F.type_dict_values, t1, t2, Calls.callWith_builtin rfl (PySem.evalArgs_none ?_)⟩
  obtain ⟨⟨a1, a2, a3, ob, es, ep, b1, b2, b3, b4⟩, _⟩ := I1.hok a _ d
  refine call_meetsIn PySem.F.slot_dict_values t1 PySem.F.entry_dict_values (PySem.F.args_dict_values_1 _) (meets_dict_values_raw a a1) ⟨⟨es, ep, ob, b1, b2, b3⟩, ?_⟩
  have I2 : Inv X pins σ (upd H1 s1.heap.objs.size (viewO s1.heap.objs.size a)) { s1 with heap := s1.heap.push { cls := .type "dict_values", data := .fields #[.ref a] } } :=
    I1.laid (t' := s1.toks) (fun b o e => Heap.get?_push_of_some _ e) (Nat.le_refl _) (show ObjOk X.prog X.w _ _ _ (viewO _ a) from
      ⟨⟨_, Heap.get?_push_size _ rfl, rfl, rfl⟩, ⟨_, Heap.get?_push_size _ rfl⟩, fun g1 g2 ⟨o', e1, e2, e3⟩ k => ⟨o', k _ e1, e2, e3⟩⟩)
  exact ⟨.ref s1.heap.objs.size, _, I2, rfl, q1 _ (I1.hok.fresh (Nat.le_refl _))⟩
theorem call_list_view (hh : X.A.handled = none) : CallR X (.type "list") (rListV X.prog X.w) := by
  intro pins s σ H xs us Q I r h
  obtain ⟨v, a, lx, rfl, hv, ha, q⟩ := h
  obtain ⟨u, rfl, rx⟩ := vals1 r
  cases rx
  obtain ⟨⟨a1, a2, a3, ob, es, ep, b1, b2, b3, b4⟩, _⟩ := I.hok a _ ha
  obtain ⟨hview, _⟩ := I.hok v _ hv
  have hsz : es.size = lx.length := by
    have := congrArg List.length b4
    rw [Array.length_toList] at this
    rw [this]
    unfold lfE
    rw [List.length_map, List.length_map]
  refine PySem.W.kdl_call (KdlSrc.rawValues (prog := X.prog) (w := X.w) (r := v) (d := a) (es := es) (ep := ep)) hh ⟨hview, ob, b1, b2, b3⟩ (by rw [hsz]; exact a2) fun h' tk acc' c' hk hD hacc => ?_
  refine ⟨.ref s.heap.objs.size, _, I.laid (t' := tk) hk (Nat.le_refl _) (show ObjOk X.prog X.w _ h' _ (.lst (lx.map fun x => V.ref x.2.2)) from ⟨by rw [List.length_map]; exact a2, acc'.toList, c', ?_, by simpa using hD⟩), rfl, q _ (I.hok.fresh (Nat.le_refl _))⟩
  obtain ⟨l1, l2⟩ := hacc
  refine vals_get2 (by rw [List.length_map]; have e : acc'.toList.length = acc'.size := Array.length_toList; omega) fun j x y e1 e2 => ?_
  rw [List.getElem?_map] at e1
  rw [Array.getElem?_toList] at e2
  obtain ⟨hi, ev⟩ := l2 j y e2
  cases e3 : lx[j]? with
  | none => rw [e3] at e1; cases e1
  | some z =>
    rw [e3] at e1
    cases e1
    have e4 : es.toList[j]? = some (entryOfKey (tupleKind (leafKind X.prog X.w)) (z.1, z.2.1, .ref z.2.2)) := by
      rw [b4, List.getElem?_map]
      unfold lfE
      rw [List.getElem?_map, e3]
      rfl
    rw [Array.getElem?_toList, Array.getElem?_eq_getElem hi] at e4
    have e5 := Option.some.inj e4
    rw [ev, e5]
    exact rfl
end
end L2

set_option Elab.async false
set_option linter.all false
/-! ### fractions in lowest terms: their algebra -/
namespace FR
structure Lo (x : Fr) : Prop where
  pos : 0 < x.2
  g : Nat.gcd x.1.natAbs x.2.natAbs = 1
theorem lo_low {t l : Int} (h : 0 < l) : Lo (low t l) := by
  obtain ⟨e1, e2⟩ := low_abs (t := t) h
  have hg := gcd_pos (t := t) h
  have q2 : 0 < l.natAbs / Nat.gcd t.natAbs l.natAbs := Nat.div_pos (Nat.le_of_dvd (by omega) (Nat.gcd_dvd_right _ _)) hg
  refine ⟨by rw [e2]; omega, ?_⟩
  rw [e1, e2, Int.natAbs_natCast]
  exact Nat.coprime_div_gcd_div_gcd hg
/-- what low keeps -/
theorem low_val {t l : Int} (h : 0 < l) : (low t l).1 * l = t * (low t l).2 := by
  have hg := gcd_pos (t := t) h
  have d1 : ((Nat.gcd t.natAbs l.natAbs : Nat) : Int) ∣ t := Int.ofNat_dvd_left.mpr (Nat.gcd_dvd_left _ _)
  have d2 : ((Nat.gcd t.natAbs l.natAbs : Nat) : Int) ∣ l := Int.ofNat_dvd_left.mpr (Nat.gcd_dvd_right _ _)
  unfold low
  generalize ((Nat.gcd t.natAbs l.natAbs : Nat) : Int) = g at d1 d2 hg ⊢
  obtain ⟨a, rfl⟩ := d1
  obtain ⟨b, rfl⟩ := d2
  have g0 : g ≠ 0 := fun z => by rw [z, Int.zero_mul] at h; omega
  show g * a / g * (g * b) = g * a * (g * b / g)
  rw [Int.mul_ediv_cancel_left _ g0, Int.mul_ediv_cancel_left _ g0]
  grind
/-- two in lowest terms with the same worth are the same -/
theorem lo_ext {x y : Fr} (hx : Lo x) (hy : Lo y) (e : x.1 * y.2 = y.1 * x.2) : x = y := by
  obtain ⟨a, b⟩ := x
  obtain ⟨c, d⟩ := y
  have e : a * d = c * b := e
  have hb : 0 < b := hx.pos
  have hd : 0 < d := hy.pos
  have ga : Nat.Coprime a.natAbs b.natAbs := hx.g
  have gc : Nat.Coprime c.natAbs d.natAbs := hy.g
  have en : a.natAbs * d.natAbs = c.natAbs * b.natAbs := by rw [← Int.natAbs_mul, ← Int.natAbs_mul, e]
  have h1 : b.natAbs ∣ d.natAbs := ga.symm.dvd_of_dvd_mul_left (by rw [en]; exact Nat.dvd_mul_left _ _)
  have h2 : d.natAbs ∣ b.natAbs := gc.symm.dvd_of_dvd_mul_left (by rw [← en]; exact Nat.dvd_mul_left _ _)
  have h3 := Nat.dvd_antisymm h1 h2
  have h4 : b = d := by omega
  subst h4
  have h5 : a = c := Int.eq_of_mul_eq_mul_right (by omega) e
  rw [h5]
theorem low_eq {t l t' l' : Int} (h : 0 < l) (h' : 0 < l') (e : t * l' = t' * l) : low t l = low t' l' := by
  refine lo_ext (lo_low h) (lo_low h') ?_
  have v1 := low_val (t := t) h
  have v2 := low_val (t := t') h'
  generalize (low t l).1 = a at v1 ⊢
  generalize (low t l).2 = b at v1 ⊢
  generalize (low t' l').1 = c at v2 ⊢
  generalize (low t' l').2 = d at v2 ⊢
  have z : (a * d) * (l * l') = (c * b) * (l * l') := by grind
  exact Int.eq_of_mul_eq_mul_right (by have := Int.mul_pos h h'; omega) z
theorem low_self {x : Fr} (h : Lo x) : low x.1 x.2 = x := lo_ext (lo_low h.pos) h (low_val h.pos)
theorem lo_add {x y : Fr} (hx : Lo x) (hy : Lo y) : Lo (addF x y) := lo_low (Int.mul_pos hx.pos hy.pos)
theorem lo_les {x y : Fr} (hx : Lo x) (hy : Lo y) : Lo (lesF x y) := lo_low (Int.mul_pos hx.pos hy.pos)
theorem lo_mul {x y : Fr} (hx : Lo x) (hy : Lo y) : Lo (mulF x y) := lo_low (Int.mul_pos hx.pos hy.pos)
theorem add_comm' (x y : Fr) : addF x y = addF y x := by
  unfold addF
  rw [Int.add_comm, Int.mul_comm x.2]
theorem mul_comm' (x y : Fr) : mulF x y = mulF y x := by
  unfold mulF
  rw [Int.mul_comm x.1, Int.mul_comm x.2]
theorem add_assoc' {x y z : Fr} (hx : Lo x) (hy : Lo y) (hz : Lo z) : addF (addF x y) z = addF x (addF y z) := by
  have p := (lo_add hx hy).pos
  have q := (lo_add hy hz).pos
  have v1 : (addF x y).1 * (x.2 * y.2) = (x.1 * y.2 + y.1 * x.2) * (addF x y).2 := low_val (Int.mul_pos hx.pos hy.pos)
  have v2 : (addF y z).1 * (y.2 * z.2) = (y.1 * z.2 + z.1 * y.2) * (addF y z).2 := low_val (Int.mul_pos hy.pos hz.pos)
  show low ((addF x y).1 * z.2 + z.1 * (addF x y).2) ((addF x y).2 * z.2) = low (x.1 * (addF y z).2 + (addF y z).1 * x.2) (x.2 * (addF y z).2)
  have py := hy.pos
  generalize (addF x y).1 = a at v1 ⊢
  generalize (addF x y).2 = b at v1 p ⊢
  generalize (addF y z).1 = c at v2 ⊢
  generalize (addF y z).2 = d at v2 q ⊢
  refine low_eq (Int.mul_pos p hz.pos) (Int.mul_pos hx.pos q) ?_
  have w : ((a * z.2 + z.1 * b) * (x.2 * d)) * y.2 = ((x.1 * d + c * x.2) * (b * z.2)) * y.2 := by grind
  exact Int.eq_of_mul_eq_mul_right (by omega) w
theorem mul_assoc' {x y z : Fr} (hx : Lo x) (hy : Lo y) (hz : Lo z) : mulF (mulF x y) z = mulF x (mulF y z) := by
  have p := (lo_mul hx hy).pos
  have q := (lo_mul hy hz).pos
  have v1 : (mulF x y).1 * (x.2 * y.2) = (x.1 * y.1) * (mulF x y).2 := low_val (Int.mul_pos hx.pos hy.pos)
  have v2 : (mulF y z).1 * (y.2 * z.2) = (y.1 * z.1) * (mulF y z).2 := low_val (Int.mul_pos hy.pos hz.pos)
  show low ((mulF x y).1 * z.1) ((mulF x y).2 * z.2) = low (x.1 * (mulF y z).1) (x.2 * (mulF y z).2)
  have py := hy.pos
  generalize (mulF x y).1 = a at v1 ⊢
  generalize (mulF x y).2 = b at v1 p ⊢
  generalize (mulF y z).1 = c at v2 ⊢
  generalize (mulF y z).2 = d at v2 q ⊢
  refine low_eq (Int.mul_pos p hz.pos) (Int.mul_pos hx.pos q) ?_
  have w : ((a * z.1) * (x.2 * d)) * y.2 = ((x.1 * c) * (b * z.2)) * y.2 := by grind
  exact Int.eq_of_mul_eq_mul_right (by omega) w
theorem mul_add' {x y z : Fr} (hx : Lo x) (hy : Lo y) (hz : Lo z) : mulF x (addF y z) = addF (mulF x y) (mulF x z) := by
  have p := (lo_mul hx hy).pos
  have q := (lo_mul hx hz).pos
  have r := (lo_add hy hz).pos
  have v1 : (mulF x y).1 * (x.2 * y.2) = (x.1 * y.1) * (mulF x y).2 := low_val (Int.mul_pos hx.pos hy.pos)
  have v2 : (mulF x z).1 * (x.2 * z.2) = (x.1 * z.1) * (mulF x z).2 := low_val (Int.mul_pos hx.pos hz.pos)
  have v3 : (addF y z).1 * (y.2 * z.2) = (y.1 * z.2 + z.1 * y.2) * (addF y z).2 := low_val (Int.mul_pos hy.pos hz.pos)
  show low (x.1 * (addF y z).1) (x.2 * (addF y z).2) = low ((mulF x y).1 * (mulF x z).2 + (mulF x z).1 * (mulF x y).2) ((mulF x y).2 * (mulF x z).2)
  have px := hx.pos
  have py := hy.pos
  have pz := hz.pos
  generalize (mulF x y).1 = a at v1 ⊢
  generalize (mulF x y).2 = b at v1 p ⊢
  generalize (mulF x z).1 = c at v2 ⊢
  generalize (mulF x z).2 = d at v2 q ⊢
  generalize (addF y z).1 = e at v3 ⊢
  generalize (addF y z).2 = f at v3 r ⊢
  refine low_eq (Int.mul_pos px r) (Int.mul_pos p q) ?_
  have w : ((x.1 * e) * (b * d)) * (x.2 * y.2 * z.2) = ((a * d + c * b) * (x.2 * f)) * (x.2 * y.2 * z.2) := by grind
  exact Int.eq_of_mul_eq_mul_right (by have := Int.mul_pos (Int.mul_pos px py) pz; omega) w
theorem lo0 : Lo (0, 1) := ⟨by decide, by decide +kernel⟩
theorem lo1 : Lo (1, 1) := ⟨by decide, by decide +kernel⟩
theorem add_zero' {x : Fr} (h : Lo x) : addF (0, 1) x = x := by
  show low (0 * x.2 + x.1 * 1) (1 * x.2) = x
  rw [Int.zero_mul, Int.zero_add, Int.mul_one, Int.one_mul]
  exact low_self h
theorem mul_one' {x : Fr} (h : Lo x) : mulF (1, 1) x = x := by
  show low (1 * x.1) (1 * x.2) = x
  rw [Int.one_mul, Int.one_mul]
  exact low_self h
theorem mul_zero' {x : Fr} (h : Lo x) : mulF (0, 1) x = (0, 1) := by
  show low (0 * x.1) (1 * x.2) = (0, 1)
  rw [Int.zero_mul, Int.one_mul]
  have e : low 0 x.2 = low 0 1 := low_eq h.pos (by decide) (by omega)
  rw [e]
  rfl
end FR

set_option Elab.async false
set_option linter.all false
set_option maxHeartbeats 1000000
/-! ### fractions as rational numbers; sums; powers of tables -/
namespace FR
def val (x : Fr) : Rat := (x.1 : Rat) / (x.2 : Rat)
theorem ne0 {i : Int} (h : 0 < i) : (i : Rat) ≠ 0 := fun z => by
  have : i = 0 := by exact_mod_cast z
  omega
theorem frac_eq {a b t l : Rat} (hb : b ≠ 0) (hl : l ≠ 0) (e : a * l = t * b) : a / b = t / l := by grind
theorem val_low {t l : Int} (h : 0 < l) : val (low t l) = (t : Rat) / (l : Rat) := by
  have v := low_val (t := t) h
  have p := (lo_low (t := t) h).pos
  refine frac_eq (ne0 p) (ne0 h) ?_
  exact_mod_cast v
theorem val_add {x y : Fr} (hx : 0 < x.2) (hy : 0 < y.2) : val (addF x y) = val x + val y := by
  have a := ne0 hx
  have b := ne0 hy
  unfold addF
  rw [val_low (Int.mul_pos hx hy)]
  unfold val
  rw [Rat.intCast_add, Rat.intCast_mul, Rat.intCast_mul, Rat.intCast_mul]
  grind
theorem val_les {x y : Fr} (hx : 0 < x.2) (hy : 0 < y.2) : val (lesF x y) = val x - val y := by
  have a := ne0 hx
  have b := ne0 hy
  unfold lesF
  rw [val_low (Int.mul_pos hx hy)]
  unfold val
  rw [Rat.intCast_sub, Rat.intCast_mul, Rat.intCast_mul, Rat.intCast_mul]
  grind
theorem val_mul {x y : Fr} (hx : 0 < x.2) (hy : 0 < y.2) : val (mulF x y) = val x * val y := by
  have a := ne0 hx
  have b := ne0 hy
  unfold mulF
  rw [val_low (Int.mul_pos hx hy)]
  unfold val
  rw [Rat.intCast_mul, Rat.intCast_mul]
  grind
theorem val_inj {x y : Fr} (hx : Lo x) (hy : Lo y) (e : val x = val y) : x = y := by
  refine lo_ext hx hy ?_
  have a := ne0 hx.pos
  have b := ne0 hy.pos
  unfold val at e
  have z : (x.1 : Rat) * y.2 = y.1 * x.2 := by grind
  exact_mod_cast z
theorem val0 : val (0, 1) = 0 := by unfold val; grind
theorem val1 : val (1, 1) = 1 := by unfold val; grind
/-- sums -/
def sm : Nat → (Nat → Rat) → Rat
  | 0, _ => 0
  | n + 1, f => sm n f + f n
theorem sm_congr {f g : Nat → Rat} : ∀ {n : Nat}, (∀ i, i < n → f i = g i) → sm n f = sm n g
  | 0, _ => rfl
  | n + 1, h => by
    unfold sm
    rw [sm_congr (n := n) fun i hi => h i (by omega), h n (by omega)]
theorem sm_add (f g : Nat → Rat) : ∀ n, sm n (fun i => f i + g i) = sm n f + sm n g
  | 0 => by unfold sm; grind
  | n + 1 => by
    unfold sm
    rw [sm_add f g n]
    grind
theorem sm_mul (c : Rat) (f : Nat → Rat) : ∀ n, sm n (fun i => c * f i) = c * sm n f
  | 0 => by unfold sm; grind
  | n + 1 => by
    unfold sm
    rw [sm_mul c f n]
    grind
theorem sm_mulr (c : Rat) (f : Nat → Rat) : ∀ n, sm n (fun i => f i * c) = sm n f * c
  | 0 => by unfold sm; grind
  | n + 1 => by
    unfold sm
    rw [sm_mulr c f n]
    grind
theorem sm_zero : ∀ n, sm n (fun _ => 0) = 0
  | 0 => rfl
  | n + 1 => by
    unfold sm
    rw [sm_zero n]
    grind
theorem sm_swap (f : Nat → Nat → Rat) : ∀ n m, sm n (fun i => sm m (f i)) = sm m (fun j => sm n (fun i => f i j))
  | 0, m => by
    show (0 : Rat) = sm m fun _ => 0
    rw [sm_zero]
  | n + 1, m => by
    show sm n (fun i => sm m (f i)) + sm m (f n) = sm m fun j => sm n (fun i => f i j) + f n j
    rw [sm_swap f n m, sm_add]
def dlt (i j : Nat) : Rat := if i = j then 1 else 0
theorem sm_dlt {f : Nat → Rat} {j : Nat} : ∀ {n}, sm n (fun i => f i * dlt i j) = if j < n then f j else 0
  | 0 => by simp [sm]
  | n + 1 => by
    show sm n (fun i => f i * dlt i j) + f n * dlt n j = _
    rw [sm_dlt (n := n)]
    unfold dlt
    by_cases c : n = j
    · subst c
      simp
      grind
    · rw [if_neg c]
      by_cases d : j < n
      · rw [if_pos d, if_pos (by omega)]
        grind
      · rw [if_neg d, if_neg (by omega)]
        grind
theorem dlt_comm (i j : Nat) : dlt i j = dlt j i := by
  unfold dlt
  by_cases c : i = j
  · rw [if_pos c, if_pos c.symm]
  · rw [if_neg c, if_neg (Ne.symm c)]
/-- the powers of a table of m rows -/
def pw (A : Nat → Nat → Rat) (m : Nat) : Nat → Nat → Nat → Rat
  | 0, i, j => dlt i j
  | k + 1, i, j => sm m fun l => A i l * pw A m k l j
theorem pw_right (A : Nat → Nat → Rat) (m : Nat) : ∀ (k : Nat) {i j : Nat}, i < m → j < m → pw A m (k + 1) i j = sm m fun l => pw A m k i l * A l j
  | 0, i, j, hi, hj => by
    show (sm m fun l => A i l * dlt l j) = sm m fun l => dlt i l * A l j
    rw [sm_dlt, if_pos hj]
    have e : sm m (fun l => dlt i l * A l j) = sm m fun l => A l j * dlt l i := sm_congr fun l _ => by rw [dlt_comm i l]; grind
    rw [e, sm_dlt (f := fun l => A l j), if_pos hi]
  | k + 1, i, j, hi, hj => by
    have e1 : pw A m (k + 1 + 1) i j = sm m fun l => sm m fun l' => A i l * (pw A m k l l' * A l' j) := by
      show (sm m fun l => A i l * pw A m (k + 1) l j) = _
      refine sm_congr fun l hl => ?_
      rw [pw_right A m k hl hj, sm_mul]
    rw [e1, sm_swap]
    refine sm_congr fun l' _ => ?_
    rw [show pw A m (k + 1) i l' = sm m fun l => A i l * pw A m k l l' from rfl, ← sm_mulr]
    exact sm_congr fun l _ => by grind
end FR

set_option Elab.async false
set_option linter.all false
set_option maxRecDepth 100000
set_option maxHeartbeats 1000000
/-! ### what is worked out, as rational numbers -/
namespace KP
open PySem PySem.Spec PyProof.Rows L2 KX KT KJ KS FR
def LoL (h : List Fr) : Prop := ∀ x ∈ h, Lo x
def LoT (t : Tab) : Prop := ∀ r ∈ t, LoL r
def vl (h : List Fr) (i : Nat) : Rat := val (h.getD i (0, 1))
def At (t : Tab) (i j : Nat) : Rat := val (gt t i j)
theorem getD_in {α : Type} {h : List α} {i : Nat} (d : α) (hi : i < h.length) : h.getD i d = h[i] := by
  rw [List.getD_eq_getElem?_getD, List.getElem?_eq_getElem hi]
  rfl
theorem getD_out {α : Type} {h : List α} {i : Nat} (d : α) (hi : ¬ i < h.length) : h.getD i d = d := by
  rw [List.getD_eq_getElem?_getD, List.getElem?_eq_none (by omega)]
  rfl
theorem lo_getD {h : List Fr} (l : LoL h) (i : Nat) : Lo (h.getD i (0, 1)) := by
  by_cases c : i < h.length
  · rw [getD_in _ c]
    exact l _ (List.getElem_mem c)
  · rw [getD_out _ c]
    exact lo0
theorem lo_row {t : Tab} (l : LoT t) (i : Nat) : LoL (t.getD i []) := by
  by_cases c : i < t.length
  · rw [getD_in _ c]
    exact l _ (List.getElem_mem c)
  · rw [getD_out _ c]
    exact fun x h => by cases h
theorem lo_gt {t : Tab} (l : LoT t) (i k : Nat) : Lo (gt t i k) := lo_getD (lo_row l i) k
theorem lo_fold : ∀ (ps : List (Fr × Fr)) (s : Fr), Lo s → (∀ p ∈ ps, Lo p.1 ∧ Lo p.2) → Lo (ps.foldl dotS s)
  | [], _, h, _ => h
  | p :: ps, s, h, hp => lo_fold ps _ (lo_add h (lo_mul (hp p List.mem_cons_self).1 (hp p List.mem_cons_self).2)) fun q hq => hp q (List.mem_cons_of_mem _ hq)
theorem lo_dotI {a b : List Fr} (ha : LoL a) (hb : LoL b) (i : Nat) : Lo (dotI a b i) := by
  unfold dotI
  refine lo_fold _ _ lo0 fun p hp => ?_
  have hp := List.mem_of_mem_take hp
  exact ⟨ha _ (List.of_mem_zip hp).1, hb _ (List.of_mem_zip hp).2⟩
theorem val_dotI {a b : List Fr} (ha : LoL a) (hb : LoL b) (hl : a.length = b.length) : ∀ {i : Nat}, i ≤ a.length → val (dotI a b i) = sm i fun k => vl a k * vl b k
  | 0, _ => by rw [dotI_zero]; exact val0
  | i + 1, h => by
    have e1 := List.getElem?_eq_getElem (show i < a.length by omega)
    have e2 := List.getElem?_eq_getElem (show i < b.length by omega)
    have l1 := ha _ (List.getElem_mem (show i < a.length by omega))
    have l2 := hb _ (List.getElem_mem (show i < b.length by omega))
    rw [dotI_succ e1 e2, val_add (lo_dotI ha hb i).pos (lo_mul l1 l2).pos, val_mul l1.pos l2.pos, val_dotI ha hb hl (by omega)]
    show _ = sm i _ + vl a i * vl b i
    unfold vl
    rw [getD_in _ (show i < a.length by omega), getD_in _ (show i < b.length by omega)]
theorem lo_sent {t : Tab} {h : List Fr} (lt : LoT t) (lh : LoL h) : LoL (sentF t h) := fun x hx => by
  obtain ⟨r, hr, rfl⟩ := List.mem_map.mp hx
  exact lo_dotI (lt r hr) lh _
theorem sent_getD {t : Tab} {h : List Fr} {i : Nat} (hi : i < t.length) : (sentF t h).getD i (0, 1) = dotF (t.getD i []) h := by
  rw [getD_in _ hi, getD_in (h := sentF t h) _ (by unfold sentF; rw [List.length_map]; exact hi)]
  unfold sentF
  rw [List.getElem_map]
theorem vl_sent {m : Nat} {t : Tab} {h : List Fr} (sq : Sq m t) (lt : LoT t) (lh : LoL h) (hl : h.length = m) {i : Nat} (hi : i < m) : vl (sentF t h) i = sm m fun l => At t i l * vl h l := by
  unfold vl
  rw [sent_getD (by rw [sq.len]; exact hi)]
  have hr := sq.row i hi
  unfold dotF
  rw [val_dotI (lo_row lt i) lh (by rw [hr, hl]) (Nat.le_refl _), hr]
  rfl
/-- a column of the powers of a table -/
def colF (t : Tab) (m f : Nat) : Nat → List Fr
  | 0 => row0 m f
  | k + 1 => sentF t (colF t m f k)
theorem row0_len (m i : Nat) : (row0 m i).length = m := by simp [row0]
theorem colF_len {m : Nat} {t : Tab} (sq : Sq m t) (f : Nat) : ∀ k, (colF t m f k).length = m
  | 0 => row0_len m f
  | k + 1 => by
    show (sentF t _).length = m
    unfold sentF
    rw [List.length_map]
    exact sq.len
theorem lo_row0 (m i : Nat) : LoL (row0 m i) := fun x hx => by
  unfold row0 at hx
  obtain ⟨k, _, rfl⟩ := List.mem_map.mp hx
  split
  · exact lo1
  · exact lo0
theorem row0_at {m i k : Nat} (hk : k < m) : (row0 m i).getD k (0, 1) = if i = k then (1, 1) else (0, 1) := by
  rw [getD_in _ (by rw [row0_len]; exact hk)]
  simp [row0]
theorem vl_row0 {m i k : Nat} (hk : k < m) : vl (row0 m i) k = dlt k i := by
  unfold vl dlt
  rw [row0_at hk]
  by_cases c : i = k
  · rw [if_pos c, if_pos c.symm]
    exact val1
  · rw [if_neg c, if_neg (Ne.symm c)]
    exact val0
theorem lo_col {t : Tab} (lt : LoT t) (m f : Nat) : ∀ k, LoL (colF t m f k)
  | 0 => lo_row0 m f
  | k + 1 => lo_sent lt (lo_col lt m f k)
theorem vl_col {m : Nat} {t : Tab} (sq : Sq m t) (lt : LoT t) (f : Nat) : ∀ (k : Nat) {i : Nat}, i < m → vl (colF t m f k) i = pw (At t) m k i f
  | 0, i, hi => vl_row0 hi
  | k + 1, i, hi => by
    show vl (sentF t _) i = _
    rw [vl_sent sq lt (lo_col lt m f k) (colF_len sq f k) hi]
    exact sm_congr fun l hl => by rw [vl_col sq lt f k hl]
/-- a sum over walks -/
def walkF (t : Tab) (m : Nat) : Nat → Nat → Nat → Fr
  | 0, s, a => if s = a then (1, 1) else (0, 1)
  | k + 1, s, a => (List.range m).foldl (fun x l => addF x (mulF (gt t l s) (walkF t m k l a))) (0, 1)
def walkI (t : Tab) (m k s a i : Nat) : Fr := (List.range i).foldl (fun x l => addF x (mulF (gt t l s) (walkF t m k l a))) (0, 1)
theorem walkI_succ {t : Tab} {m k s a i : Nat} : walkI t m k s a (i + 1) = addF (walkI t m k s a i) (mulF (gt t i s) (walkF t m k i a)) := by
  unfold walkI
  rw [List.range_succ, List.foldl_append]
  rfl
theorem lo_walk {t : Tab} (lt : LoT t) (m : Nat) : ∀ (k s a : Nat), Lo (walkF t m k s a)
  | 0, s, a => by
    unfold walkF
    split
    · exact lo1
    · exact lo0
  | k + 1, s, a => by
    have h : ∀ i, Lo (walkI t m k s a i) := fun i => by
      induction i with
      | zero => exact lo0
      | succ i ih =>
        rw [walkI_succ]
        exact lo_add ih (lo_mul (lo_gt lt _ _) (lo_walk lt m k i a))
    exact h m
theorem lo_walkI {t : Tab} (lt : LoT t) (m k s a : Nat) : ∀ i, Lo (walkI t m k s a i)
  | 0 => lo0
  | i + 1 => by
    rw [walkI_succ]
    exact lo_add (lo_walkI lt m k s a i) (lo_mul (lo_gt lt _ _) (lo_walk lt m k i a))
theorem val_walk {m : Nat} {t : Tab} (sq : Sq m t) (lt : LoT t) : ∀ (k : Nat) {s a : Nat}, s < m → a < m → val (walkF t m k s a) = pw (At t) m k a s
  | 0, s, a, _, _ => by
    show val (if s = a then (1, 1) else (0, 1)) = dlt a s
    unfold dlt
    by_cases c : s = a
    · rw [if_pos c, if_pos c.symm]
      exact val1
    · rw [if_neg c, if_neg (Ne.symm c)]
      exact val0
  | k + 1, s, a, hs, ha => by
    have h : ∀ i, i ≤ m → val (walkI t m k s a i) = sm i fun l => pw (At t) m k a l * At t l s := fun i => by
      induction i with
      | zero => exact fun _ => val0
      | succ i ih =>
        intro hi
        rw [walkI_succ, val_add (lo_walkI lt m k s a i).pos (lo_mul (lo_gt lt _ _) (lo_walk lt m k i a)).pos, val_mul (lo_gt lt _ _).pos (lo_walk lt m k i a).pos, ih (by omega), val_walk sq lt k (show i < m by omega) ha]
        show _ + At t i s * _ = sm i _ + _
        grind
    rw [pw_right _ _ _ ha hs]
    exact h m (Nat.le_refl m)
theorem walk_col {m : Nat} {t : Tab} (sq : Sq m t) (lt : LoT t) {k s a : Nat} (hs : s < m) (ha : a < m) : walkF t m k s a = (colF t m s k).getD a (0, 1) :=
  val_inj (lo_walk lt m k s a) (lo_getD (lo_col lt m s k) a) ((val_walk sq lt k hs ha).trans (vl_col sq lt s k ha).symm)
/-- the looks of one power -/
def looksRow (n : NetM) (t : Tab) (k : Nat) : Tab := n.ss.map fun s => n.fs.map fun f => (colF t n.m f k).getD s (0, 1)
def looksF (n : NetM) (as : List Fr) (k : Nat) : List Tab := (List.range k).map fun p => looksRow n (tabF n as) p
def walkRow (n : NetM) (t : Tab) (k : Nat) : Tab := n.ss.map fun s => n.fs.map fun f => walkF t n.m k f s
theorem walk_row {n : NetM} {t : Tab} (sq : Sq n.m t) (lt : LoT t) (hf : ∀ f ∈ n.fs, f < n.m) (hs : ∀ s ∈ n.ss, s < n.m) (k : Nat) : walkRow n t k = looksRow n t k :=
  List.map_congr_left fun s z => List.map_congr_left fun f z' => walk_col sq lt (hf f z') (hs s z)
theorem lo_st {t : Tab} {i k : Nat} {x : Fr} (l : LoT t) (hx : Lo x) : LoT (st t i k x) := fun r hr y hy => by
  rcases mem_st hr hy with rfl | ⟨row, h1, h2⟩
  · exact hx
  · exact l row h1 y h2
theorem lo_step {as : List Fr} {t : Tab} {p : Pp} (l : LoT t) (hp : Lo (partF as p.sh)) : LoT (stepF as t p) := by
  have h1 : LoT (step1 t p.s (partF as p.sh)) := lo_st l (lo_les (lo_gt l _ _) hp)
  unfold stepF
  split
  · exact h1
  · exact lo_st h1 (lo_add (lo_gt h1 _ _) hp)
theorem lo_tab0 (m : Nat) : LoT (tab0 m) := fun r hr => by
  unfold tab0 at hr
  obtain ⟨i, _, rfl⟩ := List.mem_map.mp hr
  exact lo_row0 m i
theorem lo_fillS {h : List Fr} {j : Nat} {x : Fr} (l : LoL h) (hx : Lo x) : LoL (fillS h (j, x)) := fun y hy => by
  rcases List.mem_or_eq_of_mem_set hy with hy | rfl
  · exact l y hy
  · exact lo_add (lo_getD l j) hx
theorem lo_fillI {fs : List Nat} {r h : List Fr} (l : LoL h) (lr : LoL r) (hl : r.length = fs.length) : ∀ {i : Nat}, i ≤ r.length → LoL (fillI fs r h i)
  | 0, _ => l
  | i + 1, h' => by
    rw [fillI_succ (List.getElem?_eq_getElem (show i < fs.length by omega)) (List.getElem?_eq_getElem (show i < r.length by omega))]
    exact lo_fillS (lo_fillI l lr hl (by omega)) (lr _ (List.getElem_mem _))
theorem vl_set {h : List Fr} {j x : Nat} {y : Fr} (hj : j < h.length) : vl (h.set j y) x = if x = j then val y else vl h x := by
  unfold vl
  rw [List.getD_eq_getElem?_getD, List.getD_eq_getElem?_getD, List.getElem?_set]
  by_cases c : j = x
  · subst c
    rw [if_pos rfl, if_pos rfl, if_pos hj]
    rfl
  · rw [if_neg c, if_neg (Ne.symm c)]
theorem vl_fillI {fs : List Nat} {r h : List Fr} (l : LoL h) (lr : LoL r) (hl : r.length = fs.length) (hf : ∀ j ∈ fs, j < h.length) (x : Nat) : ∀ {i : Nat}, i ≤ r.length → vl (fillI fs r h i) x = vl h x + sm i fun j => dlt x (fs.getD j 0) * vl r j
  | 0, _ => by
    show vl h x = vl h x + 0
    grind
  | i + 1, h' => by
    have h1 : i < fs.length := by omega
    have h2 : i < r.length := by omega
    rw [fillI_succ (List.getElem?_eq_getElem h1) (List.getElem?_eq_getElem h2)]
    unfold fillS
    have li := lo_fillI l lr hl (i := i) (by omega)
    rw [vl_set (by rw [fillI_len]; exact hf _ (List.getElem_mem _)), val_add (lo_getD li _).pos (lr _ (List.getElem_mem h2)).pos]
    show _ = _ + (sm i _ + dlt x (fs.getD i 0) * vl r i)
    have ih := vl_fillI l lr hl hf x (i := i) (by omega)
    have e1 : fs.getD i 0 = fs[i] := getD_in _ h1
    have e2 : vl r i = val r[i] := by unfold vl; rw [getD_in _ h2]
    rw [e1, e2]
    unfold dlt
    by_cases c : x = fs[i]
    · rw [if_pos c, if_pos c]
      rw [← c]
      show vl (fillI fs r h i) x + _ = _
      rw [ih]
      unfold dlt
      grind
    · rw [if_neg c, if_neg c, ih]
      unfold dlt
      grind
theorem lo_told {x : Fr} (h : Told x) : Lo x := ⟨h.pos, h.g⟩
theorem lo_tab {n : NetM} {as : List Fr} (hp : ∀ p ∈ n.ps, Lo (partF as p.sh)) : LoT (tabF n as) := by
  have h : ∀ (ps : List Pp) (t : Tab), (∀ p ∈ ps, Lo (partF as p.sh)) → LoT t → LoT (ps.foldl (stepF as) t) := by
    intro ps
    induction ps with
    | nil => exact fun t _ l => l
    | cons p ps ih => exact fun t hp l => ih _ (fun q hq => hp q (List.mem_cons_of_mem _ hq)) (lo_step l (hp p List.mem_cons_self))
  exact h _ _ hp (lo_tab0 _)
theorem lo_held {n : NetM} {as : List Fr} {fl : List (List Fr)} (lt : LoT (tabF n as)) (hl : ∀ r ∈ fl, r.length = n.fs.length ∧ LoL r) : ∀ {k : Nat}, k ≤ fl.length → LoL (heldI n as fl k)
  | 0, _ => fun x hx => by
    rw [heldI_zero] at hx
    rw [(List.mem_replicate.mp hx).2]
    exact lo0
  | k + 1, h => by
    have e := List.getElem?_eq_getElem (show k < fl.length by omega)
    obtain ⟨l1, l2⟩ := hl _ (List.getElem_mem (show k < fl.length by omega))
    rw [heldI_succ e]
    exact lo_fillI (lo_sent lt (lo_held lt hl (by omega))) l2 l1 (Nat.le_refl _)
/-- what a tank holds, by all that was filled in -/
theorem vl_held {n : NetM} {as : List Fr} {fl : List (List Fr)} (lt : LoT (tabF n as)) (hl : ∀ r ∈ fl, r.length = n.fs.length ∧ LoL r) (hf : ∀ f ∈ n.fs, f < n.m) (hlen : ∀ k, k ≤ fl.length → (heldI n as fl k).length = n.m) : ∀ {k : Nat}, k ≤ fl.length → ∀ {x : Nat}, x < n.m →
    vl (heldI n as fl k) x = sm k fun b => sm n.fs.length fun j => pw (At (tabF n as)) n.m (k - 1 - b) x (n.fs.getD j 0) * vl (fl.getD b []) j
  | 0, _, x, hx => by
    rw [heldI_zero]
    unfold vl held0
    rw [getD_in _ (by rw [List.length_replicate]; exact hx), List.getElem_replicate]
    exact val0
  | k + 1, h, x, hx => by
    have hk : k < fl.length := by omega
    obtain ⟨l1, l2⟩ := hl _ (List.getElem_mem hk)
    have lh := lo_held lt hl (k := k) (by omega)
    have sq := sqF n as
    have ls : (sentF (tabF n as) (heldI n as fl k)).length = n.m := by unfold sentF; rw [List.length_map]; exact sq.len
    rw [heldI_succ (List.getElem?_eq_getElem hk)]
    unfold fillF
    rw [vl_fillI (lo_sent lt lh) l2 l1 (fun j hj => by rw [ls]; exact hf j hj) x (Nat.le_refl _), vl_sent sq lt lh (hlen k (by omega)) hx]
    show _ = sm k _ + sm n.fs.length fun j => pw (At (tabF n as)) n.m (k + 1 - 1 - k) x (n.fs.getD j 0) * vl (fl.getD k []) j
    rw [l1, getD_in _ hk, show k + 1 - 1 - k = 0 by omega]
    refine congrArg (· + _) ?_
    have e1 : (sm n.m fun l => At (tabF n as) x l * vl (heldI n as fl k) l) = sm n.m fun l => sm k fun b => At (tabF n as) x l * sm n.fs.length fun j => pw (At (tabF n as)) n.m (k - 1 - b) l (n.fs.getD j 0) * vl (fl.getD b []) j :=
      sm_congr fun l hl' => by rw [vl_held lt hl hf hlen (k := k) (by omega) hl', sm_mul]
    rw [e1, sm_swap]
    refine sm_congr fun b hb => ?_
    have e2 : (sm n.m fun l => At (tabF n as) x l * sm n.fs.length fun j => pw (At (tabF n as)) n.m (k - 1 - b) l (n.fs.getD j 0) * vl (fl.getD b []) j) = sm n.m fun l => sm n.fs.length fun j => At (tabF n as) x l * (pw (At (tabF n as)) n.m (k - 1 - b) l (n.fs.getD j 0) * vl (fl.getD b []) j) :=
      sm_congr fun l _ => by rw [sm_mul]
    rw [e2, sm_swap]
    refine sm_congr fun j _ => ?_
    rw [show k + 1 - 1 - b = (k - 1 - b) + 1 by omega]
    show _ = (sm n.m fun l => _) * _
    rw [← sm_mulr]
    exact sm_congr fun l _ => by grind
/-- what is seen last, by sums of looks -/
def sumP (c : List Tab) (fl : List (List Fr)) (a i : Nat) : Fr := (List.range i).foldl (fun p b => addF p (dotF ((c.getD (fl.length - 1 - b) []).getD a []) (fl.getD b []))) (0, 1)
def sumF (n : NetM) (c : List Tab) (fl : List (List Fr)) : List Fr := (List.range n.ss.length).map fun a => sumP c fl a fl.length
theorem sumP_succ {c : List Tab} {fl : List (List Fr)} {a i : Nat} : sumP c fl a (i + 1) = addF (sumP c fl a i) (dotF ((c.getD (fl.length - 1 - i) []).getD a []) (fl.getD i [])) := by
  unfold sumP
  rw [List.range_succ, List.foldl_append]
  rfl
theorem looks_row {n : NetM} {as : List Fr} {k p : Nat} (hp : p < k) : (looksF n as k).getD p [] = looksRow n (tabF n as) p := by
  unfold looksF
  rw [getD_in _ (by rw [List.length_map, List.length_range]; exact hp), List.getElem_map, List.getElem_range]
theorem looks_at {n : NetM} {as : List Fr} {k p a : Nat} (hp : p < k) (ha : a < n.ss.length) : ((looksF n as k).getD p []).getD a [] = n.fs.map fun f => (colF (tabF n as) n.m f p).getD n.ss[a] (0, 1) := by
  rw [looks_row hp]
  unfold looksRow
  rw [getD_in _ (by rw [List.length_map]; exact ha), List.getElem_map]
theorem lo_lookrow {n : NetM} {t : Tab} (lt : LoT t) (p s : Nat) : LoL (n.fs.map fun f => (colF t n.m f p).getD s (0, 1)) := fun x hx => by
  obtain ⟨f, _, rfl⟩ := List.mem_map.mp hx
  exact lo_getD (lo_col lt n.m f p) s
theorem vl_lookrow {n : NetM} {as : List Fr} (lt : LoT (tabF n as)) {p s j : Nat} (hs : s < n.m) (hj : j < n.fs.length) : vl (n.fs.map fun f => (colF (tabF n as) n.m f p).getD s (0, 1)) j = pw (At (tabF n as)) n.m p s (n.fs.getD j 0) := by
  rw [← vl_col (sqF n as) lt _ p hs]
  unfold vl
  rw [getD_in _ (by rw [List.length_map]; exact hj), List.getElem_map, getD_in _ hj]
theorem sumP_val {n : NetM} {as : List Fr} {fl : List (List Fr)} (lt : LoT (tabF n as)) (hl : ∀ r ∈ fl, r.length = n.fs.length ∧ LoL r) (hs : ∀ s ∈ n.ss, s < n.m) {a : Nat} (ha : a < n.ss.length) : ∀ {i : Nat}, i ≤ fl.length → Lo (sumP (looksF n as fl.length) fl a i) ∧
    val (sumP (looksF n as fl.length) fl a i) = sm i fun b => sm n.fs.length fun j => pw (At (tabF n as)) n.m (fl.length - 1 - b) n.ss[a] (n.fs.getD j 0) * vl (fl.getD b []) j
  | 0, _ => ⟨lo0, val0⟩
  | i + 1, h => by
    obtain ⟨l0, v0⟩ := sumP_val lt hl hs ha (i := i) (by omega)
    have hi : i < fl.length := by omega
    obtain ⟨l1, l2⟩ := hl _ (List.getElem_mem hi)
    have e0 : ((looksF n as fl.length).getD (fl.length - 1 - i) []).getD a [] = n.fs.map fun f => (colF (tabF n as) n.m f (fl.length - 1 - i)).getD n.ss[a] (0, 1) := looks_at (by omega) ha
    have lr := lo_lookrow (n := n) lt (fl.length - 1 - i) n.ss[a]
    have e3 : fl.getD i [] = fl[i] := getD_in _ hi
    rw [sumP_succ, e0, e3]
    have ld := lo_dotI lr l2 (n.fs.map fun f => (colF (tabF n as) n.m f (fl.length - 1 - i)).getD n.ss[a] (0, 1)).length
    refine ⟨lo_add l0 ld, ?_⟩
    unfold dotF
    rw [val_add l0.pos ld.pos, v0, val_dotI lr l2 (by rw [List.length_map, l1]) (Nat.le_refl _)]
    show _ = sm i _ + sm n.fs.length fun j => pw (At (tabF n as)) n.m (fl.length - 1 - i) n.ss[a] (n.fs.getD j 0) * vl (fl.getD i []) j
    rw [List.length_map, e3]
    refine congrArg (_ + ·) (sm_congr fun j hj => ?_)
    rw [vl_lookrow lt (hs _ (List.getElem_mem _)) hj]
theorem seen_sum {n : NetM} {as : List Fr} {fl : List (List Fr)} (lt : LoT (tabF n as)) (hl : ∀ r ∈ fl, r.length = n.fs.length ∧ LoL r) (hf : ∀ f ∈ n.fs, f < n.m) (hs : ∀ s ∈ n.ss, s < n.m) (hlen : ∀ k, k ≤ fl.length → (heldI n as fl k).length = n.m) :
    sumF n (looksF n as fl.length) fl = seenF n.ss (heldI n as fl fl.length) := by
  unfold sumF seenF
  refine List.ext_getElem (by rw [List.length_map, List.length_map, List.length_range]) fun a h1 h2 => ?_
  have ha : a < n.ss.length := by rw [List.length_map] at h2; exact h2
  rw [List.getElem_map, List.getElem_map, List.getElem_range]
  obtain ⟨l0, v0⟩ := sumP_val lt hl hs ha (Nat.le_refl fl.length)
  refine val_inj l0 (lo_getD (lo_held lt hl (Nat.le_refl _)) _) ?_
  rw [v0]
  exact (vl_held lt hl hf hlen (Nat.le_refl _) (hs _ (List.getElem_mem ha))).symm
end KP

set_option Elab.async false
set_option linter.all false
set_option maxHeartbeats 1000000
/-! ### rows whose products are nought; reduced rows, and that there is one way to reduce -/
namespace FR
abbrev Vc := Nat → Rat
def dt (m : Nat) (u w : Vc) : Rat := sm m fun i => u i * w i
theorem dt_comm (m : Nat) (u w : Vc) : dt m u w = dt m w u := sm_congr fun i _ => Rat.mul_comm _ _
theorem dt_less {m : Nat} {u v f : Vc} {c : Rat} (w : Vc) (h : ∀ k, v k = u k - c * f k) : dt m v w = dt m u w - c * dt m f w := by
  have e : dt m v w + c * dt m f w = dt m u w := by
    unfold dt
    rw [← sm_mul, ← sm_add]
    exact sm_congr fun i _ => by rw [h]; grind
  grind
theorem dt_over {m : Nat} {u f : Vc} {c : Rat} (w : Vc) (h : ∀ k, f k = u k / c) : dt m f w = dt m u w / c := by
  have e : dt m f w = dt m u w * (1 / c) := by
    unfold dt
    rw [← sm_mulr]
    exact sm_congr fun i _ => by rw [h]; grind
  rw [e]
  grind
theorem dt_zero {m : Nat} {u : Vc} (w : Vc) (h : ∀ k, k < m → u k = 0) : dt m u w = 0 := by
  unfold dt
  rw [sm_congr (g := fun _ => 0) fun i hi => by rw [h i hi]; grind, sm_zero]
theorem dt_one {m : Nat} {u w : Vc} {c : Nat} {x : Rat} (hc : c < m) (h : ∀ k, k < m → u k * w k = x * dlt k c) : dt m u w = x := by
  unfold dt
  rw [sm_congr (g := fun k => x * dlt k c) h, sm_dlt (f := fun _ => x), if_pos hc]
theorem dt_two {m : Nat} {u w : Vc} {a b : Nat} {x y : Rat} (ha : a < m) (hb : b < m) (h : ∀ k, k < m → u k * w k = x * dlt k a + y * dlt k b) : dt m u w = x + y := by
  unfold dt
  rw [sm_congr (g := fun k => x * dlt k a + y * dlt k b) h, sm_add, sm_dlt (f := fun _ => x), sm_dlt (f := fun _ => y), if_pos ha, if_pos hb]
theorem dlt_self (i : Nat) : dlt i i = 1 := if_pos rfl
theorem dlt_ne {i j : Nat} (h : i ≠ j) : dlt i j = 0 := if_neg h
/-- reduced rows with their leading places, below c -/
structure Ech (c : Nat) (D : List (Nat × Vc)) : Prop where
  asc : D.Pairwise fun a b => a.1 < b.1
  lt : ∀ d ∈ D, d.1 < c
  one : ∀ d ∈ D, d.2 d.1 = 1
  zer : ∀ d ∈ D, ∀ e ∈ D, d.1 ≠ e.1 → e.2 d.1 = 0
  low : ∀ d ∈ D, ∀ k, k < d.1 → d.2 k = 0
def Nul (m : Nat) (D : List (Nat × Vc)) (w : Vc) : Prop := ∀ d ∈ D, dt m d.2 w = 0
theorem asc_inj {D : List (Nat × Vc)} (h : D.Pairwise fun a b => a.1 < b.1) {d e : Nat × Vc} (hd : d ∈ D) (he : e ∈ D) (q : d.1 = e.1) : d = e := by
  induction D with
  | nil => cases hd
  | cons x D ih =>
    rw [List.pairwise_cons] at h
    rcases List.mem_cons.mp hd with e1 | hd'
    · rcases List.mem_cons.mp he with e2 | he'
      · rw [e1, e2]
      · have := h.1 e he'
        rw [e1] at q
        omega
    · rcases List.mem_cons.mp he with e2 | he'
      · have := h.1 d hd'
        rw [e2] at q
        omega
      · exact ih h.2 hd' he'
/-- the row that vanishes with 1 at the free place c -/
def zv (D : List (Nat × Vc)) (c : Nat) : Vc := fun k => if k = c then 1 else match D.find? (fun d => d.1 == k) with
  | some d => - d.2 c
  | none => 0
theorem zv_self {D : List (Nat × Vc)} {c : Nat} : zv D c c = 1 := if_pos rfl
theorem find_lead {D : List (Nat × Vc)} (h : D.Pairwise fun a b => a.1 < b.1) {d : Nat × Vc} (hd : d ∈ D) : D.find? (fun e => e.1 == d.1) = some d := by
  cases q : D.find? (fun e => e.1 == d.1) with
  | none =>
    have := List.find?_eq_none.mp q d hd
    simp at this
  | some e =>
    have h1 := List.mem_of_find?_eq_some q
    have h2 := List.find?_some q
    rw [asc_inj h h1 hd (by simpa using h2)]
theorem zv_lead {D : List (Nat × Vc)} (h : D.Pairwise fun a b => a.1 < b.1) {d : Nat × Vc} (hd : d ∈ D) {c : Nat} (hc : d.1 ≠ c) : zv D c d.1 = - d.2 c := by
  unfold zv
  rw [if_neg hc, find_lead h hd]
theorem zv_free {D : List (Nat × Vc)} {c k : Nat} (hk : k ≠ c) (h : ∀ d ∈ D, d.1 ≠ k) : zv D c k = 0 := by
  unfold zv
  rw [if_neg hk]
  have : D.find? (fun d => d.1 == k) = none := List.find?_eq_none.mpr fun d hd => by simpa using h d hd
  rw [this]
theorem lead_or (D : List (Nat × Vc)) (k : Nat) : (∃ d ∈ D, d.1 = k) ∨ ∀ d ∈ D, d.1 ≠ k := by
  by_cases h : ∃ d ∈ D, d.1 = k
  · exact .inl h
  · exact .inr fun d hd e => h ⟨d, hd, e⟩
theorem zv_nul {m : Nat} {D : List (Nat × Vc)} (E : Ech m D) {c : Nat} (hc : c < m) (hf : ∀ d ∈ D, d.1 ≠ c) : Nul m D (zv D c) := fun d hd => by
  have z := dt_two (m := m) (u := d.2) (w := zv D c) (a := c) (b := d.1) (x := d.2 c) (y := - d.2 c) hc (E.lt d hd) fun k hk => by
    by_cases e1 : k = c
    · subst e1
      rw [zv_self, dlt_self, dlt_ne fun e => hf d hd e.symm]
      grind
    · rw [dlt_ne e1]
      rcases lead_or D k with ⟨e, he, rfl⟩ | nl
      · by_cases q : e.1 = d.1
        · have := asc_inj E.asc he hd q
          subst this
          rw [zv_lead E.asc he e1, dlt_self, E.one e he]
          grind
        · rw [E.zer e he d hd q, dlt_ne q]
          grind
      · rw [zv_free e1 nl, dlt_ne fun e => nl d hd e.symm]
        grind
  rw [z]
  grind
/-- a place leads exactly if what vanishes, and is 0 behind it, is 0 there -/
theorem lead_iff {m : Nat} {D : List (Nat × Vc)} (E : Ech m D) {c : Nat} (hc : c < m) : (∃ d ∈ D, d.1 = c) ↔ ∀ w, Nul m D w → (∀ j, c < j → j < m → w j = 0) → w c = 0 := by
  constructor
  · rintro ⟨d, hd, rfl⟩ w hw hz
    have z := hw d hd
    rw [dt_one (c := d.1) (x := w d.1) hc fun k hk => by
      by_cases e : k = d.1
      · subst e
        rw [E.one d hd, dlt_self]
        grind
      · rw [dlt_ne e]
        by_cases l : k < d.1
        · rw [E.low d hd k l]
          grind
        · rw [hz k (by omega) hk]
          grind] at z
    exact z
  · intro h
    rcases lead_or D c with y | nl
    · exact y
    · have z := h (zv D c) (zv_nul E hc nl) fun j hj hjm => by
        rcases lead_or D j with ⟨e, he, rfl⟩ | nl'
        · rw [zv_lead E.asc he (by omega), E.low e he c hj]
          grind
        · exact zv_free (by omega) nl'
      rw [zv_self] at z
      exact absurd z (by decide)
theorem asc_ext : ∀ {l1 l2 : List Nat}, l1.Pairwise (· < ·) → l2.Pairwise (· < ·) → (∀ x, x ∈ l1 ↔ x ∈ l2) → l1 = l2
  | [], [], _, _, _ => rfl
  | [], b :: l2, _, _, h => by
    have := (h b).mpr List.mem_cons_self
    cases this
  | a :: l1, [], _, _, h => by
    have := (h a).mp List.mem_cons_self
    cases this
  | a :: l1, b :: l2, h1, h2, h => by
    rw [List.pairwise_cons] at h1 h2
    have e : a = b := by
      rcases List.mem_cons.mp ((h a).mp List.mem_cons_self) with e | e
      · exact e
      · rcases List.mem_cons.mp ((h b).mpr List.mem_cons_self) with e' | e'
        · exact e'.symm
        · have := h1.1 b e'
          have := h2.1 a e
          omega
    subst e
    rw [asc_ext h1.2 h2.2 fun x => ⟨fun hx => by
      rcases List.mem_cons.mp ((h x).mp (List.mem_cons_of_mem _ hx)) with e | e
      · have := h1.1 x hx
        omega
      · exact e, fun hx => by
      rcases List.mem_cons.mp ((h x).mpr (List.mem_cons_of_mem _ hx)) with e | e
      · have := h2.1 x hx
        omega
      · exact e⟩]
theorem ech_leads {m : Nat} {D F : List (Nat × Vc)} (E : Ech m D) (G : Ech m F) (h : ∀ w, Nul m D w ↔ Nul m F w) : D.map Prod.fst = F.map Prod.fst := by
  refine asc_ext (by rw [List.pairwise_map]; exact E.asc) (by rw [List.pairwise_map]; exact G.asc) fun x => ?_
  have key : ∀ {c}, c < m → ((∃ d ∈ D, d.1 = c) ↔ ∃ d ∈ F, d.1 = c) := fun {c} hc => by
    rw [lead_iff E hc, lead_iff G hc]
    exact ⟨fun q w hw => q w ((h w).mpr hw), fun q w hw => q w ((h w).mp hw)⟩
  rw [List.mem_map, List.mem_map]
  constructor
  · rintro ⟨d, hd, e⟩
    exact (key (by rw [← e]; exact E.lt d hd)).mp ⟨d, hd, e⟩
  · rintro ⟨d, hd, e⟩
    exact (key (by rw [← e]; exact G.lt d hd)).mpr ⟨d, hd, e⟩
/-- there is one way to reduce -/
theorem ech_uniq {m : Nat} {D F : List (Nat × Vc)} (E : Ech m D) (G : Ech m F) (h : ∀ w, Nul m D w ↔ Nul m F w) {d e : Nat × Vc} (hd : d ∈ D) (he : e ∈ F) (q : d.1 = e.1) {k : Nat} (hk : k < m) : d.2 k = e.2 k := by
  have el := ech_leads E G h
  have same : ∀ c, (∃ d ∈ D, d.1 = c) ↔ ∃ d ∈ F, d.1 = c := fun c => by
    have : c ∈ D.map Prod.fst ↔ c ∈ F.map Prod.fst := by rw [el]
    rw [List.mem_map, List.mem_map] at this
    exact this
  rcases lead_or D k with ⟨x, hx, rfl⟩ | nl
  · obtain ⟨y, hy, ey⟩ := (same x.1).mp ⟨x, hx, rfl⟩
    by_cases c : x.1 = d.1
    · have := asc_inj E.asc hx hd c
      subst this
      rw [E.one x hx, q, G.one e he]
    · rw [E.zer x hx d hd c, ← ey, G.zer y hy e he (by omega)]
  · have nf : ∀ y ∈ F, y.1 ≠ k := fun y hy e => by
      obtain ⟨x, hx, ex⟩ := (same k).mpr ⟨y, hy, e⟩
      exact nl x hx ex
    have z := (h _).mp (zv_nul E hk nl) e he
    rw [dt_two (a := k) (b := e.1) (x := e.2 k) (y := - d.2 k) hk (G.lt e he) fun j hj => by
      by_cases e1 : j = k
      · subst e1
        rw [zv_self, dlt_self, dlt_ne fun z => nf e he z.symm]
        grind
      · rw [dlt_ne e1]
        rcases lead_or D j with ⟨x, hx, rfl⟩ | nlj
        · by_cases c : x.1 = e.1
          · have := asc_inj E.asc hx hd (by omega)
            subst this
            rw [zv_lead E.asc hx e1, c, G.one e he, dlt_self]
            grind
          · obtain ⟨y, hy, ey⟩ := (same x.1).mp ⟨x, hx, rfl⟩
            rw [← ey, G.zer y hy e he (by omega), dlt_ne (by omega)]
            grind
        · rw [zv_free e1 nlj, dlt_ne fun z => nlj d hd (by omega)]
          grind] at z
    grind
/-- what vanishes is made of the rows with 1 at a free place -/
theorem nul_made {m : Nat} {D : List (Nat × Vc)} (E : Ech m D) {u : Vc} (h : ∀ c, c < m → (∀ d ∈ D, d.1 ≠ c) → dt m u (zv D c) = 0) {w : Vc} (hw : Nul m D w) : dt m u w = 0 := by
  -- w by its free places
  let g : Nat → Rat := fun c => match D.find? (fun d => d.1 == c) with
    | some _ => 0
    | none => w c
  have gl : ∀ d ∈ D, g d.1 = 0 := fun d hd => by
    show (match D.find? (fun e => e.1 == d.1) with | some _ => 0 | none => w d.1) = 0
    rw [find_lead E.asc hd]
  have gf : ∀ c, (∀ d ∈ D, d.1 ≠ c) → g c = w c := fun c hc => by
    show (match D.find? (fun e => e.1 == c) with | some _ => 0 | none => w c) = w c
    have : D.find? (fun d => d.1 == c) = none := List.find?_eq_none.mpr fun d hd => by simpa using hc d hd
    rw [this]
  have ew : ∀ k, k < m → w k = sm m fun c => g c * zv D c k := fun k hk => by
    rcases lead_or D k with ⟨d, hd, rfl⟩ | nl
    · have z := hw d hd
      have e1 : (sm m fun c => g c * zv D c d.1) = sm m fun c => (d.2 c * w c - w d.1 * dlt c d.1) * (-1) := sm_congr fun c hc => by
        rcases lead_or D c with ⟨x, hx, rfl⟩ | nlc
        · rw [gl x hx]
          by_cases q : x.1 = d.1
          · have := asc_inj E.asc hx hd q
            subst this
            rw [E.one x hx, dlt_self]
            grind
          · rw [E.zer x hx d hd q, dlt_ne q]
            grind
        · rw [gf c nlc, zv_lead E.asc hd (nlc d hd), dlt_ne fun z => nlc d hd z.symm]
          grind
      rw [e1, sm_mulr]
      have e2 : (sm m fun c => d.2 c * w c - w d.1 * dlt c d.1) = - w d.1 := by
        have s : (sm m fun c => d.2 c * w c - w d.1 * dlt c d.1) + w d.1 = dt m d.2 w := by
          have s1 : (sm m fun c => w d.1 * dlt c d.1) = w d.1 := by rw [sm_dlt (f := fun _ => w d.1), if_pos hk]
          rw [← s1]
          unfold dt
          rw [s1, ← s1, ← sm_add]
          refine sm_congr fun c _ => ?_
          rw [s1]
          grind
        rw [z] at s
        grind
      rw [e2]
      grind
    · rw [sm_congr (g := fun c => w c * dlt c k) fun c hc => by
        by_cases q : c = k
        · subst q
          rw [zv_self, gf c nl, dlt_self]
        · rw [zv_free (fun z => q z.symm) nl, dlt_ne q]
          grind, sm_dlt, if_pos hk]
  have e : dt m u w = sm m fun c => g c * dt m u (zv D c) := by
    unfold dt
    rw [sm_congr (g := fun k => sm m fun c => g c * (u k * zv D c k)) fun k hk => by
      rw [ew k hk, ← sm_mul]
      exact sm_congr fun c _ => by grind, sm_swap]
    exact sm_congr fun c _ => by rw [sm_mul]
  rw [e, sm_congr (g := fun _ => 0) fun c hc => by
    rcases lead_or D c with ⟨x, hx, rfl⟩ | nlc
    · rw [gl x hx]
      grind
    · rw [h c hc nlc]
      grind, sm_zero]
end FR

set_option Elab.async false
set_option linter.all false
set_option maxHeartbeats 1000000
/-! ### reducing rows, place by place -/
namespace FR
/-- C has been reduced at all places below c: left is what is left, D what is done -/
structure Els (m c : Nat) (C left : List Vc) (D : List (Nat × Vc)) : Prop where
  ech : Ech c D
  zl : ∀ r ∈ left, ∀ k, k < c → r k = 0
  nul : ∀ w, (∀ r ∈ C, dt m r w = 0) ↔ ((∀ r ∈ left, dt m r w = 0) ∧ Nul m D w)
theorem Els.begin (m : Nat) (C : List Vc) : Els m 0 C C [] :=
  ⟨⟨.nil, (fun d h => by cases h), (fun d h => by cases h), (fun d h => by cases h), fun d h => by cases h⟩, fun r _ k hk => by omega, fun w => ⟨fun h => ⟨h, fun d hd => by cases hd⟩, fun h => h.1⟩⟩
theorem Ech.up {c c' : Nat} {D : List (Nat × Vc)} (E : Ech c D) (h : c ≤ c') : Ech c' D := ⟨E.asc, fun d hd => Nat.lt_of_lt_of_le (E.lt d hd) h, E.one, E.zer, E.low⟩
theorem Els.skip {m c : Nat} {C left : List Vc} {D : List (Nat × Vc)} (E : Els m c C left D) (h : ∀ r ∈ left, r c = 0) : Els m (c + 1) C left D :=
  ⟨E.ech.up (by omega), fun r hr k hk => by
    by_cases e : k = c
    · rw [e]
      exact h r hr
    · exact E.zl r hr k (by omega), E.nul⟩
theorem Els.lead {m c : Nat} {C left left' : List Vc} {D D1 : List (Nat × Vc)} {r0 f : Vc} (E : Els m c C left D) (h0 : r0 ∈ left) (hc : r0 c ≠ 0) (hf : ∀ k, f k = r0 k / r0 c)
    (ha : ∀ r' ∈ left', ∃ r ∈ left, ∀ k, r' k = r k - r c * f k) (hb : ∀ r ∈ left, (∃ r' ∈ left', ∀ k, r' k = r k - r c * f k) ∨ ∀ k, r k - r c * f k = 0)
    (h1 : D1.map Prod.fst = D.map Prod.fst) (ha1 : ∀ d' ∈ D1, ∃ d ∈ D, d'.1 = d.1 ∧ ∀ k, d'.2 k = d.2 k - d.2 c * f k) (hb1 : ∀ d ∈ D, ∃ d' ∈ D1, d'.1 = d.1 ∧ ∀ k, d'.2 k = d.2 k - d.2 c * f k) : Els m (c + 1) C left' (D1 ++ [(c, f)]) := by
  have fc : f c = 1 := by
    rw [hf]
    grind
  have fl : ∀ k, k < c → f k = 0 := fun k hk => by
    rw [hf, E.zl r0 h0 k hk]
    grind
  have lt1 : ∀ d ∈ D1, d.1 < c := fun d hd => by
    obtain ⟨e, he, q, _⟩ := ha1 d hd
    rw [q]
    exact E.ech.lt e he
  have mem : ∀ {d : Nat × Vc}, d ∈ D1 ++ [(c, f)] → d ∈ D1 ∨ d = (c, f) := fun {d} h => by
    rcases List.mem_append.mp h with h | h
    · exact .inl h
    · exact .inr (List.mem_singleton.mp h)
  refine ⟨⟨?_, fun d hd => ?_, fun d hd => ?_, fun d hd e he n => ?_, fun d hd k hk => ?_⟩, fun r' hr' k hk => ?_, fun w => ?_⟩
  · have a : (D1.map Prod.fst).Pairwise (· < ·) := by
      rw [h1, List.pairwise_map]
      exact E.ech.asc
    rw [List.pairwise_append]
    refine ⟨(List.pairwise_map.mp a), List.pairwise_singleton _ _, fun a ha b hb => ?_⟩
    rw [List.mem_singleton.mp hb]
    exact lt1 a ha
  · rcases mem hd with h | rfl
    · exact Nat.lt_succ_of_lt (lt1 d h)
    · exact Nat.lt_succ_self c
  · rcases mem hd with h | rfl
    · obtain ⟨e, he, q, z⟩ := ha1 d h
      rw [z, q, E.ech.one e he, fl _ (E.ech.lt e he)]
      grind
    · exact fc
  · rcases mem he with h | rfl
    · obtain ⟨e', he', q, z⟩ := ha1 e h
      rw [z]
      rcases mem hd with h2 | rfl
      · obtain ⟨d', hd', q', z'⟩ := ha1 d h2
        rw [q', E.ech.zer d' hd' e' he' (by omega), fl _ (E.ech.lt d' hd')]
        grind
      · show e'.2 c - e'.2 c * f c = 0
        rw [fc]
        grind
    · rcases mem hd with h2 | rfl
      · exact fl _ (lt1 d h2)
      · exact absurd rfl n
  · rcases mem hd with h | rfl
    · obtain ⟨e, he, q, z⟩ := ha1 d h
      rw [z, E.ech.low e he k (by omega), fl k (by have := lt1 d h; omega)]
      grind
    · exact fl k hk
  · obtain ⟨r, hr, z⟩ := ha r' hr'
    rw [z]
    by_cases e : k = c
    · rw [e, fc]
      grind
    · rw [E.zl r hr k (by omega), fl k (by omega)]
      grind
  · rw [E.nul]
    constructor
    · rintro ⟨hl, hd⟩
      have f0 : dt m f w = 0 := by
        rw [dt_over w hf, hl r0 h0]
        grind
      refine ⟨fun r' hr' => ?_, fun d hd' => ?_⟩
      · obtain ⟨r, hr, z⟩ := ha r' hr'
        rw [dt_less w z, hl r hr, f0]
        grind
      · rcases mem hd' with h | rfl
        · obtain ⟨e, he, _, z⟩ := ha1 d h
          rw [dt_less w z, hd e he, f0]
          grind
        · exact f0
    · rintro ⟨hl, hd⟩
      have f0 : dt m f w = 0 := hd (c, f) (List.mem_append_right _ (List.mem_singleton.mpr rfl))
      refine ⟨fun r hr => ?_, fun d hd' => ?_⟩
      · rcases hb r hr with ⟨r', hr', z⟩ | z
        · have a := dt_less (m := m) w z
          rw [hl r' hr', f0] at a
          grind
        · have a := dt_less (m := m) (u := r) (v := fun _ => 0) (f := f) (c := r c) w fun k => (z k).symm
          rw [f0, dt_zero w fun _ _ => rfl] at a
          grind
      · obtain ⟨d', hd'', _, z⟩ := hb1 d hd'
        have a := dt_less (m := m) w z
        rw [hd d' (List.mem_append_left _ hd''), f0] at a
        grind
theorem Els.fin {m : Nat} {C left : List Vc} {D : List (Nat × Vc)} (E : Els m m C left D) (w : Vc) : (∀ r ∈ C, dt m r w = 0) ↔ Nul m D w := by
  rw [E.nul]
  exact ⟨fun h => h.2, fun h => ⟨fun r hr => dt_zero w (E.zl r hr), h⟩⟩
/-! ### turned about -/
def rv (m : Nat) (u : Vc) : Vc := fun k => u (m - 1 - k)
theorem sm_rev (f : Nat → Rat) : ∀ m, sm m (fun k => f (m - 1 - k)) = sm m f
  | 0 => rfl
  | m + 1 => by
    have a : sm (m + 1) (fun k => f (m + 1 - 1 - k)) = sm (m + 1) fun k => f (m - k) := sm_congr fun k hk => by rw [show m + 1 - 1 - k = m - k by omega]
    have b : ∀ n (g : Nat → Rat), sm (n + 1) g = g 0 + sm n fun k => g (k + 1) := fun n g => by
      induction n with
      | zero => show 0 + g 0 = g 0 + 0; grind
      | succ n ih => 
        show sm (n + 1) g + g (n + 1) = g 0 + (sm n (fun k => g (k + 1)) + g (n + 1))
        rw [ih]
        grind
    rw [a, b, show m - 0 = m by omega, sm_congr (g := fun k => f (m - 1 - k)) fun k hk => by rw [show m - (k + 1) = m - 1 - k by omega], sm_rev f m]
    show f m + sm m f = sm m f + f m
    grind
theorem dt_rev (m : Nat) (u w : Vc) : dt m (rv m u) w = dt m u (rv m w) := by
  unfold dt rv
  rw [← sm_rev (fun i => u i * w (m - 1 - i))]
  refine sm_congr fun i hi => ?_
  rw [show m - 1 - (m - 1 - i) = i by omega]
theorem dt_congr {m : Nat} {u u' w : Vc} (h : ∀ k, k < m → u k = u' k) : dt m u w = dt m u' w := sm_congr fun i hi => by rw [h i hi]
end FR

set_option Elab.async false
set_option linter.all false
set_option maxHeartbeats 1000000
/-! ### rows of fractions that are reduced; how great their numbers are -/
namespace FR
open KP (LoL vl getD_in getD_out lo_getD)
def sgF (y : Fr) : Int := if y.1 > 0 then 1 else -1
def ovF (x y : Fr) : Fr := low (sgF y * x.1 * y.2) (sgF y * x.2 * y.1)
def inF (x : Fr) : Fr := if x.1 < 0 then (-x.2, -x.1) else (x.2, x.1)
theorem sg_pos {x y : Fr} (hx : 0 < x.2) (hy : y.1 ≠ 0) : 0 < sgF y * x.2 * y.1 := by
  unfold sgF
  split
  · rw [Int.one_mul]
    exact Int.mul_pos hx (by omega)
  · rw [show (-1 : Int) * x.2 * y.1 = x.2 * (-y.1) by grind]
    exact Int.mul_pos hx (by omega)
theorem lo_ov {x y : Fr} (hx : Lo x) (hy : y.1 ≠ 0) : Lo (ovF x y) := lo_low (sg_pos hx.pos hy)
theorem top_ne {y : Fr} (hy : Lo y) : y.1 ≠ 0 ↔ val y ≠ 0 := by
  have p := ne0 hy.pos
  unfold val
  constructor
  · intro h z
    have : (y.1 : Rat) ≠ 0 := fun e => h (by exact_mod_cast e)
    grind
  · intro h z
    rw [z] at h
    exact h (by grind)
theorem val_ov {x y : Fr} (hx : Lo x) (hy : Lo y) (h : y.1 ≠ 0) : val (ovF x y) = val x / val y := by
  have a := ne0 hx.pos
  have b := ne0 hy.pos
  have c : (y.1 : Rat) ≠ 0 := fun e => h (by exact_mod_cast e)
  have d : (sgF y : Rat) ≠ 0 := by
    unfold sgF
    split <;> decide
  unfold ovF
  rw [val_low (sg_pos hx.pos h)]
  unfold val
  rw [Rat.intCast_mul, Rat.intCast_mul, Rat.intCast_mul, Rat.intCast_mul]
  grind
theorem lo_in {x : Fr} (hx : Lo x) (h : x.1 ≠ 0) : Lo (inF x) := by
  unfold inF
  split
  · refine ⟨by show 0 < -x.1; omega, ?_⟩
    show Nat.gcd (-x.2).natAbs (-x.1).natAbs = 1
    rw [Int.natAbs_neg, Int.natAbs_neg, Nat.gcd_comm]
    exact hx.g
  · refine ⟨by show 0 < x.1; omega, ?_⟩
    show Nat.gcd x.2.natAbs x.1.natAbs = 1
    rw [Nat.gcd_comm]
    exact hx.g
theorem val_in {x : Fr} (hx : Lo x) (h : x.1 ≠ 0) : val (inF x) = 1 / val x := by
  have b := ne0 hx.pos
  have c : (x.1 : Rat) ≠ 0 := fun e => h (by exact_mod_cast e)
  unfold inF val
  split
  · show ((-x.2 : Int) : Rat) / ((-x.1 : Int) : Rat) = 1 / ((x.1 : Rat) / (x.2 : Rat))
    rw [Rat.intCast_neg, Rat.intCast_neg]
    grind
  · show ((x.2 : Int) : Rat) / ((x.1 : Int) : Rat) = 1 / ((x.1 : Rat) / (x.2 : Rat))
    grind
/-- 1 over it, taken times: over it -/
theorem mul_in {x y : Fr} (hx : Lo x) (hy : Lo y) (h : y.1 ≠ 0) : mulF x (inF y) = ovF x y := by
  have li := lo_in hy h
  refine val_inj (lo_mul hx li) (lo_ov hx h) ?_
  rw [val_mul hx.pos li.pos, val_ov hx hy h, val_in hy h]
  grind
/-- a row over its entry at p -/
def ledF (r : List Fr) (p : Nat) : List Fr := r.map fun x => ovF x (r.getD p (0, 1))
/-- a row less as much of another one as it has at p -/
def clrF (r l : List Fr) (p : Nat) : List Fr := List.zipWith (fun x y => lesF x (mulF (r.getD p (0, 1)) y)) r l
theorem led_len (r : List Fr) (p : Nat) : (ledF r p).length = r.length := List.length_map ..
theorem clr_len {r l : List Fr} (h : r.length = l.length) (p : Nat) : (clrF r l p).length = r.length := by
  unfold clrF
  rw [List.length_zipWith, ← h, Nat.min_self]
theorem lo_led {r : List Fr} {p : Nat} (h : LoL r) (hp : (r.getD p (0, 1)).1 ≠ 0) : LoL (ledF r p) := fun x hx => by
  obtain ⟨y, hy, rfl⟩ := List.mem_map.mp hx
  exact lo_ov (h y hy) hp
theorem clr_at {r l : List Fr} {p k : Nat} (h : r.length = l.length) (hk : k < r.length) : (clrF r l p).getD k (0, 1) = lesF (r.getD k (0, 1)) (mulF (r.getD p (0, 1)) (l.getD k (0, 1))) := by
  have hk2 : k < l.length := by omega
  have e : (clrF r l p)[k]? = some (lesF r[k] (mulF (r.getD p (0, 1)) l[k])) := by
    unfold clrF
    rw [List.getElem?_zipWith, List.getElem?_eq_getElem hk, List.getElem?_eq_getElem hk2]
  rw [List.getD_eq_getElem?_getD, e, getD_in (h := r) (i := k) _ hk, getD_in (h := l) _ hk2]
  rfl
theorem lo_clr {r l : List Fr} {p : Nat} (h : r.length = l.length) (hr : LoL r) (hl : LoL l) : LoL (clrF r l p) := fun x hx => by
  obtain ⟨k, hk, rfl⟩ := List.getElem_of_mem hx
  have hk' : k < r.length := by rw [clr_len h] at hk; exact hk
  have e := clr_at (p := p) h hk'
  rw [getD_in _ hk] at e
  rw [e]
  exact lo_les (lo_getD hr k) (lo_mul (lo_getD hr p) (lo_getD hl k))
theorem vl_out {r : List Fr} {k : Nat} (h : ¬ k < r.length) : vl r k = 0 := by
  unfold vl
  rw [getD_out _ h, val0]
theorem vl_led {r : List Fr} {p : Nat} (h : LoL r) (hp : (r.getD p (0, 1)).1 ≠ 0) (k : Nat) : vl (ledF r p) k = vl r k / vl r p := by
  by_cases hk : k < r.length
  · have e : (ledF r p)[k]? = some (ovF r[k] (r.getD p (0, 1))) := by
      unfold ledF
      rw [List.getElem?_map, List.getElem?_eq_getElem hk]
      rfl
    unfold vl
    rw [List.getD_eq_getElem?_getD (l := ledF r p), e, getD_in (h := r) (i := k) _ hk]
    exact val_ov (h _ (List.getElem_mem hk)) (lo_getD h p) hp
  · rw [vl_out hk, vl_out (by rw [led_len]; exact hk)]
    grind
theorem vl_clr {r l : List Fr} {p : Nat} (h : r.length = l.length) (hr : LoL r) (hl : LoL l) (k : Nat) : vl (clrF r l p) k = vl r k - vl r p * vl l k := by
  by_cases hk : k < r.length
  · have lp := lo_getD hr p
    have lk := lo_getD hl k
    have rk := lo_getD hr k
    unfold vl
    rw [clr_at h hk, val_les rk.pos (lo_mul lp lk).pos, val_mul lp.pos lk.pos]
  · rw [vl_out hk, vl_out (by rw [clr_len h]; exact hk), vl_out (r := l) (by omega)]
    grind
/-- whole numbers under one of less than b figures -/
def Rb (b : Nat) (r : List Fr) : Prop := ∃ (d : Int) (v : Nat → Int), 0 < d ∧ d.natAbs < 2 ^ b ∧ (∀ k, (v k).natAbs < 2 ^ b) ∧ ∀ k, vl r k = (v k : Rat) / (d : Rat)
theorem Rb.mono {b b' : Nat} {r : List Fr} (h : Rb b r) (hb : b ≤ b') : Rb b' r := by
  obtain ⟨d, v, d0, d1, v1, e⟩ := h
  have p := Nat.pow_le_pow_right (show 0 < 2 by decide) hb
  exact ⟨d, v, d0, Nat.lt_of_lt_of_le d1 p, fun k => Nat.lt_of_lt_of_le (v1 k) p, e⟩
/-- lowest terms are the least -/
theorem lo_le {x : Fr} {v d : Int} (hx : Lo x) (hd : 0 < d) (e : val x = (v : Rat) / (d : Rat)) : x.1.natAbs ≤ v.natAbs ∧ x.2.natAbs ≤ d.natAbs := by
  have h1 := ne0 hx.pos
  have h2 := ne0 hd
  have e1 : (x.1 : Rat) * (d : Rat) = (v : Rat) * (x.2 : Rat) := by
    unfold val at e
    grind
  have e2 : x.1 * d = v * x.2 := by exact_mod_cast e1
  have dv : x.2 ∣ d := by
    have a : x.2 ∣ x.1 * d := ⟨v, by rw [e2, Int.mul_comm]⟩
    have a := Int.natAbs_dvd_natAbs.mpr a
    rw [Int.natAbs_mul] at a
    have g : Nat.Coprime x.2.natAbs x.1.natAbs := by
      unfold Nat.Coprime
      rw [Nat.gcd_comm]
      exact hx.g
    exact Int.natAbs_dvd_natAbs.mp (g.dvd_of_dvd_mul_left a)
  obtain ⟨t, rfl⟩ := dv
  have t0 : t ≠ 0 := fun z => by rw [z, Int.mul_zero] at hd; omega
  have e3 : v = x.1 * t := by
    have : (x.1 * t) * x.2 = v * x.2 := by rw [← e2]; grind
    have n2 : x.2 ≠ 0 := by have := hx.pos; omega
    exact (Int.eq_of_mul_eq_mul_right n2 this).symm
  have t1 : 1 ≤ t.natAbs := by omega
  refine ⟨?_, ?_⟩
  · rw [e3, Int.natAbs_mul]
    exact Nat.le_mul_of_pos_right _ t1
  · rw [Int.natAbs_mul]
    exact Nat.le_mul_of_pos_right _ t1
theorem Rb.sz {b : Nat} {r : List Fr} (h : Rb b r) (l : LoL r) (k : Nat) : Sz b (r.getD k (0, 1)) := by
  obtain ⟨d, v, d0, d1, v1, e⟩ := h
  have z := lo_le (lo_getD l k) d0 (e k)
  exact ⟨(lo_getD l k).pos, Nat.lt_of_le_of_lt z.1 (v1 k), Nat.lt_of_le_of_lt z.2 d1⟩
theorem Rb.led {b p : Nat} {r : List Fr} (h : Rb b r) (l : LoL r) (hp : (r.getD p (0, 1)).1 ≠ 0) : Rb b (ledF r p) := by
  obtain ⟨d, v, d0, d1, v1, e⟩ := h
  have n0 := ne0 d0
  have vp : v p ≠ 0 := fun z => by
    have a := (top_ne (lo_getD l p)).mp hp
    have : val (r.getD p (0, 1)) = vl r p := rfl
    rw [this, e, z] at a
    exact a (by grind)
  have vq : (v p : Rat) ≠ 0 := fun z => vp (by exact_mod_cast z)
  by_cases c : 0 < v p
  · refine ⟨v p, v, c, v1 p, v1, fun k => ?_⟩
    rw [vl_led l hp, e, e]
    grind
  · refine ⟨- v p, fun k => - v k, by omega, by rw [Int.natAbs_neg]; exact v1 p, fun k => by rw [Int.natAbs_neg]; exact v1 k, fun k => ?_⟩
    rw [vl_led l hp, e, e, Rat.intCast_neg, Rat.intCast_neg]
    grind
theorem Rb.clr {b b' p : Nat} {r l : List Fr} (h : Rb b r) (h' : Rb b' l) (hr : LoL r) (hl : LoL l) (hlen : r.length = l.length) : Rb (b + b' + 1) (clrF r l p) := by
  obtain ⟨d, v, d0, d1, v1, e⟩ := h
  obtain ⟨g, u, g0, g1, u1, e'⟩ := h'
  have n0 := ne0 d0
  have n1 := ne0 g0
  have pw : 2 ^ (b + b' + 1) = 2 ^ b * 2 ^ b' + 2 ^ b * 2 ^ b' := by rw [Nat.pow_succ, Nat.pow_add, Nat.mul_two]
  refine ⟨d * g, fun k => v k * g - v p * u k, Int.mul_pos d0 g0, ?_, fun k => ?_, fun k => ?_⟩
  · rw [Int.natAbs_mul, pw]
    have := Nat.mul_lt_mul'' d1 g1
    omega
  · have a := Nat.mul_lt_mul'' (v1 k) g1
    have c := Nat.mul_lt_mul'' (v1 p) (u1 k)
    have t : (v k * g - v p * u k).natAbs ≤ (v k).natAbs * g.natAbs + (v p).natAbs * (u k).natAbs := by
      rw [← Int.natAbs_mul, ← Int.natAbs_mul]
      omega
    show (v k * g - v p * u k).natAbs < _
    rw [pw]
    omega
  · rw [vl_clr hlen hr hl, e, e, e', Rat.intCast_sub, Rat.intCast_mul, Rat.intCast_mul, Rat.intCast_mul]
    grind
end FR

set_option Elab.async false
set_option linter.all false
set_option maxHeartbeats 1000000
/-! ### rows of fractions, reduced place by place -/
namespace FR
open KP (LoL vl getD_in getD_out lo_getD)
theorem asc_len {c : Nat} : ∀ {l : List Nat} {lo : Nat}, l.Pairwise (· < ·) → (∀ x ∈ l, lo ≤ x ∧ x < c) → l.length ≤ c - lo
  | [], _, _, _ => Nat.zero_le _
  | x :: l, lo, h, b => by
    rw [List.pairwise_cons] at h
    have z := asc_len (c := c) (lo := x + 1) h.2 fun y hy => ⟨h.1 y hy, (b y (List.mem_cons_of_mem _ hy)).2⟩
    have := b x List.mem_cons_self
    rw [List.length_cons]
    omega
def zD (ld : List Nat) (done : List (List Fr)) : List (Nat × Vc) := (ld.zip done).map fun p => (p.1, vl p.2)
theorem zD_fst {ld : List Nat} {done : List (List Fr)} (h : ld.length = done.length) : (zD ld done).map Prod.fst = ld := by
  unfold zD
  rw [List.map_map]
  exact List.map_fst_zip (Nat.le_of_eq h)
theorem zD_mem {ld : List Nat} {done : List (List Fr)} {d : Nat × Vc} (h : d ∈ zD ld done) : ∃ r ∈ done, d = (d.1, vl r) ∧ (d.1, r) ∈ ld.zip done := by
  obtain ⟨⟨l, r⟩, hp, rfl⟩ := List.mem_map.mp h
  exact ⟨r, (List.of_mem_zip hp).2, rfl, hp⟩
structure Elf (m c b0 : Nat) (C : List Vc) (left done : List (List Fr)) (ld : List Nat) : Prop where
  hl : ∀ r ∈ left, r.length = m ∧ LoL r
  hd : ∀ r ∈ done, r.length = m ∧ LoL r
  len : ld.length = done.length
  els : Els m c C (left.map vl) (zD ld done)
  bl : ∀ r ∈ left, Rb ((b0 + 1) * 2 ^ ld.length - 1) r
  bd : ∀ r ∈ done, Rb ((b0 + 1) * (2 ^ ld.length - 1)) r
theorem Elf.begin {m b0 : Nat} {rows : List (List Fr)} (h : ∀ r ∈ rows, r.length = m ∧ LoL r) (hb : ∀ r ∈ rows, Rb b0 r) : Elf m 0 b0 (rows.map vl) rows [] [] :=
  ⟨h, (fun r hr => by cases hr), rfl, Els.begin m _, fun r hr => (hb r hr).mono (by simp), fun r hr => by cases hr⟩
theorem Elf.few {m c b0 : Nat} {C : List Vc} {left done : List (List Fr)} {ld : List Nat} (E : Elf m c b0 C left done ld) : ld.length ≤ c := by
  have a : ld.Pairwise (· < ·) := by
    rw [← zD_fst E.len, List.pairwise_map]
    exact E.els.ech.asc
  refine asc_len (lo := 0) a fun x hx => ⟨Nat.zero_le _, ?_⟩
  rw [← zD_fst E.len] at hx
  obtain ⟨d, hd, rfl⟩ := List.mem_map.mp hx
  exact E.els.ech.lt d hd
theorem Elf.skip {m c b0 : Nat} {C : List Vc} {left done : List (List Fr)} {ld : List Nat} (E : Elf m c b0 C left done ld) (h : ∀ r ∈ left, (r.getD c (0, 1)).1 = 0) : Elf m (c + 1) b0 C left done ld :=
  ⟨E.hl, E.hd, E.len, E.els.skip fun u hu => by
    obtain ⟨r, hr, rfl⟩ := List.mem_map.mp hu
    false_or_by_contra
    rename_i z
    exact (top_ne (lo_getD (E.hl r hr).2 c)).mpr z (h r hr), E.bl, E.bd⟩
theorem Elf.lead {m c b0 : Nat} {C : List Vc} {left L done : List (List Fr)} {ld : List Nat} {r0 : List Fr} (E : Elf m c b0 C left done ld) (h0 : r0 ∈ left) (hc : (r0.getD c (0, 1)).1 ≠ 0)
    (hL : ∀ r ∈ L, r ∈ left) (hR : ∀ r ∈ left, r ∈ L ∨ r = r0) :
    Elf m (c + 1) b0 C (L.map fun r => clrF r (ledF r0 c) c) ((done.map fun r => clrF r (ledF r0 c) c) ++ [ledF r0 c]) (ld ++ [c]) := by
  obtain ⟨l0, lo0⟩ := E.hl r0 h0
  have lf : LoL (ledF r0 c) := lo_led lo0 hc
  have lenf : (ledF r0 c).length = m := by rw [led_len]; exact l0
  have bf := (E.bl r0 h0).led lo0 hc
  have vc : vl r0 c ≠ 0 := (top_ne (lo_getD lo0 c)).mp hc
  have vf := vl_led lo0 hc
  have vk : ∀ r, r.length = m ∧ LoL r → ∀ k, vl (clrF r (ledF r0 c) c) k = vl r k - vl r c * vl (ledF r0 c) k := fun r h => vl_clr (by rw [h.1, lenf]) h.2 lf
  have ok : ∀ r, r.length = m ∧ LoL r → (clrF r (ledF r0 c) c).length = m ∧ LoL (clrF r (ledF r0 c) c) := fun r h => ⟨by rw [clr_len (by rw [h.1, lenf]), h.1], lo_clr (by rw [h.1, lenf]) h.2 lf⟩
  have ll : (ld ++ [c]).length = ld.length + 1 := by rw [List.length_append, List.length_singleton]
  have p1 : 1 ≤ 2 ^ ld.length := Nat.one_le_two_pow
  have p2 : 2 ^ (ld.length + 1) = 2 * 2 ^ ld.length := by rw [Nat.pow_succ, Nat.mul_comm]
  have q1 : b0 + 1 ≤ (b0 + 1) * 2 ^ ld.length := Nat.le_mul_of_pos_right _ p1
  have q2 : (b0 + 1) * 2 ^ (ld.length + 1) = 2 * ((b0 + 1) * 2 ^ ld.length) := by rw [p2, Nat.mul_left_comm]
  have q3 : (b0 + 1) * (2 ^ ld.length - 1) = (b0 + 1) * 2 ^ ld.length - (b0 + 1) := by rw [Nat.mul_sub, Nat.mul_one]
  have q4 : (b0 + 1) * (2 ^ (ld.length + 1) - 1) = (b0 + 1) * 2 ^ (ld.length + 1) - (b0 + 1) := by rw [Nat.mul_sub, Nat.mul_one]
  refine ⟨fun r hr => ?_, fun r hr => ?_, ?_, ?_, fun r hr => ?_, fun r hr => ?_⟩
  · obtain ⟨r', hr', rfl⟩ := List.mem_map.mp hr
    exact ok r' (E.hl r' (hL r' hr'))
  · rcases List.mem_append.mp hr with h | h
    · obtain ⟨r', hr', rfl⟩ := List.mem_map.mp h
      exact ok r' (E.hd r' hr')
    · rw [List.mem_singleton.mp h]
      exact ⟨lenf, lf⟩
  · rw [ll, List.length_append, List.length_map, List.length_singleton, E.len]
  · have ez : zD (ld ++ [c]) ((done.map fun r => clrF r (ledF r0 c) c) ++ [ledF r0 c]) = zD ld (done.map fun r => clrF r (ledF r0 c) c) ++ [(c, vl (ledF r0 c))] := by
      unfold zD
      rw [List.zip_append (by rw [List.length_map, E.len]), List.map_append]
      rfl
    rw [ez]
    have zm : ∀ {l : Nat} {r : List Fr}, (l, r) ∈ ld.zip done → (l, vl (clrF r (ledF r0 c) c)) ∈ zD ld (done.map fun r => clrF r (ledF r0 c) c) := fun {l r} h => by
      unfold zD
      rw [List.zip_map_right, List.map_map]
      exact List.mem_map.mpr ⟨(l, r), h, rfl⟩
    refine E.els.lead (r0 := vl r0) (f := vl (ledF r0 c)) (List.mem_map.mpr ⟨r0, h0, rfl⟩) vc vf (fun u hu => ?_) (fun u hu => ?_) ?_ (fun d hd => ?_) (fun d hd => ?_)
    · obtain ⟨r, hr, rfl⟩ := List.mem_map.mp hu
      obtain ⟨r', hr', rfl⟩ := List.mem_map.mp hr
      exact ⟨vl r', List.mem_map.mpr ⟨r', hL r' hr', rfl⟩, vk r' (E.hl r' (hL r' hr'))⟩
    · obtain ⟨r, hr, rfl⟩ := List.mem_map.mp hu
      rcases hR r hr with h | rfl
      · exact .inl ⟨_, List.mem_map.mpr ⟨_, List.mem_map.mpr ⟨r, h, rfl⟩, rfl⟩, vk r (E.hl r hr)⟩
      · refine .inr fun k => ?_
        rw [vf]
        grind
    · rw [zD_fst E.len, zD_fst (by rw [List.length_map, E.len])]
    · unfold zD at hd
      rw [List.zip_map_right, List.map_map] at hd
      obtain ⟨⟨l, r⟩, hp, rfl⟩ := List.mem_map.mp hd
      exact ⟨(l, vl r), List.mem_map.mpr ⟨(l, r), hp, rfl⟩, rfl, vk r (E.hd r (List.of_mem_zip hp).2)⟩
    · obtain ⟨⟨l, r⟩, hp, rfl⟩ := List.mem_map.mp hd
      exact ⟨_, zm hp, rfl, vk r (E.hd r (List.of_mem_zip hp).2)⟩
  · obtain ⟨r', hr', rfl⟩ := List.mem_map.mp hr
    have e := E.hl r' (hL r' hr')
    refine ((E.bl r' (hL r' hr')).clr bf e.2 lf (by rw [e.1, lenf])).mono ?_
    rw [ll, q2]
    omega
  · rw [ll, q4, q2]
    rcases List.mem_append.mp hr with h | h
    · obtain ⟨r', hr', rfl⟩ := List.mem_map.mp h
      have e := E.hd r' hr'
      refine ((E.bd r' hr').clr bf e.2 lf (by rw [e.1, lenf])).mono ?_
      rw [q3]
      omega
    · rw [List.mem_singleton.mp h]
      exact bf.mono (by omega)
theorem Elf.fin {m b0 : Nat} {C : List Vc} {left done : List (List Fr)} {ld : List Nat} (E : Elf m m b0 C left done ld) (w : Vc) : (∀ r ∈ C, dt m r w = 0) ↔ Nul m (zD ld done) w := E.els.fin w
/-- two ways of reducing give the same rows -/
theorem elf_uniq {m b0 b1 : Nat} {C C' : List Vc} {left done left' done' : List (List Fr)} {ld ld' : List Nat} (E : Elf m m b0 C left done ld) (F : Elf m m b1 C' left' done' ld') (h : ∀ w, (∀ r ∈ C, dt m r w = 0) ↔ ∀ r ∈ C', dt m r w = 0) : ld = ld' ∧ done = done' := by
  have h' : ∀ w, Nul m (zD ld done) w ↔ Nul m (zD ld' done') w := fun w => by rw [← E.fin w, ← F.fin w]; exact h w
  have el : ld = ld' := by
    have z := ech_leads E.els.ech F.els.ech h'
    rw [zD_fst E.len, zD_fst F.len] at z
    exact z
  subst el
  refine ⟨rfl, List.ext_getElem (by rw [← E.len, ← F.len]) fun i h1 h2 => ?_⟩
  have hi : i < ld.length := by rw [E.len]; exact h1
  have m1 : (ld[i], vl done[i]) ∈ zD ld done := List.mem_map.mpr ⟨(ld[i], done[i]), by
    have : (ld.zip done)[i]? = some (ld[i], done[i]) := by rw [List.getElem?_zip_eq_some]; exact ⟨List.getElem?_eq_getElem hi, List.getElem?_eq_getElem h1⟩
    exact List.mem_of_getElem? this, rfl⟩
  have m2 : (ld[i], vl done'[i]) ∈ zD ld done' := List.mem_map.mpr ⟨(ld[i], done'[i]), by
    have : (ld.zip done')[i]? = some (ld[i], done'[i]) := by rw [List.getElem?_zip_eq_some]; exact ⟨List.getElem?_eq_getElem hi, List.getElem?_eq_getElem h2⟩
    exact List.mem_of_getElem? this, rfl⟩
  have o1 := E.hd _ (List.getElem_mem h1)
  have o2 := F.hd _ (List.getElem_mem h2)
  refine List.ext_getElem (by rw [o1.1, o2.1]) fun k k1 k2 => ?_
  have z := ech_uniq E.els.ech F.els.ech h' m1 m2 rfl (k := k) (by rw [← o1.1]; exact k1)
  have z : val (done[i].getD k (0, 1)) = val (done'[i].getD k (0, 1)) := z
  rw [getD_in _ k1, getD_in _ k2] at z
  exact val_inj (o1.2 _ (List.getElem_mem k1)) (o2.2 _ (List.getElem_mem k2)) z
end FR

set_option Elab.async false
set_option linter.all false
set_option maxHeartbeats 1000000
/-! ### rows that vanish: two ways to their reduced basis -/
namespace FR
open KP (LoL vl getD_in getD_out lo_getD)
theorem rows_uniq {m : Nat} {done done' : List (List Fr)} {ld ld' : List Nat} (len : ld.length = done.length) (len' : ld'.length = done'.length) (hd : ∀ r ∈ done, r.length = m ∧ LoL r) (hd' : ∀ r ∈ done', r.length = m ∧ LoL r) (E : Ech m (zD ld done)) (F : Ech m (zD ld' done'))
    (h' : ∀ w, Nul m (zD ld done) w ↔ Nul m (zD ld' done') w) : ld = ld' ∧ done = done' := by
  have el : ld = ld' := by
    have z := ech_leads E F h'
    rw [zD_fst len, zD_fst len'] at z
    exact z
  subst el
  refine ⟨rfl, List.ext_getElem (by rw [← len, ← len']) fun i h1 h2 => ?_⟩
  have hi : i < ld.length := by rw [len]; exact h1
  have m1 : (ld[i], vl done[i]) ∈ zD ld done := List.mem_map.mpr ⟨(ld[i], done[i]), by
    have : (ld.zip done)[i]? = some (ld[i], done[i]) := by rw [List.getElem?_zip_eq_some]; exact ⟨List.getElem?_eq_getElem hi, List.getElem?_eq_getElem h1⟩
    exact List.mem_of_getElem? this, rfl⟩
  have m2 : (ld[i], vl done'[i]) ∈ zD ld done' := List.mem_map.mpr ⟨(ld[i], done'[i]), by
    have : (ld.zip done')[i]? = some (ld[i], done'[i]) := by rw [List.getElem?_zip_eq_some]; exact ⟨List.getElem?_eq_getElem hi, List.getElem?_eq_getElem h2⟩
    exact List.mem_of_getElem? this, rfl⟩
  have o1 := hd _ (List.getElem_mem h1)
  have o2 := hd' _ (List.getElem_mem h2)
  refine List.ext_getElem (by rw [o1.1, o2.1]) fun k k1 k2 => ?_
  have z := ech_uniq E F h' m1 m2 rfl (k := k) (by rw [← o1.1]; exact k1)
  have z : val (done[i].getD k (0, 1)) = val (done'[i].getD k (0, 1)) := z
  rw [getD_in _ k1, getD_in _ k2] at z
  exact val_inj (o1.2 _ (List.getElem_mem k1)) (o2.2 _ (List.getElem_mem k2)) z
theorem lo_neg {x : Fr} (h : Lo x) : Lo (negF x) := ⟨h.pos, by
  show Nat.gcd (-x.1).natAbs x.2.natAbs = 1
  rw [Int.natAbs_neg]
  exact h.g⟩
theorem val_neg (x : Fr) : val (negF x) = - val x := by
  unfold val
  show ((-x.1 : Int) : Rat) / (x.2 : Rat) = _
  rw [Rat.intCast_neg]
  grind
/-- the entry at k of the row that vanishes with 1 at the free place c -/
def kerE (ld : List Nat) (done : List (List Fr)) (c k : Nat) : Fr := if k = c then (1, 1) else match (ld.zip done).find? (fun d => d.1 == k) with
  | some d => negF (d.2.getD c (0, 1))
  | none => (0, 1)
def kerF (m : Nat) (ld : List Nat) (done : List (List Fr)) (c : Nat) : List Fr := (List.range m).map (kerE ld done c)
def freeP (m : Nat) (ld : List Nat) : List Nat := (List.range m).filter fun c => !ld.contains c
theorem mem_free {m : Nat} {ld : List Nat} {c : Nat} : c ∈ freeP m ld ↔ c < m ∧ c ∉ ld := by
  unfold freeP
  rw [List.mem_filter, List.mem_range]
  simp
theorem asc_free (m : Nat) (ld : List Nat) : (freeP m ld).Pairwise (· < ·) := List.Pairwise.filter _ List.pairwise_lt_range
theorem val_kerE (ld : List Nat) (done : List (List Fr)) (c k : Nat) : val (kerE ld done c k) = zv (zD ld done) c k := by
  unfold kerE zv zD
  by_cases e : k = c
  · rw [if_pos e, if_pos e, val1]
  · rw [if_neg e, if_neg e, List.find?_map]
    show val (match List.find? (fun d => d.1 == k) (ld.zip done) with | some d => negF (d.2.getD c (0, 1)) | none => (0, 1)) = match Option.map (fun p => (p.1, vl p.2)) (List.find? (fun d => d.1 == k) (ld.zip done)) with | some d => - d.2 c | none => 0
    cases List.find? (fun d => d.1 == k) (ld.zip done) with
    | none => exact val0
    | some d => exact val_neg _
theorem lo_kerE {ld : List Nat} {done : List (List Fr)} (hd : ∀ r ∈ done, LoL r) (c k : Nat) : Lo (kerE ld done c k) := by
  unfold kerE
  split
  · exact lo1
  · split
    · rename_i d q
      exact lo_neg (lo_getD (hd _ (List.of_mem_zip (List.mem_of_find?_eq_some q)).2) c)
    · exact lo0
theorem ker_len (m : Nat) (ld : List Nat) (done : List (List Fr)) (c : Nat) : (kerF m ld done c).length = m := by simp [kerF]
theorem lo_ker {m : Nat} {ld : List Nat} {done : List (List Fr)} (hd : ∀ r ∈ done, LoL r) (c : Nat) : LoL (kerF m ld done c) := fun x hx => by
  obtain ⟨k, _, rfl⟩ := List.mem_map.mp hx
  exact lo_kerE hd c k
theorem vl_ker {m : Nat} {ld : List Nat} {done : List (List Fr)} {c k : Nat} (hk : k < m) : vl (kerF m ld done c) k = zv (zD ld done) c k := by
  unfold vl
  rw [getD_in _ (by rw [ker_len]; exact hk)]
  unfold kerF
  rw [List.getElem_map, List.getElem_range]
  exact val_kerE ld done c k
/-- the told rows: with 1 at each free place, the places counted from the end -/
def outP (m : Nat) (ld : List Nat) (done : List (List Fr)) : List (List Fr) := ((List.range m).filter fun p => !ld.contains (m - 1 - p)).map fun p => (kerF m ld done (m - 1 - p)).reverse
theorem lead_mem {ld : List Nat} {done : List (List Fr)} (h : ld.length = done.length) {c : Nat} : (∃ d ∈ zD ld done, d.1 = c) ↔ c ∈ ld := by
  have : c ∈ (zD ld done).map Prod.fst ↔ c ∈ ld := by rw [zD_fst h]
  rw [List.mem_map] at this
  exact this
theorem vl_rev {r : List Fr} {m k : Nat} (h : r.length = m) (hk : k < m) : vl r.reverse k = vl r (m - 1 - k) := by
  unfold vl
  rw [getD_in _ (by rw [List.length_reverse, h]; exact hk), getD_in _ (by rw [h]; omega), List.getElem_reverse]
  congr 1
  simp only [h]
theorem kept_same {m b0 b1 b2 : Nat} {C C' : List Vc} {left done leftL doneL left2 done2 : List (List Fr)} {ld ldL ld2 : List Nat} (hC : ∀ w, (∀ r ∈ C, dt m r w = 0) ↔ ∀ r ∈ C', dt m r w = 0)
    (E : Elf m m b0 (C.map (rv m)) left done ld) (F : Elf m m b1 C' leftL doneL ldL) (G : Elf m m b2 (((freeP m ldL).map (kerF m ldL doneL)).map vl) left2 done2 ld2) : done2 = outP m ld done := by
  have hd := fun r hr => (E.hd r hr).2
  have ofree : ∀ {p}, p ∈ ((List.range m).filter fun p => !ld.contains (m - 1 - p)) ↔ p < m ∧ (m - 1 - p) ∉ ld := fun {p} => by
    rw [List.mem_filter, List.mem_range]
    simp
  have nl : ∀ {c}, c ∉ ld → ∀ d ∈ zD ld done, d.1 ≠ c := fun {c} h d hd e => h ((lead_mem E.len).mp ⟨d, hd, e⟩)
  have nlL : ∀ {c}, c ∉ ldL → ∀ d ∈ zD ldL doneL, d.1 ≠ c := fun {c} h d hd e => h ((lead_mem F.len).mp ⟨d, hd, e⟩)
  have vo : ∀ {p k}, k < m → vl (kerF m ld done (m - 1 - p)).reverse k = zv (zD ld done) (m - 1 - p) (m - 1 - k) := fun {p k} hk => by
    rw [vl_rev (ker_len _ _ _ _) hk, vl_ker (by omega)]
  have lenO : ((List.range m).filter fun p => !ld.contains (m - 1 - p)).length = (outP m ld done).length := by
    unfold outP
    rw [List.length_map]
  have zO : zD ((List.range m).filter fun p => !ld.contains (m - 1 - p)) (outP m ld done) = ((List.range m).filter fun p => !ld.contains (m - 1 - p)).map fun p => (p, vl (kerF m ld done (m - 1 - p)).reverse) := by
    unfold zD outP
    generalize ((List.range m).filter fun p => !ld.contains (m - 1 - p)) = l
    induction l with
    | nil => rfl
    | cons a l ih =>
      rw [List.map_cons, List.zip_cons_cons, List.map_cons, ih]
      rfl
  have EO : Ech m (zD ((List.range m).filter fun p => !ld.contains (m - 1 - p)) (outP m ld done)) := by
    rw [zO]
    refine ⟨?_, fun d hd => ?_, fun d hd => ?_, fun d hd e he n => ?_, fun d hd k hk => ?_⟩
    · rw [List.pairwise_map]
      exact List.Pairwise.filter _ List.pairwise_lt_range
    · obtain ⟨p, hp, rfl⟩ := List.mem_map.mp hd
      exact (ofree.mp hp).1
    · obtain ⟨p, hp, rfl⟩ := List.mem_map.mp hd
      show vl _ p = 1
      rw [vo (ofree.mp hp).1, zv_self]
    · obtain ⟨p, hp, rfl⟩ := List.mem_map.mp hd
      obtain ⟨q, hq, rfl⟩ := List.mem_map.mp he
      have a := ofree.mp hp
      have b := ofree.mp hq
      show vl _ p = 0
      have n : p ≠ q := n
      rw [vo a.1, zv_free (by omega) (nl a.2)]
    · obtain ⟨p, hp, rfl⟩ := List.mem_map.mp hd
      have a := ofree.mp hp
      have hk : k < p := hk
      show vl _ k = 0
      rw [vo (by omega)]
      rcases lead_or (zD ld done) (m - 1 - k) with ⟨d, hd, e⟩ | n
      · rw [← e, zv_lead E.els.ech.asc hd (by omega), E.els.ech.low d hd _ (by omega)]
        grind
      · exact zv_free (by omega) n
  refine (rows_uniq G.len lenO G.hd (fun r hr => ?_) G.els.ech EO fun u => ?_).2
  · obtain ⟨p, hp, rfl⟩ := List.mem_map.mp hr
    refine ⟨by rw [List.length_reverse, ker_len], fun x hx => lo_ker hd _ x (List.mem_reverse.mp hx)⟩
  · rw [← G.fin]
    have a : (∀ r ∈ ((freeP m ldL).map (kerF m ldL doneL)).map vl, dt m r u = 0) ↔ ∀ w, (∀ r ∈ C', dt m r w = 0) → dt m u w = 0 := by
      constructor
      · intro h w hw
        refine nul_made F.els.ech (fun c hc hf => ?_) ((F.fin w).mp hw)
        have hm : c ∈ freeP m ldL := mem_free.mpr ⟨hc, fun z => by
          obtain ⟨d, hd, e⟩ := (lead_mem F.len).mpr z
          exact hf d hd e⟩
        rw [dt_comm, dt_congr (u' := vl (kerF m ldL doneL c)) fun k hk => (vl_ker hk).symm]
        exact h _ (List.mem_map.mpr ⟨_, List.mem_map.mpr ⟨c, hm, rfl⟩, rfl⟩)
      · intro h r hr
        obtain ⟨r', hr', rfl⟩ := List.mem_map.mp hr
        obtain ⟨c, hc, rfl⟩ := List.mem_map.mp hr'
        have hc := mem_free.mp hc
        have z := h (zv (zD ldL doneL) c) ((F.fin _).mpr (zv_nul F.els.ech hc.1 (nlL hc.2)))
        rw [dt_comm] at z
        rw [dt_congr fun k hk => vl_ker hk]
        exact z
    have rr : ∀ w : Vc, ∀ k, k < m → rv m (rv m w) k = w k := fun w k hk => by
      unfold rv
      rw [show m - 1 - (m - 1 - k) = k by omega]
    have eC : ∀ w, (∀ r ∈ C.map (rv m), dt m r w = 0) ↔ ∀ r ∈ C, dt m r (rv m w) = 0 := fun w => by
      constructor
      · intro h r hr
        rw [← dt_rev]
        exact h _ (List.mem_map.mpr ⟨r, hr, rfl⟩)
      · intro h r hr
        obtain ⟨r', hr', rfl⟩ := List.mem_map.mp hr
        rw [dt_rev]
        exact h r' hr'
    have b : Nul m (zD ((List.range m).filter fun p => !ld.contains (m - 1 - p)) (outP m ld done)) u ↔ ∀ w, (∀ r ∈ C, dt m r w = 0) → dt m u w = 0 := by
      rw [zO]
      constructor
      · intro h w hw
        have z := nul_made (u := rv m u) E.els.ech (fun c hc hf => ?_) (w := rv m w) ((E.fin _).mp ((eC _).mpr fun r hr => by
          rw [dt_comm, dt_congr (u' := w) (rr w), dt_comm]
          exact hw r hr))
        · rw [dt_rev, dt_comm, dt_congr (rr w), dt_comm] at z
          exact z
        · have hm : (m - 1 - c) ∈ ((List.range m).filter fun p => !ld.contains (m - 1 - p)) := ofree.mpr ⟨by omega, fun z => by
            obtain ⟨d, hd, e⟩ := (lead_mem E.len).mpr z
            exact hf d hd (by omega)⟩
          have z := h _ (List.mem_map.mpr ⟨_, hm, rfl⟩)
          have ec : m - 1 - (m - 1 - c) = c := by omega
          rw [dt_rev, dt_comm, dt_congr (u' := vl (kerF m ld done (m - 1 - (m - 1 - c))).reverse) fun k hk => ?_]
          · exact z
          · rw [vo hk, ec]
            rfl
      · intro h d hd
        obtain ⟨p, hp, rfl⟩ := List.mem_map.mp hd
        have hp := ofree.mp hp
        have z := h (rv m (zv (zD ld done) (m - 1 - p))) fun r hr => (eC _).mp ((E.fin _).mpr (zv_nul E.els.ech (by omega) (nl hp.2))) r hr
        show dt m (vl _) u = 0
        rw [dt_congr (u' := rv m (zv (zD ld done) (m - 1 - p))) fun k hk => vo hk, dt_comm]
        exact z
    rw [a, b]
    exact ⟨fun h w hw => h w ((hC w).mp hw), fun h w hw => h w ((hC w).mpr hw)⟩
end FR

set_option Elab.async false
set_option linter.all false
set_option maxHeartbeats 1000000
/-! ### rows of conditions: what pipes put into them; what is kept -/
namespace KP
open FR
/-- a row with what a pipe sends put into it -/
def putF (r : List Fr) (p : Pp) (x : Fr) : List Fr := match p.e with
  | none => r.set p.s (lesF (r.getD p.s (0, 1)) x)
  | some k => (r.set p.s (lesF (r.getD p.s (0, 1)) x)).set k (addF ((r.set p.s (lesF (r.getD p.s (0, 1)) x)).getD k (0, 1)) x)
abbrev Ky := Nat × Option Nat
def unP : Nat ⊕ Fr → Option Nat
  | .inl j => some j
  | .inr _ => none
def keyP (p : Pp) : Ky := (p.s, unP p.sh)
def wtS : Nat ⊕ Fr → Fr
  | .inl _ => (1, 1)
  | .inr x => x
def wtP (p : Pp) : Fr := wtS p.sh
def condS (k : Ky) (r : List Fr) (p : Pp) : List Fr := if keyP p = k then putF r p (wtP p) else r
def condI (n : NetM) (k : Ky) (i : Nat) : List Fr := (n.ps.take i).foldl (condS k) (List.replicate n.m (0, 1))
def condF (n : NetM) (k : Ky) : List Fr := n.ps.foldl (condS k) (List.replicate n.m (0, 1))
theorem condI_zero (n : NetM) (k : Ky) : condI n k 0 = List.replicate n.m (0, 1) := rfl
theorem condI_all (n : NetM) (k : Ky) : condI n k n.ps.length = condF n k := by unfold condI; rw [List.take_length]; rfl
theorem condI_succ {n : NetM} {k : Ky} {i : Nat} {p : Pp} (h : n.ps[i]? = some p) : condI n k (i + 1) = condS k (condI n k i) p := by
  unfold condI
  rw [List.take_add_one, h, List.foldl_append]
  rfl
theorem put_len (r : List Fr) (p : Pp) (x : Fr) : (putF r p x).length = r.length := by
  unfold putF
  split <;> simp only [List.length_set]
theorem condS_len (k : Ky) (r : List Fr) (p : Pp) : (condS k r p).length = r.length := by
  unfold condS
  split
  · exact put_len _ _ _
  · rfl
theorem fold_len (k : Ky) : ∀ (ps : List Pp) (r : List Fr), (ps.foldl (condS k) r).length = r.length
  | [], _ => rfl
  | p :: ps, r => by rw [List.foldl_cons, fold_len k ps, condS_len]
theorem condI_len (n : NetM) (k : Ky) (i : Nat) : (condI n k i).length = n.m := by unfold condI; rw [fold_len, List.length_replicate]
theorem condF_len (n : NetM) (k : Ky) : (condF n k).length = n.m := by rw [← condI_all, condI_len]
theorem lo_set {r : List Fr} {j : Nat} {x : Fr} (l : LoL r) (hx : Lo x) : LoL (r.set j x) := fun y hy => by
  rcases List.mem_or_eq_of_mem_set hy with hy | rfl
  · exact l y hy
  · exact hx
theorem lo_put {r : List Fr} {p : Pp} {x : Fr} (l : LoL r) (hx : Lo x) : LoL (putF r p x) := by
  have a := lo_set (j := p.s) l (lo_les (lo_getD l p.s) hx)
  unfold putF
  split
  · exact a
  · exact lo_set a (lo_add (lo_getD a _) hx)
theorem told1 : Told (1, 1) := ⟨by decide, by decide, by decide, by decide +kernel⟩
theorem wt_told {m u : Nat} {p : Pp} (g : GoodP m u p) : Told (wtP p) := by
  have z := g.sh
  unfold wtP
  cases h : p.sh with
  | inl j => exact told1
  | inr x =>
    rw [h] at z
    exact z
theorem lo_foldC {m u : Nat} (k : Ky) : ∀ (ps : List Pp) (r : List Fr), (∀ p ∈ ps, GoodP m u p) → LoL r → LoL (ps.foldl (condS k) r)
  | [], _, _, l => l
  | p :: ps, r, g, l => by
    rw [List.foldl_cons]
    refine lo_foldC k ps _ (fun q hq => g q (List.mem_cons_of_mem _ hq)) ?_
    unfold condS
    split
    · exact lo_put l (lo_told (wt_told (g p List.mem_cons_self)))
    · exact l
theorem lo_rep (m : Nat) : LoL (List.replicate m (0, 1)) := fun x hx => by
  rw [List.eq_of_mem_replicate hx]
  exact lo0
theorem lo_cond {n : NetM} (g : GoodN n) (k : Ky) : LoL (condF n k) := lo_foldC k _ _ (fun p hp => g.ps p hp) (lo_rep _)
/-! ### how great they are -/
def RBd (i : Nat) (r : List Fr) : Prop := ∃ M, 0 < M ∧ M ≤ 2 ^ (10 * i) ∧ ∀ x ∈ r, Bd M (999 * i) x
theorem rbd0 (m : Nat) : RBd 0 (List.replicate m (0, 1)) := ⟨1, by decide, by decide, fun x hx => by
  rw [List.eq_of_mem_replicate hx]
  exact bd0 (by decide)⟩
theorem RBd.up {i : Nat} {r : List Fr} (h : RBd i r) : RBd (i + 1) r := by
  obtain ⟨M, m0, m1, b⟩ := h
  exact ⟨M, m0, Nat.le_trans m1 (Nat.pow_le_pow_right (by decide) (by omega)), fun x hx => (b x hx).mono (Nat.dvd_refl _) (by omega)⟩
theorem RBd.put {m u i : Nat} {r : List Fr} {p : Pp} {x : Fr} (h : RBd i r) (hm : r.length = m) (g : GoodP m u p) (hx : Told x) : RBd (i + 1) (putF r p x) := by
  obtain ⟨M, m0, m1, b⟩ := h
  obtain ⟨p0, p1⟩ := told_pow hx
  have hd : x.2.natAbs ∣ M * x.2.natAbs := Nat.dvd_mul_left _ _
  have up : ∀ y ∈ r, Bd (M * x.2.natAbs) (999 * (i + 1)) y := fun y hy => (b y hy).mono (Nat.dvd_mul_right _ _) (by omega)
  have tx := (told_bd hx).mono hd (Nat.le_refl 999)
  have ls : Bd (M * x.2.natAbs) (999 * (i + 1)) (lesF (r.getD p.s (0, 1)) x) := by
    have z := ((b _ (getD_mem (by rw [hm]; exact g.s))).mono (Nat.dvd_mul_right _ x.2.natAbs) (Nat.le_refl _)).les tx
    rw [show 999 * (i + 1) = 999 * i + 999 by omega]
    exact z
  refine ⟨M * x.2.natAbs, Nat.mul_pos m0 p0, ?_, fun y hy => ?_⟩
  · rw [show 10 * (i + 1) = 10 * i + 10 by omega, Nat.pow_add]
    exact Nat.mul_le_mul m1 (Nat.le_of_lt p1)
  · unfold putF at hy
    have s1 : ∀ y ∈ r.set p.s (lesF (r.getD p.s (0, 1)) x), Bd (M * x.2.natAbs) (999 * (i + 1)) y := fun y hy => by
      rcases List.mem_or_eq_of_mem_set hy with hy | rfl
      · exact up y hy
      · exact ls
    split at hy
    · exact s1 y hy
    · rename_i k hk
      obtain ⟨k1, k2⟩ := g.e k hk
      rcases List.mem_or_eq_of_mem_set hy with hy | rfl
      · exact s1 y hy
      · have e : (r.set p.s (lesF (r.getD p.s (0, 1)) x)).getD k (0, 1) = r.getD k (0, 1) := by
          rw [List.getD_eq_getElem?_getD, List.getElem?_set_ne (fun z => k2 z.symm), ← List.getD_eq_getElem?_getD]
        rw [e]
        have z := ((b _ (getD_mem (by rw [hm]; exact k1))).mono (Nat.dvd_mul_right _ x.2.natAbs) (Nat.le_refl _)).add tx
        rw [show 999 * (i + 1) = 999 * i + 999 by omega]
        exact z
theorem cond_bd {n : NetM} (g : GoodN n) (k : Ky) : ∀ {i : Nat}, i ≤ n.ps.length → RBd i (condI n k i)
  | 0, _ => rbd0 _
  | i + 1, h => by
    have e := List.getElem?_eq_getElem (show i < n.ps.length by omega)
    have ih := cond_bd g k (i := i) (by omega)
    rw [condI_succ e]
    unfold condS
    split
    · exact ih.put (condI_len _ _ _) (g.ps _ (List.getElem_mem _)) (wt_told (g.ps _ (List.getElem_mem _)))
    · exact ih.up
theorem RBd.sz {i : Nat} {r : List Fr} (h : RBd i r) (hi : i ≤ 12) {x : Fr} (hx : x ∈ r) : Sz 4000 x := by
  obtain ⟨M, m0, m1, b⟩ := h
  exact ((b x hx).sz m0 (a := 10 * i + 1) (b := 14) (Nat.lt_of_le_of_lt m1 (Nat.pow_lt_pow_right (by decide) (by omega))) (Nat.lt_of_le_of_lt (show 999 * i ≤ 11988 by omega) (by decide))).mono (by omega)
theorem rb_of {M N b : Nat} {r : List Fr} (m0 : 0 < M) (hM : M < 2 ^ b) (hN : N * M < 2 ^ b) (h : ∀ x ∈ r, Bd M N x) : Rb b r := by
  refine ⟨(M : Int), fun k => (r.getD k (0, 1)).1 * ((M : Int) / (r.getD k (0, 1)).2), by omega, by rw [Int.natAbs_natCast]; exact hM, fun k => ?_, fun k => ?_⟩
  · have bk : Bd M N (r.getD k (0, 1)) := by
      by_cases hk : k < r.length
      · exact h _ (getD_mem hk)
      · rw [getD_out _ hk]
        exact bd0 m0
    obtain ⟨q, hq⟩ := bk.dvd
    have p := bk.pos
    have le := bk.le
    show ((r.getD k (0, 1)).1 * ((M : Int) / (r.getD k (0, 1)).2)).natAbs < _
    generalize r.getD k (0, 1) = x at p hq le
    have e : (M : Int) / x.2 = q := by rw [hq, Int.mul_ediv_cancel_left _ (by omega)]
    rw [e, Int.natAbs_mul]
    have e2 : M = x.2.natAbs * q.natAbs := by rw [← Int.natAbs_mul, ← hq, Int.natAbs_natCast]
    refine Nat.lt_of_le_of_lt ?_ hN
    rw [e2, ← Nat.mul_assoc]
    exact Nat.mul_le_mul_right _ le
  · have bk : Bd M N (r.getD k (0, 1)) := by
      by_cases hk : k < r.length
      · exact h _ (getD_mem hk)
      · rw [getD_out _ hk]
        exact bd0 m0
    obtain ⟨q, hq⟩ := bk.dvd
    have p := bk.pos
    show val (r.getD k (0, 1)) = (((r.getD k (0, 1)).1 * ((M : Int) / (r.getD k (0, 1)).2) : Int) : Rat) / ((M : Int) : Rat)
    generalize r.getD k (0, 1) = x at p hq
    have e : (M : Int) / x.2 = q := by rw [hq, Int.mul_ediv_cancel_left _ (by omega)]
    rw [e]
    have n2 := ne0 p
    have nM : ((M : Int) : Rat) ≠ 0 := ne0 (by omega)
    rw [hq] at nM ⊢
    unfold val
    rw [Rat.intCast_mul, Rat.intCast_mul]
    rw [Rat.intCast_mul] at nM
    grind
theorem cond_rb {n : NetM} (g : GoodN n) (k : Ky) : Rb 134 (condF n k) := by
  have l12 := g.len
  rw [← condI_all]
  obtain ⟨M, m0, m1, b⟩ := cond_bd g k (i := n.ps.length) (Nat.le_refl _)
  have h1 : M ≤ 2 ^ 120 := Nat.le_trans m1 (Nat.pow_le_pow_right (by decide) (by omega))
  refine rb_of m0 (Nat.lt_of_le_of_lt h1 (by decide)) (Nat.lt_of_le_of_lt (Nat.mul_le_mul (show 999 * n.ps.length ≤ 11988 by omega) h1) (by decide)) b
/-! ### their products with a row -/
def gP (p : Pp) (w : Vc) : Rat := (match p.e with | none => 0 | some k => w k) - w p.s
theorem dt_set {m j : Nat} {r : List Fr} {y : Fr} (w : Vc) (hm : r.length = m) (hj : j < m) : dt m (vl (r.set j y)) w = dt m (vl r) w + (val y - vl r j) * w j := by
  have e : dt m (vl (r.set j y)) w = sm m fun i => vl r i * w i + (val y - vl r j) * w j * dlt i j := sm_congr fun i hi => by
    rw [vl_set (by omega)]
    by_cases c : i = j
    · subst c
      rw [if_pos rfl, dlt_self]
      grind
    · rw [if_neg c, dlt_ne c]
      grind
  rw [e, sm_add, sm_dlt (f := fun _ => (val y - vl r j) * w j), if_pos hj]
  rfl
theorem dt_put {m u : Nat} {r : List Fr} {p : Pp} {x : Fr} (w : Vc) (hm : r.length = m) (l : LoL r) (g : GoodP m u p) (hx : Lo x) : dt m (vl (putF r p x)) w = dt m (vl r) w + val x * gP p w := by
  have l1 := lo_les (lo_getD l p.s) hx
  have a := dt_set (y := lesF (r.getD p.s (0, 1)) x) w hm g.s
  have la := lo_set (j := p.s) l l1
  have v1 : val (lesF (r.getD p.s (0, 1)) x) = vl r p.s - val x := val_les (lo_getD l p.s).pos hx.pos
  rw [v1] at a
  unfold putF gP
  cases h : p.e with
  | none =>
    show dt m (vl (r.set p.s (lesF (r.getD p.s (0, 1)) x))) w = _
    rw [a]
    grind
  | some k =>
    have hk := g.e k h
    show dt m (vl ((r.set p.s (lesF (r.getD p.s (0, 1)) x)).set k (addF ((r.set p.s (lesF (r.getD p.s (0, 1)) x)).getD k (0, 1)) x))) w = _
    have ml : (r.set p.s (lesF (r.getD p.s (0, 1)) x)).length = m := by rw [List.length_set]; exact hm
    generalize r.set p.s (lesF (r.getD p.s (0, 1)) x) = r1 at a la ml ⊢
    have v2 : val (addF (r1.getD k (0, 1)) x) = vl r1 k + val x := val_add (lo_getD la k).pos hx.pos
    rw [dt_set w ml hk.1, v2, a]
    show _ = dt m (vl r) w + val x * (w k - w p.s)
    grind
def sumK (k : Ky) (w : Vc) : List Pp → Rat
  | [] => 0
  | p :: ps => (if keyP p = k then val (wtP p) * gP p w else 0) + sumK k w ps
theorem dt_fold {m u : Nat} (k : Ky) (w : Vc) : ∀ (ps : List Pp) (r : List Fr), (∀ p ∈ ps, GoodP m u p) → r.length = m → LoL r → dt m (vl (ps.foldl (condS k) r)) w = dt m (vl r) w + sumK k w ps
  | [], r, _, _, _ => by
    show _ = _ + (0 : Rat)
    rw [Rat.add_zero]
    rfl
  | p :: ps, r, g, hm, l => by
    have gp := g p List.mem_cons_self
    have lw := lo_told (wt_told gp)
    have l' : LoL (condS k r p) := by
      unfold condS
      split
      · exact lo_put l lw
      · exact l
    rw [List.foldl_cons, dt_fold k w ps _ (fun q hq => g q (List.mem_cons_of_mem _ hq)) (by rw [condS_len]; exact hm) l']
    show _ = dt m (vl r) w + ((if keyP p = k then val (wtP p) * gP p w else 0) + sumK k w ps)
    unfold condS
    split
    · rw [dt_put w hm l gp lw]
      grind
    · grind
theorem vl_rep (m k : Nat) : vl (List.replicate m ((0, 1) : Fr)) k = 0 := by
  unfold vl
  rw [List.getD_eq_getElem?_getD, List.getElem?_replicate]
  split <;> exact val0
theorem dt_cond {n : NetM} (g : GoodN n) (k : Ky) (w : Vc) : dt n.m (vl (condF n k)) w = sumK k w n.ps := by
  unfold condF
  rw [dt_fold k w n.ps _ (fun p hp => g.ps p hp) List.length_replicate (lo_rep _), dt_zero w fun i _ => vl_rep _ i]
  grind
/-! ### the table's products -/
def sumT (c : Nat) (w : Vc) (as : List Fr) : List Pp → Rat
  | [] => 0
  | p :: ps => (if p.s = c then val (partF as p.sh) * gP p w else 0) + sumT c w as ps
def ct (m : Nat) (w : Vc) (t : Tab) (c : Nat) : Rat := sm m fun l => w l * At t l c
theorem At_st {m : Nat} {t : Tab} (sq : Sq m t) {i k : Nat} (hi : i < m) (hk : k < m) (x : Fr) (l c : Nat) : At (st t i k x) l c = if l = i ∧ c = k then val x else At t l c := by
  have e : (st t i k x).getD l [] = if i = l then (t.getD i []).set k x else t.getD l [] := by
    unfold st
    rw [List.getD_eq_getElem?_getD, List.getElem?_set]
    by_cases z : i = l
    · subst z
      rw [if_pos rfl, if_pos (by rw [sq.len]; exact hi), if_pos rfl]
      rfl
    · rw [if_neg z, if_neg z, List.getD_eq_getElem?_getD]
  have e2 : At (st t i k x) l c = vl ((st t i k x).getD l []) c := rfl
  have e3 : At t l c = vl (t.getD l []) c := rfl
  rw [e2, e3, e]
  by_cases z : i = l
  · subst z
    rw [if_pos rfl, vl_set (by rw [sq.row i hi]; exact hk)]
    by_cases z2 : c = k
    · rw [if_pos z2, if_pos ⟨rfl, z2⟩]
    · rw [if_neg z2, if_neg fun q => z2 q.2]
  · rw [if_neg z, if_neg fun q => z q.1.symm]
theorem ct_st {m : Nat} {t : Tab} (sq : Sq m t) {i k : Nat} (hi : i < m) (hk : k < m) (x : Fr) (w : Vc) (c : Nat) : ct m w (st t i k x) c = ct m w t c + if c = k then w i * (val x - At t i k) else 0 := by
  by_cases z : c = k
  · subst z
    rw [if_pos rfl]
    have e : ct m w (st t i c x) c = sm m fun l => w l * At t l c + w i * (val x - At t i c) * dlt l i := sm_congr fun l hl => by
      rw [At_st sq hi hk]
      by_cases q : l = i
      · subst q
        rw [if_pos ⟨rfl, rfl⟩, dlt_self]
        grind
      · rw [if_neg fun y => q y.1, dlt_ne q]
        grind
    rw [e, sm_add, sm_dlt (f := fun _ => w i * (val x - At t i c)), if_pos hi]
    rfl
  · rw [if_neg z, Rat.add_zero]
    exact sm_congr fun l hl => by rw [At_st sq hi hk, if_neg fun y => z y.2]
theorem ct_step {m u : Nat} {t : Tab} {as : List Fr} {p : Pp} (sq : Sq m t) (l : LoT t) (g : GoodP m u p) (hx : Lo (partF as p.sh)) (w : Vc) (c : Nat) : ct m w (stepF as t p) c = ct m w t c + if p.s = c then val (partF as p.sh) * gP p w else 0 := by
  have z := sq.st p.s p.s (lesF (gt t p.s p.s) (partF as p.sh))
  have l1 : LoT (step1 t p.s (partF as p.sh)) := lo_st l (lo_les (lo_gt l _ _) hx)
  have v1 : val (lesF (gt t p.s p.s) (partF as p.sh)) = At t p.s p.s - val (partF as p.sh) := val_les (lo_gt l _ _).pos hx.pos
  have a := ct_st sq g.s g.s (lesF (gt t p.s p.s) (partF as p.sh)) w c
  rw [v1] at a
  unfold stepF gP
  cases h : p.e with
  | none =>
    show ct m w (st t p.s p.s (lesF (gt t p.s p.s) (partF as p.sh))) c = _
    rw [a]
    by_cases q : p.s = c
    · rw [if_pos q, if_pos q.symm]
      grind
    · rw [if_neg q, if_neg fun y => q y.symm]
  | some k =>
    have hk := g.e k h
    show ct m w (st (step1 t p.s (partF as p.sh)) k p.s (addF (gt (step1 t p.s (partF as p.sh)) k p.s) (partF as p.sh))) c = _
    have v2 : val (addF (gt (step1 t p.s (partF as p.sh)) k p.s) (partF as p.sh)) = At (step1 t p.s (partF as p.sh)) k p.s + val (partF as p.sh) := val_add (lo_gt l1 _ _).pos hx.pos
    have b := ct_st (t := step1 t p.s (partF as p.sh)) z hk.1 g.s (addF (gt (step1 t p.s (partF as p.sh)) k p.s) (partF as p.sh)) w c
    rw [v2] at b
    have a : ct m w (step1 t p.s (partF as p.sh)) c = _ := a
    rw [b, a]
    show _ = ct m w t c + if p.s = c then val (partF as p.sh) * (w k - w p.s) else 0
    by_cases q : p.s = c
    · rw [if_pos q, if_pos q.symm, if_pos q.symm]
      grind
    · rw [if_neg q, if_neg fun y => q y.symm, if_neg fun y => q y.symm]
      grind
theorem ct_fold {m u : Nat} {as : List Fr} (w : Vc) (c : Nat) : ∀ (ps : List Pp) (t : Tab), Sq m t → LoT t → (∀ p ∈ ps, GoodP m u p ∧ Lo (partF as p.sh)) → ct m w (ps.foldl (stepF as) t) c = ct m w t c + sumT c w as ps
  | [], t, _, _, _ => by
    show ct m w t c = ct m w t c + 0
    grind
  | p :: ps, t, sq, l, g => by
    obtain ⟨gp, hx⟩ := g p List.mem_cons_self
    rw [List.foldl_cons, ct_fold w c ps _ (sq.step as p) (lo_step l hx) fun q hq => g q (List.mem_cons_of_mem _ hq), ct_step sq l gp hx]
    show _ = ct m w t c + ((if p.s = c then val (partF as p.sh) * gP p w else 0) + sumT c w as ps)
    grind
theorem At_tab0 {m l c : Nat} (hl : l < m) (hc : c < m) : At (tab0 m) l c = dlt l c := by
  have e : (tab0 m).getD l [] = row0 m l := by
    unfold tab0
    rw [List.getD_eq_getElem?_getD, List.getElem?_map, List.getElem?_range hl]
    rfl
  show vl ((tab0 m).getD l []) c = _
  rw [e, vl_row0 hc, dlt_comm]
theorem ct_tab {n : NetM} {as : List Fr} (g : GoodN n) (hp : ∀ p ∈ n.ps, Lo (partF as p.sh)) (w : Vc) {c : Nat} (hc : c < n.m) : ct n.m w (tabF n as) c = w c + sumT c w as n.ps := by
  unfold tabF
  rw [ct_fold w c n.ps _ (sq0 _) (lo_tab0 _) fun p h => ⟨g.ps p h, hp p h⟩]
  have e : ct n.m w (tab0 n.m) c = w c := by
    unfold ct
    rw [sm_congr (g := fun l => w l * dlt l c) fun l hl => by rw [At_tab0 hl hc], sm_dlt, if_pos hc]
  rw [e]
/-- what a table adds is what the conditions are -/
theorem sum_split {U : Nat} {as : List Fr} (w : Vc) (c : Nat) : ∀ (ps : List Pp), (∀ p ∈ ps, GoodS U p.sh) → sumT c w as ps = sumK (c, none) w ps + sm U fun j => val (as.getD j (0, 1)) * sumK (c, some j) w ps
  | [], _ => by
    show (0 : Rat) = 0 + sm U fun j => val (as.getD j (0, 1)) * 0
    rw [sm_congr (g := fun _ => 0) fun j _ => by grind, sm_zero]
    grind
  | p :: ps, g => by
    have ih := sum_split (U := U) (as := as) w c ps fun q hq => g q (List.mem_cons_of_mem _ hq)
    have gp := g p List.mem_cons_self
    show (if p.s = c then val (partF as p.sh) * gP p w else 0) + sumT c w as ps = ((if keyP p = (c, none) then val (wtP p) * gP p w else 0) + sumK (c, none) w ps) + sm U fun j => val (as.getD j (0, 1)) * ((if keyP p = (c, some j) then val (wtP p) * gP p w else 0) + sumK (c, some j) w ps)
    rw [ih, sm_congr (g := fun j => val (as.getD j (0, 1)) * (if keyP p = (c, some j) then val (wtP p) * gP p w else 0) + val (as.getD j (0, 1)) * sumK (c, some j) w ps) fun j _ => Rat.mul_add _ _ _, sm_add]
    have key : (if p.s = c then val (partF as p.sh) * gP p w else 0) = (if keyP p = (c, none) then val (wtP p) * gP p w else 0) + sm U fun j => val (as.getD j (0, 1)) * (if keyP p = (c, some j) then val (wtP p) * gP p w else 0) := by
      unfold keyP wtP
      cases h : p.sh with
      | inl j0 =>
        rw [h] at gp
        have gp : j0 < U := gp
        rw [if_neg (show ¬ ((p.s, unP (.inl j0)) = (c, (none : Option Nat))) from fun q => by have := (Prod.mk.inj q).2; cases this)]
        rw [sm_congr (g := fun j => (if p.s = c then val (partF as (.inl j0)) * gP p w else 0) * dlt j j0) fun j _ => by
          by_cases q : j = j0
          · subst q
            rw [dlt_self]
            by_cases y : p.s = c
            · rw [if_pos y, if_pos (by rw [y]; rfl)]
              show _ * (val (1, 1) * gP p w) = val (as.getD j (0, 1)) * gP p w * 1
              rw [val1]
              grind
            · rw [if_neg y, if_neg (fun z => y (Prod.mk.inj z).1)]
              grind
          · rw [dlt_ne q, if_neg (fun z => q (by have := (Prod.mk.inj z).2; exact (Option.some.inj this).symm))]
            grind, sm_dlt (f := fun _ => (if p.s = c then val (partF as (.inl j0)) * gP p w else 0)), if_pos gp]
        grind
      | inr x =>
        rw [sm_congr (g := fun _ => 0) fun j _ => by
          rw [if_neg (fun z => by have := (Prod.mk.inj z).2; cases this)]
          grind, sm_zero]
        by_cases y : p.s = c
        · rw [if_pos y, if_pos (by rw [y]; rfl)]
          show val x * gP p w = val x * gP p w + 0
          grind
        · rw [if_neg y, if_neg (fun z => y (Prod.mk.inj z).1)]
          grind
    rw [key]
    grind
/-- what makes all conditions 0 is kept -/
theorem kept_ct {n : NetM} {as : List Fr} (g : GoodN n) (hp : ∀ p ∈ n.ps, Lo (partF as p.sh)) {w : Vc} (h0 : ∀ s, s < n.m → dt n.m (vl (condF n (s, none))) w = 0) (h1 : ∀ s j, s < n.m → j < n.u → dt n.m (vl (condF n (s, some j))) w = 0) {c : Nat} (hc : c < n.m) : ct n.m w (tabF n as) c = w c := by
  rw [ct_tab g hp w hc, sum_split (U := n.u) w c n.ps fun p h => (g.ps p h).sh, ← dt_cond g, h0 c hc, sm_congr (g := fun _ => 0) fun j hj => by
    rw [← dt_cond g, h1 c j hc hj]
    grind, sm_zero]
  grind
end KP

set_option Elab.async false
set_option linter.all false
set_option maxRecDepth 100000
set_option maxHeartbeats 4000000
/-! ### rows as lists of fractions; inverse, _scaled, _cleared -/
namespace KP
open PySem PySem.Spec PyProof.Rows L2 KX KT KJ KS FR
abbrev sInverse : Stmt := top 17
abbrev sScaled : Stmt := top 22
abbrev sCleared : Stmt := top 23
/-- a list of fractions -/
def LstR (K : PySem.W.Frag) (H : Hp) (v : V) (r : List Fr) : Prop := ∃ p xs, v = .ref p ∧ H p = some (.lst xs) ∧ FrL K H xs r
theorem LstR.same {K : PySem.W.Frag} {H H' : Hp} {v : V} {r : List Fr} (h : LstR K H v r) (s : Same H H') : LstR K H' v r := by
  obtain ⟨p, xs, e, q, f⟩ := h
  exact ⟨p, xs, e, s _ _ q, f.tk (Tk.same s)⟩
def spInv (K : PySem.W.Frag) : Sp := fun vs H Q _ => ∃ u x, vs = [u] ∧ FrV K H u x ∧ ∀ r H', Same H H' → FrV K H' r (inF x) → Q r H'
def spScaled (K : PySem.W.Frag) : Sp := fun vs H Q _ => ∃ u v r x, vs = [u, v] ∧ LstR K H u r ∧ FrV K H v x ∧ r.length ≤ 4 ∧ (∀ y ∈ r, Sz 4000 y) ∧ Sz 4000 x ∧ ∀ w H', Same H H' → LstR K H' w (r.map fun y => mulF y x) → Q w H'
/-- rows fit to be cleared: how great their numbers are -/
structure ClrOk (r l : List Fr) (c : Nat) : Prop where
  len : r.length = l.length
  l4 : r.length ≤ 4
  c4 : c < r.length
  lo : LoL r
  lol : LoL l
  sz : ∀ k, Sz 4000 (r.getD k (0, 1)) ∧ Sz 4000 (l.getD k (0, 1)) ∧ Sz 4000 (mulF (r.getD c (0, 1)) (l.getD k (0, 1)))
def spCleared (K : PySem.W.Frag) : Sp := fun vs H Q _ => ∃ u v r l, ∃ c : Nat, vs = [u, v, .int (c : Nat)] ∧ LstR K H u r ∧ LstR K H v l ∧ ClrOk r l c ∧ ∀ w H', Same H H' → LstR K H' w (clrF r l c) → (∀ D : Addr, H D ≠ none → u ≠ .ref D → w ≠ .ref D) → Q w H'
abbrev nScl : List Str := ["row", "factor", "entry"]
abbrev nClr : List Str := ["row", "leader", "place", "factor", "entry", "taken"]
theorem scInverse : FnScope ["one"] ["one"] (defScope sInverse) := ⟨rfl, rfl, rfl, by decide +kernel, rfl, by decide +kernel, by decide +kernel⟩
theorem scScaled : FnScope nScl ["row", "factor"] (defScope sScaled) := ⟨rfl, rfl, rfl, by decide +kernel, rfl, by decide +kernel, by decide +kernel⟩
theorem scCleared : FnScope nClr ["row", "leader", "place"] (defScope sCleared) := ⟨rfl, rfl, rfl, by decide +kernel, rfl, by decide +kernel, by decide +kernel⟩
theorem flat_fr (x : Fr) : Flat (fD x) := by simp [Flat, fD, PyData.canLay0, PyData.canLayAll0, PyData.depth, PyData.depthAll, PyData.hasDict, PyData.hasDictAll]
theorem shaped_fr (x : Fr) : SeqAt.shaped (fD x) = true := shaped_of (flat_fr x).1 (by have := (flat_fr x).2.1; omega)
theorem eqv_fr (x y : Fr) : PyData.eqv (fD x) (fD y) = decide (x = y) := by
  obtain ⟨a, b⟩ := x
  obtain ⟨c, d⟩ := y
  by_cases h : (a, b) = (c, d)
  · cases h
    simp [fD, PyData.eqv, PyData.eqvAll]
  · rw [decide_eq_false h]
    by_cases h1 : a = c
    · have h2 : b ≠ d := fun z => h (by rw [h1, z])
      simp [fD, PyData.eqv, PyData.eqvAll, h1, h2]
    · simp [fD, PyData.eqv, PyData.eqvAll, h1]
theorem clr_zero {r l : List Fr} {c : Nat} (h : r.length = l.length) (lo : LoL r) (lol : LoL l) (z : r.getD c (0, 1) = (0, 1)) : clrF r l c = r := by
  refine List.ext_getElem (clr_len h c) fun k h1 h2 => ?_
  have e := clr_at (p := c) h h2
  rw [getD_in _ h1, z, mul_zero' (lo_getD lol k), getD_in _ h2] at e
  rw [e]
  have lk := lo r[k] (List.getElem_mem h2)
  refine val_inj (lo_les lk lo0) lk ?_
  rw [val_les lk.pos (by decide), val0]
  grind
section
variable {P : Program} {w : World} {K : PySem.W.Frag} {mg : Str → Option Value} {base : Heap}
theorem ok_inverse {f : Addr} {fd : FuncData} (F : Fun K "inverse" "inverse" sInverse f fd) : FnOk P w K mg base CX0 1 f fd ["one"] (spInv K) := by
  refine F.ok scInverse (fun vs H Q E h => ?_) (fun cdv A outer s H vs Q E hr h => ?_)
  · obtain ⟨u, x, rfl, _⟩ := h
    rfl
  · obtain ⟨u, x, rfl, hx, k⟩ := h
    refine ⟨_, pss_cons (ps_if (pt_cmpR op_lt (pe_ix ix_tup (pv 0) pe_int (fun _ _ => rfl)) pe_int (nomark _)) (pss_one (ps_ret (pe_tup (pa_cons (pe_un un_neg (pe_ix ix_tup (pv 0) pe_int (fun _ _ => rfl))) (pa_cons (pe_un un_neg (pe_ix ix_tup (pv 0) pe_int (fun _ _ => rfl))) pa_nil))))) pss_nil)
      (pss_one (ps_ret (pe_tup (pa_cons (pe_ix ix_tup (pv 0) pe_int (fun _ _ => rfl)) (pa_cons (pe_ix ix_tup (pv 0) pe_int (fun _ _ => rfl)) pa_nil))))), ?_⟩
    refine i_when (D := { nx := _, rt := Q }) (b := decide (x.1 < 0)) (ti_test (vi_op (vi_ix0 rfl hx) vi_c fun Q q => ⟨_, _, rfl, rfl, q⟩)) (fun c => ?_) (fun c => ?_)
    · have e : inF x = (-x.2, -x.1) := by unfold inF; rw [if_pos (of_decide_eq_true c)]
      refine ret_tup2 (D := { nx := _, rt := Q }) (fun Q q => vi_ix1 (i := 0) rfl hx _ ⟨_, rfl, q⟩) (fun Q q => vi_ix0 (i := 0) rfl hx _ ⟨_, rfl, q⟩) fun p hp => k _ _ (same_upd hp) ?_
      rw [e]
      exact FrV.new (x := (-x.2, -x.1))
    · have e : inF x = (x.2, x.1) := by unfold inF; rw [if_neg (of_decide_eq_false c)]
      refine ret_tup2 (D := { nx := _, rt := Q }) (vi_ix1 rfl hx) (vi_ix0 rfl hx) fun p hp => k _ _ (same_upd hp) ?_
      rw [e]
      exact FrV.new (x := (x.2, x.1))
theorem ok_scaled {f fM : Addr} {fd fdM : FuncData} (F : Fun K "_scaled" "_scaled" sScaled f fd)
    (FM : FnOk P w K mg base CX0 2 fM fdM ["one", "two"] (spBin K mulF)) (mM : mg "multiplied" = some (.ref fM)) (kM : PySem.W.keepIn K (.ref fM) = true) (bM : Binds K fdM ["one", "two"] []) :
    FnOk P w K mg base CX0 3 f fd ["row", "factor"] (spScaled K) := by
  refine F.ok scScaled (fun vs H Q E h => ?_) (fun cdv A outer s H vs Q E hr h => ?_)
  · obtain ⟨u, v, r, x, rfl, _⟩ := h
    rfl
  · obtain ⟨u, v, r, x, rfl, hu, hv, l4, zr, zx, k⟩ := h
    refine ⟨_, pss_one (ps_ret (pe_lc (own := [("entry", 2)]) (g := gName 2) rfl scScaled.nd (pi_list (pv 0)) (blkOk_by (N := nScl) (sc := defScope sScaled) (by decide +kernel))
        (fun _ _ _ _ _ => pg_name (i := 2) scScaled.nd rfl (Or.inl rfl)) (fun _ _ _ _ _ => pts_nil) (fun _ _ _ _ _ => pe_call FM hr (by rfl) mM kM bM .nil pass0 (pa_cons (pv 2) (pa_cons (pv 1) pa_nil))))), ?_⟩
    obtain ⟨a, us, rfl, ea, ru⟩ := hu
    have lu := ru.len
    refine ⟨_, rfl, a, rfl, ⟨us, SqL.of ea⟩, fun D hD => ?_⟩
    refine lc_map (walk_list (K := K) (a := a) (xs := us)) (fun H' xs i => FrL K H' xs ((r.map fun y => mulF y x).take i) ∧ i ≤ r.length) hD (by omega) (fun _ _ i q => by rw [q.1.len, List.length_take, List.length_map]; have := q.2; omega) ⟨by rw [List.take_zero]; exact FrL.nil, Nat.zero_le _⟩
      (fun H' s => SqL.of (s _ _ ea)) (fun _ => rfl) ?_ ?_
    · rintro i z _ H' xs hi s e hl ⟨q, hle⟩ ⟨rfl, hz⟩
      have ht : i < r.length := by omega
      have et := List.getElem?_eq_getElem ht
      have rz := (ru.get i z _ hz et).tk (Tk.same s)
      refine ⟨_, rfl, _, rfl, _, _, _, _, rfl, rz, hv.tk (Tk.same s), zr _ (List.getElem_mem ht), zx, fun y H3 s3 fy => ?_⟩
      have e3 := s3 _ _ e
      refine aft hD (s.trans s3) e3 hl ⟨?_, ht⟩
      have tk := Tk.put (ys := xs ++ [y]) e3
      rw [List.take_add_one, List.getElem?_map, et]
      exact (q.tk ((Tk.same s3).trans tk)).snoc (fy.tk tk)
    · rintro H' xs s e ⟨q, _⟩
      rw [lu, List.take_of_length_le (by rw [List.length_map]; omega)] at q
      exact k _ _ s ⟨D, xs, rfl, e, q⟩
theorem ok_cleared {f fM fL aU aN : Addr} {fd fdM fdL : FuncData} (F : Fun K "_cleared" "_cleared" sCleared f fd) (mZ : mg "zip" = none) (C : Cst K mg aU aN)
    (FM : FnOk P w K mg base CX0 2 fM fdM ["one", "two"] (spBin K mulF)) (mM : mg "multiplied" = some (.ref fM)) (kM : PySem.W.keepIn K (.ref fM) = true) (bM : Binds K fdM ["one", "two"] [])
    (FL : FnOk P w K mg base CX0 3 fL fdL ["one", "two"] (spBin K lesF)) (mL : mg "lessened" = some (.ref fL)) (kL : PySem.W.keepIn K (.ref fL) = true) (bL : Binds K fdL ["one", "two"] []) :
    FnOk P w K mg base CX0 4 f fd ["row", "leader", "place"] (spCleared K) := by
  refine F.ok scCleared (fun vs H Q E h => ?_) (fun cdv A outer s H vs Q E hr h => ?_)
  · obtain ⟨u, v, r, l, c, rfl, _⟩ := h
    rfl
  · obtain ⟨u, v, r, l, c, rfl, hu, hv, ok, k⟩ := h
    have hr2 : Room 2 _ := hr.mono (by decide)
    have hu' : (A.deeper (envOfC "_cleared" (defScope sCleared) s.heap.objs.size f cdv)).units + 64 < cLine := by have := hr.un; omega
    refine ⟨_, pss_cons (ps_set (i := 3) scCleared.nd rfl (Or.inr rfl) (pe_ix ix_list (pv 0) (pv 2) (fun _ _ => rfl)))
      (pss_cons (ps_if (pt_cmpR (op_eqD hu') (pv 3) (pe_glob (v := .ref aN) (by rfl) C.mN rfl) (by rfl)) (pss_one (ps_ret (pv 0))) pss_nil)
      (pss_one (ps_ret (pe_lc (own := [("entry", 4), ("taken", 5)]) (g := gTup K 2 (gCons (gName 4) (gCons (gName 5) gNil))) rfl scCleared.nd (RZ.pi_zipA (by rfl) mZ (pa_cons (pv 0) (pa_cons (pv 1) pa_nil))) (blkOk_by (N := nClr) (sc := defScope sCleared) (by decide +kernel))
        (fun _ _ _ _ _ => by exact pg_tup rfl (pgs_cons (pg_name (i := 4) scCleared.nd rfl (Or.inl rfl)) (pgs_cons (pg_name (i := 5) scCleared.nd rfl (Or.inl rfl)) pgs_nil))) (fun _ _ _ _ _ => pts_nil)
        (fun _ _ _ _ _ => pe_call FL hr (by rfl) mL kL bL .nil pass0 (pa_cons (pv 4) (pa_cons (pe_call FM hr2 (by rfl) mM kM bM .nil pass0 (pa_cons (pv 3) (pa_cons (pv 5) pa_nil))) pa_nil))))))), ?_⟩
    obtain ⟨a, us, rfl, ea, ru⟩ := hu
    obtain ⟨b, ws, rfl, eb, rw'⟩ := hv
    have lu := ru.len
    have lw := rw'.len
    have len := ok.len
    have l4 := ok.l4
    obtain ⟨x, ex, fx⟩ := frl_at ru (j := c) ok.c4
    refine ⟨_, rfl, _, rfl, a, us, _, x, rfl, rfl, SqL.of ea, atI_nat ex, ?_⟩
    refine ⟨_, rfl, fD (r.getD c (0, 1)), fD (0, 1), dp_fr fx, .tup (C.cN H) (.cons (.int _) (.cons (.int _) .nil)), shaped_fr _, shaped_fr _, ?_⟩
    rw [eqv_fr]
    refine ⟨_, rfl, iteB (fun z => ?_) (fun z => ?_)⟩
    · refine ⟨_, rfl, k _ _ (Same.refl H) ?_ fun D _ n => n⟩
      rw [clr_zero len ok.lo ok.lol (of_decide_eq_true z)]
      exact ⟨a, us, rfl, ea, ru⟩
    · refine ⟨_, rfl, _, rfl, a, b, us, ws, rfl, .inl ⟨SqL.of ea, SqL.of eb, fun D hD => ?_⟩⟩
      refine lc_it (walk_zip (K := K) (a := a) (b := b) (xs := us) (ys := ws) (n := r.length) (by omega)) (fun n H' => Same H H' ∧ ∃ xs, H' D = some (.lst xs) ∧ FrL K H' xs ((clrF r l c).take n) ∧ n ≤ r.length) ⟨same_upd hD, [], upd_same, by rw [List.take_zero]; exact FrL.nil, Nat.zero_le _⟩
        (fun n H' _ z => ⟨SqL.of (z.1 _ _ ea), SqL.of (z.1 _ _ eb)⟩) ?_ ?_
      · rintro i v H' H'' hi ⟨s1, xs, eD, q, hle⟩ ⟨U, x1, y1, rfl, hU, rfl, hx1, hy1⟩
        have sU := same_upd (o := .tup [x1, y1]) hU
        have s2 : Same H _ := s1.trans sU
        have e1 := List.getElem?_eq_getElem (show i < r.length by omega)
        have e2 := List.getElem?_eq_getElem (show i < l.length by omega)
        have f1 := (ru.get i _ _ hx1 e1).tk (Tk.same s2)
        have f2 := (rw'.get i _ _ hy1 e2).tk (Tk.same s2)
        obtain ⟨z1, z2, z3⟩ := ok.sz i
        obtain ⟨zc, _, _⟩ := ok.sz c
        have g1 : r.getD i (0, 1) = r[i] := getD_in _ (by omega)
        have g2 : l.getD i (0, 1) = l[i] := getD_in _ (by omega)
        rw [g1] at z1
        rw [g2] at z2 z3
        refine ⟨U, _, rfl, SqT.of upd_same, rfl, _, _, rfl, _, _, rfl, rfl, rfl, ?_⟩
        dsimp only [tYes]
        rw [if_pos rfl]
        refine ⟨_, rfl, _, rfl, _, rfl, x, y1, _, _, rfl, fx.tk (Tk.same s2), f2, zc, z2, fun wm H3 s3 fm => ?_⟩
        refine ⟨x1, wm, _, _, rfl, f1.tk (Tk.same s3), fm, z1, z3, fun wl H4 s4 fl => ?_⟩
        have s24 := s3.trans s4
        have eD4 := s24 _ _ (sU _ _ eD)
        refine ⟨xs, eD4, ?_, fun b' o eb' => ?_, xs ++ [wl], upd_same, ?_, by omega⟩
        · rw [q.len, List.length_take]
          exact Nat.lt_of_le_of_lt (show min i (clrF r l c).length ≤ 4 by omega) (by decide)
        · have nb : b' ≠ D := fun z => by rw [z, hD] at eb'; cases eb'
          rw [upd_ne nb]
          exact s24 _ _ (s2 _ _ eb')
        · have tk := Tk.put (ys := xs ++ [wl]) eD4
          have ec : (clrF r l c)[i]? = some (lesF r[i] (mulF (r.getD c (0, 1)) l[i])) := by
            unfold clrF
            rw [List.getElem?_zipWith, e1, e2]
          rw [List.take_add_one, ec]
          exact (q.tk ((Tk.same (sU.trans s24)).trans tk)).snoc (fl.tk tk)
      · rintro H' ⟨s1, xs, eD, q, _⟩
        rw [List.take_of_length_le (by rw [clr_len len]; omega)] at q
        exact k _ _ s1 ⟨D, xs, rfl, eD, q⟩ fun D' n _ z => n (by cases z; exact hD)
end
end KP

set_option Elab.async false
set_option linter.all false
set_option maxRecDepth 100000
set_option maxHeartbeats 4000000
/-! ### lists of rows; reduced_rows -/
namespace KP
open PySem PySem.Spec PyProof.Rows L2 KX KT KJ KS FR
abbrev sReduced : Stmt := top 18
inductive LLs (K : PySem.W.Frag) (H : Hp) : List V → List (List Fr) → Prop
  | nil : LLs K H [] []
  | cons {v : V} {vs : List V} {r : List Fr} {rs : List (List Fr)} : LstR K H v r → LLs K H vs rs → LLs K H (v :: vs) (r :: rs)
/-- a list of rows -/
def LLR (K : PySem.W.Frag) (H : Hp) (v : V) (rs : List (List Fr)) : Prop := ∃ p us, v = .ref p ∧ H p = some (.lst us) ∧ LLs K H us rs
section
variable {K : PySem.W.Frag} {H H' : Hp}
theorem LLs.same (s : Same H H') : ∀ {us : List V} {rs : List (List Fr)}, LLs K H us rs → LLs K H' us rs
  | [], [], _ => .nil
  | _ :: _, _ :: _, .cons a b => .cons (a.same s) (LLs.same s b)
theorem LLs.len : ∀ {us : List V} {rs : List (List Fr)}, LLs K H us rs → us.length = rs.length
  | [], [], _ => rfl
  | _ :: _, _ :: _, .cons a b => by rw [List.length_cons, List.length_cons, LLs.len b]
theorem LLs.get : ∀ {us : List V} {rs : List (List Fr)}, LLs K H us rs → ∀ {i : Nat} {x : V}, us[i]? = some x → ∃ r, rs[i]? = some r ∧ LstR K H x r
  | _ :: _, _ :: _, .cons a b, 0, x, h => by
    cases h
    exact ⟨_, rfl, a⟩
  | _ :: _, _ :: _, .cons a b, i + 1, x, h => LLs.get b (i := i) h
theorem LLs.append : ∀ {us vs : List V} {rs ss : List (List Fr)}, LLs K H us rs → LLs K H vs ss → LLs K H (us ++ vs) (rs ++ ss)
  | [], _, [], _, _, h => h
  | _ :: _, _, _ :: _, _, .cons a b, h => .cons a (LLs.append b h)
theorem LLs.drop1 : ∀ {us : List V} {rs : List (List Fr)}, LLs K H us rs → LLs K H (us.drop 1) (rs.drop 1)
  | [], [], _ => .nil
  | _ :: _, _ :: _, .cons a b => b
theorem LLs.snoc {us : List V} {rs : List (List Fr)} {v : V} {r : List Fr} (h : LLs K H us rs) (a : LstR K H v r) : LLs K H (us ++ [v]) (rs ++ [r]) := h.append (.cons a .nil)
end
def pick : List V → List Bool → List V
  | x :: us, b :: bs => if b = true then x :: pick us bs else pick us bs
  | _, _ => []
theorem pick_snoc : ∀ {us : List V} {bs : List Bool} {x : V} {b : Bool}, us.length = bs.length → pick (us ++ [x]) (bs ++ [b]) = pick us bs ++ (if b = true then [x] else [])
  | [], [], x, b, _ => by cases b <;> rfl
  | y :: us, c :: bs, x, b, h => by
    have ih := pick_snoc (us := us) (bs := bs) (x := x) (b := b) (by simpa using h)
    show (if c = true then y :: pick (us ++ [x]) (bs ++ [b]) else pick (us ++ [x]) (bs ++ [b])) = (if c = true then y :: pick us bs else pick us bs) ++ _
    rw [ih]
    cases c <;> rfl
  | [], _ :: _, _, _, h => by simp at h
  | _ :: _, [], _, _, h => by simp at h
theorem pick_len : ∀ {us : List V} {bs : List Bool}, (pick us bs).length ≤ us.length
  | [], _ => Nat.le_refl _
  | _ :: _, [] => Nat.zero_le _
  | x :: us, b :: bs => by
    have ih := pick_len (us := us) (bs := bs)
    show (if b = true then x :: pick us bs else pick us bs).length ≤ us.length + 1
    split
    · rw [List.length_cons]; omega
    · omega
theorem LLs.pick {K : PySem.W.Frag} {H : Hp} (q : List Fr → Bool) : ∀ {us : List V} {rs : List (List Fr)}, LLs K H us rs → LLs K H (KP.pick us (rs.map q)) (rs.filter q)
  | [], [], _ => .nil
  | x :: us, r :: rs, .cons a b => by
    have ih := LLs.pick q b
    show LLs K H (if q r = true then x :: KP.pick us (rs.map q) else KP.pick us (rs.map q)) _
    by_cases c : q r = true
    · rw [if_pos c, List.filter_cons_of_pos c]
      exact .cons a ih
    · rw [if_neg c, List.filter_cons_of_neg c]
      exact ih
/-- [x for x in xs if test] -/
theorem lc_pick {K : PySem.W.Frag} {a : Addr} {j : Nat} {vs : List Nat} {σ : L2.St} {tt : TT} {H1 : Hp} {D : Addr} {Qd : Hp → Prop} {us : List V} {bs : List Bool} (hD : H1 D = none) (ea : H1 a = some (.lst us)) (hl : us.length = bs.length) (hn : us.length ≤ 1000)
    (hw : ∀ x : V, wipe ((wipe σ vs).set j (some x)) vs = wipe σ vs) (hj : ∀ x : V, ((wipe σ vs).set j (some x))[j]? = some (some x))
    (ht : ∀ (i : Nat) (x : V) (H' : Hp) (Q : Bool → Hp → Prop), us[i]? = some x → Same H1 H' → (∀ b, bs[i]? = some b → Q b H') → tt ((wipe σ vs).set j (some x)) H' Q) (hd : ∀ H', Same H1 H' → H' D = some (.lst (pick us bs)) → Qd H') :
    ∃ W : Nat → Nat → Hp → Prop, (∃ m, W 0 m (upd H1 D (.lst []))) ∧ ∀ i m H, W i m H →
      ((Itl K a).stop i H ∧ Qd H) ∨ ((Itl K a).go i H ∧ ∃ Nx : Hp → Prop, (∀ H', Nx H' → ∃ m', m' < m ∧ W (i + 1) m' H') ∧ ∀ x H', (Itl K a).yld i H x H' → gName j x (wipe σ vs) H' fun σ2 H2 => wipe σ2 vs = wipe σ vs ∧ tt σ2 H2 fun b H3 =>
        if b = true then tVar j σ2 H3 fun y H4 => ∃ acc, H4 D = some (.lst acc) ∧ acc.length < sizeLine ∧ Nx (upd H4 D (.lst (acc ++ [y]))) else Nx H3) := by
  refine lc_it (walk_list (K := K) (a := a) (xs := us)) (fun n H' => Same H1 H' ∧ H' D = some (.lst (pick (us.take n) (bs.take n)))) ⟨same_upd hD, upd_same⟩ (fun n H' _ z => SqL.of (z.1 _ _ ea)) ?_ ?_
  · rintro i x _ H' hi ⟨s, e⟩ ⟨rfl, hx⟩
    refine ⟨hw x, ht i x H' _ hx s fun b hb => ?_⟩
    have eq : pick (us.take (i + 1)) (bs.take (i + 1)) = pick (us.take i) (bs.take i) ++ (if b = true then [x] else []) := by
      rw [List.take_add_one, List.take_add_one, hx, hb]
      exact pick_snoc (by rw [List.length_take, List.length_take, hl])
    cases b with
    | true =>
      rw [if_pos rfl]
      refine ⟨x, hj x, _, e, ?_, fun b' o eb => ?_, ?_⟩
      · have := pick_len (us := us.take i) (bs := bs.take i)
        rw [List.length_take] at this
        exact Nat.lt_of_le_of_lt (show _ ≤ 1000 by omega) (by decide)
      · have nb : b' ≠ D := fun z => by rw [z, hD] at eb; cases eb
        rw [upd_ne nb]
        exact s _ _ eb
      · rw [upd_same, eq]
        rfl
    | false =>
      rw [if_neg Bool.false_ne_true]
      refine ⟨s, ?_⟩
      rw [e, eq, if_neg Bool.false_ne_true, List.append_nil]
  · rintro H' ⟨s, e⟩
    rw [List.take_of_length_le (Nat.le_refl _), List.take_of_length_le (by omega)] at e
    exact hd H' s e
theorem LstR.put {K : PySem.W.Frag} {H : Hp} {v : V} {r : List Fr} {D : Addr} {xs0 zs : List V} (h : LstR K H v r) (n : v ≠ .ref D) (e : H D = some (.lst xs0)) : LstR K (upd H D (.lst zs)) v r := by
  obtain ⟨p, xs, rfl, q, f⟩ := h
  exact ⟨p, xs, rfl, by rw [upd_ne (fun z => n (by rw [z]))]; exact q, f.tk (Tk.put e)⟩
theorem LLs.put {K : PySem.W.Frag} {H : Hp} {D : Addr} {xs0 zs : List V} (e : H D = some (.lst xs0)) : ∀ {us : List V} {rs : List (List Fr)}, LLs K H us rs → (∀ y ∈ us, y ≠ .ref D) → LLs K (upd H D (.lst zs)) us rs
  | [], [], _, _ => .nil
  | _ :: _, _ :: _, .cons a b, n => .cons (a.put (n _ List.mem_cons_self) e) (LLs.put e b fun y hy => n y (List.mem_cons_of_mem _ hy))
/-- [g row for row in rows] -/
theorem lc_rows {K : PySem.W.Frag} {a : Addr} {j : Nat} {vs : List Nat} {σ : L2.St} {te : TE} {H1 : Hp} {D : Addr} {Qd : Hp → Prop} {us : List V} {rows : List (List Fr)} {g : List Fr → List Fr} (hD : H1 D = none) (ea : H1 a = some (.lst us)) (ll : LLs K H1 us rows) (hn : us.length ≤ 1000)
    (hw : ∀ x : V, wipe ((wipe σ vs).set j (some x)) vs = wipe σ vs)
    (ht : ∀ (x : V) (r : List Fr) (H' : Hp) (Q : VK), r ∈ rows → LstR K H' x r → Same H1 H' → x ≠ .ref D → H' D ≠ none → (∀ w H2, Same H' H2 → LstR K H2 w (g r) → w ≠ .ref D → Q w H2) → te ((wipe σ vs).set j (some x)) H' Q)
    (hd : ∀ H' ys, Same H1 H' → H' D = some (.lst ys) → LLs K H' ys (rows.map g) → Qd H') :
    ∃ W : Nat → Nat → Hp → Prop, (∃ m, W 0 m (upd H1 D (.lst []))) ∧ ∀ i m H, W i m H →
      ((Itl K a).stop i H ∧ Qd H) ∨ ((Itl K a).go i H ∧ ∃ Nx : Hp → Prop, (∀ H', Nx H' → ∃ m', m' < m ∧ W (i + 1) m' H') ∧ ∀ x H', (Itl K a).yld i H x H' → gName j x (wipe σ vs) H' fun σ2 H2 => wipe σ2 vs = wipe σ vs ∧ tYes σ2 H2 fun b H3 =>
        if b = true then te σ2 H3 fun y H4 => ∃ acc, H4 D = some (.lst acc) ∧ acc.length < sizeLine ∧ Nx (upd H4 D (.lst (acc ++ [y]))) else Nx H3) := by
  have lu := ll.len
  refine lc_map (walk_list (K := K) (a := a) (xs := us)) (fun H' ys i => (LLs K H' ys ((rows.map g).take i) ∧ ∀ y ∈ ys, y ≠ .ref D) ∧ i ≤ rows.length) hD hn (fun _ _ i q => by rw [q.1.1.len, List.length_take, List.length_map]; have := q.2; omega) ⟨⟨by rw [List.take_zero]; exact .nil, fun y hy => by cases hy⟩, Nat.zero_le _⟩
    (fun H' s => SqL.of (s _ _ ea)) hw ?_ ?_
  · rintro i x _ H' xs hi s e hl ⟨⟨q, nd⟩, hle⟩ ⟨rfl, hx⟩
    obtain ⟨r, er, lr⟩ := ll.get hx
    have nx : x ≠ .ref D := fun z => by
      obtain ⟨b, ys, e1, e2, _⟩ := lr
      rw [z] at e1
      cases e1
      rw [hD] at e2
      cases e2
    refine ht x r H' _ (List.mem_of_getElem? er) (lr.same s) s nx (by rw [e]; simp) fun w H2 s2 lw nw => ?_
    have e2 := s2 _ _ e
    refine aft hD (s.trans s2) e2 hl ⟨⟨?_, fun y hy => ?_⟩, by omega⟩
    · rw [List.take_add_one, List.getElem?_map, er]
      exact (LLs.put e2 (q.same s2) nd).snoc (lw.put nw e2)
    · rcases List.mem_append.mp hy with h | h
      · exact nd y h
      · rw [List.mem_singleton.mp h]
        exact nw
  · rintro H' xs s e ⟨⟨q, _⟩, _⟩
    rw [lu, List.take_of_length_le (by rw [List.length_map]; omega)] at q
    exact hd H' xs s e q
theorem lo_top0 {x : Fr} (h : Lo x) (z : x.1 = 0) : x = (0, 1) := lo_ext h lo0 (by rw [z]; simp)
theorem filter_two {α : Type} (q : α → Bool) : ∀ l : List α, (l.filter q).length + (l.filter fun x => !q x).length = l.length
  | [] => rfl
  | a :: l => by
    have ih := filter_two q l
    by_cases c : q a = true
    · rw [List.filter_cons_of_pos c, List.filter_cons_of_neg (by simp [c]), List.length_cons, List.length_cons]
      omega
    · rw [List.filter_cons_of_neg c, List.filter_cons_of_pos (by simpa using c), List.length_cons, List.length_cons]
      omega
theorem sz_mul {a b : Nat} {x y : Fr} (hx : Sz a x) (hy : Sz b y) : Sz (a + b) (mulF x y) := by
  have p := Int.mul_pos hx.pos hy.pos
  have z := lo_le (lo_low (t := x.1 * y.1) p) p (val_low p)
  refine ⟨(lo_low (t := x.1 * y.1) p).pos, Nat.lt_of_le_of_lt z.1 ?_, Nat.lt_of_le_of_lt z.2 ?_⟩
  · exact wide_lt hx.n hy.n
  · exact wide_lt hx.d hy.d
theorem sz_in {b : Nat} {x : Fr} (h : Sz b x) (hx : x.1 ≠ 0) : Sz b (inF x) := by
  have p := h.pos
  unfold inF
  split
  · exact ⟨by show 0 < -x.1; omega, by show (-x.2).natAbs < _; rw [Int.natAbs_neg]; exact h.d, by show (-x.1).natAbs < _; rw [Int.natAbs_neg]; exact h.n⟩
  · exact ⟨by show 0 < x.1; omega, h.d, h.n⟩
def spReduced (K : PySem.W.Frag) : Sp := fun vs H Q _ => ∃ u rows, ∃ m b0 : Nat, vs = [u, .int (m : Nat)] ∧ LLR K H u rows ∧ 1 ≤ m ∧ m ≤ 4 ∧ rows.length ≤ 60 ∧ (∀ r ∈ rows, r.length = m ∧ LoL r) ∧ (∀ r ∈ rows, Rb b0 r) ∧ b0 ≤ 200 ∧
  ∀ w H' left done ld, Same H H' → Elf m m b0 (rows.map vl) left done ld → LLR K H' w done → Q w H'
/-- what is left and the leader are fit to be cleared -/
theorem elf_clr {m c b0 : Nat} {C : List Vc} {left done : List (List Fr)} {ld : List Nat} {r0 r : List Fr} (E : Elf m c b0 C left done ld) (hb : b0 ≤ 200) (hc : c < m) (m4 : m ≤ 4) (h0 : r0 ∈ left) (hn : (r0.getD c (0, 1)).1 ≠ 0) (hr : r ∈ left ∨ r ∈ done) : ClrOk r (ledF r0 c) c ∧ (∀ y ∈ r, Sz 2000 y) := by
  have few := E.few
  have p8 : 2 ^ ld.length ≤ 2 ^ 3 := Nat.pow_le_pow_right (by decide) (by omega)
  have q1 : (b0 + 1) * 2 ^ ld.length ≤ 201 * 8 := Nat.mul_le_mul (by omega) p8
  have q2 : (b0 + 1) * (2 ^ ld.length - 1) ≤ 201 * 8 := Nat.mul_le_mul (by omega) (by omega)
  obtain ⟨l0, lo0⟩ := E.hl r0 h0
  have bf := ((E.bl r0 h0).led lo0 hn).mono (show _ ≤ 2000 by omega)
  have lf := lo_led lo0 hn
  have br : (r.length = m ∧ LoL r) ∧ Rb 2000 r := by
    rcases hr with h | h
    · exact ⟨E.hl r h, (E.bl r h).mono (by omega)⟩
    · exact ⟨E.hd r h, (E.bd r h).mono (by omega)⟩
  obtain ⟨⟨lr, lor⟩, brb⟩ := br
  refine ⟨⟨by rw [led_len, lr, l0], by omega, by omega, lor, lf, fun k => ?_⟩, fun y hy => ?_⟩
  · have a := brb.sz lor k
    have b := bf.sz lf k
    have d := brb.sz lor c
    exact ⟨a.mono (by decide), b.mono (by decide), sz_mul d b⟩
  · obtain ⟨k, hk, rfl⟩ := List.getElem_of_mem hy
    have a := brb.sz lor k
    rw [getD_in _ hk] at a
    exact a
end KP

set_option Elab.async false
set_option linter.all false
set_option maxRecDepth 100000
set_option maxHeartbeats 4000000
/-! ### reduced_rows -/
namespace KP
open PySem PySem.Spec PyProof.Rows L2 KX KT KJ KS FR
abbrev nRed : List Str := ["rows", "width", "left", "done", "place", "beginning", "leader", "others", "row"]
theorem scRed : FnScope nRed ["rows", "width"] (defScope sReduced) := ⟨rfl, rfl, rfl, by decide +kernel, rfl, by decide +kernel, by decide +kernel⟩
section
variable {P : Program} {w : World} {K : PySem.W.Frag} {mg : Str → Option Value} {base : Heap}
theorem ok_reduced {f fS fI fC aU aN : Addr} {fd fdS fdI fdC : FuncData} (F : Fun K "reduced_rows" "reduced_rows" sReduced f fd) (T : TxD mg) (C : Cst K mg aU aN)
    (FS : FnOk P w K mg base CX0 3 fS fdS ["row", "factor"] (spScaled K)) (mS : mg "_scaled" = some (.ref fS)) (kS : PySem.W.keepIn K (.ref fS) = true) (bS : Binds K fdS ["row", "factor"] [])
    (FI : FnOk P w K mg base CX0 1 fI fdI ["one"] (spInv K)) (mI : mg "inverse" = some (.ref fI)) (kI : PySem.W.keepIn K (.ref fI) = true) (bI : Binds K fdI ["one"] [])
    (FC : FnOk P w K mg base CX0 4 fC fdC ["row", "leader", "place"] (spCleared K)) (mC : mg "_cleared" = some (.ref fC)) (kC : PySem.W.keepIn K (.ref fC) = true) (bC : Binds K fdC ["row", "leader", "place"] []) :
    FnOk P w K mg base CX0 5 f fd ["rows", "width"] (spReduced K) := by
  refine F.ok scRed (fun vs H Q E h => ?_) (fun cdv A outer s H vs Q E hr h => ?_)
  · obtain ⟨u, rows, m, b0, rfl, _⟩ := h
    rfl
  · obtain ⟨u, rows, m, b0, rfl, hu, m1, m4, r60, hrows, hb, b200, k⟩ := h
    have hr1 : Room 1 _ := hr.mono (by decide)
    have hr3 : Room 3 _ := hr.mono (by decide)
    have hr4 : Room 4 _ := hr.mono (by decide)
    have hu64 : (A.deeper (envOfC "reduced_rows" (defScope sReduced) s.heap.objs.size f cdv)).units + 64 < cLine := by have := hr.un; omega
    refine ⟨_, pss_cons (ps_set (i := 2) scRed.nd rfl (Or.inl rfl) (pe_callTy (r := rListOf K) (by exact call_list_of) (by rfl) T.list (by decide +kernel) (pa_cons (pv 0) pa_nil)))
      (pss_cons (ps_set (i := 3) scRed.nd rfl (Or.inl rfl) (pe_lst pa_nil))
      (pss_cons (ps_for PassesOwn.never rfl (pi_range1 rfl T.range (pa_cons (pv 1) pa_nil)) (pg_name (i := 4) scRed.nd rfl (Or.inr rfl))
        (pss_cons (ps_setLc (i := 5) (own := [("row", 8)]) (g := gName 8) rfl scRed.nd rfl rfl (sw_true rfl rfl rfl (by decide +kernel)) (pi_list (pv 2)) (blkOk_by (N := nRed) (sc := defScope sReduced) (by decide +kernel))
            (fun _ _ _ _ _ => pg_name (i := 8) scRed.nd rfl (Or.inl rfl)) (fun _ _ _ _ _ => pts_one (pt_cmpR (r := rNeD K) (by exact op_neD hu64) (pe_ix (r := rIxL K) (by exact ix_list) (pv 8) (pv 4) (fun _ _ => rfl)) (pe_glob (v := .ref aN) (by rfl) C.mN rfl) (by rfl))) (fun _ _ _ _ _ => pv 8))
        (pss_one (ps_if (pt_truth (pv 5) (fun _ => rfl))
          (pss_cons (ps_set (i := 6) scRed.nd rfl (Or.inr rfl) (pe_call FS hr3 rfl mS kS bS .nil pass0 (pa_cons (pe_ix ix_list (pv 5) pe_int (fun _ _ => rfl)) (pa_cons (pe_call FI hr1 rfl mI kI bI .nil pass0 (pa_cons (pe_ix ix_list (pe_ix ix_list (pv 5) pe_int (fun _ _ => rfl)) (pv 4) (fun _ _ => rfl)) pa_nil)) pa_nil))))
          (pss_cons (ps_set (i := 7) scRed.nd rfl (Or.inl rfl) (pe_op op_cat (pe_lc (own := [("row", 8)]) (g := gName 8) rfl scRed.nd (pi_list (pv 2)) (blkOk_by (N := nRed) (sc := defScope sReduced) (by decide +kernel))
              (fun _ _ _ _ _ => pg_name (i := 8) scRed.nd rfl (Or.inl rfl)) (fun _ _ _ _ _ => pts_one (pt_cmpR (r := rEqD K) (by exact op_eqD hu64) (pe_ix (r := rIxL K) (by exact ix_list) (pv 8) (pv 4) (fun _ _ => rfl)) (pe_glob (v := .ref aN) (by rfl) C.mN rfl) (by rfl))) (fun _ _ _ _ _ => pv 8)) (pe_slice sl_list (pv 5) (po_some pe_int) po_none)))
          (pss_cons (ps_setLc (i := 2) (own := [("row", 8)]) (g := gName 8) rfl scRed.nd rfl rfl (sw_true rfl rfl rfl (by decide +kernel)) (pi_list (pv 7)) (blkOk_by (N := nRed) (sc := defScope sReduced) (by decide +kernel))
              (fun _ _ _ _ _ => pg_name (i := 8) scRed.nd rfl (Or.inl rfl)) (fun _ _ _ _ _ => pts_nil) (fun _ _ _ _ _ => pe_call FC hr4 (by rfl) mC kC bC .nil pass0 (pa_cons (pv 8) (pa_cons (pv 6) (pa_cons (pv 4) pa_nil)))))
          (pss_one (ps_set (i := 3) scRed.nd rfl (Or.inl rfl) (pe_op op_cat (pe_lc (own := [("row", 8)]) (g := gName 8) rfl scRed.nd (pi_list (pv 3)) (blkOk_by (N := nRed) (sc := defScope sReduced) (by decide +kernel))
              (fun _ _ _ _ _ => pg_name (i := 8) scRed.nd rfl (Or.inl rfl)) (fun _ _ _ _ _ => pts_nil) (fun _ _ _ _ _ => pe_call FC hr4 (by rfl) mC kC bC .nil pass0 (pa_cons (pv 8) (pa_cons (pv 6) (pa_cons (pv 4) pa_nil))))) (pe_lst (pa_cons (pv 6) pa_nil)))))))) pss_nil))))
      (pss_one (ps_ret (pv 3))))), ?_⟩
    obtain ⟨p, us, rfl, ep, lls⟩ := hu
    have lu := lls.len
    have cst : ∀ H, Dp K H (.ref aN) (fD (0, 1)) := fun H => .tup (C.cN H) (.cons (.int _) (.cons (.int _) .nil))
    refine ⟨_, rfl, p, us, rfl, .inl (SqL.of ep), fun l hl => ?_⟩
    have s1 := same_upd (o := .lst us) hl
    refine ⟨by decide, fun d hd => ?_⟩
    have s2 := same_upd (o := .lst ([] : List V)) hd
    have s12 := s1.trans s2
    refine ⟨_, rfl, (m : Int), rfl, by omega, by omega, ?_⟩
    rw [Int.toNat_natCast]
    refine for_range (lo := 0) (n := m) (fun i σ H' => ∃ (va vd : V) (o4 o5 o6 o7 : Option V) (left done : List (List Fr)) (ld : List Nat), σ = [some (.ref p), some (.int (m : Nat)), some va, some vd, o4, o5, o6, o7, none] ∧ Same H H' ∧ Elf m i b0 (rows.map KP.vl) left done ld ∧ LLR K H' va left ∧ LLR K H' vd done ∧ left.length ≤ 60 ∧ done.length ≤ i)
      ⟨_, _, none, none, none, none, rows, [], [], rfl, s12, Elf.begin hrows hb, ⟨l, us, rfl, s2 _ _ upd_same, lls.same s12⟩, ⟨d, [], rfl, upd_same, .nil⟩, r60, Nat.le_refl _⟩ ?_ ?_
    · rintro i σ H1 hi ⟨va, vd, o4, o5, o6, o7, left, done, ld, rfl, sH, EF, hlv, hdv, ln, dn⟩
      have ei : (0 : Int) + (i : Int) = ((i : Nat) : Int) := by omega
      rw [ei]
      obtain ⟨pa, xs, rfl, ea, ll⟩ := hlv
      obtain ⟨pd, ds, rfl, ed, dl⟩ := hdv
      have lx := ll.len
      have ldn := dl.len
      have test : ∀ {x : V} {H' : Hp} {r : List Fr}, LstR K H' x r → r.length = m → ∃ b ys v, x = .ref b ∧ H' b = some (.lst ys) ∧ ys[i]? = some v ∧ FrV K H' v (r.getD i (0, 1)) := fun {x H' r} h hm => by
        obtain ⟨b, ys, rfl, eb, fb⟩ := h
        obtain ⟨v, ev, fv⟩ := frl_at fb (j := i) (by omega)
        exact ⟨b, ys, v, rfl, eb, ev, fv⟩
      -- beginning
      refine ⟨_, rfl, pa, rfl, ⟨xs, SqL.of ea⟩, fun D hD => ?_⟩
      refine lc_pick (bs := left.map fun r => !decide (r.getD i (0, 1) = (0, 1))) hD ea (by rw [lx, List.length_map]) (by omega) (fun _ => rfl) (fun _ => rfl) (fun q x H2 Q hx s2 hQ => ?_) fun H2 s2 e2 => ?_
      · obtain ⟨r, er, lr⟩ := ll.get hx
        obtain ⟨b, ys, v, rfl, eb, ev, fv⟩ := test (lr.same s2) (EF.hl r (List.mem_of_getElem? er)).1
        refine ⟨_, rfl, _, rfl, b, ys, _, v, rfl, rfl, SqL.of eb, atI_nat ev, fD (r.getD i (0, 1)), fD (0, 1), dp_fr fv, cst _, shaped_fr _, shaped_fr _, ?_⟩
        rw [eqv_fr]
        refine ⟨_, rfl, hQ _ ?_⟩
        rw [List.getElem?_map, er]
        rfl
      have lb := (ll.same s2).pick (fun r => !decide (r.getD i (0, 1) = (0, 1)))
      have sH2 := sH.trans s2
      refine ⟨_, rfl, _, .inl ⟨_, SqL.of e2, rfl⟩, ?_⟩
      generalize hP : KP.pick xs (left.map fun r => !decide (r.getD i (0, 1) = (0, 1))) = PP at lb e2 ⊢
      generalize hR : left.filter (fun r => !decide (r.getD i (0, 1) = (0, 1))) = RR at lb
      cases lb with
      | nil =>
        refine iteB (fun z => by cases z) fun _ => ?_
        refine ⟨.ref pa, .ref pd, _, _, _, _, left, done, ld, rfl, sH2, EF.skip fun r hr => ?_, ⟨pa, xs, rfl, s2 _ _ ea, ll.same s2⟩, ⟨pd, ds, rfl, s2 _ _ ed, dl.same s2⟩, ln, by omega⟩
        have := List.filter_eq_nil_iff.mp hR r hr
        have z : r.getD i (0, 1) = (0, 1) := by simpa using this
        rw [z]
      | @cons x0 rest r0 R' a0 ar =>
        refine iteB (fun _ => ?_) (fun z => by cases z)
        have m0 : r0 ∈ left ∧ (!decide (r0.getD i (0, 1) = (0, 1))) = true := List.mem_filter.mp (by rw [hR]; exact List.mem_cons_self)
        have mR : ∀ r ∈ R', r ∈ left := fun r hr => (List.mem_filter.mp (show r ∈ left.filter (fun r => !decide (r.getD i (0, 1) = (0, 1))) by rw [hR]; exact List.mem_cons_of_mem _ hr)).1
        obtain ⟨l0, lo0⟩ := EF.hl r0 m0.1
        have n0 : (r0.getD i (0, 1)).1 ≠ 0 := fun z => by
          have := lo_top0 (lo_getD lo0 i) z
          rw [this] at m0
          exact absurd m0.2 (by decide)
        obtain ⟨ck0, sz0⟩ := elf_clr EF b200 hi m4 m0.1 n0 (.inl m0.1)
        have sq0 : Sz 2000 (r0.getD i (0, 1)) := by
          rw [getD_in _ (by omega)]
          exact sz0 _ (List.getElem_mem _)
        have a0' := a0
        obtain ⟨b, ys, v, rfl, eb, ev, fv⟩ := test a0 l0
        have a00 : atI (V.ref b :: rest) 0 = some (.ref b) := atI_nat (j := 0) rfl
        refine ⟨_, rfl, D, _, 0, _, rfl, rfl, SqL.of e2, a00, _, rfl, D, _, 0, _, rfl, rfl, SqL.of e2, a00, _, rfl, b, ys, _, v, rfl, rfl, SqL.of eb, atI_nat ev, ?_⟩
        refine ⟨v, _, rfl, fv, fun vi H3 s3 fi => ?_⟩
        refine ⟨_, vi, r0, _, rfl, a0'.same s3, fi, by omega, fun y hy => (sz0 y hy).mono (by decide), (sz_in sq0 n0).mono (by decide), fun w6 H4 s4 h6 => ?_⟩
        have eL : (r0.map fun y => mulF y (inF (r0.getD i (0, 1)))) = ledF r0 i := List.map_congr_left fun y hy => mul_in (lo0 y hy) (lo_getD lo0 i) n0
        rw [eL] at h6
        have s24 := s3.trans s4
        have sH4 := sH2.trans s24
        have s14 := s2.trans s24
        -- others
        refine ⟨_, rfl, pa, rfl, ⟨xs, SqL.of (s14 _ _ ea)⟩, fun D2 hD2 => ?_⟩
        refine lc_pick (bs := left.map fun r => decide (r.getD i (0, 1) = (0, 1))) hD2 (s14 _ _ ea) (by rw [lx, List.length_map]) (by omega) (fun _ => rfl) (fun _ => rfl) (fun q x H5 Q hx s5 hQ => ?_) fun H5 s5 e5 => ?_
        · obtain ⟨r, er, lr⟩ := ll.get hx
          obtain ⟨b, ys, v, rfl, eb, ev, fv⟩ := test (lr.same (s14.trans s5)) (EF.hl r (List.mem_of_getElem? er)).1
          refine ⟨_, rfl, _, rfl, b, ys, _, v, rfl, rfl, SqL.of eb, atI_nat ev, fD (r.getD i (0, 1)), fD (0, 1), dp_fr fv, cst _, shaped_fr _, shaped_fr _, ?_⟩
          rw [eqv_fr]
          refine ⟨_, rfl, hQ _ ?_⟩
          rw [List.getElem?_map, er]
          rfl
        have s15 := s14.trans s5
        have lz := (ll.same s15).pick (fun r => decide (r.getD i (0, 1) = (0, 1)))
        refine ⟨_, rfl, _, rfl, ?_⟩
        refine p_none ?_
        refine ⟨D, _, rfl, SqL.of ((s24.trans s5) _ _ e2), fun p7 hp7 => ?_⟩
        rw [cut_one (by simp)]
        have s7 := same_upd (o := .lst (((.ref b :: rest) : List V).drop 1)) hp7
        have lf2 := filter_two (fun r : List Fr => !decide (r.getD i (0, 1) = (0, 1))) left
        have eff : (left.filter fun r => !(!decide (r.getD i (0, 1) = (0, 1)))) = left.filter fun r => decide (r.getD i (0, 1) = (0, 1)) := by simp only [Bool.not_not]
        rw [hR, List.length_cons, eff] at lf2
        refine ⟨D2, p7, _, _, rfl, rfl, s7 _ _ e5, upd_same, ?_, fun p8 hp8 => ?_⟩
        · have z1 := lz.len
          have z2 := ar.len
          have : (((.ref b :: rest) : List V).drop 1).length = rest.length := rfl
          rw [this, z1, z2]
          exact Nat.le_trans (show _ ≤ 60 by omega) (by decide)
        have s8 := same_upd (o := .lst (KP.pick xs (left.map fun r => decide (r.getD i (0, 1) = (0, 1))) ++ ((.ref b :: rest) : List V).drop 1)) hp8
        have s78 := s7.trans s8
        have lO : LLs K (upd (upd H5 p7 (.lst (((.ref b :: rest) : List V).drop 1))) p8 (.lst (KP.pick xs (left.map fun r => decide (r.getD i (0, 1) = (0, 1))) ++ ((.ref b :: rest) : List V).drop 1))) (KP.pick xs (left.map fun r => decide (r.getD i (0, 1) = (0, 1))) ++ rest) ((left.filter fun r => decide (r.getD i (0, 1) = (0, 1))) ++ R') := (lz.same s78).append (ar.same ((s24.trans s5).trans s78))
        have e8 : upd (upd H5 p7 (.lst (((.ref b :: rest) : List V).drop 1))) p8 (.lst (KP.pick xs (left.map fun r => decide (r.getD i (0, 1) = (0, 1))) ++ ((.ref b :: rest) : List V).drop 1)) p8 = some (.lst (KP.pick xs (left.map fun r => decide (r.getD i (0, 1) = (0, 1))) ++ rest)) := upd_same
        generalize upd (upd H5 p7 (.lst (((.ref b :: rest) : List V).drop 1))) p8 (.lst (KP.pick xs (left.map fun r => decide (r.getD i (0, 1) = (0, 1))) ++ ((.ref b :: rest) : List V).drop 1)) = H8 at s78 lO e8 ⊢
        generalize hO : (left.filter fun r => decide (r.getD i (0, 1) = (0, 1))) ++ R' = O at lO
        have lenO : O.length + 1 = left.length := by
          rw [← hO, List.length_append]
          omega
        have inO : ∀ r ∈ O, r ∈ left := fun r hr => by
          rw [← hO] at hr
          rcases List.mem_append.mp hr with h | h
          · exact (List.mem_filter.mp h).1
          · exact mR r h
        have allO : ∀ r ∈ left, r ∈ O ∨ r = r0 := fun r hr => by
          rw [← hO]
          by_cases c : r.getD i (0, 1) = (0, 1)
          · exact .inl (List.mem_append_left _ (List.mem_filter.mpr ⟨hr, decide_eq_true c⟩))
          · have : r ∈ left.filter fun r => !decide (r.getD i (0, 1) = (0, 1)) := List.mem_filter.mpr ⟨hr, by rw [decide_eq_false c]; rfl⟩
            rw [hR] at this
            rcases List.mem_cons.mp this with e | e
            · exact .inr e
            · exact .inl (List.mem_append_right _ e)
        have s58 := s5.trans s78
        have h6' := h6.same s58
        have s18 := s14.trans s58
        have lOu := lO.len
        -- left
        refine ⟨_, rfl, p8, rfl, ⟨_, SqL.of e8⟩, fun D3 hD3 => ?_⟩
        refine lc_rows (g := fun r => clrF r (ledF r0 i) i) hD3 e8 lO (by omega) (fun _ => rfl) (fun x r H9 Q hr lr s9 nx hDn hQ => ?_) fun H9 zs s9 e9 lz9 => ?_
        · refine ⟨_, rfl, _, rfl, _, rfl, x, w6, r, ledF r0 i, i, rfl, lr, h6'.same s9, (elf_clr EF b200 hi m4 m0.1 n0 (.inl (inO r hr))).1, fun w H10 s10 lw nw => hQ w H10 s10 lw (nw D3 hDn nx)⟩
        have s19 := s18.trans s9
        -- done
        have dl9 := dl.same s19
        have ed9 := s19 _ _ ed
        refine ⟨_, rfl, pd, rfl, ⟨ds, SqL.of ed9⟩, fun D4 hD4 => ?_⟩
        refine lc_rows (g := fun r => clrF r (ledF r0 i) i) hD4 ed9 dl9 (by omega) (fun _ => rfl) (fun x r H10 Q hr lr s10 nx hDn hQ => ?_) fun H10 ws s10 e10 lw10 => ?_
        · refine ⟨_, rfl, _, rfl, _, rfl, x, w6, r, ledF r0 i, i, rfl, lr, h6'.same (s9.trans s10), (elf_clr EF b200 hi m4 m0.1 n0 (.inr hr)).1, fun w H11 s11 lw nw => hQ w H11 s11 lw (nw D4 hDn nx)⟩
        have lws := lw10.len
        rw [List.length_map] at lws
        refine ⟨_, rfl, by show 1 ≤ sizeLine; decide, fun l1 hl1 => ?_⟩
        have sl := same_upd (o := .lst [w6]) hl1
        refine ⟨D4, l1, _, _, rfl, rfl, sl _ _ e10, upd_same, Nat.le_trans (show ws.length + 1 ≤ 60 by omega) (by decide), fun p9 hp9 => ?_⟩
        have sp9 := sl.trans (same_upd (o := .lst (ws ++ [w6])) hp9)
        have s910 := s10.trans sp9
        refine ⟨.ref D3, .ref p9, _, _, _, _, _, _, ld ++ [i], rfl, (sH.trans s19).trans s910, EF.lead m0.1 n0 inO allO, ⟨D3, zs, rfl, s910 _ _ e9, lz9.same s910⟩, ⟨p9, _, rfl, upd_same, (lw10.same sp9).append (.cons ((h6'.same (s9.trans s910))) .nil)⟩, by rw [List.length_map]; omega, by rw [List.length_append, List.length_map, List.length_singleton]; omega⟩
    · rintro σ H1 ⟨va, vd, o4, o5, o6, o7, left, done, ld, rfl, sH, EF, hlv, hdv, ln, dn⟩
      exact ⟨_, rfl, k vd H1 left done ld sH EF hdv⟩
end
end KP

set_option Elab.async false
set_option linter.all false
set_option maxRecDepth 100000
set_option maxHeartbeats 4000000
/-! ### _last_place -/
namespace KP
open PySem PySem.Spec PyProof.Rows L2 KX KT KJ KS FR
abbrev sLastPl : Stmt := top 21
abbrev nLast : List Str := ["row", "place", "entry"]
theorem scLastPl : FnScope nLast ["row"] (defScope sLastPl) := ⟨rfl, rfl, rfl, by decide +kernel, rfl, by decide +kernel, by decide +kernel⟩
/-- the places below n at which r is not 0 -/
def nzP (r : List Fr) (n : Nat) : List Nat := (List.range n).filter fun k => !decide (r.getD k (0, 1) = (0, 1))
theorem mem_nzP {r : List Fr} {n k : Nat} : k ∈ nzP r n ↔ k < n ∧ r.getD k (0, 1) ≠ (0, 1) := by
  unfold nzP
  rw [List.mem_filter, List.mem_range]
  simp
theorem nzP_succ (r : List Fr) (n : Nat) : nzP r (n + 1) = nzP r n ++ (if r.getD n (0, 1) ≠ (0, 1) then [n] else []) := by
  unfold nzP
  rw [List.range_succ, List.filter_append]
  congr 1
  by_cases c : r.getD n (0, 1) = (0, 1)
  · rw [if_neg (fun z => z c), List.filter_cons_of_neg (by rw [decide_eq_true c]; decide)]
    rfl
  · rw [if_pos c, List.filter_cons_of_pos (by rw [decide_eq_false c]; rfl)]
    rfl
theorem nzP_len (r : List Fr) (n : Nat) : (nzP r n).length ≤ n := by
  have := List.length_filter_le (fun k => !decide (r.getD k (0, 1) = (0, 1))) (List.range n)
  rw [List.length_range] at this
  exact this
def spLastPl (K : PySem.W.Frag) : Sp := fun vs H Q _ => ∃ u r, ∃ j : Nat, vs = [u] ∧ LstR K H u r ∧ r.length ≤ 4 ∧ j < r.length ∧ r.getD j (0, 1) ≠ (0, 1) ∧ (∀ k, j < k → k < r.length → r.getD k (0, 1) = (0, 1)) ∧ ∀ H', Same H H' → Q (.int (j : Nat)) H'
section
variable {P : Program} {w : World} {K : PySem.W.Frag} {mg : Str → Option Value} {base : Heap}
theorem ok_lastplace {f aU aN : Addr} {fd : FuncData} (F : Fun K "_last_place" "_last_place" sLastPl f fd) (T : TxD mg) (C : Cst K mg aU aN) : FnOk P w K mg base CX0 1 f fd ["row"] (spLastPl K) := by
  refine F.ok scLastPl (fun vs H Q E h => ?_) (fun cdv A outer s H vs Q E hr h => ?_)
  · obtain ⟨u, r, j, rfl, _⟩ := h
    rfl
  · obtain ⟨u, r, j, rfl, hu, l4, hj, nj, zj, k⟩ := h
    have hu64 : (A.deeper (envOfC "_last_place" (defScope sLastPl) s.heap.objs.size f cdv)).units + 64 < cLine := by have := hr.un; omega
    refine ⟨_, pss_one (ps_ret (pe_callB (cr_max rfl) (by rfl) T.max (by decide +kernel) (pa_cons (pe_lc (own := [("place", 1), ("entry", 2)]) (g := gTup K 2 (gCons (gName 1) (gCons (gName 2) gNil))) rfl scLastPl.nd (pi_enum (by rfl) T.enumerate (pa_cons (pv 0) pa_nil)) (blkOk_by (N := nLast) (sc := defScope sLastPl) (by decide +kernel))
        (fun _ _ _ _ _ => by exact pg_tup rfl (pgs_cons (pg_name (i := 1) scLastPl.nd rfl (Or.inl rfl)) (pgs_cons (pg_name (i := 2) scLastPl.nd rfl (Or.inl rfl)) pgs_nil))) (fun _ _ _ _ _ => pts_one (pt_cmpR (r := rNeD K) (by exact op_neD hu64) (pv 2) (pe_glob (v := .ref aN) (by rfl) C.mN rfl) (by rfl)))
        (fun _ _ _ _ _ => pv 1)) pa_nil))), ?_⟩
    obtain ⟨a, us, rfl, ea, ru⟩ := hu
    have lu := ru.len
    refine ⟨_, rfl, a, us, rfl, SqL.of ea, fun D hD => ?_⟩
    refine lc_it (walk_enum (K := K) (a := a) (xs := us)) (fun n H' => Same H H' ∧ H' D = some (.lst ((nzP r n).map fun k => V.int ((k : Nat) : Int)))) ⟨same_upd hD, upd_same⟩ (fun n H' _ z => SqL.of (z.1 _ _ ea)) ?_ ?_
    · rintro i v H' H'' hi ⟨s1, eD⟩ ⟨U, x1, y1, rfl, hU, rfl, hx1, hy1⟩
      cases hx1
      have sU := same_upd (o := .tup [V.int (i : Nat), y1]) hU
      have s2 : Same H _ := s1.trans sU
      have er := List.getElem?_eq_getElem (show i < r.length by omega)
      have fy := (ru.get i _ _ hy1 er).tk (Tk.same s2)
      have gr : r.getD i (0, 1) = r[i] := getD_in _ (by omega)
      rw [← gr] at fy
      refine ⟨U, _, rfl, SqT.of upd_same, rfl, _, _, rfl, _, _, rfl, rfl, rfl, ?_⟩
      refine ⟨_, rfl, fD (r.getD i (0, 1)), fD (0, 1), dp_fr fy, .tup (C.cN _) (.cons (.int _) (.cons (.int _) .nil)), shaped_fr _, shaped_fr _, ?_⟩
      rw [eqv_fr]
      have eD2 := sU _ _ eD
      refine ⟨_, rfl, iteB (fun z => ?_) (fun z => ?_)⟩
      · have ne : r.getD i (0, 1) ≠ (0, 1) := fun e => by rw [e] at z; exact absurd z (by decide)
        refine ⟨_, rfl, _, eD2, ?_, fun b o eb => ?_, ?_⟩
        · rw [List.length_map]
          have := nzP_len r i
          exact Nat.lt_of_le_of_lt (show _ ≤ 4 by omega) (by decide)
        · have nb : b ≠ D := fun z => by rw [z, hD] at eb; cases eb
          rw [upd_ne nb]
          exact s2 _ _ eb
        · rw [upd_same, nzP_succ, if_pos ne, List.map_append]
          rfl
      · have e : r.getD i (0, 1) = (0, 1) := by
          false_or_by_contra
          rename_i n
          rw [decide_eq_false n] at z
          cases z
        refine ⟨s2, ?_⟩
        rw [eD2, nzP_succ, if_neg (fun n => n e), List.append_nil]
    · rintro H' ⟨s1, eD⟩
      rw [lu] at eD
      have ee : ((nzP r r.length).map fun k => V.int ((k : Nat) : Int)) = ((nzP r r.length).map fun k => ((k : Nat) : Int)).map V.int := by rw [List.map_map]; rfl
      rw [ee] at eD
      have hin : ((j : Nat) : Int) ∈ (nzP r r.length).map fun k => ((k : Nat) : Int) := List.mem_map.mpr ⟨j, mem_nzP.mpr ⟨hj, nj⟩, rfl⟩
      refine ⟨D, _, rfl, SqL.of eD, List.length_pos_of_mem hin, fun mx hm hmax => ?_⟩
      obtain ⟨k', hk', rfl⟩ := List.mem_map.mp hm
      have hk' := mem_nzP.mp hk'
      have h1 := hmax _ hin
      have e : k' = j := by
        by_cases c : j < k'
        · exact absurd (zj k' c hk'.1) hk'.2
        · omega
      rw [e]
      exact k H' s1
end
end KP

set_option Elab.async false
set_option linter.all false
set_option maxRecDepth 100000
set_option maxHeartbeats 4000000
/-! ### _row_from -/
namespace KP
open PySem PySem.Spec PyProof.Rows L2 KX KT KJ KS FR
abbrev sRowFrom : Stmt := top 20
abbrev nRf : List Str := ["place", "leaders", "width", "row", "leading"]
theorem scRf : FnScope nRf ["place", "leaders", "width"] (defScope sRowFrom) := ⟨rfl, rfl, rfl, by decide +kernel, rfl, by decide +kernel, by decide +kernel⟩
def rfS (c : Nat) (r : List Fr) (p : Nat × List Fr) : List Fr := r.set p.1 (negF (p.2.getD c (0, 1)))
def rfI (m c : Nat) (lds : List Nat) (told : List (List Fr)) (i : Nat) : List Fr := ((lds.zip told).take i).foldl (rfS c) ((List.replicate m (0, 1)).set c (1, 1))
def rfF (m c : Nat) (lds : List Nat) (told : List (List Fr)) : List Fr := rfI m c lds told lds.length
theorem rfI_succ {m c : Nat} {lds : List Nat} {told : List (List Fr)} {i l : Nat} {r : List Fr} (h1 : lds[i]? = some l) (h2 : told[i]? = some r) : rfI m c lds told (i + 1) = (rfI m c lds told i).set l (negF (r.getD c (0, 1))) := by
  unfold rfI
  have e : (lds.zip told)[i]? = some (l, r) := by rw [List.getElem?_zip_eq_some]; exact ⟨h1, h2⟩
  rw [List.take_add_one, e, List.foldl_append]
  rfl
theorem rfI_len {m c : Nat} {lds : List Nat} {told : List (List Fr)} (i : Nat) : (rfI m c lds told i).length = m := by
  unfold rfI
  generalize (lds.zip told).take i = ps
  have h : ((List.replicate m ((0, 1) : Fr)).set c (1, 1)).length = m := by rw [List.length_set, List.length_replicate]
  generalize (List.replicate m ((0, 1) : Fr)).set c (1, 1) = r at h
  induction ps generalizing r with
  | nil => exact h
  | cons p ps ih =>
    rw [List.foldl_cons]
    exact ih _ (by unfold rfS; rw [List.length_set]; exact h)
theorem FrL.set2 {K : PySem.W.Frag} {H : Hp} {xs : List V} {h : List Fr} {v : V} {x : Fr} (f : FrL K H xs h) (fx : FrV K H v x) (j : Nat) : FrL K H (xs.set j v) (h.set j x) := by
  refine ⟨by rw [List.length_set, List.length_set, f.len], fun k u y h1 h2 => ?_⟩
  rw [List.getElem?_set] at h1 h2
  by_cases e : j = k
  · rw [if_pos e] at h1 h2
    split at h1
    · split at h2
      · cases h1
        cases h2
        exact fx
      · cases h2
    · cases h1
  · rw [if_neg e] at h1 h2
    exact f.get k u y h1 h2
theorem FrL.rep {K : PySem.W.Frag} {H : Hp} {v : V} {x : Fr} (fx : FrV K H v x) (n : Nat) : FrL K H (List.replicate n v) (List.replicate n x) := by
  refine ⟨by rw [List.length_replicate, List.length_replicate], fun k u y h1 h2 => ?_⟩
  rw [List.getElem?_replicate] at h1 h2
  split at h1
  · rename_i c
    rw [if_pos c] at h2
    cases h1
    cases h2
    exact fx
  · cases h1
/-- a dict of rows by their leading places -/
structure LdD (K : PySem.W.Frag) (H : Hp) (a : Addr) (kvs : List (Key × V)) (lds : List Nat) (told : List (List Fr)) : Prop where
  at_ : Rd H a (.dK kvs)
  len : kvs.length = lds.length
  keys : ∀ (i : Nat) (k : Key) (v : V), kvs[i]? = some (k, v) → ∃ (l : Nat) (r : List Fr), lds[i]? = some l ∧ told[i]? = some r ∧ k = .inl ((l : Nat) : Int) ∧ LstR K H v r
def spRowFrom (K : PySem.W.Frag) : Sp := fun vs H Q _ => ∃ (c m : Nat) (a : Addr) (kvs : List (Key × V)) (lds : List Nat) (told : List (List Fr)), vs = [.int (c : Nat), .ref a, .int (m : Nat)] ∧ H a = some (.dK kvs) ∧ LdD K H a kvs lds told ∧ lds.Nodup ∧ (∀ l ∈ lds, l < m) ∧ (∀ r ∈ told, r.length = m) ∧ c < m ∧ m ≤ 4 ∧ lds.length ≤ 4 ∧
  ∀ w H', Same H H' → RowT K H' w (rfF m c lds told) → Q w H'
theorem Tk.lock {H : Hp} {a : Addr} {kvs : List (Key × V)} {od : Obj} (e : H a = some (.dK kvs)) : Tk H (upd H a (.frz od (.dK kvs))) := fun b u hb => by
  obtain ⟨xs, rfl, r⟩ := of_tO hb
  have nb : b ≠ a := fun z => by
    rw [z] at r
    rcases r with r | ⟨o, r⟩ <;> rw [e] at r <;> cases r
  refine tO_rd ?_
  rcases r with r | ⟨o, r⟩
  · exact .inl (by rw [upd_ne nb]; exact r)
  · exact .inr ⟨o, by rw [upd_ne nb]; exact r⟩
theorem LstR.lock {K : PySem.W.Frag} {H : Hp} {a : Addr} {kvs : List (Key × V)} {od : Obj} {v : V} {r : List Fr} (h : LstR K H v r) (e : H a = some (.dK kvs)) : LstR K (upd H a (.frz od (.dK kvs))) v r := by
  obtain ⟨p, xs, rfl, q, f⟩ := h
  have np : p ≠ a := fun z => by
    rw [z, e] at q
    cases q
  exact ⟨p, xs, rfl, by rw [upd_ne np]; exact q, f.tk (Tk.lock e)⟩
theorem Tk.unlock {H : Hp} {a : Addr} {kvs : List (Key × V)} {od : Obj} (e : H a = some (.frz od (.dK kvs))) : Tk H (upd H a (.dK kvs)) := fun b u hb => by
  obtain ⟨xs, rfl, r⟩ := of_tO hb
  have nb : b ≠ a := fun z => by
    rw [z] at r
    rcases r with r | ⟨o, r⟩ <;> rw [e] at r <;> cases r
  refine tO_rd ?_
  rcases r with r | ⟨o, r⟩
  · exact .inl (by rw [upd_ne nb]; exact r)
  · exact .inr ⟨o, by rw [upd_ne nb]; exact r⟩
theorem LstR.but {K : PySem.W.Frag} {H H' : Hp} {q : Addr} {xs0 : List V} {v : V} {r : List Fr} (h : LstR K H v r) (n : v ≠ .ref q) (e : H q = some (.lst xs0)) (b : KJ.But q H H') : LstR K H' v r := by
  obtain ⟨p, xs, rfl, e1, f⟩ := h
  exact ⟨p, xs, rfl, b _ _ (fun z => n (by rw [z])) e1, f.tk (Tk.but e b)⟩
theorem LdD.val {K : PySem.W.Frag} {H : Hp} {a : Addr} {kvs : List (Key × V)} {lds : List Nat} {told : List (List Fr)} (ld : LdD K H a kvs lds told) (nd : lds.Nodup) {i l : Nat} {v : V} (e : kvs[i]? = some (.inl ((l : Nat) : Int), v)) (el : lds[i]? = some l) : valV kvs (.inl ((l : Nat) : Int)) = some v := by
  unfold valV
  cases q : kvs.find? fun kv => decide (kv.1 = Sum.inl ((l : Nat) : Int)) with
  | none =>
    have := List.find?_eq_none.mp q _ (List.mem_of_getElem? e)
    simp at this
  | some p =>
    obtain ⟨k', v'⟩ := p
    have h1 := List.mem_of_find?_eq_some q
    have h2 := List.find?_some q
    obtain ⟨i', hi', e'⟩ := List.getElem_of_mem h1
    obtain ⟨l', r', el', _, ek, _⟩ := ld.keys i' k' v' (by rw [List.getElem?_eq_getElem hi', e'])
    have h2 : k' = Sum.inl ((l : Nat) : Int) := of_decide_eq_true h2
    have : l' = l := by
      rw [ek] at h2
      have := Sum.inl.inj h2
      omega
    subst this
    have ii : i' = i := by
      obtain ⟨a1, b1⟩ := List.getElem?_eq_some_iff.mp el'
      obtain ⟨a2, b2⟩ := List.getElem?_eq_some_iff.mp el
      have w := List.pairwise_iff_getElem.mp nd
      rcases Nat.lt_trichotomy i' i with c | c | c
      · exact absurd (by rw [b1, b2]) (w i' i a1 a2 c)
      · exact c
      · exact absurd (by rw [b1, b2]) (w i i' a2 a1 c)
    subst ii
    rw [List.getElem?_eq_getElem hi', e'] at e
    cases e
    rfl
section
variable {P : Program} {w : World} {K : PySem.W.Frag} {mg : Str → Option Value} {base : Heap}
theorem ok_rowfrom {f fN aU aN : Addr} {fd fdN : FuncData} (F : Fun K "_row_from" "_row_from" sRowFrom f fd) (T : TxD mg) (C : Cst K mg aU aN)
    (FN : FnOk P w K mg base CX0 1 fN fdN ["one"] (spNegF K)) (mN : mg "negative" = some (.ref fN)) (kN : PySem.W.keepIn K (.ref fN) = true) (bN : Binds K fdN ["one"] []) :
    FnOk P w K mg base CX0 2 f fd ["place", "leaders", "width"] (spRowFrom K) := by
  refine F.ok scRf (fun vs H Q E h => ?_) (fun cdv A outer s H vs Q E hr h => ?_)
  · obtain ⟨c, m, a, kvs, lds, told, rfl, _⟩ := h
    rfl
  · obtain ⟨c, m, a, kvs, lds, told, rfl, ea, ld, nd, hl, hm, hc, m4, l4, k⟩ := h
    have hu1 : (A.deeper (envOfC "_row_from" (defScope sRowFrom) s.heap.objs.size f cdv)).units + 1 < cLine := by have := hr.un; omega
    refine ⟨_, pss_cons (ps_set (i := 3) scRf.nd rfl (Or.inl rfl) (pe_op op_rep (pe_lst (pa_cons (pe_glob (v := .ref aN) (by rfl) C.mN rfl) pa_nil)) (pv 2)))
      (pss_cons (ps_asg (pe_glob (v := .ref aU) (by rfl) C.mU rfl) (pg_sub (pv 3) (pv 0) set_list))
      (pss_cons (ps_lock (ps_for PassesOwn.never rfl (pi_keys (pv 1)) (pg_name (i := 4) scRf.nd rfl (Or.inl rfl))
        (pss_one (ps_asg (pe_call FN hr rfl mN kN bN .nil pass0 (pa_cons (pe_ix ix_list (pe_dget hu1 (pv 1) (pv 4) (fun _ _ => rfl)) (pv 0) (fun _ _ => rfl)) pa_nil)) (pg_sub (pv 3) (pv 4) set_list)))))
      (pss_one (ps_ret (pe_tupleOf (by rfl) T.tuple (pv 3)))))), ?_⟩
    have hn : ∀ {b : Addr} {u : HO}, H b = none → b ≠ a := fun {b u} h z => by rw [z, ea] at h; cases h
    refine ⟨by show 1 ≤ sizeLine; decide, fun l0 hl0 => ⟨_, rfl, ?_⟩⟩
    have s0 := same_upd (o := .lst [V.ref aN]) hl0
    refine ⟨l0, _, _, rfl, rfl, upd_same, by omega, by omega, Nat.le_trans (show [V.ref aN].length * ((m : Nat) : Int).toNat ≤ 4 by rw [Int.toNat_natCast]; simp; omega) (by decide), fun q hq => ?_⟩
    rw [show (List.replicate ((m : Nat) : Int).toNat [V.ref aN]).flatten = List.replicate m (V.ref aN) by rw [Int.toNat_natCast]; exact List.flatten_replicate_singleton]
    have s1 := s0.trans (same_upd (o := .lst (List.replicate m (V.ref aN))) hq)
    have eq1 : upd (upd H l0 (.lst [V.ref aN])) q (.lst (List.replicate m (V.ref aN))) q = some (.lst (List.replicate m (V.ref aN))) := upd_same
    have nqH : H q = none := by
      cases e : H q with
      | none => rfl
      | some u => rw [s0 _ _ e] at hq; cases hq
    generalize upd (upd H l0 (.lst [V.ref aN])) q (.lst (List.replicate m (V.ref aN))) = H1 at s1 eq1 ⊢
    have naq : a ≠ q := fun z => by rw [← z, ea] at nqH; cases nqH
    refine ⟨_, rfl, _, rfl, q, _, _, c, rfl, rfl, eq1, ixN_nat (by rw [List.length_replicate]; exact hc), ?_⟩
    have s2 : Same H (upd H1 q (.lst ((List.replicate m (V.ref aN)).set c (.ref aU)))) := same_put s1 nqH
    have eq2 : upd H1 q (.lst ((List.replicate m (V.ref aN)).set c (.ref aU))) q = some (.lst ((List.replicate m (V.ref aN)).set c (.ref aU))) := upd_same
    generalize upd H1 q (.lst ((List.replicate m (V.ref aN)).set c (.ref aU))) = H2 at s2 eq2 ⊢
    have ea2 := s2 _ _ ea
    refine ⟨a, .dK kvs, ea2, trivial, fun od => ?_⟩
    have eqL : upd H2 a (.frz od (.dK kvs)) q = some (.lst ((List.replicate m (V.ref aN)).set c (.ref aU))) := by rw [upd_ne (fun z => naq z.symm)]; exact eq2
    refine ⟨_, rfl, a, od, rfl, .inl ⟨kvs, upd_same, ?_⟩⟩
    refine for_it (walk_keys (d := a) (o := od) (kvs := kvs)) (fun i σ H' => (∃ o4, σ = [some (.int (c : Nat)), some (.ref a), some (.int (m : Nat)), some (.ref q), o4]) ∧ (∃ ys, H' q = some (.lst ys) ∧ FrL K H' ys (rfI m c lds told i)) ∧ KJ.But q (upd H2 a (.frz od (.dK kvs))) H')
      ⟨⟨none, rfl⟩, ⟨_, eqL, FrL.set (FrL.rep (FrV.cst C.cN) m) c (FrV.cst C.cU)⟩, fun _ _ _ e => e⟩ (fun i σ H' _ z => z.2.2 _ _ naq upd_same) ?_ ?_
    · rintro i x σ _ H' hi ⟨⟨o4, rfl⟩, ⟨ys, eq, fr⟩, bq⟩ ⟨rfl, kk, v, ekv, rfl⟩
      obtain ⟨l, r, el, er, rfl, lr⟩ := ld.keys i kk v ekv
      have ef := bq _ _ naq (upd_same (H := H2) (a := a) (o := .frz od (.dK kvs)))
      have nv : v ≠ .ref q := fun z => by
        obtain ⟨p', xs', e1, e2, _⟩ := lr
        rw [z] at e1
        cases e1
        rw [nqH] at e2
        cases e2
      obtain ⟨p', xs', rfl, e2, fx⟩ := ((lr.same s2).lock (od := od) ea2).but nv eqL bq
      have lr' := hm r (List.mem_of_getElem? er)
      obtain ⟨z, ez, fz⟩ := frl_at fx (j := c) (by omega)
      refine ⟨_, rfl, _, rfl, a, _, rfl, .inl ⟨kvs, _, .inr ⟨od, ef⟩, rfl, (ld.val nd ekv el).symm⟩, _, rfl, p', xs', _, z, rfl, rfl, SqL.of e2, atI_nat ez, ?_⟩
      refine ⟨z, _, rfl, fz, fun w3 H3 s3 f3 => ?_⟩
      have eq3 := s3 _ _ eq
      have lys := fr.len
      rw [rfI_len] at lys
      refine ⟨_, rfl, _, rfl, q, ys, _, l, rfl, rfl, eq3, ixN_nat (by rw [lys]; exact hl l (List.mem_of_getElem? el)), ⟨_, rfl⟩, ⟨_, upd_same, ?_⟩, fun b u nb e => ?_⟩
      · rw [rfI_succ el er]
        have tk := Tk.put (ys := ys.set l w3) eq3
        exact (fr.tk ((Tk.same s3).trans tk)).set l (f3.tk tk)
      · rw [upd_ne nb]
        exact s3 _ _ (bq _ _ nb e)
    · rintro σ H' ⟨⟨o4, rfl⟩, ⟨ys, eq, fr⟩, bq⟩
      have ef := bq _ _ naq (upd_same (H := H2) (a := a) (o := .frz od (.dK kvs)))
      refine ⟨ef, _, rfl, .inl ⟨q, ys, rfl, SqL.of (by rw [upd_ne (fun z => naq z.symm)]; exact eq), fun z hz => ?_⟩⟩
      have sU : Same H (upd H' a (.dK kvs)) := fun b u e => by
        by_cases c1 : b = a
        · rw [c1, ea] at e
          cases e
          rw [c1]
          exact upd_same
        · rw [upd_ne c1]
          refine bq _ _ (fun z => by rw [z, nqH] at e; cases e) ?_
          rw [upd_ne c1]
          exact s2 _ _ e
      have sz := same_upd (o := .tup ys) hz
      rw [ld.len] at fr
      exact k _ _ (sU.trans sz) ⟨z, ys, rfl, tO_of upd_same, fr.tk ((Tk.unlock ef).trans (Tk.same sz))⟩
end
end KP

set_option Elab.async false
set_option linter.all false
set_option maxRecDepth 100000
set_option maxHeartbeats 4000000
/-! ### the row that is given is the turned row that vanishes -/
namespace KP
open PySem PySem.Spec PyProof.Rows L2 KX KT KJ KS FR
theorem find_congr {α : Type} {p q : α → Bool} : ∀ {l : List α}, (∀ x ∈ l, p x = q x) → l.find? p = l.find? q
  | [], _ => rfl
  | a :: l, h => by
    have ih := find_congr (p := p) (q := q) (l := l) fun x hx => h x (List.mem_cons_of_mem _ hx)
    rw [List.find?_cons, List.find?_cons, h a List.mem_cons_self, ih]
theorem fold_at {c k : Nat} : ∀ {ps : List (Nat × List Fr)} {r : List Fr}, k < r.length → (ps.map Prod.fst).Nodup → (ps.foldl (rfS c) r)[k]? = match ps.find? (fun d => d.1 == k) with
    | some d => some (negF (d.2.getD c (0, 1)))
    | none => r[k]?
  | [], _, _, _ => rfl
  | p :: ps, r, hk, nd => by
    rw [List.map_cons, List.nodup_cons] at nd
    have ih := fold_at (c := c) (k := k) (ps := ps) (r := rfS c r p) (by unfold rfS; rw [List.length_set]; exact hk) nd.2
    rw [List.foldl_cons, ih, List.find?_cons]
    by_cases e : p.1 = k
    · have z : ps.find? (fun d => d.1 == k) = none := List.find?_eq_none.mpr fun d hd => by
        have : d.1 ≠ k := fun z => nd.1 (by rw [e, ← z]; exact List.mem_map.mpr ⟨d, hd, rfl⟩)
        simpa using this
      rw [z, show (p.1 == k) = true by simpa using e]
      show (rfS c r p)[k]? = _
      unfold rfS
      rw [e, List.getElem?_set_self hk]
    · rw [show (p.1 == k) = false by simpa using e]
      show (match ps.find? (fun d => d.1 == k) with | some d => some (negF (d.2.getD c (0, 1))) | none => (rfS c r p)[k]?) = _
      have z : (rfS c r p)[k]? = r[k]? := by
        unfold rfS
        rw [List.getElem?_set_ne e]
      rw [z]
theorem rev_getD {r : List Fr} {m k : Nat} (h : r.length = m) (hk : k < m) : r.reverse.getD k (0, 1) = r.getD (m - 1 - k) (0, 1) := by
  rw [getD_in _ (by rw [List.length_reverse, h]; exact hk), getD_in _ (by rw [h]; omega), List.getElem_reverse]
  congr 1
  simp only [h]
theorem rf_ker {m c : Nat} {ld : List Nat} {done : List (List Fr)} (len : ld.length = done.length) (hd : ∀ r ∈ done, r.length = m) (hl : ∀ l ∈ ld, l < m) (nd : ld.Nodup) (hc : c < m) (hf : (m - 1 - c) ∉ ld) :
    rfF m c (ld.map fun l => m - 1 - l) (done.map List.reverse) = (kerF m ld done (m - 1 - c)).reverse := by
  have ez : (ld.map fun l => m - 1 - l).zip (done.map List.reverse) = (ld.zip done).map (Prod.map (fun l => m - 1 - l) List.reverse) := by rw [List.zip_map]
  have lz : (ld.zip done).length = ld.length := by rw [List.length_zip, len, Nat.min_self]
  have nd' : (((ld.zip done).map (Prod.map (fun l => m - 1 - l) List.reverse)).map Prod.fst).Nodup := by
    rw [List.map_map]
    have e : (Prod.fst ∘ Prod.map (fun l => m - 1 - l) List.reverse : Nat × List Fr → Nat) = (fun l => m - 1 - l) ∘ Prod.fst := rfl
    rw [e, ← List.map_map, List.map_fst_zip (Nat.le_of_eq len)]
    unfold List.Nodup
    rw [List.pairwise_map]
    refine List.Pairwise.imp_of_mem (fun {a b} ha hb n => ?_) nd
    have := hl a ha
    have := hl b hb
    omega
  have key : ∀ k, k < m → (rfF m c (ld.map fun l => m - 1 - l) (done.map List.reverse))[k]? = some (kerE ld done (m - 1 - c) (m - 1 - k)) := fun k hk => by
    unfold rfF rfI
    rw [ez, List.length_map, List.take_of_length_le (by rw [List.length_map, lz]; exact Nat.le_refl _), fold_at (by rw [List.length_set, List.length_replicate]; exact hk) nd', List.find?_map]
    have ef : (ld.zip done).find? ((fun d => d.1 == k) ∘ Prod.map (fun l => m - 1 - l) List.reverse) = (ld.zip done).find? fun d => d.1 == m - 1 - k := find_congr fun x hx => by
      have := hl _ (List.of_mem_zip hx).1
      show (m - 1 - x.1 == k) = (x.1 == m - 1 - k)
      rw [Bool.eq_iff_iff, beq_iff_eq, beq_iff_eq]
      omega
    rw [ef]
    unfold kerE
    cases q : (ld.zip done).find? fun d => d.1 == m - 1 - k with
    | none =>
      show ((List.replicate m ((0, 1) : Fr)).set c (1, 1))[k]? = _
      by_cases e : k = c
      · subst e
        rw [List.getElem?_set_self (by rw [List.length_replicate]; exact hk), if_pos rfl]
      · rw [List.getElem?_set_ne (fun z => e z.symm), List.getElem?_replicate, if_pos hk, if_neg (by omega)]
    | some d =>
      have hm := List.of_mem_zip (List.mem_of_find?_eq_some q)
      have hk2 : d.1 = m - 1 - k := by have := List.find?_some q; simpa using this
      have ne : ¬ (m - 1 - k = m - 1 - c) := fun z => hf (by rw [← z, ← hk2]; exact hm.1)
      rw [if_neg ne]
      show some (negF (d.2.reverse.getD c (0, 1))) = some (negF (d.2.getD (m - 1 - c) (0, 1)))
      rw [rev_getD (hd _ hm.2) hc]
  refine List.ext_getElem? fun k => ?_
  by_cases hk : k < m
  · rw [key k hk, List.getElem?_reverse (by rw [ker_len]; exact hk), ker_len]
    unfold kerF
    rw [List.getElem?_map, List.getElem?_range (by omega)]
    rfl
  · rw [List.getElem?_eq_none (by unfold rfF; rw [rfI_len]; omega), List.getElem?_eq_none (by rw [List.length_reverse, ker_len]; omega)]
theorem FrL.rev {K : PySem.W.Frag} {H : Hp} {xs : List V} {h : List Fr} (f : FrL K H xs h) : FrL K H xs.reverse h.reverse := by
  have l := f.len
  refine ⟨by rw [List.length_reverse, List.length_reverse, l], fun k v x a b => ?_⟩
  obtain ⟨hk, _⟩ := List.getElem?_eq_some_iff.mp a
  rw [List.length_reverse] at hk
  rw [List.getElem?_reverse hk] at a
  rw [List.getElem?_reverse (by omega), ← l] at b
  exact f.get _ _ _ a b
theorem rb_rev {b m : Nat} {r : List Fr} (h : Rb b r) (hm : r.length = m) : Rb b r.reverse := by
  obtain ⟨d, v, d0, d1, v1, e⟩ := h
  refine ⟨d, fun k => if k < m then v (m - 1 - k) else 0, d0, d1, fun k => ?_, fun k => ?_⟩
  · show (if k < m then v (m - 1 - k) else 0).natAbs < _
    split
    · exact v1 _
    · exact Nat.two_pow_pos b
  · show vl r.reverse k = (((if k < m then v (m - 1 - k) else 0 : Int)) : Rat) / (d : Rat)
    by_cases hk : k < m
    · rw [if_pos hk, vl_rev hm hk, e]
    · rw [if_neg hk, vl_out (by rw [List.length_reverse]; omega)]
      have : ((0 : Int) : Rat) = 0 := rfl
      rw [this]
      grind
end KP

set_option Elab.async false
set_option linter.all false
set_option maxHeartbeats 1000000
/-! ### the same conditions in other order; sizes of told rows; told rows are kept -/
namespace FR
open KP (LoL vl getD_in getD_out lo_getD)
theorem Els.other {m c : Nat} {C C' left : List Vc} {D : List (Nat × Vc)} (E : Els m c C left D) (h : ∀ w, (∀ r ∈ C', dt m r w = 0) ↔ ∀ r ∈ C, dt m r w = 0) : Els m c C' left D := ⟨E.ech, E.zl, fun w => (h w).trans (E.nul w)⟩
theorem Elf.other {m c b0 : Nat} {C C' : List Vc} {left done : List (List Fr)} {ld : List Nat} (E : Elf m c b0 C left done ld) (h : ∀ w, (∀ r ∈ C', dt m r w = 0) ↔ ∀ r ∈ C, dt m r w = 0) : Elf m c b0 C' left done ld :=
  ⟨E.hl, E.hd, E.len, E.els.other h, E.bl, E.bd⟩
theorem rev_same {m : Nat} {rows : List (List Fr)} (hm : ∀ r ∈ rows, r.length = m) (w : Vc) : (∀ r ∈ (rows.map vl).map (rv m), dt m r w = 0) ↔ ∀ r ∈ (rows.map List.reverse).map vl, dt m r w = 0 := by
  have e : ∀ r ∈ rows, dt m (vl r.reverse) w = dt m (rv m (vl r)) w := fun r hr => dt_congr fun k hk => vl_rev (hm r hr) hk
  constructor
  · intro h r hr
    obtain ⟨r1, h1, rfl⟩ := List.mem_map.mp hr
    obtain ⟨r2, h2, rfl⟩ := List.mem_map.mp h1
    rw [e r2 h2]
    exact h _ (List.mem_map.mpr ⟨_, List.mem_map.mpr ⟨r2, h2, rfl⟩, rfl⟩)
  · intro h r hr
    obtain ⟨r1, h1, rfl⟩ := List.mem_map.mp hr
    obtain ⟨r2, h2, rfl⟩ := List.mem_map.mp h1
    rw [← e r2 h2]
    exact h _ (List.mem_map.mpr ⟨_, List.mem_map.mpr ⟨r2, h2, rfl⟩, rfl⟩)
theorem Elf.asc {m c b0 : Nat} {C : List Vc} {left done : List (List Fr)} {ld : List Nat} (E : Elf m c b0 C left done ld) : ld.Pairwise (· < ·) := by
  rw [← zD_fst E.len, List.pairwise_map]
  exact E.els.ech.asc
theorem Elf.lts {m c b0 : Nat} {C : List Vc} {left done : List (List Fr)} {ld : List Nat} (E : Elf m c b0 C left done ld) : ∀ l ∈ ld, l < c := fun l hl => by
  rw [← zD_fst E.len] at hl
  obtain ⟨d, hd, rfl⟩ := List.mem_map.mp hl
  exact E.els.ech.lt d hd
theorem Elf.nodup {m c b0 : Nat} {C : List Vc} {left done : List (List Fr)} {ld : List Nat} (E : Elf m c b0 C left done ld) : ld.Nodup := E.asc.imp fun h => Nat.ne_of_lt h
theorem free_count {m : Nat} {ld : List Nat} (asc : ld.Pairwise (· < ·)) (lt : ∀ l ∈ ld, l < m) : (freeP m ld).length + ld.length = m := by
  have e : (List.range m).filter (fun c => ld.contains c) = ld := by
    refine asc_ext (List.Pairwise.filter _ List.pairwise_lt_range) asc fun x => ?_
    rw [List.mem_filter, List.mem_range]
    constructor
    · intro h
      simpa using h.2
    · intro h
      exact ⟨lt x h, by simpa using h⟩
  have z := List.length_eq_countP_add_countP (fun c => ld.contains c) (l := List.range m)
  rw [List.length_range, List.countP_eq_length_filter, List.countP_eq_length_filter, e] at z
  unfold freeP
  have e2 : (List.range m).filter (fun a => decide ¬ (ld.contains a) = true) = (List.range m).filter fun c => !ld.contains c := by
    congr 1
    funext c
    cases ld.contains c <;> rfl
  rw [e2] at z
  omega
/-- one denominator for all rows -/
theorem den_all {b : Nat} : ∀ {L : List (List Fr)}, (∀ r ∈ L, Rb b r) → ∃ D : Int, 0 < D ∧ D.natAbs < 2 ^ (L.length * b + 1) ∧ ∀ r ∈ L, ∀ c, ∃ v : Int, v.natAbs < 2 ^ (L.length * b + 1) ∧ vl r c = (v : Rat) / (D : Rat)
  | [], _ => ⟨1, by decide, by rw [List.length_nil, Nat.zero_mul]; decide, fun r hr => by cases hr⟩
  | a :: L, h => by
    obtain ⟨D, D0, D1, ih⟩ := den_all (L := L) fun r hr => h r (List.mem_cons_of_mem _ hr)
    obtain ⟨d, v, d0, d1, v1, e⟩ := h a List.mem_cons_self
    have n0 := ne0 D0
    have n1 := ne0 d0
    have pw : 2 ^ ((a :: L).length * b + 1) = 2 ^ b * 2 ^ (L.length * b + 1) := by
      rw [← Nat.pow_add, List.length_cons, Nat.succ_mul]
      congr 1
      omega
    refine ⟨d * D, Int.mul_pos d0 D0, by rw [Int.natAbs_mul, pw]; exact Nat.mul_lt_mul'' d1 D1, fun r hr c => ?_⟩
    rcases List.mem_cons.mp hr with rfl | hr
    · refine ⟨v c * D, by rw [Int.natAbs_mul, pw]; exact Nat.mul_lt_mul'' (v1 c) D1, ?_⟩
      rw [e, Rat.intCast_mul, Rat.intCast_mul]
      grind
    · obtain ⟨y, y1, ey⟩ := ih r hr c
      refine ⟨d * y, by rw [Int.natAbs_mul, pw]; exact Nat.mul_lt_mul'' d1 y1, ?_⟩
      rw [ey, Rat.intCast_mul, Rat.intCast_mul]
      grind
theorem kerE_is {ld : List Nat} {done : List (List Fr)} (c k : Nat) : kerE ld done c k = (1, 1) ∨ kerE ld done c k = (0, 1) ∨ ∃ r ∈ done, kerE ld done c k = negF (r.getD c (0, 1)) := by
  unfold kerE
  split
  · exact .inl rfl
  · split
    · rename_i d q
      exact .inr (.inr ⟨d.2, (List.of_mem_zip (List.mem_of_find?_eq_some q)).2, rfl⟩)
    · exact .inr (.inl rfl)
theorem ker_rb {m b c : Nat} {ld : List Nat} {done : List (List Fr)} (h : ∀ r ∈ done, Rb b r) (hd : ∀ r ∈ done, LoL r) : Rb (done.length * b + 1) (kerF m ld done c) := by
  obtain ⟨D, D0, D1, all⟩ := den_all h
  have n0 := ne0 D0
  have z : ∀ k, ∃ v : Int, v.natAbs < 2 ^ (done.length * b + 1) ∧ vl (kerF m ld done c) k = (v : Rat) / (D : Rat) := fun k => by
    by_cases hk : k < m
    · have e : vl (kerF m ld done c) k = val (kerE ld done c k) := by
        unfold vl
        rw [getD_in _ (by rw [ker_len]; exact hk)]
        unfold kerF
        rw [List.getElem_map, List.getElem_range]
      rw [e]
      rcases kerE_is (ld := ld) (done := done) c k with q | q | ⟨r, hr, q⟩
      · exact ⟨D, D1, by rw [q, val1]; grind⟩
      · exact ⟨0, Nat.two_pow_pos _, by rw [q, val0]; show (0 : Rat) = ((0 : Int) : Rat) / _; rw [show ((0 : Int) : Rat) = 0 from rfl]; grind⟩
      · obtain ⟨v, v1, ev⟩ := all r hr c
        refine ⟨-v, by rw [Int.natAbs_neg]; exact v1, ?_⟩
        rw [q, val_neg]
        have : val (r.getD c (0, 1)) = vl r c := rfl
        rw [this, ev, Rat.intCast_neg]
        grind
    · refine ⟨0, Nat.two_pow_pos _, ?_⟩
      rw [vl_out (by rw [ker_len]; exact hk), show ((0 : Int) : Rat) = 0 from rfl]
      grind
  exact ⟨D, fun k => Classical.choose (z k), D0, D1, fun k => (Classical.choose_spec (z k)).1, fun k => (Classical.choose_spec (z k)).2⟩
theorem ker_sz {m b c : Nat} {ld : List Nat} {done : List (List Fr)} (h : ∀ r ∈ done, Rb b r) (hd : ∀ r ∈ done, LoL r) {x : Fr} (hx : x ∈ kerF m ld done c) : Sz (b + 1) x := by
  obtain ⟨k, _, rfl⟩ := List.mem_map.mp hx
  have p : 2 ≤ 2 ^ (b + 1) := by
    rw [Nat.pow_succ]
    have := Nat.two_pow_pos b
    omega
  rcases kerE_is (ld := ld) (done := done) c k with q | q | ⟨r, hr, q⟩
  · rw [q]
    exact ⟨by decide, by show (1 : Int).natAbs < _; exact p, by show (1 : Int).natAbs < _; exact p⟩
  · rw [q]
    exact ⟨by decide, by show (0 : Int).natAbs < _; exact Nat.two_pow_pos _, by show (1 : Int).natAbs < _; exact p⟩
  · rw [q]
    have s := ((h r hr).sz (hd r hr) c).mono (show b ≤ b + 1 by omega)
    exact ⟨s.pos, by show (-_ : Int).natAbs < _; rw [Int.natAbs_neg]; exact s.n, s.d⟩
theorem lo_dvd {x : Fr} {v d : Int} (hx : Lo x) (hd : 0 < d) (e : val x = (v : Rat) / (d : Rat)) : x.2 ∣ d := by
  have h1 := ne0 hx.pos
  have h2 := ne0 hd
  have e1 : (x.1 : Rat) * (d : Rat) = (v : Rat) * (x.2 : Rat) := by
    unfold val at e
    grind
  have e2 : x.1 * d = v * x.2 := by exact_mod_cast e1
  have a : x.2 ∣ x.1 * d := ⟨v, by rw [e2, Int.mul_comm]⟩
  have a := Int.natAbs_dvd_natAbs.mpr a
  rw [Int.natAbs_mul] at a
  have g : Nat.Coprime x.2.natAbs x.1.natAbs := by
    unfold Nat.Coprime
    rw [Nat.gcd_comm]
    exact hx.g
  exact Int.natAbs_dvd_natAbs.mp (g.dvd_of_dvd_mul_left a)
theorem hb_of {b b' : Nat} {r : List Fr} (h : Rb b r) (l : LoL r) (h' : ∀ x ∈ r, x.1.natAbs < 2 ^ b') : KP.HB b b' r := by
  obtain ⟨d, v, d0, d1, v1, e⟩ := h
  refine ⟨d.natAbs, 2 ^ b' - 1, by omega, d1, by have := Nat.two_pow_pos b'; omega, fun x hx => ?_⟩
  obtain ⟨k, hk, rfl⟩ := List.getElem_of_mem hx
  have ek := e k
  unfold vl at ek
  rw [getD_in _ hk] at ek
  have lo := l _ (List.getElem_mem hk)
  have hn := h' _ (List.getElem_mem hk)
  have p := lo.pos
  refine ⟨p, ?_, ?_⟩
  · rw [show ((d.natAbs : Nat) : Int) = d by omega]
    exact lo_dvd lo d0 ek
  · refine Nat.le_trans (show r[k].1.natAbs ≤ (2 ^ b' - 1) * 1 by omega) (Nat.mul_le_mul_left _ (by omega))
/-- a told row makes all that was turned vanish -/
theorem out_kept {m b0 : Nat} {C : List Vc} {left done : List (List Fr)} {ld : List Nat} (E : Elf m m b0 (C.map (rv m)) left done ld) {r : List Fr} (hr : r ∈ outP m ld done) {c : Vc} (hc : c ∈ C) : dt m c (vl r) = 0 := by
  unfold outP at hr
  obtain ⟨p, hp, rfl⟩ := List.mem_map.mp hr
  have hp := List.mem_filter.mp hp
  have hm := List.mem_range.mp hp.1
  have nl : (m - 1 - p) ∉ ld := by simpa using hp.2
  have nl' : ∀ d ∈ zD ld done, d.1 ≠ m - 1 - p := fun d hd e => nl ((lead_mem E.len).mp ⟨d, hd, e⟩)
  have z := (E.fin (zv (zD ld done) (m - 1 - p))).mpr (zv_nul E.els.ech (by omega) nl') _ (List.mem_map.mpr ⟨c, hc, rfl⟩)
  rw [dt_rev] at z
  rw [dt_comm, dt_congr (u' := rv m (zv (zD ld done) (m - 1 - p))) fun k hk => ?_, dt_comm]
  · exact z
  · rw [vl_rev (ker_len _ _ _ _) hk, vl_ker (by omega)]
    rfl
theorem out_row {m : Nat} {ld : List Nat} {done : List (List Fr)} {r : List Fr} (hr : r ∈ outP m ld done) : ∃ c, c < m ∧ c ∉ ld ∧ r = (kerF m ld done c).reverse := by
  unfold outP at hr
  obtain ⟨p, hp, rfl⟩ := List.mem_map.mp hr
  have hp := List.mem_filter.mp hp
  have hm := List.mem_range.mp hp.1
  exact ⟨m - 1 - p, by omega, by simpa using hp.2, rfl⟩
theorem les0 {x : Fr} (h : Lo x) : lesF (0, 1) x = negF x := by
  unfold lesF
  show low (0 * x.2 - x.1 * 1) (1 * x.2) = _
  rw [Int.zero_mul, Int.zero_sub, Int.mul_one, Int.one_mul]
  exact low_self (lo_neg h)
end FR
namespace KP
open FR
def kk (U a b : Nat) : Ky := (a, if b < U then some b else none)
def keysL (U s u : Nat) : List Ky := ((List.range s).flatMap fun a => (List.range (U + 1)).map (kk U a)) ++ (List.range u).map (kk U s)
theorem keysL_zero (U : Nat) : keysL U 0 0 = [] := rfl
theorem keysL_succ (U s u : Nat) : keysL U s (u + 1) = keysL U s u ++ [kk U s u] := by
  unfold keysL
  rw [List.range_succ (n := u), List.map_append, List.append_assoc]
  rfl
theorem keysL_next (U s : Nat) : keysL U s (U + 1) = keysL U (s + 1) 0 := by
  unfold keysL
  rw [List.range_succ (n := s), List.flatMap_append]
  simp
theorem mem_keysL {U m : Nat} {k : Ky} : k ∈ keysL U m 0 ↔ k.1 < m ∧ ∀ j, k.2 = some j → j < U := by
  unfold keysL
  obtain ⟨a, o⟩ := k
  simp only [List.range_zero, List.map_nil, List.append_nil, List.mem_flatMap, List.mem_range, List.mem_map]
  constructor
  · rintro ⟨a', ha, b, hb, e⟩
    unfold kk at e
    obtain ⟨rfl, rfl⟩ := Prod.mk.inj e
    refine ⟨ha, fun j hj => ?_⟩
    split at hj
    · cases hj
      assumption
    · cases hj
  · rintro ⟨ha, h⟩
    cases o with
    | none => exact ⟨a, ha, U, by omega, by unfold kk; rw [if_neg (Nat.lt_irrefl U)]⟩
    | some j =>
      have hj := h j rfl
      exact ⟨a, ha, j, by omega, by unfold kk; rw [if_pos hj]⟩
theorem keysL_len (U s u : Nat) : (keysL U s u).length = s * (U + 1) + u := by
  unfold keysL
  rw [List.length_append, List.length_map, List.length_range, List.length_flatMap]
  congr 1
  induction s with
  | zero => simp
  | succ s ih => rw [List.range_succ (n := s), List.map_append, List.sum_append, ih]; simp [Nat.succ_mul]
theorem sumK_none {k : Ky} {w : Vc} : ∀ {ps : List Pp}, (∀ p ∈ ps, keyP p ≠ k) → sumK k w ps = 0
  | [], _ => rfl
  | p :: ps, h => by
    show (if keyP p = k then val (wtP p) * gP p w else 0) + sumK k w ps = 0
    rw [if_neg (h p List.mem_cons_self), sumK_none fun q hq => h q (List.mem_cons_of_mem _ hq)]
    grind
theorem key_in {n : NetM} (g : GoodN n) {p : Pp} (hp : p ∈ n.ps) : keyP p ∈ keysL n.u n.m 0 := by
  have gp := g.ps p hp
  refine mem_keysL.mpr ⟨gp.s, fun j hj => ?_⟩
  have z := gp.sh
  have hj : unP p.sh = some j := hj
  cases h : p.sh with
  | inl i =>
    rw [h] at hj z
    cases hj
    exact z
  | inr x =>
    rw [h] at hj
    cases hj
def lawC (n : NetM) : List (List Fr) := (keysL n.u n.m 0).map (condF n)
theorem null_same {n : NetM} (g : GoodN n) {ks : List Ky} (h1 : ∀ p ∈ n.ps, keyP p ∈ ks) (h2 : ∀ k ∈ ks, ∃ p ∈ n.ps, keyP p = k) (w : Vc) : (∀ r ∈ (ks.map (condF n)).map vl, dt n.m r w = 0) ↔ ∀ r ∈ (lawC n).map vl, dt n.m r w = 0 := by
  constructor
  · intro h r hr
    obtain ⟨r1, hr1, rfl⟩ := List.mem_map.mp hr
    obtain ⟨k, hk, rfl⟩ := List.mem_map.mp hr1
    by_cases c : ∃ p ∈ n.ps, keyP p = k
    · obtain ⟨p, hp, rfl⟩ := c
      exact h _ (List.mem_map.mpr ⟨_, List.mem_map.mpr ⟨_, h1 p hp, rfl⟩, rfl⟩)
    · rw [dt_cond g, sumK_none fun p hp e => c ⟨p, hp, e⟩]
  · intro h r hr
    obtain ⟨r1, hr1, rfl⟩ := List.mem_map.mp hr
    obtain ⟨k, hk, rfl⟩ := List.mem_map.mp hr1
    obtain ⟨p, hp, rfl⟩ := h2 k hk
    exact h _ (List.mem_map.mpr ⟨_, List.mem_map.mpr ⟨_, key_in g hp, rfl⟩, rfl⟩)
/-- a column -/
def colA (t : Tab) (c : Nat) : List Fr := t.map fun row => row.getD c (0, 1)
theorem vl_colA {m : Nat} {t : Tab} (sq : Sq m t) {l c : Nat} (hl : l < m) : vl (colA t c) l = At t l c := by
  have h : l < t.length := by rw [sq.len]; exact hl
  unfold vl At gt colA
  rw [List.getD_eq_getElem?_getD, List.getElem?_map, List.getElem?_eq_getElem h, getD_in (h := t) _ h]
  rfl
theorem lo_colA {t : Tab} (l : LoT t) (c : Nat) : LoL (colA t c) := fun x hx => by
  obtain ⟨row, hr, rfl⟩ := List.mem_map.mp hx
  exact lo_getD (l row hr) c
theorem dot_kept {n : NetM} {as : List Fr} (g : GoodN n) (ok : AsOk n as) {r : List Fr} (hl : r.length = n.m) (lr : LoL r) (h : ∀ c ∈ (lawC n).map vl, dt n.m c (vl r) = 0) {c : Nat} (hc : c < n.m) : dotF r (colA (tabF n as) c) = r.getD c (0, 1) := by
  have hp : ∀ p ∈ n.ps, Lo (partF as p.sh) := fun p hp => lo_told (part_told (g.ps p hp).sh ok.1 ok.2)
  have lt := lo_tab hp
  have sq := sqF n as
  have lc := lo_colA lt c
  have len : r.length = (colA (tabF n as) c).length := by unfold colA; rw [hl, List.length_map, sq.len]
  refine val_inj (lo_dotI lr lc _) (lo_getD lr c) ?_
  have mem : ∀ k, k ∈ keysL n.u n.m 0 → dt n.m (vl (condF n k)) (vl r) = 0 := fun k hk => h _ (List.mem_map.mpr ⟨_, List.mem_map.mpr ⟨k, hk, rfl⟩, rfl⟩)
  have z := kept_ct g hp (w := vl r) (fun s hs => mem _ (mem_keysL.mpr ⟨hs, fun j e => by cases e⟩)) (fun s j hs hj => mem _ (mem_keysL.mpr ⟨hs, fun i e => by cases e; exact hj⟩)) hc
  have e := val_dotI lr lc len (i := r.length) (Nat.le_refl _)
  have e : val (dotF r (colA (tabF n as) c)) = _ := e
  rw [e, hl]
  refine Eq.trans ?_ z
  exact sm_congr fun k hk => by rw [vl_colA sq hk]
theorem row0_set (m c : Nat) : row0 m c = (List.replicate m ((0, 1) : Fr)).set c (1, 1) := by
  have h : (List.range m).map (fun k => if c = k then ((1, 1) : Fr) else (0, 1)) = (List.replicate m ((0, 1) : Fr)).set c (1, 1) := by
    refine List.ext_getElem (by simp) fun k h1 h2 => ?_
    rw [List.getElem_set, List.getElem_map, List.getElem_range, List.getElem_replicate]
  exact h
/-- the law's row with 1 at a free place -/
theorem rf_kerL {m c : Nat} {ld : List Nat} {done : List (List Fr)} (len : ld.length = done.length) (nd : ld.Nodup) (hc : c < m) (hf : c ∉ ld) : rfF m c ld done = kerF m ld done c := by
  have lz : (ld.zip done).length = ld.length := by rw [List.length_zip, len, Nat.min_self]
  have nd' : ((ld.zip done).map Prod.fst).Nodup := by
    rw [List.map_fst_zip (Nat.le_of_eq len)]
    exact nd
  refine List.ext_getElem? fun k => ?_
  by_cases hk : k < m
  · unfold rfF rfI kerF
    rw [List.take_of_length_le (by rw [lz]; exact Nat.le_refl _), fold_at (by rw [List.length_set, List.length_replicate]; exact hk) nd', List.getElem?_map, List.getElem?_range hk]
    show _ = some (kerE ld done c k)
    unfold kerE
    cases q : (ld.zip done).find? fun d => d.1 == k with
    | none =>
      show ((List.replicate m ((0, 1) : Fr)).set c (1, 1))[k]? = _
      by_cases e : k = c
      · subst e
        rw [List.getElem?_set_self (by rw [List.length_replicate]; exact hk), if_pos rfl]
      · rw [List.getElem?_set_ne (fun z => e z.symm), List.getElem?_replicate, if_pos hk, if_neg e]
    | some d =>
      have hm := List.of_mem_zip (List.mem_of_find?_eq_some q)
      have hk2 : d.1 = k := by have := List.find?_some q; simpa using this
      rw [if_neg (fun z => hf (by rw [← z, ← hk2]; exact hm.1))]
  · rw [List.getElem?_eq_none (by unfold rfF; rw [rfI_len]; omega), List.getElem?_eq_none (by rw [ker_len]; omega)]
end KP

set_option Elab.async false
set_option linter.all false
set_option maxRecDepth 100000
set_option maxHeartbeats 4000000
/-! ### vanishing_rows -/
namespace KP
open PySem PySem.Spec PyProof.Rows L2 KX KT KJ KS FR
abbrev sVanish : Stmt := top 19
abbrev nVan : List Str := ["rows", "width", "told", "leaders", "free", "row", "place"]
theorem scVan : FnScope nVan ["rows", "width"] (defScope sVanish) := ⟨rfl, rfl, rfl, by decide +kernel, rfl, by decide +kernel, by decide +kernel⟩
theorem pe_revLK {X : Cx} {K : PySem.W.Frag} {e : Expr} {te : TE} {k : Nat} {p1 p2 p3 pos : Pos} (hk : X.K = K) (h : PE X e te) : PE X (.Subscript e (.Slice none none (some (.UnaryOp .USub (.Constant (.int 1) k p1) p2)) p3) pos) (tRevL K te) := hk ▸ pe_revL h
def spVanish (K : PySem.W.Frag) : Sp := fun vs H Q _ => ∃ u rows, ∃ m b0 : Nat, vs = [u, .int (m : Nat)] ∧ LLR K H u rows ∧ 1 ≤ m ∧ m ≤ 4 ∧ rows.length ≤ 60 ∧ (∀ r ∈ rows, r.length = m ∧ LoL r) ∧ (∀ r ∈ rows, Rb b0 r) ∧ b0 ≤ 200 ∧
  ∀ p H' left done ld, Same H H' → Elf m m b0 ((rows.map List.reverse).map vl) left done ld → RowsL K H' p (outP m ld done) → Q (.ref p) H'
/-- a dict comprehension over it: Pv by the turn and the heap (the new dict at D within) -/
theorem dc_it {J : It} {n : Nat} {G : Hp → Prop} {Y : Nat → Hp → V → Hp → Prop} (w : Walk J n G Y) {g : TG} {tt : TT} {tk tv : TE} {vs : List Nat} {σ : L2.St} {H1 : Hp} {D : Addr} {Qd : Hp → Prop} (Pv : Nat → Hp → Prop) (h0 : Pv 0 (upd H1 D (.dK []))) (hG : ∀ i H, i ≤ n → Pv i H → G H)
    (hs : ∀ i x H H', i < n → Pv i H → Y i H x H' → g x (wipe σ vs) H' fun σ2 H2 => wipe σ2 vs = wipe σ vs ∧ tt σ2 H2 fun b H3 =>
      if b = true then tk σ2 H3 fun y H4 => tv σ2 H4 fun z H5 => ∃ kvs k, y = kV k ∧ H5 D = some (.dK kvs) ∧ kvs.length < sizeLine ∧ Pv (i + 1) (upd H5 D (.dK (putK kvs k z))) else Pv (i + 1) H3) (hd : ∀ H, Pv n H → Qd H) :
    ∃ W : Nat → Nat → Hp → Prop, (∃ m, W 0 m (upd H1 D (.dK []))) ∧ ∀ i m H, W i m H →
      (J.stop i H ∧ Qd H) ∨ (J.go i H ∧ ∃ Nx : Hp → Prop, (∀ H', Nx H' → ∃ m', m' < m ∧ W (i + 1) m' H') ∧ ∀ x H', J.yld i H x H' → g x (wipe σ vs) H' fun σ2 H2 => wipe σ2 vs = wipe σ vs ∧ tt σ2 H2 fun b H3 =>
        if b = true then tk σ2 H3 fun y H4 => tv σ2 H4 fun z H5 => ∃ kvs k, y = kV k ∧ H5 D = some (.dK kvs) ∧ kvs.length < sizeLine ∧ Nx (upd H5 D (.dK (putK kvs k z))) else Nx H3) := by
  refine ⟨fun i m H => m = n - i ∧ i ≤ n ∧ Pv i H, ⟨n, by simp, Nat.zero_le _, h0⟩, ?_⟩
  rintro i m H ⟨rfl, hi, p⟩
  have q := hG i H hi p
  by_cases hlt : i < n
  · exact .inr ⟨w.goes i H hlt q, Pv (i + 1), fun H' p' => ⟨n - (i + 1), by omega, rfl, hlt, p'⟩, fun x H' y => hs i x H H' hlt p (w.yields i H x H' hlt q y)⟩
  · have e : i = n := by omega
    subst e
    exact .inl ⟨w.stops H q, hd H p⟩
/-- the entries that the first i rows give -/
def ldK (lds : List Nat) (us : List V) (i : Nat) : List (Key × V) := ((lds.zip us).take i).map fun p => (Sum.inl ((p.1 : Nat) : Int), p.2)
theorem ldK_succ {lds : List Nat} {us : List V} {i l : Nat} {x : V} (nd : lds.Nodup) (h1 : lds[i]? = some l) (h2 : us[i]? = some x) : putK (ldK lds us i) (Sum.inl ((l : Nat) : Int)) x = ldK lds us (i + 1) := by
  have e : (lds.zip us)[i]? = some (l, x) := by rw [List.getElem?_zip_eq_some]; exact ⟨h1, h2⟩
  have e2 : ldK lds us (i + 1) = ldK lds us i ++ [(Sum.inl ((l : Nat) : Int), x)] := by
    unfold ldK
    rw [List.take_add_one, e, List.map_append]
    rfl
  rw [e2]
  unfold putK
  rw [if_neg]
  intro z
  obtain ⟨p, hp, hk⟩ := List.any_eq_true.mp z
  have hk := of_decide_eq_true hk
  unfold ldK at hp
  obtain ⟨⟨l', x'⟩, hp', rfl⟩ := List.mem_map.mp hp
  obtain ⟨j, hj, ej⟩ := List.getElem_of_mem hp'
  rw [List.length_take] at hj
  have hlj : l' = l := by
    have := Sum.inl.inj hk
    omega
  rw [List.getElem_take] at ej
  have hz : (lds.zip us)[j]? = some (l', x') := by rw [List.getElem?_eq_getElem (by omega), ej]
  obtain ⟨ez1, _⟩ := List.getElem?_zip_eq_some.mp hz
  obtain ⟨a1, b1⟩ := List.getElem?_eq_some_iff.mp ez1
  obtain ⟨a2, b2⟩ := List.getElem?_eq_some_iff.mp h1
  exact List.pairwise_iff_getElem.mp nd j i a1 a2 (by omega) (by rw [b1, b2, hlj])
section
variable {P : Program} {w : World} {K : PySem.W.Frag} {mg : Str → Option Value} {base : Heap}
theorem ok_vanish {f fR fL fF aU aN : Addr} {fd fdR fdL fdF : FuncData} (F : Fun K "vanishing_rows" "vanishing_rows" sVanish f fd) (T : TxD mg)
    (FR : FnOk P w K mg base CX0 5 fR fdR ["rows", "width"] (spReduced K)) (mR : mg "reduced_rows" = some (.ref fR)) (kR : PySem.W.keepIn K (.ref fR) = true) (bR : Binds K fdR ["rows", "width"] [])
    (FL : FnOk P w K mg base CX0 1 fL fdL ["row"] (spLastPl K)) (mL : mg "_last_place" = some (.ref fL)) (kL : PySem.W.keepIn K (.ref fL) = true) (bL : Binds K fdL ["row"] [])
    (FF : FnOk P w K mg base CX0 2 fF fdF ["place", "leaders", "width"] (spRowFrom K)) (mF : mg "_row_from" = some (.ref fF)) (kF : PySem.W.keepIn K (.ref fF) = true) (bF : Binds K fdF ["place", "leaders", "width"] []) :
    FnOk P w K mg base CX0 6 f fd ["rows", "width"] (spVanish K) := by
  refine F.ok scVan (fun vs H Q E h => ?_) (fun cdv A outer s H vs Q E hr h => ?_)
  · obtain ⟨u, rows, m, b0, rfl, _⟩ := h
    rfl
  · obtain ⟨u, rows, m, b0, rfl, hu, m1, m4, r60, hrows, hb, b200, k⟩ := h
    have hr1 : Room 1 _ := hr.mono (by decide)
    have hr2 : Room 2 _ := hr.mono (by decide)
    have hu1 : (A.deeper (envOfC "vanishing_rows" (defScope sVanish) s.heap.objs.size f cdv)).units + 1 < cLine := by have := hr.un; omega
    refine ⟨_, pss_cons (ps_setLc (i := 2) (own := [("row", 5)]) (g := gName 5) rfl scVan.nd rfl rfl (sw_true rfl rfl rfl (by decide +kernel)) (pi_list (pe_call FR hr rfl mR kR bR .nil pass0 (pa_cons (pe_lc (own := [("row", 5)]) (g := gName 5) rfl scVan.nd (pi_list (pv 0)) (blkOk_by (N := nVan) (sc := defScope sVanish) (by decide +kernel))
            (fun _ _ _ _ _ => pg_name (i := 5) scVan.nd rfl (Or.inl rfl)) (fun _ _ _ _ _ => pts_nil) (fun _ _ _ _ _ => pe_revLK (K := K) rfl (pv 5))) (pa_cons (pv 1) pa_nil)))) (blkOk_by (N := nVan) (sc := defScope sVanish) (by decide +kernel))
            (fun _ _ _ _ _ => pg_name (i := 5) scVan.nd rfl (Or.inl rfl)) (fun _ _ _ _ _ => pts_nil) (fun _ _ _ _ _ => pe_revLK (K := K) rfl (pv 5)))
      (pss_cons (ps_set (i := 3) scVan.nd rfl (Or.inr rfl) (pe_dc (own := [("row", 5)]) (g := gName 5) rfl scVan.nd (pi_list (pv 2)) (blkOk_by (N := nVan) (sc := defScope sVanish) (by decide +kernel))
            (fun _ _ _ _ _ => pg_name (i := 5) scVan.nd rfl (Or.inl rfl)) (fun _ _ _ _ _ => pts_nil) (fun _ _ _ _ _ => pe_call FL hr1 (by rfl) mL kL bL .nil pass0 (pa_cons (pv 5) pa_nil)) (fun _ _ _ _ _ => pv 5)))
      (pss_cons (ps_setLc (i := 4) (own := [("place", 6)]) (g := gName 6) rfl scVan.nd rfl rfl (sw_true rfl rfl rfl (by decide +kernel)) (pi_range1 rfl T.range (pa_cons (pv 1) pa_nil)) (blkOk_by (N := nVan) (sc := defScope sVanish) (by decide +kernel))
            (fun _ _ _ _ _ => pg_name (i := 6) scVan.nd rfl (Or.inl rfl)) (fun _ _ _ _ _ => pts_one (pt_cmp (pc_dnotin hu1 (pv 6) (pv 3)))) (fun _ _ _ _ _ => pv 6))
      (pss_one (ps_ret (pe_lc (own := [("place", 6)]) (g := gName 6) rfl scVan.nd (pi_list (pv 4)) (blkOk_by (N := nVan) (sc := defScope sVanish) (by decide +kernel))
            (fun _ _ _ _ _ => pg_name (i := 6) scVan.nd rfl (Or.inl rfl)) (fun _ _ _ _ _ => pts_nil) (fun _ _ _ _ _ => pe_call FF hr2 (by rfl) mF kF bF .nil pass0 (pa_cons (pv 6) (pa_cons (pv 3) (pa_cons (pv 1) pa_nil))))))))), ?_⟩
    obtain ⟨p, us, rfl, ep, lls⟩ := hu
    have lu := lls.len
    have revL : ∀ {H' : Hp} {x : V} {r : List Fr} {D : Addr} {Q : VK}, LstR K H' x r → H' D ≠ none → (∀ w H2, Same H' H2 → LstR K H2 w r.reverse → w ≠ .ref D → Q w H2) → ∃ a xs, x = .ref a ∧ SqL K H' a xs ∧ ∀ q, H' q = none → Q (.ref q) (upd H' q (.lst xs.reverse)) := fun {H' x r D Q} h hD hQ => by
      obtain ⟨a, xs, rfl, e, f⟩ := h
      refine ⟨a, xs, rfl, SqL.of e, fun q hq => hQ _ _ (same_upd hq) ⟨q, _, rfl, upd_same, (f.tk (Tk.same (same_upd hq))).rev⟩ fun z => hD (by cases z; exact hq)⟩
    -- turned rows
    refine ⟨_, rfl, p, rfl, ⟨us, SqL.of ep⟩, fun D1 hD1 => ?_⟩
    refine lc_rows (g := List.reverse) hD1 ep lls (by omega) (fun _ => rfl) (fun x r H1 Q hr' lr s1 nx hDn hQ => ⟨_, rfl, revL lr hDn hQ⟩) fun H1 ys s1 e1 l1 => ?_
    refine ⟨_, rfl, _, rows.map List.reverse, m, b0, rfl, ⟨D1, ys, rfl, e1, l1⟩, m1, m4, by rw [List.length_map]; exact r60, fun r hr' => ?_, fun r hr' => ?_, b200, fun w2 H2 left done ld s2 EF hw => ?_⟩
    · obtain ⟨r0, h0, rfl⟩ := List.mem_map.mp hr'
      obtain ⟨a, b⟩ := hrows r0 h0
      exact ⟨by rw [List.length_reverse]; exact a, fun x hx => b x (List.mem_reverse.mp hx)⟩
    · obtain ⟨r0, h0, rfl⟩ := List.mem_map.mp hr'
      exact rb_rev (hb r0 h0) (hrows r0 h0).1
    obtain ⟨p2, us2, rfl, ep2, lls2⟩ := hw
    have few := EF.few
    have ldn := EF.len
    have lu2 := lls2.len
    -- told
    refine ⟨p2, rfl, ⟨us2, SqL.of ep2⟩, fun D2 hD2 => ?_⟩
    refine lc_rows (g := List.reverse) hD2 ep2 lls2 (by omega) (fun _ => rfl) (fun x r H3 Q hr' lr s3 nx hDn hQ => ⟨_, rfl, revL lr hDn hQ⟩) fun H3 ts s3 e3 l3 => ?_
    have lts := l3.len
    rw [List.length_map] at lts
    have hlt : ∀ l ∈ ld, l < m := fun l hl => by
      obtain ⟨d, hd, e⟩ := (lead_mem EF.len).mpr hl
      rw [← e]
      exact EF.els.ech.lt d hd
    have ascd : ld.Pairwise (· < ·) := by
      rw [← zD_fst EF.len, List.pairwise_map]
      exact EF.els.ech.asc
    have nd : ld.Nodup := ascd.imp fun {a b} h => by omega
    have nd' : (ld.map fun l => m - 1 - l).Nodup := by
      unfold List.Nodup
      rw [List.pairwise_map]
      refine List.Pairwise.imp_of_mem (fun {a b} ha hb n => ?_) nd
      have := hlt a ha
      have := hlt b hb
      omega
    have lead : ∀ {i : Nat} {l : Nat} {r : List Fr}, ld[i]? = some l → done[i]? = some r → r.getD l (0, 1) ≠ (0, 1) ∧ ∀ k, k < l → r.getD k (0, 1) = (0, 1) := fun {i l r} h1 h2 => by
      have hm : (l, KP.vl r) ∈ zD ld done := List.mem_map.mpr ⟨(l, r), List.mem_of_getElem? (show (ld.zip done)[i]? = some (l, r) by rw [List.getElem?_zip_eq_some]; exact ⟨h1, h2⟩), rfl⟩
      have lor := (EF.hd r (List.mem_of_getElem? h2)).2
      refine ⟨fun z => ?_, fun k hk => ?_⟩
      · have o := EF.els.ech.one _ hm
        have o : val (r.getD l (0, 1)) = 1 := o
        rw [z, val0] at o
        exact absurd o (by decide)
      · have o : val (r.getD k (0, 1)) = 0 := EF.els.ech.low _ hm k hk
        exact val_inj (lo_getD lor k) lo0 (by rw [o, val0])
    -- leaders
    refine ⟨_, rfl, D2, rfl, ⟨ts, SqL.of e3⟩, fun D3 hD3 => ?_⟩
    refine dc_it (walk_list (K := K) (a := D2) (xs := ts)) (fun n H' => Same H3 H' ∧ H' D3 = some (.dK (ldK (ld.map fun l => m - 1 - l) ts n))) ⟨same_upd hD3, upd_same⟩ (fun n H' _ z => SqL.of (z.1 _ _ e3)) ?_ ?_
    · rintro i x _ H' hi ⟨s4, e4⟩ ⟨rfl, hx⟩
      obtain ⟨r, er, lr⟩ := l3.get hx
      have hid : i < done.length := by omega
      have hil : i < ld.length := by omega
      have e1 := List.getElem?_eq_getElem hil
      have e2 := List.getElem?_eq_getElem hid
      rw [List.getElem?_map, e2] at er
      cases er
      obtain ⟨q1, q2⟩ := lead e1 e2
      have lm := (EF.hd _ (List.getElem_mem hid)).1
      have ll := hlt _ (List.getElem_mem hil)
      refine ⟨rfl, ?_⟩
      dsimp only [tYes]
      rw [if_pos rfl]
      refine ⟨_, rfl, x, _, m - 1 - ld[i], rfl, lr.same s4, by rw [List.length_reverse, lm]; exact m4, by rw [List.length_reverse, lm]; omega, ?_, fun k h1 h2 => ?_, fun H5 s5 => ⟨_, rfl, _, .inl ((m - 1 - ld[i] : Nat) : Int), rfl, s5 _ _ e4, ?_, fun b o eb => ?_, ?_⟩⟩
      · rw [rev_getD lm (by omega), show m - 1 - (m - 1 - ld[i]) = ld[i] by omega]
        exact q1
      · rw [List.length_reverse, lm] at h2
        rw [rev_getD lm h2]
        exact q2 _ (by omega)
      · unfold ldK
        rw [List.length_map, List.length_take]
        exact Nat.lt_of_le_of_lt (show min i _ ≤ 4 by omega) (by decide)
      · have nb : b ≠ D3 := fun z => by rw [z, hD3] at eb; cases eb
        rw [upd_ne nb]
        exact s5 _ _ (s4 _ _ eb)
      · rw [upd_same, ldK_succ nd' (by rw [List.getElem?_map, e1]; rfl) hx]
    rintro H4 ⟨s4, e4⟩
    have lz : (ld.map fun l => m - 1 - l).length = ts.length := by rw [List.length_map]; omega
    have LD : LdD K H4 D3 (ldK (ld.map fun l => m - 1 - l) ts ts.length) (ld.map fun l => m - 1 - l) (done.map List.reverse) := by
      refine ⟨.inl e4, ?_, fun i k v e => ?_⟩
      · unfold ldK
        rw [List.length_map, List.length_take, List.length_zip]
        omega
      · unfold ldK at e
        rw [List.getElem?_map, List.take_of_length_le (by rw [List.length_zip]; omega)] at e
        cases q : ((ld.map fun l => m - 1 - l).zip ts)[i]? with
        | none => rw [q] at e; cases e
        | some pr =>
          obtain ⟨l, v'⟩ := pr
          rw [q] at e
          cases e
          obtain ⟨h1, h2⟩ := List.getElem?_zip_eq_some.mp q
          obtain ⟨r, er, lr⟩ := l3.get h2
          exact ⟨l, r, h1, er, rfl, lr.same s4⟩
    generalize hK : ldK (ld.map fun l => m - 1 - l) ts ts.length = KV at e4 LD
    have isin : ∀ i, i < m → (valV KV (.inl ((i : Nat) : Int))).isSome = ld.contains (m - 1 - i) := fun i hi => by
      by_cases c : (m - 1 - i) ∈ ld
      · obtain ⟨j, hj, ej⟩ := List.getElem_of_mem c
        have hk : j < KV.length := by rw [LD.len, List.length_map]; exact hj
        obtain ⟨l, r, h1, h2, h3, h4⟩ := LD.keys j KV[j].1 KV[j].2 (List.getElem?_eq_getElem hk)
        have el : l = i := by
          rw [List.getElem?_map, List.getElem?_eq_getElem hj] at h1
          have h1 : m - 1 - ld[j] = l := Option.some.inj h1
          omega
        subst el
        have := LD.val nd' (i := j) (v := KV[j].2) (by rw [List.getElem?_eq_getElem hk, ← h3]) h1
        rw [this]
        simpa using c
      · have z : valV KV (.inl ((i : Nat) : Int)) = none := by
          unfold valV
          have : KV.find? (fun kv => decide (kv.1 = Sum.inl ((i : Nat) : Int))) = none := List.find?_eq_none.mpr fun kv hkv => by
            obtain ⟨j, hj, ej⟩ := List.getElem_of_mem hkv
            obtain ⟨l, r, h1, _, h3, _⟩ := LD.keys j kv.1 kv.2 (by rw [List.getElem?_eq_getElem hj, ej])
            intro z
            have z := of_decide_eq_true z
            rw [h3] at z
            have z := Sum.inl.inj z
            rw [List.getElem?_map] at h1
            cases q : ld[j]? with
            | none => rw [q] at h1; cases h1
            | some l' =>
              rw [q] at h1
              have h1 : m - 1 - l' = l := Option.some.inj h1
              have := hlt l' (List.mem_of_getElem? q)
              exact c (by rw [show m - 1 - i = l' by omega]; exact List.mem_of_getElem? q)
          rw [this]
          rfl
        rw [z]
        simp [c]
    -- free
    refine ⟨_, rfl, (m : Int), rfl, by omega, by omega, fun D4 hD4 => ?_⟩
    refine lc_range (lo := 0) (n := (m : Int).toNat) (fun n H' => Same H4 H' ∧ H' D4 = some (.lst (((List.range n).filter fun q => !ld.contains (m - 1 - q)).map fun k => V.int ((k : Nat) : Int)))) ⟨same_upd hD4, upd_same⟩ ?_ ?_
    · rintro i H' hi ⟨s5, e5⟩
      have him : i < m := by omega
      have ei : (0 : Int) + (i : Int) = ((i : Nat) : Int) := by omega
      refine ⟨rfl, ?_⟩
      rw [ei]
      refine ⟨_, rfl, _, rfl, D3, _, rfl, .inl ⟨_, .inl ((i : Nat) : Int), .inl (s5 _ _ e4), rfl, rfl⟩, _, rfl, ?_⟩
      rw [isin i him]
      refine iteB (fun c => ?_) (fun c => ?_)
      · refine ⟨_, rfl, _, e5, ?_, fun b o eb => ?_, ?_⟩
        · rw [List.length_map]
          have := List.length_filter_le (fun q => !ld.contains (m - 1 - q)) (List.range i)
          rw [List.length_range] at this
          exact Nat.lt_of_le_of_lt (show _ ≤ 4 by omega) (by decide)
        · have nb : b ≠ D4 := fun z => by rw [z, hD4] at eb; cases eb
          rw [upd_ne nb]
          exact s5 _ _ eb
        · have ef : List.filter (fun q => !ld.contains (m - 1 - q)) [i] = [i] := List.filter_cons_of_pos (p := fun q => !ld.contains (m - 1 - q)) c
          rw [upd_same, List.range_succ, List.filter_append, ef, List.map_append]
          rfl
      · refine ⟨s5, ?_⟩
        have ef : List.filter (fun q => !ld.contains (m - 1 - q)) [i] = [] := List.filter_cons_of_neg (p := fun q => !ld.contains (m - 1 - q)) (by rw [c]; decide)
        rw [e5, List.range_succ, List.filter_append, ef, List.append_nil]
    rintro H5 ⟨s5, e5⟩
    rw [Int.toNat_natCast] at e5
    have s45 := s5
    refine ⟨_, rfl, D4, rfl, ⟨_, SqL.of e5⟩, fun D5 hD5 => ?_⟩
    have lenF : ((List.range m).filter fun q => !ld.contains (m - 1 - q)).length ≤ 4 := by
      have := List.length_filter_le (fun q => !ld.contains (m - 1 - q)) (List.range m)
      rw [List.length_range] at this
      omega
    have lenO : (outP m ld done).length = ((List.range m).filter fun q => !ld.contains (m - 1 - q)).length := by unfold outP; rw [List.length_map]
    refine lc_map (walk_list (K := K) (a := D4) (xs := ((List.range m).filter fun q => !ld.contains (m - 1 - q)).map fun k => V.int ((k : Nat) : Int))) (fun H' xs i => RowsT K H' xs ((outP m ld done).take i) ∧ i ≤ (outP m ld done).length) hD5 (by rw [List.length_map]; omega) (fun _ _ i q => by rw [q.1.len, List.length_take]; have := q.2; omega) ⟨by rw [List.take_zero]; exact RowsT.nil, Nat.zero_le _⟩
      (fun H' s => SqL.of (s _ _ e5)) (fun _ => rfl) ?_ ?_
    · rintro i x _ H' xs hi s6 e6 hl6 ⟨q, hle⟩ ⟨rfl, hx⟩
      rw [List.length_map] at hi
      rw [List.getElem?_map, List.getElem?_eq_getElem hi] at hx
      cases hx
      have hmem := List.mem_filter.mp (List.getElem_mem hi)
      have hc : ((List.range m).filter fun q => !ld.contains (m - 1 - q))[i] < m := List.mem_range.mp hmem.1
      have hf : (m - 1 - ((List.range m).filter fun q => !ld.contains (m - 1 - q))[i]) ∉ ld := by simpa using hmem.2
      have eO : (outP m ld done)[i]? = some (kerF m ld done (m - 1 - ((List.range m).filter fun q => !ld.contains (m - 1 - q))[i])).reverse := by
        unfold outP
        rw [List.getElem?_map, List.getElem?_eq_getElem hi]
        rfl
      generalize ((List.range m).filter fun q => !ld.contains (m - 1 - q))[i] = c at hc hf eO ⊢
      have s46 := s5.trans s6
      have LD6 : LdD K H' D3 KV (ld.map fun l => m - 1 - l) (done.map List.reverse) := ⟨.inl (s46 _ _ e4), LD.len, fun j k' v e => by
        obtain ⟨l, r, h1, h2, h3, h4⟩ := LD.keys j k' v e
        exact ⟨l, r, h1, h2, h3, h4.same s46⟩⟩
      refine ⟨_, rfl, _, rfl, _, rfl, c, m, D3, KV, _, _, rfl, s46 _ _ e4, LD6, nd', fun l hl => ?_, fun r hr' => ?_, hc, m4, by rw [List.length_map]; omega, fun w7 H7 s7 h7 => ?_⟩
      · obtain ⟨l', _, rfl⟩ := List.mem_map.mp hl
        omega
      · obtain ⟨r', hr'', rfl⟩ := List.mem_map.mp hr'
        rw [List.length_reverse]
        exact (EF.hd r' hr'').1
      · rw [rf_ker EF.len (fun r hr' => (EF.hd r hr').1) hlt nd hc hf] at h7
        have e7 := s7 _ _ e6
        refine aft hD5 (s6.trans s7) e7 hl6 ⟨?_, by omega⟩
        have tk := Tk.put (ys := xs ++ [w7]) e7
        rw [List.take_add_one, eO]
        exact (q.tk ((Tk.same s7).trans tk)).snoc (h7.tk tk)
    · rintro H' xs s6 e6 ⟨q, _⟩
      rw [List.length_map, ← lenO, List.take_of_length_le (Nat.le_refl _)] at q
      exact k D5 H' left done ld (((s1.trans s2).trans (s3.trans s4)).trans (s5.trans s6)) EF ⟨xs, e6, q⟩
end
end KP

set_option Elab.async false
set_option linter.all false
set_option maxRecDepth 100000
set_option maxHeartbeats 4000000
/-! ### _keeping_rows -/
namespace KP
open PySem PySem.Spec PyProof.Rows L2 KX KT KJ KS FR
abbrev sKeeping : Stmt := top 36
def leafO : Option Nat → Leaf
  | none => .none
  | some j => .num (j : Nat)
def leafK (k : Ky) : List Leaf := [.num (k.1 : Nat), leafO k.2]
theorem leafK_inj {k k' : Ky} (h : leafK k = leafK k') : k = k' := by
  obtain ⟨a, o⟩ := k
  obtain ⟨a', o'⟩ := k'
  have h1 := List.cons.inj h
  have h2 := Leaf.num.inj h1.1
  have h3 := (List.cons.inj h1.2).1
  have ea : a = a' := by
    have h2 : ((a : Nat) : Int) = ((a' : Nat) : Int) := h2
    omega
  subst ea
  cases o with
  | none => cases o' with
    | none => rfl
    | some j => cases h3
  | some j => cases o' with
    | none => cases h3
    | some j' =>
      have h4 : ((j : Nat) : Int) = ((j' : Nat) : Int) := Leaf.num.inj h3
      have : j = j' := by omega
      rw [this]
/-- the program's dict of rows: f tells what the row of a key is -/
structure RowD (P : Program) (w : World) (K : PySem.W.Frag) (H0 H : Hp) (D : Addr) (xs : LfX) (ks : List Ky) (f : Ky → List Fr) : Prop where
  at_ : H D = some (LfO P w D xs)
  key : LfK H xs
  kys : xs.map (·.1) = ks.map leafK
  row : ∀ (j : Nat) (x : List Leaf × Addr × Addr) (k : Ky), xs[j]? = some x → ks[j]? = some k → ∃ vs, H x.2.2 = some (.lst vs) ∧ FrL K H vs (f k)
  nd : (xs.map fun x => x.2.2).Nodup
  new : ∀ x ∈ xs, H0 x.2.2 = none
  newD : H0 D = none
  kn : ks.Nodup
section
variable {P : Program} {w : World} {K : PySem.W.Frag} {H0 H H1 : Hp} {D : Addr} {xs : LfX} {ks : List Ky} {f : Ky → List Fr}
theorem RowD.len (h : RowD P w K H0 H D xs ks f) : xs.length = ks.length := by
  have := congrArg List.length h.kys
  rw [List.length_map, List.length_map] at this
  exact this
theorem RowD.same (h : RowD P w K H0 H D xs ks f) (s : Same H H1) : RowD P w K H0 H1 D xs ks f :=
  ⟨s _ _ h.at_, fun x hx => s _ _ (h.key x hx), h.kys, fun j x k a b => let ⟨vs, e, q⟩ := h.row j x k a b; ⟨vs, s _ _ e, q.tk (Tk.same s)⟩, h.nd, h.new, h.newD, h.kn⟩
theorem RowD.fn {g : Ky → List Fr} (h : RowD P w K H0 H D xs ks f) (e : ∀ k ∈ ks, f k = g k) : RowD P w K H0 H D xs ks g :=
  ⟨h.at_, h.key, h.kys, fun j x k a b => let ⟨vs, e1, q⟩ := h.row j x k a b; ⟨vs, e1, by rw [← e k (List.mem_of_getElem? b)]; exact q⟩, h.nd, h.new, h.newD, h.kn⟩
/-- storing in a row -/
theorem RowD.put (h : RowD P w K H0 H D xs ks f) {j : Nat} {x : List Leaf × Addr × Addr} {k : Ky} (hx : xs[j]? = some x) (hk : ks[j]? = some k) {vs : List V} (e : H x.2.2 = some (.lst vs)) (q : FrL K H vs (f k)) {a : Nat} {u : V} {y : Fr} (s : Same H H1) (fu : FrV K H1 u y) :
    RowD P w K H0 (upd H1 x.2.2 (.lst (vs.set a u))) D xs ks (fun k' => if k' = k then (f k).set a y else f k') := by
  have h1 := h.same s
  have e1 := s _ _ e
  have nD : D ≠ x.2.2 := fun z => by
    have := h1.at_
    rw [z, e1] at this
    cases this
  have tk := Tk.put (ys := vs.set a u) e1
  refine ⟨by rw [upd_ne nD]; exact h1.at_, fun y hy => ?_, h.kys, fun j' x' k' a' b' => ?_, h.nd, h.new, h.newD, h.kn⟩
  · have z := h1.key y hy
    have n : y.2.1 ≠ x.2.2 := fun q => by
      rw [q, e1] at z
      cases z
    rw [upd_ne n]
    exact z
  · by_cases c : k' = k
    · have ej : j' = j := by
        obtain ⟨p1, p2⟩ := List.getElem?_eq_some_iff.mp b'
        obtain ⟨p3, p4⟩ := List.getElem?_eq_some_iff.mp hk
        exact (List.getElem_inj h.kn).mp (by rw [p2, p4, c])
      subst ej
      rw [hx] at a'
      cases a'
      subst c
      refine ⟨vs.set a u, upd_same, ?_⟩
      rw [if_pos rfl]
      exact ((q.tk (Tk.same s)).set a fu).tk tk
    · obtain ⟨vs', e', q'⟩ := h1.row j' x' k' a' b'
      have n : x'.2.2 ≠ x.2.2 := fun z => by
        have ej : j' = j := by
          obtain ⟨p1, p2⟩ := List.getElem?_eq_some_iff.mp a'
          obtain ⟨p3, p4⟩ := List.getElem?_eq_some_iff.mp hx
          refine (List.getElem_inj h.nd (h₀ := by rw [List.length_map]; exact p1) (h₁ := by rw [List.length_map]; exact p3)).mp ?_
          rw [List.getElem_map, List.getElem_map, p2, p4, z]
        subst ej
        rw [hk] at b'
        exact c (Option.some.inj b').symm
      refine ⟨vs', by rw [upd_ne n]; exact e', ?_⟩
      rw [if_neg c]
      exact q'.tk tk
theorem RowD.nil {H' : Hp} (hD : H0 D = none) (e : H' D = some (LfO P w D [])) : RowD P w K H0 H' D [] [] f :=
  ⟨e, (fun x hx => by cases hx), rfl, (fun j x k a => by cases a), List.nodup_nil, (fun x hx => by cases hx), hD, List.nodup_nil⟩
/-- a new row -/
theorem RowD.snoc (h : RowD P w K H0 H D xs ks f) {k : Ky} {p d : Addr} {vs : List V} (hp : H p = some (.tup ((leafK k).map leafV))) (hd : H d = some (.lst vs)) (q : FrL K H vs (f k)) (hk : k ∉ ks) (h0 : H0 d = none) (hn : ∀ x ∈ xs, x.2.2 ≠ d) :
    RowD P w K H0 (upd H D (LfO P w D (xs ++ [(leafK k, p, d)]))) D (xs ++ [(leafK k, p, d)]) (ks ++ [k]) f := by
  have tk : Tk H (upd H D (LfO P w D (xs ++ [(leafK k, p, d)]))) := fun b u hb => by
    obtain ⟨ys, rfl, r⟩ := of_tO hb
    have nb : b ≠ D := fun z => by
      rw [z] at r
      rcases r with r | ⟨o, r⟩ <;> rw [h.at_] at r <;> cases r
    refine tO_rd ?_
    rcases r with r | ⟨o, r⟩
    · exact .inl (by rw [upd_ne nb]; exact r)
    · exact .inr ⟨o, by rw [upd_ne nb]; exact r⟩
  have ll := h.len
  have lst : ∀ {b : Addr} {ys : List V}, H b = some (.lst ys) → upd H D (LfO P w D (xs ++ [(leafK k, p, d)])) b = some (.lst ys) := fun {b ys} e => by
    rw [upd_ne fun z => by rw [z, h.at_] at e; cases e]
    exact e
  refine ⟨upd_same, fun x hx => ?_, ?_, fun j x k' a b => ?_, ?_, fun x hx => ?_, h.newD, ?_⟩
  · have z : H x.2.1 = some (.tup (x.1.map leafV)) := by
      rcases List.mem_append.mp hx with hx | hx
      · exact h.key x hx
      · rw [List.mem_singleton.mp hx]
        exact hp
    rw [upd_ne fun y => by rw [y, h.at_] at z; cases z]
    exact z
  · rw [List.map_append, List.map_append, h.kys]
    rfl
  · by_cases c : j < xs.length
    · rw [List.getElem?_append_left c] at a
      rw [List.getElem?_append_left (by omega)] at b
      obtain ⟨vs', e', q'⟩ := h.row j x k' a b
      exact ⟨vs', lst e', q'.tk tk⟩
    · rw [List.getElem?_append_right (by omega)] at a
      rw [List.getElem?_append_right (by omega)] at b
      have e : j - xs.length = 0 := by
        have := (List.getElem?_eq_some_iff.mp a).1
        rw [List.length_singleton] at this
        omega
      rw [e] at a
      rw [← ll, e] at b
      cases a
      cases b
      exact ⟨vs, lst hd, q.tk tk⟩
  · rw [List.map_append, List.nodup_append]
    refine ⟨h.nd, by simp, fun y hy z hz => ?_⟩
    obtain ⟨x, hx, rfl⟩ := List.mem_map.mp hy
    have hz : z ∈ [d] := hz
    rw [List.mem_singleton.mp hz]
    exact hn x hx
  · rcases List.mem_append.mp hx with hx | hx
    · exact h.new x hx
    · rw [List.mem_singleton.mp hx]
      exact h0
  · rw [List.nodup_append]
    refine ⟨h.kn, by simp, fun y hy z hz => ?_⟩
    rw [List.mem_singleton.mp hz]
    exact fun e => hk (e ▸ hy)
theorem lls_get : ∀ {us : List V} {rs : List (List Fr)}, us.length = rs.length → (∀ (i : Nat) (u : V) (r : List Fr), us[i]? = some u → rs[i]? = some r → LstR K H u r) → LLs K H us rs
  | [], [], _, _ => .nil
  | u :: us, r :: rs, hl, h => .cons (h 0 u r rfl rfl) (lls_get (by simpa using hl) fun i v s a b => h (i + 1) v s (by simpa using a) (by simpa using b))
  | [], _ :: _, hl, _ => by simp at hl
  | _ :: _, [], hl, _ => by simp at hl
theorem RowD.lls (h : RowD P w K H0 H D xs ks f) : LLs K H (xs.map fun x => V.ref x.2.2) (ks.map f) := by
  refine lls_get (by rw [List.length_map, List.length_map, h.len]) fun i u r a b => ?_
  rw [List.getElem?_map] at a b
  cases e1 : xs[i]? with
  | none => rw [e1] at a; cases a
  | some x =>
    cases e2 : ks[i]? with
    | none => rw [e2] at b; cases b
    | some k =>
      rw [e1] at a
      rw [e2] at b
      cases a
      cases b
      obtain ⟨vs, e, q⟩ := h.row i x k e1 e2
      exact ⟨_, vs, rfl, e, q⟩
end
/-- f(row[a], u) stored at row[a] -/
theorem i_rowset {K : PySem.W.Frag} {σ : L2.St} {H : Hp} {r : Addr} {vs : List V} {row : List Fr} {a : Nat} {E : XK} {ro so uo : Nat} {u : V} {y : Fr} {g : Fr → Fr → Fr} {D : Ends} (e : H r = some (.lst vs)) (q : FrL K H vs row) (ha : a < row.length) (h1 : σ[ro]? = some (some (.ref r))) (h2 : σ[so]? = some (some (.int (a : Nat)))) (h3 : σ[uo]? = some (some u))
    (fu : FrV K H u y) (z1 : Sz 4000 (row.getD a (0, 1))) (z2 : Sz 4000 y) (nx : ∀ H1 v, Same H H1 → FrV K H1 v (g (row.getD a (0, 1)) y) → D.nx σ (upd H1 r (.lst (vs.set a v)))) :
    tAsg (tCall (spBin K g) [] E (tCons (tOp (rIxL K) (tVar ro) (tVar so)) (tCons (tVar uo) tNil))) (gSub (tVar ro) (tVar so) rSetL) D σ H := by
  have lv := q.len
  obtain ⟨x, ex, fx⟩ := frl_at q ha
  refine ⟨_, h1, _, h2, r, vs, _, x, rfl, rfl, SqL.of e, atI_nat ex, _, h3, x, u, _, y, rfl, fx, fu, z1, z2, fun v H1 s1 f1 => ?_⟩
  exact ⟨_, h1, _, h2, r, vs, _, a, rfl, rfl, s1 _ _ e, ixN_nat (by omega), nx H1 v s1 f1⟩
abbrev nKe : List Str := ["net", "rows", "start", "end", "share", "key", "weight", "row"]
theorem scKe : FnScope nKe ["net"] (defScope sKeeping) := ⟨rfl, rfl, rfl, by decide +kernel, rfl, by decide +kernel, by decide +kernel⟩
def spKeeping (K : PySem.W.Frag) : Sp := fun vs H Q _ => ∃ x n, vs = [x] ∧ GoodN n ∧ Th (tO H) x (NetM.d n) ∧ ∀ (p : Addr) (H' : Hp) (ks : List Ky), Same H H' → LLR K H' (.ref p) (ks.map (condF n)) → (∀ p ∈ n.ps, keyP p ∈ ks) → (∀ k ∈ ks, ∃ p ∈ n.ps, keyP p = k) → ks.length ≤ 12 → Q (.ref p) H'
theorem keys_few : ∀ {ks : List Ky} {ps : List Pp}, ks.Nodup → (∀ k ∈ ks, ∃ p ∈ ps, keyP p = k) → ks.length ≤ ps.length
  | [], _, _, _ => Nat.zero_le _
  | k :: ks, ps, nd, h => by
    rw [List.nodup_cons] at nd
    obtain ⟨p, hp, rfl⟩ := h k List.mem_cons_self
    obtain ⟨a, b, rfl⟩ := List.append_of_mem hp
    have z := keys_few (ks := ks) (ps := a ++ b) nd.2 fun k' hk' => by
      obtain ⟨p', hp', e⟩ := h k' (List.mem_cons_of_mem _ hk')
      refine ⟨p', ?_, e⟩
      rcases List.mem_append.mp hp' with q | q
      · exact List.mem_append_left _ q
      · rcases List.mem_cons.mp q with rfl | q
        · exact absurd (e ▸ hk') nd.1
        · exact List.mem_append_right _ q
    rw [List.length_append] at z
    rw [List.length_cons, List.length_append, List.length_cons]
    omega
theorem condI_fresh {n : NetM} {k : Ky} {i : Nat} (h : ∀ p ∈ n.ps.take i, keyP p ≠ k) : condI n k i = List.replicate n.m (0, 1) := by
  unfold condI
  generalize n.ps.take i = ps at h
  generalize List.replicate n.m ((0, 1) : Fr) = r
  induction ps generalizing r with
  | nil => rfl
  | cons p ps ih =>
    rw [List.foldl_cons]
    have : condS k r p = r := if_neg (h p List.mem_cons_self)
    rw [this]
    exact ih (fun q hq => h q (List.mem_cons_of_mem _ hq)) r
end KP

set_option Elab.async false
set_option linter.all false
set_option maxRecDepth 100000
set_option maxHeartbeats 4000000
/-! ### _keeping_rows: its promise -/
namespace KP
open PySem PySem.Spec PyProof.Rows L2 KX KT KJ KS FR
/-- d.setdefault(key, row) -/
theorem lset_old {P : Program} {w : World} {K : PySem.W.Frag} {H0 H3 : Hp} {D : Addr} {xs : LfX} {ks : List Ky} {f : Ky → List Fr} {k : Ky} (R : RowD P w K H0 H3 D xs ks f) {x : List Leaf × Addr × Addr} (hx : x ∈ xs) (e : x.1 = leafK k) : ∃ j : Nat, xs[j]? = some x ∧ ks[j]? = some k := by
  have ll := R.len
  obtain ⟨j, hj, rfl⟩ := List.getElem_of_mem hx
  have hjk : j < ks.length := by omega
  have ek : ks[j] = k := by
    have e1 : (xs.map (·.1))[j]? = (ks.map leafK)[j]? := by rw [R.kys]
    rw [List.getElem?_map, List.getElem?_map, List.getElem?_eq_getElem hj, List.getElem?_eq_getElem hjk] at e1
    have e1 : xs[j].1 = leafK ks[j] := Option.some.inj e1
    exact leafK_inj (by rw [← e1, e])
  exact ⟨j, List.getElem?_eq_getElem hj, by rw [List.getElem?_eq_getElem hjk, ek]⟩
theorem lset_new {P : Program} {w : World} {K : PySem.W.Frag} {H0 H3 : Hp} {D : Addr} {xs : LfX} {ks : List Ky} {f : Ky → List Fr} {k : Ky} (R : RowD P w K H0 H3 D xs ks f) (hnx : ∀ x ∈ xs, x.1 ≠ leafK k) : k ∉ ks := fun z => by
  have ll := R.len
  obtain ⟨j, hj, ej⟩ := List.getElem_of_mem z
  have hjx : j < xs.length := by omega
  have e1 : (xs.map (·.1))[j]? = (ks.map leafK)[j]? := by rw [R.kys]
  rw [List.getElem?_map, List.getElem?_map, List.getElem?_eq_getElem hj, List.getElem?_eq_getElem hjx, ej] at e1
  exact hnx _ (List.getElem_mem hjx) (Option.some.inj e1)
theorem tk_upd {P : Program} {w : World} {H : Hp} {D : Addr} {xs : LfX} {o : HO} (e : H D = some (LfO P w D xs)) : Tk H (upd H D o) := fun b u hb => by
  obtain ⟨ys, rfl, r⟩ := of_tO hb
  have nb : b ≠ D := fun z => by
    rw [z] at r
    rcases r with r | ⟨o, r⟩ <;> rw [e] at r <;> cases r
  refine tO_rd ?_
  rcases r with r | ⟨o, r⟩
  · exact .inl (by rw [upd_ne nb]; exact r)
  · exact .inr ⟨o, by rw [upd_ne nb]; exact r⟩
section
variable {P : Program} {w : World} {K : PySem.W.Frag} {mg : Str → Option Value} {base : Heap}
theorem ok_keeping {f fL fA aU aN : Addr} {fd fdL fdA : FuncData} (F : Fun K "_keeping_rows" "_keeping_rows" sKeeping f fd) (T : TxD mg) (C : Cst K mg aU aN)
    (FL : FnOk P w K mg base CX0 3 fL fdL ["one", "two"] (spBin K lesF)) (mL : mg "lessened" = some (.ref fL)) (kL : PySem.W.keepIn K (.ref fL) = true) (bL : Binds K fdL ["one", "two"] [])
    (FA : FnOk P w K mg base CX0 2 fA fdA ["one", "two"] (spBin K addF)) (mA : mg "added" = some (.ref fA)) (kA : PySem.W.keepIn K (.ref fA) = true) (bA : Binds K fdA ["one", "two"] []) :
    FnOk P w K mg base CX0 4 f fd ["net"] (spKeeping K) := by
  refine F.ok scKe (fun vs H Q E h => ?_) (fun cdv A outer s H vs Q E hr h => ?_)
  · obtain ⟨x, n, rfl, _⟩ := h
    rfl
  · obtain ⟨x, n, rfl, g, th, k⟩ := h
    have hu : (A.deeper (envOfC "_keeping_rows" (defScope sKeeping) s.heap.objs.size f cdv)).in1.units < cLine := by have := hr.un; show _ + 1 < _; omega
    have hh : (A.deeper (envOfC "_keeping_rows" (defScope sKeeping) s.heap.objs.size f cdv)).handled = none := hr.hd
    refine ⟨_, pss_cons (ps_set (i := 1) scKe.nd rfl (Or.inl rfl) pe_lnew)
      (pss_cons (ps_for PassesOwn.never rfl (pi_tup (pe_ix ix_tup (pv 0) pe_int (fun _ _ => rfl))) (pg_tup rfl (pgs_cons (pg_name (i := 2) scKe.nd rfl (Or.inl rfl)) (pgs_cons (pg_name (i := 3) scKe.nd rfl (Or.inl rfl)) (pgs_cons (pg_name (i := 4) scKe.nd rfl (Or.inl rfl)) pgs_nil))))
        (pss_cons (ps_par (i := 5) (j := 6) (by rfl) scKe.nd rfl rfl (by decide) rfl rfl (pa_cons (pe_tup (pa_cons (pv 2) (pa_cons pe_non pa_nil))) (pa_cons (pv 4) pa_nil)) (by rfl))
        (Evl.pss_cut (ps_if (pt_cmpR op_eq (pe_ix ix_tup (pv 4) pe_int (fun _ _ => rfl)) pe_str (nomark _)) (pss_one (ps_par (i := 5) (j := 6) (by rfl) scKe.nd rfl rfl (by decide) rfl rfl (pa_cons (pe_tup (pa_cons (pv 2) (pa_cons (pe_ix ix_tup (pv 4) pe_int (fun _ _ => rfl)) pa_nil))) (pa_cons (pe_glob (v := .ref aU) (by rfl) C.mU rfl) pa_nil)) (by rfl))) pss_nil)
        (Evl.pss_cut (ps_set (i := 7) scKe.nd rfl (Or.inl rfl) (pe_lsetd hu (pv 1) (pv 5) (pe_op op_rep (pe_lst (pa_cons (pe_glob (v := .ref aN) (by rfl) C.mN rfl) pa_nil)) (pe_ix ix_tup (pv 0) pe_int (fun _ _ => rfl))) ⟨rfl, rfl, rfl, rfl⟩))
        (pss_cons (ps_asg (pe_call FL hr rfl mL kL bL .nil pass0 (pa_cons (pe_ix ix_list (pv 7) (pv 2) (fun _ _ => rfl)) (pa_cons (pv 6) pa_nil))) (pg_sub (pv 7) (pv 2) set_list))
        (pss_one (ps_if (pt_cmpR op_notN1 (pv 3) pe_non (nomark _)) (pss_one (ps_asg (pe_call FA (hr.mono (by decide)) rfl mA kA bA .nil pass0 (pa_cons (pe_ix ix_list (pv 7) (pv 3) (fun _ _ => rfl)) (pa_cons (pv 6) pa_nil))) (pg_sub (pv 7) (pv 3) set_list))) pss_nil)))))))
      (pss_one (ps_ret (pe_callTy (r := rListV P w) (by exact call_list_view hh) (by rfl) T.list (by decide +kernel) (pa_cons (pe_lvals (pv 1)) pa_nil))))), ?_⟩
    obtain ⟨a, ps, fs, ss, rfl, ea, tps, _, _⟩ := net_parts th
    have m4 := g.m4
    have l12 := g.len
    intro D hD
    have sD := same_upd (o := LfO P w D []) hD
    obtain ⟨pa, pvs, rfl, ep, tpv⟩ := tup_parts tps
    have lp : pvs.length = n.ps.length := by rw [all2 tpv, List.length_map]
    refine ⟨_, rfl, a, _, _, _, rfl, rfl, SqT.of (sD.rd (tO_same H _ _ ea)), rfl, pa, rfl, ⟨pvs, SqT.of (sD.rd (tO_same H _ _ ep))⟩, ?_⟩
    refine for_it (walk_tup (K := K) (a := pa) (xs := pvs)) (fun i σ H' => (∃ o2 o3 o4 o5 o6 o7, σ = [some (.ref a), some (.ref D), o2, o3, o4, o5, o6, o7]) ∧ Same H H' ∧ ∃ (xs : LfX) (ks : List Ky), RowD P w K H H' D xs ks (fun k => condI n k i) ∧ (∀ p ∈ n.ps.take i, keyP p ∈ ks) ∧ ∀ k ∈ ks, ∃ p ∈ n.ps.take i, keyP p = k)
      ⟨⟨none, none, none, none, none, none, rfl⟩, sD, [], [], RowD.nil hD upd_same, (fun p hp => by simp at hp), fun k hk => by cases hk⟩
      (fun i σ H' _ z => SqT.of (tO_same H' _ _ ((Tk.same z.2.1) _ _ ep))) ?_ ?_
    · rintro i v σ _ H' hi ⟨⟨o2, o3, o4, o5, o6, o7, rfl⟩, gr, xs, ks, R, in1, in2⟩ ⟨rfl, hv⟩
      have tk5 := Tk.same gr
      obtain ⟨d, hd, td⟩ := all_get tpv hv
      have hip : i < n.ps.length := by omega
      have epi := List.getElem?_eq_getElem hip
      rw [List.getElem?_map, epi] at hd
      cases hd
      have gp := g.ps _ (List.getElem_mem hip)
      have et : n.ps.take (i + 1) = n.ps.take i ++ [n.ps[i]] := by rw [List.take_add_one, epi]; rfl
      have cs : ∀ k, condI n k (i + 1) = condS k (condI n k i) n.ps[i] := fun k => condI_succ epi
      have cb : ∀ k, RBd i (condI n k i) := fun k => cond_bd g k (by omega)
      rw [et]
      generalize n.ps[i] = p at td gp cs et
      obtain ⟨b, sv, rfl, eb, tsv⟩ := pipe_parts (td.tk tk5)
      obtain ⟨a1, y, rfl, ea1, hy⟩ := share_parts tsv
      refine ⟨b, _, rfl, SqT.of (tO_same H' _ _ eb), rfl, _, _, rfl, _, _, rfl, _, _, rfl, rfl, ?_⟩
      refine ⟨_, rfl, by show 2 ≤ sizeLine; decide, fun q1 hq1 => ⟨_, rfl, _, _, rfl, ?_⟩⟩
      have s1 := same_upd (o := .tup [V.int (p.s : Nat), V.non]) hq1
      have wt := wt_told gp
      refine ⟨fun σ' H2 => ∃ kp u o7, σ' = [some (.ref a), some (.ref D), some (.int (p.s : Nat)), some (enV p.e), some (.ref a1), some (.ref kp), some u, o7] ∧ Same H' H2 ∧ H2 kp = some (.tup ((leafK (keyP p)).map leafV)) ∧ FrV K H2 u (wtP p), ?_, ?_⟩
      · refine i_if (b := decide (markV p.sh = .str "x")) (ti_test (vi_op (vi_mark rfl ((Tk.same s1) _ _ ea1)) vi_c fun Q q => ⟨mark_scal p.sh, q⟩)) (fun c => ?_) (fun c => ?_)
        · cases hs : p.sh with
          | inr x =>
            rw [hs] at c
            simp [markV] at c
          | inl j =>
            obtain rfl := hy j hs
            rw [hs] at ea1
            refine ⟨_, rfl, _, rfl, a1, _, _, _, rfl, rfl, SqT.of (tO_same _ _ _ ((Tk.same s1) _ _ ea1)), rfl, by show 2 ≤ sizeLine; decide, fun q2 hq2 => ⟨_, _, rfl, ?_⟩⟩
            have s2 := same_upd (o := .tup [V.int (p.s : Nat), V.int (j : Nat)]) hq2
            refine ⟨q2, .ref aU, _, rfl, s1.trans s2, ?_, ?_⟩
            · unfold keyP
              rw [hs]
              exact upd_same
            · unfold wtP
              rw [hs]
              exact FrV.cst C.cU
        · cases hs : p.sh with
          | inl j =>
            rw [hs] at c
            simp [markV] at c
          | inr x =>
            rw [hs] at tsv
            refine ⟨q1, .ref a1, _, rfl, s1, ?_, ?_⟩
            · unfold keyP
              rw [hs]
              exact upd_same
            · unfold wtP
              rw [hs]
              exact (frv_of tsv).tk (Tk.same s1)
      · rintro σ' H2 ⟨kp, u, o7', rfl, s2, ekp, fu⟩
        have R2 := R.same s2
        have g2 := gr.trans s2
        refine ⟨fun σ3 H4 => ∃ (xs' : LfX) (ks' : List Ky) (j : Nat) (x : List Leaf × Addr × Addr), σ3 = [some (.ref a), some (.ref D), some (.int (p.s : Nat)), some (enV p.e), some (.ref a1), some (.ref kp), some u, some (.ref x.2.2)] ∧ RowD P w K H H4 D xs' ks' (fun k => condI n k i) ∧ xs'[j]? = some x ∧ ks'[j]? = some (keyP p) ∧ (∀ k' ∈ ks, k' ∈ ks') ∧ (∀ k' ∈ ks', k' = keyP p ∨ k' ∈ ks) ∧ Same H H4 ∧ FrV K H4 u (wtP p), ?_, ?_⟩
        · refine ⟨_, rfl, D, xs, rfl, R2.at_, _, rfl, by show 1 ≤ sizeLine; decide, fun l0 hl0 => ⟨_, rfl, a, _, _, _, rfl, rfl, SqT.of (tO_same _ _ _ ((Tk.same (g2.trans (same_upd hl0))) _ _ ea)), rfl, ?_⟩⟩
          have s3 := same_upd (o := .lst [V.ref aN]) hl0
          refine ⟨l0, _, _, rfl, rfl, upd_same, by omega, by omega, Nat.le_trans (show [V.ref aN].length * ((n.m : Nat) : Int).toNat ≤ 4 by rw [Int.toNat_natCast]; simp; omega) (by decide), fun q hq => ?_⟩
          rw [show (List.replicate ((n.m : Nat) : Int).toNat [V.ref aN]).flatten = List.replicate n.m (V.ref aN) by rw [Int.toNat_natCast]; exact List.flatten_replicate_singleton]
          have s4 := s3.trans (same_upd (o := .lst (List.replicate n.m (V.ref aN))) hq)
          have eq1 : upd (upd H2 l0 (.lst [V.ref aN])) q (.lst (List.replicate n.m (V.ref aN))) q = some (.lst (List.replicate n.m (V.ref aN))) := upd_same
          have nq : H q = none := none_same (g2.trans s3) hq
          have R3 := R2.same s4
          have hn : ∀ x ∈ xs, x.2.2 ≠ q := fun x hx z => by
            obtain ⟨j, hj, rfl⟩ := List.getElem_of_mem hx
            have hjk : j < ks.length := by rw [← R.len]; exact hj
            obtain ⟨vs, e, _⟩ := (R2.same s3).row j _ _ (List.getElem?_eq_getElem hj) (List.getElem?_eq_getElem hjk)
            rw [z, hq] at e
            cases e
          have ekp' := s4 _ _ ekp
          have fu' := fu.tk (Tk.same s4)
          have g4 := g2.trans s4
          generalize upd (upd H2 l0 (.lst [V.ref aN])) q (.lst (List.replicate n.m (V.ref aN))) = H3 at g4 eq1 R3 ekp' fu' ⊢
          have kl : ks.length ≤ i := by
            have := keys_few R.kn in2
            rw [List.length_take] at this
            omega
          have ll := R3.len
          refine ⟨xs, leafK (keyP p), kp, q, R3.at_, R3.key, rfl, ekp', rfl, Nat.lt_of_lt_of_le (show xs.length < 1000 by rw [R.len]; omega) (by decide), fun x hx e => ?_, fun hnx => ?_⟩
          · obtain ⟨j, hj1, hj2⟩ := lset_old R3 hx e
            exact ⟨xs, ks, j, x, rfl, R3, hj1, hj2, fun k' h => h, fun k' h => .inr h, g4, fu'⟩
          · have nk := lset_new R3 hnx
            have qv : FrL K H3 (List.replicate n.m (V.ref aN)) (condI n (keyP p) i) := by
              rw [condI_fresh (k := keyP p) (i := i) fun p' hp' e => nk (by rw [← e]; exact in1 p' hp')]
              exact FrL.rep (FrV.cst C.cN) n.m
            refine ⟨_, _, xs.length, (leafK (keyP p), kp, q), rfl, R3.snoc ekp' eq1 qv nk nq hn, by rw [List.getElem?_append_right (Nat.le_refl _), Nat.sub_self]; rfl, by rw [ll, List.getElem?_append_right (Nat.le_refl _), Nat.sub_self]; rfl, fun k' h => List.mem_append_left _ h, fun k' h => ?_, same_put g4 hD, fu'.tk (tk_upd R3.at_)⟩
            rcases List.mem_append.mp h with h | h
            · exact .inr h
            · exact .inl (List.mem_singleton.mp h)
        rintro σ3 H4 ⟨xs', ks', j, x, rfl, R4, hx, hk, up, down, gr4, fu4⟩
        obtain ⟨vs, ev, qv⟩ := R4.row j x (keyP p) hx hk
        have bd := cb (keyP p)
        have cl : (condI n (keyP p) i).length = n.m := condI_len _ _ _
        have i12 : i ≤ 12 := by omega
        have R4' : ∀ k' ∈ ks', k' ≠ keyP p → condI n k' i = condI n k' (i + 1) := fun k' _ ne => by
          rw [cs]
          exact (if_neg (fun z => ne z.symm)).symm
        have ep1 : condI n (keyP p) (i + 1) = putF (condI n (keyP p) i) p (wtP p) := by
          rw [cs]
          exact if_pos rfl
        have J1 : ∀ p' ∈ n.ps.take i ++ [p], keyP p' ∈ ks' := fun p' hp' => by
          rcases List.mem_append.mp hp' with h | h
          · exact up _ (in1 p' h)
          · rw [List.mem_singleton.mp h]
            exact List.mem_of_getElem? hk
        have J2 : ∀ k' ∈ ks', ∃ p' ∈ n.ps.take i ++ [p], keyP p' = k' := fun k' hk' => by
          rcases down k' hk' with rfl | h
          · exact ⟨p, List.mem_append_right _ (List.mem_singleton.mpr rfl), rfl⟩
          · obtain ⟨p', hp', e⟩ := in2 k' h
            exact ⟨p', List.mem_append_left _ hp', e⟩
        refine i_rowset (ro := 7) (so := 2) (uo := 6) ev qv (by rw [cl]; exact gp.s) rfl rfl rfl fu4 (bd.sz i12 (getD_mem (by rw [cl]; exact gp.s))) (told_sz wt) fun H5 v5 s5 f5 => ?_
        have R5 := R4.put (a := p.s) hx hk ev qv s5 f5
        have nx : H x.2.2 = none := R4.new x (List.mem_of_getElem? hx)
        have gr5 := same_put (o := .lst (vs.set p.s v5)) (gr4.trans s5) nx
        have tk45 : Tk H4 (upd H5 x.2.2 (.lst (vs.set p.s v5))) := (Tk.same s5).trans (Tk.put (s5 _ _ ev))
        have fu5 := fu4.tk tk45
        refine i_if (b := !decide (enV p.e = .non)) (ti_test (vi_op (vi_var rfl) vi_c fun Q q => ⟨rfl, q⟩)) (fun z => ?_) (fun z => ?_)
        · cases he : p.e with
          | none => rw [he] at z; cases z
          | some k' =>
            have hk' := gp.e k' he
            obtain ⟨vs5, ev5, qv5⟩ := R5.row j x (keyP p) hx hk
            rw [if_pos rfl] at qv5
            have gd : ((condI n (keyP p) i).set p.s (lesF ((condI n (keyP p) i).getD p.s (0, 1)) (wtP p))).getD k' (0, 1) = (condI n (keyP p) i).getD k' (0, 1) := by
              rw [List.getD_eq_getElem?_getD, List.getElem?_set_ne (fun z => hk'.2 z.symm), ← List.getD_eq_getElem?_getD]
            refine i_rowset (ro := 7) (so := 3) (uo := 6) ev5 qv5 (by rw [List.length_set, cl]; exact hk'.1) rfl rfl rfl fu5 (by rw [gd]; exact bd.sz i12 (getD_mem (by rw [cl]; exact hk'.1))) (told_sz wt) fun H6 v6 s6 f6 => ?_
            have R6 := R5.put (a := k') hx hk ev5 (by rw [if_pos rfl]; exact qv5) s6 f6
            refine ⟨⟨_, _, _, _, _, _, rfl⟩, same_put (gr5.trans s6) nx, xs', ks', R6.fn fun k1 hk1 => ?_, J1, J2⟩
            by_cases c : k1 = keyP p
            · subst c
              rw [if_pos rfl, if_pos rfl, ep1]
              unfold putF
              rw [he]
            · rw [if_neg c, if_neg c]
              exact R4' k1 hk1 c
        · cases he : p.e with
          | some k' => rw [he] at z; simp [enV] at z
          | none =>
            refine ⟨⟨_, _, _, _, _, _, rfl⟩, gr5, xs', ks', R5.fn fun k1 hk1 => ?_, J1, J2⟩
            by_cases c : k1 = keyP p
            · subst c
              rw [if_pos rfl, ep1]
              unfold putF
              rw [he]
            · rw [if_neg c]
              exact R4' k1 hk1 c
    · rintro σ H5 ⟨⟨o2, o3, o4, o5, o6, o7, rfl⟩, gr5, xs, ks, R, in1, in2⟩
      rw [lp, List.take_length] at in1 in2
      have kl : ks.length ≤ 12 := Nat.le_trans (keys_few R.kn in2) l12
      refine ⟨_, rfl, D, xs, rfl, R.at_, fun v hv => ?_⟩
      have sv := same_upd (o := viewO v D) hv
      refine ⟨v, D, xs, rfl, upd_same, sv _ _ R.at_, fun l hl => ?_⟩
      have sl := same_upd (o := .lst (xs.map fun x => V.ref x.2.2)) hl
      have e : (fun k => condI n k pvs.length) = condF n := funext fun k => by rw [lp]; exact condI_all n k
      have L := (R.same (sv.trans sl)).lls
      rw [e] at L
      exact k l _ ks (gr5.trans (sv.trans sl)) ⟨l, _, rfl, upd_same, L⟩ in1 in2 kl
end
end KP

set_option Elab.async false
set_option linter.all false
set_option maxRecDepth 100000
set_option maxHeartbeats 4000000
set_option exponentiation.threshold 100000
/-! ### the law's less, by, over with greater numbers -/
namespace KP
open PySem PySem.Spec PyProof.Rows L2 KX KT KJ KS FR
/-- two fractions whose denominators together stay below 9000 figures -/
structure Wz (x y : Fr) : Prop where
  zx : Sz 30000 x
  zy : Sz 30000 y
  d : (x.2 * y.2).natAbs < 2 ^ 9000
theorem Wz.pos {x y : Fr} (h : Wz x y) : 0 < x.2 * y.2 := Int.mul_pos h.zx.pos h.zy.pos
theorem Wz.of {a b : Nat} {x y : Fr} (hx : Sz a x) (hy : Sz b y) (h : a + b ≤ 9000) : Wz x y :=
  ⟨hx.mono (by omega), hy.mono (by omega), Nat.lt_of_lt_of_le (wide_lt hx.d hy.d) (Nat.pow_le_pow_right (by decide) h)⟩
def spBinW (K : PySem.W.Frag) (f : Fr → Fr → Fr) : Sp := fun vs H Q _ => ∃ u v x y, vs = [u, v] ∧ FrV K H u x ∧ FrV K H v y ∧ Wz x y ∧ ∀ r H', Same H H' → FrV K H' r (f x y) → Q r H'
def spOvW (K : PySem.W.Frag) : Sp := fun vs H Q _ => ∃ u v x y, vs = [u, v] ∧ FrV K H u x ∧ FrV K H v y ∧ Sz 30000 x ∧ Sz 30000 y ∧ y.1 ≠ 0 ∧ (x.2 * y.1).natAbs < 2 ^ 9000 ∧ ∀ r H', Same H H' → FrV K H' r (ovF x y) → Q r H'
theorem i_setIf2 {t : TT} {ta tb : TE} {i : Nat} {b : Bool} {σ : L2.St} {H : Hp} {D : Ends} (h : Ti t σ H b) (h1 : b = true → ta σ H fun v H1 => D.nx (σ.set i (some v)) H1) (h2 : b = false → tb σ H fun v H1 => D.nx (σ.set i (some v)) H1) : tAsg (tIf t ta tb) (gName i) D σ H := h _ (iteB h1 h2)
section
variable {P : Program} {w : World} {K : PySem.W.Frag} {mg : Str → Option Value} {base : Heap}
theorem ok_lessW {f fL : Addr} {fd fdL : FuncData} (F : Fun K "_law_less" "_law_less" lLess f fd) (FL : FnOk P w K mg base CX0 1 fL fdL ["top", "low"] spLow) (mL : mg "_law_frac" = some (.ref fL)) (kL : PySem.W.keepIn K (.ref fL) = true) (bL : Binds K fdL ["top", "low"] []) :
    FnOk P w K mg base CX0 2 f fd ["one", "two"] (spBinW K lesF) := by
  refine F.ok scLessL (fun vs H Q E h => ?_) (fun cdv A outer s H vs Q E hr h => ?_)
  · obtain ⟨u, v, x, y, rfl, _⟩ := h
    rfl
  · obtain ⟨u, v, x, y, rfl, hx, hy, wz, k⟩ := h
    have zx := wz.zx
    have zy := wz.zy
    refine ⟨_, pss_one (ps_ret (pe_call FL hr rfl mL kL bL .nil pass0 (pa_cons (pe_op op_sub (pe_op op_mulW (pe_ix ix_tup (pv 0) pe_int (fun _ _ => rfl)) (pe_ix ix_tup (pv 1) pe_int (fun _ _ => rfl))) (pe_op op_mulW (pe_ix ix_tup (pv 1) pe_int (fun _ _ => rfl)) (pe_ix ix_tup (pv 0) pe_int (fun _ _ => rfl))))
        (pa_cons (pe_op op_mulW (pe_ix ix_tup (pv 0) pe_int (fun _ _ => rfl)) (pe_ix ix_tup (pv 1) pe_int (fun _ _ => rfl))) pa_nil)))), ?_⟩
    refine ret_call (K := K) (D := { nx := _, rt := Q }) (ai_cons (vi_sub (vi_mul (vi_ix0 rfl hx) (vi_ix1 rfl hy) (cmul (a := 29999) (b := 29999) zx.n zy.d (by decide))) (vi_mul (vi_ix0 rfl hy) (vi_ix1 rfl hx) (cmul (a := 29999) (b := 29999) zy.n zx.d (by decide)))) (ai_cons (vi_mul (vi_ix1 rfl hx) (vi_ix1 rfl hy) (cmul (a := 29999) (b := 29999) zx.d zy.d (by decide))) ai_nil)) ?_
    exact ⟨_, _, rfl, wz.pos, wz.d, fun p hp => k _ _ (same_upd hp) (FrV.new (x := lesF x y))⟩
theorem ok_byW {f fL : Addr} {fd fdL : FuncData} (F : Fun K "_law_by" "_law_by" lBy f fd) (FL : FnOk P w K mg base CX0 1 fL fdL ["top", "low"] spLow) (mL : mg "_law_frac" = some (.ref fL)) (kL : PySem.W.keepIn K (.ref fL) = true) (bL : Binds K fdL ["top", "low"] []) :
    FnOk P w K mg base CX0 2 f fd ["one", "two"] (spBinW K mulF) := by
  refine F.ok scByL (fun vs H Q E h => ?_) (fun cdv A outer s H vs Q E hr h => ?_)
  · obtain ⟨u, v, x, y, rfl, _⟩ := h
    rfl
  · obtain ⟨u, v, x, y, rfl, hx, hy, wz, k⟩ := h
    have zx := wz.zx
    have zy := wz.zy
    refine ⟨_, pss_one (ps_ret (pe_call FL hr rfl mL kL bL .nil pass0 (pa_cons (pe_op op_mulW (pe_ix ix_tup (pv 0) pe_int (fun _ _ => rfl)) (pe_ix ix_tup (pv 1) pe_int (fun _ _ => rfl)))
        (pa_cons (pe_op op_mulW (pe_ix ix_tup (pv 0) pe_int (fun _ _ => rfl)) (pe_ix ix_tup (pv 1) pe_int (fun _ _ => rfl))) pa_nil)))), ?_⟩
    refine ret_call (K := K) (D := { nx := _, rt := Q }) (ai_cons (vi_mul (vi_ix0 rfl hx) (vi_ix0 rfl hy) (cmul (a := 29999) (b := 29999) zx.n zy.n (by decide))) (ai_cons (vi_mul (vi_ix1 rfl hx) (vi_ix1 rfl hy) (cmul (a := 29999) (b := 29999) zx.d zy.d (by decide))) ai_nil)) ?_
    exact ⟨_, _, rfl, wz.pos, wz.d, fun p hp => k _ _ (same_upd hp) (FrV.new (x := mulF x y))⟩
abbrev lOverW : Stmt := top 46
theorem scOverW : FnScope ["one", "two", "sign"] ["one", "two"] (defScope lOverW) := ⟨rfl, rfl, rfl, by decide +kernel, rfl, by decide +kernel, by decide +kernel⟩
theorem ok_overW {f fF : Addr} {fd fdF : FuncData} (F : Fun K "_law_over" "_law_over" lOverW f fd)
    (FF : FnOk P w K mg base CX0 1 fF fdF ["top", "low"] spLow) (mF : mg "_law_frac" = some (.ref fF)) (kF : PySem.W.keepIn K (.ref fF) = true) (bF : Binds K fdF ["top", "low"] []) :
    FnOk P w K mg base CX0 2 f fd ["one", "two"] (spOvW K) := by
  refine F.ok scOverW (fun vs H Q E h => ?_) (fun cdv A outer s H vs Q E hr h => ?_)
  · obtain ⟨u, v, x, y, rfl, _⟩ := h
    rfl
  · obtain ⟨u, v, x, y, rfl, hx, hy, zx, zy, y0, dz, k⟩ := h
    refine ⟨_, Evl.pss_cut (ps_set (i := 2) scOverW.nd rfl (Or.inl rfl) (pe_ifExp (pt_cmpR op_gt (pe_ix ix_tup (pv 1) pe_int (fun _ _ => rfl)) pe_int (nomark _)) pe_int (pe_un un_neg pe_int)))
      (pss_one (ps_ret (pe_call FF hr rfl mF kF bF .nil pass0 (pa_cons (pe_op op_mulW (pe_op op_mulW (pv 2) (pe_ix ix_tup (pv 0) pe_int (fun _ _ => rfl))) (pe_ix ix_tup (pv 1) pe_int (fun _ _ => rfl)))
        (pa_cons (pe_op op_mulW (pe_op op_mulW (pv 2) (pe_ix ix_tup (pv 0) pe_int (fun _ _ => rfl))) (pe_ix ix_tup (pv 1) pe_int (fun _ _ => rfl))) pa_nil))))), ?_⟩
    refine ⟨fun σ' H' => σ' = [some u, some v, some (.int (sgF y))] ∧ H' = H, ?_, ?_⟩
    · refine i_setIf2 (b := decide (y.1 > 0)) (ti_test (vi_op (vi_ix0 rfl hy) vi_c fun Q q => ⟨_, _, rfl, rfl, q⟩)) (fun c => ⟨?_, rfl⟩) (fun c => ⟨_, rfl, ?_, rfl⟩)
      · unfold sgF
        rw [if_pos (of_decide_eq_true c)]
        rfl
      · unfold sgF
        rw [if_neg (of_decide_eq_false c)]
        rfl
    · rintro σ' H' ⟨rfl, rfl⟩
      have sg1 : (sgF y).natAbs = 1 := by unfold sgF; split <;> rfl
      have sgb : (sgF y).natAbs < 2 ^ (0 + 1) := by rw [sg1]; decide
      have m1 : (sgF y * x.1).natAbs < 2 ^ (29999 + 1) := by
        rw [Int.natAbs_mul, sg1, Nat.one_mul]
        exact zx.n
      have m2 : (sgF y * x.2).natAbs < 2 ^ (29999 + 1) := by
        rw [Int.natAbs_mul, sg1, Nat.one_mul]
        exact zx.d
      refine ret_call (K := K) (D := { nx := _, rt := Q }) (ai_cons (vi_mul (vi_mul (vi_var rfl) (vi_ix0 rfl hx) (cmul (a := 0) (b := 29999) sgb zx.n (by decide))) (vi_ix1 rfl hy) (cmul (a := 29999) (b := 29999) m1 zy.d (by decide))) (ai_cons (vi_mul (vi_mul (vi_var rfl) (vi_ix1 rfl hx) (cmul (a := 0) (b := 29999) sgb zx.d (by decide))) (vi_ix0 rfl hy) (cmul (a := 29999) (b := 29999) m2 zy.n (by decide))) ai_nil)) ?_
      refine ⟨_, _, rfl, sg_pos zx.pos y0, ?_, fun p hp => k _ _ (same_upd hp) (FrV.new (x := ovF x y))⟩
      rw [Int.mul_assoc, Int.natAbs_mul, sg1, Nat.one_mul]
      exact dz
end
end KP

set_option Elab.async false
set_option linter.all false
set_option maxRecDepth 100000
set_option maxHeartbeats 4000000
/-! ### the law's _law_cleared -/
namespace KP
open PySem PySem.Spec PyProof.Rows L2 KX KT KJ KS FR
abbrev lCleared : Stmt := top 56
structure ClrW (r l : List Fr) (c : Nat) : Prop where
  len : r.length = l.length
  l4 : r.length ≤ 4
  c4 : c < r.length
  sz : ∀ k, Wz (r.getD c (0, 1)) (l.getD k (0, 1)) ∧ Wz (r.getD k (0, 1)) (mulF (r.getD c (0, 1)) (l.getD k (0, 1)))
def spClrL (K : PySem.W.Frag) : Sp := fun vs H Q _ => ∃ u v r l, ∃ c : Nat, vs = [u, v, .int (c : Nat)] ∧ LstR K H u r ∧ LstR K H v l ∧ ClrW r l c ∧ ∀ w H', Same H H' → LstR K H' w (clrF r l c) → (∀ D : Addr, H D ≠ none → w ≠ .ref D) → Q w H'
abbrev nClL : List Str := ["row", "first", "column", "by", "x", "y"]
theorem scClL : FnScope nClL ["row", "first", "column"] (defScope lCleared) := ⟨rfl, rfl, rfl, by decide +kernel, rfl, by decide +kernel, by decide +kernel⟩
section
variable {P : Program} {w : World} {K : PySem.W.Frag} {mg : Str → Option Value} {base : Heap}
theorem ok_clrL {f fM fL : Addr} {fd fdM fdL : FuncData} (F : Fun K "_law_cleared" "_law_cleared" lCleared f fd) (mZ : mg "zip" = none)
    (FM : FnOk P w K mg base CX0 2 fM fdM ["one", "two"] (spBinW K mulF)) (mM : mg "_law_by" = some (.ref fM)) (kM : PySem.W.keepIn K (.ref fM) = true) (bM : Binds K fdM ["one", "two"] [])
    (FL : FnOk P w K mg base CX0 2 fL fdL ["one", "two"] (spBinW K lesF)) (mL : mg "_law_less" = some (.ref fL)) (kL : PySem.W.keepIn K (.ref fL) = true) (bL : Binds K fdL ["one", "two"] []) :
    FnOk P w K mg base CX0 3 f fd ["row", "first", "column"] (spClrL K) := by
  refine F.ok scClL (fun vs H Q E h => ?_) (fun cdv A outer s H vs Q E hr h => ?_)
  · obtain ⟨u, v, r, l, c, rfl, _⟩ := h
    rfl
  · obtain ⟨u, v, r, l, c, rfl, hu, hv, ok, k⟩ := h
    refine ⟨_, pss_cons (ps_set (i := 3) scClL.nd rfl (Or.inr rfl) (pe_ix ix_list (pv 0) (pv 2) (fun _ _ => rfl)))
      (pss_one (ps_ret (pe_lc (own := [("x", 4), ("y", 5)]) (g := gTup K 2 (gCons (gName 4) (gCons (gName 5) gNil))) rfl scClL.nd (RZ.pi_zipA (by rfl) mZ (pa_cons (pv 0) (pa_cons (pv 1) pa_nil))) (blkOk_by (N := nClL) (sc := defScope lCleared) (by decide +kernel))
        (fun _ _ _ _ _ => by exact pg_tup rfl (pgs_cons (pg_name (i := 4) scClL.nd rfl (Or.inl rfl)) (pgs_cons (pg_name (i := 5) scClL.nd rfl (Or.inl rfl)) pgs_nil))) (fun _ _ _ _ _ => pts_nil)
        (fun _ _ _ _ _ => pe_call FL hr (by rfl) mL kL bL .nil pass0 (pa_cons (pv 4) (pa_cons (pe_call FM hr (by rfl) mM kM bM .nil pass0 (pa_cons (pv 3) (pa_cons (pv 5) pa_nil))) pa_nil)))))), ?_⟩
    obtain ⟨a, us, rfl, ea, ru⟩ := hu
    obtain ⟨b, ws, rfl, eb, rw'⟩ := hv
    have lu := ru.len
    have lw := rw'.len
    have len := ok.len
    have l4 := ok.l4
    obtain ⟨x, ex, fx⟩ := frl_at ru (j := c) ok.c4
    refine ⟨_, rfl, _, rfl, a, us, _, x, rfl, rfl, SqL.of ea, atI_nat ex, ?_⟩
    refine ⟨_, rfl, _, rfl, a, b, us, ws, rfl, .inl ⟨SqL.of ea, SqL.of eb, fun D hD => ?_⟩⟩
    refine lc_it (walk_zip (K := K) (a := a) (b := b) (xs := us) (ys := ws) (n := r.length) (by omega)) (fun n H' => Same H H' ∧ ∃ xs, H' D = some (.lst xs) ∧ FrL K H' xs ((clrF r l c).take n) ∧ n ≤ r.length) ⟨same_upd hD, [], upd_same, by rw [List.take_zero]; exact FrL.nil, Nat.zero_le _⟩
      (fun n H' _ z => ⟨SqL.of (z.1 _ _ ea), SqL.of (z.1 _ _ eb)⟩) ?_ ?_
    · rintro i v H' H'' hi ⟨s1, xs, eD, q, hle⟩ ⟨U, x1, y1, rfl, hU, rfl, hx1, hy1⟩
      have sU := same_upd (o := .tup [x1, y1]) hU
      have s2 : Same H _ := s1.trans sU
      have e1 := List.getElem?_eq_getElem (show i < r.length by omega)
      have e2 := List.getElem?_eq_getElem (show i < l.length by omega)
      have f1 := (ru.get i _ _ hx1 e1).tk (Tk.same s2)
      have f2 := (rw'.get i _ _ hy1 e2).tk (Tk.same s2)
      obtain ⟨z1, z2⟩ := ok.sz i
      have g1 : r.getD i (0, 1) = r[i] := getD_in _ (by omega)
      have g2 : l.getD i (0, 1) = l[i] := getD_in _ (by omega)
      rw [g2] at z1 z2
      rw [g1] at z2
      refine ⟨U, _, rfl, SqT.of upd_same, rfl, _, _, rfl, _, _, rfl, rfl, rfl, ?_⟩
      dsimp only [tYes]
      rw [if_pos rfl]
      refine ⟨_, rfl, _, rfl, _, rfl, x, y1, _, _, rfl, fx.tk (Tk.same s2), f2, z1, fun wm H3 s3 fm => ?_⟩
      refine ⟨x1, wm, _, _, rfl, f1.tk (Tk.same s3), fm, z2, fun wl H4 s4 fl => ?_⟩
      have s24 := s3.trans s4
      have eD4 := s24 _ _ (sU _ _ eD)
      refine ⟨xs, eD4, ?_, fun b' o eb' => ?_, xs ++ [wl], upd_same, ?_, by omega⟩
      · rw [q.len, List.length_take]
        exact Nat.lt_of_le_of_lt (show min i (clrF r l c).length ≤ 4 by omega) (by decide)
      · have nb : b' ≠ D := fun z => by rw [z, hD] at eb'; cases eb'
        rw [upd_ne nb]
        exact s24 _ _ (s2 _ _ eb')
      · have tk := Tk.put (ys := xs ++ [wl]) eD4
        have ec : (clrF r l c)[i]? = some (lesF r[i] (mulF (r.getD c (0, 1)) l[i])) := by
          unfold clrF
          rw [List.getElem?_zipWith, e1, e2]
        rw [List.take_add_one, ec]
        exact (q.tk ((Tk.same (sU.trans s24)).trans tk)).snoc (fl.tk tk)
    · rintro H' ⟨s1, xs, eD, q, _⟩
      rw [List.take_of_length_le (by rw [clr_len len]; omega)] at q
      exact k _ _ s1 ⟨D, xs, rfl, eD, q⟩ fun D' n z => n (by cases z; exact hD)
end
end KP

set_option Elab.async false
set_option linter.all false
set_option maxRecDepth 100000
set_option maxHeartbeats 4000000
/-! ### lists of rows as data -/
namespace KP
open PySem PySem.Spec PyProof.Rows L2 KX KT KJ KS FR
def rowD (r : List Fr) : PyData := .list (r.map fD)
def rowsD (rs : List (List Fr)) : PyData := .list (rs.map rowD)
theorem layAllK_of : ∀ {ds : List PyData}, (∀ d ∈ ds, d.canLay0 = true) → PyData.canLayAll0 ds = true
  | [], _ => rfl
  | d :: ds, h => by
    simp only [PyData.canLayAll0, Bool.and_eq_true]
    exact ⟨h d List.mem_cons_self, layAllK_of fun e he => h e (List.mem_cons_of_mem _ he)⟩
theorem lay_lstK {n : Nat} {ds : List PyData} (h : ∀ d ∈ ds, d.canLay0 = true ∧ d.depth ≤ n) : (PyData.list ds).canLay0 = true ∧ (PyData.list ds).depth ≤ n + 1 := by
  refine ⟨by simp only [PyData.canLay0]; exact layAllK_of fun d hd => (h d hd).1, ?_⟩
  simp only [PyData.depth]
  have := depthAll_of (ds := ds) fun d hd => (h d hd).2
  omega
theorem shaped_rows (rs : List (List Fr)) : SeqAt.shaped (rowsD rs) = true := by
  have a := lay_lstK (n := 3) (ds := rs.map rowD) fun d hd => by
    obtain ⟨r, _, rfl⟩ := List.mem_map.mp hd
    exact lay_lstK (n := 2) fun d hd => by
      obtain ⟨x, _, rfl⟩ := List.mem_map.mp hd
      exact ⟨(flat_fr x).1, (flat_fr x).2.1⟩
  exact shaped_of a.1 (Nat.le_trans a.2 (by decide))
theorem eqv_rows (rs : List (List Fr)) : PyData.eqv (rowsD rs) (.list []) = rs.isEmpty := by
  cases rs with
  | nil => rfl
  | cons r rs => simp [rowsD, PyData.eqv, PyData.eqvAll]
theorem dp_row {K : PySem.W.Frag} {H : Hp} {v : V} {r : List Fr} (h : LstR K H v r) : Dp K H v (rowD r) := by
  obtain ⟨p, xs, rfl, e, f⟩ := h
  exact .lst (SqL.of e) (dpAll_of f.len fun k v x a b => dp_fr (f.get k v x a b))
theorem dp_rowsAll {K : PySem.W.Frag} {H : Hp} : ∀ {us : List V} {rs : List (List Fr)}, LLs K H us rs → DpAll K H us (rs.map rowD)
  | [], [], _ => .nil
  | _ :: _, _ :: _, .cons a b => .cons (dp_row a) (dp_rowsAll b)
end KP

set_option Elab.async false
set_option linter.all false
set_option maxRecDepth 100000
set_option maxHeartbeats 4000000
/-! ### the law's _law_solved -/
namespace KP
open PySem PySem.Spec PyProof.Rows L2 KX KT KJ KS FR
abbrev lSolved : Stmt := top 55
abbrev nSol : List Str := ["rows", "many", "left", "leads", "done", "column", "some", "first", "row", "x"]
theorem scSol : FnScope nSol ["rows", "many"] (defScope lSolved) := ⟨rfl, rfl, rfl, by decide +kernel, rfl, by decide +kernel, by decide +kernel⟩
/-- rows that are not 0 all over -/
def nzR (rows : List (List Fr)) : Nat := (rows.filter fun r => r.any fun x => !decide (x = (0, 1))).length
def nzB (r : List Fr) : Bool := r.any fun x => !decide (x = (0, 1))
theorem nz_le {g : List Fr → List Fr} : ∀ {L : List (List Fr)}, (∀ r ∈ L, nzB (g r) = true → nzB r = true) → ((L.map g).filter nzB).length ≤ (L.filter nzB).length
  | [], _ => Nat.le_refl _
  | a :: L, h => by
    have ih := nz_le (g := g) (L := L) fun r hr => h r (List.mem_cons_of_mem _ hr)
    rw [List.map_cons]
    by_cases c : nzB (g a) = true
    · rw [List.filter_cons_of_pos c, List.filter_cons_of_pos (h a List.mem_cons_self c), List.length_cons, List.length_cons]
      omega
    · rw [List.filter_cons_of_neg c]
      by_cases d : nzB a = true
      · rw [List.filter_cons_of_pos d, List.length_cons]
        omega
      · rw [List.filter_cons_of_neg d]
        exact ih
/-- the leader's row is gone -/
theorem nz_step {g : List Fr → List Fr} : ∀ {L : List (List Fr)} {r0 : List Fr}, (∀ r ∈ L, nzB (g r) = true → nzB r = true) → r0 ∈ L → nzB r0 = true → nzB (g r0) ≠ true → ((L.map g).filter nzB).length + 1 ≤ (L.filter nzB).length
  | a :: L, r0, h, hm, h1, h2 => by
    have hL : ∀ r ∈ L, nzB (g r) = true → nzB r = true := fun r hr => h r (List.mem_cons_of_mem _ hr)
    rw [List.map_cons]
    by_cases e : a = r0
    · subst e
      rw [List.filter_cons_of_neg h2, List.filter_cons_of_pos h1, List.length_cons]
      have := nz_le (g := g) hL
      omega
    · have hm : r0 ∈ L := (List.mem_cons.mp hm).resolve_left fun z => e z.symm
      have ih := nz_step (g := g) hL hm h1 h2
      by_cases c : nzB (g a) = true
      · rw [List.filter_cons_of_pos c, List.filter_cons_of_pos (h a List.mem_cons_self c), List.length_cons, List.length_cons]
        omega
      · rw [List.filter_cons_of_neg c]
        by_cases d : nzB a = true
        · rw [List.filter_cons_of_pos d, List.length_cons]
          omega
        · rw [List.filter_cons_of_neg d]
          exact ih
def spSolved (K : PySem.W.Frag) : Sp := fun vs H Q _ => ∃ u rows, ∃ m b0 J : Nat, vs = [u, .int (m : Nat)] ∧ LLR K H u rows ∧ 1 ≤ m ∧ m ≤ 4 ∧ rows.length ≤ 60 ∧ (∀ r ∈ rows, r.length = m ∧ LoL r) ∧ (∀ r ∈ rows, Rb b0 r) ∧ (m ≤ J + 1 ∨ rows.length ≤ J + 1) ∧ 3 * ((b0 + 1) * 2 ^ J) ≤ 9000 ∧
  ∀ t a p q H' left done ld us, Same H H' → Elf m m b0 (rows.map vl) left done ld → t = V.ref a → H' a = some (.tup [.ref p, .ref q]) → H' p = some (.lst us) → LLs K H' us done → H' q = some (.lst (ld.map fun l => V.int ((l : Nat) : Int))) → Q t H'
theorem LLs.ne {K : PySem.W.Frag} {H : Hp} {q : Addr} (hq : H q = none) : ∀ {us : List V} {rs : List (List Fr)}, LLs K H us rs → ∀ y ∈ us, y ≠ .ref q
  | _ :: _, _ :: _, .cons a b, y, hy => by
    rcases List.mem_cons.mp hy with rfl | h
    · intro z
      obtain ⟨p, xs, e1, e2, _⟩ := a
      rw [z] at e1
      cases e1
      rw [hq] at e2
      cases e2
    · exact LLs.ne hq b y h
/-- [g row for row in rows], and what is true of each made row's address -/
theorem lc_rowsP {K : PySem.W.Frag} {a : Addr} {j : Nat} {vs : List Nat} {σ : L2.St} {te : TE} {H1 : Hp} {D : Addr} {Qd : Hp → Prop} {us : List V} {rows : List (List Fr)} {g : List Fr → List Fr} {Pr : V → Prop} (hD : H1 D = none) (ea : H1 a = some (.lst us)) (ll : LLs K H1 us rows) (hn : us.length ≤ 1000)
    (hw : ∀ x : V, wipe ((wipe σ vs).set j (some x)) vs = wipe σ vs)
    (ht : ∀ (x : V) (r : List Fr) (H' : Hp) (Q : VK), r ∈ rows → LstR K H' x r → Same H1 H' → x ≠ .ref D → H' D ≠ none → (∀ w H2, Same H' H2 → LstR K H2 w (g r) → w ≠ .ref D → Pr w → Q w H2) → te ((wipe σ vs).set j (some x)) H' Q)
    (hd : ∀ H' ys, Same H1 H' → H' D = some (.lst ys) → LLs K H' ys (rows.map g) → (∀ y ∈ ys, Pr y) → Qd H') :
    ∃ W : Nat → Nat → Hp → Prop, (∃ m, W 0 m (upd H1 D (.lst []))) ∧ ∀ i m H, W i m H →
      ((Itl K a).stop i H ∧ Qd H) ∨ ((Itl K a).go i H ∧ ∃ Nx : Hp → Prop, (∀ H', Nx H' → ∃ m', m' < m ∧ W (i + 1) m' H') ∧ ∀ x H', (Itl K a).yld i H x H' → gName j x (wipe σ vs) H' fun σ2 H2 => wipe σ2 vs = wipe σ vs ∧ tYes σ2 H2 fun b H3 =>
        if b = true then te σ2 H3 fun y H4 => ∃ acc, H4 D = some (.lst acc) ∧ acc.length < sizeLine ∧ Nx (upd H4 D (.lst (acc ++ [y]))) else Nx H3) := by
  have lu := ll.len
  refine lc_map (walk_list (K := K) (a := a) (xs := us)) (fun H' ys i => (LLs K H' ys ((rows.map g).take i) ∧ (∀ y ∈ ys, y ≠ .ref D) ∧ ∀ y ∈ ys, Pr y) ∧ i ≤ rows.length) hD hn (fun _ _ i q => by rw [q.1.1.len, List.length_take, List.length_map]; have := q.2; omega) ⟨⟨by rw [List.take_zero]; exact .nil, (fun y hy => by cases hy), fun y hy => by cases hy⟩, Nat.zero_le _⟩
    (fun H' s => SqL.of (s _ _ ea)) hw ?_ ?_
  · rintro i x _ H' xs hi s e hl ⟨⟨q, nd, pr⟩, hle⟩ ⟨rfl, hx⟩
    obtain ⟨r, er, lr⟩ := ll.get hx
    have nx : x ≠ .ref D := fun z => by
      obtain ⟨b, ys, e1, e2, _⟩ := lr
      rw [z] at e1
      cases e1
      rw [hD] at e2
      cases e2
    refine ht x r H' _ (List.mem_of_getElem? er) (lr.same s) s nx (by rw [e]; simp) fun w H2 s2 lw nw pw => ?_
    have e2 := s2 _ _ e
    refine aft hD (s.trans s2) e2 hl ⟨⟨?_, fun y hy => ?_, fun y hy => ?_⟩, by omega⟩
    · rw [List.take_add_one, List.getElem?_map, er]
      exact (LLs.put e2 (q.same s2) nd).snoc (lw.put nw e2)
    · rcases List.mem_append.mp hy with h | h
      · exact nd y h
      · rw [List.mem_singleton.mp h]
        exact nw
    · rcases List.mem_append.mp hy with h | h
      · exact pr y h
      · rw [List.mem_singleton.mp h]
        exact pw
  · rintro H' xs s e ⟨⟨q, _, pr⟩, _⟩
    rw [lu, List.take_of_length_le (by rw [List.length_map]; omega)] at q
    exact hd H' xs s e q pr
theorem nzB_iff {r : List Fr} (lo : LoL r) : nzB r = true ↔ ∃ k, KP.vl r k ≠ 0 := by
  unfold nzB
  rw [List.any_eq_true]
  constructor
  · rintro ⟨x, hx, h⟩
    obtain ⟨k, hk, rfl⟩ := List.getElem_of_mem hx
    refine ⟨k, fun z => ?_⟩
    have z : val (r.getD k (0, 1)) = 0 := z
    rw [getD_in _ hk] at z
    have e := val_inj (lo _ (List.getElem_mem hk)) lo0 (by rw [z, val0])
    rw [e] at h
    exact absurd h (by decide)
  · rintro ⟨k, h⟩
    by_cases hk : k < r.length
    · refine ⟨r[k], List.getElem_mem hk, ?_⟩
      rw [decide_eq_false]
      · rfl
      · intro z
        have e : KP.vl r k = val (r.getD k (0, 1)) := rfl
        rw [e, getD_in _ hk, z, val0] at h
        exact h rfl
    · rw [vl_out hk] at h
      exact absurd rfl h
/-- sizes in the law's own reducing -/
theorem elf_clrW {m c b0 J : Nat} {C : List Vc} {left done : List (List Fr)} {ld : List Nat} {r0 r : List Fr} (E : Elf m c b0 C left done ld) (hJ : ld.length ≤ J) (h9 : 3 * ((b0 + 1) * 2 ^ J) ≤ 9000) (hc : c < m) (m4 : m ≤ 4) (h0 : r0 ∈ left) (hn : (r0.getD c (0, 1)).1 ≠ 0) (hr : r ∈ left ∨ r ∈ done) : ClrW r (ledF r0 c) c ∧ ∀ y ∈ r, Sz ((b0 + 1) * 2 ^ J) y := by
  have p8 : 2 ^ ld.length ≤ 2 ^ J := Nat.pow_le_pow_right (by decide) hJ
  have q1 : (b0 + 1) * 2 ^ ld.length ≤ (b0 + 1) * 2 ^ J := Nat.mul_le_mul_left _ p8
  have q2 : (b0 + 1) * (2 ^ ld.length - 1) ≤ (b0 + 1) * 2 ^ J := Nat.mul_le_mul_left _ (Nat.le_trans (Nat.sub_le _ _) p8)
  obtain ⟨l0, lo0⟩ := E.hl r0 h0
  have bf := ((E.bl r0 h0).led lo0 hn).mono (show _ ≤ (b0 + 1) * 2 ^ J by omega)
  have lf := lo_led lo0 hn
  have br : (r.length = m ∧ LoL r) ∧ Rb ((b0 + 1) * 2 ^ J) r := by
    rcases hr with h | h
    · exact ⟨E.hl r h, (E.bl r h).mono (by omega)⟩
    · exact ⟨E.hd r h, (E.bd r h).mono (by omega)⟩
  obtain ⟨⟨lr, lor⟩, brb⟩ := br
  refine ⟨⟨by rw [led_len, lr, l0], by omega, by omega, fun k => ?_⟩, fun y hy => ?_⟩
  · have a := brb.sz lor k
    have b := bf.sz lf k
    have d := brb.sz lor c
    exact ⟨Wz.of d b (by omega), Wz.of a (sz_mul d b) (by omega)⟩
  · obtain ⟨k, hk, rfl⟩ := List.getElem_of_mem hy
    have a := brb.sz lor k
    rw [getD_in _ hk] at a
    exact a
section
variable {P : Program} {w : World} {K : PySem.W.Frag} {mg : Str → Option Value} {base : Heap}
theorem ok_solved {f fO fC : Addr} {fd fdO fdC : FuncData} (F : Fun K "_law_solved" "_law_solved" lSolved f fd) (T : TxD mg)
    (FO : FnOk P w K mg base CX0 2 fO fdO ["one", "two"] (spOvW K)) (mO : mg "_law_over" = some (.ref fO)) (kO : PySem.W.keepIn K (.ref fO) = true) (bO : Binds K fdO ["one", "two"] [])
    (FC : FnOk P w K mg base CX0 3 fC fdC ["row", "first", "column"] (spClrL K)) (mC : mg "_law_cleared" = some (.ref fC)) (kC : PySem.W.keepIn K (.ref fC) = true) (bC : Binds K fdC ["row", "first", "column"] []) :
    FnOk P w K mg base CX0 4 f fd ["rows", "many"] (spSolved K) := by
  refine F.ok scSol (fun vs H Q E h => ?_) (fun cdv A outer s H vs Q E hr h => ?_)
  · obtain ⟨u, rows, m, b0, J, rfl, _⟩ := h
    rfl
  · obtain ⟨u, rows, m, b0, J, rfl, hu, m1, m4, r60, hrows, hb, hJ, h9, k⟩ := h
    have hr2 : Room 2 _ := hr.mono (by decide)
    have hu64 : (A.deeper (envOfC "_law_solved" (defScope lSolved) s.heap.objs.size f cdv)).units + 64 < cLine := by have := hr.un; omega
    refine ⟨_, pss_cons (ps_par3 (i := 2) (j := 3) (l := 4) (by rfl) scSol.nd rfl rfl rfl (by decide) (by decide) (by decide) rfl rfl rfl (pa_cons (pe_lc (own := [("row", 8)]) (g := gName 8) rfl scSol.nd (pi_list (pv 0)) (blkOk_by (N := nSol) (sc := defScope lSolved) (by decide +kernel))
          (fun _ _ _ _ _ => pg_name (i := 8) scSol.nd rfl (Or.inl rfl)) (fun _ _ _ _ _ => pts_nil) (fun _ _ _ _ _ => pe_callTy (r := rListOf K) (by exact call_list_of) (by rfl) T.list (by decide +kernel) (pa_cons (pv 8) pa_nil))) (pa_cons (pe_lst pa_nil) (pa_cons (pe_lst pa_nil) pa_nil))) (by rfl))
      (pss_cons (ps_for PassesOwn.never rfl (pi_range1 rfl T.range (pa_cons (pv 1) pa_nil)) (pg_name (i := 5) scSol.nd rfl (Or.inr rfl))
        (pss_cons (ps_set (i := 6) scSol.nd rfl (Or.inr rfl) (pe_lc (own := [("row", 8)]) (g := gName 8) rfl scSol.nd (pi_list (pv 2)) (blkOk_by (N := nSol) (sc := defScope lSolved) (by decide +kernel))
            (fun _ _ _ _ _ => pg_name (i := 8) scSol.nd rfl (Or.inl rfl)) (fun _ _ _ _ _ => pts_one (pt_cmpR op_ne (pe_ix (r := rIxT K) (by exact ix_tup) (pe_ix (r := rIxL K) (by exact ix_list) (pv 8) (pv 5) (fun _ _ => rfl)) pe_int (fun _ _ => rfl)) pe_int (nomark _))) (fun _ _ _ _ _ => pv 8)))
        (pss_one (ps_if (pt_cmpR (op_neD hu64) (pv 6) (pe_lst pa_nil) (by rfl))
          (pss_cons (ps_set (i := 7) scSol.nd rfl (Or.inr rfl) (pe_lc (own := [("x", 9)]) (g := gName 9) rfl scSol.nd (pi_list (pe_ix ix_list (pv 6) pe_int (fun _ _ => rfl))) (blkOk_by (N := nSol) (sc := defScope lSolved) (by decide +kernel))
              (fun _ _ _ _ _ => pg_name (i := 9) scSol.nd rfl (Or.inl rfl)) (fun _ _ _ _ _ => pts_nil) (fun _ _ _ _ _ => pe_call FO hr2 (by rfl) mO kO bO .nil pass0 (pa_cons (pv 9) (pa_cons (pe_ix (r := rIxL K) (by exact ix_list) (pe_ix (r := rIxL K) (by exact ix_list) (pv 6) pe_int (fun _ _ => rfl)) (pv 5) (fun _ _ => rfl)) pa_nil)))))
          (pss_cons (ps_setLc (i := 2) (own := [("row", 8)]) (g := gName 8) rfl scSol.nd rfl rfl (sw_true rfl rfl rfl (by decide +kernel)) (pi_list (pv 2)) (blkOk_by (N := nSol) (sc := defScope lSolved) (by decide +kernel))
              (fun _ _ _ _ _ => pg_name (i := 8) scSol.nd rfl (Or.inl rfl)) (fun _ _ _ _ _ => pts_nil) (fun _ _ _ _ _ => pe_call FC hr (by rfl) mC kC bC .nil pass0 (pa_cons (pv 8) (pa_cons (pv 7) (pa_cons (pv 5) pa_nil)))))
          (pss_cons (ps_set (i := 4) scSol.nd rfl (Or.inl rfl) (pe_op op_cat (pe_lc (own := [("row", 8)]) (g := gName 8) rfl scSol.nd (pi_list (pv 4)) (blkOk_by (N := nSol) (sc := defScope lSolved) (by decide +kernel))
              (fun _ _ _ _ _ => pg_name (i := 8) scSol.nd rfl (Or.inl rfl)) (fun _ _ _ _ _ => pts_nil) (fun _ _ _ _ _ => pe_call FC hr (by rfl) mC kC bC .nil pass0 (pa_cons (pv 8) (pa_cons (pv 7) (pa_cons (pv 5) pa_nil))))) (pe_lst (pa_cons (pv 7) pa_nil))))
          (pss_one (ps_expr (pe_bm PySem.F.plainAttrs_list PySem.F.slot_list_append PySem.F.type_list_append mt_append (pv 3) (pa_cons (pv 5) pa_nil))))))) pss_nil))))
      (pss_one (ps_ret (pe_tup (pa_cons (pv 4) (pa_cons (pv 3) pa_nil)))))), ?_⟩
    obtain ⟨p, us, rfl, ep, lls⟩ := hu
    have lu := lls.len
    -- copies
    refine ⟨_, rfl, p, rfl, ⟨us, SqL.of ep⟩, fun D0 hD0 => ?_⟩
    refine lc_rows (g := fun r => r) hD0 ep lls (by omega) (fun _ => rfl) (fun x r H' Q hr' lr s nx hDn hQ => ?_) fun H1 xs1 s1 e1 l1 => ?_
    · obtain ⟨a, xs, rfl, e, f⟩ := lr
      exact ⟨_, rfl, a, xs, rfl, .inl (SqL.of e), fun l hl => hQ _ _ (same_upd hl) ⟨l, xs, rfl, upd_same, f.tk (Tk.same (same_upd hl))⟩ fun z => hDn (by cases z; exact hl)⟩
    rw [List.map_id'] at l1
    refine ⟨by decide, fun pl hpl => ⟨by decide, fun pd hpd => ⟨_, _, _, rfl, ?_⟩⟩⟩
    have sa := same_upd (o := .lst ([] : List V)) hpl
    have sb := same_upd (o := .lst ([] : List V)) hpd
    have s12 := s1.trans (sa.trans sb)
    have npd : pd ≠ pl := fun z => by rw [z, upd_same] at hpd; cases hpd
    have nD0 : D0 ≠ pl := fun z => by rw [z, hpl] at e1; cases e1
    have x1 := LLs.ne hpl l1
    refine ⟨_, rfl, (m : Int), rfl, by omega, by omega, ?_⟩
    rw [Int.toNat_natCast]
    have nz0 : (rows.filter nzB).length ≤ rows.length := List.length_filter_le _ _
    refine for_range (lo := 0) (n := m) (fun i σ H' => ∃ (pa pd : Addr) (o5 o6 o7 : Option V) (left done : List (List Fr)) (ld : List Nat) (xs ds : List V), σ = [some (.ref p), some (.int (m : Nat)), some (.ref pa), some (.ref pl), some (.ref pd), o5, o6, o7, none, none] ∧ KJ.But pl H H' ∧ Elf m i b0 (rows.map KP.vl) left done ld ∧ H' pa = some (.lst xs) ∧ LLs K H' xs left ∧ (∀ y ∈ xs, y ≠ .ref pl) ∧ pa ≠ pl ∧
        H' pd = some (.lst ds) ∧ LLs K H' ds done ∧ (∀ y ∈ ds, y ≠ .ref pl) ∧ pd ≠ pl ∧ H' pl = some (.lst (ld.map fun l => V.int ((l : Nat) : Int))) ∧ left.length = rows.length ∧ (left.filter nzB).length + ld.length ≤ rows.length)
      ⟨D0, pd, none, none, none, rows, [], [], xs1, [], rfl, KJ.But.same s12, Elf.begin hrows hb, (sa.trans sb) _ _ e1, l1.same (sa.trans sb), x1, nD0, upd_same, .nil, (fun y hy => by cases hy), npd, sb _ _ upd_same, rfl, by simpa using nz0⟩ ?_ ?_
    · rintro i σ H1 hi ⟨pa, pd, o5, o6, o7, left, done, ld, xs, ds, rfl, bH, EF, ea, ll, nx, npa, ed, dl, ndl, npd, epl, lenL, nzc⟩
      have ei : (0 : Int) + (i : Int) = ((i : Nat) : Int) := by omega
      rw [ei]
      have lx := ll.len
      have ldn := dl.len
      have few := EF.few
      have elen := EF.len
      -- some
      refine ⟨_, rfl, pa, rfl, ⟨xs, SqL.of ea⟩, fun D hD => ?_⟩
      refine lc_pick (bs := left.map fun r => !decide (V.int (r.getD i (0, 1)).1 = V.int 0)) hD ea (by rw [lx, List.length_map]) (by omega) (fun _ => rfl) (fun _ => rfl) (fun q x H2 Q hx s2 hQ => ?_) fun H2 s2 e2 => ?_
      · obtain ⟨r, er, lr⟩ := ll.get hx
        obtain ⟨b, ys, rfl, eb, fb⟩ := lr.same s2
        obtain ⟨v, ev, fv⟩ := frl_at fb (j := i) (by rw [(EF.hl r (List.mem_of_getElem? er)).1]; exact hi)
        obtain ⟨av, rfl, qv⟩ := fv
        refine ⟨_, rfl, _, rfl, b, ys, _, _, rfl, rfl, SqL.of eb, atI_nat ev, av, _, 0, _, rfl, rfl, sqT_up qv, rfl, rfl, _, rfl, hQ _ ?_⟩
        rw [List.getElem?_map, er]
        rfl
      have lb := (ll.same s2).pick (fun r => !decide (V.int (r.getD i (0, 1)).1 = V.int 0))
      generalize hP : KP.pick xs (left.map fun r => !decide (V.int (r.getD i (0, 1)).1 = V.int 0)) = PP at lb e2 ⊢
      generalize hR : left.filter (fun r => !decide (V.int (r.getD i (0, 1)).1 = V.int 0)) = RR at lb
      have plN : H1 pl ≠ none := by rw [epl]; simp
      refine ⟨_, rfl, by decide, fun lq hlq => ?_⟩
      have s3 := s2.trans (same_upd (o := .lst ([] : List V)) hlq)
      refine ⟨rowsD RR, .list [], .lst (SqL.of ((same_upd hlq) _ _ e2)) (dp_rowsAll (lb.same (same_upd hlq))), .lst (SqL.of upd_same) .nil, shaped_rows RR, by decide +kernel, ?_⟩
      rw [eqv_rows]
      cases lb with
      | nil =>
        refine ⟨_, rfl, iteB (fun z => by cases z) fun _ => ?_⟩
        refine ⟨pa, pd, _, _, _, left, done, ld, xs, ds, rfl, bH.trans (KJ.But.same s3), EF.skip fun r hr' => ?_, s3 _ _ ea, ll.same s3, nx, npa, s3 _ _ ed, dl.same s3, ndl, npd, s3 _ _ epl, lenL, nzc⟩
        have z := List.filter_eq_nil_iff.mp hR r hr'
        have z : V.int (r.getD i (0, 1)).1 = V.int 0 := by simpa using z
        exact V.int.inj z
      | @cons x0 rest r0 R' a0 ar =>
        refine ⟨_, rfl, iteB (fun _ => ?_) (fun z => by cases z)⟩
        have m0 : r0 ∈ left ∧ (!decide (V.int (r0.getD i (0, 1)).1 = V.int 0)) = true := List.mem_filter.mp (by rw [hR]; exact List.mem_cons_self)
        obtain ⟨l0, lo0⟩ := EF.hl r0 m0.1
        have n0 : (r0.getD i (0, 1)).1 ≠ 0 := fun z => by
          rw [z] at m0
          exact absurd m0.2 (by decide)
        have b0z : nzB r0 = true := by
          unfold nzB
          rw [List.any_eq_true]
          refine ⟨r0.getD i (0, 1), by rw [getD_in _ (by omega)]; exact List.getElem_mem _, ?_⟩
          rw [decide_eq_false fun z => n0 (by rw [z])]
          rfl
        have p0 : 0 < (left.filter nzB).length := List.length_pos_of_mem (List.mem_filter.mpr ⟨m0.1, b0z⟩)
        have hJ' : ld.length ≤ J := by rcases hJ with h | h <;> omega
        obtain ⟨ck0, sz0⟩ := elf_clrW EF hJ' h9 hi m4 m0.1 n0 (.inl m0.1)
        have sq0 : Sz ((b0 + 1) * 2 ^ J) (r0.getD i (0, 1)) := by
          rw [getD_in _ (by omega)]
          exact sz0 _ (List.getElem_mem _)
        obtain ⟨b, ys, rfl, eb, fb⟩ := a0
        have lys := fb.len
        obtain ⟨v, ev, fv⟩ := frl_at fb (j := i) (by omega)
        have a00 : atI (V.ref b :: rest) 0 = some (.ref b) := atI_nat (j := 0) rfl
        have s23 := same_upd (o := .lst ([] : List V)) hlq
        have e2' := s23 _ _ e2
        have eb' := s23 _ _ eb
        generalize upd H2 lq (.lst ([] : List V)) = H3 at s3 s23 e2' eb' ⊢
        -- first
        refine ⟨_, rfl, D, _, 0, _, rfl, rfl, SqL.of e2', a00, b, rfl, ⟨ys, SqL.of eb'⟩, fun D5 hD5 => ?_⟩
        refine lc_map (walk_list (K := K) (a := b) (xs := ys)) (fun H' zs n => FrL K H' zs ((ledF r0 i).take n) ∧ n ≤ r0.length) hD5 (by omega) (fun _ _ n q => by rw [q.1.len, List.length_take, led_len]; have := q.2; omega) ⟨by rw [List.take_zero]; exact FrL.nil, Nat.zero_le _⟩
          (fun H' s => SqL.of (s _ _ eb')) (fun _ => rfl) ?_ ?_
        · rintro n x _ H' zs hn s e hl ⟨q, hle⟩ ⟨rfl, hx⟩
          have hn' : n < r0.length := by omega
          have en := List.getElem?_eq_getElem hn'
          have s2' := s23.trans s
          have fx := (fb.get n x _ hx en).tk (Tk.same s2')
          have zx := sz0 _ (List.getElem_mem hn')
          refine ⟨_, rfl, _, rfl, D, _, 0, _, rfl, rfl, SqL.of (s _ _ e2'), a00, _, rfl, b, ys, _, v, rfl, rfl, SqL.of (s _ _ eb'), atI_nat ev, ?_⟩
          refine ⟨x, v, _, _, rfl, fx, fv.tk (Tk.same s2'), zx.mono (by omega), sq0.mono (by omega), n0, Nat.lt_of_lt_of_le (wide_lt zx.d sq0.n) (Nat.pow_le_pow_right (by decide) (by omega)), fun w H6 s6 f6 => ?_⟩
          have e6 := s6 _ _ e
          refine aft hD5 (s.trans s6) e6 hl ⟨?_, by omega⟩
          have tk := Tk.put (ys := zs ++ [w]) e6
          have el : (ledF r0 i)[n]? = some (ovF r0[n] (r0.getD i (0, 1))) := by
            unfold ledF
            rw [List.getElem?_map, en]
            rfl
          rw [List.take_add_one, el]
          exact (q.tk ((Tk.same s6).trans tk)).snoc (f6.tk tk)
        rintro H5 zs s5 e5 ⟨q5, _⟩
        rw [lys, List.take_of_length_le (by rw [led_len]; omega)] at q5
        have h5 : LstR K H5 (.ref D5) (ledF r0 i) := ⟨D5, zs, rfl, e5, q5⟩
        have s15 := s3.trans s5
        have nD5 : D5 ≠ pl := fun z => by rw [z, s3 _ _ epl] at hD5; cases hD5
        -- left
        refine ⟨_, rfl, pa, rfl, ⟨xs, SqL.of (s15 _ _ ea)⟩, fun D6 hD6 => ?_⟩
        refine lc_rowsP (g := fun r => clrF r (ledF r0 i) i) (Pr := fun y => y ≠ .ref pl) hD6 (s15 _ _ ea) (ll.same s15) (by omega) (fun _ => rfl) (fun x r H7 Q hr' lr s7 nxx hDn hQ => ?_) fun H7 xs7 s7 e7 l7 pr7 => ?_
        · refine ⟨_, rfl, _, rfl, _, rfl, x, .ref D5, r, ledF r0 i, i, rfl, lr, h5.same s7, (elf_clrW EF hJ' h9 hi m4 m0.1 n0 (.inl hr')).1, fun w H8 s8 lw nw => hQ w H8 s8 lw (nw D6 hDn) (nw pl ?_)⟩
          rw [(s15.trans s7) _ _ epl]
          simp
        have s17 := s15.trans s7
        have nD6 : D6 ≠ pl := fun z => by rw [z, s15 _ _ epl] at hD6; cases hD6
        -- done
        refine ⟨_, rfl, pd, rfl, ⟨ds, SqL.of (s17 _ _ ed)⟩, fun D8 hD8 => ?_⟩
        refine lc_rowsP (g := fun r => clrF r (ledF r0 i) i) (Pr := fun y => y ≠ .ref pl) hD8 (s17 _ _ ed) (dl.same s17) (by omega) (fun _ => rfl) (fun x r H9 Q hr' lr s9 nxx hDn hQ => ?_) fun H9 ws s9 e9 l9 pr9 => ?_
        · refine ⟨_, rfl, _, rfl, _, rfl, x, .ref D5, r, ledF r0 i, i, rfl, lr, h5.same (s7.trans s9), (elf_clrW EF hJ' h9 hi m4 m0.1 n0 (.inr hr')).1, fun w H10 s10 lw nw => hQ w H10 s10 lw (nw D8 hDn) (nw pl ?_)⟩
          rw [(s17.trans s9) _ _ epl]
          simp
        have lws := l9.len
        rw [List.length_map] at lws
        refine ⟨_, rfl, by show 1 ≤ sizeLine; decide, fun l1 hl1 => ?_⟩
        have sl := same_upd (o := .lst [V.ref D5]) hl1
        refine ⟨D8, l1, _, _, rfl, rfl, sl _ _ e9, upd_same, Nat.le_trans (show ws.length + 1 ≤ 60 by omega) (by decide), fun p9 hp9 => ?_⟩
        have sp9 := sl.trans (same_upd (o := .lst (ws ++ [V.ref D5])) hp9)
        have e10 : upd (upd H9 l1 (.lst [V.ref D5])) p9 (.lst (ws ++ [V.ref D5])) p9 = some (.lst (ws ++ [V.ref D5])) := upd_same
        have s1T := (s17.trans s9).trans sp9
        have np9 : p9 ≠ pl := fun z => by rw [z, sl _ _ ((s17.trans s9) _ _ epl)] at hp9; cases hp9
        have l10 := (l9.same sp9).append (.cons (h5.same ((s7.trans s9).trans sp9)) .nil)
        have l7' := l7.same (s9.trans sp9)
        have e7' := (s9.trans sp9) _ _ e7
        generalize upd (upd H9 l1 (.lst [V.ref D5])) p9 (.lst (ws ++ [V.ref D5])) = HT at s1T e10 l10 l7' e7' ⊢
        have eplT := s1T _ _ epl
        -- leads.append
        refine ⟨_, rfl, .inl ⟨rfl, _, SqL.of eplT⟩, _, rfl, pl, _, _, rfl, rfl, eplT, by rw [List.length_map]; exact Nat.lt_of_le_of_lt (show ld.length ≤ 4 by omega) (by decide), ?_⟩
        have nzS : ((left.map fun r => clrF r (ledF r0 i) i).filter nzB).length + 1 ≤ (left.filter nzB).length := by
          have lf := lo_led lo0 n0
          have vr : ∀ r ∈ left, ∀ k, KP.vl (clrF r (ledF r0 i) i) k = KP.vl r k - KP.vl r i * KP.vl (ledF r0 i) k := fun r hr' => vl_clr (by rw [led_len, (EF.hl r hr').1, l0]) (EF.hl r hr').2 lf
          have lg : ∀ r ∈ left, LoL (clrF r (ledF r0 i) i) := fun r hr' => lo_clr (by rw [led_len, (EF.hl r hr').1, l0]) (EF.hl r hr').2 lf
          refine nz_step (fun r hr' h => ?_) m0.1 b0z fun h => ?_
          · obtain ⟨k', hk'⟩ := (nzB_iff (lg r hr')).mp h
            refine (nzB_iff (EF.hl r hr').2).mpr ?_
            false_or_by_contra
            rename_i z
            have z0 : ∀ j, KP.vl r j = 0 := fun j => by
              false_or_by_contra
              rename_i w
              exact z ⟨j, w⟩
            rw [vr r hr', z0, z0] at hk'
            exact hk' (by grind)
          · obtain ⟨k', hk'⟩ := (nzB_iff (lg r0 m0.1)).mp h
            rw [vr r0 m0.1, vl_led lo0 n0] at hk'
            have nv : KP.vl r0 i ≠ 0 := (top_ne (lo_getD lo0 i)).mp n0
            exact hk' (by grind)
        refine ⟨D6, p9, _, _, _, _, _, ld ++ [i], xs7, ws ++ [V.ref D5], rfl, fun b' u nb e => ?_, EF.lead m0.1 n0 (fun r hr' => hr') (fun r hr' => .inl hr'), by rw [upd_ne nD6]; exact e7', LLs.put eplT l7' pr7, pr7, nD6, by rw [upd_ne np9]; exact e10, LLs.put eplT l10 (fun y hy => ?_), fun y hy => ?_, np9, ?_, by rw [List.length_map]; exact lenL, ?_⟩
        · rw [upd_ne nb]
          exact s1T _ _ (bH _ _ nb e)
        · rcases List.mem_append.mp hy with h | h
          · exact pr9 y h
          · rw [List.mem_singleton.mp h]
            exact fun z => nD5 (by cases z; rfl)
        · rcases List.mem_append.mp hy with h | h
          · exact pr9 y h
          · rw [List.mem_singleton.mp h]
            exact fun z => nD5 (by cases z; rfl)
        · rw [upd_same, List.map_append]
          rfl
        · rw [List.length_append, List.length_singleton]
          omega
    · rintro σ H1 ⟨pa, pd, o5, o6, o7, left, done, ld, xs, ds, rfl, bH, EF, ea, ll, nx, npa, ed, dl, ndl, npd, epl, lenL, nzc⟩
      refine ⟨_, rfl, _, rfl, by show 2 ≤ sizeLine; decide, fun t ht => ?_⟩
      have st := same_upd (o := .tup [V.ref pd, V.ref pl]) ht
      have plH : H pl = none := by
        cases e : H pl with
        | none => rfl
        | some u =>
          have := s1 _ _ e
          rw [hpl] at this
          cases this
      have sH : Same H H1 := fun b u e => bH b u (fun z => by rw [z, plH] at e; cases e) e
      exact k _ t pd pl _ left done ld ds (sH.trans st) EF rfl upd_same (st _ _ ed) (dl.same st) (st _ _ epl)
end
end KP

set_option Elab.async false
set_option linter.all false
set_option maxRecDepth 100000
set_option maxHeartbeats 4000000
/-! ### the law's conditions -/
namespace KP
open PySem PySem.Spec PyProof.Rows L2 KX KT KJ KS FR
abbrev lConds : Stmt := top 54
def spConds (K : PySem.W.Frag) : Sp := fun vs H Q _ => ∃ x n, vs = [x] ∧ GoodN n ∧ Th (tO H) x (NetM.d n) ∧ ∀ v H', Same H H' → LLR K H' v (lawC n) → Q v H'
abbrev nCo : List Str := ["net", "found", "start", "unknown", "row", "begin", "aim", "share", "is_it", "part"]
theorem scCo : FnScope nCo ["net"] (defScope lConds) := ⟨rfl, rfl, rfl, by decide +kernel, rfl, by decide +kernel, by decide +kernel⟩
theorem eqv_shx (sh : Nat ⊕ Fr) (j : Nat) : PyData.eqv (shD sh) (.tuple [.str "x", .int (j : Nat)]) = decide (unP sh = some j) := by
  cases sh with
  | inl i =>
    by_cases h : i = j
    · subst h
      simp [shD, unP, PyData.eqv, PyData.eqvAll]
    · have h' : ¬ ((i : Nat) : Int) = ((j : Nat) : Int) := by omega
      simp [shD, unP, PyData.eqv, PyData.eqvAll, h, h']
  | inr x => simp [shD, fD, unP, PyData.eqv, PyData.eqvAll]
theorem flat_sh (sh : Nat ⊕ Fr) : Flat (shD sh) := by
  have ok : PyData.strOk "x" = true := by decide +kernel
  cases sh with
  | inl i => simp [Flat, shD, PyData.canLay0, PyData.canLayAll0, PyData.depth, PyData.depthAll, PyData.hasDict, PyData.hasDictAll, ok]
  | inr x => exact flat_fr x
theorem shaped_sh (sh : Nat ⊕ Fr) : SeqAt.shaped (shD sh) = true := shaped_of (flat_sh sh).1 (by have := (flat_sh sh).2.1; omega)
theorem mark_un (sh : Nat ⊕ Fr) : (!decide (markV sh = .str "x")) = decide (unP sh = none) := by cases sh <;> simp [markV, unP]
theorem kk_lt {U s j : Nat} (h : j < U) : kk U s j = (s, some j) := by unfold kk; rw [if_pos h]
theorem kk_ge {U s j : Nat} (h : ¬ j < U) : kk U s j = (s, none) := by unfold kk; rw [if_neg h]
theorem kk_fst (U s j : Nat) : (kk U s j).1 = s := rfl
section
variable {P : Program} {w : World} {K : PySem.W.Frag} {mg : Str → Option Value} {base : Heap}
theorem ok_conds {f fL fP : Addr} {fd fdL fdP : FuncData} (F : Fun K "_law_conditions" "_law_conditions" lConds f fd) (T : TxD mg)
    (FL : FnOk P w K mg base CX0 2 fL fdL ["one", "two"] (spBin K lesF)) (mL : mg "_law_less" = some (.ref fL)) (kL : PySem.W.keepIn K (.ref fL) = true) (bL : Binds K fdL ["one", "two"] [])
    (FP : FnOk P w K mg base CX0 2 fP fdP ["one", "two"] (spBin K addF)) (mP : mg "_law_plus" = some (.ref fP)) (kP : PySem.W.keepIn K (.ref fP) = true) (bP : Binds K fdP ["one", "two"] []) :
    FnOk P w K mg base CX0 3 f fd ["net"] (spConds K) := by
  refine F.ok scCo (fun vs H Q E h => ?_) (fun cdv A outer s H vs Q E hr h => ?_)
  · obtain ⟨x, n, rfl, _⟩ := h
    rfl
  · obtain ⟨x, n, rfl, g, th, k⟩ := h
    have hu64 : (A.deeper (envOfC "_law_conditions" (defScope lConds) s.heap.objs.size f cdv)).units + 64 < cLine := by have := hr.un; omega
    refine ⟨_, pss_cons (ps_set (i := 1) scCo.nd rfl (Or.inl rfl) (pe_lst pa_nil))
      (pss_cons (ps_for PassesOwn.never rfl (pi_range1 rfl T.range (pa_cons (pe_ix ix_tup (pv 0) pe_int (fun _ _ => rfl)) pa_nil)) (pg_name (i := 2) scCo.nd rfl (Or.inl rfl))
        (pss_one (ps_for PassesOwn.never rfl (pi_range1 rfl T.range (pa_cons (pe_op op_add (pe_ix ix_tup (pv 0) pe_int (fun _ _ => rfl)) pe_int) pa_nil)) (pg_name (i := 3) scCo.nd rfl (Or.inl rfl))
          (pss_cons (ps_set (i := 4) scCo.nd rfl (Or.inl rfl) (pe_op op_rep (pe_lst (pa_cons (pe_tup (pa_cons pe_int (pa_cons pe_int pa_nil))) pa_nil)) (pe_ix ix_tup (pv 0) pe_int (fun _ _ => rfl))))
          (pss_cons (ps_for PassesOwn.never rfl (pi_tup (pe_ix ix_tup (pv 0) pe_int (fun _ _ => rfl))) (pg_tup rfl (pgs_cons (pg_name (i := 5) scCo.nd rfl (Or.inl rfl)) (pgs_cons (pg_name (i := 6) scCo.nd rfl (Or.inl rfl)) (pgs_cons (pg_name (i := 7) scCo.nd rfl (Or.inl rfl)) pgs_nil))))
            (Evl.pss_cut (ps_set (i := 8) scCo.nd rfl (Or.inl rfl) (pe_ifExp (pt_cmpR op_lt (pv 3) (pe_ix ix_tup (pv 0) pe_int (fun _ _ => rfl)) (nomark _)) (pe_cmpR (op_eqD hu64) (pv 7) (pe_tup (pa_cons pe_str (pa_cons (pv 3) pa_nil))) (by rfl)) (pe_cmpR op_ne (pe_ix ix_tup (pv 7) pe_int (fun _ _ => rfl)) pe_str (nomark _))))
            (Evl.pss_cut (ps_set (i := 9) scCo.nd rfl (Or.inl rfl) (pe_ifExp (pt_cmpR op_lt (pv 3) (pe_ix ix_tup (pv 0) pe_int (fun _ _ => rfl)) (nomark _)) (pe_tup (pa_cons pe_int (pa_cons pe_int pa_nil))) (pv 7)))
            (pss_one (ps_if (PW.pt (pw_and (pt_cmpR op_eq (pv 5) (pv 2) (nomark _)) (pw_and1 (pt_val (pv 8)))))
              (pss_cons (ps_asg (pe_call FL hr rfl mL kL bL .nil pass0 (pa_cons (pe_ix ix_list (pv 4) (pv 2) (fun _ _ => rfl)) (pa_cons (pv 9) pa_nil))) (pg_sub (pv 4) (pv 2) set_list))
              (pss_one (ps_if (pt_cmpR op_notN1 (pv 6) pe_non (nomark _)) (pss_one (ps_asg (pe_call FP hr rfl mP kP bP .nil pass0 (pa_cons (pe_ix ix_list (pv 4) (pv 6) (fun _ _ => rfl)) (pa_cons (pv 9) pa_nil))) (pg_sub (pv 4) (pv 6) set_list))) pss_nil))) pss_nil)))))
          (pss_one (ps_expr (pe_bm PySem.F.plainAttrs_list PySem.F.slot_list_append PySem.F.type_list_append mt_append (pv 1) (pa_cons (pv 4) pa_nil)))))))))
      (pss_one (ps_ret (pv 1)))), ?_⟩
    obtain ⟨a, ps, fs, ss, rfl, ea, tps, _, _⟩ := net_parts th
    have m4 := g.m4
    have u4 := g.u4
    have l12 := g.len
    obtain ⟨pa, pvs, rfl, ep, tpv⟩ := tup_parts tps
    have lp : pvs.length = n.ps.length := by rw [all2 tpv, List.length_map]
    refine ⟨by decide, fun pf hpf => ?_⟩
    have sf := same_upd (o := .lst ([] : List V)) hpf
    refine ⟨_, rfl, a, _, _, _, rfl, rfl, SqT.of (sf.rd (tO_same H _ _ ea)), rfl, (n.m : Int), rfl, by omega, by omega, ?_⟩
    rw [show ((n.m : Nat) : Int).toNat = n.m from rfl]
    refine for_range (lo := 0) (n := n.m) (fun i σ H' => (∃ o2 o3 o4 o5 o6 o7 o8 o9, σ = [some (.ref a), some (.ref pf), o2, o3, o4, o5, o6, o7, o8, o9]) ∧ Same H H' ∧ ∃ us, H' pf = some (.lst us) ∧ LLs K H' us ((keysL n.u i 0).map (condF n)) ∧ ∀ y ∈ us, y ≠ .ref pf)
      ⟨⟨none, none, none, none, none, none, none, none, rfl⟩, sf, [], upd_same, .nil, fun y hy => by cases hy⟩ ?_ ?_
    · rintro i σ H1 hi ⟨⟨o2, o3, o4, o5, o6, o7, o8, o9, rfl⟩, s1, us, ef, ll, nf⟩
      have ei : (0 : Int) + (i : Int) = ((i : Nat) : Int) := by omega
      rw [ei]
      refine ⟨_, rfl, a, _, _, _, rfl, rfl, SqT.of (s1.rd (tO_same H _ _ ea)), rfl, _, _, rfl, rfl, ((n.u : Int) + 1), rfl, by omega, by omega, ?_⟩
      rw [show ((n.u : Nat) + 1 : Int).toNat = n.u + 1 from by omega]
      refine for_range (lo := 0) (n := n.u + 1) (fun j σ H' => (∃ o3 o4 o5 o6 o7 o8 o9, σ = [some (.ref a), some (.ref pf), some (.int (i : Nat)), o3, o4, o5, o6, o7, o8, o9]) ∧ Same H H' ∧ ∃ us, H' pf = some (.lst us) ∧ LLs K H' us ((keysL n.u i j).map (condF n)) ∧ ∀ y ∈ us, y ≠ .ref pf)
        ⟨⟨_, _, _, _, _, _, _, rfl⟩, s1, us, ef, ll, nf⟩ ?_ ?_
      · rintro j σ H2 hj ⟨⟨o3, o4, o5, o6, o7, o8, o9, rfl⟩, s2, us, ef, ll, nf⟩
        have ej : (0 : Int) + (j : Int) = ((j : Nat) : Int) := by omega
        rw [ej]
        have tk2 := Tk.same s2
        refine ⟨by show 2 ≤ sizeLine; decide, fun p0 hp0 => ⟨by show 1 ≤ sizeLine; decide, fun l0 hl0 => ⟨_, rfl, a, _, _, _, rfl, rfl, SqT.of (tO_same _ _ _ ((Tk.same (s2.trans ((same_upd hp0).trans (same_upd hl0)))) _ _ ea)), rfl, ?_⟩⟩⟩
        have sp0 := same_upd (o := .tup [V.int 0, V.int 1]) hp0
        have sl0 := same_upd (o := .lst [V.ref p0]) hl0
        refine ⟨l0, _, _, rfl, rfl, upd_same, by omega, by omega, Nat.le_trans (show [V.ref p0].length * ((n.m : Nat) : Int).toNat ≤ 4 by rw [Int.toNat_natCast]; simp; omega) (by decide), fun q hq => ?_⟩
        rw [show (List.replicate ((n.m : Nat) : Int).toNat [V.ref p0]).flatten = List.replicate n.m (V.ref p0) by rw [Int.toNat_natCast]; exact List.flatten_replicate_singleton]
        have sq := same_upd (o := .lst (List.replicate n.m (V.ref p0))) hq
        have f0 : FrV K (upd H2 p0 (.tup [V.int 0, V.int 1])) (.ref p0) (0, 1) := FrV.new (x := (0, 1))
        have fr0 := FrL.rep (f0.tk (Tk.same (sl0.trans sq))) n.m
        have s23 := sp0.trans (sl0.trans sq)
        have eq3 : upd (upd (upd H2 p0 (.tup [V.int 0, V.int 1])) l0 (.lst [V.ref p0])) q (.lst (List.replicate n.m (V.ref p0))) q = some (.lst (List.replicate n.m (V.ref p0))) := upd_same
        have nq : H2 q = none := none_same (sp0.trans sl0) hq
        generalize upd (upd (upd H2 p0 (.tup [V.int 0, V.int 1])) l0 (.lst [V.ref p0])) q (.lst (List.replicate n.m (V.ref p0))) = H3 at fr0 s23 eq3 ⊢
        have s3 := s2.trans s23
        refine ⟨_, rfl, a, _, _, _, rfl, rfl, SqT.of (tO_same _ _ _ ((Tk.same s3) _ _ ea)), rfl, pa, rfl, ⟨pvs, SqT.of (tO_same _ _ _ ((Tk.same s3) _ _ ep))⟩, ?_⟩
        refine for_it (walk_tup (K := K) (a := pa) (xs := pvs)) (fun t σ H' => (∃ o5 o6 o7 o8 o9, σ = [some (.ref a), some (.ref pf), some (.int (i : Nat)), some (.int (j : Nat)), some (.ref q), o5, o6, o7, o8, o9]) ∧ Same H2 H' ∧ ∃ vs, H' q = some (.lst vs) ∧ FrL K H' vs (condI n (kk n.u i j) t))
          ⟨⟨_, _, _, _, _, rfl⟩, s23, _, eq3, fr0⟩ (fun t σ H' _ z => SqT.of (tO_same H' _ _ ((Tk.same (s2.trans z.2.1)) _ _ ep))) ?_ ?_
        · rintro t v σ _ H4 ht ⟨⟨o5, o6, o7, o8, o9, rfl⟩, s24, vs, ev, qv⟩ ⟨rfl, hv⟩
          have tk4 := Tk.same (s2.trans s24)
          obtain ⟨d, hd, td⟩ := all_get tpv hv
          have hip : t < n.ps.length := by omega
          have epi := List.getElem?_eq_getElem hip
          rw [List.getElem?_map, epi] at hd
          cases hd
          have gp := g.ps _ (List.getElem_mem hip)
          have cs : condI n (kk n.u i j) (t + 1) = condS (kk n.u i j) (condI n (kk n.u i j) t) n.ps[t] := condI_succ epi
          have cb : RBd t (condI n (kk n.u i j) t) := cond_bd g _ (by omega)
          have cl : (condI n (kk n.u i j) t).length = n.m := condI_len _ _ _
          generalize n.ps[t] = p at td gp cs
          obtain ⟨b, sv, rfl, eb, tsv⟩ := pipe_parts (td.tk tk4)
          obtain ⟨a1, y, rfl, ea1, hy⟩ := share_parts tsv
          refine ⟨b, _, rfl, SqT.of (tO_same H4 _ _ eb), rfl, _, _, rfl, _, _, rfl, _, _, rfl, rfl, ?_⟩
          -- is_it
          refine ⟨fun σ' H5 => σ' = [some (.ref a), some (.ref pf), some (.int (i : Nat)), some (.int (j : Nat)), some (.ref q), some (.int (p.s : Nat)), some (enV p.e), some (.ref a1), some (.bl (decide (unP p.sh = (kk n.u i j).2))), o9] ∧ Same H4 H5, ?_, ?_⟩
          · refine i_setIf2 (b := decide (((j : Nat) : Int) < ((n.u : Nat) : Int))) (ti_test (vi_op (vi_var rfl) (vi_netix (K := K) (i := 0) (k := 1) rfl (tk4 _ _ ea) rfl) fun Q q => ⟨_, _, rfl, rfl, q⟩)) (fun c => ?_) (fun c => ?_)
            · have c : j < n.u := by have := of_decide_eq_true c; omega
              refine ⟨_, rfl, _, rfl, by show 2 ≤ sizeLine; decide, fun q1 hq1 => ?_⟩
              have s5 := same_upd (o := .tup [V.str "x", V.int (j : Nat)]) hq1
              refine ⟨shD p.sh, .tuple [.str "x", .int (j : Nat)], Th.dp (tsv.tk (Tk.same s5)).up (flat_sh p.sh).2.2, .tup (SqT.of upd_same) (.cons (.str _) (.cons (.int _) .nil)), shaped_sh p.sh, shaped_sh (.inl j), ?_⟩
              rw [eqv_shx, kk_lt c]
              exact ⟨rfl, s5⟩
            · have c : ¬ j < n.u := by have := of_decide_eq_false c; omega
              refine (vi_op (r := rNe) (vi_mark (K := K) (i := 7) rfl ea1) vi_c fun Q q => ⟨mark_scal p.sh, q⟩ : Vi _ _ _ _) _ ?_
              rw [mark_un, kk_ge c]
              exact ⟨rfl, Same.refl _⟩
          rintro σ' H5 ⟨rfl, s5⟩
          -- part
          refine ⟨fun σ' H6 => ∃ u, σ' = [some (.ref a), some (.ref pf), some (.int (i : Nat)), some (.int (j : Nat)), some (.ref q), some (.int (p.s : Nat)), some (enV p.e), some (.ref a1), some (.bl (decide (unP p.sh = (kk n.u i j).2))), some u] ∧ Same H4 H6 ∧ (unP p.sh = (kk n.u i j).2 → FrV K H6 u (wtP p)), ?_, ?_⟩
          · refine i_setIf2 (b := decide (((j : Nat) : Int) < ((n.u : Nat) : Int))) (ti_test (vi_op (vi_var rfl) (vi_netix (K := K) (i := 0) (k := 1) rfl ((tk4.trans (Tk.same s5)) _ _ ea) rfl) fun Q q => ⟨_, _, rfl, rfl, q⟩)) (fun c => ?_) (fun c => ?_)
            · have c : j < n.u := by have := of_decide_eq_true c; omega
              refine ⟨by show 2 ≤ sizeLine; decide, fun q1 hq1 => ⟨.ref q1, rfl, s5.trans (same_upd hq1), fun e => ?_⟩⟩
              rw [kk_lt c] at e
              have ew : wtP p = (1, 1) := by
                unfold wtP
                cases hs : p.sh with
                | inl _ => rfl
                | inr _ => rw [hs] at e; cases e
              rw [ew]
              exact FrV.new (x := (1, 1))
            · have c : ¬ j < n.u := by have := of_decide_eq_false c; omega
              refine ⟨_, rfl, .ref a1, rfl, s5, fun e => ?_⟩
              rw [kk_ge c] at e
              unfold wtP
              cases hs : p.sh with
              | inl _ => rw [hs] at e; cases e
              | inr x =>
                rw [hs] at tsv
                exact (frv_of tsv).tk (Tk.same s5)
          rintro σ' H6 ⟨u, rfl, s6, hu6⟩
          have ev6 := s6 _ _ ev
          have qv6 := qv.tk (Tk.same s6)
          have g6 := s24.trans s6
          have wt := wt_told gp
          have t12 : t ≤ 12 := by omega
          refine i_if (b := decide (V.int (p.s : Nat) = V.int (i : Nat)) && decide (unP p.sh = (kk n.u i j).2)) (ti_and (ti_test (vi_op (vi_var rfl) (vi_var rfl) fun Q q => ⟨rfl, q⟩)) fun _ => fun Q q => ⟨_, rfl, _, rfl, q⟩) (fun c => ?_) (fun c => ?_)
          · rw [Bool.and_eq_true] at c
            have c1 : p.s = i := by have := V.int.inj (of_decide_eq_true c.1); omega
            have c2 := of_decide_eq_true c.2
            have ek : keyP p = kk n.u i j := Prod.ext c1 c2
            have fu := hu6 c2
            have hsi : i < (condI n (kk n.u i j) t).length := by rw [cl, ← c1]; exact gp.s
            refine i_rowset (ro := 4) (so := 2) (uo := 9) ev6 qv6 hsi rfl rfl rfl fu (cb.sz t12 (getD_mem hsi)) (told_sz wt) fun H7 v7 s7 f7 => ?_
            have tk7 := Tk.put (ys := vs.set i v7) (s7 _ _ ev6)
            have g7 := same_put (o := .lst (vs.set i v7)) (g6.trans s7) nq
            have qv7 := ((qv6.tk (Tk.same s7)).set i f7).tk tk7
            have fu7 := fu.tk ((Tk.same s7).trans tk7)
            have cS : condI n (kk n.u i j) (t + 1) = putF (condI n (kk n.u i j) t) p (wtP p) := by
              rw [cs]
              exact if_pos ek
            rw [cS]
            refine i_if (b := !decide (enV p.e = .non)) (ti_test (vi_op (vi_var rfl) vi_c fun Q q => ⟨rfl, q⟩)) (fun z => ?_) (fun z => ?_)
            · cases he : p.e with
              | none => rw [he] at z; cases z
              | some k' =>
                have hk' := gp.e k' he
                have gd : ((condI n (kk n.u i j) t).set i (lesF ((condI n (kk n.u i j) t).getD i (0, 1)) (wtP p))).getD k' (0, 1) = (condI n (kk n.u i j) t).getD k' (0, 1) := by
                  rw [List.getD_eq_getElem?_getD, List.getElem?_set_ne (fun z => hk'.2 (by rw [c1]; exact z.symm)), ← List.getD_eq_getElem?_getD]
                refine i_rowset (ro := 4) (so := 6) (uo := 9) upd_same qv7 (by rw [List.length_set, cl]; exact hk'.1) rfl rfl rfl fu7 (by rw [gd]; exact cb.sz t12 (getD_mem (by rw [cl]; exact hk'.1))) (told_sz wt) fun H8 v8 s8 f8 => ?_
                refine ⟨⟨_, _, _, _, _, rfl⟩, same_put (g7.trans s8) nq, _, upd_same, ?_⟩
                have e : putF (condI n (kk n.u i j) t) p (wtP p) = ((condI n (kk n.u i j) t).set i (lesF ((condI n (kk n.u i j) t).getD i (0, 1)) (wtP p))).set k' (addF (((condI n (kk n.u i j) t).set i (lesF ((condI n (kk n.u i j) t).getD i (0, 1)) (wtP p))).getD k' (0, 1)) (wtP p)) := by
                  unfold putF
                  rw [he, c1]
                rw [e]
                exact ((qv7.tk (Tk.same s8)).set k' f8).tk (Tk.put (s8 _ _ upd_same))
            · cases he : p.e with
              | some k' => rw [he] at z; simp [enV] at z
              | none =>
                refine ⟨⟨_, _, _, _, _, rfl⟩, g7, _, upd_same, ?_⟩
                have e : putF (condI n (kk n.u i j) t) p (wtP p) = (condI n (kk n.u i j) t).set i (lesF ((condI n (kk n.u i j) t).getD i (0, 1)) (wtP p)) := by
                  unfold putF
                  rw [he, c1]
                rw [e]
                exact qv7
          · refine ⟨⟨_, _, _, _, _, rfl⟩, g6, vs, ev6, ?_⟩
            have ne : keyP p ≠ kk n.u i j := fun z => by
              have z1 : p.s = i := (Prod.mk.inj z).1
              have z2 : unP p.sh = (kk n.u i j).2 := (Prod.mk.inj z).2
              rw [z1, z2] at c
              simp at c
            rw [cs, show condS (kk n.u i j) (condI n (kk n.u i j) t) p = condI n (kk n.u i j) t from if_neg ne]
            exact qv6
        · rintro σ H4 ⟨⟨o5, o6, o7, o8, o9, rfl⟩, s24, vs, ev, qv⟩
          rw [lp, condI_all] at qv
          have ef4 := s24 _ _ ef
          have lu := ll.len
          have nqf : q ≠ pf := fun z => by rw [z, ef] at nq; cases nq
          refine ⟨_, rfl, .inl ⟨rfl, _, SqL.of ef4⟩, _, rfl, pf, _, _, rfl, rfl, ef4, ?_, ?_⟩
          · rw [lu, List.length_map, keysL_len]
            have h1 : i * (n.u + 1) ≤ 3 * 5 := Nat.mul_le_mul (by omega) (by omega)
            exact Nat.lt_of_le_of_lt (show _ ≤ 1000 by omega) (by decide)
          refine ⟨⟨_, _, _, _, _, _, _, rfl⟩, same_put (s2.trans s24) hpf, us ++ [.ref q], upd_same, ?_, fun y hy => ?_⟩
          · rw [keysL_succ, List.map_append]
            refine (LLs.put ef4 (ll.same s24) nf).snoc ?_
            exact ⟨q, vs, rfl, by rw [upd_ne nqf]; exact ev, qv.tk (Tk.put ef4)⟩
          · rcases List.mem_append.mp hy with h | h
            · exact nf y h
            · rw [List.mem_singleton.mp h]
              exact fun z => nqf (by cases z; rfl)
      · rintro σ H2 ⟨⟨o3, o4, o5, o6, o7, o8, o9, rfl⟩, s2, us, ef, ll, nf⟩
        rw [keysL_next] at ll
        exact ⟨⟨_, _, _, _, _, _, _, _, rfl⟩, s2, us, ef, ll, nf⟩
    · rintro σ H1 ⟨⟨o2, o3, o4, o5, o6, o7, o8, o9, rfl⟩, s1, us, ef, ll, nf⟩
      exact ⟨_, rfl, k _ _ s1 ⟨pf, us, rfl, ef, ll⟩⟩
end
end KP

set_option Elab.async false
set_option linter.all false
set_option maxRecDepth 100000
set_option maxHeartbeats 4000000
/-! ### kept_sums -/
namespace KP
open PySem PySem.Spec PyProof.Rows L2 KX KT KJ KS FR
abbrev sKept : Stmt := top 35
/-- the rows that kept_sums tells -/
def KeptE (n : NetM) (t : Tab) : Prop := ∃ left done ld, Elf n.m n.m 134 (((lawC n).map vl).map (rv n.m)) left done ld ∧ t = outP n.m ld done
theorem keptE_of {n : NetM} (g : GoodN n) {ks : List Ky} (h1 : ∀ p ∈ n.ps, keyP p ∈ ks) (h2 : ∀ k ∈ ks, ∃ p ∈ n.ps, keyP p = k) {left done : List (List Fr)} {ld : List Nat} (E : Elf n.m n.m 134 (((ks.map (condF n)).map List.reverse).map vl) left done ld) : KeptE n (outP n.m ld done) := by
  refine ⟨left, done, ld, E.other fun w => ?_, rfl⟩
  rw [← rev_same (rows := ks.map (condF n)) (fun r hr => by obtain ⟨k, _, rfl⟩ := List.mem_map.mp hr; exact condF_len n k) w]
  have e : ∀ C : List Vc, (∀ r ∈ C.map (rv n.m), dt n.m r w = 0) ↔ ∀ r ∈ C, dt n.m r (rv n.m w) = 0 := fun C => by
    constructor
    · intro h r hr
      rw [← dt_rev]
      exact h _ (List.mem_map.mpr ⟨r, hr, rfl⟩)
    · intro h r hr
      obtain ⟨r', hr', rfl⟩ := List.mem_map.mp hr
      rw [dt_rev]
      exact h r' hr'
  rw [e, e]
  exact (null_same g h1 h2 _).symm
def spKept (K : PySem.W.Frag) (Ps : List Addr) : Sp := fun vs H Q _ => ∃ x n, vs = [x] ∧ GoodN n ∧ Th (tO H) x (NetM.d n) ∧ Tbs Ps H ∧ ∀ v H' t, Grown Ps H H' → TabT K H' v t → KeptE n t → Q v H'
section
variable {P : Program} {w : World} {K : PySem.W.Frag} {mg : Str → Option Value} {base : Heap}
theorem scKs : FnScope ["net"] ["net"] (defScope sKept) := ⟨rfl, rfl, rfl, by decide +kernel, rfl, by decide +kernel, by decide +kernel⟩
theorem ok_kept {f fN fV fK : Addr} {fd fdN fdV fdK : FuncData} {Ps : List Addr} (F : Fun K "kept_sums" "kept_sums" sKept f fd) (T : TxD mg)
    (FN : FnOk P w K mg base CX0 9 fN fdN ["net"] (spNeedNet Ps)) (mN : mg "need_net" = some (.ref fN)) (kN : PySem.W.keepIn K (.ref fN) = true) (bN : Binds K fdN ["net"] [])
    (FV : FnOk P w K mg base CX0 6 fV fdV ["rows", "width"] (spVanish K)) (mV : mg "vanishing_rows" = some (.ref fV)) (kV : PySem.W.keepIn K (.ref fV) = true) (bV : Binds K fdV ["rows", "width"] [])
    (FK : FnOk P w K mg base CX0 4 fK fdK ["net"] (spKeeping K)) (mK : mg "_keeping_rows" = some (.ref fK)) (kK : PySem.W.keepIn K (.ref fK) = true) (bK : Binds K fdK ["net"] []) :
    FnOk P w K mg base CX0 10 f fd ["net"] (spKept K Ps) := by
  refine F.ok scKs (fun vs H Q E h => ?_) (fun cdv A outer s H vs Q E hr h => ?_)
  · obtain ⟨x, n, rfl, _⟩ := h
    rfl
  · obtain ⟨x, n, rfl, g, th, tb, k⟩ := h
    refine ⟨_, pss_cons (ps_expr (pe_call FN hr rfl mN kN bN .nil pass0 (pa_cons (pv 0) pa_nil)))
      (pss_one (ps_ret (pe_tupleOf (by rfl) T.tuple (pe_call FV (hr.mono (by decide)) rfl mV kV bV .nil pass0 (pa_cons (pe_call FK (hr.mono (by decide)) rfl mK kK bK .nil pass0 (pa_cons (pv 0) pa_nil)) (pa_cons (pe_ix ix_tup (pv 0) pe_int (fun _ _ => rfl)) pa_nil)))))), ?_⟩
    obtain ⟨a, ps, fs, ss, rfl, ea, _, _, _⟩ := net_parts th
    have m4 := g.m4
    refine ⟨_, rfl, _, n, rfl, g, th, tb, fun H1 g1 => ?_⟩
    have k1 := Tk.sm g1.sm
    refine ⟨_, rfl, _, n, rfl, g, th.tk k1, fun p H2 ks s2 L2' h1 h2 kl => ?_⟩
    have k2 := k1.trans (Tk.same s2)
    refine ⟨_, rfl, a, _, _, _, rfl, rfl, SqT.of (tO_same _ _ _ (k2 _ _ ea)), rfl, ?_⟩
    refine ⟨_, _, n.m, 134, rfl, L2', g.m1, m4, by rw [List.length_map]; omega, fun r hr' => ?_, fun r hr' => ?_, by decide, fun p3 H3 left done ld s3 EF RL => ?_⟩
    · obtain ⟨k', _, rfl⟩ := List.mem_map.mp hr'
      exact ⟨condF_len n k', lo_cond g k'⟩
    · obtain ⟨k', _, rfl⟩ := List.mem_map.mp hr'
      exact cond_rb g k'
    · obtain ⟨us, e3, R3⟩ := RL
      refine .inl ⟨p3, us, rfl, SqL.of e3, fun z hz => ?_⟩
      have sz := same_upd (o := .tup us) hz
      exact k _ _ _ (g1.trans (Grown.same (s2.trans (s3.trans sz)) g1.tbs)) ⟨z, us, rfl, tO_of upd_same, R3.tk (Tk.same sz)⟩ (keptE_of g h1 h2 EF)
end
end KP

set_option Elab.async false
set_option linter.all false
set_option maxRecDepth 100000
set_option maxHeartbeats 4000000
/-! ### the law's basis -/
namespace KP
open PySem PySem.Spec PyProof.Rows L2 KX KT KJ KS FR
abbrev lBasis : Stmt := top 57
/-- the rows that the law's own basis tells -/
def BasisE (n : NetM) (t : Tab) : Prop := ∀ told, KeptE n told → t = told
def spBasis (K : PySem.W.Frag) : Sp := fun vs H Q _ => ∃ x n, vs = [x] ∧ GoodN n ∧ Th (tO H) x (NetM.d n) ∧ ∀ v H' t, Same H H' → TabT K H' v t → BasisE n t → Q v H'
abbrev nBa : List Str := ["net", "many", "done", "leads", "found", "free", "row", "own", "lead", "at"]
theorem scBa : FnScope nBa ["net"] (defScope lBasis) := ⟨rfl, rfl, rfl, by decide +kernel, rfl, by decide +kernel, by decide +kernel⟩
abbrev scBr : Scope := { kind := .function, names := [(".0", .local), ("at", .local), ("int", .globalImplicit), ("free", .free)], isGenerator := false, isCoroutine := false }
theorem inV_nat (c : Nat) : ∀ ld : List Nat, inV (V.int (c : Nat)) (ld.map fun l => V.int (l : Nat)) = ld.contains c
  | [] => rfl
  | l :: ld => by
    have ih := inV_nat c ld
    unfold inV at ih ⊢
    rw [List.map_cons, List.any_cons, ih, List.contains_cons]
    congr 1
    show decide (((l : Nat) : Int) = ((c : Nat) : Int)) = (c == l)
    rw [Bool.eq_iff_iff, decide_eq_true_iff, beq_iff_eq]
    omega
theorem flat_nats (ld : List Nat) : (ld.map fun l => V.int (l : Nat)).all flatV = true := by
  rw [List.all_eq_true]
  intro x hx
  obtain ⟨l, _, rfl⟩ := List.mem_map.mp hx
  rfl
theorem size2 {m L Fl : Nat} (m4 : m ≤ 4) (h : Fl + L = m) : ∃ b2 J, Fl ≤ J + 1 ∧ 3 * ((b2 + 1) * 2 ^ J) ≤ 9000 ∧ (Fl ≠ 0 → L * ((134 + 1) * (2 ^ L - 1)) + 1 ≤ b2) := by
  have c : L = 0 ∨ L = 1 ∨ L = 2 ∨ L = 3 ∨ L = 4 := by omega
  rcases c with rfl | rfl | rfl | rfl | rfl
  · exact ⟨1, 3, by omega, by decide, fun _ => by decide⟩
  · exact ⟨136, 2, by omega, by decide, fun _ => by decide⟩
  · exact ⟨811, 1, by omega, by decide, fun _ => by decide⟩
  · exact ⟨2836, 0, by omega, by decide, fun _ => by decide⟩
  · exact ⟨0, 0, by omega, by decide, fun h => absurd (show Fl = 0 by omega) h⟩
section
variable {P : Program} {w : World} {K : PySem.W.Frag} {mg : Str → Option Value} {base : Heap}
theorem ok_basis {f fS fC fL : Addr} {fd fdS fdC fdL : FuncData} (F : Fun K "_law_basis" "_law_basis" lBasis f fd) (T : TxD mg) (mZ : mg "zip" = none)
    (FS : FnOk P w K mg base CX0 4 fS fdS ["rows", "many"] (spSolved K)) (mS : mg "_law_solved" = some (.ref fS)) (kS : PySem.W.keepIn K (.ref fS) = true) (bS : Binds K fdS ["rows", "many"] [])
    (FC : FnOk P w K mg base CX0 3 fC fdC ["net"] (spConds K)) (mC : mg "_law_conditions" = some (.ref fC)) (kC : PySem.W.keepIn K (.ref fC) = true) (bC : Binds K fdC ["net"] [])
    (FL : FnOk P w K mg base CX0 2 fL fdL ["one", "two"] (spBin K lesF)) (mL : mg "_law_less" = some (.ref fL)) (kL : PySem.W.keepIn K (.ref fL) = true) (bL : Binds K fdL ["one", "two"] []) :
    FnOk P w K mg base CX0 5 f fd ["net"] (spBasis K) := by
  refine F.ok scBa (fun vs H Q E h => ?_) (fun cdv A outer s H vs Q E hr h => ?_)
  · obtain ⟨x, n, rfl, _⟩ := h
    rfl
  · obtain ⟨x, n, rfl, g, th, k⟩ := h
    have hr3 : Room 3 _ := hr.mono (by decide)
    have hr2 : Room 2 _ := hr.mono (by decide)
    have hu64 : (A.deeper (envOfC "_law_basis" (defScope lBasis) s.heap.objs.size f cdv)).units + 64 < cLine := by have := hr.un; omega
    refine ⟨_, pss_cons (ps_set (i := 1) scBa.nd rfl (Or.inl rfl) (pe_ix ix_tup (pv 0) pe_int (fun _ _ => rfl)))
      (pss_cons (ps_asg (pe_call FS hr rfl mS kS bS .nil pass0 (pa_cons (pe_call FC hr3 rfl mC kC bC .nil pass0 (pa_cons (pv 0) pa_nil)) (pa_cons (pv 1) pa_nil))) (pg_tup rfl (pgs_cons (pg_name (i := 2) scBa.nd rfl (Or.inl rfl)) (pgs_cons (pg_name (i := 3) scBa.nd rfl (Or.inr rfl)) pgs_nil))))
      (pss_cons (ps_set (i := 4) scBa.nd rfl (Or.inl rfl) (pe_lst pa_nil))
      (pss_cons (ps_for PassesOwn.never rfl (pi_list (pe_lc (own := [("at", 9)]) (g := gName 9) rfl scBa.nd (pi_range1 rfl T.range (pa_cons (pv 1) pa_nil)) (blkOk_by (N := nBa) (sc := defScope lBasis) (by decide +kernel))
          (fun _ _ _ _ _ => pg_name (i := 9) scBa.nd rfl (Or.inl rfl)) (fun _ _ _ _ _ => pts_one (pt_cmpR (r := rIn K true) (by exact op_notIn_seq) (pv 9) (pv 3) (by rfl))) (fun _ _ _ _ _ => pv 9))) (pg_name (i := 5) scBa.nd rfl (Or.inr rfl))
        (pss_cons (ps_setLc (i := 6) (own := [("at", 9)]) (g := gName 9) rfl scBa.nd rfl rfl (sw_true rfl rfl rfl (by decide +kernel)) (pi_range1 rfl T.range (pa_cons (pv 1) pa_nil)) (blkOk_by (N := nBa) (sc := defScope lBasis) (by decide +kernel))
          (fun _ _ _ _ _ => pg_name (i := 9) scBa.nd rfl (Or.inl rfl)) (fun _ _ _ _ _ => pts_nil) (fun _ _ _ _ _ => pe_tup (pa_cons (pe_callTy call_int1 (by rfl) T.int (by decide +kernel) (pa_cons (pe_cmpR op_eq (pv 9) (pv 5) (nomark _)) pa_nil)) (pa_cons pe_int pa_nil))))
        (pss_cons (ps_for PassesOwn.never rfl (RZ.pi_zipA (by rfl) mZ (pa_cons (pv 2) (pa_cons (pv 3) pa_nil))) (pg_tup rfl (pgs_cons (pg_name (i := 7) scBa.nd rfl (Or.inl rfl)) (pgs_cons (pg_name (i := 8) scBa.nd rfl (Or.inl rfl)) pgs_nil)))
          (pss_one (ps_asg (pe_call FL hr2 rfl mL kL bL .nil pass0 (pa_cons (pe_tup (pa_cons pe_int (pa_cons pe_int pa_nil))) (pa_cons (pe_ix ix_list (pv 7) (pv 5) (fun _ _ => rfl)) pa_nil))) (pg_sub (pv 6) (pv 8) set_list))))
        (pss_one (ps_expr (pe_bm PySem.F.plainAttrs_list PySem.F.slot_list_append PySem.F.type_list_append mt_append (pv 4) (pa_cons (pv 6) pa_nil)))))))
      (pss_one (ps_ret (pe_tupleOf (by rfl) T.tuple (pe_lc (own := [("row", 6)]) (g := gName 6) rfl scBa.nd (pi_list (pe_ix (r := rIxT K) (by exact ix_tup) (pe_call FS hr rfl mS kS bS .nil pass0 (pa_cons (pv 4) (pa_cons (pv 1) pa_nil))) pe_int (fun _ _ => rfl))) (blkOk_by (N := nBa) (sc := defScope lBasis) (by decide +kernel))
          (fun _ _ _ _ _ => pg_name (i := 6) scBa.nd rfl (Or.inl rfl)) (fun _ _ _ _ _ => pts_nil) (fun _ _ _ _ _ => pe_tupK (K := K) rfl (by rfl) T.tuple (pv 6))))))))), ?_⟩
    obtain ⟨a, ps, fs, ss, rfl, ea, _, _, _⟩ := net_parts th
    have m4 := g.m4
    have m1 := g.m1
    have u4 := g.u4
    refine ⟨_, rfl, a, _, _, _, rfl, rfl, SqT.of (tO_same _ _ _ ea), rfl, ?_⟩
    refine ⟨_, rfl, _, n, rfl, g, th, fun v1 H1 s1 L1 => ?_⟩
    refine ⟨_, rfl, v1, lawC n, n.m, 134, 3, rfl, L1, m1, m4, ?_, fun r hr' => ?_, fun r hr' => ?_, .inl (by omega), by decide, fun t a1 p q H2 left done ld us s2 EF et eat ep lls eq => ?_⟩
    · unfold lawC
      rw [List.length_map, keysL_len]
      have h1 : n.m * (n.u + 1) ≤ 4 * 5 := Nat.mul_le_mul (by omega) (by omega)
      omega
    · obtain ⟨k', _, rfl⟩ := List.mem_map.mp hr'
      exact ⟨condF_len n k', lo_cond g k'⟩
    · obtain ⟨k', _, rfl⟩ := List.mem_map.mp hr'
      exact cond_rb g k'
    subst et
    have s02 := s1.trans s2
    refine ⟨a1, _, rfl, SqT.of eat, rfl, _, _, rfl, _, _, rfl, rfl, ?_⟩
    refine ⟨by decide, fun pf hpf => ?_⟩
    have sf := same_upd (o := .lst ([] : List V)) hpf
    -- the free ones
    refine ⟨_, rfl, (n.m : Int), rfl, by omega, by omega, fun D hD => ?_⟩
    refine lc_range (lo := 0) (n := (n.m : Int).toNat) (fun i H' => Same (upd H2 pf (.lst [])) H' ∧ H' D = some (.lst (((List.range i).filter fun q => !ld.contains q).map fun k => V.int ((k : Nat) : Int)))) ⟨same_upd hD, upd_same⟩ ?_ ?_
    · rintro i H' hi ⟨s5, e5⟩
      have him : i < n.m := by omega
      have ei : (0 : Int) + (i : Int) = ((i : Nat) : Int) := by omega
      refine ⟨rfl, ?_⟩
      rw [ei]
      refine ⟨_, rfl, _, rfl, q, _, rfl, .inl (SqL.of ((sf.trans s5) _ _ eq)), rfl, flat_nats ld, _, rfl, ?_⟩
      rw [if_pos rfl, inV_nat]
      refine iteB (fun c => ?_) (fun c => ?_)
      · refine ⟨_, rfl, _, e5, ?_, fun b o eb => ?_, ?_⟩
        · rw [List.length_map]
          have := List.length_filter_le (fun q => !ld.contains q) (List.range i)
          rw [List.length_range] at this
          exact Nat.lt_of_le_of_lt (show _ ≤ 4 by omega) (by decide)
        · have nb : b ≠ D := fun z => by rw [z, hD] at eb; cases eb
          rw [upd_ne nb]
          exact s5 _ _ eb
        · have ef : List.filter (fun q => !ld.contains q) [i] = [i] := List.filter_cons_of_pos (p := fun q => !ld.contains q) c
          rw [upd_same, List.range_succ, List.filter_append, ef, List.map_append]
          rfl
      · refine ⟨s5, ?_⟩
        have ef : List.filter (fun q => !ld.contains q) [i] = [] := List.filter_cons_of_neg (p := fun q => !ld.contains q) (by rw [c]; decide)
        rw [e5, List.range_succ, List.filter_append, ef, List.append_nil]
    rintro H3 ⟨s3, e3⟩
    rw [Int.toNat_natCast] at e3
    have e3 : H3 D = some (.lst ((freeP n.m ld).map fun k => V.int ((k : Nat) : Int))) := e3
    have count := free_count EF.asc EF.lts
    have elen := EF.len
    have hfree : ∀ c ∈ freeP n.m ld, c < n.m ∧ c ∉ ld := fun c hc => mem_free.mp hc
    have s23 := sf.trans s3
    have epf : H3 pf = some (.lst []) := s3 _ _ upd_same
    have nDf : D ≠ pf := fun z => by rw [z, upd_same] at hD; cases hD
    have rbd : ∀ r ∈ done, Rb ((134 + 1) * (2 ^ ld.length - 1)) r := EF.bd
    have lod : ∀ r ∈ done, LoL r := fun r hr' => (EF.hd r hr').2
    have szd : ∀ r ∈ done, ∀ c, Sz 4000 (r.getD c (0, 1)) := fun r hr' c => ((rbd r hr').sz (lod r hr') c).mono (by
      have h1 : 2 ^ ld.length ≤ 2 ^ 4 := Nat.pow_le_pow_right (by decide) (by omega)
      have h2 : (134 + 1) * (2 ^ ld.length - 1) ≤ 135 * 15 := Nat.mul_le_mul_left _ (by omega)
      omega)
    refine ⟨D, rfl, ⟨_, SqL.of e3⟩, ?_⟩
    refine for_it (walk_list (K := K) (a := D) (xs := (freeP n.m ld).map fun k => V.int ((k : Nat) : Int))) (fun i σ H' => (∃ o5 o6 o7 o8, σ = [some (.ref a), some (.int (n.m : Nat)), some (.ref p), some (.ref q), some (.ref pf), o5, o6, o7, o8, none]) ∧ KJ.But pf H3 H' ∧ ∃ ws, H' pf = some (.lst ws) ∧ LLs K H' ws (((freeP n.m ld).map (kerF n.m ld done)).take i) ∧ ∀ y ∈ ws, y ≠ .ref pf)
      ⟨⟨_, _, _, _, rfl⟩, fun _ _ _ e => e, [], epf, by rw [List.take_zero]; exact .nil, fun y hy => by cases hy⟩ (fun i σ H' _ z => SqL.of (z.2.1 _ _ nDf e3)) ?_ ?_
    · rintro i x σ _ H' hi ⟨⟨o5, o6, o7, o8, rfl⟩, bt, ws, ef, lw, nf⟩ ⟨rfl, hx⟩
      rw [List.length_map] at hi
      have eF := List.getElem?_eq_getElem hi
      rw [List.getElem?_map, eF] at hx
      cases hx
      obtain ⟨hc, hnl⟩ := hfree _ (List.getElem_mem hi)
      generalize (freeP n.m ld)[i] = c at eF hc hnl ⊢
      have bt2 : Same H2 H' := fun b u e => bt _ _ (fun z => by rw [z, hpf] at e; cases e) (s23 _ _ e)
      refine ⟨_, rfl, (n.m : Int), rfl, by omega, by omega, fun D2 hD2 => ?_⟩
      rw [show ((n.m : Nat) : Int).toNat = n.m from rfl]
      refine lc_map (walk_range (lo := 0) (n := n.m)) (fun H' xs k => FrL K H' xs ((List.range k).map fun k => if c = k then (1, 1) else (0, 1))) hD2 (by omega) (fun _ _ _ r => r.len') FrL.nil (fun _ _ => trivial) (fun _ => rfl) ?_ ?_
      · rintro kc x _ H4 ys hkc s4 e4 hl4 r4 ⟨rfl, rfl⟩
        refine ⟨_, rfl, _, rfl, rfl, .inr ⟨_, rfl, (by show 2 ≤ sizeLine; decide), fun q1 hq1 => ?_⟩⟩
        have sq := same_upd (o := .tup [V.int (if decide (V.int (0 + (kc : Int)) = V.int (c : Int)) = true then 1 else 0), V.int 1]) hq1
        refine aft hD2 (s4.trans sq) (sq _ _ e4) hl4 ?_
        rw [row0_succ (m := n.m)]
        have tk := Tk.put (ys := ys ++ [.ref q1]) (sq _ _ e4)
        refine (r4.tk ((Tk.same sq).trans tk)).snoc ?_
        have fq : FrV K (upd H4 q1 (.tup [V.int (if decide (V.int (0 + (kc : Int)) = V.int (c : Int)) = true then 1 else 0), V.int 1])) (.ref q1) (if c = kc then (1, 1) else (0, 1)) := by
          by_cases ic : c = kc
          · subst ic
            rw [if_pos (decide_eq_true (by rw [Int.zero_add])), if_pos rfl]
            exact FrV.new (x := (1, 1))
          · rw [if_neg (fun z => ic (by have := V.int.inj (of_decide_eq_true z); omega)), if_neg ic]
            exact FrV.new (x := (0, 1))
        exact fq.tk tk
      rintro H4 ys s4 e4 r4
      have r4 : FrL K H4 ys (rfI n.m c ld done 0) := by
        have z : rfI n.m c ld done 0 = row0 n.m c := by rw [row0_set]; rfl
        rw [z]
        exact r4
      have lu := lls.len
      have s24 := bt2.trans s4
      refine ⟨_, rfl, _, rfl, p, q, us, _, rfl, .inl ⟨SqL.of (s24 _ _ ep), SqL.of (s24 _ _ eq), ?_⟩⟩
      refine for_it (walk_zip (K := K) (a := p) (b := q) (xs := us) (ys := ld.map fun l => V.int (l : Nat)) (n := ld.length) (by rw [List.length_map, lu, elen, Nat.min_self])) (fun t σ H5 => (∃ o7 o8, σ = [some (.ref a), some (.int (n.m : Nat)), some (.ref p), some (.ref q), some (.ref pf), some (.int (c : Nat)), some (.ref D2), o7, o8, none]) ∧ Same H' H5 ∧ ∃ ys, H5 D2 = some (.lst ys) ∧ FrL K H5 ys (rfI n.m c ld done t))
        ⟨⟨_, _, rfl⟩, s4, ys, e4, r4⟩ (fun t σ H5 _ z => ⟨SqL.of ((bt2.trans z.2.1) _ _ ep), SqL.of ((bt2.trans z.2.1) _ _ eq)⟩) ?_ ?_
      · rintro t v σ H5 H6 ht ⟨⟨o7, o8, rfl⟩, s5, ys, e5, r5⟩ ⟨U, x1, y1, rfl, hU, rfl, hx1, hy1⟩
        have sU := same_upd (o := .tup [x1, y1]) hU
        have s25 := (bt2.trans s5).trans sU
        obtain ⟨r, er, lr⟩ := lls.get hx1
        have el := List.getElem?_eq_getElem ht
        have hy1 : (ld.map fun l => V.int (l : Nat))[t]? = some y1 := hy1
        rw [List.getElem?_map, el] at hy1
        cases hy1
        have lt := EF.lts _ (List.getElem_mem ht)
        have rmem := List.mem_of_getElem? er
        have rl := (EF.hd r rmem).1
        obtain ⟨b, bs, rfl, eb, fb⟩ := lr
        obtain ⟨vx, evx, fx⟩ := frl_at fb (j := c) (by omega)
        refine ⟨U, _, rfl, SqT.of upd_same, rfl, _, _, rfl, _, _, rfl, rfl, ?_⟩
        refine ⟨by show 2 ≤ sizeLine; decide, fun p0 hp0 => ?_⟩
        have sp0 := same_upd (o := .tup [V.int 0, V.int 1]) hp0
        refine ⟨_, rfl, _, rfl, b, bs, _, vx, rfl, rfl, SqL.of ((s25.trans sp0) _ _ eb), atI_nat evx, ?_⟩
        refine ⟨.ref p0, vx, (0, 1), r.getD c (0, 1), rfl, FrV.new (x := (0, 1)), fx.tk (Tk.same (s25.trans sp0)), told_sz ⟨by decide, by decide, by decide, by decide +kernel⟩, szd r rmem c, fun w7 H7 s7 f7 => ?_⟩
        rw [les0 (lo_getD (lod r rmem) c)] at f7
        have s57 := sU.trans (sp0.trans s7)
        have e7 := s57 _ _ e5
        have lys := r5.len
        rw [rfI_len] at lys
        refine ⟨_, rfl, _, rfl, D2, ys, _, ld[t], rfl, rfl, e7, ixN_nat (by omega), ⟨_, _, rfl⟩, same_put (s5.trans s57) hD2, _, upd_same, ?_⟩
        rw [rfI_succ el er]
        have tk := Tk.put (ys := ys.set ld[t] w7) e7
        exact ((r5.tk (Tk.same s57)).set ld[t] f7).tk tk
      · rintro σ H5 ⟨⟨o7, o8, rfl⟩, s5, ys, e5, r5⟩
        have r5 : FrL K H5 ys (kerF n.m ld done c) := by
          rw [← rf_kerL elen EF.nodup hc hnl]
          exact r5
        have ef5 := s5 _ _ ef
        have lw' := lw.len
        have nD2 : D2 ≠ pf := fun z => by rw [z, ef] at hD2; cases hD2
        refine ⟨_, rfl, .inl ⟨rfl, _, SqL.of ef5⟩, _, rfl, pf, _, _, rfl, rfl, ef5, ?_, ⟨_, _, _, _, rfl⟩, fun b u nb e => ?_, ws ++ [.ref D2], upd_same, ?_, fun y hy => ?_⟩
        · rw [lw', List.length_take, List.length_map]
          exact Nat.lt_of_le_of_lt (show _ ≤ 4 by omega) (by decide)
        · rw [upd_ne nb]
          exact s5 _ _ (bt _ _ nb e)
        · rw [List.take_add_one, List.getElem?_map, eF]
          refine (LLs.put ef5 (lw.same s5) nf).snoc ?_
          exact ⟨D2, ys, rfl, by rw [upd_ne nD2]; exact e5, r5.tk (Tk.put ef5)⟩
        · rcases List.mem_append.mp hy with h | h
          · exact nf y h
          · rw [List.mem_singleton.mp h]
            exact fun z => nD2 (by cases z; rfl)
    · rintro σ H4 ⟨⟨o5, o6, o7, o8, rfl⟩, bt, ws, ef, lw, nf⟩
      rw [List.length_map, List.take_of_length_le (by rw [List.length_map]; exact Nat.le_refl _)] at lw
      obtain ⟨b2, J, hJ, h9, hb⟩ := size2 m4 count
      have bt2 : Same H2 H4 := fun b u e => bt _ _ (fun z => by rw [z, hpf] at e; cases e) (s23 _ _ e)
      refine ⟨_, rfl, _, rfl, .ref pf, (freeP n.m ld).map (kerF n.m ld done), n.m, b2, J, rfl, ⟨pf, ws, rfl, ef, lw⟩, m1, m4, by rw [List.length_map]; omega, fun r hr' => ?_, fun r hr' => ?_, .inr (by rw [List.length_map]; exact hJ), h9, fun t2 a2 p2 q2 H5 left2 done2 ld2 us2 s5 EF2 et2 eat2 ep2 lls2 eq2 => ?_⟩
      · obtain ⟨c, _, rfl⟩ := List.mem_map.mp hr'
        exact ⟨ker_len _ _ _ _, lo_ker lod c⟩
      · obtain ⟨c, hc, rfl⟩ := List.mem_map.mp hr'
        refine (ker_rb rbd lod).mono ?_
        rw [← elen]
        exact hb (fun z => by rw [List.length_eq_zero_iff.mp z] at hc; cases hc)
      subst et2
      have lu2 := lls2.len
      have few2 := EF2.few
      have elen2 := EF2.len
      refine ⟨a2, _, 0, _, rfl, rfl, SqT.of eat2, rfl, p2, rfl, ⟨us2, SqL.of ep2⟩, fun D3 hD3 => ?_⟩
      refine lc_map (walk_list (K := K) (a := p2) (xs := us2)) (fun H' xs i => RowsT K H' xs (done2.take i) ∧ i ≤ done2.length) hD3 (by omega) (fun _ _ i q => by rw [q.1.len, List.length_take]; have := q.2; omega) ⟨by rw [List.take_zero]; exact RowsT.nil, Nat.zero_le _⟩
        (fun H' s => SqL.of (s _ _ ep2)) (fun _ => rfl) ?_ ?_
      · rintro i x _ H' xs hi s6 e6 hl6 ⟨q6, hle⟩ ⟨rfl, hx⟩
        obtain ⟨r, er, lr⟩ := lls2.get hx
        obtain ⟨b, bs, rfl, eb, fb⟩ := lr.same s6
        have hi2 := (List.getElem?_eq_some_iff.mp er).1
        refine ⟨_, rfl, .inl ⟨b, bs, rfl, SqL.of eb, fun z hz => ?_⟩⟩
        have sz := same_upd (o := .tup bs) hz
        have ez := sz _ _ e6
        refine aft hD3 (s6.trans sz) ez hl6 ⟨?_, by omega⟩
        have tk := Tk.put (ys := xs ++ [.ref z]) ez
        rw [List.take_add_one, er]
        exact (q6.tk ((Tk.same sz).trans tk)).snoc (RowT.tk ⟨z, bs, rfl, tO_of upd_same, fb.tk (Tk.same sz)⟩ tk)
      · rintro H' xs s6 e6 ⟨q6, _⟩
        rw [lu2, List.take_of_length_le (Nat.le_refl _)] at q6
        refine .inl ⟨D3, xs, rfl, SqL.of e6, fun z hz => ?_⟩
        have sz := same_upd (o := .tup xs) hz
        refine k _ _ done2 (s02.trans (bt2.trans (s5.trans (s6.trans sz)))) ⟨z, xs, rfl, tO_of upd_same, q6.tk (Tk.same sz)⟩ fun told ⟨left3, done3, ld3, E3, e3'⟩ => ?_
        rw [e3']
        exact kept_same (fun _ => Iff.rfl) E3 EF EF2
end
end KP

set_option Elab.async false
set_option linter.all false
set_option maxRecDepth 100000
set_option maxHeartbeats 4000000
/-! ### nets without a pipe out, rings -/
namespace KP
open PySem PySem.Spec PyProof.Rows L2 KX KT KJ KS FR
theorem eqv_pq (p q : Pp) : PyData.eqv (ppD p) (ppD q) = true ↔ p = q := by
  have sx : ("x" : Str) = "x" := rfl
  constructor
  · intro h
    obtain ⟨s, e, sh⟩ := p
    obtain ⟨s', e', sh'⟩ := q
    cases sh <;> cases e <;> cases sh' <;> cases e' <;> simp_all [ppD, enD, shD, fD, PyData.eqv, PyData.eqvAll]
    all_goals (first | omega | (simp only [Prod.ext_iff]; omega))
  · rintro rfl
    obtain ⟨s, e, sh⟩ := p
    cases sh <;> cases e <;> simp [ppD, enD, shD, fD, PyData.eqv, PyData.eqvAll]
theorem dist_nodup (ps : List Pp) : distB (ps.map ppD) = true ↔ ps.Nodup := by
  unfold distB
  rw [List.all_eq_true]
  unfold List.Nodup
  rw [List.pairwise_iff_getElem]
  constructor
  · intro h i j hi hj hij e
    have z := h j (List.mem_range.mpr (by rw [List.length_map]; exact hj))
    rw [Bool.not_eq_true', List.any_eq_false] at z
    have e1 : (ps.map ppD).getD j .none = ppD ps[j] := by rw [getD_in _ (by rw [List.length_map]; exact hj), List.getElem_map]
    rw [e1] at z
    refine z (ppD ps[i]) ?_ ((eqv_pq _ _).mpr e)
    refine List.mem_iff_getElem?.mpr ⟨i, ?_⟩
    rw [List.getElem?_take, if_pos hij, List.getElem?_map, List.getElem?_eq_getElem hi]
    rfl
  · intro h j hj
    have hj : j < ps.length := by have := List.mem_range.mp hj; rw [List.length_map] at this; exact this
    rw [Bool.not_eq_true', List.any_eq_false]
    intro z hz hq
    obtain ⟨i, hi⟩ := List.mem_iff_getElem?.mp hz
    rw [List.getElem?_take] at hi
    split at hi
    · rename_i hij
      have hi' : i < ps.length := by omega
      rw [List.getElem?_map, List.getElem?_eq_getElem hi'] at hi
      cases hi
      rw [getD_in _ (by rw [List.length_map]; exact hj), List.getElem_map] at hq
      exact h i j hi' hj hij ((eqv_pq _ _).mp hq)
    · cases hi
theorem cat_anyT {K : PySem.W.Frag} {H : Hp} {v u : V} {ds es : List PyData} {Q : VK} (t : Th (tO H) v (.tuple ds)) (t2 : Th (tO H) u (.tuple es)) (hl : ds.length + es.length ≤ 1000) (q : ∀ r H', Same H H' → Th (tO H') r (.tuple (ds ++ es)) → Q r H') : rCatA K v u H Q := by
  cases t with
  | @tup' a xs _ e1 ta1 =>
    have e1 := tO_eq e1
    have t2' := t2
    cases t2 with
    | @tup' b ys _ e2 ta2 =>
      have e2 := tO_eq e2
      refine ⟨a, b, xs, ys, rfl, rfl, SqT.of (tO_same H _ _ e1), SqT.of (tO_same H _ _ e2), Nat.le_trans (by rw [all2 ta1, all2 ta2]; exact hl) (by decide), fun z => ?_, fun _ z => ?_, fun _ _ p hp => ?_⟩
      · subst z
        cases ta1
        exact q _ _ (Same.refl H) t2'
      · subst z
        cases ta2
        rw [List.append_nil] at q
        exact q _ _ (Same.refl H) (.tup e1 ta1)
      · have sp := same_upd (o := .tup (xs ++ ys)) hp
        exact q _ _ sp (.tup (tO_of upd_same) (thAll_tk (ThAll.append ta1 ta2) (Tk.same sp)))
abbrev lClosed : Stmt := top 58
def spClosed : Sp := fun vs H Q _ => ∃ j n, vs = [.ref j] ∧ JarAt H j n ∧ n ≤ 700000 ∧ ∀ v nt H', GoodN nt → Th (tO H') v (NetM.d nt) → KJ.But j H H' → JarAt H' j (n + 130) → Q v H'
abbrev nCd : List Str := ["jar", "net", "way", "many", "pipes", "at", "share", "pipe"]
theorem scCd : FnScope nCd ["jar"] (defScope lClosed) := ⟨rfl, rfl, rfl, by decide +kernel, rfl, by decide +kernel, by decide +kernel⟩
section
variable {P : Program} {w : World} {K : PySem.W.Frag} {mg : Str → Option Value} {base : Heap}
theorem ok_closed {f fN fD fP : Addr} {fd fdN fdD fdP : FuncData} (F : Fun K "_law_closed" "_law_closed" lClosed f fd) (T : TxD mg)
    (FN : FnOk P w K mg base CX0 4 fN fdN ["jar", "most"] spMake2) (mN : mg "_law_net" = some (.ref fN)) (kN : PySem.W.keepIn K (.ref fN) = true) (bN : Binds K fdN ["jar", "most"] [])
    (FD : FnOk P w K mg base CX0 1 fD fdD ["jar", "top"] spDip) (mD : mg "_law_dip" = some (.ref fD)) (kD : PySem.W.keepIn K (.ref fD) = true) (bD : Binds K fdD ["jar", "top"] [])
    (FP : FnOk P w K mg base CX0 3 fP fdP ["jar"] spPart2) (mP : mg "_law_told_part" = some (.ref fP)) (kP : PySem.W.keepIn K (.ref fP) = true) (bP : Binds K fdP ["jar"] []) :
    FnOk P w K mg base CX0 5 f fd ["jar"] spClosed := by
  refine F.ok scCd (fun vs H Q E h => ?_) (fun cdv A outer s H vs Q E hr h => ?_)
  · obtain ⟨j, n, rfl, _⟩ := h
    rfl
  · obtain ⟨j, n, rfl, hj, hn, k⟩ := h
    have hr1 : Room 1 _ := hr.mono (by decide)
    have hr3 : Room 3 _ := hr.mono (by decide)
    refine ⟨_, pss_cons (ps_set (i := 1) scCd.nd rfl (Or.inl rfl) (pe_call FN hr rfl mN kN bN .nil pass0 (pa_cons (pv 0) (pa_cons pe_int pa_nil))))
      (pss_cons (ps_par (i := 2) (j := 3) (by rfl) scCd.nd rfl rfl (by decide) rfl rfl (pa_cons (pe_call FD hr1 rfl mD kD bD .nil pass0 (pa_cons (pv 0) (pa_cons pe_int pa_nil))) (pa_cons (pe_ix ix_tup (pv 1) pe_int (fun _ _ => rfl)) pa_nil)) (by rfl))
      (pss_cons (ps_if (pt_cmpR op_eq (pv 2) pe_int (nomark _)) (pss_one (ps_ret (pv 1))) pss_nil)
      (pss_cons (ps_set (i := 4) scCd.nd rfl (Or.inl rfl) (pe_tupleOf (by rfl) T.tuple (pe_lc (own := [("pipe", 7)]) (g := gName 7) rfl scCd.nd (pi_tup (pe_ix ix_tup (pv 1) pe_int (fun _ _ => rfl))) (blkOk_by (N := nCd) (sc := defScope lClosed) (by decide +kernel))
          (fun _ _ _ _ _ => pg_name (i := 7) scCd.nd rfl (Or.inl rfl)) (fun _ _ _ _ _ => pts_one (pt_cmpR op_notN1 (pe_ix (r := rIxT K) (by exact ix_tup) (pv 7) pe_int (fun _ _ => rfl)) pe_non (nomark _))) (fun _ _ _ _ _ => pv 7))))
      (Evl.pss_cut (ps_if (PW.pt (pw_and (pt_cmpR op_eq (pv 2) pe_int (nomark _)) (pw_and1 (pt_cmpR op_gt (pv 3) pe_int (nomark _)))))
        (pss_cons (ps_set (i := 4) scCd.nd rfl (Or.inl rfl) (pe_tup pa_nil))
        (pss_one (ps_for PassesOwn.never rfl (pi_range1 rfl T.range (pa_cons (pv 3) pa_nil)) (pg_name (i := 5) scCd.nd rfl (Or.inl rfl))
          (Evl.pss_cut (ps_set (i := 6) scCd.nd rfl (Or.inl rfl) (pe_ifExp (PW.pt (pw_and (pt_cmpR op_gt (pe_ix ix_tup (pv 1) pe_int (fun _ _ => rfl)) pe_int (nomark _)) (pw_and1 (pt_cmpR op_gt (pe_call FD hr1 rfl mD kD bD .nil pass0 (pa_cons (pv 0) (pa_cons pe_int pa_nil))) pe_int (nomark _)))))
              (pe_tup (pa_cons pe_str (pa_cons (pe_call FD hr1 rfl mD kD bD .nil pass0 (pa_cons (pv 0) (pa_cons (pe_ix ix_tup (pv 1) pe_int (fun _ _ => rfl)) pa_nil))) pa_nil))) (pe_call FP hr3 rfl mP kP bP .nil pass0 (pa_cons (pv 0) pa_nil))))
          (pss_one (ps_set (i := 4) scCd.nd rfl (Or.inl rfl) (pe_op op_catA (pv 4) (pe_tup (pa_cons (pe_tup (pa_cons (pv 5) (pa_cons (pe_op op_mod (pe_callTy call_int1 (by rfl) T.int (by decide +kernel) (pa_cons (pe_op op_add (pv 5) pe_int) pa_nil)) (pv 3)) (pa_cons (pv 6) pa_nil)))) pa_nil))))))))) pss_nil)
      (pss_one (ps_ret (pe_tup (pa_cons (pv 3) (pa_cons (pe_ix ix_tup (pv 1) pe_int (fun _ _ => rfl)) (pa_cons (pv 4) (pa_cons (pe_ix ix_tup (pv 1) pe_int (fun _ _ => rfl)) (pa_cons (pe_ix ix_tup (pv 1) pe_int (fun _ _ => rfl)) pa_nil)))))))))))), ?_⟩
    refine ⟨_, rfl, j, n, rfl, hj, by omega, fun v1 nt H1 g tv1 _ b1 j1 => ?_⟩
    have tv1 := th_hid tv1 (tp_net nt)
    refine ⟨_, rfl, j, 3, _, rfl, by omega, by omega, j1, by omega, fun way H2 w0 w1 b2 j2 => ?_⟩
    have tv2 := tv1.tk (Tk.jar j1 b2)
    have tvK := tv2
    obtain ⟨a, ps, fs, ss, rfl, ea, tps, tfs, tss⟩ := net_parts tv2
    have m4 := g.m4
    have m1 := g.m1
    have u4 := g.u4
    have l12 := g.len
    have b02 := b1.trans b2
    refine ⟨_, rfl, a, _, _, _, rfl, rfl, SqT.of (tO_same _ _ _ ea), rfl, _, _, rfl, ?_⟩
    refine i_when (b := decide (V.int way = V.int 0)) (ti_test (vi_op (vi_var rfl) vi_c fun Q q => ⟨rfl, q⟩)) (fun _ => ?_) (fun _ => ?_)
    · exact ⟨_, rfl, k _ nt _ g tvK b02 (jar_more j2 (by omega))⟩
    obtain ⟨pa, pvs, rfl, ep, tpv⟩ := tup_parts tps
    have lp : pvs.length = nt.ps.length := by rw [all2 tpv, List.length_map]
    refine ⟨_, rfl, a, _, _, _, rfl, rfl, SqT.of (tO_same _ _ _ ea), rfl, pa, rfl, ⟨pvs, SqT.of (tO_same _ _ _ ep)⟩, fun D hD => ?_⟩
    refine lc_it (walk_tup (K := K) (a := pa) (xs := pvs)) (fun i H' => Same H2 H' ∧ ∃ xs, H' D = some (.lst xs) ∧ xs.length ≤ i ∧ ThAll (tO H') xs (((nt.ps.take i).filter fun p => p.e.isSome).map ppD)) ⟨same_upd hD, [], upd_same, Nat.le_refl _, .nil⟩
      (fun i H' _ z => SqT.of (tO_same H' _ _ ((Tk.same z.1) _ _ ep))) ?_ ?_
    · rintro i x H' _ hi ⟨s5, xs, e5, lx, t5⟩ ⟨rfl, hx⟩
      have tk5 := Tk.same s5
      obtain ⟨d, hd, td⟩ := all_get tpv hx
      have hip : i < nt.ps.length := by omega
      have epi := List.getElem?_eq_getElem hip
      rw [List.getElem?_map, epi] at hd
      cases hd
      have et : nt.ps.take (i + 1) = nt.ps.take i ++ [nt.ps[i]] := by rw [List.take_add_one, epi]; rfl
      rw [et]
      generalize nt.ps[i] = p at td
      have td5 := td.tk tk5
      obtain ⟨b, sv, rfl, eb, tsv⟩ := pipe_parts td5
      refine ⟨rfl, ?_⟩
      refine (ti_test (vi_op (vi_netix (K := K) (i := 7) (k := 1) rfl eb rfl) vi_c fun Q q => ⟨rfl, q⟩) : Ti _ _ _ (!decide (enV p.e = .non))) _ ?_
      refine iteB (fun c => ?_) (fun c => ?_)
      · have cs : p.e.isSome = true := by
          cases he : p.e with
          | none => rw [he] at c; cases c
          | some _ => rfl
        refine ⟨_, rfl, xs, e5, Nat.lt_of_lt_of_le (show xs.length < 1000 by omega) (by decide), same_put s5 hD, _, upd_same, by rw [List.length_append, List.length_singleton]; omega, ?_⟩
        rw [List.filter_append, List.filter_cons_of_pos (p := fun p : Pp => p.e.isSome) cs, List.map_append]
        have tk := Tk.put (ys := xs ++ [V.ref b]) e5
        exact ThAll.append (thAll_tk t5 tk) (.cons (td5.tk tk) .nil)
      · have cs : ¬ p.e.isSome = true := by
          cases he : p.e with
          | none => simp
          | some _ => rw [he] at c; simp [enV] at c
        refine ⟨s5, xs, e5, by omega, ?_⟩
        rw [List.filter_append, List.filter_cons_of_neg (p := fun p : Pp => p.e.isSome) cs, List.filter_nil, List.append_nil]
        exact t5
    rintro H3 ⟨s3, xs, e3, lx, t3⟩
    rw [lp, List.take_length] at t3
    refine .inl ⟨D, xs, rfl, SqL.of e3, fun z hz => ?_⟩
    have sz := same_upd (o := .tup xs) hz
    have s24 := s3.trans sz
    have tz : Th (tO (upd H3 z (.tup xs))) (.ref z) (.tuple ((nt.ps.filter fun p => p.e.isSome).map ppD)) := .tup (tO_of upd_same) (thAll_tk t3 (Tk.same sz))
    have j4 := jar_same j2 s24
    have b4 := KJ.But.same (j := j) s24
    have g4 : GoodN { nt with ps := nt.ps.filter fun p => p.e.isSome } := ⟨g.m1, g.m4, g.u4, g.mu, Nat.le_trans (List.length_filter_le _ _) g.len, fun p hp => g.ps p (List.mem_filter.mp hp).1, (dist_nodup _).mpr (((dist_nodup _).mp g.dist).filter _), g.fs, g.ss⟩
    generalize upd H3 z (.tup xs) = H4 at s24 tz j4 b4 ⊢
    refine ⟨fun σ' H' => ∃ v4 o5 o6 ps', σ' = [some (.ref j), some (.ref a), some (.int way), some (.int (nt.m : Nat)), some v4, o5, o6, none] ∧ KJ.But j H2 H' ∧ JarAt H' j (n + 129) ∧ Th (tO H') v4 (.tuple (ps'.map ppD)) ∧ GoodN { nt with ps := ps' }, ?_, ?_⟩
    · refine i_if (b := decide (V.int way = V.int 2) && decide (((nt.m : Nat) : Int) > 1)) (ti_and (ti_test (vi_op (vi_var rfl) vi_c fun Q q => ⟨rfl, q⟩)) fun _ => ti_test (vi_op (vi_var rfl) vi_c fun Q q => ⟨_, _, rfl, rfl, q⟩)) (fun c => ?_) (fun c => ?_)
      · have m2 : 1 < nt.m := by
          rw [Bool.and_eq_true] at c
          have := of_decide_eq_true c.2
          omega
        refine ⟨by decide, fun z2 hz2 => ?_⟩
        have s5 := same_upd (o := .tup ([] : List V)) hz2
        refine ⟨_, rfl, (nt.m : Int), rfl, by omega, by omega, ?_⟩
        rw [show ((nt.m : Nat) : Int).toNat = nt.m from rfl]
        refine for_range (lo := 0) (n := nt.m) (fun i σ H' => ∃ v4 o5 o6 ps', σ = [some (.ref j), some (.ref a), some (.int way), some (.int (nt.m : Nat)), some v4, o5, o6, none] ∧ KJ.But j H2 H' ∧ JarAt H' j (n + 101 + 5 * i) ∧ Th (tO H') v4 (.tuple (ps'.map ppD)) ∧ (∀ p ∈ ps', GoodP nt.m nt.u p) ∧ ps'.map Pp.s = List.range i)
          ⟨.ref z2, none, none, [], rfl, b4.trans (KJ.But.same s5), jar_same j4 s5, .tup (tO_of upd_same) .nil, (fun p hp => by cases hp), rfl⟩ ?_ ?_
        · rintro i σ H6 hi ⟨v4, o5, o6, ps', rfl, b6, j6, t6, gp, es⟩
          have ei : (0 : Int) + (i : Int) = ((i : Nat) : Int) := by omega
          rw [ei]
          have lps : ps'.length = i := by
            have := congrArg List.length es
            rw [List.length_map, List.length_range] at this
            exact this
          have ea6 := (Tk.jar j2 b6) _ _ ea
          refine ⟨fun σ' H7 => ∃ v sh, σ' = [some (.ref j), some (.ref a), some (.int way), some (.int (nt.m : Nat)), some v4, some (.int (i : Nat)), some v, none] ∧ KJ.But j H6 H7 ∧ JarAt H7 j (n + 101 + 5 * i + 5) ∧ Th (tO H7) v (shD sh) ∧ GoodS nt.u sh, ?_, ?_⟩
          · have part : ∀ (H7 : Hp) (c : Nat), c ≤ n + 101 + 5 * i + 1 → KJ.But j H6 H7 → JarAt H7 j c → spPart2 [.ref j] H7 (fun v H8 => ∃ v' sh, [some (V.ref j), some (V.ref a), some (V.int way), some (V.int (nt.m : Nat)), some v4, some (V.int (i : Nat)), some v, none] = [some (V.ref j), some (V.ref a), some (V.int way), some (V.int (nt.m : Nat)), some v4, some (V.int (i : Nat)), some v', none] ∧ KJ.But j H6 H8 ∧ JarAt H8 j (n + 101 + 5 * i + 5) ∧ Th (tO H8) v' (shD sh) ∧ GoodS nt.u sh) L2.E0 := fun H7 c hc b7 j7 =>
              ⟨j, c, rfl, j7, by omega, fun v x H8 hx th b8 j8 => ⟨v, .inr x, rfl, b7.trans b8, jar_more j8 (by omega), th_hid th (tp_f x), hx⟩⟩
            refine ⟨_, rfl, a, _, _, _, rfl, rfl, SqT.of (tO_same _ _ _ ea6), rfl, _, _, rfl, rfl, _, rfl, iteB (fun c => ?_) (fun c => ?_)⟩
            · have c' := of_decide_eq_true c
              refine ⟨_, rfl, j, _, _, rfl, by decide, by decide, j6, by omega, fun r H7 r0 r1 b7 j7 => ⟨_, _, rfl, rfl, _, rfl, iteB (fun c2 => ?_) (fun c2 => ?_)⟩⟩
              · refine ⟨_, rfl, _, rfl, a, _, _, _, rfl, rfl, SqT.of (tO_same _ _ _ ((Tk.jar j6 b7) _ _ ea6)), rfl, j, (nt.u : Nat), _, rfl, by omega, by omega, j7, by omega, fun r2 H8 q0 q1 b8 j8 => ⟨(by show 2 ≤ sizeLine; decide), fun z hz => ?_⟩⟩
                have sz := same_upd (o := .tup [V.str "x", .int r2]) hz
                refine ⟨_, .inl r2.toNat, rfl, b7.trans (b8.trans (KJ.But.same sz)), jar_more (jar_same j8 sz) (by omega), .tup (tO_of upd_same) (.cons (.str _) (.cons ?_ .nil)), by show r2.toNat < nt.u; omega⟩
                rw [Int.toNat_of_nonneg q0]
                exact .int _
              · exact ⟨_, rfl, part H7 _ (by omega) b7 j7⟩
            · exact ⟨_, rfl, part H6 _ (by omega) (fun _ _ _ e => e) j6⟩
          · rintro σ' H7 ⟨v, sh, rfl, b7, j7, th, hsh⟩
            refine ⟨_, rfl, _, rfl, _, rfl, _, _, rfl, rfl, .inl ⟨_, rfl, _, rfl, _, _, rfl, rfl, by omega, _, rfl, by show 3 ≤ sizeLine; decide, fun z hz => ⟨by show 1 ≤ sizeLine; decide, fun z3 hz3 => ?_⟩⟩⟩
            have em : ((i : Nat) : Int) + 1 = ((i + 1 : Nat) : Int) := rfl
            have em2 : (((i : Nat) : Int) + 1) % ((nt.m : Nat) : Int) = (((i + 1) % nt.m : Nat) : Int) := by rw [em]; exact (Int.natCast_emod _ _).symm
            have hz3 : upd H7 z (.tup [V.int (i : Nat), V.int ((((i : Nat) : Int) + 1) % ((nt.m : Nat) : Int)), v]) z3 = none := hz3
            show rCatA K v4 (.ref z3) (upd (upd H7 z (.tup [V.int (i : Nat), V.int ((((i : Nat) : Int) + 1) % ((nt.m : Nat) : Int)), v])) z3 (.tup [V.ref z])) _
            rw [em2] at hz3 ⊢
            have sz := same_upd (o := .tup [V.int (i : Nat), V.int (((i + 1) % nt.m : Nat) : Int), v]) hz
            have sz3 := same_upd (o := .tup [V.ref z]) hz3
            have thp : Th (tO (upd (upd H7 z (.tup [V.int (i : Nat), V.int (((i + 1) % nt.m : Nat) : Int), v])) z3 (.tup [V.ref z]))) (.ref z3) (.tuple [ppD ⟨i, some ((i + 1) % nt.m), sh⟩]) :=
              .tup (tO_of upd_same) (.cons (.tup ((Tk.same sz3) _ _ (tO_of upd_same)) (.cons (.int _) (.cons (.int _) (.cons (th.tk (Tk.same (sz.trans sz3))) .nil)))) .nil)
            have hm : (i + 1) % nt.m < nt.m := Nat.mod_lt _ (by omega)
            have hmi : (i + 1) % nt.m ≠ i := by
              by_cases c : i + 1 < nt.m
              · rw [Nat.mod_eq_of_lt c]
                omega
              · have : i + 1 = nt.m := by omega
                rw [this, Nat.mod_self]
                omega
            have gq : GoodP nt.m nt.u ⟨i, some ((i + 1) % nt.m), sh⟩ := ⟨hi, fun k hk => by cases hk; exact ⟨hm, hmi⟩, hsh⟩
            have b9 := (b6.trans b7).trans (KJ.But.same (sz.trans sz3))
            have j9 := jar_same j7 (sz.trans sz3)
            have t9 := t6.tk ((Tk.jar j6 b7).trans (Tk.same (sz.trans sz3)))
            generalize upd (upd H7 z (.tup [V.int (i : Nat), V.int (((i + 1) % nt.m : Nat) : Int), v])) z3 (.tup [V.ref z]) = H9 at thp b9 j9 t9 ⊢
            refine cat_anyT t9 thp (by rw [List.length_map]; simp; omega) fun r H10 s10 t10 => ?_
            refine ⟨r, _, _, ps' ++ [⟨i, some ((i + 1) % nt.m), sh⟩], rfl, b9.trans (KJ.But.same s10), jar_more (jar_same j9 s10) (by omega), by rw [List.map_append]; exact t10, fun p hp => ?_, by rw [List.map_append, es, List.range_succ]; rfl⟩
            rcases List.mem_append.mp hp with h | h
            · exact gp p h
            · rw [List.mem_singleton.mp h]
              exact gq
        · rintro σ H6 ⟨v4, o5, o6, ps', rfl, b6, j6, t6, gp, es⟩
          have lps : ps'.length = nt.m := by
            have := congrArg List.length es
            rw [List.length_map, List.length_range] at this
            exact this
          refine ⟨v4, o5, o6, ps', rfl, b6, jar_more j6 (by omega), t6, ⟨g.m1, g.m4, g.u4, g.mu, by show ps'.length ≤ 12; omega, gp, (dist_nodup _).mpr ?_, g.fs, g.ss⟩⟩
          have nd : (ps'.map Pp.s).Nodup := by rw [es]; exact List.nodup_range
          exact List.Pairwise.of_map Pp.s (fun a b h e => h (by rw [e])) nd
      · exact ⟨.ref z, none, none, _, rfl, b4, jar_more j4 (by omega), tz, g4⟩
    · rintro σ' H5 ⟨v4, o5, o6, ps', rfl, b5, j5, t5, g5⟩
      have tk := Tk.jar j2 b5
      have ea5 := tk _ _ ea
      refine ⟨_, rfl, _, rfl, a, _, _, _, rfl, rfl, SqT.of (tO_same _ _ _ ea5), rfl, _, rfl, _, rfl, a, _, _, _, rfl, rfl, SqT.of (tO_same _ _ _ ea5), rfl, _, rfl, a, _, _, _, rfl, rfl, SqT.of (tO_same _ _ _ ea5), rfl, by show 5 ≤ sizeLine; decide, fun z hz => ?_⟩
      have sz := same_upd (o := .tup [V.int (nt.m : Nat), V.int (nt.u : Nat), v4, fs, ss]) hz
      have tkz := Tk.same sz
      exact k _ _ _ g5 (.tup (tO_of upd_same) (.cons (.int _) (.cons (.int _) (.cons (t5.tk tkz) (.cons (tfs.tk (tk.trans tkz)) (.cons (tss.tk (tk.trans tkz)) .nil)))))) (b02.trans (b5.trans (KJ.But.same sz))) (jar_more (jar_same j5 sz) (by omega))
end
end KP

set_option Elab.async false
set_option linter.all false
set_option maxRecDepth 100000
set_option maxHeartbeats 4000000
/-! ### the law's look at a kept row -/
namespace KP
open PySem PySem.Spec PyProof.Rows L2 KX KT KJ KS FR
theorem pi_tupK {X : Cx} {K : PySem.W.Frag} {tg e : Expr} {te : TE} (hk : X.K = K) (he : PE X e te) : PI X tg e (iTup K te) := hk ▸ pi_tup he
theorem shaped_row (r : List Fr) : SeqAt.shaped (rowD r) = true ∧ PyData.eqv (rowD r) (rowD r) = true := by
  have a := lay_lstK (n := 2) (ds := r.map fD) fun d hd => by
    obtain ⟨x, _, rfl⟩ := List.mem_map.mp hd
    exact ⟨(flat_fr x).1, (flat_fr x).2.1⟩
  exact ⟨shaped_of a.1 (Nat.le_trans a.2 (by decide)), PySem.SeqAt.eqv_refl _ a.1⟩
theorem col_hb {n : NetM} {as : List Fr} (g : GoodN n) (ok : AsOk n as) (c : Nat) : HB 121 15 (colA (tabF n as) c) := by
  have l12 := g.len
  obtain ⟨M, m0, m1, b⟩ := tabI_bd g ok (i := n.ps.length) (Nat.le_refl _)
  rw [tabI_all] at b
  refine ⟨M, 1 + 1998 * n.ps.length, m0, Nat.lt_of_lt_of_le m1 (Nat.pow_le_pow_right (by decide) (by omega)), Nat.lt_of_le_of_lt (show _ ≤ 23977 by omega) (by decide), fun x hx => ?_⟩
  obtain ⟨row, hr, rfl⟩ := List.mem_map.mp hx
  by_cases hc : c < row.length
  · exact b row hr _ (getD_mem hc)
  · rw [getD_out _ hc]
    exact bd0 m0
abbrev lIsKept : Stmt := top 59
/-- a row that is kept, small enough -/
structure KeptR (n : NetM) (r : List Fr) : Prop where
  len : r.length = n.m
  lo : LoL r
  hb : ∃ a b, HB a b r ∧ a + b + 139 ≤ 4000
  nul : ∀ c ∈ (lawC n).map vl, dt n.m c (vl r) = 0
def spIsKept (K : PySem.W.Frag) : Sp := fun vs H Q _ => ∃ x u y n r as, vs = [x, u, y] ∧ GoodN n ∧ Th (tO H) x (NetM.d n) ∧ RowT K H u r ∧ KeptR n r ∧ AsOk n as ∧ Th (tO H) y (.tuple (as.map fD)) ∧ ∀ H', Same H H' → Q (.bl true) H'
abbrev nIk : List Str := ["net", "row", "assignment", "table", "at", "line"]
theorem scIk : FnScope nIk ["net", "row", "assignment"] (defScope lIsKept) := ⟨rfl, rfl, rfl, by decide +kernel, rfl, by decide +kernel, by decide +kernel⟩
abbrev scAtK : Scope := { kind := .function, names := [(".0", .local), ("at", .cell), ("_law_dot", .globalImplicit), ("row", .cell), ("table", .cell)], isGenerator := false, isCoroutine := false }
section
variable {P : Program} {w : World} {K : PySem.W.Frag} {mg : Str → Option Value} {base : Heap}
theorem ok_iskept {f fT fD : Addr} {fd fdT fdD : FuncData} (F : Fun K "_law_is_kept" "_law_is_kept" lIsKept f fd) (T : TxD mg)
    (FT : FnOk P w K mg base CX0 3 fT fdT ["net", "assignment"] (spTableL K)) (mT : mg "_law_table" = some (.ref fT)) (kT : PySem.W.keepIn K (.ref fT) = true) (bT : Binds K fdT ["net", "assignment"] [])
    (FD : FnOk P w K mg base CX0 3 fD fdD ["one", "two"] (spDotL K)) (mD : mg "_law_dot" = some (.ref fD)) (kD : PySem.W.keepIn K (.ref fD) = true) (bD : Binds K fdD ["one", "two"] []) :
    FnOk P w K mg base CX0 4 f fd ["net", "row", "assignment"] (spIsKept K) := by
  refine F.ok scIk (fun vs H Q E h => ?_) (fun cdv A outer s H vs Q E hr h => ?_)
  · obtain ⟨x, u, y, n, r, as, rfl, _⟩ := h
    rfl
  · obtain ⟨x, u, y, n, r, as, rfl, g, th, hu, kr, ok, ty, k⟩ := h
    have hu64 : (A.deeper (envOfC "_law_is_kept" (defScope lIsKept) s.heap.objs.size f cdv)).units + 64 < cLine := by have := hr.un; omega
    refine ⟨_, pss_cons (ps_set (i := 3) scIk.nd rfl (Or.inr rfl) (pe_call FT hr rfl mT kT bT .nil pass0 (pa_cons (pv 0) (pa_cons (pv 2) pa_nil))))
      (pss_one (ps_ret (pe_cmpR (op_eqD hu64) (pe_lc (own := [("at", 4)]) (g := gName 4) rfl scIk.nd (pi_range1 rfl T.range (pa_cons (pe_ix ix_tup (pv 0) pe_int (fun _ _ => rfl)) pa_nil)) (blkOk_by (N := nIk) (sc := defScope lIsKept) (by decide +kernel))
          (fun _ _ _ _ _ => pg_name (i := 4) scIk.nd rfl (Or.inr rfl)) (fun _ _ _ _ _ => pts_nil)
          (fun _ _ _ _ _ => pe_call FD hr (by rfl) mD kD bD .nil pass0 (pa_cons (pv 1) (pa_cons (pe_lc (own := [("line", 5)]) (g := gName 5) rfl scIk.nd (pi_tupK (K := K) rfl (pv 3)) (blkOk_by (N := nIk) (sc := scAtK) (by decide +kernel))
            (fun _ _ _ _ _ => pg_name (i := 5) scIk.nd rfl (Or.inl rfl)) (fun _ _ _ _ _ => pts_nil)
            (fun _ _ _ _ _ => pe_ix (r := rIxT K) (by exact ix_tup) (pv 5) (pv 4) (fun _ _ => rfl))) pa_nil))))
        (pe_callTy (r := rListOf K) (by exact call_list_of) (by rfl) T.list (by decide +kernel) (pa_cons (pv 1) pa_nil)) (by rfl)))), ?_⟩
    obtain ⟨a, ps, fs, ss, rfl, ea, _, _, _⟩ := net_parts th
    have m4 := g.m4
    have rl := kr.len
    obtain ⟨b, vs, rfl, eb, fb⟩ := hu
    refine ⟨_, rfl, _, rfl, _, y, n, as, rfl, g, th, ok, ty, fun v H1 s1 tv => ?_⟩
    obtain ⟨pt, us, rfl, et, rt⟩ := tv
    have sq := sqF n as
    have lu : us.length = n.m := by rw [rt.len, sq.len]
    refine ⟨_, rfl, a, _, _, _, rfl, rfl, SqT.of (s1.rd (tO_same H _ _ ea)), rfl, (n.m : Int), rfl, by omega, by omega, fun D hD => ?_⟩
    rw [show ((n.m : Nat) : Int).toNat = n.m from rfl]
    refine lc_map (walk_range (lo := 0) (n := n.m)) (fun H' xs i => FrL K H' xs (r.take i) ∧ i ≤ n.m) hD (by omega) (fun _ _ i q => by rw [q.1.len, List.length_take]; have := q.2; omega) ⟨by rw [List.take_zero]; exact FrL.nil, Nat.zero_le _⟩ (fun _ _ => trivial) (fun _ => rfl) ?_ ?_
    · rintro c x _ H2 xs hc s2 e2 hl2 ⟨q2, hle⟩ ⟨rfl, rfl⟩
      have s12 := s1.trans s2
      refine ⟨_, rfl, _, rfl, pt, rfl, ⟨us, SqT.of (tO_same _ _ _ ((Tk.same s2) _ _ et))⟩, fun D2 hD2 => ?_⟩
      refine lc_map (walk_tup (K := K) (a := pt) (xs := us)) (fun H' ys i => FrL K H' ys ((colA (tabF n as) c).take i) ∧ i ≤ n.m) hD2 (by omega) (fun _ _ i q => by rw [q.1.len, List.length_take]; unfold colA; rw [List.length_map, sq.len]; have := q.2; omega) ⟨by rw [List.take_zero]; exact FrL.nil, Nat.zero_le _⟩
        (fun H' s => SqT.of (tO_same _ _ _ ((Tk.same (s2.trans s)) _ _ et))) (fun _ => rfl) ?_ ?_
      · rintro i z _ H3 ys hi s3 e3 hl3 ⟨q3, hle3⟩ ⟨rfl, hz⟩
        have hit : i < (tabF n as).length := by rw [sq.len]; omega
        have et' := List.getElem?_eq_getElem hit
        obtain ⟨b3, vs3, rfl, eb3, fb3⟩ := (rt.get i z _ hz et').tk (Tk.same (s2.trans s3))
        have rlen : ((tabF n as)[i]).length = n.m := tab_row (List.getElem_mem hit)
        obtain ⟨v3, ev3, fv3⟩ := frl_at fb3 (j := c) (by omega)
        have ei : (0 : Int) + (c : Int) = ((c : Nat) : Int) := by omega
        refine ⟨_, rfl, _, rfl, b3, vs3, _, v3, rfl, rfl, SqT.of (tO_same _ _ _ eb3), by rw [ei]; exact atI_nat ev3, ?_⟩
        refine aft hD2 s3 e3 hl3 ⟨?_, by omega⟩
        have tk := Tk.put (ys := ys ++ [v3]) e3
        have ec : (colA (tabF n as) c)[i]? = some (((tabF n as)[i]).getD c (0, 1)) := by
          unfold colA
          rw [List.getElem?_map, et']
          rfl
        rw [List.take_add_one, ec]
        exact (q3.tk tk).snoc (fv3.tk tk)
      · rintro H3 ys s3 e3 ⟨q3, _⟩
        have lcol : (colA (tabF n as) c).length = n.m := by unfold colA; rw [List.length_map, sq.len]
        rw [lu, List.take_of_length_le (by omega)] at q3
        obtain ⟨a1, b1, hb1, hz⟩ := kr.hb
        have tk13 := Tk.same (s12.trans s3)
        refine ⟨_, D2, ys, r, colA (tabF n as) c, rfl, RowT.tk ⟨b, vs, rfl, eb, fb⟩ tk13, e3, q3, ⟨by omega, by omega, a1, b1, 121, 15, hb1, col_hb g ok c, by omega⟩, fun w4 H4 s4 f4 => ?_⟩
        rw [dot_kept g ok rl kr.lo kr.nul hc] at f4
        have e4 := (s3.trans s4) _ _ e2
        refine aft hD ((s2.trans s3).trans s4) e4 hl2 ⟨?_, by omega⟩
        have tk := Tk.put (ys := xs ++ [w4]) e4
        have er : r[c]? = some (r.getD c (0, 1)) := by rw [getD_in _ (by omega)]; exact List.getElem?_eq_getElem (by omega)
        rw [List.take_add_one, er]
        exact (q2.tk ((Tk.same (s3.trans s4)).trans tk)).snoc (f4.tk tk)
    · rintro H2 xs s2 e2 ⟨q2, _⟩
      rw [List.take_of_length_le (by omega)] at q2
      have tk12 := Tk.same (s1.trans s2)
      refine ⟨_, rfl, b, vs, rfl, .inr (SqT.of (tO_same _ _ _ (tk12 _ _ eb))), fun l hl => ?_⟩
      have sl := same_upd (o := .lst vs) hl
      refine ⟨rowD r, rowD r, dp_row ⟨D, xs, rfl, sl _ _ e2, q2.tk (Tk.same sl)⟩, dp_row ⟨l, vs, rfl, upd_same, fb.tk (tk12.trans (Tk.same sl))⟩, (shaped_row r).1, (shaped_row r).1, ?_⟩
      rw [(shaped_row r).2]
      exact k _ (s1.trans (s2.trans sl))
end
end KP

set_option Elab.async false
set_option linter.all false
set_option maxRecDepth 100000
set_option maxHeartbeats 4000000
/-! ### the law's check of one jar -/
namespace KP
open PySem PySem.Spec PyProof.Rows L2 KX KT KJ KS FR
theorem kept_rows {n : NetM} (g : GoodN n) {t : Tab} (h : KeptE n t) : TOk t ∧ ∀ r ∈ t, KeptR n r := by
  obtain ⟨left, done, ld, E, rfl⟩ := h
  have m4 := g.m4
  have count := free_count E.asc E.lts
  have elen := E.len
  have rbd : ∀ r ∈ done, Rb ((134 + 1) * (2 ^ ld.length - 1)) r := E.bd
  have lod : ∀ r ∈ done, LoL r := fun r hr' => (E.hd r hr').2
  have key : ∀ r ∈ outP n.m ld done, KeptR n r ∧ ∀ x ∈ r, Sz 946 x := fun r hr => by
    obtain ⟨c, hc, hn, e⟩ := out_row hr
    have hf : c ∈ freeP n.m ld := mem_free.mpr ⟨hc, hn⟩
    have hp := List.length_pos_of_mem hf
    have hL : ld.length ≤ 3 := by omega
    have b1 : (134 + 1) * (2 ^ ld.length - 1) ≤ 945 := by
      have h1 : 2 ^ ld.length ≤ 2 ^ 3 := Nat.pow_le_pow_right (by decide) hL
      exact Nat.le_trans (Nat.mul_le_mul_left _ (show _ ≤ 7 by omega)) (by decide)
    have b2 : done.length * ((134 + 1) * (2 ^ ld.length - 1)) + 1 ≤ 2836 := by
      have := Nat.mul_le_mul (show done.length ≤ 3 by omega) b1
      omega
    have rb : Rb 2836 r := by
      rw [e]
      exact rb_rev ((ker_rb rbd lod).mono b2) (ker_len _ _ _ _)
    have lo : LoL r := by
      rw [e]
      exact fun x hx => lo_ker lod c x (List.mem_reverse.mp hx)
    have sz : ∀ x ∈ r, Sz 946 x := fun x hx => by
      rw [e] at hx
      exact (ker_sz rbd lod (List.mem_reverse.mp hx)).mono (by omega)
    refine ⟨⟨by rw [e, List.length_reverse, ker_len], lo, ⟨2836, 946, hb_of rb lo fun x hx => (sz x hx).n, by decide⟩, fun c hc => out_kept E hr hc⟩, sz⟩
  refine ⟨⟨?_, fun r hr => ⟨by rw [(key r hr).1.len]; exact m4, fun x hx => ?_⟩⟩, fun r hr => (key r hr).1⟩
  · unfold outP
    rw [List.length_map]
    have := List.length_filter_le (fun p => !ld.contains (n.m - 1 - p)) (List.range n.m)
    rw [List.length_range] at this
    omega
  · have z := ((key r hr).2 x hx).mono (show 946 ≤ 1920 by decide)
    exact ⟨z.n, z.d⟩
abbrev nR7 : List Str := ["jar", "turn", "net", "due", "told", "lap", "assignment", "row"]
theorem scR7 : FnScope nR7 ["jar"] (defScope lRight3) := ⟨rfl, rfl, rfl, by decide +kernel, rfl, by decide +kernel, by decide +kernel⟩
section
variable {P : Program} {w : World} {K : PySem.W.Frag} {mg : Str → Option Value} {base : Heap}
theorem ok_right7 {f fC fB fS fE fA fK : Addr} {fd fdC fdB fdS fdE fdA fdK : FuncData} {Ps : List Addr} (F : Fun K "_law_right" "_law_right" lRight3 f fd) (T : TxD mg)
    (FC : FnOk P w K mg base CX0 5 fC fdC ["jar"] spClosed) (mC : mg "_law_closed" = some (.ref fC)) (kC : PySem.W.keepIn K (.ref fC) = true) (bC : Binds K fdC ["jar"] [])
    (FB : FnOk P w K mg base CX0 5 fB fdB ["net"] (spBasis K)) (mB : mg "_law_basis" = some (.ref fB)) (kB : PySem.W.keepIn K (.ref fB) = true) (bB : Binds K fdB ["net"] [])
    (FS : FnOk P w K mg base CX0 10 fS fdS ["net"] (spKept K Ps)) (mS : mg "kept_sums" = some (.ref fS)) (kS : PySem.W.keepIn K (.ref fS) = true) (bS : Binds K fdS ["net"] []) (bSk : KBinds K fdS ["net"] ["net"] gRev gRevV)
    (FE : FnG P w K mg base 1 fE fdE ["told", "due"] (spSame3 K)) (mE : mg "_law_same" = some (.ref fE)) (kE : PySem.W.keepIn K (.ref fE) = true) (bE : Binds K fdE ["told", "due"] [])
    (FA : FnOk P w K mg base CX0 4 fA fdA ["jar", "net"] spAsn) (mA : mg "_law_assignment" = some (.ref fA)) (kA : PySem.W.keepIn K (.ref fA) = true) (bA : Binds K fdA ["jar", "net"] [])
    (FK : FnOk P w K mg base CX0 4 fK fdK ["net", "row", "assignment"] (spIsKept K)) (mK : mg "_law_is_kept" = some (.ref fK)) (kK : PySem.W.keepIn K (.ref fK) = true) (bK : Binds K fdK ["net", "row", "assignment"] []) :
    FnG P w K mg base 14 f fd ["jar"] (spRight3 Ps) := by
  refine FnG.mk' F scR7 (fun {vs H Q E} h => ?_) (fun cdv A outer s H vs Q E qu hr h => ?_)
  · obtain ⟨j, rfl, _⟩ := h
    rfl
  · obtain ⟨j, rfl, hj, tb, k⟩ := h
    have hr5 : Room 5 _ := hr.mono (by decide)
    have hr1 : Room 1 _ := hr.mono (by decide)
    have hr4 : Room 4 _ := hr.mono (by decide)
    have hr10 : Room 10 _ := hr.mono (by decide)
    have qu' : Quiet (A.deeper (envOfC "_law_right" (defScope lRight3) s.heap.objs.size f cdv)) := qu
    refine ⟨_, pss_cons (ps_for PassesOwn.never rfl (pi_range1 rfl T.range (pa_cons pe_int pa_nil)) (pg_name (i := 1) scR7.nd rfl (Or.inl rfl))
        (pss_cons (ps_set (i := 2) scR7.nd rfl (Or.inr rfl) (pe_call FC hr5 rfl mC kC bC .nil pass0 (pa_cons (pv 0) pa_nil)))
        (pss_cons (ps_par (i := 3) (j := 4) (by rfl) scR7.nd rfl rfl (by decide) rfl rfl (pa_cons (pe_call FB hr5 rfl mB kB bB .nil pass0 (pa_cons (pv 2) pa_nil)) (pa_cons (pe_call FS hr10 rfl mS kS bS .nil pass0 (pa_cons (pv 2) pa_nil)) pa_nil)) (by rfl))
        (pss_cons (ps_if (pt_not (pt_val (pe_quiet FE qu' hr1 rfl mE kE bE (pa_cons (pe_lst (pa_cons (pv 4) (pa_cons (pe_callK0 FS hr10 rfl mS kS bSk pass0 (pk_cons (pv 2) pk_nil)) pa_nil))) (pa_cons (pe_lst (pa_cons (pv 3) (pa_cons (pv 3) pa_nil))) pa_nil))))) (pss_one (ps_ret pe_bl)) pss_nil)
        (pss_one (ps_for PassesOwn.never rfl (pi_range1 rfl T.range (pa_cons pe_int pa_nil)) (pg_name (i := 5) scR7.nd rfl (Or.inl rfl))
          (pss_cons (ps_set (i := 6) scR7.nd rfl (Or.inr rfl) (pe_call FA hr4 rfl mA kA bA .nil pass0 (pa_cons (pv 0) (pa_cons (pv 2) pa_nil))))
          (pss_one (ps_if (pt_not (pt_val (pe_callB (cr_all rfl) (by rfl) T.all (by decide +kernel) (pa_cons (pe_lc (own := [("row", 7)]) (g := gName 7) rfl scR7.nd (pi_tup (pv 4)) (blkOk_by (N := nR7) (sc := defScope lRight3) (by decide +kernel))
              (fun _ _ _ _ _ => pg_name (i := 7) scR7.nd rfl (Or.inl rfl)) (fun _ _ _ _ _ => pts_nil) (fun _ _ _ _ _ => pe_call FK hr4 (by rfl) mK kK bK .nil pass0 (pa_cons (pv 2) (pa_cons (pv 7) (pa_cons (pv 6) pa_nil))))) pa_nil)))) (pss_one (ps_ret pe_bl)) pss_nil)))))))))
      (pss_one (ps_ret pe_bl)), ?_⟩
    refine ⟨4, rfl, by decide, by decide, ?_⟩
    refine for_range (lo := 0) (n := 4) (fun i σ H' => ∃ o1 o2 o3 o4 o5 o6 : Option V, σ = [some (.ref j), o1, o2, o3, o4, o5, o6, none] ∧ JarAt H' j (300 * i) ∧ Tbs Ps H' ∧ Bt j H H') ⟨none, none, none, none, none, none, rfl, hj, tb, fun _ _ _ e _ => e⟩ ?_ ?_
    · rintro i σ H1 hi ⟨o1, o2, o3, o4, o5, o6, rfl, j1, t1, b1⟩
      refine ⟨_, rfl, j, _, rfl, j1, by omega, fun v nt H2 g tv c2 j2 => ?_⟩
      have t2 := tbs_but t1 j1 c2
      have b2 := b1.but c2
      refine ⟨_, rfl, v, nt, rfl, g, tv, fun due H3 tB s3 hdue bE => ?_⟩
      have t3 := tbs_same t2 s3
      have k3 := Tk.same s3
      refine ⟨_, rfl, v, nt, rfl, g, tv.tk k3, t3, fun told H4 tt g4 htold kE1 => ⟨_, _, rfl, ?_⟩⟩
      obtain rfl := bE tt kE1
      have k4 := k3.trans (Tk.sm g4.sm)
      refine ⟨_, rfl, _, rfl, v, nt, rfl, g, tv.tk k4, g4.tbs, fun told2 H5 tt2 g5 htold2 kE2 => ⟨by show 2 ≤ sizeLine; decide, fun q1 hq1 => ?_⟩⟩
      obtain rfl := bE tt2 kE2
      obtain ⟨tok, krows⟩ := kept_rows g kE1
      have s5 := same_upd (o := .lst [told, told2]) hq1
      refine ⟨_, rfl, _, rfl, by show 2 ≤ sizeLine; decide, fun q2 hq2 => ?_⟩
      have s6 := same_upd (o := .lst [due, due]) hq2
      have k5 := Tk.sm g5.sm
      have k56 := Tk.same (s5.trans s6)
      refine ⟨.ref q1, .ref q2, _, rfl, shw_two (s6 _ _ upd_same) (htold.tk (k5.trans k56)) (htold2.tk k56) tok, shw_two upd_same (hdue.tk ((Tk.sm g4.sm).trans (k5.trans k56))) (hdue.tk ((Tk.sm g4.sm).trans (k5.trans k56))) tok, _, rfl, iteB (fun z => by cases z) fun _ => ?_⟩
      have sm := (Sm.same s3).trans (g4.sm.trans (g5.sm.trans (Sm.same (s5.trans s6))))
      have j6 := jar_sm j2 sm
      have b6 := b2.sm sm
      have t6 := tbs_same g5.tbs (s5.trans s6)
      have v6 := tv.tk (Tk.sm sm)
      have h6 := htold.tk (k5.trans k56)
      generalize upd (upd H5 q1 (.lst [told, told2])) q2 (.lst [due, due]) = H6 at j6 b6 t6 v6 h6 ⊢
      refine ⟨2, rfl, by decide, by decide, ?_⟩
      refine for_range (lo := 0) (n := 2) (fun l σ H' => ∃ o1 o5 o6 : Option V, σ = [some (.ref j), o1, some v, some due, some told, o5, o6, none] ∧ JarAt H' j (300 * i + 130 + 12 * l) ∧ Tbs Ps H' ∧ Bt j H H' ∧ Th (tO H') v (NetM.d nt) ∧ TabT K H' told tB)
        ⟨_, _, _, rfl, j6, t6, b6, v6, h6⟩ ?_ ?_
      · rintro l σ H7 hl ⟨o1, o5, o6, rfl, j7, t7, b7, v7, h7⟩
        refine ⟨_, rfl, _, rfl, j, _, v, nt, rfl, j7, by omega, g, v7, fun va as H8 oa ta c8 j8 => ?_⟩
        have k8 := Tk.jar j7 c8
        have h8 := h7.tk k8
        have v8 := v7.tk k8
        have t8 := tbs_but t7 j7 c8
        have b8 := b7.but c8
        have hk8 := h8
        obtain ⟨pt, us, rfl, et, rt⟩ := h8
        have lu := rt.len
        have t9 : tB.length ≤ 9 := tok.len
        refine ⟨_, rfl, pt, rfl, ⟨us, SqT.of (tO_same _ _ _ et)⟩, fun D hD => ?_⟩
        refine lc_map (walk_tup (K := K) (a := pt) (xs := us)) (fun H' xs i => xs = (List.replicate i true).map V.bl) hD (by omega) (fun _ _ i q => by rw [q, List.length_map, List.length_replicate]) rfl (fun H' s => SqT.of (tO_same _ _ _ ((Tk.same s) _ _ et))) (fun _ => rfl) ?_ ?_
        · rintro c x _ H9 xs hc s9 e9 hl9 rfl ⟨rfl, hx⟩
          have er := List.getElem?_eq_getElem (show c < tB.length by omega)
          have k9 := Tk.same s9
          refine ⟨_, rfl, _, rfl, _, rfl, v, x, va, nt, _, as, rfl, g, v8.tk k9, (rt.get c x _ hx er).tk k9, krows _ (List.getElem_mem _), oa, ta.tk k9, fun HA sA => ?_⟩
          refine aft hD (s9.trans sA) (sA _ _ e9) hl9 ?_
          rw [List.replicate_succ', List.map_append]
          rfl
        · rintro H9 xs s9 e9 rfl
          refine ⟨D, _, rfl, SqL.of e9, _, rfl, ?_⟩
          have al : (List.replicate us.length true).all id = true := by
            rw [List.all_eq_true]
            intro x hx
            rw [List.eq_of_mem_replicate hx]
            rfl
          rw [al]
          refine iteB (fun z => by cases z) fun _ => ?_
          have k9 := Tk.same s9
          exact ⟨_, _, _, rfl, jar_more (jar_same j8 s9) (by omega), tbs_same t8 s9, b8.sm (Sm.same s9), v8.tk k9, hk8.tk k9⟩
      · rintro σ H7 ⟨o1, o5, o6, rfl, j7, t7, b7, v7, h7⟩
        exact ⟨_, _, _, _, _, _, rfl, jar_more j7 (by omega), t7, b7⟩
    · rintro σ H1 ⟨o1, o2, o3, o4, o5, o6, rfl, j1, t1, b1⟩
      exact k H1 b1 t1
end
end KP

set_option Elab.async false
set_option linter.all false
set_option maxRecDepth 100000
set_option maxHeartbeats 4000000
/-! ### what the top has written -/
namespace KP
open PySem PySem.Spec PyProof.Rows L2 KX KT KJ KS KG FR
theorem binds1 {K : PySem.W.Frag} {fd : FuncData} (h1 : ∀ (s : Shared) (a : Value), BindsTo s fd ⟨[], [("net", a)]⟩ [("net", a)]) (h2 : ∀ (s : Shared) (a : Value), BindsTo s fd ⟨[a], []⟩ [("net", a)]) :
    KBinds K fd ["net"] ["net"] gRev gRevV := by
  refine ⟨fun s us ws _ hl => ?_, fun r rz => r.append rz.reverse⟩
  have hl : us.length + ws.length = 1 := by
    rw [gRev, List.length_append, List.length_reverse] at hl
    exact hl
  match us, ws with
  | [], [a] => exact h1 s a
  | [a], [] => exact h2 s a
  | [], [] => exact absurd hl (by simp)
  | [], _ :: _ :: _ => exact absurd hl (by simp only [List.length_cons, List.length_nil]; omega)
  | [_], _ :: _ => exact absurd hl (by simp only [List.length_cons, List.length_nil]; omega)
  | _ :: _ :: _, _ => exact absurd hl (by simp only [List.length_cons, List.length_nil]; omega)
theorem all_mk7 {l : PySem.W.OpenLaw} {w : World} {K : PySem.W.Frag} {h : Heap} {mg : Str → Option Value} {fa : Addr} {f0 f1 f2 f3 f4 f5 f6 f7 f8 f9 f10 f11 f12 f13 f14 f15 f16 f17 f18 f19 f20 f21 f22 f23 f24 f25 f26 f27 f28 f29 f30 f31 f32 f33 f34 f35 f36 f37 f38 f39 f40 f41 f42 f43 f44 f45 f46 f47 : Addr} (X : K.In h) (G : h.Ns mainGlobals mg) (hfa : mg "law" = some (.ref fa)) (tp : TabFact mg h "_are_pipes") (tt : TabFact mg h "_are_tanks")
    (a0 : PySem.W.nsIn K mainGlobals "is_whole" = some (some (.ref f0)))
    {oc0 : Value} {od0 an0 : Option Addr} {sl0 : Array (Option Value)} {kV0 dc0 pm0 cd0 ct0 : Value}
    (l0 : K.lookup f0 = some ⟨oc0, od0, .func (PySem.W.fnOf "is_whole" "is_whole" (defArgs sWhole) (defBody sWhole) (defScope sWhole) .none kV0 dc0 pm0 an0 cd0 ct0), sl0⟩)
    (c0 : PySem.W.codeIn K cd0 "is_whole" = true)
    (k0 : PySem.W.keepIn K (.ref f0) = true)
    (a1 : PySem.W.nsIn K mainGlobals "is_within" = some (some (.ref f1)))
    {oc1 : Value} {od1 an1 : Option Addr} {sl1 : Array (Option Value)} {kV1 dc1 pm1 cd1 ct1 : Value}
    (l1 : K.lookup f1 = some ⟨oc1, od1, .func (PySem.W.fnOf "is_within" "is_within" (defArgs sWithin) (defBody sWithin) (defScope sWithin) .none kV1 dc1 pm1 an1 cd1 ct1), sl1⟩)
    (c1 : PySem.W.codeIn K cd1 "is_within" = true)
    (k1 : PySem.W.keepIn K (.ref f1) = true)
    (a2 : PySem.W.nsIn K mainGlobals "is_ratio" = some (some (.ref f2)))
    {oc2 : Value} {od2 an2 : Option Addr} {sl2 : Array (Option Value)} {kV2 dc2 pm2 cd2 ct2 : Value}
    (l2 : K.lookup f2 = some ⟨oc2, od2, .func (PySem.W.fnOf "is_ratio" "is_ratio" (defArgs sRatio) (defBody sRatio) (defScope sRatio) .none kV2 dc2 pm2 an2 cd2 ct2), sl2⟩)
    (c2 : PySem.W.codeIn K cd2 "is_ratio" = true)
    (k2 : PySem.W.keepIn K (.ref f2) = true)
    (a3 : PySem.W.nsIn K mainGlobals "is_told" = some (some (.ref f3)))
    {oc3 : Value} {od3 an3 : Option Addr} {sl3 : Array (Option Value)} {kV3 dc3 pm3 cd3 ct3 : Value}
    (l3 : K.lookup f3 = some ⟨oc3, od3, .func (PySem.W.fnOf "is_told" "is_told" (defArgs sTold) (defBody sTold) (defScope sTold) .none kV3 dc3 pm3 an3 cd3 ct3), sl3⟩)
    (c3 : PySem.W.codeIn K cd3 "is_told" = true)
    (k3 : PySem.W.keepIn K (.ref f3) = true)
    (a4 : PySem.W.nsIn K mainGlobals "is_net" = some (some (.ref f4)))
    {oc4 : Value} {od4 an4 : Option Addr} {sl4 : Array (Option Value)} {kV4 dc4 pm4 cd4 ct4 : Value}
    (l4 : K.lookup f4 = some ⟨oc4, od4, .func (PySem.W.fnOf "is_net" "is_net" (defArgs sNet) (defBody sNet) (defScope sNet) .none kV4 dc4 pm4 an4 cd4 ct4), sl4⟩)
    (c4 : PySem.W.codeIn K cd4 "is_net" = true)
    (k4 : PySem.W.keepIn K (.ref f4) = true)
    (a5 : PySem.W.nsIn K mainGlobals "_are_pipes" = some (some (.ref f5)))
    {oc5 : Value} {od5 an5 : Option Addr} {sl5 : Array (Option Value)} {kV5 dc5 pm5 cd5 ct5 : Value}
    (l5 : K.lookup f5 = some ⟨oc5, od5, .func (PySem.W.fnOf "_are_pipes" "_are_pipes" (defArgs sPipes) (defBody sPipes) (defScope sPipes) .none kV5 dc5 pm5 an5 cd5 ct5), sl5⟩)
    (c5 : PySem.W.codeIn K cd5 "_are_pipes" = true)
    (k5 : PySem.W.keepIn K (.ref f5) = true)
    (a6 : PySem.W.nsIn K mainGlobals "_is_pipe" = some (some (.ref f6)))
    {oc6 : Value} {od6 an6 : Option Addr} {sl6 : Array (Option Value)} {kV6 dc6 pm6 cd6 ct6 : Value}
    (l6 : K.lookup f6 = some ⟨oc6, od6, .func (PySem.W.fnOf "_is_pipe" "_is_pipe" (defArgs sPipe) (defBody sPipe) (defScope sPipe) .none kV6 dc6 pm6 an6 cd6 ct6), sl6⟩)
    (c6 : PySem.W.codeIn K cd6 "_is_pipe" = true)
    (k6 : PySem.W.keepIn K (.ref f6) = true)
    (a7 : PySem.W.nsIn K mainGlobals "_is_share" = some (some (.ref f7)))
    {oc7 : Value} {od7 an7 : Option Addr} {sl7 : Array (Option Value)} {kV7 dc7 pm7 cd7 ct7 : Value}
    (l7 : K.lookup f7 = some ⟨oc7, od7, .func (PySem.W.fnOf "_is_share" "_is_share" (defArgs sShare) (defBody sShare) (defScope sShare) .none kV7 dc7 pm7 an7 cd7 ct7), sl7⟩)
    (c7 : PySem.W.codeIn K cd7 "_is_share" = true)
    (k7 : PySem.W.keepIn K (.ref f7) = true)
    (a8 : PySem.W.nsIn K mainGlobals "_are_tanks" = some (some (.ref f8)))
    {oc8 : Value} {od8 an8 : Option Addr} {sl8 : Array (Option Value)} {kV8 dc8 pm8 cd8 ct8 : Value}
    (l8 : K.lookup f8 = some ⟨oc8, od8, .func (PySem.W.fnOf "_are_tanks" "_are_tanks" (defArgs sTanks) (defBody sTanks) (defScope sTanks) .none kV8 dc8 pm8 an8 cd8 ct8), sl8⟩)
    (c8 : PySem.W.codeIn K cd8 "_are_tanks" = true)
    (k8 : PySem.W.keepIn K (.ref f8) = true)
    (a9 : PySem.W.nsIn K mainGlobals "lowest" = some (some (.ref f9)))
    {oc9 : Value} {od9 an9 : Option Addr} {sl9 : Array (Option Value)} {kV9 dc9 pm9 cd9 ct9 : Value}
    (l9 : K.lookup f9 = some ⟨oc9, od9, .func (PySem.W.fnOf "lowest" "lowest" (defArgs sLowest) (defBody sLowest) (defScope sLowest) .none kV9 dc9 pm9 an9 cd9 ct9), sl9⟩)
    (c9 : PySem.W.codeIn K cd9 "lowest" = true)
    (k9 : PySem.W.keepIn K (.ref f9) = true)
    (a10 : PySem.W.nsIn K mainGlobals "added" = some (some (.ref f10)))
    {oc10 : Value} {od10 an10 : Option Addr} {sl10 : Array (Option Value)} {kV10 dc10 pm10 cd10 ct10 : Value}
    (l10 : K.lookup f10 = some ⟨oc10, od10, .func (PySem.W.fnOf "added" "added" (defArgs sAdded) (defBody sAdded) (defScope sAdded) .none kV10 dc10 pm10 an10 cd10 ct10), sl10⟩)
    (c10 : PySem.W.codeIn K cd10 "added" = true)
    (k10 : PySem.W.keepIn K (.ref f10) = true)
    (a11 : PySem.W.nsIn K mainGlobals "negative" = some (some (.ref f11)))
    {oc11 : Value} {od11 an11 : Option Addr} {sl11 : Array (Option Value)} {kV11 dc11 pm11 cd11 ct11 : Value}
    (l11 : K.lookup f11 = some ⟨oc11, od11, .func (PySem.W.fnOf "negative" "negative" (defArgs sNeg) (defBody sNeg) (defScope sNeg) .none kV11 dc11 pm11 an11 cd11 ct11), sl11⟩)
    (c11 : PySem.W.codeIn K cd11 "negative" = true)
    (k11 : PySem.W.keepIn K (.ref f11) = true)
    (a12 : PySem.W.nsIn K mainGlobals "lessened" = some (some (.ref f12)))
    {oc12 : Value} {od12 an12 : Option Addr} {sl12 : Array (Option Value)} {kV12 dc12 pm12 cd12 ct12 : Value}
    (l12 : K.lookup f12 = some ⟨oc12, od12, .func (PySem.W.fnOf "lessened" "lessened" (defArgs sLess) (defBody sLess) (defScope sLess) .none kV12 dc12 pm12 an12 cd12 ct12), sl12⟩)
    (c12 : PySem.W.codeIn K cd12 "lessened" = true)
    (k12 : PySem.W.keepIn K (.ref f12) = true)
    (a13 : PySem.W.nsIn K mainGlobals "multiplied" = some (some (.ref f13)))
    {oc13 : Value} {od13 an13 : Option Addr} {sl13 : Array (Option Value)} {kV13 dc13 pm13 cd13 ct13 : Value}
    (l13 : K.lookup f13 = some ⟨oc13, od13, .func (PySem.W.fnOf "multiplied" "multiplied" (defArgs sMul) (defBody sMul) (defScope sMul) .none kV13 dc13 pm13 an13 cd13 ct13), sl13⟩)
    (c13 : PySem.W.codeIn K cd13 "multiplied" = true)
    (k13 : PySem.W.keepIn K (.ref f13) = true)
    (a14 : PySem.W.nsIn K mainGlobals "inverse" = some (some (.ref f14)))
    {oc14 : Value} {od14 an14 : Option Addr} {sl14 : Array (Option Value)} {kV14 dc14 pm14 cd14 ct14 : Value}
    (l14 : K.lookup f14 = some ⟨oc14, od14, .func (PySem.W.fnOf "inverse" "inverse" (defArgs sInverse) (defBody sInverse) (defScope sInverse) .none kV14 dc14 pm14 an14 cd14 ct14), sl14⟩)
    (c14 : PySem.W.codeIn K cd14 "inverse" = true)
    (k14 : PySem.W.keepIn K (.ref f14) = true)
    (a15 : PySem.W.nsIn K mainGlobals "reduced_rows" = some (some (.ref f15)))
    {oc15 : Value} {od15 an15 : Option Addr} {sl15 : Array (Option Value)} {kV15 dc15 pm15 cd15 ct15 : Value}
    (l15 : K.lookup f15 = some ⟨oc15, od15, .func (PySem.W.fnOf "reduced_rows" "reduced_rows" (defArgs sReduced) (defBody sReduced) (defScope sReduced) .none kV15 dc15 pm15 an15 cd15 ct15), sl15⟩)
    (c15 : PySem.W.codeIn K cd15 "reduced_rows" = true)
    (k15 : PySem.W.keepIn K (.ref f15) = true)
    (a16 : PySem.W.nsIn K mainGlobals "vanishing_rows" = some (some (.ref f16)))
    {oc16 : Value} {od16 an16 : Option Addr} {sl16 : Array (Option Value)} {kV16 dc16 pm16 cd16 ct16 : Value}
    (l16 : K.lookup f16 = some ⟨oc16, od16, .func (PySem.W.fnOf "vanishing_rows" "vanishing_rows" (defArgs sVanish) (defBody sVanish) (defScope sVanish) .none kV16 dc16 pm16 an16 cd16 ct16), sl16⟩)
    (c16 : PySem.W.codeIn K cd16 "vanishing_rows" = true)
    (k16 : PySem.W.keepIn K (.ref f16) = true)
    (a17 : PySem.W.nsIn K mainGlobals "_row_from" = some (some (.ref f17)))
    {oc17 : Value} {od17 an17 : Option Addr} {sl17 : Array (Option Value)} {kV17 dc17 pm17 cd17 ct17 : Value}
    (l17 : K.lookup f17 = some ⟨oc17, od17, .func (PySem.W.fnOf "_row_from" "_row_from" (defArgs sRowFrom) (defBody sRowFrom) (defScope sRowFrom) .none kV17 dc17 pm17 an17 cd17 ct17), sl17⟩)
    (c17 : PySem.W.codeIn K cd17 "_row_from" = true)
    (k17 : PySem.W.keepIn K (.ref f17) = true)
    (a18 : PySem.W.nsIn K mainGlobals "_last_place" = some (some (.ref f18)))
    {oc18 : Value} {od18 an18 : Option Addr} {sl18 : Array (Option Value)} {kV18 dc18 pm18 cd18 ct18 : Value}
    (l18 : K.lookup f18 = some ⟨oc18, od18, .func (PySem.W.fnOf "_last_place" "_last_place" (defArgs sLastPl) (defBody sLastPl) (defScope sLastPl) .none kV18 dc18 pm18 an18 cd18 ct18), sl18⟩)
    (c18 : PySem.W.codeIn K cd18 "_last_place" = true)
    (k18 : PySem.W.keepIn K (.ref f18) = true)
    (a19 : PySem.W.nsIn K mainGlobals "_scaled" = some (some (.ref f19)))
    {oc19 : Value} {od19 an19 : Option Addr} {sl19 : Array (Option Value)} {kV19 dc19 pm19 cd19 ct19 : Value}
    (l19 : K.lookup f19 = some ⟨oc19, od19, .func (PySem.W.fnOf "_scaled" "_scaled" (defArgs sScaled) (defBody sScaled) (defScope sScaled) .none kV19 dc19 pm19 an19 cd19 ct19), sl19⟩)
    (c19 : PySem.W.codeIn K cd19 "_scaled" = true)
    (k19 : PySem.W.keepIn K (.ref f19) = true)
    (a20 : PySem.W.nsIn K mainGlobals "_cleared" = some (some (.ref f20)))
    {oc20 : Value} {od20 an20 : Option Addr} {sl20 : Array (Option Value)} {kV20 dc20 pm20 cd20 ct20 : Value}
    (l20 : K.lookup f20 = some ⟨oc20, od20, .func (PySem.W.fnOf "_cleared" "_cleared" (defArgs sCleared) (defBody sCleared) (defScope sCleared) .none kV20 dc20 pm20 an20 cd20 ct20), sl20⟩)
    (c20 : PySem.W.codeIn K cd20 "_cleared" = true)
    (k20 : PySem.W.keepIn K (.ref f20) = true)
    (a21 : PySem.W.nsIn K mainGlobals "need_net" = some (some (.ref f21)))
    {oc21 : Value} {od21 an21 : Option Addr} {sl21 : Array (Option Value)} {kV21 dc21 pm21 cd21 ct21 : Value}
    (l21 : K.lookup f21 = some ⟨oc21, od21, .func (PySem.W.fnOf "need_net" "need_net" (defArgs sNeedNet) (defBody sNeedNet) (defScope sNeedNet) .none kV21 dc21 pm21 an21 cd21 ct21), sl21⟩)
    (c21 : PySem.W.codeIn K cd21 "need_net" = true)
    (k21 : PySem.W.keepIn K (.ref f21) = true)
    (a22 : PySem.W.nsIn K mainGlobals "kept_sums" = some (some (.ref f22)))
    {oc22 : Value} {od22 an22 : Option Addr} {sl22 : Array (Option Value)} {kV22 dc22 pm22 cd22 ct22 : Value}
    (l22 : K.lookup f22 = some ⟨oc22, od22, .func (PySem.W.fnOf "kept_sums" "kept_sums" (defArgs sKept) (defBody sKept) (defScope sKept) .none kV22 dc22 pm22 an22 cd22 ct22), sl22⟩)
    (c22 : PySem.W.codeIn K cd22 "kept_sums" = true)
    (k22 : PySem.W.keepIn K (.ref f22) = true)
    (a23 : PySem.W.nsIn K mainGlobals "_keeping_rows" = some (some (.ref f23)))
    {oc23 : Value} {od23 an23 : Option Addr} {sl23 : Array (Option Value)} {kV23 dc23 pm23 cd23 ct23 : Value}
    (l23 : K.lookup f23 = some ⟨oc23, od23, .func (PySem.W.fnOf "_keeping_rows" "_keeping_rows" (defArgs sKeeping) (defBody sKeeping) (defScope sKeeping) .none kV23 dc23 pm23 an23 cd23 ct23), sl23⟩)
    (c23 : PySem.W.codeIn K cd23 "_keeping_rows" = true)
    (k23 : PySem.W.keepIn K (.ref f23) = true)
    (a24 : PySem.W.nsIn K mainGlobals "_law_jar" = some (some (.ref f24)))
    {oc24 : Value} {od24 an24 : Option Addr} {sl24 : Array (Option Value)} {kV24 dc24 pm24 cd24 ct24 : Value}
    (l24 : K.lookup f24 = some ⟨oc24, od24, .func (PySem.W.fnOf "_law_jar" "_law_jar" (defArgs KJ.sJar) (defBody KJ.sJar) (defScope KJ.sJar) .none kV24 dc24 pm24 an24 cd24 ct24), sl24⟩)
    (c24 : PySem.W.codeIn K cd24 "_law_jar" = true)
    (k24 : PySem.W.keepIn K (.ref f24) = true)
    (a25 : PySem.W.nsIn K mainGlobals "_law_dip" = some (some (.ref f25)))
    {oc25 : Value} {od25 an25 : Option Addr} {sl25 : Array (Option Value)} {kV25 dc25 pm25 cd25 ct25 : Value}
    (l25 : K.lookup f25 = some ⟨oc25, od25, .func (PySem.W.fnOf "_law_dip" "_law_dip" (defArgs KJ.sDip) (defBody KJ.sDip) (defScope KJ.sDip) .none kV25 dc25 pm25 an25 cd25 ct25), sl25⟩)
    (c25 : PySem.W.codeIn K cd25 "_law_dip" = true)
    (k25 : PySem.W.keepIn K (.ref f25) = true)
    (a26 : PySem.W.nsIn K mainGlobals "_law_one_of" = some (some (.ref f26)))
    {oc26 : Value} {od26 an26 : Option Addr} {sl26 : Array (Option Value)} {kV26 dc26 pm26 cd26 ct26 : Value}
    (l26 : K.lookup f26 = some ⟨oc26, od26, .func (PySem.W.fnOf "_law_one_of" "_law_one_of" (defArgs KJ.sOne) (defBody KJ.sOne) (defScope KJ.sOne) .none kV26 dc26 pm26 an26 cd26 ct26), sl26⟩)
    (c26 : PySem.W.codeIn K cd26 "_law_one_of" = true)
    (k26 : PySem.W.keepIn K (.ref f26) = true)
    (a27 : PySem.W.nsIn K mainGlobals "_law_same" = some (some (.ref f27)))
    {oc27 : Value} {od27 an27 : Option Addr} {sl27 : Array (Option Value)} {kV27 dc27 pm27 cd27 ct27 : Value}
    (l27 : K.lookup f27 = some ⟨oc27, od27, .func (PySem.W.fnOf "_law_same" "_law_same" (defArgs lSame3) (defBody lSame3) (defScope lSame3) .none kV27 dc27 pm27 an27 cd27 ct27), sl27⟩)
    (c27 : PySem.W.codeIn K cd27 "_law_same" = true)
    (k27 : PySem.W.keepIn K (.ref f27) = true)
    (a28 : PySem.W.nsIn K mainGlobals "_law_frac" = some (some (.ref f28)))
    {oc28 : Value} {od28 an28 : Option Addr} {sl28 : Array (Option Value)} {kV28 dc28 pm28 cd28 ct28 : Value}
    (l28 : K.lookup f28 = some ⟨oc28, od28, .func (PySem.W.fnOf "_law_frac" "_law_frac" (defArgs lFrac) (defBody lFrac) (defScope lFrac) .none kV28 dc28 pm28 an28 cd28 ct28), sl28⟩)
    (c28 : PySem.W.codeIn K cd28 "_law_frac" = true)
    (k28 : PySem.W.keepIn K (.ref f28) = true)
    (a29 : PySem.W.nsIn K mainGlobals "_law_plus" = some (some (.ref f29)))
    {oc29 : Value} {od29 an29 : Option Addr} {sl29 : Array (Option Value)} {kV29 dc29 pm29 cd29 ct29 : Value}
    (l29 : K.lookup f29 = some ⟨oc29, od29, .func (PySem.W.fnOf "_law_plus" "_law_plus" (defArgs lPlus) (defBody lPlus) (defScope lPlus) .none kV29 dc29 pm29 an29 cd29 ct29), sl29⟩)
    (c29 : PySem.W.codeIn K cd29 "_law_plus" = true)
    (k29 : PySem.W.keepIn K (.ref f29) = true)
    (a30 : PySem.W.nsIn K mainGlobals "_law_less" = some (some (.ref f30)))
    {oc30 : Value} {od30 an30 : Option Addr} {sl30 : Array (Option Value)} {kV30 dc30 pm30 cd30 ct30 : Value}
    (l30 : K.lookup f30 = some ⟨oc30, od30, .func (PySem.W.fnOf "_law_less" "_law_less" (defArgs lLess) (defBody lLess) (defScope lLess) .none kV30 dc30 pm30 an30 cd30 ct30), sl30⟩)
    (c30 : PySem.W.codeIn K cd30 "_law_less" = true)
    (k30 : PySem.W.keepIn K (.ref f30) = true)
    (a31 : PySem.W.nsIn K mainGlobals "_law_by" = some (some (.ref f31)))
    {oc31 : Value} {od31 an31 : Option Addr} {sl31 : Array (Option Value)} {kV31 dc31 pm31 cd31 ct31 : Value}
    (l31 : K.lookup f31 = some ⟨oc31, od31, .func (PySem.W.fnOf "_law_by" "_law_by" (defArgs lBy) (defBody lBy) (defScope lBy) .none kV31 dc31 pm31 an31 cd31 ct31), sl31⟩)
    (c31 : PySem.W.codeIn K cd31 "_law_by" = true)
    (k31 : PySem.W.keepIn K (.ref f31) = true)
    (a32 : PySem.W.nsIn K mainGlobals "_law_over" = some (some (.ref f32)))
    {oc32 : Value} {od32 an32 : Option Addr} {sl32 : Array (Option Value)} {kV32 dc32 pm32 cd32 ct32 : Value}
    (l32 : K.lookup f32 = some ⟨oc32, od32, .func (PySem.W.fnOf "_law_over" "_law_over" (defArgs lOverW) (defBody lOverW) (defScope lOverW) .none kV32 dc32 pm32 an32 cd32 ct32), sl32⟩)
    (c32 : PySem.W.codeIn K cd32 "_law_over" = true)
    (k32 : PySem.W.keepIn K (.ref f32) = true)
    (a33 : PySem.W.nsIn K mainGlobals "_law_told_part" = some (some (.ref f33)))
    {oc33 : Value} {od33 an33 : Option Addr} {sl33 : Array (Option Value)} {kV33 dc33 pm33 cd33 ct33 : Value}
    (l33 : K.lookup f33 = some ⟨oc33, od33, .func (PySem.W.fnOf "_law_told_part" "_law_told_part" (defArgs lToldPart) (defBody lToldPart) (defScope lToldPart) .none kV33 dc33 pm33 an33 cd33 ct33), sl33⟩)
    (c33 : PySem.W.codeIn K cd33 "_law_told_part" = true)
    (k33 : PySem.W.keepIn K (.ref f33) = true)
    (a34 : PySem.W.nsIn K mainGlobals "_law_lot" = some (some (.ref f34)))
    {oc34 : Value} {od34 an34 : Option Addr} {sl34 : Array (Option Value)} {kV34 dc34 pm34 cd34 ct34 : Value}
    (l34 : K.lookup f34 = some ⟨oc34, od34, .func (PySem.W.fnOf "_law_lot" "_law_lot" (defArgs lLot) (defBody lLot) (defScope lLot) .none kV34 dc34 pm34 an34 cd34 ct34), sl34⟩)
    (c34 : PySem.W.codeIn K cd34 "_law_lot" = true)
    (k34 : PySem.W.keepIn K (.ref f34) = true)
    (a35 : PySem.W.nsIn K mainGlobals "_law_net" = some (some (.ref f35)))
    {oc35 : Value} {od35 an35 : Option Addr} {sl35 : Array (Option Value)} {kV35 dc35 pm35 cd35 ct35 : Value}
    (l35 : K.lookup f35 = some ⟨oc35, od35, .func (PySem.W.fnOf "_law_net" "_law_net" (defArgs lNet) (defBody lNet) (defScope lNet) .none kV35 dc35 pm35 an35 cd35 ct35), sl35⟩)
    (c35 : PySem.W.codeIn K cd35 "_law_net" = true)
    (k35 : PySem.W.keepIn K (.ref f35) = true)
    (a36 : PySem.W.nsIn K mainGlobals "_law_assignment" = some (some (.ref f36)))
    {oc36 : Value} {od36 an36 : Option Addr} {sl36 : Array (Option Value)} {kV36 dc36 pm36 cd36 ct36 : Value}
    (l36 : K.lookup f36 = some ⟨oc36, od36, .func (PySem.W.fnOf "_law_assignment" "_law_assignment" (defArgs lAsn) (defBody lAsn) (defScope lAsn) .none kV36 dc36 pm36 an36 cd36 ct36), sl36⟩)
    (c36 : PySem.W.codeIn K cd36 "_law_assignment" = true)
    (k36 : PySem.W.keepIn K (.ref f36) = true)
    (a37 : PySem.W.nsIn K mainGlobals "_law_share" = some (some (.ref f37)))
    {oc37 : Value} {od37 an37 : Option Addr} {sl37 : Array (Option Value)} {kV37 dc37 pm37 cd37 ct37 : Value}
    (l37 : K.lookup f37 = some ⟨oc37, od37, .func (PySem.W.fnOf "_law_share" "_law_share" (defArgs lShare) (defBody lShare) (defScope lShare) .none kV37 dc37 pm37 an37 cd37 ct37), sl37⟩)
    (c37 : PySem.W.codeIn K cd37 "_law_share" = true)
    (k37 : PySem.W.keepIn K (.ref f37) = true)
    (a38 : PySem.W.nsIn K mainGlobals "_law_table" = some (some (.ref f38)))
    {oc38 : Value} {od38 an38 : Option Addr} {sl38 : Array (Option Value)} {kV38 dc38 pm38 cd38 ct38 : Value}
    (l38 : K.lookup f38 = some ⟨oc38, od38, .func (PySem.W.fnOf "_law_table" "_law_table" (defArgs lTable) (defBody lTable) (defScope lTable) .none kV38 dc38 pm38 an38 cd38 ct38), sl38⟩)
    (c38 : PySem.W.codeIn K cd38 "_law_table" = true)
    (k38 : PySem.W.keepIn K (.ref f38) = true)
    (a39 : PySem.W.nsIn K mainGlobals "_law_dot" = some (some (.ref f39)))
    {oc39 : Value} {od39 an39 : Option Addr} {sl39 : Array (Option Value)} {kV39 dc39 pm39 cd39 ct39 : Value}
    (l39 : K.lookup f39 = some ⟨oc39, od39, .func (PySem.W.fnOf "_law_dot" "_law_dot" (defArgs lDot) (defBody lDot) (defScope lDot) .none kV39 dc39 pm39 an39 cd39 ct39), sl39⟩)
    (c39 : PySem.W.codeIn K cd39 "_law_dot" = true)
    (k39 : PySem.W.keepIn K (.ref f39) = true)
    (a40 : PySem.W.nsIn K mainGlobals "_law_conditions" = some (some (.ref f40)))
    {oc40 : Value} {od40 an40 : Option Addr} {sl40 : Array (Option Value)} {kV40 dc40 pm40 cd40 ct40 : Value}
    (l40 : K.lookup f40 = some ⟨oc40, od40, .func (PySem.W.fnOf "_law_conditions" "_law_conditions" (defArgs lConds) (defBody lConds) (defScope lConds) .none kV40 dc40 pm40 an40 cd40 ct40), sl40⟩)
    (c40 : PySem.W.codeIn K cd40 "_law_conditions" = true)
    (k40 : PySem.W.keepIn K (.ref f40) = true)
    (a41 : PySem.W.nsIn K mainGlobals "_law_solved" = some (some (.ref f41)))
    {oc41 : Value} {od41 an41 : Option Addr} {sl41 : Array (Option Value)} {kV41 dc41 pm41 cd41 ct41 : Value}
    (l41 : K.lookup f41 = some ⟨oc41, od41, .func (PySem.W.fnOf "_law_solved" "_law_solved" (defArgs lSolved) (defBody lSolved) (defScope lSolved) .none kV41 dc41 pm41 an41 cd41 ct41), sl41⟩)
    (c41 : PySem.W.codeIn K cd41 "_law_solved" = true)
    (k41 : PySem.W.keepIn K (.ref f41) = true)
    (a42 : PySem.W.nsIn K mainGlobals "_law_cleared" = some (some (.ref f42)))
    {oc42 : Value} {od42 an42 : Option Addr} {sl42 : Array (Option Value)} {kV42 dc42 pm42 cd42 ct42 : Value}
    (l42 : K.lookup f42 = some ⟨oc42, od42, .func (PySem.W.fnOf "_law_cleared" "_law_cleared" (defArgs lCleared) (defBody lCleared) (defScope lCleared) .none kV42 dc42 pm42 an42 cd42 ct42), sl42⟩)
    (c42 : PySem.W.codeIn K cd42 "_law_cleared" = true)
    (k42 : PySem.W.keepIn K (.ref f42) = true)
    (a43 : PySem.W.nsIn K mainGlobals "_law_basis" = some (some (.ref f43)))
    {oc43 : Value} {od43 an43 : Option Addr} {sl43 : Array (Option Value)} {kV43 dc43 pm43 cd43 ct43 : Value}
    (l43 : K.lookup f43 = some ⟨oc43, od43, .func (PySem.W.fnOf "_law_basis" "_law_basis" (defArgs lBasis) (defBody lBasis) (defScope lBasis) .none kV43 dc43 pm43 an43 cd43 ct43), sl43⟩)
    (c43 : PySem.W.codeIn K cd43 "_law_basis" = true)
    (k43 : PySem.W.keepIn K (.ref f43) = true)
    (a44 : PySem.W.nsIn K mainGlobals "_law_closed" = some (some (.ref f44)))
    {oc44 : Value} {od44 an44 : Option Addr} {sl44 : Array (Option Value)} {kV44 dc44 pm44 cd44 ct44 : Value}
    (l44 : K.lookup f44 = some ⟨oc44, od44, .func (PySem.W.fnOf "_law_closed" "_law_closed" (defArgs lClosed) (defBody lClosed) (defScope lClosed) .none kV44 dc44 pm44 an44 cd44 ct44), sl44⟩)
    (c44 : PySem.W.codeIn K cd44 "_law_closed" = true)
    (k44 : PySem.W.keepIn K (.ref f44) = true)
    (a45 : PySem.W.nsIn K mainGlobals "_law_is_kept" = some (some (.ref f45)))
    {oc45 : Value} {od45 an45 : Option Addr} {sl45 : Array (Option Value)} {kV45 dc45 pm45 cd45 ct45 : Value}
    (l45 : K.lookup f45 = some ⟨oc45, od45, .func (PySem.W.fnOf "_law_is_kept" "_law_is_kept" (defArgs lIsKept) (defBody lIsKept) (defScope lIsKept) .none kV45 dc45 pm45 an45 cd45 ct45), sl45⟩)
    (c45 : PySem.W.codeIn K cd45 "_law_is_kept" = true)
    (k45 : PySem.W.keepIn K (.ref f45) = true)
    (a46 : PySem.W.nsIn K mainGlobals "_law_right" = some (some (.ref f46)))
    {oc46 : Value} {od46 an46 : Option Addr} {sl46 : Array (Option Value)} {kV46 dc46 pm46 cd46 ct46 : Value}
    (l46 : K.lookup f46 = some ⟨oc46, od46, .func (PySem.W.fnOf "_law_right" "_law_right" (defArgs lRight3) (defBody lRight3) (defScope lRight3) .none kV46 dc46 pm46 an46 cd46 ct46), sl46⟩)
    (c46 : PySem.W.codeIn K cd46 "_law_right" = true)
    (k46 : PySem.W.keepIn K (.ref f46) = true)
    (a47 : PySem.W.nsIn K mainGlobals "law" = some (some (.ref f47)))
    {oc47 : Value} {od47 an47 : Option Addr} {sl47 : Array (Option Value)} {kV47 dc47 pm47 cd47 ct47 : Value}
    (l47 : K.lookup f47 = some ⟨oc47, od47, .func (PySem.W.fnOf "law" "law" (defArgs lLaw3) (defBody lLaw3) (defScope lLaw3) .none kV47 dc47 pm47 an47 cd47 ct47), sl47⟩)
    (c47 : PySem.W.codeIn K cd47 "law" = true)
    (k47 : PySem.W.keepIn K (.ref f47) = true)
    (ztype : PySem.W.nsIn K mainGlobals "type" = some none)
    (zint : PySem.W.nsIn K mainGlobals "int" = some none)
    (ztuple : PySem.W.nsIn K mainGlobals "tuple" = some none)
    (zstr : PySem.W.nsIn K mainGlobals "str" = some none)
    (zlen : PySem.W.nsIn K mainGlobals "len" = some none)
    (zabs : PySem.W.nsIn K mainGlobals "abs" = some none)
    (zall : PySem.W.nsIn K mainGlobals "all" = some none)
    (zenumerate : PySem.W.nsIn K mainGlobals "enumerate" = some none)
    (zzip : PySem.W.nsIn K mainGlobals "zip" = some none)
    (zisinstance : PySem.W.nsIn K mainGlobals "isinstance" = some none)
    (zbool : PySem.W.nsIn K mainGlobals "bool" = some none)
    (zrange : PySem.W.nsIn K mainGlobals "range" = some none)
    (zany : PySem.W.nsIn K mainGlobals "any" = some none)
    (zset : PySem.W.nsIn K mainGlobals "set" = some none)
    (zsorted : PySem.W.nsIn K mainGlobals "sorted" = some none)
    (zlist : PySem.W.nsIn K mainGlobals "list" = some none)
    (zrepr : PySem.W.nsIn K mainGlobals "repr" = some none)
    (zmax : PySem.W.nsIn K mainGlobals "max" = some none)
    (zmin : PySem.W.nsIn K mainGlobals "min" = some none)
    (zdivmod : PySem.W.nsIn K mainGlobals "divmod" = some none)
    {tk0 : Tok}
    (q0 : PySem.W.nsIn K mainGlobals "TOLD_BOUND" = some (some (.int 999 tk0)))
    {tk1 : Tok}
    (q1 : PySem.W.nsIn K mainGlobals "MOST_TANKS" = some (some (.int 4 tk1)))
    {tk2 : Tok}
    (q2 : PySem.W.nsIn K mainGlobals "MOST_UNKNOWNS" = some (some (.int 4 tk2)))
    {tk3 : Tok}
    (q3 : PySem.W.nsIn K mainGlobals "MOST_TOGETHER" = some (some (.int 7 tk3)))
    {tk4 : Tok}
    (q4 : PySem.W.nsIn K mainGlobals "MOST_PIPES" = some (some (.int 12 tk4)))
    {aU : Addr} {odU : Option Addr} {taU tbU : Tok} {nU : Nat} {slU : Array (Option Value)}
    (qU : PySem.W.nsIn K mainGlobals "UNIT" = some (some (.ref aU)))
    (lU : K.lookup aU = some ⟨.type "tuple", odU, .seq #[.int 1 taU, .int 1 tbU] nU, slU⟩)
    {aN : Addr} {odN : Option Addr} {taN tbN : Tok} {nN : Nat} {slN : Array (Option Value)}
    (qN : PySem.W.nsIn K mainGlobals "NOUGHT" = some (some (.ref aN)))
    (lN : K.lookup aN = some ⟨.type "tuple", odN, .seq #[.int 0 taN, .int 1 tbN] nN, slN⟩)
    (qg : PySem.W.nsIn K mainGlobals "gcd" = some (some (.builtin "math.gcd")))
    (nt : PySem.W.noTabs K = true)
    : ∃ (fd : FuncData) (cs : List (Addr × Addr)) (sp : Sp), (∀ p ∈ cs, h.get? p.2 = some { cls := .none, data := .fields #[] }) ∧ (∀ p ∈ cs, K.lookup p.2 = none) ∧ (∀ p ∈ cs, PySem.W.CodeHd h p.1 p.2) ∧ (∀ (s : Shared) (u : Value), BindsTo s fd ⟨[u], []⟩ [("script", u)]) ∧
        (∀ (H : Hp) (a : Addr) (ns : List Int), ns.length ≤ 63 → (∀ p ∈ cs, H p.2 = some (.tbl #[])) → SqL K H a (ns.map V.int) → sp [.ref a] H (fun v _ => v = .bl true) fun _ _ _ => False) ∧
        ∀ base : Heap, K.In base → base.Ns mainGlobals mg → (∀ p ∈ cs, GxR.TabB base mg p.1 p.2) → FnG l.prog w K mg base 15 fa fd ["script"] sp := by
  have e := hfa.symm.trans (PySem.W.mg_of X G a47)
  cases e
  have F0 := fun_mk (st := sWhole) l0 c0 k0
  have m0 := PySem.W.mg_of X G a0
  have b0 := F0.binds (ps := ["value"]) fun _ _ _ _ _ _ us hl => match us, hl with | [_], _ => rfl
  have F1 := fun_mk (st := sWithin) l1 c1 k1
  have m1 := PySem.W.mg_of X G a1
  have b1 := F1.binds (ps := ["value", "least", "most"]) fun _ _ _ _ _ _ us hl => match us, hl with | [_, _, _], _ => rfl
  have F2 := fun_mk (st := sRatio) l2 c2 k2
  have m2 := PySem.W.mg_of X G a2
  have b2 := F2.binds (ps := ["value"]) fun _ _ _ _ _ _ us hl => match us, hl with | [_], _ => rfl
  have F3 := fun_mk (st := sTold) l3 c3 k3
  have m3 := PySem.W.mg_of X G a3
  have b3 := F3.binds (ps := ["value"]) fun _ _ _ _ _ _ us hl => match us, hl with | [_], _ => rfl
  have F4 := fun_mk (st := sNet) l4 c4 k4
  have m4 := PySem.W.mg_of X G a4
  have b4 := F4.binds (ps := ["value"]) fun _ _ _ _ _ _ us hl => match us, hl with | [_], _ => rfl
  have F5 := fun_mk (st := sPipes) l5 c5 k5
  have m5 := PySem.W.mg_of X G a5
  have b5 := F5.binds (ps := ["pipes", "many", "unknowns"]) fun _ _ _ _ _ _ us hl => match us, hl with | [_, _, _], _ => rfl
  have F6 := fun_mk (st := sPipe) l6 c6 k6
  have m6 := PySem.W.mg_of X G a6
  have b6 := F6.binds (ps := ["pipe", "many", "unknowns"]) fun _ _ _ _ _ _ us hl => match us, hl with | [_, _, _], _ => rfl
  have F7 := fun_mk (st := sShare) l7 c7 k7
  have m7 := PySem.W.mg_of X G a7
  have b7 := F7.binds (ps := ["share", "unknowns"]) fun _ _ _ _ _ _ us hl => match us, hl with | [_, _], _ => rfl
  have F8 := fun_mk (st := sTanks) l8 c8 k8
  have m8 := PySem.W.mg_of X G a8
  have b8 := F8.binds (ps := ["tanks", "many"]) fun _ _ _ _ _ _ us hl => match us, hl with | [_, _], _ => rfl
  have F9 := fun_mk (st := sLowest) l9 c9 k9
  have m9 := PySem.W.mg_of X G a9
  have b9 := F9.binds (ps := ["above", "below"]) fun _ _ _ _ _ _ us hl => match us, hl with | [_, _], _ => rfl
  have F10 := fun_mk (st := sAdded) l10 c10 k10
  have m10 := PySem.W.mg_of X G a10
  have b10 := F10.binds (ps := ["one", "two"]) fun _ _ _ _ _ _ us hl => match us, hl with | [_, _], _ => rfl
  have F11 := fun_mk (st := sNeg) l11 c11 k11
  have m11 := PySem.W.mg_of X G a11
  have b11 := F11.binds (ps := ["one"]) fun _ _ _ _ _ _ us hl => match us, hl with | [_], _ => rfl
  have F12 := fun_mk (st := sLess) l12 c12 k12
  have m12 := PySem.W.mg_of X G a12
  have b12 := F12.binds (ps := ["one", "two"]) fun _ _ _ _ _ _ us hl => match us, hl with | [_, _], _ => rfl
  have F13 := fun_mk (st := sMul) l13 c13 k13
  have m13 := PySem.W.mg_of X G a13
  have b13 := F13.binds (ps := ["one", "two"]) fun _ _ _ _ _ _ us hl => match us, hl with | [_, _], _ => rfl
  have F14 := fun_mk (st := sInverse) l14 c14 k14
  have m14 := PySem.W.mg_of X G a14
  have b14 := F14.binds (ps := ["one"]) fun _ _ _ _ _ _ us hl => match us, hl with | [_], _ => rfl
  have F15 := fun_mk (st := sReduced) l15 c15 k15
  have m15 := PySem.W.mg_of X G a15
  have b15 := F15.binds (ps := ["rows", "width"]) fun _ _ _ _ _ _ us hl => match us, hl with | [_, _], _ => rfl
  have F16 := fun_mk (st := sVanish) l16 c16 k16
  have m16 := PySem.W.mg_of X G a16
  have b16 := F16.binds (ps := ["rows", "width"]) fun _ _ _ _ _ _ us hl => match us, hl with | [_, _], _ => rfl
  have F17 := fun_mk (st := sRowFrom) l17 c17 k17
  have m17 := PySem.W.mg_of X G a17
  have b17 := F17.binds (ps := ["place", "leaders", "width"]) fun _ _ _ _ _ _ us hl => match us, hl with | [_, _, _], _ => rfl
  have F18 := fun_mk (st := sLastPl) l18 c18 k18
  have m18 := PySem.W.mg_of X G a18
  have b18 := F18.binds (ps := ["row"]) fun _ _ _ _ _ _ us hl => match us, hl with | [_], _ => rfl
  have F19 := fun_mk (st := sScaled) l19 c19 k19
  have m19 := PySem.W.mg_of X G a19
  have b19 := F19.binds (ps := ["row", "factor"]) fun _ _ _ _ _ _ us hl => match us, hl with | [_, _], _ => rfl
  have F20 := fun_mk (st := sCleared) l20 c20 k20
  have m20 := PySem.W.mg_of X G a20
  have b20 := F20.binds (ps := ["row", "leader", "place"]) fun _ _ _ _ _ _ us hl => match us, hl with | [_, _, _], _ => rfl
  have F21 := fun_mk (st := sNeedNet) l21 c21 k21
  have m21 := PySem.W.mg_of X G a21
  have b21 := F21.binds (ps := ["net"]) fun _ _ _ _ _ _ us hl => match us, hl with | [_], _ => rfl
  have F22 := fun_mk (st := sKept) l22 c22 k22
  have m22 := PySem.W.mg_of X G a22
  have b22 := F22.binds (ps := ["net"]) fun _ _ _ _ _ _ us hl => match us, hl with | [_], _ => rfl
  have F23 := fun_mk (st := sKeeping) l23 c23 k23
  have m23 := PySem.W.mg_of X G a23
  have b23 := F23.binds (ps := ["net"]) fun _ _ _ _ _ _ us hl => match us, hl with | [_], _ => rfl
  have F24 := fun_mk (st := KJ.sJar) l24 c24 k24
  have m24 := PySem.W.mg_of X G a24
  have b24 := F24.binds (ps := ["script", "turn"]) fun _ _ _ _ _ _ us hl => match us, hl with | [_, _], _ => rfl
  have F25 := fun_mk (st := KJ.sDip) l25 c25 k25
  have m25 := PySem.W.mg_of X G a25
  have b25 := F25.binds (ps := ["jar", "top"]) fun _ _ _ _ _ _ us hl => match us, hl with | [_, _], _ => rfl
  have F26 := fun_mk (st := KJ.sOne) l26 c26 k26
  have m26 := PySem.W.mg_of X G a26
  have b26 := F26.binds (ps := ["jar", "some"]) fun _ _ _ _ _ _ us hl => match us, hl with | [_, _], _ => rfl
  have F27 := fun_mk (st := lSame3) l27 c27 k27
  have m27 := PySem.W.mg_of X G a27
  have b27 := F27.binds (ps := ["told", "due"]) fun _ _ _ _ _ _ us hl => match us, hl with | [_, _], _ => rfl
  have F28 := fun_mk (st := lFrac) l28 c28 k28
  have m28 := PySem.W.mg_of X G a28
  have b28 := F28.binds (ps := ["top", "low"]) fun _ _ _ _ _ _ us hl => match us, hl with | [_, _], _ => rfl
  have F29 := fun_mk (st := lPlus) l29 c29 k29
  have m29 := PySem.W.mg_of X G a29
  have b29 := F29.binds (ps := ["one", "two"]) fun _ _ _ _ _ _ us hl => match us, hl with | [_, _], _ => rfl
  have F30 := fun_mk (st := lLess) l30 c30 k30
  have m30 := PySem.W.mg_of X G a30
  have b30 := F30.binds (ps := ["one", "two"]) fun _ _ _ _ _ _ us hl => match us, hl with | [_, _], _ => rfl
  have F31 := fun_mk (st := lBy) l31 c31 k31
  have m31 := PySem.W.mg_of X G a31
  have b31 := F31.binds (ps := ["one", "two"]) fun _ _ _ _ _ _ us hl => match us, hl with | [_, _], _ => rfl
  have F32 := fun_mk (st := lOverW) l32 c32 k32
  have m32 := PySem.W.mg_of X G a32
  have b32 := F32.binds (ps := ["one", "two"]) fun _ _ _ _ _ _ us hl => match us, hl with | [_, _], _ => rfl
  have F33 := fun_mk (st := lToldPart) l33 c33 k33
  have m33 := PySem.W.mg_of X G a33
  have b33 := F33.binds (ps := ["jar"]) fun _ _ _ _ _ _ us hl => match us, hl with | [_], _ => rfl
  have F34 := fun_mk (st := lLot) l34 c34 k34
  have m34 := PySem.W.mg_of X G a34
  have b34 := F34.binds (ps := ["jar", "many"]) fun _ _ _ _ _ _ us hl => match us, hl with | [_, _], _ => rfl
  have F35 := fun_mk (st := lNet) l35 c35 k35
  have m35 := PySem.W.mg_of X G a35
  have b35 := F35.binds (ps := ["jar", "most"]) fun _ _ _ _ _ _ us hl => match us, hl with | [_, _], _ => rfl
  have F36 := fun_mk (st := lAsn) l36 c36 k36
  have m36 := PySem.W.mg_of X G a36
  have b36 := F36.binds (ps := ["jar", "net"]) fun _ _ _ _ _ _ us hl => match us, hl with | [_, _], _ => rfl
  have F37 := fun_mk (st := lShare) l37 c37 k37
  have m37 := PySem.W.mg_of X G a37
  have b37 := F37.binds (ps := ["share", "assignment"]) fun _ _ _ _ _ _ us hl => match us, hl with | [_, _], _ => rfl
  have F38 := fun_mk (st := lTable) l38 c38 k38
  have m38 := PySem.W.mg_of X G a38
  have b38 := F38.binds (ps := ["net", "assignment"]) fun _ _ _ _ _ _ us hl => match us, hl with | [_, _], _ => rfl
  have F39 := fun_mk (st := lDot) l39 c39 k39
  have m39 := PySem.W.mg_of X G a39
  have b39 := F39.binds (ps := ["one", "two"]) fun _ _ _ _ _ _ us hl => match us, hl with | [_, _], _ => rfl
  have F40 := fun_mk (st := lConds) l40 c40 k40
  have m40 := PySem.W.mg_of X G a40
  have b40 := F40.binds (ps := ["net"]) fun _ _ _ _ _ _ us hl => match us, hl with | [_], _ => rfl
  have F41 := fun_mk (st := lSolved) l41 c41 k41
  have m41 := PySem.W.mg_of X G a41
  have b41 := F41.binds (ps := ["rows", "many"]) fun _ _ _ _ _ _ us hl => match us, hl with | [_, _], _ => rfl
  have F42 := fun_mk (st := lCleared) l42 c42 k42
  have m42 := PySem.W.mg_of X G a42
  have b42 := F42.binds (ps := ["row", "first", "column"]) fun _ _ _ _ _ _ us hl => match us, hl with | [_, _, _], _ => rfl
  have F43 := fun_mk (st := lBasis) l43 c43 k43
  have m43 := PySem.W.mg_of X G a43
  have b43 := F43.binds (ps := ["net"]) fun _ _ _ _ _ _ us hl => match us, hl with | [_], _ => rfl
  have F44 := fun_mk (st := lClosed) l44 c44 k44
  have m44 := PySem.W.mg_of X G a44
  have b44 := F44.binds (ps := ["jar"]) fun _ _ _ _ _ _ us hl => match us, hl with | [_], _ => rfl
  have F45 := fun_mk (st := lIsKept) l45 c45 k45
  have m45 := PySem.W.mg_of X G a45
  have b45 := F45.binds (ps := ["net", "row", "assignment"]) fun _ _ _ _ _ _ us hl => match us, hl with | [_, _, _], _ => rfl
  have F46 := fun_mk (st := lRight3) l46 c46 k46
  have m46 := PySem.W.mg_of X G a46
  have b46 := F46.binds (ps := ["jar"]) fun _ _ _ _ _ _ us hl => match us, hl with | [_], _ => rfl
  have F47 := fun_mk (st := lLaw3) l47 c47 k47
  have m47 := PySem.W.mg_of X G a47
  have b47 := F47.binds (ps := ["script"]) fun _ _ _ _ _ _ us hl => match us, hl with | [_], _ => rfl
  obtain ⟨cp, Pp, ecp, cdp, gp, nnp⟩ := tab_def X m5 l5 nt tp
  have ecp : cd5 = .ref cp := ecp
  have FCp : FunC K "_are_pipes" "_are_pipes" sPipes f5 _ cp := ⟨_, _, _, _, _, _, _, _, by rw [ecp], l5, by rw [← ecp]; exact c5⟩
  obtain ⟨ct, Pt, ect, cdt, gt, nnt⟩ := tab_def X m8 l8 nt tt
  have ect : cd8 = .ref ct := ect
  have FCt : FunC K "_are_tanks" "_are_tanks" sTanks f8 _ ct := ⟨_, _, _, _, _, _, _, _, by rw [ect], l8, by rw [← ect]; exact c8⟩
  have TT : TxT mg := ⟨PySem.W.mg_none_of X G ztype, PySem.W.mg_none_of X G zint, PySem.W.mg_none_of X G ztuple, PySem.W.mg_none_of X G zstr, PySem.W.mg_none_of X G zlen, PySem.W.mg_none_of X G zabs, PySem.W.mg_none_of X G zall, PySem.W.mg_none_of X G zenumerate, PySem.W.mg_none_of X G zzip⟩
  have TL : TxL mg := { toTxT := TT, isinstance := PySem.W.mg_none_of X G zisinstance, bool := PySem.W.mg_none_of X G zbool, range := PySem.W.mg_none_of X G zrange, any := PySem.W.mg_none_of X G zany }
  have TD : TxD mg := { toTxL := TL, set := PySem.W.mg_none_of X G zset, sorted := PySem.W.mg_none_of X G zsorted, list := PySem.W.mg_none_of X G zlist, repr := PySem.W.mg_none_of X G zrepr, max := PySem.W.mg_none_of X G zmax, min := PySem.W.mg_none_of X G zmin }
  have TJ : TxJ mg := ⟨PySem.W.mg_none_of X G zint, PySem.W.mg_none_of X G zlen, PySem.W.mg_none_of X G zabs, PySem.W.mg_none_of X G zdivmod⟩
  have mZ : mg "zip" = none := PySem.W.mg_none_of X G zzip
  have mc0 := PySem.W.mg_of X G q0
  have mc1 := PySem.W.mg_of X G q1
  have mc2 := PySem.W.mg_of X G q2
  have mc3 := PySem.W.mg_of X G q3
  have mc4 := PySem.W.mg_of X G q4
  have mg1 := PySem.W.mg_of X G qg
  have CU : ∀ H, SqT K H aU [.int 1, .int 1] := fun H => .inr ⟨_, _, _, lU, rfl, rfl, (by show 2 ≤ sizeLine; decide), .cons ⟨_, rfl⟩ (.cons ⟨_, rfl⟩ .nil)⟩
  have CN : ∀ H, SqT K H aN [.int 0, .int 1] := fun H => .inr ⟨_, _, _, lN, rfl, rfl, (by show 2 ≤ sizeLine; decide), .cons ⟨_, rfl⟩ (.cons ⟨_, rfl⟩ .nil)⟩
  have CC : Cst K mg aU aN := ⟨PySem.W.mg_of X G qU, PySem.W.mg_of X G qN, CU, CN⟩
  have bkR : KBinds K (PySem.W.fnOf "kept_sums" "kept_sums" (defArgs sKept) (defBody sKept) (defScope sKept) .none kV22 dc22 pm22 an22 cd22 ct22) ["net"] ["net"] gRev gRevV := binds1 (fun s a => .of_eq rfl) (fun s a => .of_eq rfl)
  refine ⟨PySem.W.fnOf "law" "law" (defArgs lLaw3) (defBody lLaw3) (defScope lLaw3) .none kV47 dc47 pm47 an47 cd47 ct47, [(cp, Pp), (ct, Pt)], spLaw3 K [Pp, Pt], ?_, ?_, ?_, fun s v => .of_eq rfl, fun H a ns hl ht hS => ⟨a, ns, rfl, hS, hl, ?_, fun _ => rfl⟩, fun base _ _ TB => ?_⟩
  · intro p hp
    simp only [List.mem_cons, List.not_mem_nil, or_false] at hp
    rcases hp with rfl | rfl <;> assumption
  · intro p hp
    simp only [List.mem_cons, List.not_mem_nil, or_false] at hp
    rcases hp with rfl | rfl <;> assumption
  · intro p hp
    simp only [List.mem_cons, List.not_mem_nil, or_false] at hp
    rcases hp with rfl | rfl <;> assumption
  · intro p hp
    simp only [List.mem_cons, List.not_mem_nil, or_false] at hp
    rcases hp with rfl | rfl
    · exact ⟨#[], ht (cp, p) (by simp), trivial⟩
    · exact ⟨#[], ht (ct, p) (by simp), trivial⟩
  have TBp := TB (cp, Pp) (by simp)
  have TBt := TB (ct, Pt) (by simp)
  have G0 := ok_whole (P := l.prog) (w := w) (base := base) F0 TT
  have G1 := ok_within F1 G0 m0 k0 b0
  have G2 := ok_ratio F2 TT mg1 G0 m0 k0 b0
  have G3 := ok_told F3 TT mc0 ⟨_, rfl⟩ G2 m2 k2 b2
  have G7 := ok_share F7 TT G1 m1 k1 b1 G3 m3 k3 b3
  have G6 := ok_pipe F6 TT G1 m1 k1 b1 G7 m7 k7 b7
  have G5 := ok_pipes (Ps := [Pp, Pt]) FCp TT TBp (by simp) mc4 ⟨_, rfl⟩ G6 m6 k6 b6
  have G8 := ok_tanks (Ps := [Pp, Pt]) FCt TT TBt (by simp) G1 m1 k1 b1
  have G4 := ok_net F4 TT mc1 ⟨_, rfl⟩ mc2 ⟨_, rfl⟩ mc3 ⟨_, rfl⟩ G1 m1 k1 b1 G5 m5 k5 b5 G8 m8 k8 b8
  have G9 := ok_lowest (P := l.prog) (w := w) (base := base) F9 mg1
  have G10 := ok_added F10 G9 m9 k9 b9
  have G11 := ok_negative (P := l.prog) (w := w) (base := base) (mg := mg) F11
  have G12 := ok_lessened F12 G10 m10 k10 b10 G11 m11 k11 b11
  have G13 := ok_multiplied F13 G9 m9 k9 b9
  have G14 := ok_inverse (P := l.prog) (w := w) (base := base) (mg := mg) F14
  have G19 := ok_scaled F19 G13 m13 k13 b13
  have G20 := ok_cleared F20 mZ CC G13 m13 k13 b13 G12 m12 k12 b12
  have G15 := ok_reduced F15 TD CC G19 m19 k19 b19 G14 m14 k14 b14 G20 m20 k20 b20
  have G18 := ok_lastplace (P := l.prog) (w := w) (base := base) F18 TD CC
  have G17 := ok_rowfrom F17 TD CC G11 m11 k11 b11
  have G16 := ok_vanish (aU := aU) (aN := aN) F16 TD G15 m15 k15 b15 G18 m18 k18 b18 G17 m17 k17 b17
  have G21 := ok_neednet F21 G4 m4 k4 b4
  have G23 := ok_keeping F23 TD CC G12 m12 k12 b12 G10 m10 k10 b10
  have G22 := ok_kept F22 TD G21 m21 k21 b21 G16 m16 k16 b16 G23 m23 k23 b23
  have G24 := ok_jar (P := l.prog) (w := w) (base := base) F24 TJ
  have G25 := ok_dip (P := l.prog) (w := w) (base := base) F25 TJ
  have G26 := ok_one F26 TJ G25 m25 k25 b25
  have G28 := ok_fracW (P := l.prog) (w := w) (base := base) F28 TT
  have G29 := ok_plusL F29 G28 m28 k28 b28
  have G30 := ok_lessL F30 G28 m28 k28 b28
  have G31 := ok_byL F31 G28 m28 k28 b28
  have G31T := ok_byW F31 G28 m28 k28 b28
  have G30T := ok_lessW F30 G28 m28 k28 b28
  have G32 := ok_overW F32 G28 m28 k28 b28
  have G33 := ok_part2 F33 G25 m25 k25 b25 G26 m26 k26 b26 G28 m28 k28 b28
  have G34 := ok_lot2 F34 TD G25 m25 k25 b25
  have G35 := ok_make2 F35 TD G25 m25 k25 b25 G26 m26 k26 b26 G33 m33 k33 b33 G34 m34 k34 b34
  have G36 := ok_asn F36 TD G33 m33 k33 b33
  have G37 := ok_shareL (P := l.prog) (w := w) (base := base) (mg := mg) F37
  have G38 := ok_tableL F38 TD G37 m37 k37 b37 G30 m30 k30 b30 G29 m29 k29 b29
  have G39 := ok_dotL F39 TD mZ G29 m29 k29 b29 G31 m31 k31 b31
  have G40 := ok_conds F40 TD G30 m30 k30 b30 G29 m29 k29 b29
  have G42 := ok_clrL F42 mZ G31T m31 k31 b31 G30T m30 k30 b30
  have G41 := ok_solved F41 TD G32 m32 k32 b32 G42 m42 k42 b42
  have G43 := ok_basis F43 TD mZ G41 m41 k41 b41 G40 m40 k40 b40 G30 m30 k30 b30
  have G44 := ok_closed F44 TD G35 m35 k35 b35 G25 m25 k25 b25 G33 m33 k33 b33
  have G45 := ok_iskept F45 TD G38 m38 k38 b38 G39 m39 k39 b39
  have G27 := ok_same3 (P := l.prog) (w := w) (base := base) F27 TD
  have G46 := ok_right7 F46 TD G44 m44 k44 b44 G43 m43 k43 b43 G22 m22 k22 b22 bkR G27 m27 k27 b27 G36 m36 k36 b36 G45 m45 k45 b45
  exact ok_law3 F47 TD G46 m46 k46 b46 G24 m24 k24 b24
end KP

set_option Elab.async false
set_option linter.all false
open PySem PySem.W PyProof.Rows in
set_option maxRecDepth 100000 in
set_option maxHeartbeats 0 in
theorem PySem.Challenge.cw_hiddenrates_k07_whole_kept_sums_by_own_e_holds : PySem.Challenge.rw_hiddenrates_k07_whole_kept_sums_by_own_e.Holds := by
  w_on; o_law; k_head; (case hw => w_witness2)
  k_fill
  refine KG.walkGT (l := PySem.Challenge.rw_hiddenrates_k07_whole_kept_sums_by_own_e) (n := 63) (k := 15) (x := "script") rfl (by decide) rfl ⟨rfl, by decide, by decide⟩ (fun w h Y => PySem.W.kIn_of Y) ?F
  case F =>
    intro w mg fa h inK G hmg tab
    refine' _root_.KP.all_mk7 inK G hmg (tab _ ?tp) (tab _ ?tt) ?a0 ?l0 ?c0 ?k0 ?a1 ?l1 ?c1 ?k1 ?a2 ?l2 ?c2 ?k2 ?a3 ?l3 ?c3 ?k3 ?a4 ?l4 ?c4 ?k4 ?a5 ?l5 ?c5 ?k5 ?a6 ?l6 ?c6 ?k6 ?a7 ?l7 ?c7 ?k7 ?a8 ?l8 ?c8 ?k8 ?a9 ?l9 ?c9 ?k9 ?a10 ?l10 ?c10 ?k10 ?a11 ?l11 ?c11 ?k11 ?a12 ?l12 ?c12 ?k12 ?a13 ?l13 ?c13 ?k13 ?a14 ?l14 ?c14 ?k14 ?a15 ?l15 ?c15 ?k15 ?a16 ?l16 ?c16 ?k16 ?a17 ?l17 ?c17 ?k17 ?a18 ?l18 ?c18 ?k18 ?a19 ?l19 ?c19 ?k19 ?a20 ?l20 ?c20 ?k20 ?a21 ?l21 ?c21 ?k21 ?a22 ?l22 ?c22 ?k22 ?a23 ?l23 ?c23 ?k23 ?a24 ?l24 ?c24 ?k24 ?a25 ?l25 ?c25 ?k25 ?a26 ?l26 ?c26 ?k26 ?a27 ?l27 ?c27 ?k27 ?a28 ?l28 ?c28 ?k28 ?a29 ?l29 ?c29 ?k29 ?a30 ?l30 ?c30 ?k30 ?a31 ?l31 ?c31 ?k31 ?a32 ?l32 ?c32 ?k32 ?a33 ?l33 ?c33 ?k33 ?a34 ?l34 ?c34 ?k34 ?a35 ?l35 ?c35 ?k35 ?a36 ?l36 ?c36 ?k36 ?a37 ?l37 ?c37 ?k37 ?a38 ?l38 ?c38 ?k38 ?a39 ?l39 ?c39 ?k39 ?a40 ?l40 ?c40 ?k40 ?a41 ?l41 ?c41 ?k41 ?a42 ?l42 ?c42 ?k42 ?a43 ?l43 ?c43 ?k43 ?a44 ?l44 ?c44 ?k44 ?a45 ?l45 ?c45 ?k45 ?a46 ?l46 ?c46 ?k46 ?a47 ?l47 ?c47 ?k47 ?ztype ?zint ?ztuple ?zstr ?zlen ?zabs ?zall ?zenumerate ?zzip ?zisinstance ?zbool ?zrange ?zany ?zset ?zsorted ?zlist ?zrepr ?zmax ?zmin ?zdivmod ?q0 ?q1 ?q2 ?q3 ?q4 ?qU ?lU ?qN ?lN ?qg ?nt
    (case a0 => k_is)
    (case l0 => k_is)
    (case c0 => k_is)
    (case k0 => k_is)
    (case a1 => k_is)
    (case l1 => k_is)
    (case c1 => k_is)
    (case k1 => k_is)
    (case a2 => k_is)
    (case l2 => k_is)
    (case c2 => k_is)
    (case k2 => k_is)
    (case a3 => k_is)
    (case l3 => k_is)
    (case c3 => k_is)
    (case k3 => k_is)
    (case a4 => k_is)
    (case l4 => k_is)
    (case c4 => k_is)
    (case k4 => k_is)
    (case a5 => k_is)
    (case l5 => k_is)
    (case c5 => k_is)
    (case k5 => k_is)
    (case a6 => k_is)
    (case l6 => k_is)
    (case c6 => k_is)
    (case k6 => k_is)
    (case a7 => k_is)
    (case l7 => k_is)
    (case c7 => k_is)
    (case k7 => k_is)
    (case a8 => k_is)
    (case l8 => k_is)
    (case c8 => k_is)
    (case k8 => k_is)
    (case a9 => k_is)
    (case l9 => k_is)
    (case c9 => k_is)
    (case k9 => k_is)
    (case a10 => k_is)
    (case l10 => k_is)
    (case c10 => k_is)
    (case k10 => k_is)
    (case a11 => k_is)
    (case l11 => k_is)
    (case c11 => k_is)
    (case k11 => k_is)
    (case a12 => k_is)
    (case l12 => k_is)
    (case c12 => k_is)
    (case k12 => k_is)
    (case a13 => k_is)
    (case l13 => k_is)
    (case c13 => k_is)
    (case k13 => k_is)
    (case a14 => k_is)
    (case l14 => k_is)
    (case c14 => k_is)
    (case k14 => k_is)
    (case a15 => k_is)
    (case l15 => k_is)
    (case c15 => k_is)
    (case k15 => k_is)
    (case a16 => k_is)
    (case l16 => k_is)
    (case c16 => k_is)
    (case k16 => k_is)
    (case a17 => k_is)
    (case l17 => k_is)
    (case c17 => k_is)
    (case k17 => k_is)
    (case a18 => k_is)
    (case l18 => k_is)
    (case c18 => k_is)
    (case k18 => k_is)
    (case a19 => k_is)
    (case l19 => k_is)
    (case c19 => k_is)
    (case k19 => k_is)
    (case a20 => k_is)
    (case l20 => k_is)
    (case c20 => k_is)
    (case k20 => k_is)
    (case a21 => k_is)
    (case l21 => k_is)
    (case c21 => k_is)
    (case k21 => k_is)
    (case a22 => k_is)
    (case l22 => k_is)
    (case c22 => k_is)
    (case k22 => k_is)
    (case a23 => k_is)
    (case l23 => k_is)
    (case c23 => k_is)
    (case k23 => k_is)
    (case a24 => k_is)
    (case l24 => k_is)
    (case c24 => k_is)
    (case k24 => k_is)
    (case a25 => k_is)
    (case l25 => k_is)
    (case c25 => k_is)
    (case k25 => k_is)
    (case a26 => k_is)
    (case l26 => k_is)
    (case c26 => k_is)
    (case k26 => k_is)
    (case a27 => k_is)
    (case l27 => k_is)
    (case c27 => k_is)
    (case k27 => k_is)
    (case a28 => k_is)
    (case l28 => k_is)
    (case c28 => k_is)
    (case k28 => k_is)
    (case a29 => k_is)
    (case l29 => k_is)
    (case c29 => k_is)
    (case k29 => k_is)
    (case a30 => k_is)
    (case l30 => k_is)
    (case c30 => k_is)
    (case k30 => k_is)
    (case a31 => k_is)
    (case l31 => k_is)
    (case c31 => k_is)
    (case k31 => k_is)
    (case a32 => k_is)
    (case l32 => k_is)
    (case c32 => k_is)
    (case k32 => k_is)
    (case a33 => k_is)
    (case l33 => k_is)
    (case c33 => k_is)
    (case k33 => k_is)
    (case a34 => k_is)
    (case l34 => k_is)
    (case c34 => k_is)
    (case k34 => k_is)
    (case a35 => k_is)
    (case l35 => k_is)
    (case c35 => k_is)
    (case k35 => k_is)
    (case a36 => k_is)
    (case l36 => k_is)
    (case c36 => k_is)
    (case k36 => k_is)
    (case a37 => k_is)
    (case l37 => k_is)
    (case c37 => k_is)
    (case k37 => k_is)
    (case a38 => k_is)
    (case l38 => k_is)
    (case c38 => k_is)
    (case k38 => k_is)
    (case a39 => k_is)
    (case l39 => k_is)
    (case c39 => k_is)
    (case k39 => k_is)
    (case a40 => k_is)
    (case l40 => k_is)
    (case c40 => k_is)
    (case k40 => k_is)
    (case a41 => k_is)
    (case l41 => k_is)
    (case c41 => k_is)
    (case k41 => k_is)
    (case a42 => k_is)
    (case l42 => k_is)
    (case c42 => k_is)
    (case k42 => k_is)
    (case a43 => k_is)
    (case l43 => k_is)
    (case c43 => k_is)
    (case k43 => k_is)
    (case a44 => k_is)
    (case l44 => k_is)
    (case c44 => k_is)
    (case k44 => k_is)
    (case a45 => k_is)
    (case l45 => k_is)
    (case c45 => k_is)
    (case k45 => k_is)
    (case a46 => k_is)
    (case l46 => k_is)
    (case c46 => k_is)
    (case k46 => k_is)
    (case a47 => k_is)
    (case l47 => k_is)
    (case c47 => k_is)
    (case k47 => k_is)
    (case ztype => k_is)
    (case zint => k_is)
    (case ztuple => k_is)
    (case zstr => k_is)
    (case zlen => k_is)
    (case zabs => k_is)
    (case zall => k_is)
    (case zenumerate => k_is)
    (case zzip => k_is)
    (case zisinstance => k_is)
    (case zbool => k_is)
    (case zrange => k_is)
    (case zany => k_is)
    (case zset => k_is)
    (case zsorted => k_is)
    (case zlist => k_is)
    (case zrepr => k_is)
    (case zmax => k_is)
    (case zmin => k_is)
    (case zdivmod => k_is)
    (case q0 => k_is)
    (case q1 => k_is)
    (case q2 => k_is)
    (case q3 => k_is)
    (case q4 => k_is)
    (case qU => k_is)
    (case lU => k_is)
    (case qN => k_is)
    (case lN => k_is)
    (case qg => k_is)
    (case nt => kernel_rfl)
    (case tp => kernel_rfl)
    (case tt => kernel_rfl)


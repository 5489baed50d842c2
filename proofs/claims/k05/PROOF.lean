import PyProof.Rows.All
import Wide.All
import OpenK.AllK
import Wide.FinOn
import HandS.ForMost
import HandS.Evl
import HandS.ExcInit
import HandS.ExcIs
import HandS.ExcField
import HandS.WideBits
import PyProof.ReprRoads
import KE.KExcIs
import HandS.IsInst
import HandS.ExcValue
import HandS.Wide
import HandS.Walk
import HandS.AnyAll
import HandS.GenList
import HandS.EndTab
import PySem.Challenge.RW_hiddenrates_k05_whole_alike_exactly_by_f
import HandS.Gcd
import HandS.More
import HandS.Strs
import HandS.TupAny
import HandS.Conv
import HandS.Zip
import KE.GoesEnum
import HandS.Iter
import HandS.Deep
import HandS.SetFor
import KE.KRevSl
import KE.GoesZip
import KE.GoesMore
import HandS.TupMul
import HandS.Steps
import PyProof.ReprLen
import KE.KNest
import KE.KIndexOf
import PyProof.P3Eq
set_option Elab.async false
set_option linter.all false
set_option maxRecDepth 100000
set_option maxHeartbeats 4000000
/-! ### calls made where no repr is under way: the promise of a def for such callers alone -/
namespace KX
open PySem PySem.Spec PyProof.Rows L2

abbrev Quiet (A : Around) : Prop := A.guards = some []
structure FnG (P : Program) (w : World) (K : PySem.W.Frag) (mg : Str → Option Value) (base : Heap) (k : Nat) (f : Addr) (fd : FuncData) (ps : List Str) (sp : Sp) : Prop where
  arity : ∀ {vs H Q E}, sp vs H Q E → vs.length = ps.length
  goes : ∀ {A outer s H args us vs Q E}, Quiet A → Room k A → Env0 P w K mg base A outer s H → BindsTo s fd args (ps.zip us) → Vals vs us → sp vs H Q E →
    codeAny (model P w) A (.call (.ref f) args) (CR CX0 outer P w H s Q E) s

section
variable {P : Program} {w : World} {K : PySem.W.Frag} {mg : Str → Option Value} {base : Heap} {k : Nat} {f : Addr} {fd : FuncData} {ps : List Str} {sp : Sp}
theorem FnG.of (F : FnOk P w K mg base CX0 k f fd ps sp) : FnG P w K mg base k f fd ps sp := ⟨fun h => F.len _ _ _ _ h, fun _ a b c d e => F.run _ _ _ _ _ _ _ _ _ a b c d e⟩
theorem FnG.lift {j : Nat} (F : FnG P w K mg base j f fd ps sp) (h : j ≤ k) : FnG P w K mg base k f fd ps sp := ⟨F.arity, fun q r => F.goes q (r.mono h)⟩
end

section
variable {X : Cx} {k : Nat} {f : Addr} {fd : FuncData} {ps : List Str} {sp : Sp} {x : Str} {p pos : Pos} {e : Expr} {es : List Expr} {t : TA}
theorem FnG.callee {pins : List (Addr × Obj)} {σ : L2.St} {H : Hp} {s : Shared} {Q : VK} {us : List Value} {vs : List V} (F : FnG X.prog X.w X.K X.mg X.base k f fd ps sp) (qu : Quiet X.A) (hr : Room k X.A) (hb : Binds X.K fd ps [])
    (I : Inv X pins σ H s) (r : Vals vs us) (h : sp vs H Q E0) : wpAny (model X.prog X.w) X.A (call (.ref f) us) (EP X pins σ Q) X.xe s := by
  have bt := hb s us I.kIn (by rw [List.append_nil, ← r.length]; exact F.arity h)
  rw [List.append_nil] at bt
  refine wpAny_call (codeAny_mono (F.goes qu hr I.env0 bt r h) ?_)
  rintro (e | fl) s' z
  · exact z.elim
  · cases fl <;> first | exact I.after z | exact False.elim z
def tQuiet (sp : Sp) (t : TA) : TE := fun σ H Q => t σ H fun vs H1 => sp vs H1 Q E0
theorem pe_quiet (F : FnG X.prog X.w X.K X.mg X.base k f fd ps sp) (qu : Quiet X.A) (hr : Room k X.A) (hg : Gl X x) (hm : X.mg x = some (.ref f)) (hk : PySem.W.keepIn X.K (.ref f) = true) (hb : Binds X.K fd ps [])
    (ha : PA X (e :: es) t) (h1 : (x == ("__debug__" : Str)) = false := by decide) (h2 : starEach (e :: es) X.env = (false, eval e X.env) :: starEach es X.env := by rfl) (h3 : (backTo pos (starEach es X.env)).any (·.1) = false := by rfl) :
    PE X (.Call (.Name x p) (e :: es) [] pos) (tQuiet sp t) :=
  ⟨fun pins s σ H Q I h => wpAny_Call_Name_kw (ld_glob I hg hm (PySem.W.callWith_K (h₀ := X.base) I.ok.mod.kin hk
    (thn (ha.run pos pins s σ H _ I h) fun us s1 ⟨vs, H1, I1, r, q⟩ => ⟨I1.kIn, F.callee qu hr hb I1 r q⟩) h2 h3) h1)⟩
end

/-- a def's body, entered where no repr is under way -/
theorem FnG.mk' {P : Program} {w : World} {K : PySem.W.Frag} {mg : Str → Option Value} {base : Heap} {x qual : Str} {st : Stmt} {f : Addr} {fd : FuncData} {N ps : List Str} {k : Nat} {sp : Sp} (F : Fun K x qual st f fd) (S : FnScope N ps (defScope st)) (len : ∀ {vs H Q E}, sp vs H Q E → vs.length = ps.length)
    (body : ∀ (cdv : Value) (A : Around) (outer : List Env) (s : Shared) (H : Hp) (vs : List V) (Q : VK) (E : XK), Quiet A → Room k (A.deeper (envOfC qual (defScope st) s.heap.objs.size f cdv)) → sp vs H Q E →
      ∃ t, PSs (cxOf CX0 P w K mg base N qual (defScope st) f cdv A outer s H E).nox (defBody st) t ∧ t { nx := fun _ H' => Q .non H', rt := Q } (start N vs) H) : FnG P w K mg base (k + 1) f fd ps sp := by
  obtain ⟨oc, od, kV, doc, pm, an, cdv, ct, osl, rfl, lk, hcd⟩ := F.ex
  refine ⟨len, fun {A outer s H args us vs Q E} qu hr e0 hb r hsp => ?_⟩
  have inK : K.In s.heap := e0.mod.kin.keeps fun b o z => (e0.bs b o z).1
  refine Att.call_fn inK (e0.mod.nolimit.keeps fun b o z => (e0.bs b o z).1) lk hcd hr.depth hb ?_ (fun s1 ic => ?_) S.co S.gen S.kind
  · refine List.all_eq_true.mpr fun ⟨y, v⟩ hy => ?_
    rcases S.par y (List.of_mem_zip hy).1 with z | z <;> simp [z]
  · obtain ⟨t, ht, hq⟩ := body cdv A outer s H vs Q E qu (hr.deeper _) hsp
    have I0 := inv_start (CX := CX0) (N := N) (E := E) S hr.hd e0 (len hsp) r ic
    refine wpAny_mono (ht.nox.run [] s1 _ H _ I0 hq) ?_ fun _ _ z => z
    rintro (_ | _ | _ | u) s' z
    · obtain ⟨_, H', J, q⟩ := z
      exact ⟨.non, H', J.os, J.bare, J.base, J.hok, rfl, q⟩
    · obtain ⟨_, _, _, q⟩ := z
      exact q.elim
    · obtain ⟨_, _, _, q⟩ := z
      exact q.elim
    · obtain ⟨v, _, H', J, rv, q⟩ := z
      exact ⟨v, H', J.os, J.bare, J.base, J.hok, rv, q⟩

/-! ### the end of a law whose def is quiet -/
open Classical in
theorem lawG {P : Program} {w : World} {K : PySem.W.Frag} {mg mb : Str → Option Value} {k : Nat} {fa a : Addr} {fd : FuncData} {x : Str} {sp : Sp} {s₁ : Shared} {vs : List Value} {ns : List Int}
    (inK : K.In s₁.heap) (hns : s₁.heap.Ns mainGlobals mg) (hb : s₁.heap.Ns builtinsNs mb) (hbb : ∀ y : Str, y ≠ "__name__" → mb y = bootBuiltins y) (hlim : s₁.heap.NoLimit) (hg : s₁.gens = #[])
    (ha : s₁.heap.get? a = some { cls := .type "list", data := .seq vs.toArray }) (hi : IntsAre vs ns) (hl : ns.length ≤ sizeLine) (hr : Room k callerA)
    (F : ∀ base : Heap, K.In base → base.Ns mainGlobals mg → FnG P w K mg base k fa fd [x] sp) (hbind : ∀ (s : Shared) (u : Value), BindsTo s fd ⟨[u], []⟩ [(x, u)])
    (hsp : ∀ H : Hp, Only H → SqL K H a (ns.map V.int) → sp [.ref a] H (fun v _ => v = .bl true) fun _ _ _ => False) :
    codeAny (model P w) callerA (.call (.ref fa) ⟨[.ref a], []⟩) (fun r s' => r = .ok (.ret (.bool true)) ∧ OldK s₁.heap s'.heap ∧ s'.os = s₁.os ∧ AllBare s'.gens) s₁ := by
  let scr : Obj := { cls := .type "list", data := .seq vs.toArray }
  let H : Hp := fun b => if K.lookup a = none ∧ b = a then some (.frz scr (.lst (ns.map V.int))) else none
  have rv := vals_ints hi
  have hA : ∀ {b u}, H b = some u → K.lookup a = none ∧ b = a ∧ u = .frz scr (.lst (ns.map V.int)) := fun {b u} z => by
    by_cases c : K.lookup a = none ∧ b = a
    · have z' : some (HO.frz scr (.lst (ns.map V.int))) = some u := (if_pos c).symm.trans z
      exact ⟨c.1, c.2, (Option.some.inj z').symm⟩
    · have z' : none = some u := (if_neg c).symm.trans z
      cases z'
  have nK : ∀ {b o}, K.lookup b = some o → H b = none := fun {b o} e => by
    cases z : H b with
    | none => rfl
    | some u =>
      obtain ⟨z1, z2, _⟩ := hA z
      rw [z2, z1] at e
      cases e
  have nD : ∀ {b m}, s₁.heap.Ns b m → (hidT s₁.heap H).Ns b m := by
    rintro b m ⟨o, es, ep, e, d, r⟩
    refine ⟨o, es, ep, hidT_get e ?_, d, r⟩
    cases z : H b with
    | none => rfl
    | some u =>
      obtain ⟨_, z2, _⟩ := hA z
      rw [z2, ha] at e
      cases e
      cases d
  have inB : K.In (hidT s₁.heap H) := fun b o e => hidT_get (inK b o e) (nK e)
  have hok : HOk P w H s₁.heap := fun b u z => by
    obtain ⟨_, rfl, rfl⟩ := hA z
    exact ⟨ha, by rw [List.length_map]; exact hl, vs, _, rv, ha⟩
  have only : Only H := fun b => by
    cases z : H b with
    | none => exact .inl rfl
    | some u => exact .inr ⟨scr, ns.map V.int, by rw [(hA z).2.2]⟩
  have sq : SqL K H a (ns.map V.int) := by
    cases z : K.lookup a with
    | none => exact .inl (.inr ⟨scr, if_pos ⟨z, rfl⟩⟩)
    | some o =>
      have e := inK a o z
      rw [ha] at e
      cases e
      exact .inr ⟨_, vs.toArray, _, z, rfl, rfl, rfl, by rw [List.size_toArray, hi.length]; exact hl, by simpa using rv⟩
  have e0 : Env0 P w K mg (hidT s₁.heap H) callerA [] s₁ H :=
    ⟨rfl, ⟨inB, nD hns, ⟨mb, nD hb, hbb⟩, let ⟨mc, h1, h2⟩ := hlim; ⟨mc, nD h1, h2⟩⟩, fun b o e => of_hidT e, Nat.le_of_eq (hidT_size _ _), trivial, fun b z => (nomatch z), hok, .of_eq hg⟩
  refine codeAny_mono ((F _ inB (nD hns)).goes (us := [.ref a]) (vs := [.ref a]) rfl hr e0 (hbind s₁ (.ref a)) (.cons rfl .nil) (hsp H only sq)) ?_
  rintro (e | (_ | _ | _ | u)) s' z
  · exact z.elim
  · exact False.elim z
  · exact False.elim z
  · exact False.elim z
  · obtain ⟨v, H', os, bare, un, hok', r', q⟩ := z
    subst q
    obtain rfl : u = Value.bool true := r'
    refine ⟨rfl, OldK.of_keep fun b o e => ?_, os, bare⟩
    cases c : H b with
    | none => exact un.keep b o e c (fun z => nomatch z) (fun z => nomatch z)
    | some y =>
      obtain ⟨_, rfl, rfl⟩ := hA c
      have e1 := (hok _ _ c).1
      have e2 := (hok' _ _ (un.frzs _ _ _ c)).1
      rw [e1] at e
      cases e
      exact e2

theorem walkG {l : PySem.W.OpenLaw} {n k : Nat} {q : Program} {loose : List Str} {XP : (Str → Option Value) → Heap → Prop} {YP : World → Heap → Prop} {d : DefRec} {K : Params → PySem.W.Frag} {sp : PySem.W.Frag → Sp} {x : Str}
    (hn : l.most = some n) (hn2 : n ≤ sizeLine) (hdf : d.params.defaults = []) (hr : Room k callerA) (hY : ∀ (w : World) (h : Heap), YP w h → (K w.params).In h)
    (F : ∀ (w : World) (mg : Str → Option Value) (fa : Addr) (h : Heap), (K w.params).In h → h.Ns mainGlobals mg → mg d.name = some (.ref fa) →
      ∃ fd : FuncData, (∀ (s : Shared) (u : Value), BindsTo s fd ⟨[u], []⟩ [(x, u)]) ∧ ∀ base : Heap, (K w.params).In base → base.Ns mainGlobals mg → FnG l.prog w (K w.params) mg base k fa fd [x] (sp (K w.params)))
    (hsp : ∀ (K : PySem.W.Frag) (H : Hp) (a : Addr) (ns : List Int), ns.length ≤ n → Only H → SqL K H a (ns.map V.int) → sp K [.ref a] H (fun v _ => v = .bl true) fun _ _ _ => False) :
    PySem.W.WalkO q loose XP YP l.row.toRowW d [] (fun f vs => PySem.call f vs) :=
  Att.attach_call hn hdf fun w s₀ s₁ mg mb fa o pm cd doc a vs ns G Y ho hd hcd hmg hobj hints hlen hg => by
    obtain ⟨fd, b, f⟩ := F w mg fa _ (hY w _ Y) G.T.g hmg
    exact lawG (hY w _ Y) G.T.g G.T.b G.T.builtins G.T.nolimit hg hobj hints (Nat.le_trans hlen hn2) hr f b fun H h1 h2 => hsp _ H a ns hlen h1 h2

/-! ### repr of data -/
/-- what x is as data: anything of the data's kinds, or the empty dict -/
def Shw (K : PySem.W.Frag) (H : Hp) (x : V) (d : PyData) : Prop :=
  d.showable = true ∧ d.shown.length ≤ sizeLine ∧ d.depth ≤ 60 ∧ ((d.hasDict = false ∧ Dp K H x d) ∨ (d = .dict [] ∧ ∃ a, x = .ref a ∧ H a = some (.dK [])))
def rRepr (K : PySem.W.Frag) : List V → Hp → VK → Prop := fun xs H Q => ∃ x d, xs = [x] ∧ Shw K H x d ∧ Q (.str d.shown) H
theorem call_repr_none' {P : Program} {w : World} {A : Around} {E : Value → Shared → Prop} {s : Shared} {Q : Value → Shared → Prop} (h : Q (.str "None" s.toks) { s with toks := s.toks + 1 }) : wpAny (model P w) A (call (.builtin "repr") [.none]) Q E s :=
  PySem.P.repr_of_none h
theorem cr_repr {X : Cx} (qu : Quiet X.A) (hu : X.A.units + 64 < cLine) : CallR X (.builtin "repr") (rRepr X.K) := by
  rintro pins s σ H xs us Q I r ⟨x, d, rfl, ⟨hs, hz, hd, hx⟩, q⟩
  obtain ⟨u, rfl, rx⟩ := vals1 r
  have big : ∀ {y : Value} {b : Addr} {as : List Addr}, y = .ref b → Reads s.heap y d as → (d.hasDict = true → sysModules ∉ as) → wpAny (model X.prog X.w) X.A (call (.builtin "repr") [y]) (EP X pins σ Q) X.xe s := by
    rintro y b as rfl rd hm
    refine repr_of_reads' rd hs hm qu (by omega) (fun _ _ z => z) (fun h' u tk k => ?_) hz
    exact ⟨.str d.shown, H, I.kept k, ⟨_, rfl⟩, q⟩
  rcases hx with ⟨hn, hx⟩ | ⟨rfl, a, rfl, ha⟩
  · have nd : d.hasDict = true → ∀ as : List Addr, sysModules ∉ as := fun z => by
      rw [hn] at z
      cases z
    have tx : ∀ (y : Str) (t : Tok) (tk : Nat), Q (.str y) H → EP X pins σ Q (.str y t) { s with toks := tk } := fun y t tk z => ⟨.str y, H, I.tok _, ⟨_, rfl⟩, z⟩
    cases hx with
    | non =>
      obtain rfl : u = Value.none := rx
      exact PySem.P.repr_of_none (tx _ _ _ q)
    | bl b =>
      obtain rfl : u = Value.bool b := rx
      refine PySem.P.repr_of_bool (tx _ _ _ ?_)
      cases b <;> exact q
    | int i =>
      obtain ⟨t, rfl⟩ := rx
      exact PySem.P.repr_of_int (of_decide_eq_true hs) (tx _ _ _ q)
    | str y =>
      obtain ⟨t, rfl⟩ := rx
      exact PySem.P.repr_of_str (tx _ _ _ q) hz
    | lst h1 h2 =>
      obtain ⟨as, rd⟩ := Dp.reads I _ _ u (.lst h1 h2) rx
      exact big rx rd fun z => nd z _
    | tup h1 h2 =>
      obtain ⟨as, rd⟩ := Dp.reads I _ _ u (.tup h1 h2) rx
      exact big rx rd fun z => nd z _
  · obtain ⟨_, hne, vs, kv, o, es, ep, h1, h2, h3, h4⟩ := (show ObjOk X.prog X.w H s.heap a (.dK []) from I.hok a _ ha)
    cases kv
    have h5 : es.toList = [] := by
      have z := h4.2.1
      generalize es.toList = l at z
      cases z
      rfl
    obtain rfl : u = Value.ref a := rx
    refine big rfl (Reads.dict (kvs := []) (as := []) (bs := []) h1 h2.1 h3 (by rw [h5]; exact .nil) (by rw [h5]; exact .nil)) fun _ z => ?_
    have z' : sysModules ∈ [a] := z
    rw [List.mem_singleton] at z'
    rw [z'] at hne
    simp at hne
end KX

set_option Elab.async false
set_option linter.all false
set_option maxRecDepth 100000
set_option maxHeartbeats 1000000
/-! ### a generator expression whose element calls own functions: its body's segments, all(..) over it -/
namespace KG
open PySem PySem.Spec PyProof.Rows L2 GenW
/-- the body's turns: Lp m: at the loop's head, at most m items are left; Yd m: an item is just handed out, at most m are left; Dn: nothing is left -/
structure GWalk (P : Program) (w : World) (B : Around) (tg elt : Expr) (I : Addr) (cenv : Env) (Lp : Nat → Shared → Prop) (Yd : Nat → Value → Shared → Prop) (Dn : Shared → Prop) : Prop where
  turn : ∀ m s, Lp m s → wpAny (model P w) B (pyNext (.ref I)) (fun r s1 => match r with
    | none => Dn s1
    | some v => wpAny (model P w) B (letOwnedTupleGo tg (.ref I) v) (fun _ s2 => wpAny (model P w) B (assign tg cenv v) (fun _ s3 =>
        wpAny (model P w) B (eval elt cenv) (fun y s4 => ∃ m', m = m' + 1 ∧ Yd m' y s4) (fun _ _ => False) s3) (fun _ _ => False) s2) (fun _ _ => False) s1) (fun _ _ => False) s
  self : ∀ (A' : Around) m s (Q : Value → Shared → Prop) (E : Value → Shared → Prop), Lp m s → Q (.ref I) s → wpAny (model P w) A' (pyIter (.ref I)) Q E s
def RG (Dn : Shared → Prop) : GenEnd := fun _ _ r s₁ => ((r = .ok (.ret .none) ∨ r = .ok .next) ∧ Dn s₁) ∨ ∃ e : Value, r = .error e ∧ False
def YG (Lp : Nat → Shared → Prop) (Yd : Nat → Value → Shared → Prop) : Protocol := fun n _ v s kap => ∃ m', m' ≤ n ∧ Yd m' v s ∧ ∀ s'', Lp m' s'' → kap (.send .none) s''
section
variable {P : Program} {w : World} {A B : Around} {tg elt iter : Expr} {scope : Scope} {pos : Pos} {I : Addr} {cenv : Env} {Lp : Nat → Shared → Prop} {Yd : Nat → Value → Shared → Prop} {Dn : Shared → Prop}
theorem seg_loop (hB : A.over (.compLoop (.GeneratorExp elt [⟨tg, iter, [], 0⟩] scope pos) 0 (.ref I) .none cenv) [] = B) (hco : cenv.scope.isCoroutine = false) (W : GWalk P w B tg elt I cenv Lp Yd Dn) :
    ∀ (m n : Nat) (s₀ s : Shared), m ≤ n → Lp m s → Seg (model P w) A (RG Dn) (YG Lp Yd) n s₀ (.compLoop (.GeneratorExp elt [⟨tg, iter, [], 0⟩] scope pos) 0 (.ref I) .none cenv)
      ((model P w).den (.compLoop (.GeneratorExp elt [⟨tg, iter, [], 0⟩] scope pos) 0 (.ref I) .none cenv)) [] s := by
  have hy : ∀ v, yieldOut cenv v = yieldValue v := fun v => by simp only [yieldOut, hco, Bool.false_eq_true, if_false]
  intro m
  induction m using Nat.strongRecOn with
  | ind m ih =>
    intro n s₀ s hmn hL
    show Seg _ A _ _ _ s₀ _ ((compTurn (.GeneratorExp elt [⟨tg, iter, [], 0⟩] scope pos) 0 (.ref I) .none cenv).onRaise (leaving cenv)) [] s
    rw [compTurn_gen, Sem.onRaise_eq_wrap]
    refine seg_bind_wrap (wpAny_standAt ?_)
    refine seg_bind_wrap ?_
    rw [hB]
    refine wpAny_mono (W.turn m s hL) (fun r s1 h1 => ?_) (fun _ _ z => False.elim z)
    cases r with
    | none => exact seg_end (.ok .next) (.inl ⟨.inr rfl, h1⟩)
    | some v =>
      refine seg_bind_wrap ?_
      rw [hB]
      refine wpAny_mono h1 (fun _ s2 h2 => ?_) (fun _ _ z => False.elim z)
      refine seg_bind_wrap ?_
      rw [hB]
      refine wpAny_mono h2 (fun _ s3 h3 => ?_) (fun _ _ z => False.elim z)
      refine seg_bind_wrap (wpAny_tests_nil ?_)
      simp only [if_true]
      simp only [hy]
      rw [Sem.bind_eq_wrap', Sem.bind_eq_wrap', Sem.wrap_wrap, Sem.wrap_wrap]
      refine seg_wrap ?_
      rw [hB]
      refine wpAny_mono h3 (fun y s4 h4 => ?_) (fun _ _ z => False.elim z)
      obtain ⟨m', em, hY⟩ := h4
      obtain ⟨k, rfl⟩ : ∃ k, n = k + 1 := ⟨n - 1, by omega⟩
      refine seg_at (seg_yield rfl rfl rfl ⟨m', by omega, hY, fun s'' hL'' => ?_⟩)
      exact seg_again rfl (ih m' (by omega) k s'' s'' (by omega) hL'')
theorem seg_start (hB : A.over (.compLoop (.GeneratorExp elt [⟨tg, iter, [], 0⟩] scope pos) 0 (.ref I) .none cenv) [] = B) (hco : cenv.scope.isCoroutine = false) (W : GWalk P w B tg elt I cenv Lp Yd Dn)
    {m n : Nat} {s₀ s : Shared} (hmn : m ≤ n) (hL : Lp m s) : Seg (model P w) A (RG Dn) (YG Lp Yd) n s₀ (.compStart (.GeneratorExp elt [⟨tg, iter, [], 0⟩] scope pos) 0 (.ref I) .none cenv)
      ((model P w).den (.compStart (.GeneratorExp elt [⟨tg, iter, [], 0⟩] scope pos) 0 (.ref I) .none cenv)) [] s := by
  have loop := seg_loop (iter := iter) (scope := scope) (pos := pos) hB hco W m n s₀ s hmn hL
  show Seg _ A _ _ _ s₀ _ ((compStart (.GeneratorExp elt [⟨tg, iter, [], 0⟩] scope pos) 0 (.ref I) .none cenv).onRaise (leaving cenv)) [] s
  unfold compStart
  rw [Sem.onRaise_eq_wrap]
  show Seg _ A _ _ _ s₀ _ ((ask >>= _).wrap _ _ _ _) [] s
  refine seg_bind_wrap (wpAny_askSetting ?_)
  split
  · exact seg_again rfl loop
  · first
      | exact seg_bind_wrap (wpAny_rule (seg_bind_wrap (wpAny_standAt (seg_bind_wrap (W.self _ m s _ _ hL (seg_again rfl loop))))))
      | (refine seg_bind_wrap (wpAny_rule ?_); show Seg _ A _ _ _ s₀ _ ((standAt iter.pos >>= _).wrap _ _ _ _) [] s; exact seg_bind_wrap (wpAny_standAt (seg_bind_wrap (W.self _ m s _ _ hL (seg_again rfl loop)))))
/-- but for generators, counters, the same -/
structure Alike (s s' : Shared) : Prop where
  heap : s'.heap = s.heap
  os : s'.os = s.os
  bare : AllBare s'.gens
theorem all_loop {R : Result → Shared → Prop} {a : Addr} {g : Nat} (hh : A.handled = none) (hd : A.depth < recursionLimit)
    (item : ∀ m v s, Yd m v s → s.heap.NoLimit ∧ s.heap.IsGen a g ∧ AllBare s.gens ∧ ∃ b, v = .bool b ∧ ∀ s'', Alike s s'' → if b = true then Lp m s'' else R (.ok (.ret (.bool false))) s'')
    (done : ∀ s s', Dn s → (∀ b o, s.heap.get? b = some o → s'.heap.get? b = some o) → s'.os = s.os → s'.gens = (s.setGen g .finished).gens → R (.ok (.ret (.bool true))) s') :
    ∀ (n : Nat) (s : Shared) (gs : GenState), s.heap.NoLimit → s.heap.IsGen a g → s.gens[g]? = some gs → gs.Goes (model P w) A.in1.in1 (RG Dn) (YG Lp Yd) n (.send .none) (s.setGen g .running) →
      codeAny (model P w) A (.builtin "all.loop" ⟨[.ref a], []⟩) R s := by
  intro n
  induction n with
  | zero =>
    intro s gs hl hg hgs hgo
    refine codeAny_builtin F.entry_all_loop ?_
    rw [Around.under_plainId F.plain_all_loop _]
    show wpAny _ A.in1 (pyNext (.ref a) >>= _) _ _ s
    refine wpAny_bind (next_genG (A := A.in1) (F := fun _ _ s1 => Dn s1) (Er := fun _ _ => False) hh hl hd hg hgs hgo (fun v s₁ gs' hbare hv => ?_) (fun s₁ hp h' hk => ?_) fun e s₁ he => False.elim he)
    · obtain ⟨m', hm, hY, hk⟩ := hv
      obtain ⟨hl1, hg1, hb1, b, rfl, hR⟩ := item m' v s₁ hY
      have hal : Alike s₁ (s₁.setGen g gs') := ⟨rfl, rfl, allBare_setGen hb1 hbare⟩
      have hq := hR _ hal
      refine wpAny_bind (wpAny_holding (wpAny_truthy_bool ?_))
      refine wpAny_bind (wpAny_letGo ?_)
      cases b with
      | true => exact False.elim (hk _ (by simpa using hq))
      | false =>
        simp only [Bool.false_eq_true, if_false] at hq ⊢
        exact wpAny_bind (wpAny_rule (wpAny_pure hq))
    · refine wpAny_bind (wpAny_rule (wpAny_pure ?_))
      exact done s₁ _ hp hk rfl rfl
  | succ n ih =>
    intro s gs hl hg hgs hgo
    have hgl : g < s.gens.size := (Array.getElem?_eq_some_iff.mp hgs).1
    refine codeAny_builtin F.entry_all_loop ?_
    rw [Around.under_plainId F.plain_all_loop _]
    show wpAny _ A.in1 (pyNext (.ref a) >>= _) _ _ s
    refine wpAny_bind (wpAny_gsz (n := g + 1) hgl (next_genG (A := A.in1) (F := fun _ _ s1 => Dn s1) (Er := fun _ _ => False) hh hl hd hg hgs hgo (fun v s₁ gs' hbare hv => ?_) (fun s₁ hp h' hk => ?_) fun e s₁ he => False.elim he))
    · intro hsz
      obtain ⟨m', hm, hY, hk⟩ := hv
      obtain ⟨hl1, hg1, hb1, b, rfl, hR⟩ := item m' v s₁ hY
      have hal : Alike s₁ (s₁.setGen g gs') := ⟨rfl, rfl, allBare_setGen hb1 hbare⟩
      have hsz1 : g < s₁.gens.size := by
        have q : (s₁.setGen g gs').gens.size = s₁.gens.size := setGen_size _ _ _
        have hsz' : g + 1 ≤ (s₁.setGen g gs').gens.size := hsz
        omega
      refine wpAny_bind (wpAny_holding (wpAny_truthy_bool ?_))
      refine wpAny_bind (wpAny_letGo ?_)
      cases b with
      | true =>
        simp only [if_true]
        refine wpAny_pure ⟨plainId_quiet F.plain_all_loop _, ih _ gs' hl1 hg1 (setGen_at hsz1) ?_⟩
        refine hk _ ?_
        have q := hR ((s₁.setGen g gs').setGen g .running) ⟨rfl, rfl, allBare_setGen (s := s₁.setGen g gs') (allBare_setGen hb1 hbare) rfl⟩
        simpa using q
      | false =>
        have hq := hR _ hal
        simp only [Bool.false_eq_true, if_false] at hq ⊢
        exact wpAny_bind (wpAny_rule (wpAny_pure hq))
    · intro hsz
      refine wpAny_bind (wpAny_rule (wpAny_pure ?_))
      exact done s₁ _ hp hk rfl rfl
end
end KG

set_option Elab.async false
set_option linter.all false
set_option maxRecDepth 100000
set_option maxHeartbeats 1000000
/-! ### the context within a generator expression's body -/
namespace KG
open PySem PySem.Spec PyProof.Rows L2 GenW
/-- the generator's names: as a block's; a generator has a frame of its own, no cells of its own -/
structure GOk (N : List Str) (sc scope : Scope) (own : List (Str × Nat)) : Prop where
  blk : BlkOk N sc scope own
  co : scope.isCoroutine = false
  nocell : ∀ y ∈ scope.names, y.2 ≠ .cell
  dot : scope.names.lookup (".0" : Str) = some NameKind.local
abbrev gcx (X : Cx) (B : Around) (s : Shared) (H : Hp) (cenv : Env) (fp : List Addr) (pn : List (Addr × Obj)) : Cx :=
  { X with A := B, s_0 := s, H_0 := H, env := cenv, outer := X.stack, stack := cenv :: X.stack, ex := fp, fn := fun _ => false, pn := pn, xe := fun _ _ => False }
section
variable {X : Cx} {pins : List (Addr × Obj)} {σ : L2.St} {H : Hp} {s : Shared}
theorem Inv.alike {s' : Shared} (I : Inv X pins σ H s) (h : Alike s s') : Inv X pins σ H s' :=
  ⟨I.ok, h.os.trans I.os, h.bare, by rw [h.heap]; exact I.base, by rw [h.heap]; exact I.loc, by rw [h.heap]; exact I.cell, I.free, I.freeC, by rw [h.heap]; exact I.pin, by rw [h.heap]; exact I.hok, I.len⟩
theorem gen_start {B : Around} {scope : Scope} {own : List (Str × Nat)} {code : Value} {fp : List Addr} {pn : List (Addr × Obj)} {s' : Shared} {m : Str → Option Value} (I : Inv X pins σ H s) (ok : GOk X.N X.env.scope scope own) (hN : X.N.Nodup) (hfp : ∀ b ∈ fp, FpOk X pins H b ∧ b < s.heap.objs.size)
    (hB : B.handled = none) (hBf : B.frames = some (genEnv scope (cloFrom X.env.cells scope.names []) s.heap.objs.size code builtinsNs X.env :: X.stack))
    (os : s'.os = s.os) (bare : AllBare s'.gens) (kp : ∀ b o, s.heap.get? b = some o → s'.heap.get? b = some o) (hn : s'.heap.Ns s.heap.objs.size m)
    (hpn : ∀ p ∈ pn, s'.heap.get? p.1 = some p.2 ∧ s.heap.objs.size < p.1 ∧ ∀ v, p.2.data ≠ .cell v) :
    Inv (gcx X B s H (genEnv scope (cloFrom X.env.cells scope.names []) s.heap.objs.size code builtinsNs X.env) fp pn) [] (wipe σ (own.map (·.2))) H s' := by
  have hfree : ∀ y ∈ scope.names, y.2 = .free → ∃ c, X.env.cells.lookup y.1 = some c := fun y hy e => by
    rcases ok.blk.free y hy e with k | k
    · exact I.ok.has _ (.inl k)
    · exact I.ok.has _ (.inr k)
  generalize hcenv : genEnv scope (cloFrom X.env.cells scope.names []) s.heap.objs.size code builtinsNs X.env = cenv at hBf ⊢
  have hL : cenv.locals = s.heap.objs.size := by rw [← hcenv]; rfl
  have hcl : cenv.cells = cloFrom X.env.cells scope.names [] := by rw [← hcenv]; rfl
  have hsc : cenv.scope = scope := by rw [← hcenv]; rfl
  have hfrm : cenv.frame = some cenv.locals := by rw [← hcenv]; rfl
  have cm : ∀ {y c}, cenv.cells.lookup y = some c → X.env.cells.lookup y = some c ∧ c < s.heap.objs.size := fun {y c} e => by
    rw [hcl] at e
    rcases cloFrom_mem (PySem.mem_of_lookup e) with hm | ⟨h1, rfl⟩
    · cases hm
    · obtain ⟨c, hc⟩ := hfree _ h1 rfl
      rw [hc]
      obtain ⟨w, z⟩ := I.cell _ _ hc
      exact ⟨rfl, z.lt⟩
  have look : ∀ {y}, scope.names.lookup y = some .free → ∃ c, cenv.cells.lookup y = some c ∧ X.env.cells.lookup y = some c := fun {y} hl => by
    obtain ⟨c', e'⟩ := L2.mem_lookup (cloFrom_has (cells := X.env.cells) (acc := []) (PySem.mem_of_lookup hl))
    rw [← hcl] at e'
    exact ⟨c', e', (cm e').1⟩
  have okB : (gcx X B s H cenv fp pn).Ok := by
    refine ⟨I.ok.mod, by show cenv.scope.kind = _; rw [hsc]; exact ok.blk.kind, by show cenv.globals = _; rw [← hcenv]; exact I.ok.glob, by show cenv.builtins = _; rw [← hcenv]; rfl, by show s.heap.objs.size ≤ cenv.locals; rw [hL]; exact Nat.le_refl _,
      fun y z c e1 e2 => I.ok.inj y z c (cm e1).1 (cm e2).1, fun y hy => ?_, fun y c z e => absurd (show false = true from z) Bool.false_ne_true, fun _ => hB, hBf, .inr ⟨rfl, hfrm⟩, fun b hb => ⟨?_, fun y c e z => ?_⟩, I.bs, Nat.le_trans I.ok.bsz I.sz, fun b o e hb => ?_, fun b hb z => ?_, I.stack, I.stkFree⟩
    · show ∃ c, cenv.cells.lookup y = some c
      have key : ∀ k, cenv.kindOf y = some k → (k = .cell ∨ k = .free) → ∃ c, cenv.cells.lookup y = some c := fun k hk hk' => by
        unfold Env.kindOf at hk
        rw [hsc] at hk
        rcases hk' with rfl | rfl
        · exact absurd rfl (ok.nocell _ (PySem.mem_of_lookup hk))
        · obtain ⟨c, h1, _⟩ := look hk
          exact ⟨c, h1⟩
      rcases hy with hy | hy
      · exact key _ hy (.inl rfl)
      · exact key _ hy (.inr rfl)
    · show b ≠ cenv.locals
      rw [hL]; exact Nat.ne_of_lt (hfp b hb).2
    · exact (hfp b hb).1.2.2.2.2.1 y c (cm e).1 z
    · rcases (hfp b hb).1.2.2.2.1 with z | z
      · exact I.ok.noex b o e z
      · exact absurd (Nat.lt_of_lt_of_le (Heap.lt_size e) (Nat.le_trans I.ok.bsz z)) (Nat.lt_irrefl _)
    · rcases List.mem_cons.mp (I.stkSub b z) with z | z
      · exact (hfp b hb).1.2.1 z
      · exact (hfp b hb).1.2.2.1 z
  refine ⟨okB, os, bare, Un.kept kp, ⟨m, by show s'.heap.Ns cenv.locals m; rw [hL]; exact hn, fun i y av e1 e2 e3 => ?_⟩, fun y c e => ?_, ?_, fun y c e => ?_, fun p hp => ?_, I.hok.kept kp, by rw [wipe_length]; exact I.len⟩
  · obtain ⟨e2, hne⟩ := wipe_some e2
    have e3 : Vis cenv.scope y := e3
    have hk : scope.names.lookup y = some .free := by
      have no : ∀ k, scope.names.lookup y = some k → ¬ (k = .local ∨ k = .cell) := fun k e hh => by
        rcases ok.blk.own _ (PySem.mem_of_lookup e) hh with e' | e'
        · obtain ⟨p, hp, hpy⟩ := List.mem_map.mp e'
          have e3 := ok.blk.ix p hp
          have : p.1 = y := hpy
          rw [this] at e3
          exact hne (List.mem_map.mpr ⟨p, hp, nodup_ix hN e3 e1⟩)
        · exact e' (List.mem_of_getElem? e1)
      rw [hsc] at e3
      rcases e3 with e3 | e3 | e3
      · exact absurd (.inl rfl) (no _ e3)
      · exact absurd (.inr rfl) (no _ e3)
      · exact e3
    obtain ⟨m0, hn0, hl⟩ := I.loc
    have hvis : Vis X.env.scope y := (ok.blk.free _ (PySem.mem_of_lookup hk) rfl).elim (fun k => .inr (.inl k)) (fun k => .inr (.inr k))
    obtain ⟨w, r, q⟩ := hl i y av e1 e2 hvis
    refine ⟨w, r, .inr ⟨.inr (by show cenv.scope.names.lookup y = _; rw [hsc]; exact hk), ?_⟩⟩
    obtain ⟨c, h1, h2⟩ := look hk
    rcases q with ⟨k, _⟩ | ⟨_, c', e', z⟩
    · have k : X.env.scope.names.lookup y = some .local := k
      rcases ok.blk.free _ (PySem.mem_of_lookup hk) rfl with k' | k' <;> rw [show X.env.scope.names.lookup y = _ from k'] at k <;> cases k
    · rw [h2] at e'; cases e'
      exact ⟨c, h1, z.keeps kp⟩
  · obtain ⟨w, z⟩ := I.cell y c (cm e).1
    exact ⟨w, z.keeps kp⟩
  · show H cenv.locals = none
    rw [hL]; exact I.hok.fresh (Nat.le_refl _)
  · exact I.freeC y c (cm e).1
  · have hp : p ∈ pn ++ [] := hp
    rw [List.append_nil] at hp
    obtain ⟨h1, h2, h3⟩ := hpn p hp
    refine ⟨h1, I.hok.fresh (Nat.le_of_lt h2), by show p.1 ≠ cenv.locals; rw [hL]; exact Nat.ne_of_gt h2, fun hb => ?_, h3⟩
    have hb : p.1 ∈ frs X.stack := hb
    rcases List.mem_cons.mp (I.stkSub _ hb) with z | z
    · exact absurd (Nat.lt_trans I.lt h2) (by rw [z]; exact Nat.lt_irrefl _)
    · exact I.nofs (Nat.le_of_lt h2) z
end
end KG

set_option Elab.async false
set_option linter.all false
set_option maxRecDepth 100000
set_option maxHeartbeats 1000000
/-! ### all(elt for tg in iter), the element may call own functions -/
namespace KG
open PySem PySem.Spec PyProof.Rows L2 GenW
/-- W: by the turn and a measure; behind it the def's table may have grown -/
def tAllG (P : Addr) (wi : TI) (g : TG) (te : TE) (vs : List Nat) : TE := fun σ H Q => wi σ H fun J H1 => GxR.TabG H1 P ∧ ∀ H2, GxR.Tabbed P H1 H2 → ∃ W : Nat → Nat → Hp → Prop, (∃ m, W 0 m H2) ∧ ∀ i m H, W i m H →
  (J.stop i H ∧ Q (.bl true) H) ∨ (J.go i H ∧ ∀ x H', J.yld i H x H' → g x (wipe σ vs) H' fun σ2 H3 => wipe σ2 vs = wipe σ vs ∧ te σ2 H3 fun y H4 =>
    (y = .bl true ∧ ∃ m', m' < m ∧ W (i + 1) m' H4) ∨ (y = .bl false ∧ Q (.bl false) H4))
section
variable {X : Cx}
def LpG (Y : Cx) (σw : L2.St) (fp : List Addr) (tn : Nat → Heap → Prop) (W : Nat → Nat → Hp → Prop) (m : Nat) (s : Shared) : Prop :=
  ∃ i m0 H', m0 + 1 ≤ m ∧ Inv Y [] σw H' s ∧ tn i s.heap ∧ (∀ b ∈ fp, H' b = none) ∧ W i m0 H'
def YdG (Y : Cx) (σw : L2.St) (fp : List Addr) (tn : Nat → Heap → Prop) (W : Nat → Nat → Hp → Prop) (Q : VK) (m : Nat) (y : Value) (s : Shared) : Prop :=
  (y = .bool true ∧ LpG Y σw fp tn W m s) ∨ (y = .bool false ∧ ∃ σ' H', Inv Y [] σ' H' s ∧ Q (.bl false) H')
def DnG (Y : Cx) (σw : L2.St) (Q : VK) (s : Shared) : Prop := ∃ H', Inv Y [] σw H' s ∧ Q (.bl true) H'
theorem gwalk {Y : Cx} {σ : L2.St} {vs : List Nat} {fp : List Addr} {it : Addr} {tn : Nat → Heap → Prop} {J : It} {W : Nat → Nat → Hp → Prop} {Q : VK} {tg elt : Expr} {g : TG} {te : TE} (hc : Y.calm = true) (hex : Y.ex = fp) (hxe : Y.xe = fun _ _ => False)
    (hpn : ∀ p ∈ Y.pn, ∀ b ∈ fp, p.1 ≠ b) (T : Turn Y.prog Y.w Y.K tg J fp it tn) (pg : PG Y tg g) (pe : PE Y elt te)
    (turn : ∀ i m H, W i m H → (J.stop i H ∧ Q (.bl true) H) ∨ (J.go i H ∧ ∀ x H', J.yld i H x H' → g x (wipe σ vs) H' fun σ2 H3 => wipe σ2 vs = wipe σ vs ∧ te σ2 H3 fun y H4 =>
      (y = .bl true ∧ ∃ m', m' < m ∧ W (i + 1) m' H4) ∨ (y = .bl false ∧ Q (.bl false) H4))) :
    GWalk Y.prog Y.w Y.A tg elt it Y.env (LpG Y (wipe σ vs) fp tn W) (YdG Y (wipe σ vs) fp tn W Q) (DnG Y (wipe σ vs) Q) := by
  have stat : ∀ {σ' : L2.St} {H' : Hp} {s' : Shared}, Inv Y [] σ' H' s' → (∀ b ∈ fp, H' b = none) → ∀ b ∈ fp, FpOk Y [] H' b := fun {σ' H' s'} I' hn b hb =>
    ⟨hn b hb, (I'.ok.exf b (hex ▸ hb)).1, I'.ok.exfs b (hex ▸ hb), .inl (hex ▸ hb), fun x c e => (I'.ok.exf b (hex ▸ hb)).2 x c e, fun p hp => hpn p (by simpa using hp) b hb⟩
  have pgr := pg.run
  have per := pe.run
  rw [hxe] at pgr per
  refine ⟨?_, ?_⟩
  · rintro m s ⟨i, m0, H5, hm0, I5, st5, n5, w5⟩
    rcases turn i m0 H5 w5 with ⟨stop, qq⟩ | ⟨go, step⟩
    · refine thn (T.done Y rfl rfl rfl hc i [] s _ H5 (fun _ _ => False) I5 (stat I5 n5) st5 stop) fun r s6 ⟨hr, I6⟩ => ?_
      subst hr
      exact ⟨H5, I6, qq⟩
    · refine thn (T.item Y rfl rfl rfl hc i [] s _ H5 (fun _ _ => False) I5 (stat I5 n5) st5 go) fun r s6 ⟨u, hr, h6⟩ => ?_
      subst hr
      refine thn h6 fun _ s7 ⟨x, H7, I7, r7, y7, st7, n7⟩ => ?_
      have I7' := I7.pinned (stat I7 n7) (T.obj _ _ st7)
      refine thn (pgr _ s7 _ H7 x u _ I7' r7 (step x H7 y7)) fun _ s8 ⟨σ8, H8, I8, hw8, q8⟩ => ?_
      refine thn (per _ s8 σ8 H8 _ I8 q8) fun z s10 ⟨yv, H10, I10, r10, q10⟩ => ?_
      obtain ⟨m, rfl⟩ : ∃ k, m = k + 1 := ⟨m - 1, by omega⟩
      refine ⟨m, rfl, ?_⟩
      rcases q10 with ⟨rfl, m', hm, w'⟩ | ⟨rfl, q10⟩
      · refine .inl ⟨r10, i + 1, m', H10, by omega, ?_, ?_, ?_, w'⟩
        · have hl : (wipe σ vs).length = σ8.length := by rw [← hw8, wipe_length]
          refine (I10.unpinned (pins := [])).weak hl fun j v e => ?_
          rw [← hw8] at e
          exact (wipe_some e).1
        · refine T.keep _ _ _ st7 fun b hb o e => ?_
          exact (I10.pin (b, o) (List.mem_append_right _ (List.mem_append_right _ (mem_pinsAt hb e)))).1
        · intro b hb
          obtain ⟨o, e, _⟩ := T.obj _ _ st7 b hb
          exact (I10.pin (b, o) (List.mem_append_right _ (List.mem_append_right _ (mem_pinsAt hb e)))).2.1
      · exact .inr ⟨r10, _, H10, I10.unpinned (pins := []), q10⟩
  · rintro A' m s Q' E' ⟨i, m0, H5, hm0, I5, st5, n5, w5⟩ h
    exact T.self A' i s Q' E' st5 h
end
end KG

set_option Elab.async false
set_option linter.all false
set_option maxRecDepth 100000
set_option maxHeartbeats 1000000
/-! ### the rule -/
namespace KG
open PySem PySem.Spec PyProof.Rows L2 GenW
section
variable {X : Cx}
theorem pe_allG {c P : Addr} {elt tg iter : Expr} {scope : Scope} {own : List (Str × Nat)} {p pos gpos : Pos} {wi : TI} {g : TG} {te : TE} {k : Nat}
    (hc : X.calm = true) (hN : X.N.Nodup) (hr : Room (k + 1) X.A) (hg : Gl X "all") (hm : X.mg "all" = none) (hb : bootBuiltins "all" = some (.builtin "all")) (TB : GxR.TabB X.base X.mg c P) (hcode : X.env.code = .ref c) (ok : GOk X.N X.env.scope scope own) (hi : PI X tg iter wi)
    (hpg : ∀ (B : Around) (s : Shared) (H : Hp) (cl : List (Str × Addr)) (C : Addr) (code : Value) (fp : List Addr) (pn : List (Addr × Obj)), PG (gcx X B s H (genEnv scope cl C code builtinsNs X.env) fp pn) tg g)
    (hpe : ∀ (B : Around) (s : Shared) (H : Hp) (cl : List (Str × Addr)) (C : Addr) (code : Value) (fp : List Addr) (pn : List (Addr × Obj)), Room k B → PE (gcx X B s H (genEnv scope cl C code builtinsNs X.env) fp pn) elt te)
    (hs : ∀ v, genFold iter X.env v = pure v)
    (he : starEach [.GeneratorExp elt [⟨tg, iter, [], 0⟩] scope gpos] X.env = (false, eval (.GeneratorExp elt [⟨tg, iter, [], 0⟩] scope gpos) X.env) :: starEach [] X.env := by rfl) :
    PE X (.Call (.Name "all" p) [.GeneratorExp elt [⟨tg, iter, [], 0⟩] scope gpos] [] pos) (tAllG P wi g te (own.map (·.2))) := by
  refine ⟨fun pins s σ H Q I h => ?_⟩
  have hfree : ∀ y ∈ scope.names, y.2 = .free → ∃ c, X.env.cells.lookup y.1 = some c := fun y hy e => by
    rcases ok.blk.free y hy e with k | k
    · exact I.ok.has _ (.inl k)
    · exact I.ok.has _ (.inr k)
  refine wpAny_Call_Name_kw (ld_blt I hg hm hb ?_)
  refine PyProof.Rows.callWith_builtin1 ?_ he (by rfl)
  rw [he]
  show wpAny _ _ (spliced ((false, eval (.GeneratorExp elt [⟨tg, iter, [], 0⟩] scope gpos) X.env) :: backTo pos (starEach [] X.env))) _ _ s
  refine Calls.spliced_cons ?_
  refine wpAny_GeneratorExp_make ok.co (closure_ok hfree) ok.nocell ok.dot ok.blk.kind (by have := hr.dp; omega) ?_ hs
  refine wpAny_mono (hi.run pins s σ H _ I h) (fun xv s1 hx => wpAny_mono hx (fun itv s2 h2 => ?_) fun _ _ e => e) fun _ _ e => e
  obtain ⟨it, fp, tn, J, H2, e, I2, T, st2, f2, ⟨ps, hP, ht⟩, q⟩ := h2
  subst e
  refine ⟨I2.nolimit, ?_⟩
  have hPs : s2.heap.get? P = some { cls := .none, data := .fields ps } := I2.hok P _ hP
  have hPlt : P < s2.heap.objs.size := Heap.lt_size hPs
  have cd : PySem.W.CodeHd s2.heap c P := TB.code.keeps fun b u e => I2.bk b u e
  have cont : ∀ (code : Value) (h3 : Heap) (tk : Nat) (ps' : Array Value), Heap.ExtBut P s2.heap h3 → s2.heap.objs.size ≤ h3.objs.size → h3.get? P = some { cls := .none, data := .fields ps' } → (∃ more, ps' = ps ++ more) → TriplesOk ps'.toList →
      wpAny (model X.prog X.w) X.A (builtinsFor X.env.globals X.env.builtins) (fun bi s₄ =>
        ∀ h', h'.Ns s₄.heap.objs.size (fun y => if y = ".0" then some (.ref it) else none) → Heap.SameBut s₄.heap.objs.size (s₄.heap.push { cls := .type "frame", data := .dict #[] }) h' →
          wpAny (model X.prog X.w) X.A (spliced (backTo pos (starEach [] X.env))) (fun r s1 => wpAny (model X.prog X.w) X.A (call (.builtin "all") (.ref h'.objs.size :: r)) (EP X pins σ Q) X.xe s1) X.xe { s₄ with
            gens := s₄.gens.push (.fresh (.compStart (.GeneratorExp elt [⟨tg, iter, [], 0⟩] scope gpos) 0 (.ref it) .none (genEnv scope (cloFrom X.env.cells scope.names []) s₄.heap.objs.size code bi X.env))),
            toks := s₄.toks + 1 + 1 + 1,
            heap := h'.push { cls := .type "generator", data := .fields #[.int s₄.gens.size 0, .str "<genexpr>" (s₄.toks + 1), .str (X.env.qual ++ "<genexpr>") (s₄.toks + 1 + 1)] } }) X.xe { s2 with heap := h3, toks := tk } := by
    intro code h3 tk ps' hx hsz hP3 hmore ht3
    obtain ⟨bm, ob, e1, e2, e3, e4, e5, e6, e7, e8⟩ := TB.bm
    have keep3 : ∀ b u, b ≠ P → s2.heap.get? b = some u → h3.get? b = some u := fun b u hb e => hx b u hb e
    refine wpAny_builtinsFor (m := X.mg) (by rw [I2.ok.glob]; exact (I2.mod.glob.keeps I2.bk).extBut hx TB.gP) e1 e2 (keep3 _ _ e4 (I2.bk _ _ e5)) e6 e7 e8 ?_
    obtain ⟨more, rfl⟩ := hmore
    have I4 := GxR.inv_tab (more := more) (h' := h3) (g' := s2.gens) (d' := s2.drawn) (t' := tk) I2 hP (fun b u hb e => keep3 b u hb e) hP3 I2.bare
    have hT : GxR.Tabbed P H2 (upd H2 P (.tbl (ps ++ more))) := ⟨⟨ps ++ more, upd_same, ht3⟩, fun b hb => upd_ne hb⟩
    obtain ⟨W, ⟨m0, w0⟩, turn⟩ := q _ hT
    generalize upd H2 P (.tbl (ps ++ more)) = H3 at I4 hT w0
    have nP : ∀ b ∈ fp, b ≠ P := fun b hb z => by
      have := (f2 b hb).1
      rw [z, hP] at this
      cases this
    have lt2 : ∀ b ∈ fp, b < s2.heap.objs.size := fun b hb => by
      obtain ⟨o, e, _⟩ := T.obj _ _ st2 b hb
      exact Heap.lt_size e
    have f4 : ∀ b ∈ fp, FpOk X pins H3 b ∧ b < h3.objs.size := fun b hb => by
      refine ⟨⟨?_, (f2 b hb).2⟩, Nat.lt_of_lt_of_le (lt2 b hb) hsz⟩
      rw [hT.2 b (nP b hb)]
      exact (f2 b hb).1
    have st4 : tn 0 h3 := T.keep _ _ _ st2 fun b hb o e => keep3 b o (nP b hb) e
    generalize hs4 : ({ s2 with heap := h3, toks := tk } : Shared) = s4 at I4
    have eh4 : s4.heap = h3 := by rw [← hs4]
    have eg4 : s4.gens = s2.gens := by rw [← hs4]
    have eo4 : s4.os = s2.os := by rw [← hs4]
    rw [← eh4] at f4 st4
    intro h' hn' hs'
    have hsz' : h'.objs.size = s4.heap.objs.size + 1 := by rw [hs'.1, Heap.size_push]
    have keep' : ∀ b o, s4.heap.get? b = some o → h'.get? b = some o := fun b o e => hs'.extBut b o (Nat.ne_of_lt (Heap.lt_size e)) (Heap.get?_push_of_some _ e)
    generalize hgo : ({ cls := .type "generator", data := .fields #[.int s4.gens.size 0, .str "<genexpr>" (s4.toks + 1), .str (X.env.qual ++ "<genexpr>") (s4.toks + 1 + 1)] } : Obj) = go
    have keep5 : ∀ b o, s4.heap.get? b = some o → (h'.push go).get? b = some o := fun b o e => Heap.get?_push_of_some _ (keep' b o e)
    have ga : (h'.push go).get? h'.objs.size = some go := Heap.get?_push_size _ (by rw [← hgo]; rfl)
    generalize hcenv : genEnv scope (cloFrom X.env.cells scope.names []) s4.heap.objs.size code builtinsNs X.env = cenv
    generalize hs5 : ({ s4 with gens := s4.gens.push (.fresh (.compStart (.GeneratorExp elt [⟨tg, iter, [], 0⟩] scope gpos) 0 (.ref it) .none cenv)), toks := s4.toks + 1 + 1 + 1, heap := h'.push go } : Shared) = s5
    have eh5 : s5.heap = h'.push go := by rw [← hs5]
    have eo5 : s5.os = s4.os := by rw [← hs5]
    have eg5 : s5.gens = s4.gens.push (.fresh (.compStart (.GeneratorExp elt [⟨tg, iter, [], 0⟩] scope gpos) 0 (.ref it) .none cenv)) := by rw [← hs5]
    have hgen : ∀ h : Heap, h.get? h'.objs.size = some go → h.IsGen h'.objs.size s4.gens.size := fun h e => ⟨go, _, _, e, by rw [← hgo], by rw [← hgo], by rw [← hgo]⟩
    have gb5 : AllBare s5.gens := by rw [eg5]; exact I4.bare.push rfl
    generalize hB : X.A.in1.in1.over (.compLoop (.GeneratorExp elt [⟨tg, iter, [], 0⟩] scope gpos) 0 (.ref it) .none cenv) [] = B
    have hBh : B.handled = none := by rw [← hB]; exact hr.hd
    have hBf : B.frames = some (cenv :: X.stack) := by
      rw [← hB]
      have q : (X.A.in1.in1.over (.compLoop (.GeneratorExp elt [⟨tg, iter, [], 0⟩] scope gpos) 0 (.ref it) .none cenv) []).frames = pushEnvs (Code.envs (.compLoop (.GeneratorExp elt [⟨tg, iter, [], 0⟩] scope gpos) 0 (.ref it) .none cenv)) (pushEnvs (envsOf []) X.A.in1.in1.frames) := rfl
      rw [q, show X.A.in1.in1.frames = X.A.frames from rfl, I.ok.frames]
      rfl
    have hBr : Room k B := ⟨hBh, by rw [← hB]; have := hr.dp; show X.A.depth + 0 + 1 + 3 * k + 5 < _; omega, by rw [← hB]; have := hr.un; show X.A.units + 1 + 1 + 0 + 3 + 16 * k + 200 < _; omega⟩
    have hn5 : s5.heap.Ns s4.heap.objs.size (fun y => if y = ".0" then some (.ref it) else none) := by rw [eh5]; exact hn'.push _
    have I5 : Inv (gcx X B s4 H3 cenv fp [(h'.objs.size, go)]) [] (wipe σ (own.map (·.2))) H3 s5 := by
      have z := gen_start (B := B) (code := code) (s' := s5) (pn := [(h'.objs.size, go)]) I4 ok hN f4 hBh (by rw [hcenv]; exact hBf) eo5 gb5 (fun b o e => by rw [eh5]; exact keep5 b o e) hn5 (fun p hp => by
        have e := List.mem_singleton.mp hp
        rw [e]
        exact ⟨by rw [eh5]; exact ga, by show _ < h'.objs.size; omega, fun v z => by rw [← hgo] at z; cases z⟩)
      rw [hcenv] at z
      exact z
    have hapart : ∀ p ∈ [(h'.objs.size, go)], ∀ b ∈ fp, p.1 ≠ b := fun p hp b hb => by
      have e := List.mem_singleton.mp hp
      have l := (f4 b hb).2
      rw [e]
      exact Nat.ne_of_gt (Nat.lt_trans l (by rw [hsz']; exact Nat.lt_succ_self _))
    have pg := hpg B s4 H3 (cloFrom X.env.cells scope.names []) s4.heap.objs.size code fp [(h'.objs.size, go)]
    have pe := hpe B s4 H3 (cloFrom X.env.cells scope.names []) s4.heap.objs.size code fp [(h'.objs.size, go)] hBr
    rw [hcenv] at pg pe
    have Wk := gwalk (Y := gcx X B s4 H3 cenv fp [(h'.objs.size, go)]) (σ := σ) (vs := own.map (·.2)) hc rfl rfl hapart T pg pe turn
    have back : ∀ {σ' : L2.St} {H' : Hp} {s' : Shared}, Inv (gcx X B s4 H3 cenv fp [(h'.objs.size, go)]) [] σ' H' s' → Inv X pins σ H' s' := fun {σ' H' s'} I6 =>
      I4.call' (ch := fp) I6.os I6.base I6.hok I6.bare fun b hb => ⟨(f4 b hb).1.2.2.2.1, (f4 b hb).1.2.1, (f4 b hb).1.2.2.2.2.1, (f4 b hb).1.2.2.2.2.2⟩
    have gat : ∀ {σ' : L2.St} {H' : Hp} {s' : Shared}, Inv (gcx X B s4 H3 cenv fp [(h'.objs.size, go)]) [] σ' H' s' → s'.heap.IsGen h'.objs.size s4.gens.size := fun {σ' H' s'} I6 =>
      hgen _ (I6.pin (h'.objs.size, go) (List.mem_append_left _ List.mem_cons_self)).1
    refine Calls.spliced_nil ?_
    refine call_function_tree F.kind_all F.plain_all F.entry_all (F.args_all1 _) ?_
    unfold Builtin.«all»
    refine wpAny_bind (m := oneArg "all" _) (wpAny_pure ?_)
    refine wpAny_bind (wpAny_pyIter_gen (gat I5) ?_)
    refine wpAny_pure ⟨plainId_quiet F.plain_all_loop _, ?_⟩
    refine all_loop (P := X.prog) (w := X.w) (g := s4.gens.size) (Lp := LpG (gcx X B s4 H3 cenv fp [(h'.objs.size, go)]) (wipe σ (own.map (·.2))) fp tn W) (Yd := YdG (gcx X B s4 H3 cenv fp [(h'.objs.size, go)]) (wipe σ (own.map (·.2))) fp tn W Q) (Dn := DnG (gcx X B s4 H3 cenv fp [(h'.objs.size, go)]) (wipe σ (own.map (·.2))) Q)
      hr.hd (by have := hr.dp; omega) (fun m v s hY => ?_) (fun s s' hD hk ho hg => ?_) (m0 + 1) s5 (.fresh (.compStart (.GeneratorExp elt [⟨tg, iter, [], 0⟩] scope gpos) 0 (.ref it) .none cenv)) I5.nolimit (gat I5) (by rw [eg5]; exact Array.getElem?_push_size ..) ⟨rfl, ?_⟩
    · rcases hY with ⟨rfl, i, m1, H', hm1, I6, st6, n6, w6⟩ | ⟨rfl, σ', H', I6, q6⟩
      · refine ⟨I6.nolimit, gat I6, I6.bare, true, rfl, fun s'' hal => ?_⟩
        rw [if_pos rfl]
        exact ⟨i, m1, H', hm1, Inv.alike I6 hal, by rw [hal.heap]; exact st6, n6, w6⟩
      · refine ⟨I6.nolimit, gat I6, I6.bare, false, rfl, fun s'' hal => ?_⟩
        rw [if_neg Bool.false_ne_true]
        exact ⟨.bl false, H', back (Inv.alike I6 hal), rfl, q6⟩
    · obtain ⟨H', I6, q6⟩ := hD
      have I7 := I6.kept (t' := s.toks) hk
      refine ⟨.bl true, H', back (Inv.alike I7 ⟨rfl, ho, ?_⟩), rfl, q6⟩
      rw [hg]
      exact allBare_setGen I6.bare rfl
    · refine seg_start hB (by rw [← hcenv]; exact ok.co) Wk (Nat.le_refl _) ⟨0, m0, H3, Nat.le_refl _, Inv.alike I5 ⟨rfl, rfl, allBare_setGen gb5 rfl⟩, ?_, fun b hb => (f4 b hb).1.1, w0⟩
      show tn 0 s5.heap
      rw [eh5]
      exact T.keep _ _ _ st4 fun b hb o e => keep5 b o e
  cases hf : codeAmong gpos ps.toList with
  | none =>
    refine wpAny_genexprCodeX hcode (cd.code hPs ht) (cd.tab hPs) hf fun c' h' tk hx hge hlt hco' _ htab' _ => ?_
    obtain ⟨o1, vs, f1, tf, fl, tg, inF, tx, tt, op, _, _, _, _, _, _, _, _, _, htr, _⟩ := hco'
    exact cont _ h' tk _ hx (Nat.le_trans hge (Nat.le_of_lt hlt)) htab'.2 ⟨_, rfl⟩ htr
  | some cv =>
    refine wpAny_genexprCode_hit hcode (cd.code hPs ht) hf ?_
    exact cont cv s2.heap s2.toks ps (Heap.ExtBut.refl _ _) (Nat.le_refl _) hPs ⟨#[], by simp⟩ ht
end
end KG

set_option Elab.async false
set_option linter.all false
set_option maxRecDepth 100000
set_option maxHeartbeats 1000000
/-! ### the end of a law whose def is quiet, with tables of code -/
namespace KG
open PySem PySem.Spec PyProof.Rows L2 KX
open Classical in
theorem lawGT {P : Program} {w : World} {K : PySem.W.Frag} {mg mb : Str → Option Value} {k : Nat} {fa a : Addr} {cs : List (Addr × Addr)} {fd : FuncData} {x : Str} {sp : Sp} {s₁ : Shared} {vs : List Value} {ns : List Int}
    (inK : K.In s₁.heap) (hns : s₁.heap.Ns mainGlobals mg) (hb : s₁.heap.Ns builtinsNs mb) (hbb : ∀ y : Str, y ≠ "__name__" → mb y = bootBuiltins y) (hlim : s₁.heap.NoLimit) (hg : s₁.gens = #[])
    (hT : ∀ p ∈ cs, s₁.heap.get? p.2 = some { cls := .none, data := .fields #[] }) (nT : ∀ p ∈ cs, K.lookup p.2 = none) (C : ∀ p ∈ cs, PySem.W.CodeHd s₁.heap p.1 p.2)
    (hbm : ∃ (bm : Addr) (ob : Obj), mg "__builtins__" = some (.ref bm) ∧ bm ≠ builtinsNs ∧ s₁.heap.get? bm = some ob ∧ ob.cls = .type "module" ∧ ob.dict = some builtinsNs ∧ ob.data = .plain)
    (ha : s₁.heap.get? a = some { cls := .type "list", data := .seq vs.toArray }) (hi : IntsAre vs ns) (hl : ns.length ≤ sizeLine) (hr : Room k callerA)
    (F : ∀ base : Heap, K.In base → base.Ns mainGlobals mg → (∀ p ∈ cs, GxR.TabB base mg p.1 p.2) → FnG P w K mg base k fa fd [x] sp) (hbind : ∀ (s : Shared) (u : Value), BindsTo s fd ⟨[u], []⟩ [(x, u)])
    (hsp : ∀ H : Hp, (∀ p ∈ cs, H p.2 = some (.tbl #[])) → SqL K H a (ns.map V.int) → sp [.ref a] H (fun v _ => v = .bl true) fun _ _ _ => False) :
    codeAny (model P w) callerA (.call (.ref fa) ⟨[.ref a], []⟩) (fun r s' => r = .ok (.ret (.bool true)) ∧ OldK s₁.heap s'.heap ∧ s'.os = s₁.os ∧ AllBare s'.gens) s₁ := by
  let scr : Obj := { cls := .type "list", data := .seq vs.toArray }
  let H : Hp := fun b => if K.lookup a = none ∧ b = a then some (.frz scr (.lst (ns.map V.int))) else if b ∈ cs.map (·.2) then some (.tbl #[]) else none
  have rv := vals_ints hi
  have isT : ∀ {b : Addr}, b ∈ cs.map (·.2) → s₁.heap.get? b = some { cls := .none, data := .fields #[] } ∧ K.lookup b = none := fun {b} hb => by
    obtain ⟨p, hp, e⟩ := List.mem_map.mp hb
    rw [← e]
    exact ⟨hT p hp, nT p hp⟩
  have memT : ∀ p ∈ cs, p.2 ∈ cs.map (·.2) := fun p hp => List.mem_map.mpr ⟨p, hp, rfl⟩
  have aT : ∀ {b}, b ∈ cs.map (·.2) → b ≠ a := fun {b} hb z => by
    have q := (isT hb).1
    rw [z, ha] at q
    cases q
  have hA : ∀ {b u}, H b = some u → (K.lookup a = none ∧ b = a ∧ u = .frz scr (.lst (ns.map V.int))) ∨ (b ∈ cs.map (·.2) ∧ u = .tbl #[]) := fun {b u} z => by
    by_cases c : K.lookup a = none ∧ b = a
    · have z' : some (HO.frz scr (.lst (ns.map V.int))) = some u := (if_pos c).symm.trans z
      exact .inl ⟨c.1, c.2, (Option.some.inj z').symm⟩
    · have z1 := (if_neg c).symm.trans z
      by_cases c2 : b ∈ cs.map (·.2)
      · have z' : some (HO.tbl #[]) = some u := (if_pos c2).symm.trans z1
        exact .inr ⟨c2, (Option.some.inj z').symm⟩
      · have z' : none = some u := (if_neg c2).symm.trans z1
        cases z'
  have hTb : ∀ p ∈ cs, H p.2 = some (.tbl #[]) := fun p hp => (if_neg fun z => aT (memT p hp) z.2).trans (if_pos (memT p hp))
  have nK : ∀ {b o}, K.lookup b = some o → H b = none := fun {b o} e => by
    cases z : H b with
    | none => rfl
    | some u =>
      rcases hA z with ⟨z1, z2, _⟩ | ⟨z1, _⟩
      · rw [z2, z1] at e
        cases e
      · rw [(isT z1).2] at e
        cases e
  have noD : ∀ {b : Addr} {o : Obj}, s₁.heap.get? b = some o → (∀ vs n, o.data ≠ .seq vs n) → o.data ≠ .fields #[] → H b = none := fun {b o} e h1 h2 => by
    cases z : H b with
    | none => rfl
    | some u =>
      rcases hA z with ⟨_, z2, _⟩ | ⟨z1, _⟩
      · rw [z2, ha] at e
        cases e
        exact absurd rfl (h1 _ _)
      · rw [(isT z1).1] at e
        cases e
        exact absurd rfl h2
  have nD : ∀ {b m}, s₁.heap.Ns b m → (hidT s₁.heap H).Ns b m := by
    rintro b m ⟨o, es, ep, e, d, r⟩
    refine ⟨o, es, ep, hidT_get e (noD e (fun vs n z => ?_) fun z => ?_), d, r⟩ <;> (rw [d] at z; cases z)
  have inB : K.In (hidT s₁.heap H) := fun b o e => hidT_get (inK b o e) (nK e)
  have hok : HOk P w H s₁.heap := fun b u z => by
    rcases hA z with ⟨_, rfl, rfl⟩ | ⟨z1, rfl⟩
    · exact ⟨ha, by rw [List.length_map]; exact hl, vs, _, rv, ha⟩
    · exact (isT z1).1
  have sq : SqL K H a (ns.map V.int) := by
    cases z : K.lookup a with
    | none => exact .inl (.inr ⟨scr, if_pos ⟨z, rfl⟩⟩)
    | some o =>
      have e := inK a o z
      rw [ha] at e
      cases e
      exact .inr ⟨_, vs.toArray, _, z, rfl, rfl, rfl, by rw [List.size_toArray, hi.length]; exact hl, by simpa using rv⟩
  have TB : ∀ p ∈ cs, GxR.TabB (hidT s₁.heap H) mg p.1 p.2 := fun p hp => by
    have hTp := hT p hp
    refine ⟨?_, ?_, fun z => ?_⟩
    · obtain ⟨o, us, file, tf, flags, tg, inF, text, tt, e1, r1, r2, r3, r4, r5, r6, r7, r8, hne⟩ := C p hp
      refine ⟨o, us, file, tf, flags, tg, inF, text, tt, hidT_get e1 (noD e1 (fun vs n z => ?_) fun z => ?_), r1, r2, r3, r4, r5, r6, r7, r8, hne⟩
      · rw [r2] at z
        cases z
      · rw [r2] at z
        cases z
        simp at r3
    · obtain ⟨bm, ob, b1, b2, b3, b4, b5, b6⟩ := hbm
      have nG : bm ≠ mainGlobals := fun q => by
        obtain ⟨o, es, ep, e, hd, _⟩ := hns
        rw [q, e] at b3
        cases b3
        rw [hd] at b6
        cases b6
      have nP : bm ≠ p.2 := fun q => by
        rw [q, hTp] at b3
        cases b3
        cases b6
      refine ⟨bm, ob, b1, b2, nG, nP, hidT_get b3 (noD b3 (fun vs n z => ?_) fun z => ?_), b4, b5, b6⟩ <;> (rw [b6] at z; cases z)
    · obtain ⟨o, es, ep, e, hd, _⟩ := hns
      rw [z, hTp] at e
      cases e
      cases hd
  have e0 : Env0 P w K mg (hidT s₁.heap H) callerA [] s₁ H :=
    ⟨rfl, ⟨inB, nD hns, ⟨mb, nD hb, hbb⟩, let ⟨mc, h1, h2⟩ := hlim; ⟨mc, nD h1, h2⟩⟩, fun b o e => of_hidT e, Nat.le_of_eq (hidT_size _ _), trivial, fun b z => (nomatch z), hok, .of_eq hg⟩
  refine codeAny_mono ((F _ inB (nD hns) TB).goes (us := [.ref a]) (vs := [.ref a]) rfl hr e0 (hbind s₁ (.ref a)) (.cons rfl .nil) (hsp H hTb sq)) ?_
  rintro (e | (_ | _ | _ | u)) s' z
  · exact z.elim
  · exact False.elim z
  · exact False.elim z
  · exact False.elim z
  · obtain ⟨v, H', os, bare, un, hok', r', q⟩ := z
    subst q
    obtain rfl : u = Value.bool true := r'
    have key : ∀ b o, b ∉ cs.map (·.2) → s₁.heap.get? b = some o → s'.heap.get? b = some o := fun b o nb e => by
      cases c : H b with
      | none => exact un.keep b o e c (fun z => nomatch z) (fun z => nomatch z)
      | some y =>
        rcases hA c with ⟨_, rfl, rfl⟩ | ⟨z1, _⟩
        · have e1 := (hok _ _ c).1
          have e2 := (hok' _ _ (un.frzs _ _ _ c)).1
          rw [e1] at e
          cases e
          exact e2
        · exact absurd z1 nb
    have grown : ∀ p ∈ cs, ∃ more : Array Value, s'.heap.get? p.2 = some { cls := .none, data := .fields more } := fun p hp => by
      obtain ⟨more, z⟩ := un.tbls p.2 #[] (hTb p hp)
      exact ⟨_, hok' p.2 _ z⟩
    refine ⟨rfl, ⟨fun b o e => ?_, fun b o e => ?_⟩, os, bare⟩
    · by_cases hb : b ∈ cs.map (·.2)
      · obtain ⟨p, hp, ep⟩ := List.mem_map.mp hb
        obtain ⟨more, hm⟩ := grown p hp
        rw [← ep] at e ⊢
        rw [hT p hp] at e
        cases e
        exact .inr (.inl ⟨((C p hp).tab (hT p hp)).isCodeTable, rfl, #[], more, rfl, by rw [Array.empty_append]; exact hm⟩)
      · exact .inl (key b o hb e)
    · by_cases hb : b ∈ cs.map (·.2)
      · obtain ⟨p, hp, ep⟩ := List.mem_map.mp hb
        obtain ⟨more, hm⟩ := grown p hp
        rw [← ep]
        exact ⟨_, hm⟩
      · exact ⟨o, key b o hb e⟩
end KG

set_option Elab.async false
set_option linter.all false
set_option maxRecDepth 100000
set_option maxHeartbeats 1000000
/-! ### things as data; whole numbers, fractions -/
namespace KP
open PySem PySem.Spec PyProof.Rows L2 KX
def top (i : Nat) : Stmt := PySem.Challenge.pw_hiddenrates_k05_whole_alike_exactly_by_f.main.body.getD i (.Pass ⟨0, 0, 0, 0⟩)
abbrev sWhole : Stmt := top 11
abbrev sWithin : Stmt := top 12
abbrev sRatio : Stmt := top 13
abbrev sTold : Stmt := top 14
abbrev sNet : Stmt := top 28
abbrev sPipes : Stmt := top 29
abbrev sPipe : Stmt := top 30
abbrev sShare : Stmt := top 31
abbrev sTanks : Stmt := top 32
end KP
namespace KX
open PySem PySem.Spec PyProof.Rows L2
theorem SqT.of {K : PySem.W.Frag} {H : Hp} {a : Addr} {xs : List V} (h : Rd H a (.tup xs)) : L2.SqT K H a xs := .inl h
end KX
namespace L2
open PySem PySem.Spec PyProof.Rows
theorem Same.rd {H H' : Hp} (s : Same H H') {a : Addr} {u : HO} (h : Rd H a u) : Rd H' a u := h.elim (fun e => .inl (s _ _ e)) fun ⟨o, e⟩ => .inr ⟨o, s _ _ e⟩
end L2
namespace KP
open PySem PySem.Spec PyProof.Rows L2 KX
mutual
/-- what x is as data (tracked lists, tuples, the empty dict) -/
inductive Th (H : Hp) : V → PyData → Prop
  | non : Th H .non .none
  | bl (b : Bool) : Th H (.bl b) (.bool b)
  | int (i : Int) : Th H (.int i) (.int i)
  | str (x : Str) : Th H (.str x) (.str x)
  | lst {a : Addr} {xs : List V} {ds : List PyData} : H a = some (.lst xs) → ThAll H xs ds → Th H (.ref a) (.list ds)
  | tup' {a : Addr} {xs : List V} {ds : List PyData} : Rd H a (.tup xs) → ThAll H xs ds → Th H (.ref a) (.tuple ds)
  | emp {a : Addr} : H a = some (.dK []) → Th H (.ref a) (.dict [])
inductive ThAll (H : Hp) : List V → List PyData → Prop
  | nil : ThAll H [] []
  | cons {v : V} {vs : List V} {d : PyData} {ds : List PyData} : Th H v d → ThAll H vs ds → ThAll H (v :: vs) (d :: ds)
end
theorem Th.tup {H : Hp} {a : Addr} {xs : List V} {ds : List PyData} (e : H a = some (.tup xs)) (h : ThAll H xs ds) : Th H (.ref a) (.tuple ds) := .tup' (.inl e) h
/-- all but tables as it was -/
def Sm (H H' : Hp) : Prop := ∀ b u, H b = some u → (∀ q, u ≠ .tbl q) → H' b = some u
theorem Sm.refl (H : Hp) : Sm H H := fun _ _ e _ => e
theorem Sm.trans {H H1 H2 : Hp} (a : Sm H H1) (b : Sm H1 H2) : Sm H H2 := fun c u e n => b c u (a c u e n) n
theorem Sm.same {H H1 : Hp} (a : Same H H1) : Sm H H1 := fun c u e _ => a c u e
theorem Sm.rd {H H' : Hp} (s : Sm H H') {a : Addr} {xs : List V} (h : Rd H a (.tup xs)) : Rd H' a (.tup xs) := h.elim (fun e => .inl (s _ _ e fun _ z => by cases z)) fun ⟨o, e⟩ => .inr ⟨o, s _ _ e fun _ z => by cases z⟩
theorem Th.mono {H H' : Hp} (s : Sm H H') {v : V} {d : PyData} (h : Th H v d) : Th H' v d := by
  refine Th.rec (motive_1 := fun v d _ => Th H' v d) (motive_2 := fun vs ds _ => ThAll H' vs ds) .non (fun b => .bl b) (fun i => .int i) (fun x => .str x) (fun q _ ih => .lst (s _ _ q fun _ z => by cases z) ih) (fun q _ ih => .tup' (s.rd q) ih) (fun q => .emp (s _ _ q fun _ z => by cases z)) .nil (fun _ _ a b => .cons a b) h
def tyN : PyData → String
  | .none => "NoneType"
  | .bool _ => "bool"
  | .int _ => "int"
  | .str _ => "str"
  | .list _ => "list"
  | .tuple _ => "tuple"
  | .dict _ => "dict"
theorem Th.ty {K : PySem.W.Frag} {H : Hp} {v : V} {d : PyData} (h : Th H v d) : TyB K H v (tyN d) := by
  cases h with
  | non => exact .non
  | bl b => exact .bl b
  | int i => exact .int i
  | str x => exact .str x
  | lst e _ => exact .lst (SqL.of e)
  | tup' e _ => exact .tup (SqT.of e)
  | emp e => exact .dK e
def isI : PyData → Bool
  | .int _ => true
  | _ => false
def isW : PyData → Int → Int → Bool
  | .int i, lo, hi => decide (lo ≤ i) && decide (i ≤ hi)
  | _, _, _ => false
structure TxT (mg : Str → Option Value) : Prop where
  type : mg "type" = none
  int : mg "int" = none
  tuple : mg "tuple" = none
  str : mg "str" = none
  len : mg "len" = none
  abs : mg "abs" = none
  all : mg "all" = none
  enumerate : mg "enumerate" = none
  zip : mg "zip" = none
theorem isI_ty (d : PyData) : decide (tyN d = "int") = isI d := by cases d <;> simp [tyN, isI]
def spWhole : Sp := fun vs H Q _ => ∃ x d, vs = [x] ∧ Th H x d ∧ Q (.bl (isI d)) H
def spWithin : Sp := fun vs H Q _ => ∃ x d lo hi, vs = [x, .int lo, .int hi] ∧ Th H x d ∧ Q (.bl (isW d lo hi)) H
section
variable {P : Program} {w : World} {K : PySem.W.Frag} {mg : Str → Option Value} {base : Heap}
theorem scWhole : FnScope ["value"] ["value"] (defScope sWhole) := ⟨rfl, rfl, rfl, by decide +kernel, rfl, by decide +kernel, by decide +kernel⟩
theorem ok_whole {f : Addr} {fd : FuncData} (F : Fun K "is_whole" "is_whole" sWhole f fd) (T : TxT mg) : FnOk P w K mg base CX0 1 f fd ["value"] spWhole := by
  refine F.ok scWhole (fun vs H Q E h => ?_) (fun cdv A outer s H vs Q E hr h => ?_)
  · obtain ⟨x, d, rfl, _⟩ := h
    rfl
  · obtain ⟨x, d, rfl, hx, k⟩ := h
    refine ⟨_, pss_one (ps_ret (pe_cmpR op_isTyB (pe_callTy call_type1 (by rfl) T.type (by decide +kernel) (pa_cons (pv 0) pa_nil)) (pe_bltn (v := .ty "int") (by rfl) T.int (by decide +kernel) rfl) (nomark _))), ?_⟩
    refine ⟨_, rfl, _, _, rfl, Th.ty hx, _, _, rfl, rfl, ?_⟩
    show Q (.bl (decide (tyN d = "int"))) H
    rw [isI_ty]
    exact k
theorem scWithin : FnScope ["value", "least", "most"] ["value", "least", "most"] (defScope sWithin) := ⟨rfl, rfl, rfl, by decide +kernel, rfl, by decide +kernel, by decide +kernel⟩
theorem ok_within {f fW : Addr} {fd fdW : FuncData} (F : Fun K "is_within" "is_within" sWithin f fd) (FW : FnOk P w K mg base CX0 1 fW fdW ["value"] spWhole) (mW : mg "is_whole" = some (.ref fW)) (kW : PySem.W.keepIn K (.ref fW) = true) (bW : Binds K fdW ["value"] []) :
    FnOk P w K mg base CX0 2 f fd ["value", "least", "most"] spWithin := by
  refine F.ok scWithin (fun vs H Q E h => ?_) (fun cdv A outer s H vs Q E hr h => ?_)
  · obtain ⟨x, d, lo, hi, rfl, _⟩ := h
    rfl
  · obtain ⟨x, d, lo, hi, rfl, hx, k⟩ := h
    refine ⟨_, pss_one (ps_ret (pe_and (pe_call FW hr rfl mW kW bW .nil pass0 (pa_cons (pv 0) pa_nil)) (pe_one (pe_chain op_le op_le (pv 1) (pv 0) (pv 2))))), ?_⟩
    refine ⟨_, rfl, x, d, rfl, hx, _, rfl, ?_⟩
    cases hx with
    | int i =>
      refine ⟨_, rfl, _, rfl, _, _, rfl, rfl, _, rfl, ?_⟩
      by_cases c : lo ≤ i
      · rw [if_pos (decide_eq_true c)]
        refine ⟨_, rfl, _, _, rfl, rfl, ?_⟩
        have e : isW (.int i) lo hi = decide (i ≤ hi) := by simp [isW, c]
        rw [e] at k
        exact k
      · rw [if_neg (by simpa using c)]
        have e : isW (.int i) lo hi = false := by simp [isW, c]
        rw [e] at k
        exact k
    | _ => exact k
end
end KP

set_option Elab.async false
set_option linter.all false
set_option maxRecDepth 100000
set_option maxHeartbeats 2000000
/-! ### tuples whose object is known to have no dict: made by tuple(list), cut, asked for a place -/
namespace KX
open PySem PySem.Spec PyProof.Rows L2
/-- a tuple with no dict of its own -/
def FzV (H : Hp) (v : V) : Prop := ∃ (a : Addr) (xs : List V) (o : Obj), v = .ref a ∧ o.dict = none ∧ H a = some (.frz o (.tup xs))
theorem FzV.same {H H' : Hp} {v : V} (h : FzV H v) (s : Same H H') : FzV H' v := by
  obtain ⟨a, xs, o, e, d, q⟩ := h
  exact ⟨a, xs, o, e, d, s _ _ q⟩
section
variable {X : Cx} {a : Expr} {ta : TE}
def kTupF (K : PySem.W.Frag) (x : V) (H : Hp) (Q : VK) : Prop := ∃ p xs, x = .ref p ∧ SqL K H p xs ∧ ∀ q o, H q = none → o.dict = none → Q (.ref q) (upd H q (.frz o (.tup xs)))
theorem rl_tupleF (pins : List (Addr × Obj)) (s : Shared) (σ : L2.St) (H : Hp) (x : V) (v : Value) (Q : VK) (I : Inv X pins σ H s) (r : RelV x v) (h : kTupF X.K x H Q) :
    wpAny (model X.prog X.w) X.A (call (.type "tuple") [v]) (EP X pins σ Q) X.xe s := by
  obtain ⟨p, xs, rfl, hs, q⟩ := h
  obtain rfl : v = .ref p := r
  obtain ⟨its, rv, pl, hz⟩ := I.list hs
  refine call_tuple_list pl.isList (fun h' hk => ?_) (by rw [List.size_toArray, ← rv.length]; exact hz)
  have I1 : Inv X pins σ H { s with heap := h' } := I.kept (t' := s.toks) hk
  have I2 : Inv X pins σ (upd H h'.objs.size (.frz { cls := .type "tuple", data := .seq its.toArray } (.tup xs))) { s with heap := h'.push { cls := .type "tuple", data := .seq its.toArray } } :=
    I1.laid (t' := s.toks) (fun b o e => Heap.get?_push_of_some _ e) (Nat.le_refl _) (show ObjOk X.prog X.w _ _ _ (.frz _ (.tup xs)) from ⟨Heap.get?_push_size _ rfl, hz, its, rv, IsTup.new _ _⟩)
  exact ⟨.ref h'.objs.size, _, I2, rfl, q _ _ (I1.hok.fresh (Nat.le_refl _)) rfl⟩
theorem pe_tupleOfF {p pos : Pos} (hg : Gl X "tuple") (hm : X.mg "tuple" = none) (ha : PE X a ta) (na : starEach [a] X.env = (false, eval a X.env) :: starEach [] X.env := by rfl) :
    PE X (.Call (.Name "tuple" p) [a] [] pos) (tThen ta (kTupF X.K)) := by
  refine ⟨fun pins s σ H Q I h => ?_⟩
  exact Call_ (ld_blt I hg hm boot_tuple (PyProof.Rows.callWith_type1 (one_arg ha I h (fun v s2 x H2 I2 r q => rl_tupleF pins s2 σ H2 x v Q I2 r q) na) na))
def rSlF (K : PySem.W.Frag) : V → Option Int → Option Int → Hp → VK → Prop := fun x lo hi H Q => ∃ a xs o, x = .ref a ∧ H a = some (.frz o (.tup xs)) ∧ 
  (HT.sIx xs.length 0 lo = 0 ∧ HT.sIx xs.length xs.length hi = xs.length → Q (.ref a) H) ∧ (¬ (HT.sIx xs.length 0 lo = 0 ∧ HT.sIx xs.length xs.length hi = xs.length) → ∀ p o', H p = none → o'.dict = none → Q (.ref p) (upd H p (.frz o' (.tup (cutV xs lo hi)))))
theorem sl_tupF : SlR X (rSlF X.K) := by
  intro pins s σ H x v vl vu lo hi sl Q I rx hs pl pu h
  obtain ⟨a, xs, o, rfl, hx, q1, q2⟩ := h
  cases rx
  obtain ⟨its, r, ht, hz⟩ := I.tuple (show SqT X.K H a xs from .inl (.inr ⟨o, hx⟩))
  have hlen : its.toArray.size = xs.length := by rw [List.size_toArray]; exact r.length.symm
  refine ⟨"tuple", _, PyProof.Rows.slot_tuple_getitem.lookup, ht.typeIs, ?_⟩
  by_cases hw : HT.sIx xs.length 0 lo = 0 ∧ HT.sIx xs.length xs.length hi = xs.length
  · exact getItem_tuple_whole ht hs pl pu (by rw [hlen]; exact hw) ⟨.ref a, H, I, rfl, q1 hw⟩
  · refine HT.getItem_tuple_cut ht hs pl pu (by rw [hlen]; exact hw) ?_ (by rw [hlen]; exact hz)
    rw [hlen]
    refine ⟨.ref s.heap.objs.size, _, I.laid (t' := s.toks) (o := .frz { cls := .type "tuple", data := .seq ((its.toArray.toList.drop (HT.sIx xs.length 0 lo)).take (HT.sIx xs.length xs.length hi - HT.sIx xs.length 0 lo)).toArray } (.tup (cutV xs lo hi))) (fun b ob q => Heap.get?_push_of_some _ q) (Nat.le_refl _) ?_, rfl, q2 hw _ _ (I.hok.fresh (Nat.le_refl _)) rfl⟩
    exact ⟨Heap.get?_push_size _ rfl, Nat.le_trans (cutV_length xs lo hi) hz, _, (r.drop (HT.sIx xs.length 0 lo)).take (HT.sIx xs.length xs.length hi - HT.sIx xs.length 0 lo), IsTup.new _ _⟩
theorem fzV_is {pins : List (Addr × Obj)} {σ : L2.St} {H : Hp} {s : Shared} {x : V} {v : Value} (I : Inv X pins σ H s) (r : RelV x v) (ty : FzV H x) :
    s.TypeIs v "tuple" ∧ ∀ a, v = .ref a → ∃ ob, s.heap.get? a = some ob ∧ ob.dict = none := by
  obtain ⟨a, xs, o, rfl, d, e⟩ := ty
  obtain rfl : v = .ref a := r
  obtain ⟨h1, _, its, _, ht⟩ := (show ObjOk X.prog X.w H s.heap a (.frz o (.tup xs)) from I.hok a _ e)
  exact ⟨ht.typeIs, fun b hb => by cases hb; exact ⟨o, h1, d⟩⟩
def tBMF (r : V → List V → Hp → VK → Prop) (to : TE) (t : TA) : TE := fun σ H Q => to σ H fun x H1 => FzV H1 x ∧ t σ H1 fun xs H2 => r x xs H2 Q
variable {o e : Expr} {es : List Expr} {to : TE} {t : TA} {name : Str} {apos cpos : Pos} {id : String} {r : V → List V → Hp → VK → Prop}
theorem pe_bmF (pa : PlainAttrs "tuple") (slot : Slot "tuple" name id) (hty : typeOf (.builtin id) = pure (.type "method_descriptor")) (hm : MtR X id r) (ho : PE X o to) (ha : PA X (e :: es) t)
    (hbase : attributeBase o name X.env (eval o X.env) = eval o X.env := by rfl)
    (hfew : ((backTo cpos (starEach (e :: es) X.env)).all (fun x => !x.1) && (backToKw cpos (keywordEach [] X.env)).all (fun x => x.1.isSome)
      && decide ((e :: es).length + ([] : List Keyword).length + (if ([] : List Keyword).isEmpty then 0 else 1) < 30)) = true := by rfl)
    (hline : (apos.endLine == cpos.line) = true := by rfl) (hs : starEach (e :: es) X.env = (false, eval e X.env) :: starEach es X.env := by rfl) (hplain : (backTo cpos (starEach es X.env)).any (·.1) = false := by rfl) :
    PE X (.Call (.Attribute o name apos) (e :: es) [] cpos) (tBMF r to t) := by
  refine ⟨fun pins s σ H Q I h => ?_⟩
  refine wpAny_Call_method_late hbase hfew hline rfl (thn (ho.run pins s σ H _ I h) fun v s1 ⟨x, H1, I1, r1, ty, q1⟩ => ?_)
  obtain ⟨h1, h2⟩ := fzV_is I1 r1 ty
  refine ⟨"tuple", id, pa, slot, hty, h1, h2, ?_⟩
  have hA := ha.run cpos pins s1 σ H1 _ I1 q1
  rw [hs] at hA ⊢
  refine Calls.callWith_builtin (by show (false || (backTo cpos (starEach es X.env)).any (·.1)) = false; rw [hplain] <;> rfl) (Calls.evalArgs_plain ?_)
  exact thn hA fun us s2 ⟨vs, H2, I2, r2, q2⟩ => hm pins s2 σ H2 x vs v us Q I2 r1 r2 q2
end
end KX

set_option Elab.async false
set_option linter.all false
set_option maxRecDepth 100000
set_option maxHeartbeats 1000000
/-! ### readings that change nothing; fractions, shares, pipes -/
namespace KP
open PySem PySem.Spec PyProof.Rows L2 KX
def Vi (t : TE) (σ : L2.St) (H : Hp) (v : V) : Prop := ∀ Q : VK, Q v H → t σ H Q
def Ti (t : TT) (σ : L2.St) (H : Hp) (b : Bool) : Prop := ∀ Q : Bool → Hp → Prop, Q b H → t σ H Q
def Ai (t : TA) (σ : L2.St) (H : Hp) (vs : List V) : Prop := ∀ Q : List V → Hp → Prop, Q vs H → t σ H Q
section
variable {K : PySem.W.Frag} {σ : L2.St} {H : Hp}
theorem vi_var {i : Nat} {v : V} (h : σ[i]? = some (some v)) : Vi (tVar i) σ H v := fun _ q => ⟨v, h, q⟩
theorem vi_c {v : V} : Vi (tC v) σ H v := fun _ q => q
theorem ai_nil : Ai tNil σ H [] := fun _ q => q
theorem ai_cons {te : TE} {ta : TA} {v : V} {vs : List V} (h : Vi te σ H v) (h2 : Ai ta σ H vs) : Ai (tCons te ta) σ H (v :: vs) := fun _ q => h _ (h2 _ q)
theorem vi_op {r : R2} {ta tb : TE} {x y v : V} (ha : Vi ta σ H x) (hb : Vi tb σ H y) (hr : ∀ Q : VK, Q v H → r x y H Q) : Vi (tOp r ta tb) σ H v := fun Q q => ha _ (hb _ (hr Q q))
theorem vi_cb {r : List V → Hp → VK → Prop} {t : TA} {vs : List V} {v : V} (ha : Ai t σ H vs) (hr : ∀ Q : VK, Q v H → r vs H Q) : Vi (tCB r t) σ H v := fun Q q => ha _ (hr Q q)
theorem vi_call {sp : Sp} {E : XK} {t : TA} {vs : List V} {v : V} (ha : Ai t σ H vs) (hr : ∀ Q : VK, Q v H → sp vs H Q E) : Vi (tCall sp [] E t) σ H v := fun Q q => ha _ (by rw [List.append_nil]; exact hr Q q)
theorem ti_test {te : TE} {b : Bool} (h : Vi te σ H (.bl b)) : Ti (tTest te) σ H b := fun Q q => h _ ⟨b, rfl, q⟩
theorem ti_val {te : TE} {b : Bool} (h : Vi te σ H (.bl b)) : Ti (tB te) σ H b := fun Q q => h _ ⟨b, rfl, q⟩
theorem ti_or {t u : TT} {a b : Bool} (h : Ti t σ H a) (h2 : a = false → Ti u σ H b) : Ti (tOr t u) σ H (a || b) := fun Q q => h _ (by
  cases a with
  | true => rw [if_pos rfl]; simpa using q
  | false => rw [if_neg Bool.false_ne_true]; exact h2 rfl _ (by simpa using q))
theorem ti_not {t : TT} {a : Bool} (h : Ti t σ H a) : Ti (tNot t) σ H (!a) := fun Q q => h _ q
theorem vi_and {ta tb : TE} {a b : Bool} (h : Vi ta σ H (.bl a)) (h2 : a = true → Vi tb σ H (.bl b)) : Vi (tAndV ta tb) σ H (.bl (a && b)) := fun Q q => h _ ⟨a, rfl, by
  cases a with
  | true => rw [if_pos rfl]; exact h2 rfl _ (by simpa using q)
  | false => rw [if_neg Bool.false_ne_true]; simpa using q⟩
theorem vi_or {ta tb : TE} {a b : Bool} (h : Vi ta σ H (.bl a)) (h2 : a = false → Vi tb σ H (.bl b)) : Vi (tOrV ta tb) σ H (.bl (a || b)) := fun Q q => h _ ⟨a, rfl, by
  cases a with
  | true => rw [if_pos rfl]; simpa using q
  | false => rw [if_neg Bool.false_ne_true]; exact h2 rfl _ (by simpa using q)⟩
theorem i_if {t : TT} {tu tw : TS} {b : Bool} {D : Ends} (h : Ti t σ H b) (h1 : b = true → tu D σ H) (h2 : b = false → tw D σ H) : tIfS t tu tw D σ H := h _ (by
  cases b with
  | true => rw [if_pos rfl]; exact h1 rfl
  | false => rw [if_neg Bool.false_ne_true]; exact h2 rfl)
theorem i_ret {te : TE} {v : V} {D : Ends} (h : Vi te σ H v) (k : D.rt v H) : tRet te D σ H := h _ k
/-- if test: return False -/
theorem i_guard {t : TT} {tz : TS} {b : Bool} {D : Ends} (h : Ti t σ H b) (h1 : b = true → D.rt (.bl false) H) (h2 : b = false → tz D σ H) : tSeq (tIfS t (tRet (tC (.bl false))) tNext) tz D σ H :=
  i_if (D := { D with nx := tz D }) h (fun z => i_ret vi_c (h1 z)) h2
theorem vi_type {K : PySem.W.Frag} {t : TA} {x : V} {d : PyData} (ha : Ai t σ H [x]) (h : Th H x d) : Vi (tCB (rTyp K) t) σ H (.ty (tyN d)) := vi_cb ha fun Q q => ⟨x, _, rfl, h.ty, q⟩
theorem ti_notTup {K : PySem.W.Frag} {te : TE} {x : V} {d : PyData} (ha : Vi te σ H x) (h : Th H x d) : Ti (tTest (tOp rNT (tCB (rTyp K) (tCons te tNil)) (tC (.ty "tuple")))) σ H (!decide (tyN d = "tuple")) :=
  ti_test (vi_op (vi_type (ai_cons ha ai_nil) h) vi_c fun Q q => ⟨_, _, rfl, rfl, q⟩)
end
def lenT : PyData → Nat
  | .tuple ds => ds.length
  | _ => 0
theorem all2 {H : Hp} {xs : List V} {ds : List PyData} (h : ThAll H xs ds) : xs.length = ds.length := by
  induction ds generalizing xs with
  | nil => cases h; rfl
  | cons d ds ih => cases h with | cons a b => rw [List.length_cons, List.length_cons, ih b]
def rLen (K : PySem.W.Frag) : List V → Hp → VK → Prop := fun xs H Q => ∃ p ys, xs = [.ref p] ∧ (SqL K H p ys ∨ SqT K H p ys) ∧ Q (.int ys.length) H
section
variable {K : PySem.W.Frag} {σ : L2.St} {H : Hp}
theorem tupOf {x : V} {d : PyData} (h : Th H x d) (z : tyN d = "tuple") : ∃ a xs ds, x = .ref a ∧ d = .tuple ds ∧ Rd H a (.tup xs) ∧ ThAll H xs ds := by
  cases h with
  | tup' e ha => exact ⟨_, _, _, rfl, rfl, e, ha⟩
  | _ => exact absurd z (by simp [tyN])
theorem vi_lenT {t : TA} {x : V} {d : PyData} (ha : Ai t σ H [x]) (h : Th H x d) (z : tyN d = "tuple") : Vi (tCB (rLen K) t) σ H (.int (lenT d)) := vi_cb ha fun Q q => by
  obtain ⟨a, xs, ds, rfl, rfl, e, hl⟩ := tupOf h z
  exact ⟨a, xs, rfl, .inr (SqT.of e), by rw [all2 hl]; exact q⟩
/-- the shape that is asked first -/
def shp (n : Nat) (d : PyData) : Bool := decide (tyN d = "tuple") && decide (lenT d = n)
theorem int_dec (a b : Nat) : decide ((V.int (a : Int)) = .int (b : Int)) = decide (a = b) := by
  rw [Bool.eq_iff_iff, decide_eq_true_eq, decide_eq_true_eq]
  constructor
  · intro y
    have := V.int.inj y
    omega
  · intro y
    rw [y]
theorem ti_shape {te : TE} {x : V} {d : PyData} {n : Nat} {m : Int} (hm : m = (n : Int)) (ha : Vi te σ H x) (h : Th H x d) :
    Ti (tOr (tTest (tOp rNT (tCB (rTyp K) (tCons te tNil)) (tC (.ty "tuple")))) (tTest (tOp rNe (tCB (rLen K) (tCons te tNil)) (tC (.int m))))) σ H (!shp n d) := by
  subst hm
  have e : (!shp n d) = ((!decide (tyN d = "tuple")) || !decide (lenT d = n)) := by unfold shp; rw [Bool.not_and]
  rw [e]
  refine ti_or (ti_notTup ha h) fun z => ti_test (vi_op (vi_lenT (ai_cons ha ai_nil) h (by simpa using z)) vi_c fun Q q => ⟨rfl, ?_⟩)
  rw [int_dec]
  exact q
theorem shp_of {x : V} {d : PyData} {n : Nat} (h : Th H x d) (z : (!shp n d) = false) : ∃ a xs ds, x = .ref a ∧ d = .tuple ds ∧ Rd H a (.tup xs) ∧ ThAll H xs ds ∧ ds.length = n := by
  have z : shp n d = true := by simpa using z
  unfold shp at z
  rw [Bool.and_eq_true, decide_eq_true_eq, decide_eq_true_eq] at z
  obtain ⟨a, xs, ds, e1, rfl, e2, hl⟩ := tupOf h z.1
  exact ⟨a, xs, ds, e1, rfl, e2, hl, z.2⟩
theorem not_shp {d : PyData} {n : Nat} (z : (!shp n d) = true) : ∀ ds, d = .tuple ds → ds.length ≠ n := by
  rintro ds rfl e
  simp [shp, tyN, lenT, e] at z
end
def ith (i : Nat) : PyData → PyData
  | .tuple ds => ds.getD i .none
  | _ => .none
def ratio2 : PyData → PyData → Bool
  | .int a, .int b => decide (0 < b) && decide (Nat.gcd a.natAbs b.natAbs = 1)
  | _, _ => false
def isR (d : PyData) : Bool := shp 2 d && ratio2 (ith 0 d) (ith 1 d)
def small2 : PyData → PyData → Bool
  | .int a, .int b => decide ((if a < 0 then -a else a) ≤ 999) && decide (b ≤ 999)
  | _, _ => false
def isTold (d : PyData) : Bool := isR d && small2 (ith 0 d) (ith 1 d)
def isX : PyData → Bool
  | .str s => decide (s = "x")
  | _ => false
def isShare (u : Int) (d : PyData) : Bool := shp 2 d && (if tyN (ith 0 d) = "str" then isX (ith 0 d) && isW (ith 1 d) 0 (u - 1) else isTold d)
def eqI : PyData → PyData → Bool
  | .int i, .int j => decide (i = j)
  | _, _ => false
def isNon : PyData → Bool
  | .none => true
  | _ => false
def isPipe (m u : Int) (d : PyData) : Bool := shp 3 d && (!(!isW (ith 0 d) 0 (m - 1) || !isShare u (ith 2 d)) && (isNon (ith 1 d) || (isW (ith 1 d) 0 (m - 1) && !eqI (ith 1 d) (ith 0 d))))
theorem len2 {α : Type} {l : List α} (h : l.length = 2) : ∃ a b, l = [a, b] := by
  match l, h with
  | [a, b], _ => exact ⟨a, b, rfl⟩
theorem len3 {α : Type} {l : List α} (h : l.length = 3) : ∃ a b c, l = [a, b, c] := by
  match l, h with
  | [a, b, c], _ => exact ⟨a, b, c, rfl⟩
theorem len5 {α : Type} {l : List α} (h : l.length = 5) : ∃ a b c d e, l = [a, b, c, d, e] := by
  match l, h with
  | [a, b, c, d, e], _ => exact ⟨a, b, c, d, e, rfl⟩
def spIs (p : PyData → Bool) : Sp := fun vs H Q _ => ∃ x d, vs = [x] ∧ Th H x d ∧ Q (.bl (p d)) H
section
variable {P : Program} {w : World} {K : PySem.W.Frag} {mg : Str → Option Value} {base : Heap}
theorem scRatio : FnScope ["value", "above", "below"] ["value"] (defScope sRatio) := ⟨rfl, rfl, rfl, by decide +kernel, rfl, by decide +kernel, by decide +kernel⟩
theorem ok_ratio {f fW : Addr} {fd fdW : FuncData} (F : Fun K "is_ratio" "is_ratio" sRatio f fd) (T : TxT mg) (mG : mg "gcd" = some (.builtin "math.gcd")) (FW : FnOk P w K mg base CX0 1 fW fdW ["value"] spWhole) (mW : mg "is_whole" = some (.ref fW)) (kW : PySem.W.keepIn K (.ref fW) = true) (bW : Binds K fdW ["value"] []) :
    FnOk P w K mg base CX0 2 f fd ["value"] (spIs isR) := by
  refine F.ok scRatio (fun vs H Q E h => ?_) (fun cdv A outer s H vs Q E hr h => ?_)
  · obtain ⟨x, d, rfl, _⟩ := h
    rfl
  · obtain ⟨x, d, rfl, hx, k⟩ := h
    refine ⟨_, pss_cons (ps_if (pw_or (pt_cmpR op_notTyB (pe_callTy call_type1 (by rfl) T.type (by decide +kernel) (pa_cons (pv 0) pa_nil)) (pe_bltn (v := .ty "tuple") (by rfl) T.tuple (by decide +kernel) rfl) (nomark _))
        (pw_or1 (pt_cmpR op_ne (pe_callB call_len_seq (by rfl) T.len PySem.boot_len (pa_cons (pv 0) pa_nil)) pe_int (nomark _)))).pt (pss_one (ps_ret pe_bl)) pss_nil)
      (pss_cons (ps_asg (pv 0) (pg_tup rfl (pgs_cons (pg_name (i := 1) scRatio.nd rfl (Or.inl rfl)) (pgs_cons (pg_name (i := 2) scRatio.nd rfl (Or.inl rfl)) pgs_nil))))
      (pss_one (ps_ret (pe_and (pe_call FW hr rfl mW kW bW .nil pass0 (pa_cons (pv 1) pa_nil)) (pe_and (pe_call FW hr rfl mW kW bW .nil pass0 (pa_cons (pv 2) pa_nil)) (pe_and (pe_cmpR op_gt (pv 2) pe_int (nomark _)) (pe_one (pe_cmpR op_eq (pe_callBfun cr_gcd (by rfl) mG (pa_cons (pv 1) (pa_cons (pv 2) pa_nil))) pe_int (nomark _))))))))), ?_⟩
    refine i_guard (ti_shape rfl (vi_var rfl) hx) (fun z => ?_) (fun z => ?_)
    · have e : isR d = false := by
        have z : shp 2 d = false := by simpa using z
        simp [isR, z]
      rw [e] at k
      exact k
    · obtain ⟨a, xs, ds, rfl, rfl, e, ha, l2⟩ := shp_of hx z
      obtain ⟨d1, d2, rfl⟩ := len2 l2
      cases ha with
      | cons h1 hr1 => cases hr1 with
          | cons h2 hr2 =>
            cases hr2
            refine ⟨_, rfl, a, _, rfl, SqT.of e, rfl, _, _, rfl, _, _, rfl, rfl, ?_⟩
            have e9 : isR (.tuple [d1, d2]) = (isI d1 && (isI d2 && ratio2 d1 d2)) := by cases d1 <;> cases d2 <;> simp [isI, isR, shp, ith, ratio2, tyN, lenT]
            rw [e9] at k
            dsimp only
            refine i_ret (v := .bl (isI d1 && (isI d2 && ratio2 d1 d2))) ?_ k
            refine vi_and (vi_call (ai_cons (vi_var rfl) ai_nil) fun Q q => ⟨_, _, rfl, h1, q⟩) fun c1 => ?_
            refine vi_and (vi_call (ai_cons (vi_var rfl) ai_nil) fun Q q => ⟨_, _, rfl, h2, q⟩) fun c2 => ?_
            cases h1 with
            | int i1 => cases h2 with
              | int i2 =>
                refine vi_and (vi_op (vi_var rfl) vi_c fun Q q => ⟨_, _, rfl, rfl, q⟩) fun c3 => ?_
                refine vi_op (vi_cb (v := .int ((Nat.gcd i1.natAbs i2.natAbs : Nat) : Int)) (ai_cons (vi_var rfl) (ai_cons (vi_var rfl) ai_nil)) fun Q q => ⟨_, _, rfl, q⟩) vi_c (fun Q q => ⟨rfl, ?_⟩)
                rw [show (V.int 1) = V.int ((1 : Nat) : Int) from rfl, int_dec]
                exact q
              | _ => simp [isI] at c2
            | _ => simp [isI] at c1
end
end KP

set_option Elab.async false
set_option linter.all false
set_option maxRecDepth 100000
set_option maxHeartbeats 1000000
/-! ### told fractions, shares, pipes -/
namespace KP
open PySem PySem.Spec PyProof.Rows L2 KX
theorem ratio_of {H : Hp} {x : V} {d : PyData} (h : Th H x d) (z : isR d = true) : ∃ a i j, x = .ref a ∧ d = .tuple [.int i, .int j] ∧ Rd H a (.tup [.int i, .int j]) := by
  unfold isR at z
  rw [Bool.and_eq_true] at z
  obtain ⟨a, xs, ds, rfl, rfl, e, ha, l2⟩ := shp_of h (by rw [z.1]; rfl)
  obtain ⟨d1, d2, rfl⟩ := len2 l2
  have z2 : ratio2 d1 d2 = true := z.2
  cases ha with
  | cons h1 hr1 => cases hr1 with
    | cons h2 hr2 =>
      cases hr2
      cases h1 with
      | int i => cases h2 with
        | int j => exact ⟨a, i, j, rfl, rfl, e⟩
        | _ => simp [ratio2] at z2
      | _ => cases h2 <;> simp [ratio2] at z2
theorem isW_int {x : V} {H : Hp} {d : PyData} {lo hi : Int} (h : Th H x d) (z : isW d lo hi = true) : ∃ i, x = .int i ∧ d = .int i := by
  cases h with
  | int i => exact ⟨i, rfl, rfl⟩
  | _ => simp [isW] at z
def spShare : Sp := fun vs H Q _ => ∃ x d u, vs = [x, .int u] ∧ Th H x d ∧ Q (.bl (isShare u d)) H
def spPipe : Sp := fun vs H Q _ => ∃ x d m u, vs = [x, .int m, .int u] ∧ Th H x d ∧ Q (.bl (isPipe m u d)) H
theorem spWithin_at {x : V} {d : PyData} {lo hi : Int} {H : Hp} {Q : VK} {E : XK} (h : Th H x d) (q : Q (.bl (isW d lo hi)) H) : spWithin [x, .int lo, .int hi] H Q E := ⟨x, d, lo, hi, rfl, h, q⟩
section
variable {P : Program} {w : World} {K : PySem.W.Frag} {mg : Str → Option Value} {base : Heap}
theorem scTold : FnScope ["value"] ["value"] (defScope sTold) := ⟨rfl, rfl, rfl, by decide +kernel, rfl, by decide +kernel, by decide +kernel⟩
theorem ok_told {f fR : Addr} {fd fdR : FuncData} {uB : Value} (F : Fun K "is_told" "is_told" sTold f fd) (T : TxT mg) (mB : mg "TOLD_BOUND" = some uB) (rB : RelV (.int 999) uB) (FR : FnOk P w K mg base CX0 2 fR fdR ["value"] (spIs isR)) (mR : mg "is_ratio" = some (.ref fR)) (kR : PySem.W.keepIn K (.ref fR) = true) (bR : Binds K fdR ["value"] []) :
    FnOk P w K mg base CX0 3 f fd ["value"] (spIs isTold) := by
  refine F.ok scTold (fun vs H Q E h => ?_) (fun cdv A outer s H vs Q E hr h => ?_)
  · obtain ⟨x, d, rfl, _⟩ := h
    rfl
  · obtain ⟨x, d, rfl, hx, k⟩ := h
    refine ⟨_, pss_one (ps_ret (pe_and (pe_call FR hr rfl mR kR bR .nil pass0 (pa_cons (pv 0) pa_nil)) (pe_and (pe_cmpR op_le (pe_callB call_abs (by rfl) T.abs (by decide +kernel) (pa_cons (pe_ix ix_seq (pv 0) pe_int (fun _ _ => rfl)) pa_nil)) (pe_glob (by rfl) mB rB) (nomark _))
      (pe_one (pe_cmpR op_le (pe_ix ix_seq (pv 0) pe_int (fun _ _ => rfl)) (pe_glob (by rfl) mB rB) (nomark _)))))), ?_⟩
    refine i_ret (D := { nx := fun _ H' => Q .non H', rt := Q }) (v := .bl (isR d && small2 (ith 0 d) (ith 1 d))) ?_ k
    refine vi_and (vi_call (ai_cons (vi_var rfl) ai_nil) fun Q q => ⟨_, _, rfl, hx, q⟩) fun c1 => ?_
    obtain ⟨a, i, j, rfl, rfl, e⟩ := ratio_of hx c1
    have x0 : ∀ {c : Int} {v : V}, atI [V.int i, V.int j] c = some v → Vi (tOp (rIx K) (tVar 0) (tC (.int c))) (L2.start ["value"] [V.ref a]) H v := fun {c v} h => vi_op (vi_var rfl) vi_c fun Q q => .inr (.inl ⟨a, _, c, v, rfl, rfl, SqT.of e, h, q⟩)
    refine vi_and (vi_op (vi_cb (ai_cons (x0 rfl) ai_nil) fun Q q => ⟨i, rfl, q⟩) vi_c fun Q q => ⟨_, _, rfl, rfl, q⟩) fun c2 => ?_
    exact vi_op (x0 rfl) vi_c fun Q q => ⟨_, _, rfl, rfl, q⟩
theorem scShare : FnScope ["share", "unknowns", "mark", "unknown"] ["share", "unknowns"] (defScope sShare) := ⟨rfl, rfl, rfl, by decide +kernel, rfl, by decide +kernel, by decide +kernel⟩
theorem ok_share {f fI fD : Addr} {fd fdI fdD : FuncData} (F : Fun K "_is_share" "_is_share" sShare f fd) (T : TxT mg) (FI : FnOk P w K mg base CX0 2 fI fdI ["value", "least", "most"] spWithin) (mI : mg "is_within" = some (.ref fI)) (kI : PySem.W.keepIn K (.ref fI) = true) (bI : Binds K fdI ["value", "least", "most"] [])
    (FD : FnOk P w K mg base CX0 3 fD fdD ["value"] (spIs isTold)) (mD : mg "is_told" = some (.ref fD)) (kD : PySem.W.keepIn K (.ref fD) = true) (bD : Binds K fdD ["value"] []) :
    FnOk P w K mg base CX0 4 f fd ["share", "unknowns"] spShare := by
  refine F.ok scShare (fun vs H Q E h => ?_) (fun cdv A outer s H vs Q E hr h => ?_)
  · obtain ⟨x, d, u, rfl, _⟩ := h
    rfl
  · obtain ⟨x, d, u, rfl, hx, k⟩ := h
    have hr2 : Room 2 _ := hr.mono (by decide)
    refine ⟨_, pss_cons (ps_if (pw_or (pt_cmpR op_notTyB (pe_callTy call_type1 (by rfl) T.type (by decide +kernel) (pa_cons (pv 0) pa_nil)) (pe_bltn (v := .ty "tuple") (by rfl) T.tuple (by decide +kernel) rfl) (nomark _))
        (pw_or1 (pt_cmpR op_ne (pe_callB call_len_seq (by rfl) T.len PySem.boot_len (pa_cons (pv 0) pa_nil)) pe_int (nomark _)))).pt (pss_one (ps_ret pe_bl)) pss_nil)
      (pss_cons (ps_asg (pv 0) (pg_tup rfl (pgs_cons (pg_name (i := 2) scShare.nd rfl (Or.inl rfl)) (pgs_cons (pg_name (i := 3) scShare.nd rfl (Or.inl rfl)) pgs_nil))))
      (pss_cons (ps_if (pt_cmpR op_isTyB (pe_callTy call_type1 (by rfl) T.type (by decide +kernel) (pa_cons (pv 2) pa_nil)) (pe_bltn (v := .ty "str") (by rfl) T.str (by decide +kernel) rfl) (nomark _))
        (pss_one (ps_ret (pe_and (pe_cmpR op_eq (pv 2) pe_str (nomark _)) (pe_one (pe_call FI hr2 rfl mI kI bI .nil pass0 (pa_cons (pv 3) (pa_cons pe_int (pa_cons (pe_op op_sub (pv 1) pe_int) pa_nil)))))))) pss_nil)
      (pss_one (ps_ret (pe_call FD hr rfl mD kD bD .nil pass0 (pa_cons (pv 0) pa_nil)))))), ?_⟩
    refine i_guard (ti_shape rfl (vi_var rfl) hx) (fun z => ?_) (fun z => ?_)
    · have z : shp 2 d = false := by simpa using z
      have e : isShare u d = false := by simp [isShare, z]
      rw [e] at k
      exact k
    · have hx0 := hx
      have z0 : shp 2 d = true := by simpa using z
      obtain ⟨a, xs, ds, rfl, rfl, e, ha, l2⟩ := shp_of hx z
      obtain ⟨d1, d2, rfl⟩ := len2 l2
      cases ha with
      | cons h1 hr1 => cases hr1 with
        | cons h2 hr2 =>
          cases hr2
          refine ⟨_, rfl, a, _, rfl, SqT.of e, rfl, _, _, rfl, _, _, rfl, rfl, ?_⟩
          have e8 : isShare u (.tuple [d1, d2]) = if tyN d1 = "str" then isX d1 && isW d2 0 (u - 1) else isTold (.tuple [d1, d2]) := by
            unfold isShare
            rw [z0, Bool.true_and]
            rfl
          rw [e8] at k
          dsimp only
          refine i_if (D := { nx := _, rt := Q }) (ti_test (vi_op (vi_type (ai_cons (vi_var rfl) ai_nil) h1) vi_c fun Q q => ⟨_, _, rfl, rfl, q⟩)) (fun c => ?_) (fun c => ?_)
          · have c : tyN d1 = "str" := of_decide_eq_true c
            rw [if_pos c] at k
            cases h1 with
            | str s =>
              refine i_ret (D := { nx := _, rt := Q }) (v := .bl (isX (.str s) && isW d2 0 (u - 1))) ?_ k
              refine vi_and (vi_op (vi_var rfl) vi_c fun Q q => ⟨rfl, ?_⟩) fun c1 => ?_
              · have e7 : decide (V.str s = V.str "x") = isX (.str s) := by simp [isX]
                rw [e7]
                exact q
              · exact vi_call (ai_cons (vi_var rfl) (ai_cons vi_c (ai_cons (vi_op (vi_var rfl) vi_c fun Q q => ⟨_, _, rfl, rfl, q⟩) ai_nil))) fun Q q => spWithin_at h2 q
            | _ => exact absurd c (by simp [tyN])
          · have c : ¬ tyN d1 = "str" := of_decide_eq_false c
            rw [if_neg c] at k
            refine i_ret (D := { nx := _, rt := Q }) (v := .bl (isTold (.tuple [d1, d2]))) (vi_call (ai_cons (vi_var rfl) ai_nil) fun Q q => ⟨_, _, rfl, hx0, q⟩) k
end
end KP

set_option Elab.async false
set_option linter.all false
set_option maxRecDepth 100000
set_option maxHeartbeats 1000000
/-! ### pipes -/
namespace KP
open PySem PySem.Spec PyProof.Rows L2 KX
section
variable {P : Program} {w : World} {K : PySem.W.Frag} {mg : Str → Option Value} {base : Heap}
theorem isNon_dec {x : V} {H : Hp} {d : PyData} (h : Th H x d) : decide (x = .non) = isNon d := by cases h <;> simp [isNon]
theorem scPipe : FnScope ["pipe", "many", "unknowns", "start", "end", "share"] ["pipe", "many", "unknowns"] (defScope sPipe) := ⟨rfl, rfl, rfl, by decide +kernel, rfl, by decide +kernel, by decide +kernel⟩
theorem ok_pipe {f fI fS : Addr} {fd fdI fdS : FuncData} (F : Fun K "_is_pipe" "_is_pipe" sPipe f fd) (T : TxT mg) (FI : FnOk P w K mg base CX0 2 fI fdI ["value", "least", "most"] spWithin) (mI : mg "is_within" = some (.ref fI)) (kI : PySem.W.keepIn K (.ref fI) = true) (bI : Binds K fdI ["value", "least", "most"] [])
    (FS : FnOk P w K mg base CX0 4 fS fdS ["share", "unknowns"] spShare) (mS : mg "_is_share" = some (.ref fS)) (kS : PySem.W.keepIn K (.ref fS) = true) (bS : Binds K fdS ["share", "unknowns"] []) :
    FnOk P w K mg base CX0 5 f fd ["pipe", "many", "unknowns"] spPipe := by
  refine F.ok scPipe (fun vs H Q E h => ?_) (fun cdv A outer s H vs Q E hr h => ?_)
  · obtain ⟨x, d, m, u, rfl, _⟩ := h
    rfl
  · obtain ⟨x, d, m, u, rfl, hx, k⟩ := h
    have hr2 : Room 2 _ := hr.mono (by decide)
    refine ⟨_, pss_cons (ps_if (pw_or (pt_cmpR op_notTyB (pe_callTy call_type1 (by rfl) T.type (by decide +kernel) (pa_cons (pv 0) pa_nil)) (pe_bltn (v := .ty "tuple") (by rfl) T.tuple (by decide +kernel) rfl) (nomark _))
        (pw_or1 (pt_cmpR op_ne (pe_callB call_len_seq (by rfl) T.len PySem.boot_len (pa_cons (pv 0) pa_nil)) pe_int (nomark _)))).pt (pss_one (ps_ret pe_bl)) pss_nil)
      (pss_cons (ps_asg (pv 0) (pg_tup rfl (pgs_cons (pg_name (i := 3) scPipe.nd rfl (Or.inl rfl)) (pgs_cons (pg_name (i := 4) scPipe.nd rfl (Or.inl rfl)) (pgs_cons (pg_name (i := 5) scPipe.nd rfl (Or.inl rfl)) pgs_nil)))))
      (pss_cons (ps_if (pw_or (pt_not (pt_val (pe_call FI hr2 (by rfl) mI kI bI .nil pass0 (pa_cons (pv 3) (pa_cons pe_int (pa_cons (pe_op op_sub (pv 1) pe_int) pa_nil))))))
          (pw_or1 (pt_not (pt_val (pe_call FS hr (by rfl) mS kS bS .nil pass0 (pa_cons (pv 5) (pa_cons (pv 2) pa_nil))))))).pt (pss_one (ps_ret pe_bl)) pss_nil)
      (pss_one (ps_ret (pe_or (pe_cmpR op_isN (pv 4) pe_non (nomark _)) (pe_one (pe_and (pe_call FI hr2 (by rfl) mI kI bI .nil pass0 (pa_cons (pv 4) (pa_cons pe_int (pa_cons (pe_op op_sub (pv 1) pe_int) pa_nil)))) (pe_one (pe_cmpR op_ne (pv 4) (pv 3) (nomark _)))))))))), ?_⟩
    refine i_guard (ti_shape rfl (vi_var rfl) hx) (fun z => ?_) (fun z => ?_)
    · have z : shp 3 d = false := by simpa using z
      have e : isPipe m u d = false := by simp [isPipe, z]
      rw [e] at k
      exact k
    · have z0 : shp 3 d = true := by simpa using z
      obtain ⟨a, xs, ds, rfl, rfl, e, ha, l2⟩ := shp_of hx z
      obtain ⟨d1, d2, d3, rfl⟩ := len3 l2
      cases ha with
      | cons h1 hr1 => cases hr1 with
        | cons h2 hr2' => cases hr2' with
          | cons h3 hr3 =>
            cases hr3
            refine ⟨_, rfl, a, _, rfl, SqT.of e, rfl, _, _, rfl, _, _, rfl, _, _, rfl, rfl, ?_⟩
            have e8 : isPipe m u (.tuple [d1, d2, d3]) = (!(!isW d1 0 (m - 1) || !isShare u d3) && (isNon d2 || (isW d2 0 (m - 1) && !eqI d2 d1))) := by
              unfold isPipe
              rw [z0, Bool.true_and]
              rfl
            rw [e8] at k
            dsimp only
            refine i_guard (D := { nx := _, rt := Q }) (ti_or (ti_not (ti_val (vi_call (ai_cons (vi_var rfl) (ai_cons vi_c (ai_cons (vi_op (vi_var rfl) vi_c fun Q q => ⟨_, _, rfl, rfl, q⟩) ai_nil))) fun Q q => spWithin_at h1 q)))
              fun _ => ti_not (ti_val (vi_call (ai_cons (vi_var rfl) (ai_cons (vi_var rfl) ai_nil)) fun Q q => ⟨_, _, _, rfl, h3, q⟩))) (fun z => ?_) (fun z => ?_)
            · rw [z] at k
              exact k
            · rw [z] at k
              have zw : isW d1 0 (m - 1) = true := by
                rw [Bool.or_eq_false_iff] at z
                simpa using z.1
              refine i_ret (D := { nx := _, rt := Q }) (v := .bl (isNon d2 || (isW d2 0 (m - 1) && !eqI d2 d1))) ?_ (by simpa using k)
              refine vi_or (vi_op (vi_var rfl) vi_c fun Q q => ⟨rfl, ?_⟩) fun c1 => ?_
              · rw [isNon_dec h2]
                exact q
              · refine vi_and (vi_call (ai_cons (vi_var rfl) (ai_cons vi_c (ai_cons (vi_op (vi_var rfl) vi_c fun Q q => ⟨_, _, rfl, rfl, q⟩) ai_nil))) fun Q q => spWithin_at h2 q) fun c2 => ?_
                obtain ⟨i, rfl, rfl⟩ := isW_int h1 zw
                obtain ⟨j, rfl, rfl⟩ := isW_int h2 c2
                refine vi_op (vi_var rfl) (vi_var rfl) fun Q q => ⟨rfl, ?_⟩
                have e7 : decide (V.int j = V.int i) = eqI (.int j) (.int i) := by simp [eqI]
                rw [e7]
                exact q
end
end KP

set_option Elab.async false
set_option linter.all false
set_option maxRecDepth 100000
set_option maxHeartbeats 1000000
/-! ### defs with generator expressions: the reading of all(..) over a tuple -/
namespace KP
open PySem PySem.Spec PyProof.Rows L2 KX
/-- a def whose code object is known -/
structure FunC (K : PySem.W.Frag) (x qual : Str) (st : Stmt) (f : Addr) (fd : FuncData) (c : Addr) : Prop where
  ex : ∃ (oc : Value) (od : Option Addr) (kV doc pm : Value) (an : Option Addr) (ct : Value) (osl : Array (Option Value)),
    fd = PySem.W.fnOf x qual (defArgs st) (defBody st) (defScope st) .none kV doc pm an (.ref c) ct ∧ K.lookup f = some ⟨oc, od, .func fd, osl⟩ ∧ PySem.W.codeIn K (.ref c) qual = true
theorem FunC.ok {P : Program} {w : World} {K : PySem.W.Frag} {mg : Str → Option Value} {base : Heap} {x qual : Str} {st : Stmt} {f c : Addr} {fd : FuncData} {N ps : List Str} {k : Nat} {sp : Sp} (F : FunC K x qual st f fd c) (S : FnScope N ps (defScope st)) (len : ∀ {vs H Q E}, sp vs H Q E → vs.length = ps.length)
    (body : ∀ (A : Around) (outer : List Env) (s : Shared) (H : Hp) (vs : List V) (Q : VK) (E : XK), Room k (A.deeper (envOfC qual (defScope st) s.heap.objs.size f (.ref c))) → sp vs H Q E →
      ∃ t, PSs (cxOf CX0 P w K mg base N qual (defScope st) f (.ref c) A outer s H E).nox (defBody st) t ∧ t { nx := fun _ H' => Q .non H', rt := Q } (start N vs) H) : FnOk P w K mg base CX0 (k + 1) f fd ps sp := by
  obtain ⟨oc, od, kV, doc, pm, an, ct, osl, rfl, lk, hcd⟩ := F.ex
  exact fn_of lk hcd S (fun _ _ _ _ h => len h) fun A outer s H vs Q E hr hsp => let ⟨t, h, q⟩ := body A outer s H vs Q E hr hsp; ⟨t, h.nox, q⟩
theorem all_get {H : Hp} : ∀ {xs : List V} {ds : List PyData} {i : Nat} {x : V}, ThAll H xs ds → xs[i]? = some x → ∃ d, ds[i]? = some d ∧ Th H x d
  | _, _, 0, _, .cons h _, e => by
    cases e
    exact ⟨_, rfl, h⟩
  | _ :: _, _ :: _, _ + 1, _, .cons _ t, e => by
    obtain ⟨d, h1, h2⟩ := all_get t (show _ = _ from (List.getElem?_cons_succ ▸ e))
    exact ⟨d, by rw [List.getElem?_cons_succ]; exact h1, h2⟩
theorem ThAll.mono {H H' : Hp} (s : Sm H H') : ∀ {xs : List V} {ds : List PyData}, ThAll H xs ds → ThAll H' xs ds
  | _, _, .nil => .nil
  | _, _, .cons a b => .cons (a.mono s) (ThAll.mono s b)
/-- the tables stand -/
def Tbs (Ps : List Addr) (H : Hp) : Prop := ∀ P ∈ Ps, GxR.TabG H P
structure Grown (Ps : List Addr) (H H' : Hp) : Prop where
  sm : Sm H H'
  tbs : Tbs Ps H'
theorem Grown.trans {Ps : List Addr} {H H1 H2 : Hp} (a : Grown Ps H H1) (b : Grown Ps H1 H2) : Grown Ps H H2 := ⟨a.sm.trans b.sm, b.tbs⟩
theorem Grown.same {Ps : List Addr} {H H1 : Hp} (a : Same H H1) (t : Tbs Ps H) : Grown Ps H H1 := ⟨Sm.same a, fun P hP => let ⟨ps, e, k⟩ := t P hP; ⟨ps, a _ _ e, k⟩⟩
theorem Grown.tabbed {Ps : List Addr} {P : Addr} {H H1 : Hp} (a : GxR.Tabbed P H H1) (t : Tbs Ps H) (hP : P ∈ Ps) : Grown Ps H H1 := by
  obtain ⟨ps, e, _⟩ := t P hP
  refine ⟨fun b u eb n => ?_, fun R hR => ?_⟩
  · rw [a.2 b fun z => by rw [z, e] at eb; exact n ps (Option.some.inj eb).symm]
    exact eb
  · by_cases z : R = P
    · rw [z]; exact a.1
    · obtain ⟨qs, e2, k2⟩ := t R hR
      exact ⟨qs, (a.2 R z).trans e2, k2⟩
theorem all_vi {K : PySem.W.Frag} {Ps : List Addr} {P a : Addr} {i0 j : Nat} {te : TE} {vs : List Nat} {σ : L2.St} {H : Hp} {Q : VK} {xs : List V} {ds : List PyData} {pd : PyData → Bool} (h0 : σ[i0]? = some (some (.ref a))) (hx : Rd H a (.tup xs)) (hd : ThAll H xs ds) (ht : Tbs Ps H) (hP : P ∈ Ps)
    (hw : ∀ x : V, wipe ((wipe σ vs).set j (some x)) vs = wipe σ vs) (he : ∀ H2 x d, Th H2 x d → Vi te ((wipe σ vs).set j (some x)) H2 (.bl (pd d))) (q : ∀ H2, Grown Ps H H2 → Q (.bl (ds.all pd)) H2) : KG.tAllG P (iTup K (tVar i0)) (gName j) te vs σ H Q := by
  refine ⟨_, h0, a, rfl, ⟨xs, SqT.of hx⟩, ht P hP, fun H2 hT => ?_⟩
  have gr := Grown.tabbed hT ht hP
  have hx2 : Rd H2 a (.tup xs) := gr.sm.rd hx
  have hl := all2 hd
  refine ⟨fun i m H' => H' = H2 ∧ i ≤ xs.length ∧ m = xs.length - i ∧ (ds.take i).all pd = true, ⟨_, rfl, Nat.zero_le _, rfl, rfl⟩, ?_⟩
  rintro i m H' ⟨rfl, hi, rfl, hall⟩
  by_cases c : i < xs.length
  · refine .inr ⟨⟨xs, xs[i], SqT.of hx2, by simp [c]⟩, fun x H3 ⟨e, hy⟩ => ?_⟩
    subst e
    have hxi := hy xs (SqT.of hx2)
    obtain ⟨d, hdi, hth⟩ := all_get hd hxi
    refine ⟨hw x, he _ x d (hth.mono gr.sm) _ ?_⟩
    cases hp : pd d with
    | true =>
      refine .inl ⟨rfl, xs.length - (i + 1), by omega, rfl, c, rfl, ?_⟩
      rw [List.take_add_one, hdi, List.all_append, hall]
      simp [hp]
    | false =>
      refine .inr ⟨rfl, ?_⟩
      have e : ds.all pd = false := by
        rw [Bool.eq_false_iff]
        intro z
        have := List.all_eq_true.mp z d (List.mem_of_getElem? hdi)
        rw [hp] at this
        cases this
      rw [← e]
      exact q _ gr
  · refine .inl ⟨⟨xs, SqT.of hx2, by omega⟩, ?_⟩
    have e : ds.take i = ds := List.take_of_length_le (by omega)
    rw [e] at hall
    rw [← hall]
    exact q _ gr
end KP

set_option Elab.async false
set_option linter.all false
set_option maxRecDepth 100000
set_option maxHeartbeats 1000000
/-! ### tanks -/
namespace KP
open PySem PySem.Spec PyProof.Rows L2 KX
def itms : PyData → List PyData
  | .tuple ds => ds
  | _ => []
def ltI : PyData → PyData → Bool
  | .int i, .int j => decide (i < j)
  | _, _ => false
def ascB (ds : List PyData) : Bool := (List.range (ds.length - 1)).all fun i => ltI (ds.getD i .none) (ds.getD (i + 1) .none)
def areT (m : Int) (d : PyData) : Bool := decide (tyN d = "tuple") && (decide (1 ≤ (lenT d : Int)) && decide ((lenT d : Int) ≤ m)) && ((itms d).all (fun e => isW e 0 (m - 1)) && ascB (itms d))
def spTanks (Ps : List Addr) : Sp := fun vs H Q _ => ∃ x d m, vs = [x, .int m] ∧ Th H x d ∧ Tbs Ps H ∧ m ≤ 1000 ∧ ∀ H', Grown Ps H H' → Q (.bl (areT m d)) H'
theorem walk_zipT {K : PySem.W.Frag} {a b : Addr} {xs ys : List V} {n : Nat} (hn : n = min xs.length ys.length) : Walk (RZ.ItzT K a b) n (fun H => SqT K H a xs ∧ SqT K H b ys) (YPair (fun i => xs[i]?) (fun i => ys[i]?)) := by
  subst hn
  refine ⟨fun i H hi q => ?_, fun H q => ⟨xs, ys, q.1, q.2, by omega⟩, fun i H v H' _ q y => ?_⟩
  · exact ⟨xs, ys, xs[i]'(by omega), ys[i]'(by omega), q.1, q.2, List.getElem?_eq_getElem _, List.getElem?_eq_getElem _⟩
  · obtain ⟨T, x, z, h1, h2, h3, h4, h5⟩ := y
    exact ⟨T, x, z, h1, h2, h3, h4 _ (q.1), h5 _ (q.2)⟩
theorem i_guardE {te : TE} {tz : TS} {D : Ends} {σ : L2.St} {H : Hp} (h : te σ H (fun x H1 => ∃ c, x = .bl c ∧ (if (!c) = true then D.rt (.bl false) H1 else tz D σ H1))) : tSeq (tIfS (tNot (tB te)) (tRet (tC (.bl false))) tNext) tz D σ H := h
theorem vi_chain {σ : L2.St} {H : Hp} {r r' : R2} {ta tb tc : TE} {x y z : V} {a b : Bool} (ha : Vi ta σ H x) (hb : Vi tb σ H y) (h1 : ∀ Q : VK, Q (.bl a) H → r x y H Q) (hc : a = true → Vi tc σ H z) (h2 : a = true → ∀ Q : VK, Q (.bl b) H → r' y z H Q) : Vi (tChain r r' ta tb tc) σ H (.bl (a && b)) :=
  fun Q q => ha _ (hb _ (h1 _ ⟨a, rfl, by
    cases a with
    | true => rw [if_pos rfl]; exact hc rfl _ (h2 rfl _ (by simpa using q))
    | false => rw [if_neg Bool.false_ne_true]; simpa using q⟩))
theorem same_upd {H : Hp} {p : Addr} {o : HO} (hp : H p = none) : Same H (upd H p o) := fun b u e => by
  rw [upd_ne (ne_of_none e hp)]
  exact e
theorem sIx_one {n : Nat} (h : 1 ≤ n) : HT.sIx n 0 (some 1) = 1 := by
  have := HT.sIx_nat n 0 1
  rw [Nat.min_eq_left h] at this
  exact this
theorem cut_one {xs : List V} (h : 1 ≤ xs.length) : cutV xs (some 1) none = xs.drop 1 := by
  unfold cutV
  rw [sIx_one h]
  exact List.take_of_length_le (by rw [List.length_drop]; exact Nat.le_refl _)
section
variable {P : Program} {w : World} {K : PySem.W.Frag} {mg : Str → Option Value} {base : Heap}
theorem scTanks : FnScope ["tanks", "many", "tank", "one", "two"] ["tanks", "many"] (defScope sTanks) := ⟨rfl, rfl, rfl, by decide +kernel, rfl, by decide +kernel, by decide +kernel⟩
theorem ok_tanks {f fI c PT' : Addr} {fd fdI : FuncData} {Ps : List Addr} (F : FunC K "_are_tanks" "_are_tanks" sTanks f fd c) (T : TxT mg) (TB : GxR.TabB base mg c PT') (hP : PT' ∈ Ps) (FI : FnOk P w K mg base CX0 2 fI fdI ["value", "least", "most"] spWithin) (mI : mg "is_within" = some (.ref fI)) (kI : PySem.W.keepIn K (.ref fI) = true) (bI : Binds K fdI ["value", "least", "most"] []) :
    FnOk P w K mg base CX0 4 f fd ["tanks", "many"] (spTanks Ps) := by
  refine F.ok scTanks (fun {vs H Q E} h => ?_) (fun A outer s H vs Q E hr h => ?_)
  · obtain ⟨x, d, m, rfl, _⟩ := h
    rfl
  · obtain ⟨x, d, m, rfl, hx, ht, hlen, k⟩ := h
    refine ⟨_, pss_cons (ps_if (pw_or (pt_cmpR op_notTyB (pe_callTy call_type1 (by rfl) T.type (by decide +kernel) (pa_cons (pv 0) pa_nil)) (pe_bltn (v := .ty "tuple") (by rfl) T.tuple (by decide +kernel) rfl) (nomark _))
        (pw_or1 (pt_not (pt_chain op_le op_le pe_int (pe_callB call_len_seq (by rfl) T.len PySem.boot_len (pa_cons (pv 0) pa_nil)) (pv 1))))).pt (pss_one (ps_ret pe_bl)) pss_nil)
      (pss_cons (ps_if (pt_not (pt_val (KG.pe_allG (k := 2) (own := [("tank", 2)]) (g := gName 2) rfl scTanks.nd hr (by rfl) T.all (by decide +kernel) TB rfl ⟨blkOk_by (N := ["tanks", "many", "tank", "one", "two"]) (sc := defScope sTanks) (by decide +kernel), rfl, by decide +kernel, by decide +kernel⟩ (pi_tup (pv 0))
          (fun _ _ _ _ _ _ _ _ => pg_name (i := 2) scTanks.nd rfl (Or.inl rfl)) (fun _ _ _ _ _ _ _ _ hB => pe_call FI hB (by rfl) mI kI bI .nil pass0 (pa_cons (pv 2) (pa_cons pe_int (pa_cons (pe_op op_sub (pv 1) pe_int) pa_nil)))) (fun _ => rfl)))) (pss_one (ps_ret pe_bl)) pss_nil)
      (pss_one (ps_ret (pe_callB (cr_all rfl) (by rfl) T.all (by decide +kernel) (pa_cons (pe_lc (own := [("one", 3), ("two", 4)]) (g := gTup K 2 (gCons (gName 3) (gCons (gName 4) gNil))) (tt := tYes) rfl scTanks.nd (RZ.pi_zipA (by rfl) T.zip (pa_cons (pv 0) (pa_cons (pe_slice sl_tup (pv 0) (po_some pe_int) po_none) pa_nil)))
        (blkOk_by (N := ["tanks", "many", "tank", "one", "two"]) (sc := defScope sTanks) (by decide +kernel)) (fun _ _ _ _ _ => by exact pg_tup rfl (pgs_cons (pg_name (i := 3) scTanks.nd rfl (Or.inl rfl)) (pgs_cons (pg_name (i := 4) scTanks.nd rfl (Or.inl rfl)) pgs_nil))) (fun _ _ _ _ _ => pts_nil) (fun _ _ _ _ _ => pe_cmpR op_lt (pv 3) (pv 4) (nomark _))) pa_nil))))), ?_⟩
    have b1 : ∀ {σ : L2.St} {i0 i1 : Nat}, σ[i0]? = some (some x) → σ[i1]? = some (some (.int m)) → Ti (tOr (tTest (tOp rNT (tCB (rTyp K) (tCons (tVar i0) tNil)) (tC (.ty "tuple")))) (tNot (tTest (tChain (rI0 fun i j => .bl (decide (i ≤ j))) (rI0 fun i j => .bl (decide (i ≤ j))) (tC (.int 1)) (tCB (rLen K) (tCons (tVar i0) tNil)) (tVar i1))))) σ H
        (!decide (tyN d = "tuple") || !(decide (1 ≤ (lenT d : Int)) && decide ((lenT d : Int) ≤ m))) := fun e0 e1 =>
      ti_or (ti_notTup (vi_var e0) hx) fun z => ti_not (ti_test (vi_chain vi_c (vi_lenT (ai_cons (vi_var e0) ai_nil) hx (by simpa using z)) (fun Q q => ⟨_, _, rfl, rfl, q⟩) (fun _ => vi_var e1) (fun _ Q q => ⟨_, _, rfl, rfl, q⟩)))
    refine i_guard (b1 rfl rfl) (fun z => ?_) (fun z => ?_)
    · have e : areT m d = false := by
        unfold areT
        rw [Bool.or_eq_true, Bool.not_eq_true', Bool.not_eq_true'] at z
        rcases z with z | z <;> rw [z] <;> simp
      have := k H (Grown.same (Same.refl H) ht)
      rw [e] at this
      exact this
    rw [Bool.or_eq_false_iff, Bool.not_eq_false', Bool.not_eq_false'] at z
    obtain ⟨z1, z2⟩ := z
    obtain ⟨a, xs, ds, rfl, rfl, e, ha⟩ := tupOf hx (of_decide_eq_true z1)
    have e8 : areT m (.tuple ds) = (ds.all (fun e => isW e 0 (m - 1)) && ascB ds) := by
      unfold areT
      rw [z1, z2, Bool.true_and, Bool.true_and]
      rfl
    rw [e8] at k
    refine i_guardE (D := { nx := fun _ H' => Q .non H', rt := Q }) ?_
    refine all_vi (Ps := Ps) (pd := fun d => isW d 0 (m - 1)) rfl e ha ht hP (fun x => rfl) (fun H2 x d h => vi_call (ai_cons (vi_var rfl) (ai_cons vi_c (ai_cons (vi_op (vi_var rfl) vi_c fun Q q => ⟨_, _, rfl, rfl, q⟩) ai_nil))) fun Q q => spWithin_at h q) (fun H2 gr => ⟨_, rfl, ?_⟩)
    cases hall : ds.all (fun e => isW e 0 (m - 1)) with
    | false =>
      rw [hall] at k
      exact k _ gr
    | true =>
      rw [hall, Bool.true_and] at k
      rw [Bool.and_eq_true, decide_eq_true_eq, decide_eq_true_eq] at z2
      have e2 : Rd H2 a (.tup xs) := gr.sm.rd e
      have hl := all2 ha
      have n1 : 1 ≤ xs.length := by
        have := z2.1
        simp only [lenT] at this
        omega
      have hln : xs.length ≤ 2000 := by
        have := z2.2
        simp only [lenT] at this
        omega
      have isI : ∀ {i : Nat} {x : V}, xs[i]? = some x → ∃ j, x = .int j ∧ ds.getD i .none = .int j := fun {i x} hxi => by
        obtain ⟨d, hdi, hth⟩ := all_get ha hxi
        obtain ⟨j, rfl, rfl⟩ := isW_int hth (List.all_eq_true.mp hall d (List.mem_of_getElem? hdi))
        exact ⟨j, rfl, by rw [List.getD_eq_getElem?_getD, hdi]; rfl⟩
      refine ⟨_, rfl, _, rfl, _, rfl, a, xs, rfl, SqT.of e2, fun z => ?_, fun p hp => ?_⟩
      · have := z.1
        rw [sIx_one n1] at this
        cases this
      rw [cut_one n1]
      have sp := same_upd (o := .tup (xs.drop 1)) hp
      refine ⟨a, p, xs, xs.drop 1, rfl, .inr ⟨SqT.of (sp.rd e2), SqT.of upd_same, fun D hD => ?_⟩⟩
      refine lc_it (walk_zipT (K := K) (a := a) (b := p) (xs := xs) (ys := xs.drop 1) (n := xs.length - 1) (by rw [List.length_drop]; omega)) (fun n H' => Same (upd H2 p (.tup (xs.drop 1))) H' ∧ H' D = some (.lst ((List.range n).map fun i => V.bl (ltI (ds.getD i .none) (ds.getD (i + 1) .none))))) ⟨same_upd hD, upd_same⟩
        (fun n H' _ z => ⟨SqT.of (z.1.rd (sp.rd e2)), SqT.of (z.1 _ _ upd_same)⟩) ?_ ?_
      · rintro i x H' H'' hi ⟨s7, hD'⟩ ⟨U, x1, y1, rfl, hU, rfl, hx1, hy1⟩
        have hy2 : xs[i + 1]? = some y1 := by
          rw [← hy1]
          show _ = (xs.drop 1)[i]?
          rw [List.getElem?_drop, Nat.add_comm]
        obtain ⟨i1, rfl, g1⟩ := isI hx1
        obtain ⟨j1, rfl, g2⟩ := isI hy2
        have sU := same_upd (o := .tup [V.int i1, .int j1]) hU
        refine ⟨U, _, rfl, SqT.of upd_same, rfl, _, _, rfl, _, _, rfl, rfl, rfl, ?_⟩
        dsimp only [tYes]
        rw [if_pos rfl]
        refine ⟨_, rfl, _, rfl, _, _, rfl, rfl, _, sU _ _ hD', ?_, fun b o eb => ?_, ?_⟩
        · rw [List.length_map, List.length_range]
          exact Nat.lt_of_le_of_lt (show i ≤ 2000 by omega) (by decide)
        · have nb : b ≠ D := fun z => by
            rw [z, hD] at eb
            cases eb
          rw [upd_ne nb]
          exact sU _ _ (s7 _ _ eb)
        · rw [upd_same, List.range_succ, List.map_append, List.map_cons, List.map_nil, g1, g2]
          rfl
      · rintro H' ⟨s7, hD'⟩
        refine ⟨D, (List.range (xs.length - 1)).map fun i => ltI (ds.getD i .none) (ds.getD (i + 1) .none), rfl, SqL.of ?_, ?_⟩
        · rw [hD', List.map_map]
          rfl
        · have e3 : ((List.range (xs.length - 1)).map fun i => ltI (ds.getD i .none) (ds.getD (i + 1) .none)).all id = ascB ds := by
            rw [List.all_map, hl]
            rfl
          rw [e3]
          exact k _ (gr.trans (Grown.same (sp.trans s7) gr.tbs))
end
end KP

set_option Elab.async false
set_option linter.all false
set_option maxRecDepth 100000
set_option maxHeartbeats 1000000
/-! ### enumerate(tuple); x in tuple of data -/
namespace KT
open PySem PySem.Spec PyProof.Rows L2
theorem meets_enumB {v : Value} {o : Obj} {H : Heap → Prop} (B : Begins v o H) :
    Meets (Builtin.«enumerate.__new__» ⟨[.type "enumerate", v], []⟩) (fun _ R s => H s.heap ∧
      R (.ok (.ret (.ref (s.heap.push o).objs.size))) { s with heap := (s.heap.push o).push { cls := .type "enumerate", data := .fields #[.none, .bool false, .ref s.heap.objs.size, rawInt 0, .none, .none] } }) :=
  .of_wp fun prog w A R s h => by
    obtain ⟨hp, g, d, tk, os⟩ := s
    obtain ⟨h1, h⟩ := h
    have hsub := sub_enumerate
    have q1 : ∀ {A' : Around} {E : Value → Shared → Prop} {Q : Value → Shared → Prop}, Q (.ref hp.objs.size) ⟨hp.push o, g, d, tk, os⟩ → wpAny (model prog w) A' (pyIter v) Q E ⟨hp, g, d, tk, os⟩ :=
      fun q => B.iter prog w _ _ ⟨hp, g, d, tk, os⟩ _ h1 q
    wp_walk using q1
    refine wpAny_stack_any fun st => wpAny_pure ?_
    split
    · rename_i c _ _ _ _ _
      cases (c == Value.type "enumerate")
      · wp_walk using q1
        exact ⟨_, rfl, h⟩
      · wp_walk using q1
        exact ⟨_, rfl, h⟩
    · wp_walk using q1
      exact ⟨_, rfl, h⟩
theorem call_enumB {prog : Program} {w : World} {A : Around} {E : Value → Shared → Prop} {s : Shared} {v : Value} {o : Obj} {H : Heap → Prop} {Q : Value → Shared → Prop} (B : Begins v o H) (h1 : H s.heap)
    (h : ∀ h', IsEnum h' (s.heap.objs.size + 1) s.heap.objs.size 0 .none → h'.get? s.heap.objs.size = some o → (∀ b o, s.heap.get? b = some o → h'.get? b = some o) → Q (.ref (s.heap.objs.size + 1)) { s with heap := h' }) :
    wpAny (model prog w) A (call (.type "enumerate") [v]) Q E s := by
  refine callType_new F.called_enumerate (by decide) (F.typeCall_enumerate_1 _) (F.newCall_enumerate_1 _) (fun obj => F.args_object_init_2 obj _) F.entry_enumerate_new (meets_enumB B) ⟨h1, ?_⟩
  have hz : (s.heap.push o).objs.size = s.heap.objs.size + 1 := Heap.size_push ..
  show _ ∧ _
  rw [hz]
  have he : IsEnum ((s.heap.push o).push { cls := .type "enumerate", data := .fields #[.none, .bool false, .ref s.heap.objs.size, rawInt 0, .none, .none] }) (s.heap.objs.size + 1) s.heap.objs.size 0 .none := by
    have := Heap.get?_push_size (s.heap.push o) (o := { cls := .type "enumerate", data := .fields #[.none, .bool false, .ref s.heap.objs.size, rawInt 0, .none, .none] }) rfl
    rw [hz] at this
    exact this
  exact ⟨⟨_, he, rfl⟩, h _ he (Heap.get?_push_of_some _ (Heap.get?_push_size _ B.free)) fun b o x => Heap.get?_push_of_some _ (Heap.get?_push_of_some _ x)⟩
def IteT (K : PySem.W.Frag) (a : Addr) : It :=
  ⟨fun i H => ∃ (xs : List V) (x : V), SqT K H a xs ∧ xs[i]? = some x, fun i H v H' => ∃ T x, v = .ref T ∧ H T = none ∧ H' = upd H T (.tup [.int (i : Nat), x]) ∧ ∀ xs, SqT K H a xs → xs[i]? = some x, fun i H => ∃ xs : List V, SqT K H a xs ∧ xs.length = i⟩
theorem turn_enumT {P : Program} {w : World} {K : PySem.W.Frag} {elts : List Expr} {kk : Nat} {tpos : Pos} (a e it : Addr) :
    Turn P w K (.Tuple elts kk tpos) (IteT K a) [e, it] e (fun i h => (∃ old, IsEnum h e it ((i : Nat) : Int) old) ∧ h.IsTupleIter it a i ∧ e ≠ it ∧ a ≠ it ∧ a ≠ e) where
  mem := by simp
  obj := fun i h st b hb => by
    obtain ⟨⟨old, he⟩, ⟨o, ho, hc, hd⟩, _⟩ := st
    have e' : b = e ∨ b = it := by simpa using hb
    rcases e' with z | z
    · rw [z]; exact ⟨_, he, fun v q => nomatch q⟩
    · rw [z]; exact ⟨o, ho, fun v q => by rw [hd] at q; cases q⟩
  keep := fun i h h' st k => let ⟨⟨old, he⟩, hi, hne⟩ := st; ⟨⟨old, k e (by simp) _ he⟩, hi.at fun o q => k it (by simp) o q, hne⟩
  item := by
    intro X hP hw hK hc i pins s σ H E I hf st hg
    subst hP hw hK
    obtain ⟨⟨old, he⟩, hit, hne, hai, hae⟩ := st
    obtain ⟨xs, x, hq, hx⟩ := hg
    obtain ⟨its, rv, p, hz⟩ := I.tuple hq
    obtain ⟨u, hu, ru⟩ := rv.get hx
    have hel : e < s.heap.objs.size := Heap.lt_size he
    have hil : it < s.heap.objs.size := by obtain ⟨_, q, _⟩ := hit; exact Heap.lt_size q
    have hi : i < its.toArray.size := by
      have := (List.getElem?_eq_some_iff.mp hu).1
      simpa using this
    refine wpAny_pyNext_enum_itemD (Draws.tuple (A := X.A.in1) (I.ok.hd hc) it a hai its.toArray) he ⟨hit, p⟩ hi hne (by simp [hne, Ne.symm hae]) fun y h' tk hy ho hst hT hsz hk => ?_
    obtain rfl : u = y := by
      have : its[i]? = some y := by simpa using hy
      rw [hu] at this
      exact Option.some.inj this
    refine ⟨_, rfl, wpAny_letOwnedTupleGo_enum (s := { s with heap := h', toks := tk + 1 }) ho fun h'' he' sb => ?_⟩
    have hT2 : h''.get? s.heap.objs.size = some { cls := .type "tuple", data := .seq #[.int i tk, u] } := (sb.2 _ (Nat.ne_of_gt hel)).trans hT
    have new : ObjOk X.prog X.w (upd H s.heap.objs.size (.tup [.int (i : Nat), x])) h'' s.heap.objs.size (.tup [.int (i : Nat), x]) :=
      ⟨by show 2 ≤ sizeLine; decide, [.int i tk, u], .cons ⟨_, rfl⟩ (.cons ru .nil), ⟨_, hT2, rfl, _, rfl⟩⟩
    have I1 : Inv X pins σ (upd H s.heap.objs.size (.tup [.int (i : Nat), x])) { s with heap := h'', toks := tk + 1 } :=
      I.turnedNew (ch := [e, it]) (fun b ob hb q => (sb.2 b (fun z => hb (by simp [z]))).trans (hk b ob (fun z => hb (by simp [z])) (fun z => hb (by simp [z])) q)) hf (Nat.le_refl _) new
    refine ⟨.ref s.heap.objs.size, _, I1, rfl, ⟨_, x, rfl, I.hok.fresh (Nat.le_refl _), rfl, fun ys hy => by rw [I.tuple_inj hy hq]; exact hx⟩, ⟨⟨u, ?_⟩, hst.1.at fun o q => (sb.2 it (Ne.symm hne)).trans q, hne, hai, hae⟩, fun b hb => ?_⟩
    · have e1 : ((i + 1 : Nat) : Int) = (i : Int) + 1 := by omega
      rw [e1]; exact he'
    · have hb' : b < s.heap.objs.size := by
        have e' : b = e ∨ b = it := by simpa using hb
        rcases e' with z | z
        · rw [z]; exact hel
        · rw [z]; exact hil
      rw [upd_ne (Nat.ne_of_lt hb')]
      exact (hf b hb).1
  done := by
    intro X hP hw hK hc i pins s σ H E I hf st hg
    subst hP hw hK
    obtain ⟨⟨old, he⟩, hit, hne, hai, hae⟩ := st
    obtain ⟨xs, hq, hx⟩ := hg
    obtain ⟨its, rv, p, hz⟩ := I.tuple hq
    obtain ⟨f0, f1, f2, f3, f4, f5⟩ := hf it (by simp)
    have hl := rv.length
    have e1 : i = its.toArray.size := by simp; omega
    subst e1
    exact wpAny_pyNext_enum_endD (Draws.tuple (A := X.A.in1) (I.ok.hd hc) it a hai its.toArray) he ⟨hit, p⟩ fun h' eb => ⟨rfl, I.turned (t' := s.toks) (fun b o hb q => eb b o hb q) f0 f1 f3 f4 f5⟩
  self := fun A i s Q E st h => let ⟨⟨_, he⟩, _⟩ := st; wpAny_pyIter_enum he h
def iEnumT (K : PySem.W.Frag) (ta : TA) : TI := fun σ H R => ta σ H fun vs H1 => ∃ a xs, vs = [.ref a] ∧ SqT K H1 a xs ∧ R (IteT K a) H1
theorem pi_enumT {X : Cx} {e : Expr} {ta : TA} {p pos tpos : Pos} {elts : List Expr} {kk : Nat} (hg : Gl X "enumerate") (hm : X.mg "enumerate" = none) (ha : PA X [e] ta) (hs : starEach [e] X.env = [(false, eval e X.env)] := by rfl) :
    PI X (.Tuple elts kk tpos) (.Call (.Name "enumerate" p) [e] [] pos) (iEnumT X.K ta) := by
  refine ⟨fun pins s σ H R I h => ?_⟩
  refine Call_ (ld_blt I hg hm boot_enumerate (PyProof.Rows.callWith_type1 (thn (ha.run pos pins s σ H _ I h) fun us s1 ⟨vs, H1, I1, r1, q1⟩ => ?_) hs rfl))
  obtain ⟨a, xs, ex, hq, q⟩ := q1
  subst ex
  cases r1 with
  | cons r rr =>
    cases rr
    cases r
    obtain ⟨its, rv, p', hz⟩ := I1.tuple hq
    have hp : s1.heap.IsTuple a its.toArray := p'
    have hal : a < s1.heap.objs.size := by
      obtain ⟨o, e, _⟩ := hp
      exact Heap.lt_size e
    refine call_enumB (begins_tuple a its.toArray) hp fun h' he ho hk => wpAny_pyIter_enum he ?_
    have I2 : Inv X pins σ H1 { s1 with heap := h' } := I1.kept (t' := s1.toks) hk
    refine ⟨s1.heap.objs.size + 1, [s1.heap.objs.size + 1, s1.heap.objs.size], _, _, H1, rfl, I2, turn_enumT a (s1.heap.objs.size + 1) s1.heap.objs.size, ⟨⟨.none, he⟩, ⟨_, ho, rfl, rfl⟩, Nat.succ_ne_self _, Nat.ne_of_lt hal, Nat.ne_of_lt (Nat.lt_succ_of_lt hal)⟩, fun b hb => ?_, q⟩
    have e' : b = s1.heap.objs.size + 1 ∨ b = s1.heap.objs.size := by simpa using hb
    have hle : s1.heap.objs.size ≤ b := by
      rcases e' with z | z
      · rw [z]; exact Nat.le_add_right _ _
      · rw [z]; exact Nat.le_refl _
    exact I1.fpOk hle (I1.hok.fresh hle)
theorem walk_enumT {K : PySem.W.Frag} {a : Addr} {xs : List V} : Walk (IteT K a) xs.length (fun H => SqT K H a xs) (YPair (fun i => some (.int (i : Nat))) (fun i => xs[i]?)) := by
  refine ⟨fun i _ hi q => ⟨xs, xs[i], q, List.getElem?_eq_getElem _⟩, fun _ q => ⟨xs, q, rfl⟩, fun i H v H' _ q y => ?_⟩
  obtain ⟨T, x, h1, h2, h3, h4⟩ := y
  exact ⟨T, .int (i : Nat), x, h1, h2, h3, rfl, h4 xs q⟩
/-- x in t, x not in t: t a tuple of data -/
def rInT (K : PySem.W.Frag) : R2 := fun x y H Q => ∃ d ds, Dp K H x d ∧ Dp K H y (.tuple ds) ∧ SeqAt.shaped d = true ∧ SeqAt.shaped (.tuple ds) = true ∧ Q (.bl (ds.any fun z => PyData.eqv z d)) H
def rNotInT (K : PySem.W.Frag) : R2 := fun x y H Q => ∃ d ds, Dp K H x d ∧ Dp K H y (.tuple ds) ∧ SeqAt.shaped d = true ∧ SeqAt.shaped (.tuple ds) = true ∧ Q (.bl (!ds.any fun z => PyData.eqv z d)) H
theorem op_inT {X : Cx} (hu : X.A.units + 65 < cLine) : OpR X (compareOp .In) (rInT X.K) := fun pins s σ H x y v u Q I rx ry ⟨d, ds, hd, he, sd, se, q⟩ => by
  obtain ⟨as, r1⟩ := Dp.reads I d x v hd rx
  obtain ⟨bs, r2⟩ := Dp.reads I (.tuple ds) y u he ry
  exact SeqAt.in_tuple_reads r2 r1 (SeqAt.canLay_of_shaped se) (SeqAt.canLay_of_shaped sd) (room_in_shaped sd hu) ⟨.bl _, H, I, rfl, q⟩
theorem op_notInT {X : Cx} (hu : X.A.units + 65 < cLine) : OpR X (compareOp .NotIn) (rNotInT X.K) := fun pins s σ H x y v u Q I rx ry ⟨d, ds, hd, he, sd, se, q⟩ => by
  obtain ⟨as, r1⟩ := Dp.reads I d x v hd rx
  obtain ⟨bs, r2⟩ := Dp.reads I (.tuple ds) y u he ry
  exact SeqAt.notIn_tuple_reads r2 r1 (SeqAt.canLay_of_shaped se) (SeqAt.canLay_of_shaped sd) (room_in_shaped sd hu) ⟨.bl _, H, I, rfl, q⟩
end KT

set_option Elab.async false
set_option linter.all false
set_option maxRecDepth 100000
set_option maxHeartbeats 1000000
/-! ### pipes, all of them -/
namespace KP
open PySem PySem.Spec PyProof.Rows L2 KX KT
def distB (ds : List PyData) : Bool := (List.range ds.length).all fun i => !((ds.take i).any fun z => PyData.eqv z (ds.getD i .none))
def areP (m u : Int) (d : PyData) : Bool := decide (tyN d = "tuple") && !decide ((12 : Int) < (lenT d : Int)) && ((itms d).all (isPipe m u) && distB (itms d))
def spPipes (Ps : List Addr) : Sp := fun vs H Q _ => ∃ x d m u, vs = [x, .int m, .int u] ∧ Th H x d ∧ Tbs Ps H ∧ ∀ H', Grown Ps H H' → Q (.bl (areP m u d)) H'
theorem Th.dp {K : PySem.W.Frag} {H : Hp} {v : V} {d : PyData} (h : Th H v d) : d.hasDict = false → Dp K H v d := by
  refine Th.rec (motive_1 := fun v d _ => d.hasDict = false → Dp K H v d) (motive_2 := fun vs ds _ => PyData.hasDictAll ds = false → DpAll K H vs ds) (fun _ => .non) (fun b _ => .bl b) (fun i _ => .int i) (fun x _ => .str x)
    (fun q _ ih z => .lst (SqL.of q) (ih (by simpa [PyData.hasDict] using z))) (fun q _ ih z => .tup (SqT.of q) (ih (by simpa [PyData.hasDict] using z))) (fun q z => by simp [PyData.hasDict] at z) (fun _ => .nil) (fun _ _ a b z => ?_) h
  simp only [PyData.hasDictAll, Bool.or_eq_false_iff] at z
  exact .cons (a z.1) (b z.2)
theorem shp_data {n : Nat} {d : PyData} (z : shp n d = true) : ∃ ds, d = .tuple ds ∧ ds.length = n := by
  unfold shp at z
  rw [Bool.and_eq_true, decide_eq_true_eq, decide_eq_true_eq] at z
  cases d with
  | tuple ds => exact ⟨ds, rfl, z.2⟩
  | _ => exact absurd z.1 (by simp [tyN])
theorem isW_data {d : PyData} {lo hi : Int} (z : isW d lo hi = true) : ∃ i, d = .int i := by
  cases d with
  | int i => exact ⟨i, rfl⟩
  | _ => simp [isW] at z
/-- flat data: two signs of kinds -/
def Flat (d : PyData) : Prop := d.canLay0 = true ∧ d.depth ≤ 2 ∧ d.hasDict = false
theorem share_flat {u : Int} {d : PyData} (z : isShare u d = true) : (∃ i, d = .tuple [.str "x", .int i]) ∨ ∃ i j, d = .tuple [.int i, .int j] := by
  unfold isShare at z
  rw [Bool.and_eq_true] at z
  obtain ⟨ds, rfl, hl⟩ := shp_data z.1
  obtain ⟨a, b, rfl⟩ := len2 hl
  have z2 := z.2
  have e0 : ith 0 (.tuple [a, b]) = a := rfl
  have e1 : ith 1 (.tuple [a, b]) = b := rfl
  rw [e0, e1] at z2
  by_cases c : tyN a = "str"
  · rw [if_pos c, Bool.and_eq_true] at z2
    obtain ⟨i, rfl⟩ := isW_data z2.2
    cases a with
    | str s =>
      have e : s = "x" := of_decide_eq_true z2.1
      rw [e]
      exact .inl ⟨i, rfl⟩
    | _ => exact absurd c (by simp [tyN])
  · rw [if_neg c] at z2
    unfold isTold isR at z2
    simp only [Bool.and_eq_true] at z2
    have z3 := z2.1.2
    rw [e0, e1] at z3
    cases a with
    | int i =>
      cases b with
      | int j => exact .inr ⟨i, j, rfl⟩
      | _ => simp [ratio2] at z3
    | _ => cases b <;> simp [ratio2] at z3
theorem pipe_flat {m u : Int} {d : PyData} (z : isPipe m u d = true) : Flat d := by
  unfold isPipe at z
  rw [Bool.and_eq_true] at z
  obtain ⟨ds, rfl, hl⟩ := shp_data z.1
  obtain ⟨a, b, c, rfl⟩ := len3 hl
  have z2 := z.2
  rw [show ith 0 (.tuple [a, b, c]) = a from rfl, show ith 1 (.tuple [a, b, c]) = b from rfl, show ith 2 (.tuple [a, b, c]) = c from rfl] at z2
  simp only [Bool.and_eq_true, Bool.not_eq_true', Bool.or_eq_false_iff, Bool.not_eq_false', Bool.or_eq_true] at z2
  obtain ⟨⟨h1, h2⟩, h3⟩ := z2
  obtain ⟨i, rfl⟩ := isW_data h1
  have hb : b = .none ∨ ∃ j, b = .int j := by
    rcases h3 with h3 | h3
    · cases b with
      | none => exact .inl rfl
      | _ => simp [isNon] at h3
    · exact .inr (isW_data h3.1)
  have ok : PyData.strOk "x" = true := by decide +kernel
  rcases share_flat h2 with ⟨j, rfl⟩ | ⟨j, k, rfl⟩ <;> rcases hb with rfl | ⟨l, rfl⟩ <;>
    exact ⟨by simp [PyData.canLay0, PyData.canLayAll0, ok], by simp [PyData.depth, PyData.depthAll], by simp [PyData.hasDict, PyData.hasDictAll]⟩
theorem flat_all : ∀ {ds : List PyData}, (∀ d ∈ ds, Flat d) → PyData.canLayAll0 ds = true ∧ PyData.depthAll ds ≤ 2 ∧ PyData.hasDictAll ds = false
  | [], _ => by simp [PyData.canLayAll0, PyData.depthAll, PyData.hasDictAll]
  | d :: ds, h => by
    obtain ⟨a, b, c⟩ := h d List.mem_cons_self
    obtain ⟨a', b', c'⟩ := flat_all (ds := ds) fun e he => h e (List.mem_cons_of_mem _ he)
    refine ⟨by simp [PyData.canLayAll0, a, a'], ?_, by simp [PyData.hasDictAll, c, c']⟩
    simp only [PyData.depthAll]
    omega
theorem shaped_of {d : PyData} (a : d.canLay0 = true) (b : d.depth ≤ 64) : SeqAt.shaped d = true := by
  show (d.canLay0 && decide (d.depth ≤ 64)) = true
  rw [a, decide_eq_true b]
  rfl
theorem flat_shaped {ds : List PyData} (h : ∀ d ∈ ds, Flat d) : SeqAt.shaped (.tuple ds) = true ∧ (PyData.tuple ds).hasDict = false := by
  obtain ⟨a, b, c⟩ := flat_all h
  refine ⟨shaped_of (by simpa [PyData.canLay0] using a) ?_, by simpa [PyData.hasDict] using c⟩
  simp only [PyData.depth]
  omega
end KP

set_option Elab.async false
set_option linter.all false
set_option maxRecDepth 100000
set_option maxHeartbeats 1000000
namespace KP
open PySem PySem.Spec PyProof.Rows L2 KX KT
theorem sIx_nat0 {n i : Nat} (h : i ≤ n) (d : Nat) : HT.sIx n d (some (i : Int)) = i := by
  rw [HT.sIx_nat, Nat.min_eq_left h]
theorem cut_to {xs : List V} {i : Nat} (h : i ≤ xs.length) : cutV xs none (some (i : Int)) = xs.take i := by
  unfold cutV
  rw [sIx_nat0 h]
  rfl
theorem ThAll.take {H : Hp} : ∀ {xs : List V} {ds : List PyData} (i : Nat), ThAll H xs ds → ThAll H (xs.take i) (ds.take i)
  | _, _, 0, _ => by
    rw [List.take_zero, List.take_zero]
    exact .nil
  | _, _, _ + 1, .nil => .nil
  | _, _, i + 1, .cons a b => by
    rw [List.take_succ_cons, List.take_succ_cons]
    exact .cons a (ThAll.take i b)
section
variable {P : Program} {w : World} {K : PySem.W.Frag} {mg : Str → Option Value} {base : Heap}
theorem scPipes : FnScope ["pipes", "many", "unknowns", "pipe", "index"] ["pipes", "many", "unknowns"] (defScope sPipes) := ⟨rfl, rfl, rfl, by decide +kernel, rfl, by decide +kernel, by decide +kernel⟩
theorem ok_pipes {f fI c PT' : Addr} {fd fdI : FuncData} {Ps : List Addr} {uB : Value} (F : FunC K "_are_pipes" "_are_pipes" sPipes f fd c) (T : TxT mg) (TB : GxR.TabB base mg c PT') (hP : PT' ∈ Ps) (mB : mg "MOST_PIPES" = some uB) (rB : RelV (.int 12) uB)
    (FI : FnOk P w K mg base CX0 5 fI fdI ["pipe", "many", "unknowns"] spPipe) (mI : mg "_is_pipe" = some (.ref fI)) (kI : PySem.W.keepIn K (.ref fI) = true) (bI : Binds K fdI ["pipe", "many", "unknowns"] []) :
    FnOk P w K mg base CX0 7 f fd ["pipes", "many", "unknowns"] (spPipes Ps) := by
  refine F.ok scPipes (fun {vs H Q E} h => ?_) (fun A outer s H vs Q E hr h => ?_)
  · obtain ⟨x, d, m, u, rfl, _⟩ := h
    rfl
  · obtain ⟨x, d, m, u, rfl, hx, ht, k⟩ := h
    have hu : (A.deeper (envOfC "_are_pipes" (defScope sPipes) s.heap.objs.size f (.ref c))).units + 65 < cLine := by have := hr.un; omega
    refine ⟨_, pss_cons (ps_if (pw_or (pt_cmpR op_notTyB (pe_callTy call_type1 (by rfl) T.type (by decide +kernel) (pa_cons (pv 0) pa_nil)) (pe_bltn (v := .ty "tuple") (by rfl) T.tuple (by decide +kernel) rfl) (nomark _))
        (pw_or1 (pt_cmpR op_gt (pe_callB call_len_seq (by rfl) T.len PySem.boot_len (pa_cons (pv 0) pa_nil)) (pe_glob (by rfl) mB rB) (nomark _)))).pt (pss_one (ps_ret pe_bl)) pss_nil)
      (pss_cons (ps_if (pt_not (pt_val (KG.pe_allG (k := 5) (own := [("pipe", 3)]) (g := gName 3) rfl scPipes.nd hr (by rfl) T.all (by decide +kernel) TB rfl ⟨blkOk_by (N := ["pipes", "many", "unknowns", "pipe", "index"]) (sc := defScope sPipes) (by decide +kernel), rfl, by decide +kernel, by decide +kernel⟩ (pi_tup (pv 0))
          (fun _ _ _ _ _ _ _ _ => pg_name (i := 3) scPipes.nd rfl (Or.inl rfl)) (fun _ _ _ _ _ _ _ _ hB => pe_call FI hB (by rfl) mI kI bI .nil pass0 (pa_cons (pv 3) (pa_cons (pv 1) (pa_cons (pv 2) pa_nil)))) (fun _ => rfl)))) (pss_one (ps_ret pe_bl)) pss_nil)
      (pss_one (ps_ret (pe_callB (cr_all rfl) (by rfl) T.all (by decide +kernel) (pa_cons (pe_lc (own := [("index", 4), ("pipe", 3)]) (g := gTup K 2 (gCons (gName 4) (gCons (gName 3) gNil))) (tt := tYes) rfl scPipes.nd (pi_enumT (by rfl) T.enumerate (pa_cons (pv 0) pa_nil))
        (blkOk_by (N := ["pipes", "many", "unknowns", "pipe", "index"]) (sc := defScope sPipes) (by decide +kernel)) (fun _ _ _ _ _ => by exact pg_tup rfl (pgs_cons (pg_name (i := 4) scPipes.nd rfl (Or.inl rfl)) (pgs_cons (pg_name (i := 3) scPipes.nd rfl (Or.inl rfl)) pgs_nil))) (fun _ _ _ _ _ => pts_nil)
        (fun _ _ _ _ _ => pe_cmpR (r := rNotInT K) (by exact op_notInT hu) (pv 3) (pe_slice (r := rSlT K) (by exact sl_tup) (pv 0) po_none (po_some (pv 4))) (by rfl))) pa_nil))))), ?_⟩
    have b1 : ∀ {σ : L2.St} {i0 : Nat}, σ[i0]? = some (some x) → Ti (tOr (tTest (tOp rNT (tCB (rTyp K) (tCons (tVar i0) tNil)) (tC (.ty "tuple")))) (tTest (tOp (rI0 fun i j => .bl (decide (j < i))) (tCB (rLen K) (tCons (tVar i0) tNil)) (tC (.int 12))))) σ H
        (!decide (tyN d = "tuple") || decide ((12 : Int) < (lenT d : Int))) := fun e0 =>
      ti_or (ti_notTup (vi_var e0) hx) fun z => ti_test (vi_op (vi_lenT (ai_cons (vi_var e0) ai_nil) hx (by simpa using z)) vi_c fun Q q => ⟨_, _, rfl, rfl, q⟩)
    refine i_guard (b1 rfl) (fun z => ?_) (fun z => ?_)
    · have e : areP m u d = false := by
        unfold areP
        rw [Bool.or_eq_true, Bool.not_eq_true'] at z
        rcases z with z | z <;> rw [z] <;> simp
      have := k H (Grown.same (Same.refl H) ht)
      rw [e] at this
      exact this
    rw [Bool.or_eq_false_iff, Bool.not_eq_false'] at z
    obtain ⟨z1, z2⟩ := z
    obtain ⟨a, xs, ds, rfl, rfl, e, ha⟩ := tupOf hx (of_decide_eq_true z1)
    have e8 : areP m u (.tuple ds) = (ds.all (isPipe m u) && distB ds) := by
      unfold areP
      rw [z1, z2, Bool.true_and]
      rfl
    rw [e8] at k
    refine i_guardE (D := { nx := fun _ H' => Q .non H', rt := Q }) ?_
    refine all_vi (Ps := Ps) (pd := isPipe m u) rfl e ha ht hP (fun x => rfl) (fun H2 x d h => vi_call (ai_cons (vi_var rfl) (ai_cons (vi_var rfl) (ai_cons (vi_var rfl) ai_nil))) fun Q q => ⟨_, _, _, _, rfl, h, q⟩) (fun H2 gr => ⟨_, rfl, ?_⟩)
    cases hall : ds.all (isPipe m u) with
    | false =>
      rw [hall] at k
      exact k _ gr
    | true =>
      rw [hall, Bool.true_and] at k
      have z2 := of_decide_eq_false z2
      simp only [lenT] at z2
      have e2 : Rd H2 a (.tup xs) := gr.sm.rd e
      have ha2 := ThAll.mono gr.sm ha
      have hl := all2 ha
      have hfl : ∀ d ∈ ds, Flat d := fun d hd => pipe_flat (List.all_eq_true.mp hall d hd)
      refine ⟨_, rfl, a, xs, rfl, SqT.of e2, fun D hD => ?_⟩
      refine lc_it (walk_enumT (K := K) (a := a) (xs := xs)) (fun n H' => Same H2 H' ∧ H' D = some (.lst ((List.range n).map fun i => V.bl (!((ds.take i).any fun z => PyData.eqv z (ds.getD i .none)))))) ⟨same_upd hD, upd_same⟩
        (fun n H' _ z => SqT.of (z.1.rd e2)) ?_ ?_
      · rintro i x H' H'' hi ⟨s7, hD'⟩ ⟨U, x1, y1, rfl, hU, rfl, hx1, hy1⟩
        cases hx1
        obtain ⟨d, hdi, hth⟩ := all_get ha2 hy1
        have sU := same_upd (o := .tup [V.int (i : Nat), y1]) hU
        have s8 : Same H2 (upd H' U (.tup [V.int (i : Nat), y1])) := s7.trans sU
        refine ⟨U, _, rfl, SqT.of upd_same, rfl, _, _, rfl, _, _, rfl, rfl, rfl, ?_⟩
        dsimp only [tYes]
        rw [if_pos rfl]
        refine ⟨_, rfl, _, rfl, _, rfl, _, rfl, a, xs, rfl, SqT.of (s8.rd e2), fun z => ?_, fun p hp => ?_⟩
        · have := z.2
          rw [sIx_nat0 (Nat.le_of_lt hi)] at this
          omega
        rw [cut_to (Nat.le_of_lt hi)]
        have s9 := s8.trans (same_upd (o := .tup (xs.take i)) hp)
        have ed : ds.getD i .none = d := by rw [List.getD_eq_getElem?_getD, hdi]; rfl
        have hd : Flat d := hfl d (List.mem_of_getElem? hdi)
        have htk : ∀ e ∈ ds.take i, Flat e := fun e he => hfl e (List.mem_of_mem_take he)
        have t1 := flat_shaped htk
        refine ⟨d, ds.take i, Th.dp (hth.mono (Sm.same s9)) hd.2.2, Th.dp (.tup upd_same ((ThAll.mono (Sm.same s9) ha2).take i)) t1.2, shaped_of hd.1 (by have := hd.2.1; omega), t1.1, ?_⟩
        refine ⟨_, (sU.trans (same_upd hp)) _ _ hD', ?_, fun b o eb => ?_, ?_⟩
        · rw [List.length_map, List.length_range]
          exact Nat.lt_of_le_of_lt (show i ≤ 2000 by omega) (by decide)
        · have nb : b ≠ D := fun z => by
            rw [z, hD] at eb
            cases eb
          rw [upd_ne nb]
          exact s9 _ _ eb
        · rw [upd_same, List.range_succ, List.map_append, List.map_cons, List.map_nil, ed]
      · rintro H' ⟨s7, hD'⟩
        refine ⟨D, (List.range xs.length).map fun i => (!((ds.take i).any fun z => PyData.eqv z (ds.getD i .none))), rfl, SqL.of ?_, ?_⟩
        · rw [hD', List.map_map]
          rfl
        · have e3 : ((List.range xs.length).map fun i => (!((ds.take i).any fun z => PyData.eqv z (ds.getD i .none)))).all id = distB ds := by
            rw [List.all_map, hl]
            rfl
          rw [e3]
          exact k _ (gr.trans (Grown.same s7 gr.tbs))
end
end KP

set_option Elab.async false
set_option linter.all false
set_option maxRecDepth 100000
set_option maxHeartbeats 1000000
/-! ### is_net -/
namespace KP
open PySem PySem.Spec PyProof.Rows L2 KX KT
def netAt (a b c d e : PyData) : Bool :=
  match a, b with
  | .int m, .int u => !decide (7 < m + u) && (areP m u c && (areT m d && areT m e))
  | _, _ => false
def isNet (d : PyData) : Bool := shp 5 d && (!(!isW (ith 0 d) 1 4 || !isW (ith 1 d) 0 4) && netAt (ith 0 d) (ith 1 d) (ith 2 d) (ith 3 d) (ith 4 d))
def spNet (Ps : List Addr) : Sp := fun vs H Q _ => ∃ x d, vs = [x] ∧ Th H x d ∧ Tbs Ps H ∧ ∀ H', Grown Ps H H' → Q (.bl (isNet d)) H'
section
variable {P : Program} {w : World} {K : PySem.W.Frag} {mg : Str → Option Value} {base : Heap}
theorem scNet : FnScope ["value", "many", "unknowns", "pipes", "filled", "seen"] ["value"] (defScope sNet) := ⟨rfl, rfl, rfl, by decide +kernel, rfl, by decide +kernel, by decide +kernel⟩
theorem ok_net {f fI fP fT : Addr} {fd fdI fdP fdT : FuncData} {Ps : List Addr} {u1 u2 u3 : Value} (F : Fun K "is_net" "is_net" sNet f fd) (T : TxT mg) (m1 : mg "MOST_TANKS" = some u1) (r1 : RelV (.int 4) u1) (m2 : mg "MOST_UNKNOWNS" = some u2) (r2 : RelV (.int 4) u2) (m3 : mg "MOST_TOGETHER" = some u3) (r3 : RelV (.int 7) u3)
    (FI : FnOk P w K mg base CX0 2 fI fdI ["value", "least", "most"] spWithin) (mI : mg "is_within" = some (.ref fI)) (kI : PySem.W.keepIn K (.ref fI) = true) (bI : Binds K fdI ["value", "least", "most"] [])
    (FP : FnOk P w K mg base CX0 7 fP fdP ["pipes", "many", "unknowns"] (spPipes Ps)) (mP : mg "_are_pipes" = some (.ref fP)) (kP : PySem.W.keepIn K (.ref fP) = true) (bP : Binds K fdP ["pipes", "many", "unknowns"] [])
    (FT : FnOk P w K mg base CX0 4 fT fdT ["tanks", "many"] (spTanks Ps)) (mT : mg "_are_tanks" = some (.ref fT)) (kT : PySem.W.keepIn K (.ref fT) = true) (bT : Binds K fdT ["tanks", "many"] []) :
    FnOk P w K mg base CX0 8 f fd ["value"] (spNet Ps) := by
  refine F.ok scNet (fun vs H Q E h => ?_) (fun cdv A outer s H vs Q E hr h => ?_)
  · obtain ⟨x, d, rfl, _⟩ := h
    rfl
  · obtain ⟨x, d, rfl, hx, ht, k⟩ := h
    have hr2 : Room 2 _ := hr.mono (by decide)
    have hr4 : Room 4 _ := hr.mono (by decide)
    refine ⟨_, pss_cons (ps_if (pw_or (pt_cmpR op_notTyB (pe_callTy call_type1 (by rfl) T.type (by decide +kernel) (pa_cons (pv 0) pa_nil)) (pe_bltn (v := .ty "tuple") (by rfl) T.tuple (by decide +kernel) rfl) (nomark _))
        (pw_or1 (pt_cmpR op_ne (pe_callB call_len_seq (by rfl) T.len PySem.boot_len (pa_cons (pv 0) pa_nil)) pe_int (nomark _)))).pt (pss_one (ps_ret pe_bl)) pss_nil)
      (pss_cons (ps_asg (pv 0) (pg_tup rfl (pgs_cons (pg_name (i := 1) scNet.nd rfl (Or.inl rfl)) (pgs_cons (pg_name (i := 2) scNet.nd rfl (Or.inl rfl)) (pgs_cons (pg_name (i := 3) scNet.nd rfl (Or.inl rfl)) (pgs_cons (pg_name (i := 4) scNet.nd rfl (Or.inl rfl)) (pgs_cons (pg_name (i := 5) scNet.nd rfl (Or.inl rfl)) pgs_nil)))))))
      (pss_cons (ps_if (pw_or (pt_not (pt_val (pe_call FI hr2 (by rfl) mI kI bI .nil pass0 (pa_cons (pv 1) (pa_cons pe_int (pa_cons (pe_glob (by rfl) m1 r1) pa_nil))))))
          (pw_or1 (pt_not (pt_val (pe_call FI hr2 (by rfl) mI kI bI .nil pass0 (pa_cons (pv 2) (pa_cons pe_int (pa_cons (pe_glob (by rfl) m2 r2) pa_nil)))))))).pt (pss_one (ps_ret pe_bl)) pss_nil)
      (pss_cons (ps_if (pw_or (pt_cmpR op_gt (pe_op op_add (pv 1) (pv 2)) (pe_glob (by rfl) m3 r3) (nomark _)) (pw_or1 (pt_not (pt_val (pe_call FP hr (by rfl) mP kP bP .nil pass0 (pa_cons (pv 3) (pa_cons (pv 1) (pa_cons (pv 2) pa_nil)))))))).pt (pss_one (ps_ret pe_bl)) pss_nil)
      (pss_one (ps_ret (pe_and (pe_call FT hr4 rfl mT kT bT .nil pass0 (pa_cons (pv 4) (pa_cons (pv 1) pa_nil))) (pe_one (pe_call FT hr4 rfl mT kT bT .nil pass0 (pa_cons (pv 5) (pa_cons (pv 1) pa_nil)))))))))), ?_⟩
    have g0 : Grown Ps H H := Grown.same (Same.refl H) ht
    refine i_guard (ti_shape rfl (vi_var rfl) hx) (fun z => ?_) (fun z => ?_)
    · have z : shp 5 d = false := by simpa using z
      have e : isNet d = false := by simp [isNet, z]
      have := k H g0
      rw [e] at this
      exact this
    have z0 : shp 5 d = true := by simpa using z
    obtain ⟨a, xs, ds, rfl, rfl, e, ha, l2⟩ := shp_of hx z
    obtain ⟨d1, d2, d3, d4, d5, rfl⟩ := len5 l2
    cases ha with
    | cons h1 hr1 => cases hr1 with
      | cons h2 hr2' => cases hr2' with
        | cons h3 hr3 => cases hr3 with
          | cons h4 hr4' => cases hr4' with
            | cons h5 hr5 =>
              cases hr5
              refine ⟨_, rfl, a, _, rfl, SqT.of e, rfl, _, _, rfl, _, _, rfl, _, _, rfl, _, _, rfl, _, _, rfl, rfl, ?_⟩
              have e8 : isNet (.tuple [d1, d2, d3, d4, d5]) = (!(!isW d1 1 4 || !isW d2 0 4) && netAt d1 d2 d3 d4 d5) := by
                unfold isNet
                rw [z0, Bool.true_and]
                rfl
              rw [e8] at k
              dsimp only
              refine i_guard (D := { nx := _, rt := Q }) (ti_or (ti_not (ti_val (vi_call (ai_cons (vi_var rfl) (ai_cons vi_c (ai_cons vi_c ai_nil))) fun Q q => spWithin_at h1 q)))
                fun _ => ti_not (ti_val (vi_call (ai_cons (vi_var rfl) (ai_cons vi_c (ai_cons vi_c ai_nil))) fun Q q => spWithin_at h2 q))) (fun z => ?_) (fun z => ?_)
              · have := k H g0
                rw [z] at this
                exact this
              rw [z, Bool.not_false, Bool.true_and] at k
              rw [Bool.or_eq_false_iff, Bool.not_eq_false', Bool.not_eq_false'] at z
              have hm4 : ∀ {i}, d1 = .int i → i ≤ 4 := fun {i} e => by
                have := z.1
                rw [e] at this
                simp only [isW, Bool.and_eq_true, decide_eq_true_eq] at this
                exact this.2
              obtain ⟨m, rfl, rfl⟩ := isW_int h1 z.1
              obtain ⟨u, rfl, rfl⟩ := isW_int h2 z.2
              have hm4 := hm4 rfl
              have e9 : netAt (.int m) (.int u) d3 d4 d5 = (!decide (7 < m + u) && (areP m u d3 && (areT m d4 && areT m d5))) := rfl
              rw [e9] at k
              refine ⟨_, rfl, _, rfl, _, _, rfl, rfl, _, _, rfl, rfl, _, rfl, ?_⟩
              cases c7 : decide (7 < m + u) with
              | true =>
                rw [c7] at k
                exact k H g0
              | false =>
                rw [c7, Bool.not_false, Bool.true_and] at k
                dsimp only
                rw [if_neg Bool.false_ne_true]
                refine ⟨_, rfl, _, rfl, _, rfl, _, _, _, _, rfl, h3, ht, fun H1 g1 => ⟨_, rfl, ?_⟩⟩
                cases cp : areP m u d3 with
                | false =>
                  rw [cp] at k
                  exact k H1 g1
                | true =>
                  rw [cp, Bool.true_and] at k
                  refine ⟨_, rfl, _, rfl, _, _, _, rfl, h4.mono g1.sm, g1.tbs, by omega, fun H2 g2 => ⟨_, rfl, ?_⟩⟩
                  cases ct : areT m d4 with
                  | false =>
                    rw [ct] at k
                    exact k H2 (g1.trans g2)
                  | true =>
                    rw [ct, Bool.true_and] at k
                    dsimp only
                    rw [if_pos rfl]
                    exact ⟨_, rfl, _, rfl, _, _, _, rfl, (h5.mono g1.sm).mono g2.sm, g2.tbs, by omega, fun H3 g3 => k H3 ((g1.trans g2).trans g3)⟩
end
end KP

set_option Elab.async false
set_option linter.all false
set_option maxRecDepth 100000
set_option maxHeartbeats 1000000
/-! ### the law's own look: whole numbers -/
namespace KP
open PySem PySem.Spec PyProof.Rows L2 KX KT
abbrev lJar : Stmt := top 48
abbrev lDip : Stmt := top 49
abbrev lOne : Stmt := top 50
abbrev lSame : Stmt := top 51
abbrev lFrac : Stmt := top 52
abbrev lToldPart : Stmt := top 57
abbrev lLot : Stmt := top 58
abbrev lNet : Stmt := top 59
abbrev lRight : Stmt := top 71
abbrev lLaw : Stmt := top 72
structure TxL (mg : Str → Option Value) : Prop extends TxT mg where
  isinstance : mg "isinstance" = none
  bool : mg "bool" = none
  range : mg "range" = none
  any : mg "any" = none
theorem Th.tyx {K : PySem.W.Frag} {H : Hp} {v : V} {d : PyData} (h : Th H v d) : TyX K H v (.type (tyN d)) := by
  cases h with
  | non => exact .base .non
  | bl b => exact .base (.bl b)
  | int i => exact .base (.int i)
  | str x => exact .base (.str x)
  | lst e _ => exact .base (.lst e)
  | tup' e _ => exact e.elim (fun e => .base (.tup e)) fun ⟨_, e⟩ => .fTuple e
  | emp e => exact .base (.dK e)
def isin (a n : String) : Bool := decide (a = n) || (decide (a = "bool") && decide (n = "int"))
theorem kit_all : ∀ a ∈ ["NoneType", "bool", "int", "str", "list", "tuple", "dict"], ∀ n ∈ ["int", "bool", "tuple", "str"], kitB a n = some (isin a n) := by decide +kernel
theorem tyN_mem (d : PyData) : tyN d ∈ ["NoneType", "bool", "int", "str", "list", "tuple", "dict"] := by cases d <;> simp [tyN]
section
variable {K : PySem.W.Frag} {σ : L2.St} {H : Hp}
theorem vi_isi {te : TE} {x : V} {d : PyData} {n : String} (ha : Vi te σ H x) (h : Th H x d) (hn : n ∈ ["int", "bool", "tuple", "str"]) : Vi (tCB (rIsi K) (tCons te (tCons (tC (.ty n)) tNil))) σ H (.bl (isin (tyN d) n)) :=
  vi_cb (ai_cons ha (ai_cons vi_c ai_nil)) fun Q q => ⟨_, _, _, _, _, rfl, .ty n, h.tyx, kit_ty (kit_all _ (tyN_mem d) _ hn), q⟩
theorem vi_not {ta : TE} {a : Bool} (h : Vi ta σ H (.bl a)) : Vi (tNotV ta) σ H (.bl (!a)) := fun Q q => h _ ⟨a, rfl, q⟩
end
section
variable {P : Program} {w : World} {K : PySem.W.Frag} {mg : Str → Option Value} {base : Heap}
end
end KP

set_option Elab.async false
set_option linter.all false
set_option maxRecDepth 100000
set_option maxHeartbeats 1000000
/-! ### readings behind which the heap has only grown; all([.. for x in tuple]) -/
namespace KP
open PySem PySem.Spec PyProof.Rows L2 KX KT
def Vg (t : TE) (σ : L2.St) (H : Hp) (v : V) : Prop := ∀ Q : VK, (∀ H', Same H H' → Q v H') → t σ H Q
def Tg (t : TT) (σ : L2.St) (H : Hp) (b : Bool) : Prop := ∀ Q : Bool → Hp → Prop, (∀ H', Same H H' → Q b H') → t σ H Q
section
variable {K : PySem.W.Frag} {σ : L2.St} {H : Hp}
theorem tg_of {t : TT} {b : Bool} (h : Ti t σ H b) : Tg t σ H b := fun Q q => h _ (q H (Same.refl H))
theorem vg_of {t : TE} {v : V} (h : Vi t σ H v) : Vg t σ H v := fun Q q => h _ (q H (Same.refl H))
theorem tg_or {t u : TT} {a b : Bool} (h : Tg t σ H a) (h2 : a = false → ∀ H', Same H H' → Tg u σ H' b) : Tg (tOr t u) σ H (a || b) := fun Q q => h _ fun H' s => by
  cases a with
  | true => rw [if_pos rfl]; simpa using q H' s
  | false => rw [if_neg Bool.false_ne_true]; exact h2 rfl H' s _ fun H2 s2 => by simpa using q H2 (s.trans s2)
theorem tg_not {t : TT} {a : Bool} (h : Tg t σ H a) : Tg (tNot t) σ H (!a) := fun Q q => h _ fun H' s => q H' s
theorem tg_val {te : TE} {b : Bool} (h : Vg te σ H (.bl b)) : Tg (tB te) σ H b := fun Q q => h _ fun H' s => ⟨b, rfl, q H' s⟩
theorem tg_test {te : TE} {b : Bool} (h : Vg te σ H (.bl b)) : Tg (tTest te) σ H b := fun Q q => h _ fun H' s => ⟨b, rfl, q H' s⟩
theorem g_guard {t : TT} {tz : TS} {b : Bool} {D : Ends} (h : Tg t σ H b) (h1 : b = true → ∀ H', Same H H' → D.rt (.bl false) H') (h2 : b = false → ∀ H', Same H H' → tz D σ H') : tSeq (tIfS t (tRet (tC (.bl false))) tNext) tz D σ H := h _ fun H' s => by
  cases b with
  | true => rw [if_pos rfl]; exact h1 rfl H' s
  | false => rw [if_neg Bool.false_ne_true]; exact h2 rfl H' s
theorem g_ret {te : TE} {v : V} {D : Ends} (h : Vg te σ H v) (k : ∀ H', Same H H' → D.rt v H') : tRet te D σ H := h _ k
theorem vg_and {ta tb : TE} {a b : Bool} (h : Vg ta σ H (.bl a)) (h2 : a = true → ∀ H', Same H H' → Vg tb σ H' (.bl b)) : Vg (tAndV ta tb) σ H (.bl (a && b)) := fun Q q => h _ fun H' s => ⟨a, rfl, by
  cases a with
  | true => rw [if_pos rfl]; exact h2 rfl H' s _ fun H2 s2 => by simpa using q H2 (s.trans s2)
  | false => rw [if_neg Bool.false_ne_true]; simpa using q H' s⟩
/-- all([elt for x in te]) -/
theorem vg_all {te tel : TE} {a : Addr} {j : Nat} {vs : List Nat} {xs : List V} {ds : List PyData} {pd : PyData → Bool} (h : Vi te σ H (.ref a)) (e : Rd H a (.tup xs)) (ha : ThAll H xs ds) (hl : ds.length ≤ 2000) (hw : ∀ x : V, wipe ((wipe σ vs).set j (some x)) vs = wipe σ vs)
    (he : ∀ H2 x d, Same H H2 → Th H2 x d → Vg tel ((wipe σ vs).set j (some x)) H2 (.bl (pd d))) : Vg (tCB (rAll K) (tCons (tLc (iTup K te) (gName j) tYes tel vs) tNil)) σ H (.bl (ds.all pd)) := fun Q q => by
  have hlen := all2 ha
  refine h _ ⟨a, rfl, ⟨xs, SqT.of e⟩, fun D hD => ?_⟩
  refine lc_it (walk_tup (K := K) (a := a) (xs := xs)) (fun n H' => Same H H' ∧ H' D = some (.lst ((ds.take n).map fun d => V.bl (pd d)))) ⟨same_upd hD, upd_same⟩ (fun n H' _ z => SqT.of (z.1.rd e)) ?_ ?_
  · rintro i x H' H'' hi ⟨s7, hD'⟩ ⟨rfl, hx⟩
    obtain ⟨d, hdi, hth⟩ := all_get ha hx
    refine ⟨hw x, ?_⟩
    dsimp only [tYes]
    rw [if_pos rfl]
    refine he _ x d s7 (hth.mono (Sm.same s7)) _ fun H2 s2 => ⟨_, s2 _ _ hD', ?_, fun b o eb => ?_, ?_⟩
    · rw [List.length_map, List.length_take]
      exact Nat.lt_of_le_of_lt (show min i ds.length ≤ 2000 by omega) (by decide)
    · have nb : b ≠ D := fun z => by
        rw [z, hD] at eb
        cases eb
      rw [upd_ne nb]
      exact s2 _ _ (s7 _ _ eb)
    · rw [upd_same, List.take_add_one, hdi, List.map_append]
      rfl
  · rintro H' ⟨s7, hD'⟩
    have e1 : ds.take xs.length = ds := List.take_of_length_le (by omega)
    rw [e1] at hD'
    refine ⟨D, ds.map pd, rfl, SqL.of (by rw [hD', List.map_map]; rfl), ?_⟩
    have e2 : (ds.map pd).all id = ds.all pd := by rw [List.all_map]; rfl
    rw [e2]
    exact q _ s7
end
end KP

set_option Elab.async false
set_option linter.all false
set_option maxRecDepth 100000
set_option maxHeartbeats 4000000
/-! ### the law's draws -/
namespace KJ
open PySem PySem.Spec PyProof.Rows L2 KX KP
abbrev sJar : Stmt := top 48
abbrev sDip : Stmt := top 49
abbrev sOne : Stmt := top 50

/-- a jar at j: a number to be parted, a mixed one, how often it was dipped (at most n) -/
def JarAt (H : Hp) (j : Addr) (n : Nat) : Prop := ∃ a b c : Int, H j = some (.lst [.int a, .int b, .int c]) ∧ 0 ≤ a ∧ 0 ≤ b ∧ b < 2147483399 ∧ 0 ≤ c ∧ c ≤ n
/-- all but j as it was -/
def But (j : Addr) (H H' : Hp) : Prop := ∀ b o, b ≠ j → H b = some o → H' b = some o
theorem But.trans {j : Addr} {H H1 H2 : Hp} (a : But j H H1) (b : But j H1 H2) : But j H H2 := fun c o n h => b c o n (a c o n h)
theorem But.same {j : Addr} {H H1 : Hp} (a : Same H H1) : But j H H1 := fun c o _ h => a c o h
def spJar (K : PySem.W.Frag) : Sp := fun vs H Q _ => ∃ (a : Addr) (ns : List Int) (t : Nat), vs = [.ref a, .int t] ∧ SqL K H a (ns.map V.int) ∧ ns.length ≤ 63 ∧ t ≤ 100 ∧ ∀ j H', H j = none → Same H H' → JarAt H' j 0 → Q (.ref j) H'
def spDip : Sp := fun vs H Q _ => ∃ (j : Addr) (top : Int) (n : Nat), vs = [.ref j, .int top] ∧ 0 < top ∧ top < 1000000 ∧ JarAt H j n ∧ n < 1000000 ∧ ∀ r H', 0 ≤ r → r < top → But j H H' → JarAt H' j (n + 1) → Q (.int r) H'
/-- one of some things: a list or a tuple -/
def spOne (K : PySem.W.Frag) : Sp := fun vs H Q _ => ∃ (j p : Addr) (xs : List V) (n : Nat), vs = [.ref j, .ref p] ∧ p ≠ j ∧ (H p = some (.lst xs) ∨ Rd H p (.tup xs)) ∧ xs ≠ [] ∧ xs.length < 1000000 ∧ JarAt H j n ∧ n < 1000000 ∧
  ∀ x H', x ∈ xs → But j H H' → JarAt H' j (n + 1) → Q x H'
structure TxJ (mg : Str → Option Value) : Prop where
  int : mg "int" = none
  len : mg "len" = none
  abs : mg "abs" = none
  dvm : mg "divmod" = none
section
variable {P : Program} {w : World} {K : PySem.W.Frag} {mg : Str → Option Value} {base : Heap}
theorem scJar : FnScope ["script", "turn", "mixed", "cell", "own"] ["script", "turn"] (defScope sJar) := ⟨rfl, rfl, rfl, by decide +kernel, rfl, by decide +kernel, by decide +kernel⟩
theorem ok_jar {f : Addr} {fd : FuncData} (F : Fun K "_law_jar" "_law_jar" sJar f fd) (T : TxJ mg) : FnOk P w K mg base CX0 1 f fd ["script", "turn"] (spJar K) := by
  refine F.ok scJar (fun vs H Q E h => ?_) (fun cdv A outer s H vs Q E hr h => ?_)
  · obtain ⟨a, ns, t, rfl, _⟩ := h
    rfl
  · obtain ⟨a, ns, t, rfl, hS, hn, ht, k⟩ := h
    refine ⟨_, pss_cons (ps_set (i := 2) scJar.nd rfl (Or.inl rfl) (pe_op op_add pe_int (pe_op op_mul pe_int (pv 1))))
      (pss_cons (ps_for PassesOwn.never rfl (pi_list (pe_slice sl_list (pv 0) po_none (po_some pe_int))) (pg_name (i := 3) scJar.nd rfl (Or.inl rfl))
        (pss_one (ps_set (i := 2) scJar.nd rfl (Or.inl rfl) (pe_op op_mod (pe_callTy call_int1 (by rfl) T.int (by decide +kernel) (pa_cons
          (pe_op op_add (pe_op op_add (pe_op op_mul (pv 2) pe_int) (pe_op op_mul (pe_op op_mod (pe_callTy call_int1 (by rfl) T.int (by decide +kernel) (pa_cons (pv 3) pa_nil)) pe_int) pe_int)) pe_int) pa_nil)) pe_int))))
      (Evl.pss_cut (ps_set (i := 4) scJar.nd rfl (Or.inl rfl) (pe_ifExp (pt_cmpR op_lt (pv 1) (pe_callB call_len_seq (by rfl) T.len PySem.boot_len (pa_cons (pv 0) pa_nil)) (nomark _))
          (pe_callTy call_int1 (by rfl) T.int (by decide +kernel) (pa_cons (pe_ix ix_list (pv 0) (pv 1) (fun _ _ => rfl)) pa_nil)) pe_int))
      (pss_one (ps_ret (pe_lst (pa_cons (pe_ifExp (PW.pt (pw_or (pt_cmpR op_lt (pv 4) pe_int (nomark _)) (pw_or1 (pt_cmpR op_ge (pv 4) (pe_op op_pow pe_int pe_int) (nomark _)))))
          (pe_callB call_abs (by rfl) T.abs (by decide +kernel) (pa_cons (pv 4) pa_nil)) pe_int) (pa_cons (pv 2) (pa_cons pe_int pa_nil)))))))), ?_⟩
    refine ⟨_, rfl, _, _, rfl, rfl, .inl ⟨by decide, by decide⟩, _, _, rfl, rfl, ?_⟩
    refine ⟨_, rfl, _, rfl, a, _, rfl, hS, fun p hp => ⟨p, rfl, ⟨_, SqL.of upd_same⟩, ?_⟩⟩
    have allI : ∀ x ∈ cutV (ns.map V.int) none (some 10), ∃ i, x = V.int i := fun x hx => by
      have h1 := List.mem_of_mem_drop (List.mem_of_mem_take hx)
      obtain ⟨i, _, rfl⟩ := List.mem_map.mp h1
      exact ⟨i, rfl⟩
    refine for_list (xs := cutV (ns.map V.int) none (some 10)) (fun i σ H' => ∃ (m : Int) (v : Option V), σ = [some (.ref a), some (.int t), some (.int m), v, none] ∧ 0 ≤ m ∧ m < 2147483399 ∧ Same (upd H p (.lst (cutV (ns.map V.int) none (some 10)))) H')
      ⟨_, none, rfl, by omega, by omega, Same.refl _⟩ (fun i σ H' _ ⟨_, _, _, _, _, z⟩ => SqL.of (z _ _ upd_same)) ?_ ?_
    · rintro i x σ H' hi ⟨m, v, rfl, m0, m1, sm⟩
      obtain ⟨c, rfl⟩ := allI x (List.mem_of_getElem? hi)
      have hc0 := Int.emod_nonneg c (show (2147483399 : Int) ≠ 0 by decide)
      have hc1 := Int.emod_lt_of_pos c (show (0 : Int) < 2147483399 by decide)
      refine ⟨_, rfl, _, _, rfl, rfl, .inl ⟨by omega, by omega⟩, _, rfl, .inl ⟨_, rfl, _, _, rfl, rfl, (by decide : (0 : Int) < 2147483399), _, _, rfl, rfl, .inl ⟨by omega, by omega⟩, _, _, rfl, rfl, _, _, rfl, rfl, .inl ⟨_, rfl, _, _, rfl, rfl, (by decide : (0 : Int) < 2147483399), ?_⟩⟩⟩
      exact ⟨_, _, rfl, Int.emod_nonneg _ (by decide), Int.emod_lt_of_pos _ (by decide), sm⟩
    · rintro σ H' ⟨m, v, rfl, m0, m1, sm⟩
      have sm0 : Same H H' := fun b o e => sm b o (by rw [upd_ne (ne_of_none e hp)]; exact e)
      refine ⟨fun σ' H2 => ∃ own : Int, σ' = [some (.ref a), some (.int t), some (.int m), v, some (.int own)] ∧ Same H H2, ?_, ?_⟩
      · refine ⟨_, rfl, _, rfl, a, _, rfl, .inl (sm0.seq hS), _, _, rfl, rfl, _, rfl, ?_⟩
        refine ite2 (fun c => ?_) (fun c => ⟨_, rfl, sm0⟩)
        have c' := of_decide_eq_true c
        rw [List.length_map] at c'
        have ht' : t < ns.length := by omega
        exact ⟨_, rfl, _, rfl, a, _, _, .int ns[t], rfl, rfl, sm0.seq hS, atI_nat (by rw [List.getElem?_map, List.getElem?_eq_getElem ht']; rfl), .inl ⟨_, rfl, _, rfl, sm0⟩⟩
      · rintro σ' H2 ⟨own, rfl, sm2⟩
        have fin : ∀ x : Int, 0 ≤ x → ∀ j, H2 j = none → Q (.ref j) (upd H2 j (.lst [.int x, .int m, .int 0])) := fun x hx j hj =>
          k j _ (sm2.free hj) (fun b o e => by rw [upd_ne (ne_of_none (sm2 b o e) hj)]; exact sm2 b o e) ⟨x, m, 0, upd_same, hx, m0, m1, by decide, by decide⟩
        have l3 : ([V.int 0, .int 0, .int 0] : List V).length ≤ sizeLine := by decide
        refine ⟨_, rfl, _, _, rfl, rfl, _, rfl, ?_⟩
        refine ite2 (fun c => iteT ⟨_, rfl, _, rfl, _, rfl, l3, fin _ ?_⟩) (fun c => ⟨_, rfl, _, _, rfl, rfl, ⟨by decide, by decide, by decide⟩, _, _, rfl, rfl, _, rfl, ?_⟩)
        · split <;> omega
        · refine ite2 (fun c => ⟨_, rfl, _, rfl, _, rfl, l3, fin _ ?_⟩) (fun c => ⟨_, rfl, l3, fin _ (by decide)⟩)
          split <;> omega
theorem scDip : FnScope ["jar", "top", "figure", "stirred"] ["jar", "top"] (defScope sDip) := ⟨rfl, rfl, rfl, by decide +kernel, rfl, by decide +kernel, by decide +kernel⟩
theorem ok_dip {f : Addr} {fd : FuncData} (F : Fun K "_law_dip" "_law_dip" sDip f fd) (T : TxJ mg) : FnOk P w K mg base CX0 1 f fd ["jar", "top"] spDip := by
  refine F.ok scDip (fun vs H Q E h => ?_) (fun cdv A outer s H vs Q E hr h => ?_)
  · obtain ⟨j, t, n, rfl, _⟩ := h
    rfl
  · obtain ⟨j, t, n, rfl, t0, t1, ⟨a, b, c, hj, a0, b0, b1, c0, c1⟩, hn, k⟩ := h
    refine ⟨_, pss_cons (ps_if (pt_cmpR op_gt (pe_ix ix_list (pv 0) pe_int (fun _ _ => rfl)) pe_int (nomark _))
        (pss_cons (ps_asg (pe_callB call_divmodW (by rfl) T.dvm (by decide +kernel) (pa_cons (pe_ix ix_list (pv 0) pe_int (fun _ _ => rfl)) (pa_cons (pv 1) pa_nil)))
            (pg_tup rfl (pgs_cons (pg_sub (pv 0) pe_int set_list) (pgs_cons (pg_name (i := 2) scDip.nd rfl (Or.inl rfl)) pgs_nil))))
          (pss_one (ps_ret (pv 2)))) pss_nil)
      (pss_cons (ps_asg (pe_op op_add (pe_ix ix_list (pv 0) pe_int (fun _ _ => rfl)) pe_int) (pg_sub (pv 0) pe_int set_list))
      (pss_cons (ps_set (i := 3) scDip.nd rfl (Or.inl rfl) (pe_op op_mod (pe_callTy call_int1 (by rfl) T.int (by decide +kernel) (pa_cons
          (pe_op op_add (pe_ix ix_list (pv 0) pe_int (fun _ _ => rfl)) (pe_op op_mul pe_int (pe_ix ix_list (pv 0) pe_int (fun _ _ => rfl)))) pa_nil)) pe_int))
      (pss_cons (ps_asg (pe_op op_mod (pe_callTy call_int1 (by rfl) T.int (by decide +kernel) (pa_cons
          (pe_op op_add (pe_op op_mul (pv 3) (pe_op op_add (pe_op op_mod (pe_callTy call_int1 (by rfl) T.int (by decide +kernel) (pa_cons (pv 3) pa_nil)) pe_int) pe_int))
            (pe_op op_mul pe_int (pe_ix ix_list (pv 0) pe_int (fun _ _ => rfl)))) pa_nil)) pe_int) (pg_sub (pv 0) pe_int set_list))
      (pss_one (ps_ret (pe_op op_mod (pe_callTy call_int1 (by rfl) T.int (by decide +kernel) (pa_cons (pe_op op_fdiv (pe_ix ix_list (pv 0) pe_int (fun _ _ => rfl)) pe_int) pa_nil)) (pv 1))))))), ?_⟩
    have at0 : ∀ x y z : Int, atI [V.int x, .int y, .int z] 0 = some (.int x) := fun _ _ _ => rfl
    have at1 : ∀ x y z : Int, atI [V.int x, .int y, .int z] 1 = some (.int y) := fun _ _ _ => rfl
    have at2 : ∀ x y z : Int, atI [V.int x, .int y, .int z] 2 = some (.int z) := fun _ _ _ => rfl
    refine ⟨_, rfl, _, _, _, _, rfl, rfl, SqL.of hj, at0 _ _ _, _, _, rfl, rfl, _, rfl, ?_⟩
    refine ite2 (fun ca => ?_) (fun ca => ?_)
    · have ha := of_decide_eq_true ca
      refine ⟨_, rfl, _, _, _, _, rfl, rfl, SqL.of hj, at0 _ _ _, _, rfl, _, _, rfl, ⟨t0, PyProof.noPylong_of_log2 ?_⟩, fun p hp => ?_⟩
      · refine PySem.Flt.log2_lt_of (by decide) (Nat.lt_of_lt_of_le (show t.natAbs < 1000000 by omega) ?_)
        exact Nat.le_trans (by decide : 1000000 ≤ 2 ^ 20) (Nat.pow_le_pow_right (by decide) (by decide))
      · have npj : j ≠ p := ne_of_none hj hp
        refine ⟨p, _, rfl, SqT.of upd_same, rfl, _, _, rfl, ⟨_, rfl, j, _, 0, 0, rfl, rfl, Eq.trans (upd_ne npj) hj, rfl, ?_⟩⟩
        refine ⟨_, _, rfl, rfl, _, rfl, k _ _ (Int.emod_nonneg _ (by omega)) (Int.emod_lt_of_pos _ t0) (fun x o nx e => ?_) ⟨a / t, b, c, upd_same, Int.ediv_nonneg a0 (by omega), b0, b1, c0, by omega⟩⟩
        rw [upd_ne nx, upd_ne (ne_of_none e hp)]
        exact e
    · have c2 : (28657 : Int) * (c + 1) = (c + 1) * 28657 := Int.mul_comm _ _
      refine ⟨_, rfl, _, _, _, _, rfl, rfl, SqL.of hj, at2 _ _ _, _, _, rfl, rfl, _, rfl, j, _, 2, 2, rfl, rfl, hj, rfl, ?_⟩
      have h1 : (upd H j (.lst ([V.int a, .int b, .int c].set 2 (.int (c + 1))))) j = some (.lst [.int a, .int b, .int (c + 1)]) := upd_same
      refine ⟨_, rfl, _, _, _, _, rfl, rfl, SqL.of h1, at1 _ _ _, _, rfl, _, _, _, _, rfl, rfl, SqL.of h1, at2 _ _ _, _, _, rfl, rfl, .inl ⟨by decide, by decide⟩, _, _, rfl, rfl, .inl ⟨_, rfl, _, _, rfl, rfl, (by decide : (0 : Int) < 2147483399), ?_⟩⟩
      have s0 := Int.emod_nonneg (b + 28657 * (c + 1)) (show (2147483399 : Int) ≠ 0 by decide)
      have s1 := Int.emod_lt_of_pos (b + 28657 * (c + 1)) (show (0 : Int) < 2147483399 by decide)
      refine ⟨_, rfl, _, rfl, .inl ⟨_, rfl, _, _, rfl, rfl, (by decide : (0 : Int) < 5003), _, _, rfl, rfl, _, _, rfl, rfl, .inl ⟨by omega, by omega⟩, _, rfl, _, _, _, _, rfl, rfl, SqL.of h1, at2 _ _ _, _, _, rfl, rfl, .inl ⟨by decide, by decide⟩, _, _, rfl, rfl,
        .inl ⟨_, rfl, _, _, rfl, rfl, (by decide : (0 : Int) < 2147483399), _, rfl, j, _, 1, 1, rfl, rfl, h1, rfl, ?_⟩⟩⟩
      refine ⟨_, rfl, _, _, _, _, rfl, rfl, SqL.of upd_same, at1 _ _ _, _, _, rfl, rfl, ⟨by decide, by decide⟩, .inl ⟨_, rfl, _, rfl, _, _, rfl, rfl, t0, ?_⟩⟩
      refine k _ _ (Int.emod_nonneg _ (by omega)) (Int.emod_lt_of_pos _ t0) (fun x o nx e => ?_) ⟨a, _, c + 1, upd_same, a0, Int.emod_nonneg _ (by decide), Int.emod_lt_of_pos _ (by decide), by omega, by omega⟩
      rw [upd_ne nx, upd_ne nx]
      exact e
theorem scOne : FnScope ["jar", "some"] ["jar", "some"] (defScope sOne) := ⟨rfl, rfl, rfl, by decide +kernel, rfl, by decide +kernel, by decide +kernel⟩
theorem ok_one {f fD : Addr} {fd fdD : FuncData} (F : Fun K "_law_one_of" "_law_one_of" sOne f fd) (T : TxJ mg) (FD : FnOk P w K mg base CX0 1 fD fdD ["jar", "top"] spDip) (mD : mg "_law_dip" = some (.ref fD)) (kD : PySem.W.keepIn K (.ref fD) = true) (bD : Binds K fdD ["jar", "top"] []) :
    FnOk P w K mg base CX0 2 f fd ["jar", "some"] (spOne K) := by
  refine F.ok scOne (fun vs H Q E h => ?_) (fun cdv A outer s H vs Q E hr h => ?_)
  · obtain ⟨j, p, xs, n, rfl, _⟩ := h
    rfl
  · obtain ⟨j, p, xs, n, rfl, npj, hp, hx, hl, hj, hn, k⟩ := h
    have sq : SqL K H p xs ∨ SqT K H p xs := hp.elim (fun z => .inl (SqL.of z)) (fun z => .inr (.inl z))
    refine ⟨_, pss_one (ps_ret (pe_ix ix_seq (pv 1) (pe_call FD hr rfl mD kD bD .nil pass0 (pa_cons (pv 0) (pa_cons (pe_callB call_len_seq (by rfl) T.len PySem.boot_len (pa_cons (pv 1) pa_nil)) pa_nil))) (fun _ _ => rfl))), ?_⟩
    refine ⟨_, rfl, _, rfl, _, rfl, p, xs, rfl, sq, j, _, n, rfl, ?_, ?_, hj, hn, fun r H' r0 r1 bt hj' => ?_⟩
    · have := List.length_pos_iff.mpr hx
      omega
    · omega
    · obtain ⟨i, rfl⟩ := Int.eq_ofNat_of_zero_le r0
      have hi : i < xs.length := by omega
      have ha : atI xs ((i : Nat) : Int) = some xs[i] := atI_nat (List.getElem?_eq_getElem hi)
      have kk := k xs[i] H' (List.getElem_mem hi) bt hj'
      rcases hp with z | z
      · exact .inl ⟨p, _, _, _, rfl, rfl, SqL.of (bt _ _ npj z), ha, kk⟩
      · exact .inr (.inl ⟨p, _, _, _, rfl, rfl, z.elim (fun z => .inl (.inl (bt _ _ npj z))) (fun ⟨o, z⟩ => .inl (.inr ⟨o, bt _ _ npj z⟩)), ha, kk⟩)
end
end KJ

set_option Elab.async false
set_option linter.all false
set_option maxRecDepth 100000
set_option maxHeartbeats 1000000
/-! ### written data, beside a jar; drawn told fractions -/
namespace KP
open PySem PySem.Spec PyProof.Rows L2 KX KT KJ
/-- the heap without the jar -/
def hid (j : Addr) (H : Hp) : Hp := fun b => if b = j then none else H b
theorem hid_ne {j b : Addr} {H : Hp} (h : b ≠ j) : hid j H b = H b := if_neg h
theorem hid_same (j : Addr) (H : Hp) : Same (hid j H) H := fun b o e => by
  by_cases c : b = j
  · rw [c] at e
    have : hid j H j = none := if_pos rfl
    rw [this] at e
    cases e
  · rw [hid_ne c] at e
    exact e
theorem hid_but {j : Addr} {H H' : Hp} (h : KJ.But j H H') : Same (hid j H) (hid j H') := fun b o e => by
  by_cases c : b = j
  · rw [c] at e
    have : hid j H j = none := if_pos rfl
    rw [this] at e
    cases e
  · rw [hid_ne c] at e ⊢
    exact h b o c e
theorem Thj.but {j : Addr} {H H' : Hp} {v : V} {d : PyData} (h : Th (hid j H) v d) (b : KJ.But j H H') : Th (hid j H') v d := h.mono (Sm.same (hid_but b))
theorem Thj.same {j : Addr} {H H' : Hp} {v : V} {d : PyData} (h : Th (hid j H) v d) (b : Same H H') : Th (hid j H') v d := Thj.but h (KJ.But.same b)
theorem ThAllj.same {j : Addr} {H H' : Hp} {v : List V} {d : List PyData} (h : ThAll (hid j H) v d) (b : Same H H') : ThAll (hid j H') v d := ThAll.mono (Sm.same (hid_but (KJ.But.same b))) h
theorem Thj.th {j : Addr} {H : Hp} {v : V} {d : PyData} (h : Th (hid j H) v d) : Th H v d := h.mono (Sm.same (hid_same j H))
/-- a written datum -/
def Lit (j : Addr) (t : TE) (σ : L2.St) (d : PyData) : Prop := ∀ H Q, H j ≠ none → (∀ v H', Same H H' → Th (hid j H') v d → Q v H') → t σ H Q
def LitA (j : Addr) (t : TA) (σ : L2.St) (ds : List PyData) : Prop := ∀ (H : Hp) (Q : List V → Hp → Prop), H j ≠ none → (∀ vs H', Same H H' → ThAll (hid j H') vs ds → Q vs H') → t σ H Q
section
variable {j : Addr} {σ : L2.St}
theorem same_ne {H H' : Hp} (h : Same H H') (e : H j ≠ none) : H' j ≠ none := by
  cases c : H j with
  | none => exact absurd c e
  | some o =>
    rw [h j o c]
    simp
theorem lit_int {i : Int} : Lit j (tC (.int i)) σ (.int i) := fun H Q _ q => q _ _ (Same.refl H) (.int i)
theorem lit_str {x : Str} : Lit j (tC (.str x)) σ (.str x) := fun H Q _ q => q _ _ (Same.refl H) (.str x)
theorem lit_bl {b : Bool} : Lit j (tC (.bl b)) σ (.bool b) := fun H Q _ q => q _ _ (Same.refl H) (.bl b)
theorem lit_non : Lit j (tC .non) σ .none := fun H Q _ q => q _ _ (Same.refl H) .non
theorem lit_neg {i : Int} : Lit j (tUn (rU fun i => .int (-i)) (tC (.int i))) σ (.int (-i)) := fun H Q _ q => ⟨i, rfl, q _ _ (Same.refl H) (.int (-i))⟩
theorem litA_nil : LitA j tNil σ [] := fun H Q _ q => q _ _ (Same.refl H) .nil
theorem litA_cons {te : TE} {ta : TA} {d : PyData} {ds : List PyData} (h : Lit j te σ d) (h2 : LitA j ta σ ds) : LitA j (tCons te ta) σ (d :: ds) := fun H Q n q =>
  h H _ n fun v H1 s1 t1 => h2 H1 _ (same_ne s1 n) fun vs H2 s2 t2 => q _ _ (s1.trans s2) (.cons (Thj.same t1 s2) t2)
theorem new_ne {H : Hp} {p : Addr} (hp : H p = none) (n : H j ≠ none) : p ≠ j := fun z => n (by rw [← z]; exact hp)
theorem lit_tup {ta : TA} {ds : List PyData} (h : LitA j ta σ ds) (hl : ds.length ≤ 1000) : Lit j (tTup ta) σ (.tuple ds) := fun H Q n q =>
  h H _ n fun vs H1 s1 t1 => ⟨Nat.le_trans (by rw [all2 t1]; exact hl) (by decide), fun p hp => by
    have sp := same_upd (o := .tup vs) hp
    have np := new_ne hp (same_ne s1 n)
    exact q _ _ (s1.trans sp) (.tup (by rw [hid_ne np]; exact upd_same) (ThAllj.same t1 sp))⟩
theorem lit_lst {ta : TA} {ds : List PyData} (h : LitA j ta σ ds) (hl : ds.length ≤ 1000) : Lit j (tLst ta) σ (.list ds) := fun H Q n q =>
  h H _ n fun vs H1 s1 t1 => ⟨Nat.le_trans (by rw [all2 t1]; exact hl) (by decide), fun p hp => by
    have sp := same_upd (o := .lst vs) hp
    have np := new_ne hp (same_ne s1 n)
    exact q _ _ (s1.trans sp) (.lst (by rw [hid_ne np]; exact upd_same) (ThAllj.same t1 sp))⟩
theorem lit_emp : Lit j tDNewK σ (.dict []) := fun H Q n q p hp => by
  have sp := same_upd (o := .dK []) hp
  have np := new_ne hp n
  exact q _ _ sp (.emp (by rw [hid_ne np]; exact upd_same))
theorem all_mem {H : Hp} : ∀ {xs : List V} {ds : List PyData} {x : V}, ThAll H xs ds → x ∈ xs → ∃ d ∈ ds, Th H x d
  | _ :: _, _ :: _, x, .cons a b, h => by
    rcases List.mem_cons.mp h with e | h
    · rw [e]
      exact ⟨_, List.mem_cons_self, a⟩
    · obtain ⟨d, hd, t⟩ := all_mem b h
      exact ⟨d, List.mem_cons_of_mem _ hd, t⟩
/-- one of a written list (or tuple) -/
theorem one_of {H : Hp} {Q : VK} {E : XK} {p : Addr} {d : PyData} {ds : List PyData} {n : Nat} {K : PySem.W.Frag} (t : Th (hid j H) (.ref p) d) (hd : d = .list ds ∨ d = .tuple ds) (h0 : ds ≠ []) (hl : ds.length ≤ 1000) (hj : JarAt H j n) (hn : n < 1000000)
    (k : ∀ x e H', e ∈ ds → Th (hid j H') x e → KJ.But j H H' → JarAt H' j (n + 1) → Q x H') : spOne K [.ref j, .ref p] H Q E := by
  have fin : ∀ xs : List V, ThAll (hid j H) xs ds → (H p = some (.lst xs) ∨ Rd H p (.tup xs)) → p ≠ j → spOne K [.ref j, .ref p] H Q E := fun xs ta hp np =>
    ⟨j, p, xs, n, rfl, np, hp, fun z => by
      have := all2 ta
      rw [z] at this
      exact h0 (List.length_eq_zero_iff.mp this.symm), by rw [all2 ta]; exact Nat.lt_of_le_of_lt hl (by decide), hj, hn, fun x H' hx b jr => by
      obtain ⟨e, he, te⟩ := all_mem ta hx
      exact k x e H' he (Thj.but te b) b jr⟩
  have np : ∀ {u : HO}, hid j H p = some u → p ≠ j ∧ H p = some u := fun {u} e => by
    refine ⟨fun z => ?_, hid_same j H _ _ e⟩
    rw [z, show hid j H j = none from if_pos rfl] at e
    cases e
  rcases hd with rfl | rfl
  · cases t with
    | lst e ta => exact fin _ ta (.inl (np e).2) (np e).1
  · cases t with
    | tup' e ta => exact fin _ ta (.inr ((hid_same j H).rd e)) (e.elim (fun e => (np e).1) fun ⟨_, e⟩ => (np e).1)
end
theorem jar_ne {H : Hp} {j : Addr} {n : Nat} (h : JarAt H j n) : H j ≠ none := by
  obtain ⟨a, b, c, e, _⟩ := h
  rw [e]
  simp
theorem jar_same {H H' : Hp} {j : Addr} {n : Nat} (h : JarAt H j n) (s : Same H H') : JarAt H' j n := by
  obtain ⟨a, b, c, e, r⟩ := h
  exact ⟨a, b, c, s _ _ e, r⟩
theorem jar_more {H : Hp} {j : Addr} {n m : Nat} (h : JarAt H j n) (hm : n ≤ m) : JarAt H j m := by
  obtain ⟨a, b, c, e, r0, r1, r2, r3, r4⟩ := h
  exact ⟨a, b, c, e, r0, r1, r2, r3, by omega⟩
end KP

set_option Elab.async false
set_option linter.all false
set_option maxRecDepth 100000
set_option maxHeartbeats 1000000
/-! ### readings that make data out of names; how wide data are -/
namespace KP
open PySem PySem.Spec PyProof.Rows L2 KX KT KJ
theorem ThAll.append {H : Hp} : ∀ {xs ys : List V} {ds es : List PyData}, ThAll H xs ds → ThAll H ys es → ThAll H (xs ++ ys) (ds ++ es)
  | _, _, _, _, .nil, b => b
  | _, _, _, _, .cons a t, b => .cons a (ThAll.append t b)
mutual
/-- the greatest length of a tuple or list within -/
def wid : PyData → Nat
  | .tuple ds => max ds.length (widAll ds)
  | .list ds => max ds.length (widAll ds)
  | _ => 0
def widAll : List PyData → Nat
  | [] => 0
  | d :: ds => max (wid d) (widAll ds)
end
theorem widAll_le {n : Nat} : ∀ {ds : List PyData}, (∀ d ∈ ds, wid d ≤ n) → widAll ds ≤ n
  | [], _ => by simp [widAll]
  | d :: ds, h => by
    simp only [widAll]
    have h1 := h d List.mem_cons_self
    have h2 := widAll_le (ds := ds) fun e he => h e (List.mem_cons_of_mem _ he)
    omega
theorem le_widAll : ∀ {ds : List PyData} {d : PyData}, d ∈ ds → wid d ≤ widAll ds
  | e :: ds, d, h => by
    simp only [widAll]
    rcases List.mem_cons.mp h with rfl | h
    · omega
    · have := le_widAll h
      omega
theorem wid_tup {n : Nat} {ds : List PyData} (hl : ds.length ≤ n) (h : ∀ d ∈ ds, wid d ≤ n) : wid (.tuple ds) ≤ n := by
  simp only [wid]
  have := widAll_le h
  omega
theorem wid_lst {n : Nat} {ds : List PyData} (hl : ds.length ≤ n) (h : ∀ d ∈ ds, wid d ≤ n) : wid (.list ds) ≤ n := by
  simp only [wid]
  have := widAll_le h
  omega
theorem wid_mem {ds : List PyData} {d : PyData} (h : d ∈ ds) : wid d ≤ wid (.tuple ds) := by
  simp only [wid]
  have := le_widAll h
  omega
theorem wid_len {ds : List PyData} : ds.length ≤ wid (.tuple ds) := by
  simp only [wid]
  omega
theorem wid_ith {d : PyData} {i : Nat} : wid (ith i d) ≤ wid d := by
  cases d with
  | tuple ds =>
    show wid (ds.getD i .none) ≤ _
    rw [List.getD_eq_getElem?_getD]
    cases e : ds[i]? with
    | none => simp [wid]
    | some a => exact wid_mem (List.mem_of_getElem? e)
  | _ => simp [ith, wid]
theorem lenT_wid {d : PyData} : lenT d ≤ wid d := by
  cases d with
  | tuple ds => exact wid_len
  | _ => simp [lenT]
/-- e makes the datum d, in heaps that have grown from H -/
def Mk (j : Addr) (t : TE) (σ : L2.St) (H : Hp) (d : PyData) : Prop := ∀ H1, Same H H1 → ∀ Q : VK, (∀ v H', Same H1 H' → Th (hid j H') v d → Q v H') → t σ H1 Q
def MkA (j : Addr) (t : TA) (σ : L2.St) (H : Hp) (ds : List PyData) : Prop := ∀ H1, Same H H1 → ∀ Q : List V → Hp → Prop, (∀ vs H', Same H1 H' → ThAll (hid j H') vs ds → Q vs H') → t σ H1 Q
section
variable {j : Addr} {σ : L2.St} {H : Hp}
theorem mk_lit {t : TE} {d : PyData} (hj : H j ≠ none) (h : Lit j t σ d) : Mk j t σ H d := fun H1 s Q q => h H1 Q (same_ne s hj) q
theorem mk_var {i : Nat} {v : V} {d : PyData} (h : σ[i]? = some (some v)) (t : Th (hid j H) v d) : Mk j (tVar i) σ H d := fun H1 s Q q => ⟨v, h, q v H1 (Same.refl H1) (Thj.same t s)⟩
theorem mkA_nil : MkA j tNil σ H [] := fun H1 s Q q => q _ _ (Same.refl H1) .nil
theorem mkA_cons {te : TE} {ta : TA} {d : PyData} {ds : List PyData} (h : Mk j te σ H d) (h2 : MkA j ta σ H ds) : MkA j (tCons te ta) σ H (d :: ds) := fun H1 s Q q =>
  h H1 s _ fun v H2 s2 t2 => h2 H2 (s.trans s2) _ fun vs H3 s3 t3 => q _ _ (s2.trans s3) (.cons (Thj.same t2 s3) t3)
theorem mk_tup {ta : TA} {ds : List PyData} (hj : H j ≠ none) (h : MkA j ta σ H ds) (hl : ds.length ≤ 1000) : Mk j (tTup ta) σ H (.tuple ds) := fun H1 s Q q =>
  h H1 s _ fun vs H2 s2 t2 => ⟨Nat.le_trans (by rw [all2 t2]; exact hl) (by decide), fun p hp => by
    have sp := same_upd (o := .tup vs) hp
    have np := new_ne hp (same_ne (s.trans s2) hj)
    exact q _ _ (s2.trans sp) (.tup (by rw [hid_ne np]; exact upd_same) (ThAllj.same t2 sp))⟩
theorem mk_catA {K : PySem.W.Frag} {ta tb : TE} {ds es : List PyData} (hj : H j ≠ none) (h1 : Mk j ta σ H (.tuple ds)) (h2 : Mk j tb σ H (.tuple es)) (hl : ds.length + es.length ≤ 1000) : Mk j (tOp (rCatA K) ta tb) σ H (.tuple (ds ++ es)) := fun H1 s Q q =>
  h1 H1 s _ fun v H2 s2 t2 => h2 H2 (s.trans s2) _ fun u H3 s3 t3 => by
    have t2' := Thj.same t2 s3
    have s23 := s2.trans s3
    cases t2' with
    | @tup' a xs _ e1 ta1 =>
      have t3' := t3
      cases t3 with
      | @tup' b ys _ e2 ta2 =>
        refine ⟨a, b, xs, ys, rfl, rfl, SqT.of ((hid_same j H3).rd e1), SqT.of ((hid_same j H3).rd e2), Nat.le_trans (by rw [all2 ta1, all2 ta2]; exact hl) (by decide), fun z => ?_, fun _ z => ?_, fun _ _ p hp => ?_⟩
        · subst z
          cases ta1
          exact q _ _ s23 t3'
        · subst z
          cases ta2
          rw [List.append_nil] at q
          exact q _ _ s23 (.tup' e1 ta1)
        · have sp := same_upd (o := .tup (xs ++ ys)) hp
          have np := new_ne hp (same_ne (s.trans s23) hj)
          exact q _ _ (s23.trans sp) (.tup (by rw [hid_ne np]; exact upd_same) (ThAllj.same (ThAll.append ta1 ta2) sp))
theorem mk_ret {te : TE} {D : Ends} {d : PyData} (h : Mk j te σ H d) (k : ∀ v H', Same H H' → Th (hid j H') v d → D.rt v H') : tRet te D σ H := h H (Same.refl H) _ k
end
end KP

set_option Elab.async false
set_option linter.all false
set_option maxRecDepth 100000
set_option maxHeartbeats 1000000
/-! ### slices -/
namespace KP
open PySem PySem.Spec PyProof.Rows L2 KX KT KJ
def cutD (ds : List PyData) (lo hi : Option Int) : List PyData := (ds.drop (HT.sIx ds.length 0 lo)).take (HT.sIx ds.length ds.length hi - HT.sIx ds.length 0 lo)
theorem ThAll.drop {H : Hp} : ∀ {xs : List V} {ds : List PyData} (i : Nat), ThAll H xs ds → ThAll H (xs.drop i) (ds.drop i)
  | _, _, 0, h => h
  | _, _, _ + 1, .nil => .nil
  | _, _, i + 1, .cons a b => ThAll.drop i b
theorem ThAll.cut {H : Hp} {xs : List V} {ds : List PyData} (h : ThAll H xs ds) (lo hi : Option Int) : ThAll H (cutV xs lo hi) (cutD ds lo hi) := by
  unfold cutV cutD
  rw [all2 h]
  exact (h.drop _).take _
theorem cutD_mem {ds : List PyData} {lo hi : Option Int} {d : PyData} (h : d ∈ cutD ds lo hi) : d ∈ ds := List.mem_of_mem_drop (List.mem_of_mem_take h)
theorem cutD_len {ds : List PyData} {lo hi : Option Int} : (cutD ds lo hi).length ≤ ds.length := by
  unfold cutD
  rw [List.length_take, List.length_drop]
  omega
theorem cutD_to {ds : List PyData} {k : Nat} : (cutD ds none (some (k : Int))).length ≤ k := by
  unfold cutD
  rw [HT.sIx_nat, List.length_take]
  omega
section
variable {j : Addr} {σ : L2.St} {H : Hp}
theorem mk_slice {K : PySem.W.Frag} {te : TE} {tl th : TO} {lo hi : Option Int} {ds : List PyData} (hj : H j ≠ none) (h : Mk j te σ H (.tuple ds)) (hl : ∀ H1 Q, Q lo H1 → tl σ H1 Q) (hh : ∀ H1 Q, Q hi H1 → th σ H1 Q) : Mk j (tSl (rSlA K) te tl th) σ H (.tuple (cutD ds lo hi)) := fun H1 s Q q =>
  h H1 s _ fun v H2 s2 t2 => hl _ _ (hh _ _ (by
    have t2' := t2
    cases t2 with
    | @tup' a xs _ e1 ta1 =>
      refine ⟨a, xs, rfl, SqT.of ((hid_same j H2).rd e1), fun z => ?_, fun _ p hp => ?_⟩
      · have e : cutD ds lo hi = ds := by
          unfold cutD
          rw [all2 ta1] at z
          rw [z.1, z.2]
          simp
        rw [e] at q
        exact q _ _ s2 t2'
      · have sp := same_upd (o := .tup (cutV xs lo hi)) hp
        have np := new_ne hp (same_ne (s.trans s2) hj)
        exact q _ _ (s2.trans sp) (.tup (by rw [hid_ne np]; exact upd_same) (ThAllj.same (ta1.cut lo hi) sp))))
theorem p_none {H1 : Hp} {Q : Option Int → Hp → Prop} (q : Q none H1) : tNoPart σ H1 Q := q
theorem p_int {te : TE} {i : Int} (h : ∀ H1, Vi te σ H1 (.int i)) {H1 : Hp} {Q : Option Int → Hp → Prop} (q : Q (some i) H1) : tPart te σ H1 Q := h H1 _ ⟨i, rfl, q⟩
end
end KP

set_option Elab.async false
set_option linter.all false
set_option maxRecDepth 100000
set_option maxHeartbeats 2000000
/-! ### more that makes data -/
namespace KP
open PySem PySem.Spec PyProof.Rows L2 KX KT KJ
section
variable {j : Addr} {σ : L2.St} {H : Hp}
theorem mk_vi {t : TE} {i : Int} (h : ∀ H1, Vi t σ H1 (.int i)) : Mk j t σ H (.int i) := fun H1 s Q q => h H1 _ (q _ _ (Same.refl H1) (.int i))
theorem thAll_ints {H : Hp} : ∀ l : List Int, ThAll H (l.map V.int) (l.map PyData.int)
  | [] => .nil
  | i :: l => .cons (.int i) (thAll_ints l)
theorem mk_rg {ta : TE} {n : Int} (hj : H j ≠ none) (h : ∀ H1, Vi ta σ H1 (.int n)) (h0 : 0 ≤ n) (h1 : n ≤ 1000) : Mk j (tTupRg (tRg1 ta)) σ H (.tuple (((List.range (n - 0).toNat).map fun i => (0 : Int) + (i : Nat)).map PyData.int)) := fun H1 s Q q => h H1 _
  ⟨n, rfl, RgOk.of_le (by decide) (by omega) (by decide) h0, fun p hp => by
    have sp := same_upd (o := .tup (rgV 0 n)) hp
    have np := new_ne hp (same_ne s hj)
    refine q _ _ sp (.tup (by rw [hid_ne np]; exact upd_same) ?_)
    have e : rgV 0 n = ((List.range (n - 0).toNat).map fun i => (0 : Int) + (i : Nat)).map V.int := by
      unfold rgV
      rw [List.map_map]
      rfl
    rw [e]
    exact thAll_ints _⟩
theorem mk_if {c : TT} {ta tb : TE} {b : Bool} {d e : PyData} (h : ∀ H1, Ti c σ H1 b) (h1 : Mk j ta σ H d) (h2 : Mk j tb σ H e) : Mk j (tIf c ta tb) σ H (if b = true then d else e) := fun H1 s Q q => h H1 _ (by
  cases b with
  | true => exact h1 H1 s Q q
  | false => exact h2 H1 s Q q)
end
end KP

set_option Elab.async false
set_option linter.all false
set_option maxRecDepth 100000
set_option maxHeartbeats 4000000
/-! ### set(a list of ints); t[::-1] of a tuple -/
namespace KS
open PySem PySem.Spec PyProof.Rows L2
section
variable {P : Program} {w : World} {A : Around} {E : Value → Shared → Prop} {s : Shared}
/-- a set object with nothing in it -/
abbrev eSet (w : World) : Obj := { cls := .type "set", dict := none, data := .set #[] 0 (.fresh 0 0 (!w.params.followText "set-order")) }
abbrev Grew (h h' : Heap) : Prop := ∀ b o, h.get? b = some o → h'.get? b = some o
/-- what set.__init__ leaves -/
abbrev Made (w : World) (ns : List Int) (s : Shared) (r : Value) (z : Shared) : Prop :=
  r = .none ∧ ∃ g t n, z = { s with heap := g, toks := t } ∧ SetR w g s.heap.objs.size (fun j => decide (j ∈ ns)) n ∧ n ≤ ns.length ∧ Grew s.heap g
set_option maxHeartbeats 8000000 in
theorem set_of_list {a : Addr} {us : Array Value} (ns : List Int) {Q : Value → Shared → Prop} (hn : A.handled = none) (la : s.heap.IsList a us) (iu : IntsAre us.toList ns) (few : ns.length + 1 < scanBound)
    (q : ∀ (g : Heap) (t n : Nat), SetR w g s.heap.objs.size (fun j => decide (j ∈ ns)) n → n ≤ ns.length → Grew s.heap g → Q (.ref s.heap.objs.size) { s with heap := g, toks := t }) :
    wpAny (model P w) A (call (.type "set") [.ref a]) Q E s := by
  have us_len : us.size = ns.length := (Array.length_toList (xs := us)).symm.trans iu.length
  obtain ⟨_, _, hmro⟩ := F.called_set.mro
  have m0 := F.called_set.made
  have m1 := F.called_set.sub
  refine wpAny_call (codeAny_of_tree ?_)
  show wpAny _ _ (callAny (.type "set") _) _ _ _
  refine wpAny_pure ⟨Code.quiet_builtin _ (by decide +kernel), codeAny_builtin F.entry_type_call ?_⟩
  rw [Around.under_plain (weight_type_call_type "set" [.ref a] []) rfl]
  have m2 := F.called_set.notType
  have m3 := F.called_set.canCreate
  have m4 := F.typeCall_set_1 (.ref a)
  repeat (any_goals (first | assumption | wp_step))
  refine codeAny_mono (code_set_led1 (.ref a) (E := E) (Q₁ := fun x z => x = .ref s.heap.objs.size ∧ z = { s with heap := s.heap.push (eSet w) }) ⟨rfl, rfl⟩) fun r s₁ hr => ?_
  rcases r with e | (_ | _ | _ | x)
  · exact hr
  · exact hr.elim
  · exact hr.elim
  · exact hr.elim
  obtain ⟨rfl, rfl⟩ := hr
  have gS : (s.heap.push (eSet w)).get? s.heap.objs.size = some (eSet w) := Heap.get?_push_size _ rfl
  have tS : Shared.TypeIs { s with heap := s.heap.push (eSet w) } (.ref s.heap.objs.size) "set" := ⟨_, gS, rfl⟩
  have m5 := F.called_set.init.lookup
  have m6 := F.called_set.init.bind (.ref s.heap.objs.size)
  repeat (any_goals (first | assumption | wp_step))
  refine codeAny_mono (codeAny_call_builtin (R := wants (Made w ns s) E) F.called_set.init.plain F.entry_set_init (check_set_init_1 tS ?_)) fun r2 s2 hr2 => ?_
  · obtain ⟨⟨lc, ld, lda, lsl⟩, gl, lcls, nl, ldat⟩ := la
    simp only at lcls ldat
    subst lcls; subst ldat
    have gl1 : (s.heap.push (eSet w)).get? a = some { cls := .type "list", dict := ld, data := .seq us nl, slots := lsl } := Heap.get?_push_of_some _ gl
    have f1 := F.sub_list_set
    have f2 := F.sub_list_frozenset
    have f3 : (Value.type "list" == Value.type "dict") = false := by decide
    have la1 : (s.heap.push (eSet w)).IsList a us := ⟨_, gl1, rfl, nl, rfl⟩
    unfold Builtin.«set.__init__» noKeywords Builtin.Frozenset.updateFrom
    generalize kept : pyIter = it
    wp_walk
    subst kept
    refine wpAny_pyIter_list la1 (wpAny_bind (wpAny_runValue ?_))
    have lt : a < s.heap.objs.size := Heap.lt_size gl
    have sz : (s.heap.push (eSet w)).objs.size = s.heap.objs.size + 1 := Heap.size_push ..
    have n1 : a ≠ (s.heap.push (eSet w)).objs.size := by rw [sz]; exact Nat.ne_of_lt (Nat.lt_succ_of_lt lt)
    have n2 : s.heap.objs.size ∉ [(s.heap.push (eSet w)).objs.size, a] := by
      rw [sz]
      simp only [List.mem_cons, List.not_mem_nil, or_false, not_or]
      exact ⟨Nat.ne_of_lt (Nat.lt_succ_self _), Nat.ne_of_gt lt⟩
    have at' : ∀ (i : Nat) (v : Value), us[i]? = some v → ∃ k t, ns[i]? = some k ∧ v = .int k t := fun i v hv => by
      have hi : i < ns.length := by rw [← us_len]; exact (Array.getElem?_eq_some_iff.mp hv).1
      obtain ⟨t, e⟩ := IntsAre.int_at iu i v (by rw [Array.getElem?_toList]; exact hv)
      refine ⟨ns[i], t, List.getElem?_eq_getElem hi, e.trans ?_⟩
      rw [List.getD_eq_getElem?_getD, List.getElem?_eq_getElem hi] <;> rfl
    refine set_update_ints ((Walks.list (by simp [hn]) _ a n1 us).toS) s.heap.objs.size n2 ns us_len few at' (us.size - 0) 0 _ (by omega) (Nat.zero_le _)
      ⟨⟨_, Heap.get?_push_size _ rfl, rfl, rfl⟩, (la1.push _)⟩ ⟨0, Nat.le_refl 0, setR_new_at (Heap.get?_push_of_some _ gS)⟩ fun z n mv hz hR => ?_
    obtain ⟨g, gg, dd, tk, oo⟩ := z
    obtain rfl : gg = s.gens := mv.gens
    obtain rfl : dd = s.drawn := mv.drawn
    obtain rfl : oo = s.os := mv.os
    refine wpAny_pure ?_
    show wpAny _ _ (ret Value.none) _ _ _
    rw [us_len] at hz
    refine wpAny_pure ⟨rfl, g, tk, n, rfl, hR, hz, fun b o e => mv.heap b o ?_ (Heap.get?_push_of_some _ (Heap.get?_push_of_some _ e))⟩
    have hb : b < s.heap.objs.size := Heap.lt_size e
    simp only [List.mem_cons, List.not_mem_nil, or_false, not_or]
    exact ⟨Nat.ne_of_lt hb, by rw [sz]; exact Nat.ne_of_lt (Nat.lt_succ_of_lt hb)⟩
  · rcases r2 with e | (_ | _ | _ | x)
    · exact hr2
    · exact hr2.elim
    · exact hr2.elim
    · exact hr2.elim
    obtain ⟨rfl, g, tk, n, rfl, hR, hz, gr⟩ := hr2
    repeat (any_goals (first | assumption | wp_step))
    exact q _ _ _ hR hz gr
end
section
variable {X : Cx}
/-- set(xs), xs a list of ints -/
def rSetL (K : PySem.W.Frag) (w : World) : List V → Hp → VK → Prop := fun vs H Q => ∃ (a : Addr) (ns : List Int), vs = [.ref a] ∧ SqL K H a (ns.map V.int) ∧ ns.length ≤ 1000 ∧
  ∀ p n, H p = none → n ≤ ns.length → Q (.ref p) (upd H p (SetO w p (fun j => decide (j ∈ ns)) n))
theorem cr_setL (hc : X.calm = true) : CallR X (.type "set") (rSetL X.K X.w) := by
  intro pins s σ H vs us Q I r h
  obtain ⟨a, ns, rfl, hs, hl, q⟩ := h
  rw [Vals.ref1 r]
  obtain ⟨its, rv, pl, hz⟩ := I.list hs
  refine set_of_list ns (I.ok.hd hc) pl.isList (by simpa using intsAre_of rv) (by unfold scanBound; omega) fun g t n R hn gr => ?_
  exact ⟨.ref _, upd H s.heap.objs.size (SetO X.w s.heap.objs.size (fun j => decide (j ∈ ns)) n), I.laid (t' := t) (fun b u e => gr b u e) (Nat.le_refl _) (setO_new R), rfl, q _ _ (I.hok.fresh (Nat.le_refl _)) hn⟩
end

/-! ### t[::-1] -/
section
variable {prog : Program} {w : World} {A : Around} {E : Value → Shared → Prop} {s : Shared}
open HT
theorem adj_rev (n : Nat) : Builtin.Slice.sliceAdjust none none (-1) (n : Int) = ((n : Int) - 1, -1) := by
  unfold Builtin.Slice.sliceAdjust
  simp
theorem places_rev (n : Nat) : Builtin.Slice.slicePlaces ((n : Int) - 1) (-1) (-1) = n := by
  unfold Builtin.Slice.slicePlaces
  have h1 : ¬ ((-1 : Int) > 0) := by omega
  rw [if_neg h1]
  split
  · rw [show (- -1 : Int) = 1 by decide, Int.ediv_one]
    omega
  · omega
theorem applied_rev {sl : Addr} {n : Nat} {u : Tok} {Q : Int × Int × Nat → Shared → Prop} (hs : s.heap.IsSliceOf sl .none .none (.int (-1) u)) (h : Q ((n : Int) - 1, -1, n) s) :
    wpAny (model prog w) A (Builtin.Slice.sliceApplied (.ref sl) (pure (n : Int))) Q E s := by
  obtain ⟨so, hso, _, hf⟩ := id hs
  unfold Builtin.Slice.sliceApplied Builtin.Slice.sliceFields
  refine wpAny_bind (wpAny_bind (wpAny_field hso hf (x := .none) rfl (wpAny_bind (wpAny_field hso hf (x := .none) rfl (wpAny_bind (wpAny_field hso hf (x := .int (-1) u) rfl (wpAny_pure ?_)))))))
  refine wpAny_bind (slicePart_int ?_)
  show wpAny _ _ (if ((-1 : Int) == 0) = true then _ else _) _ _ s
  rw [if_neg (by decide)]
  refine wpAny_bind (slicePart_none (wpAny_bind (slicePart_none (wpAny_bind (wpAny_pure ?_)))))
  show wpAny _ _ (match Builtin.Slice.sliceAdjust none none (-1) (n : Int) with | (lo, hi) => pure (lo, (-1 : Int), Builtin.Slice.slicePlaces lo hi (-1))) _ _ s
  rw [adj_rev n]
  show wpAny _ _ (pure ((n : Int) - 1, (-1 : Int), Builtin.Slice.slicePlaces ((n : Int) - 1) (-1) (-1))) _ _ s
  rw [places_rev]
  exact wpAny_pure h
theorem fm_congr {α β : Type} {f g : α → Option β} : ∀ {l : List α}, (∀ x ∈ l, f x = g x) → l.filterMap f = l.filterMap g
  | [], _ => rfl
  | x :: l, h => by rw [List.filterMap_cons, List.filterMap_cons, h x List.mem_cons_self, fm_congr (l := l) fun y hy => h y (List.mem_cons_of_mem _ hy)]
theorem pick_rev (xs : Array Value) : ((List.range xs.size).filterMap fun (k : Nat) => xs[((xs.size : Int) - 1 + (k : Int) * (-1)).toNat]?).toArray = xs.toList.reverse.toArray := by
  have e : (List.range xs.size).filterMap (fun (k : Nat) => xs[((xs.size : Int) - 1 + (k : Int) * (-1)).toNat]?) = ((List.range xs.size).map fun k => xs.size - 1 - k).filterMap (xs[·]?) := by
    rw [List.filterMap_map]
    refine fm_congr fun k hk => ?_
    have := List.mem_range.mp hk
    show xs[((xs.size : Int) - 1 + (k : Int) * (-1)).toNat]? = xs[xs.size - 1 - k]?
    congr 1
    omega
  rw [e, PySem.W.krv_range, List.filterMap_reverse, PySem.W.krv_all]
theorem rev_tup {t sl : Addr} {us : Array Value} {u : Tok} {Q : Value → Shared → Prop} (ht : IsTup s.heap t us) (hs : s.heap.IsSliceOf sl .none .none (.int (-1) u)) (hz : us.size ≤ sizeLine)
    (h : Q (.ref s.heap.objs.size) { s with heap := s.heap.push { cls := .type "tuple", data := .seq us.toList.reverse.toArray } }) : wpAny (model prog w) A (getItem (.ref t) (.ref sl)) Q E s := by
  have ok : sizeOk (.seq us.toList.reverse.toArray) := by
    show us.toList.reverse.toArray.size ≤ sizeLine
    rw [List.size_toArray, List.length_reverse, Array.length_toList]
    exact hz
  obtain ⟨so, hso, hsc, _⟩ := id hs
  have tS : s.TypeIs (.ref sl) "slice" := ⟨so, hso, hsc⟩
  unfold getItem
  try with_reducible refine wpAny_holding ?_
  first | refine wpAny_bind (wpAny_pure ?_) | skip
  refine wpAny_bind (wpAny_sequenceKey ht.typeIs (by decide) ?_)
  refine wpAny_bind (wpAny_callSpecial?_slot (name := Str.ofString "__getitem__") ht.typeIs PyProof.Rows.slot_tuple_getitem (wpAny_call_entry PyProof.Rows.slot_tuple_getitem ht.typeIs entry_tuple_getitem ?_ (args_tuple_getitem _ _)))
  show wpAny _ _ (Builtin.Tuple.tupleItemsOf (.ref t) >>= _) _ _ s
  refine wpAny_bind (tupleItemsOf_ ht (wpAny_bind (wpAny_typeOf tS ?_)))
  rw [if_pos (by decide)]
  refine wpAny_bind (applied_rev hs ?_)
  have no : ¬ (((us.size : Int) - 1 == 0 && (-1 : Int) == 1 && us.size == us.size) = true) := by
    rw [show ((-1 : Int) == 1) = false by decide, Bool.and_false, Bool.false_and]
    exact Bool.false_ne_true
  show wpAny _ _ (if ((us.size : Int) - 1 == 0 && (-1 : Int) == 1 && us.size == us.size) = true then _ else _) _ _ s
  rw [if_neg no, pick_rev]
  first
    | exact wpAny_bind (m := Builtin.Tuple.tupleExact _) (wpAny_newObj_type (wpAny_pure ⟨_, rfl, wpAny_pure h⟩) ok)
    | exact wpAny_bind (m := Builtin.Tuple.tupleExact _) (wpAny_newObj_type (wpAny_bind (wpAny_pure (wpAny_pure ⟨_, rfl, wpAny_pure h⟩))) ok)
    | exact wpAny_bind (wpAny_bind (m := Builtin.Tuple.tupleExact _) (wpAny_newObj_type (wpAny_pure (wpAny_pure ⟨_, rfl, wpAny_pure h⟩)) ok))
    | exact wpAny_bind (wpAny_bind (m := Builtin.Tuple.tupleExact _) (wpAny_newObj_type (wpAny_pure ⟨_, rfl, wpAny_pure h⟩) ok))
end
section
variable {X : Cx}
def tRevT (K : PySem.W.Frag) (te : TE) : TE := fun σ H Q => te σ H fun x H1 => ∃ a xs, x = .ref a ∧ SqT K H1 a xs ∧ ∀ p, H1 p = none → Q (.ref p) (upd H1 p (.tup xs.reverse))
theorem pe_revT {e : Expr} {te : TE} {k : Nat} {p1 p2 p3 pos : Pos} (he : PE X e te) : PE X (.Subscript e (.Slice none none (some (.UnaryOp .USub (.Constant (.int 1) k p1) p2)) p3) pos) (tRevT X.K te) := by
  refine ⟨fun pins s σ H Q I h => Subscript_ (thn (he.run pins s σ H _ I h) fun v s1 ⟨x, H1, I1, r1, q1⟩ => ?_)⟩
  obtain ⟨a, xs, rfl, hx, q⟩ := q1
  cases r1
  have st : PO X (some (.UnaryOp .USub (.Constant (.int 1) k p1) p2)) (tPart (tUn (rU fun i => .int (-i)) (tC (.int 1)))) := po_some (pe_un un_neg pe_int)
  refine wpAny_Slice (thn (po_none.run pins s1 σ H1 (fun o G => o = none ∧ G = H1) I1 ⟨rfl, rfl⟩) fun vl s2 ⟨l, H2, I2, pl, el, e2⟩ => ?_)
  subst el e2
  refine thn (po_none.run pins s2 σ H2 (fun o G => o = none ∧ G = H2) I2 ⟨rfl, rfl⟩) fun vu s3 ⟨u, H3, I3, pu, eu, e3⟩ => ?_
  subst eu e3
  refine thn (st.run pins s3 σ H3 (fun o G => o = some (-1) ∧ G = H3) I3 ⟨1, rfl, -1, rfl, rfl, rfl⟩) fun vs s4 ⟨o, H4, I4, ps, eo, e4⟩ => ?_
  subst eo e4
  cases pl
  cases pu
  cases ps with
  | int _ tk =>
    have I5 : Inv X pins σ H4 { s4 with heap := s4.heap.push { cls := .type "slice", data := .fields #[.none, .none, .int (-1) tk] } } := I4.kept (t' := s4.toks) fun b ob q => Heap.get?_push_of_some _ q
    obtain ⟨its, r, ht, hz⟩ := I5.tuple hx
    have hlen := r.length
    show wpAny (model X.prog X.w) X.A (subscriptTail e (.Slice none none (some (.UnaryOp .USub (.Constant (.int 1) k p1) p2)) p3) (.ref a) (.ref s4.heap.objs.size)) (EP X pins σ Q) X.xe { s4 with heap := s4.heap.push { cls := .type "slice", data := .fields #[.none, .none, .int (-1) tk] } }
    refine tail_any (ops := [.ref a, .ref s4.heap.objs.size]) ht.typeIs PyProof.Rows.slot_tuple_getitem.lookup ?_ (by with_unfolding_all rfl)
    refine rev_tup ht (Heap.IsSliceOf.new _ .none .none (.int (-1) tk)) (by rw [List.size_toArray, ← hlen]; exact hz) ?_
    refine ⟨.ref _, _, I5.laid (t' := s4.toks) (o := .tup xs.reverse) (fun b ob q => Heap.get?_push_of_some _ q) (Nat.le_refl _) ?_, rfl, q _ (I5.hok.fresh (Nat.le_refl _))⟩
    exact ⟨by rw [List.length_reverse]; exact hz, _, r.reverse, IsTup.new _ _⟩
end
end KS

set_option Elab.async false
set_option linter.all false
set_option maxRecDepth 100000
set_option maxHeartbeats 2000000
/-! ### zip(tuple, list); t * 1 -/
namespace MZ
open PySem PySem.Spec PyProof.Rows L2
abbrev G1 (h : Heap) (o1 : Obj) : Heap := h.push o1
abbrev G2 (h : Heap) (o1 o2 : Obj) : Heap := (G1 h o1).push o2
abbrev G3 (h : Heap) (o1 o2 : Obj) : Heap := (G2 h o1 o2).push { cls := .type "tuple", data := .seq #[.ref h.objs.size, .ref (G1 h o1).objs.size] }
abbrev G4 (h : Heap) (o1 o2 : Obj) : Heap := (G3 h o1 o2).push { cls := .type "tuple", data := .seq #[.none, .none] }
abbrev G5 (h : Heap) (o1 o2 : Obj) : Heap := (G4 h o1 o2).push { cls := .type "zip", data := .fields #[.none, .bool false, .bool false, .ref (G2 h o1 o2).objs.size, .ref (G3 h o1 o2).objs.size] }
theorem meets_zipB {v1 v2 : Value} {o1 o2 : Obj} {H1 H2 : Heap → Prop} (B1 : Begins v1 o1 H1) (B2 : Begins v2 o2 H2) :
    Meets (Builtin.«zip.__new__» ⟨[.type "zip", v1, v2], []⟩) (fun _ R s => H1 s.heap ∧ H2 s.heap ∧ R (.ok (.ret (.ref (G4 s.heap o1 o2).objs.size))) { s with heap := G5 s.heap o1 o2 }) :=
  .of_wp fun prog w A R s h => by
    obtain ⟨hp, g, d, tk, os⟩ := s
    obtain ⟨h1, h2, h⟩ := h
    have hsub := sub_zip
    have p1 : ∀ {A' : Around} {E : Value → Shared → Prop} {Q : Value → Shared → Prop}, Q (.ref hp.objs.size) ⟨hp.push o1, g, d, tk, os⟩ → wpAny (model prog w) A' (pyIter v1) Q E ⟨hp, g, d, tk, os⟩ := fun q => B1.iter prog w _ _ ⟨hp, g, d, tk, os⟩ _ h1 q
    have p2 : ∀ {A' : Around} {E : Value → Shared → Prop} {Q : Value → Shared → Prop}, Q (.ref (hp.push o1).objs.size) ⟨(hp.push o1).push o2, g, d, tk, os⟩ → wpAny (model prog w) A' (pyIter v2) Q E ⟨hp.push o1, g, d, tk, os⟩ := fun q =>
      B2.iter prog w _ _ ⟨hp.push o1, g, d, tk, os⟩ _ (B2.keeps _ _ h2 fun b o' e => Heap.get?_push_of_some _ e) q
    wp_walk using p1, p2
    exact ⟨_, rfl, h⟩
section
variable {prog : Program} {w : World} {A : Around} {E : Value → Shared → Prop} {s : Shared}
theorem call_zipB {v1 v2 : Value} {o1 o2 : Obj} {H1 H2 : Heap → Prop} {Q : Value → Shared → Prop} (B1 : Begins v1 o1 H1) (B2 : Begins v2 o2 H2) (q1 : H1 s.heap) (q2 : H2 s.heap)
    (h : ∀ h', IsZip h' (s.heap.objs.size + 4) (s.heap.objs.size + 2) (s.heap.objs.size + 3) .none → IsTupOf2 h' (s.heap.objs.size + 2) (.ref s.heap.objs.size) (.ref (s.heap.objs.size + 1)) → IsTupOf2 h' (s.heap.objs.size + 3) .none .none →
      h'.get? s.heap.objs.size = some o1 → h'.get? (s.heap.objs.size + 1) = some o2 → (∀ c o, s.heap.get? c = some o → h'.get? c = some o) → Q (.ref (s.heap.objs.size + 4)) { s with heap := h' }) :
    wpAny (model prog w) A (call (.type "zip") [v1, v2]) Q E s := by
  refine callType_new F.called_zip (by decide) (F.typeCall_zip_2 _ _) (F.newCall_zip_2 _ _) (fun obj => F.args_object_init_3 obj _ _) F.entry_zip_new (meets_zipB B1 B2) ⟨q1, q2, ?_⟩
  have s1 : (G1 s.heap o1).objs.size = s.heap.objs.size + 1 := Heap.size_push ..
  have s2 : (G2 s.heap o1 o2).objs.size = s.heap.objs.size + 2 := by rw [Heap.size_push, s1]
  have s3 : (G3 s.heap o1 o2).objs.size = s.heap.objs.size + 3 := by rw [Heap.size_push, s2]
  have s4 : (G4 s.heap o1 o2).objs.size = s.heap.objs.size + 4 := by rw [Heap.size_push, s3]
  have r5 : (G5 s.heap o1 o2).get? (G4 s.heap o1 o2).objs.size = some _ := Heap.get?_push_size _ rfl
  have r4 : (G5 s.heap o1 o2).get? (G3 s.heap o1 o2).objs.size = some _ := Heap.get?_push_of_some _ (Heap.get?_push_size _ rfl)
  have r3 : (G5 s.heap o1 o2).get? (G2 s.heap o1 o2).objs.size = some _ := Heap.get?_push_of_some _ (Heap.get?_push_of_some _ (Heap.get?_push_size _ rfl))
  have r2 : (G5 s.heap o1 o2).get? (G1 s.heap o1).objs.size = some _ := Heap.get?_push_of_some _ (Heap.get?_push_of_some _ (Heap.get?_push_of_some _ (Heap.get?_push_size _ B2.free)))
  have r1 : (G5 s.heap o1 o2).get? s.heap.objs.size = some _ := Heap.get?_push_of_some _ (Heap.get?_push_of_some _ (Heap.get?_push_of_some _ (Heap.get?_push_of_some _ (Heap.get?_push_size _ B1.free))))
  show _ ∧ _
  rw [s2, s3, s4] at r5
  rw [s1, s2] at r3
  rw [s3] at r4
  rw [s1] at r2
  rw [s4]
  exact ⟨⟨_, r5, rfl⟩, h _ r5 r3 r4 r1 r2 fun c o x => Heap.get?_push_of_some _ (Heap.get?_push_of_some _ (Heap.get?_push_of_some _ (Heap.get?_push_of_some _ (Heap.get?_push_of_some _ x))))⟩
end
/-- a tuple and a list, in new pairs -/
def ItzM (K : PySem.W.Frag) (a b : Addr) : It :=
  ⟨fun i H => ∃ (xs ys : List V) (x y : V), SqT K H a xs ∧ SqL K H b ys ∧ xs[i]? = some x ∧ ys[i]? = some y,
    fun i H v H' => ∃ T x y, v = .ref T ∧ H T = none ∧ H' = upd H T (.tup [x, y]) ∧ (∀ xs, SqT K H a xs → xs[i]? = some x) ∧ ∀ ys, SqL K H b ys → ys[i]? = some y,
    fun i H => ∃ xs ys : List V, SqT K H a xs ∧ SqL K H b ys ∧ i ≤ xs.length ∧ i ≤ ys.length ∧ (i = xs.length ∨ i = ys.length)⟩
structure Ap (z TI TO i1 i2 a b : Addr) : Prop where
  sep : ZipSep2 z TI TO i1 i2 [i1, a] [i2, b]
  n1 : a ≠ i1
  n2 : b ≠ i2
theorem turn_zipM {P : Program} {w : World} {K : PySem.W.Frag} {elts : List Expr} {kk : Nat} {tpos : Pos} {a b z TI TO i1 i2 : Addr} (D : Ap z TI TO i1 i2 a b) :
    Turn P w K (.Tuple elts kk tpos) (ItzM K a b) [z, TI, TO, i1, i2] z (fun i h => IsZip h z TI TO .none ∧ IsTupOf2 h TI (.ref i1) (.ref i2) ∧ (∃ x y, IsTupOf2 h TO x y) ∧ h.IsTupleIter i1 a i ∧ h.IsListIter i2 b i) where
  mem := by simp
  obj := fun i h st c hc => by
    obtain ⟨hz, hI, ⟨x, y, hO⟩, ⟨o1, e1, _, d1⟩, ⟨o2, e2, _, d2⟩⟩ := st
    simp only [List.mem_cons, List.not_mem_nil, or_false] at hc
    rcases hc with rfl | rfl | rfl | rfl | rfl
    · exact ⟨_, hz, fun v q => nomatch q⟩
    · exact ⟨_, hI, fun v q => nomatch q⟩
    · exact ⟨_, hO, fun v q => nomatch q⟩
    · exact ⟨o1, e1, fun v q => by rw [d1] at q; cases q⟩
    · exact ⟨o2, e2, fun v q => by rw [d2] at q; cases q⟩
  keep := fun i h h' st k => by
    obtain ⟨hz, hI, ⟨x, y, hO⟩, h1, h2⟩ := st
    exact ⟨k z (by simp) _ hz, k TI (by simp) _ hI, ⟨x, y, k TO (by simp) _ hO⟩, h1.at fun o q => k i1 (by simp) o q, h2.at fun o q => k i2 (by simp) o q⟩
  item := by
    intro X hP hw hK hc i pins s σ H E I hf st hg
    subst hP hw hK
    obtain ⟨hz, hI, ⟨x0, y0, hO⟩, h1, h2⟩ := st
    obtain ⟨xs, ys, x, y, hqx, hqy, hx, hy⟩ := hg
    obtain ⟨its, rv, p, _⟩ := I.tuple hqx
    obtain ⟨its2, rv2, p2, _⟩ := I.list hqy
    obtain ⟨u, hu, ru⟩ := rv.get hx
    obtain ⟨u2, hu2, ru2⟩ := rv2.get hy
    have hzl : z < s.heap.objs.size := Heap.lt_size hz
    have hi1 : i < its.toArray.size := by simpa using (List.getElem?_eq_some_iff.mp hu).1
    have hi2 : i < its2.toArray.size := by simpa using (List.getElem?_eq_some_iff.mp hu2).1
    have pt : s.heap.IsTuple a its.toArray := p
    refine wpAny_pyNext_zipD2_item D.sep (Draws.tuple (A := X.A.in1) (I.ok.hd hc) i1 a D.n1 its.toArray) (Draws.list (A := X.A.in1) (I.ok.hd hc) i2 b D.n2 its2.toArray) hz hI hO ⟨h1, pt⟩ ⟨h2, p2.isList⟩ hi1 hi2 fun w1 w2 h' tk y1 y2 z' O' st1 st2 hT hsz hk => ?_
    obtain rfl : u = w1 := by
      have e : its[i]? = some w1 := by simpa using y1
      rw [hu] at e
      exact Option.some.inj e
    obtain rfl : u2 = w2 := by
      have e : its2[i]? = some w2 := by simpa using y2
      rw [hu2] at e
      exact Option.some.inj e
    refine ⟨_, rfl, wpAny_letOwnedTupleGo_zip (s := { s with heap := h', toks := tk }) z' fun h'' z'' sb => ?_⟩
    have hT2 : h''.get? s.heap.objs.size = some { cls := .type "tuple", data := .seq #[u, u2] } := (sb.2 _ (Nat.ne_of_gt hzl)).trans hT
    have new : ObjOk X.prog X.w (upd H s.heap.objs.size (.tup [x, y])) h'' s.heap.objs.size (.tup [x, y]) := ⟨by show 2 ≤ sizeLine; decide, [u, u2], .cons ru (.cons ru2 .nil), ⟨_, hT2, rfl, _, rfl⟩⟩
    have I1 : Inv X pins σ (upd H s.heap.objs.size (.tup [x, y])) { s with heap := h'', toks := tk } :=
      I.turnedNew (ch := [z, TI, TO, i1, i2]) (fun c o hb q => (sb.2 c (fun q' => hb (by simp [q']))).trans (hk c o (fun q' => hb (by simp [q'])) (fun q' => hb (by simp [q'])) (fun q' => hb (by simp [q'])) (fun q' => hb (by simp [q'])) q)) hf (Nat.le_refl _) new
    have m1 : i1 ≠ z := fun e => D.sep.zf1 (by simp [e])
    have m2 : i2 ≠ z := fun e => D.sep.zf2 (by simp [e])
    refine ⟨.ref s.heap.objs.size, _, I1, rfl, ⟨_, x, y, rfl, I.hok.fresh (Nat.le_refl _), rfl, fun l hl => by rw [I.tuple_inj hl hqx]; exact hx, fun l hl => by rw [I.list_inj hl hqy]; exact hy⟩, ⟨z'', ?_, ⟨u, u2, ?_⟩, ?_, ?_⟩, fun c hcm => ?_⟩
    · exact (sb.2 _ D.sep.TIz).trans (hk _ _ D.sep.TIz D.sep.TITO D.sep.TIi1 D.sep.TIi2 hI)
    · exact (sb.2 _ D.sep.TOz).trans O'
    · exact st1.1.at fun o q => (sb.2 _ m1).trans q
    · exact st2.1.at fun o q => (sb.2 _ m2).trans q
    · have hlt : c < s.heap.objs.size := by
        simp only [List.mem_cons, List.not_mem_nil, or_false] at hcm
        rcases hcm with rfl | rfl | rfl | rfl | rfl
        · exact hzl
        · exact Heap.lt_size hI
        · exact Heap.lt_size hO
        · obtain ⟨_, e1, _⟩ := h1; exact Heap.lt_size e1
        · obtain ⟨_, e2, _⟩ := h2; exact Heap.lt_size e2
      rw [upd_ne (Nat.ne_of_lt hlt)]
      exact (hf c hcm).1
  done := by
    intro X hP hw hK hc i pins s σ H E I hf st hg
    subst hP hw hK
    obtain ⟨hz, hI, ⟨x0, y0, hO⟩, h1, h2⟩ := st
    obtain ⟨xs, ys, hqx, hqy, hl1, hl2, hend⟩ := hg
    obtain ⟨its, rv, p, _⟩ := I.tuple hqx
    obtain ⟨its2, rv2, p2, _⟩ := I.list hqy
    have l1 := rv.length
    have l2 := rv2.length
    have pt : s.heap.IsTuple a its.toArray := p
    refine wpAny_pyNext_zipD2_end D.sep (Draws.tuple (A := X.A.in1) (I.ok.hd hc) i1 a D.n1 its.toArray) (Draws.list (A := X.A.in1) (I.ok.hd hc) i2 b D.n2 its2.toArray) hz hI hO ⟨h1, pt⟩ ⟨h2, p2.isList⟩ (by simp; omega) (by simp; omega) (by simp; omega) fun h' tk hk => ?_
    exact ⟨rfl, I.turnedL (t' := tk) (ch := [z, TI, TO, i1, i2]) (fun c o hb q => hk c o (fun q' => hb (by simp [q'])) (fun q' => hb (by simp [q'])) (fun q' => hb (by simp [q'])) (fun q' => hb (by simp [q'])) q) hf⟩
  self := fun A i s Q E st h => wpAny_pyIter_zip st.1 h
def iZipM (K : PySem.W.Frag) (ta : TA) : TI := fun σ H R => ta σ H fun vs H1 => ∃ a b xs ys, vs = [.ref a, .ref b] ∧ SqT K H1 a xs ∧ SqL K H1 b ys ∧ R (ItzM K a b) H1
theorem pi_zipM {X : Cx} {e e2 : Expr} {ta : TA} {p pos tpos : Pos} {elts : List Expr} {kk : Nat} (hg : Gl X "zip") (hm : X.mg "zip" = none) (ha : PA X [e, e2] ta)
    (hs : starEach [e, e2] X.env = (false, eval e X.env) :: starEach [e2] X.env := by rfl) (hpl : (backTo pos (starEach [e2] X.env)).any (·.1) = false := by rfl) : PI X (.Tuple elts kk tpos) (.Call (.Name "zip" p) [e, e2] [] pos) (iZipM X.K ta) := by
  refine ⟨fun pins s σ H R I h => Call_ (ld_blt I hg hm PyProof.Rows.boot_zip (PyProof.Rows.callWith_type1 (thn (ha.run pos pins s σ H _ I h) fun us s1 ⟨vs, H1, I1, r1, q1⟩ => ?_) hs hpl))⟩
  obtain ⟨a, b, xs, ys, rfl, hqx, hqy, q⟩ := q1
  cases r1 with
  | cons r rr => cases rr with
    | cons r' rr =>
      cases rr
      cases r
      cases r'
      obtain ⟨its, rv, p1, _⟩ := I1.tuple hqx
      obtain ⟨its2, rv2, p2, _⟩ := I1.list hqy
      have pt : s1.heap.IsTuple a its.toArray := p1
      obtain ⟨oa, ea, _⟩ := id pt
      obtain ⟨ob, eb, _⟩ := id p2.isList
      have la := Heap.lt_size ea
      have lb := Heap.lt_size eb
      refine call_zipB (begins_tuple a its.toArray) (begins_list b its2.toArray) pt p2.isList fun h' hz hI hO h1 h2 hk => wpAny_pyIter_zip hz ?_
      have I2 : Inv X pins σ H1 { s1 with heap := h' } := I1.kept (t' := s1.toks) hk
      have ad : ∀ {m n : Nat}, m ≠ n → s1.heap.objs.size + m ≠ s1.heap.objs.size + n := fun h e => h (Nat.add_left_cancel e)
      have ap : Ap (s1.heap.objs.size + 4) (s1.heap.objs.size + 2) (s1.heap.objs.size + 3) s1.heap.objs.size (s1.heap.objs.size + 1) a b := by
        have lt : ∀ {c : Addr} {n : Nat}, c < s1.heap.objs.size → s1.heap.objs.size + n ≠ c := fun h e => Nat.not_lt.mpr (Nat.le_add_right _ _) (e ▸ h)
        have z0 : ∀ {n : Nat}, n ≠ 0 → s1.heap.objs.size + n ≠ s1.heap.objs.size := fun h => ad (n := 0) h
        refine ⟨⟨ad (by decide), ad (by decide), ad (by decide), z0 (by decide), by simp, ?_, ?_, ad (by decide), by simp, ?_, ?_, ?_, ?_⟩, Nat.ne_of_lt la, (lt lb).symm⟩
        · simp only [List.mem_cons, List.not_mem_nil, or_false, not_or]; exact ⟨z0 (by decide), lt la⟩
        · simp only [List.mem_cons, List.not_mem_nil, or_false, not_or]; exact ⟨z0 (by decide), lt la⟩
        · simp only [List.mem_cons, List.not_mem_nil, or_false, not_or]; exact ⟨ad (by decide), lt lb⟩
        · simp only [List.mem_cons, List.not_mem_nil, or_false, not_or]; exact ⟨ad (by decide), lt lb⟩
        · simp only [List.mem_cons, List.not_mem_nil, or_false, not_or]; exact ⟨(z0 (by decide)).symm, Nat.ne_of_gt lb⟩
        · simp only [List.mem_cons, List.not_mem_nil, or_false, not_or]; exact ⟨z0 (by decide), lt la⟩
      refine ⟨s1.heap.objs.size + 4, [s1.heap.objs.size + 4, s1.heap.objs.size + 2, s1.heap.objs.size + 3, s1.heap.objs.size, s1.heap.objs.size + 1], _, _, H1, rfl, I2, turn_zipM ap, ⟨hz, hI, ⟨_, _, hO⟩, ⟨_, h1, rfl, rfl⟩, ⟨_, h2, rfl, rfl⟩⟩, fun c hc => ?_, q⟩
      have hle : s1.heap.objs.size ≤ c := by
        simp only [List.mem_cons, List.not_mem_nil, or_false] at hc
        rcases hc with rfl | rfl | rfl | rfl | rfl
        · exact Nat.le_add_right _ _
        · exact Nat.le_add_right _ _
        · exact Nat.le_add_right _ _
        · exact Nat.le_refl _
        · exact Nat.le_add_right _ _
      exact I1.fpOk hle (I1.hok.fresh hle)
theorem walk_zipM {K : PySem.W.Frag} {a b : Addr} {xs ys : List V} {n : Nat} (hn : n = min xs.length ys.length) : Walk (ItzM K a b) n (fun H => SqT K H a xs ∧ SqL K H b ys) (YPair (fun i => xs[i]?) (fun i => ys[i]?)) := by
  subst hn
  refine ⟨fun i H hi q => ⟨xs, ys, xs[i]'(by omega), ys[i]'(by omega), q.1, q.2, List.getElem?_eq_getElem _, List.getElem?_eq_getElem _⟩, fun H q => ⟨xs, ys, q.1, q.2, by omega, by omega, by omega⟩, fun i H v H' _ q y => ?_⟩
  obtain ⟨T, x, z, h1, h2, h3, h4, h5⟩ := y
  exact ⟨T, x, z, h1, h2, h3, h4 _ q.1, h5 _ q.2⟩
theorem walk_zipTT {K : PySem.W.Frag} {a b : Addr} {xs ys : List V} {n : Nat} (hn : n = min xs.length ys.length) : Walk (RZ.ItzT K a b) n (fun H => SqT K H a xs ∧ SqT K H b ys) (YPair (fun i => xs[i]?) (fun i => ys[i]?)) := by
  subst hn
  refine ⟨fun i H hi q => ⟨xs, ys, xs[i]'(by omega), ys[i]'(by omega), q.1, q.2, List.getElem?_eq_getElem _, List.getElem?_eq_getElem _⟩, fun H q => ⟨xs, ys, q.1, q.2, by omega⟩, fun i H v H' _ q y => ?_⟩
  obtain ⟨T, x, z, h1, h2, h3, h4, h5⟩ := y
  exact ⟨T, x, z, h1, h2, h3, h4 _ q.1, h5 _ q.2⟩
end MZ

set_option Elab.async false
set_option linter.all false
set_option maxRecDepth 100000
set_option maxHeartbeats 2000000
/-! ### t * k, k from 1 on -/
namespace MZ
open PySem PySem.Spec PyProof.Rows L2
theorem tuple_once (l : Addr) (items : Array Value) (n : Nat) (dd : Option Addr) (sl : Array (Option Value)) (u : Tok) :
    Meets (Builtin.«tuple.__mul__» ⟨[.ref l, .int 1 u], []⟩) (fun _ R s => s.heap.get? l = some { cls := .type "tuple", dict := dd, data := .seq items n, slots := sl } ∧ R (.ok (.ret (Value.ref l))) s) :=
  .of_wp fun prog w A R s h => by
    obtain ⟨hp, g, d, tk, os⟩ := s
    obtain ⟨hl, h⟩ := h
    have f1 := AutoSeq1.idx_int
    wp_walk using wpAny_loadPart' hl
    repeat (first
      | (refine wpAny_ite_true (by simp) ?_; wp_walk using wpAny_loadPart' hl)
      | (refine wpAny_ite_false (by simp) ?_; wp_walk using wpAny_loadPart' hl))
    first
      | exact ⟨_, rfl, h⟩
      | exact h
def rRepA (K : PySem.W.Frag) : R2 := fun x y H Q => ∃ l k xs, x = .ref l ∧ y = .int k ∧ SqT K H l xs ∧ xs ≠ [] ∧ 1 ≤ k ∧ k ≤ 1000 ∧ xs.length ≤ 1000 ∧ (k = 1 → Q (.ref l) H) ∧ (k ≠ 1 → ∀ p, H p = none → Q (.ref p) (upd H p (.tup (List.replicate k.toNat xs).flatten)))
theorem op_repA {X : Cx} : OpR X (binaryOp .Mult) (rRepA X.K) := by
  intro pins s σ H x y v u Q I rx ry h
  obtain ⟨l, k, xs, rfl, rfl, hT, hne, h1, h2, hz, q1, q2⟩ := h
  by_cases c : k = 1
  · subst c
    cases rx
    obtain ⟨t, rfl⟩ := ry
    obtain ⟨its, r, ⟨⟨cls, dd, data, sl⟩, ho, hc, n, hd⟩, hs⟩ := I.tuple hT
    simp only at hc hd
    subst hc hd
    exact wpAny_binaryOp_repeat_ref (T := "tuple") (U := "int") (by decide) ⟨_, ho, rfl⟩ (fun s' => typeIs_int s' 1 t) noFill_tuple_mul F.fills_int_mul F.slot_int_rmul repeat_tuple F.slot_int_index.lookup
      (call_meets F.slot_int_rmul (typeIs_int s 1 t) F.entry_int_rmul (F.args_int_rmul_2 _ _) (int_rmul_tuple 1 t l its.toArray n dd sl)
        ⟨ho, rfl, ⟨_, ho, rfl⟩, call_meets F.slot_tuple_mul ⟨_, ho, rfl⟩ F.entry_tuple_mul (F.args_tuple_mul_2 _ _) (tuple_once l its.toArray n dd sl t) ⟨ho, ⟨.ref l, H, I, rfl, q1 rfl⟩⟩⟩)
  · exact op_repT pins s σ H _ _ v u Q I rx ry ⟨l, k, xs, rfl, rfl, hT, hne, by omega, h2, hz, q2 c⟩
end MZ

set_option Elab.async false
set_option linter.all false
set_option maxRecDepth 100000
set_option maxHeartbeats 1000000
/-! ### fractions: lowest terms, bounds by a common denominator -/
namespace FR
abbrev Fr := Int × Int
/-- t / l in lowest terms -/
def low (t l : Int) : Fr := (t / (Nat.gcd t.natAbs l.natAbs : Nat), l / (Nat.gcd t.natAbs l.natAbs : Nat))
def addF (x y : Fr) : Fr := low (x.1 * y.2 + y.1 * x.2) (x.2 * y.2)
def lesF (x y : Fr) : Fr := low (x.1 * y.2 - y.1 * x.2) (x.2 * y.2)
def mulF (x y : Fr) : Fr := low (x.1 * y.1) (x.2 * y.2)
def negF (x : Fr) : Fr := (-x.1, x.2)
theorem les_neg (x y : Fr) : addF x (negF y) = lesF x y := by
  unfold addF lesF negF
  have e : x.1 * y.2 + -y.1 * x.2 = x.1 * y.2 - y.1 * x.2 := by rw [Int.neg_mul]; omega
  rw [e]
theorem low_one (t : Int) : low t 1 = (t, 1) := by
  unfold low
  rw [show (1 : Int).natAbs = 1 from rfl, Nat.gcd_one_right]
  simp
theorem add_one {x y : Fr} (h1 : x.2 = 1) (h2 : y.2 = 1) : addF x y = (x.1 + y.1, 1) := by
  unfold addF
  rw [h1, h2, Int.mul_one, Int.mul_one, Int.mul_one, low_one]
theorem mul_one {x y : Fr} (h1 : x.2 = 1) (h2 : y.2 = 1) : mulF x y = (x.1 * y.1, 1) := by
  unfold mulF
  rw [h1, h2, Int.mul_one, low_one]
/-- a denominator of M, at most N -/
structure Bd (M N : Nat) (x : Fr) : Prop where
  pos : 0 < x.2
  dvd : x.2 ∣ (M : Int)
  le : x.1.natAbs ≤ N * x.2.natAbs
theorem gcd_pos {t l : Int} (h : 0 < l) : 0 < Nat.gcd t.natAbs l.natAbs := Nat.gcd_pos_of_pos_right _ (by omega)
theorem low_abs {t l : Int} (h : 0 < l) : (low t l).1.natAbs = t.natAbs / Nat.gcd t.natAbs l.natAbs ∧ (low t l).2 = ((l.natAbs / Nat.gcd t.natAbs l.natAbs : Nat) : Int) := by
  have hg := gcd_pos (t := t) h
  have d1 : ((Nat.gcd t.natAbs l.natAbs : Nat) : Int) ∣ t := Int.ofNat_dvd_left.mpr (Nat.gcd_dvd_left _ _)
  have d2 : Nat.gcd t.natAbs l.natAbs ∣ l.natAbs := Nat.gcd_dvd_right _ _
  constructor
  · show (t / _).natAbs = _
    rw [Int.natAbs_ediv_of_dvd d1]
    rfl
  · show l / _ = _
    have e : l = (l.natAbs : Int) := by omega
    rw [e]
    simp [Int.natAbs_natCast]
theorem low_bd {t l : Int} {M N : Nat} (h : 0 < l) (hd : l ∣ t * (M : Int)) (hn : t.natAbs ≤ N * l.natAbs) : Bd M N (low t l) := by
  have hg := gcd_pos (t := t) h
  obtain ⟨e1, e2⟩ := low_abs (t := t) h
  have g1 : Nat.gcd t.natAbs l.natAbs ∣ t.natAbs := Nat.gcd_dvd_left _ _
  have g2 : Nat.gcd t.natAbs l.natAbs ∣ l.natAbs := Nat.gcd_dvd_right _ _
  have hl : 0 < l.natAbs := by omega
  have q2 : 0 < l.natAbs / Nat.gcd t.natAbs l.natAbs := Nat.div_pos (Nat.le_of_dvd hl g2) hg
  refine ⟨by rw [e2]; omega, ?_, ?_⟩
  · rw [e2]
    refine Int.natCast_dvd_natCast.mpr ?_
    have hd' : l.natAbs ∣ t.natAbs * M := by
      have := Int.natAbs_dvd_natAbs.mpr hd
      rwa [Int.natAbs_mul, Int.natAbs_natCast] at this
    have cp : Nat.Coprime (l.natAbs / Nat.gcd t.natAbs l.natAbs) (t.natAbs / Nat.gcd t.natAbs l.natAbs) := (Nat.coprime_div_gcd_div_gcd hg).symm
    refine cp.dvd_of_dvd_mul_left ?_
    have e3 : l.natAbs = Nat.gcd t.natAbs l.natAbs * (l.natAbs / Nat.gcd t.natAbs l.natAbs) := (Nat.mul_div_cancel' g2).symm
    have e4 : t.natAbs = Nat.gcd t.natAbs l.natAbs * (t.natAbs / Nat.gcd t.natAbs l.natAbs) := (Nat.mul_div_cancel' g1).symm
    generalize Nat.gcd t.natAbs l.natAbs = g at *
    generalize l.natAbs / g = b at *
    generalize t.natAbs / g = a at *
    rw [e3, e4, Nat.mul_assoc] at hd'
    exact Nat.dvd_of_mul_dvd_mul_left hg hd'
  · rw [e1, e2, Int.natAbs_natCast]
    have e3 : l.natAbs = Nat.gcd t.natAbs l.natAbs * (l.natAbs / Nat.gcd t.natAbs l.natAbs) := (Nat.mul_div_cancel' g2).symm
    have e4 : t.natAbs = Nat.gcd t.natAbs l.natAbs * (t.natAbs / Nat.gcd t.natAbs l.natAbs) := (Nat.mul_div_cancel' g1).symm
    generalize Nat.gcd t.natAbs l.natAbs = g at *
    generalize l.natAbs / g = b at *
    generalize t.natAbs / g = a at *
    rw [e3, e4] at hn
    have z : g * a ≤ g * (N * b) := by
      calc g * a ≤ N * (g * b) := hn
        _ = g * (N * b) := by rw [Nat.mul_left_comm]
    exact Nat.le_of_mul_le_mul_left z hg
theorem Bd.mono {M M' N N' : Nat} {x : Fr} (h : Bd M N x) (hm : M ∣ M') (hn : N ≤ N') : Bd M' N' x :=
  ⟨h.pos, Int.dvd_trans h.dvd (Int.natCast_dvd_natCast.mpr hm), Nat.le_trans h.le (Nat.mul_le_mul_right _ hn)⟩
theorem Bd.neg {M N : Nat} {x : Fr} (h : Bd M N x) : Bd M N (negF x) := ⟨h.pos, h.dvd, by show (-x.1).natAbs ≤ _; rw [Int.natAbs_neg]; exact h.le⟩
theorem Bd.add {M N N' : Nat} {x y : Fr} (h : Bd M N x) (h' : Bd M N' y) : Bd M (N + N') (addF x y) := by
  refine low_bd (Int.mul_pos h.pos h'.pos) ?_ ?_
  · rw [Int.add_mul]
    refine Int.dvd_add ?_ ?_
    · have : x.1 * y.2 * (M : Int) = x.1 * ((M : Int) * y.2) := by rw [Int.mul_assoc, Int.mul_comm y.2]
      rw [this]
      exact Int.dvd_mul_of_dvd_right (Int.mul_dvd_mul h.dvd (Int.dvd_refl _))
    · have : y.1 * x.2 * (M : Int) = y.1 * (x.2 * (M : Int)) := Int.mul_assoc _ _ _
      rw [this]
      exact Int.dvd_mul_of_dvd_right (Int.mul_dvd_mul (Int.dvd_refl _) h'.dvd)
  · refine Nat.le_trans (Int.natAbs_add_le _ _) ?_
    rw [Int.natAbs_mul, Int.natAbs_mul, Int.natAbs_mul, Nat.add_mul]
    refine Nat.add_le_add ?_ ?_
    · rw [← Nat.mul_assoc]
      exact Nat.mul_le_mul_right _ h.le
    · rw [Nat.mul_comm x.2.natAbs, ← Nat.mul_assoc]
      exact Nat.mul_le_mul_right _ h'.le
theorem Bd.les {M N N' : Nat} {x y : Fr} (h : Bd M N x) (h' : Bd M N' y) : Bd M (N + N') (lesF x y) := by
  rw [← les_neg]
  exact h.add h'.neg
theorem Bd.mul {M M' N N' : Nat} {x y : Fr} (h : Bd M N x) (h' : Bd M' N' y) : Bd (M * M') (N * N') (mulF x y) := by
  refine low_bd (Int.mul_pos h.pos h'.pos) ?_ ?_
  · refine Int.dvd_mul_of_dvd_right ?_
    rw [Int.natCast_mul]
    exact Int.mul_dvd_mul h.dvd h'.dvd
  · rw [Int.natAbs_mul, Int.natAbs_mul]
    calc x.1.natAbs * y.1.natAbs ≤ (N * x.2.natAbs) * (N' * y.2.natAbs) := Nat.mul_le_mul h.le h'.le
      _ = N * N' * (x.2.natAbs * y.2.natAbs) := by rw [Nat.mul_mul_mul_comm]
/-- how great both numbers are -/
structure Sz (b : Nat) (x : Fr) : Prop where
  pos : 0 < x.2
  n : x.1.natAbs < 2 ^ b
  d : x.2.natAbs < 2 ^ b
theorem Bd.sz {M N a b : Nat} {x : Fr} (h : Bd M N x) (hM : 0 < M) (ha : M < 2 ^ a) (hb : N < 2 ^ b) : Sz (a + b) x := by
  have hd : x.2.natAbs ≤ M := by
    have := Int.natAbs_dvd_natAbs.mpr h.dvd
    rw [Int.natAbs_natCast] at this
    exact Nat.le_of_dvd hM this
  have b1 : 0 < 2 ^ b := Nat.two_pow_pos b
  refine ⟨h.pos, ?_, ?_⟩
  · refine Nat.lt_of_le_of_lt h.le ?_
    refine Nat.lt_of_le_of_lt (Nat.mul_le_mul_left _ hd) ?_
    rw [Nat.mul_comm, Nat.pow_add]
    exact Nat.mul_lt_mul'' ha hb
  · refine Nat.lt_of_le_of_lt hd (Nat.lt_of_lt_of_le ha ?_)
    exact Nat.pow_le_pow_right (by decide) (by omega)
theorem Sz.mono {a b : Nat} {x : Fr} (h : Sz a x) (hab : a ≤ b) : Sz b x := ⟨h.pos, Nat.lt_of_lt_of_le h.n (Nat.pow_le_pow_right (by decide) hab), Nat.lt_of_lt_of_le h.d (Nat.pow_le_pow_right (by decide) hab)⟩
end FR

set_option Elab.async false
set_option linter.all false
/-! ### fractions in lowest terms: their algebra -/
namespace FR
structure Lo (x : Fr) : Prop where
  pos : 0 < x.2
  g : Nat.gcd x.1.natAbs x.2.natAbs = 1
theorem lo_low {t l : Int} (h : 0 < l) : Lo (low t l) := by
  obtain ⟨e1, e2⟩ := low_abs (t := t) h
  have hg := gcd_pos (t := t) h
  have q2 : 0 < l.natAbs / Nat.gcd t.natAbs l.natAbs := Nat.div_pos (Nat.le_of_dvd (by omega) (Nat.gcd_dvd_right _ _)) hg
  refine ⟨by rw [e2]; omega, ?_⟩
  rw [e1, e2, Int.natAbs_natCast]
  exact Nat.coprime_div_gcd_div_gcd hg
/-- what low keeps -/
theorem low_val {t l : Int} (h : 0 < l) : (low t l).1 * l = t * (low t l).2 := by
  have hg := gcd_pos (t := t) h
  have d1 : ((Nat.gcd t.natAbs l.natAbs : Nat) : Int) ∣ t := Int.ofNat_dvd_left.mpr (Nat.gcd_dvd_left _ _)
  have d2 : ((Nat.gcd t.natAbs l.natAbs : Nat) : Int) ∣ l := Int.ofNat_dvd_left.mpr (Nat.gcd_dvd_right _ _)
  unfold low
  generalize ((Nat.gcd t.natAbs l.natAbs : Nat) : Int) = g at d1 d2 hg ⊢
  obtain ⟨a, rfl⟩ := d1
  obtain ⟨b, rfl⟩ := d2
  have g0 : g ≠ 0 := fun z => by rw [z, Int.zero_mul] at h; omega
  show g * a / g * (g * b) = g * a * (g * b / g)
  rw [Int.mul_ediv_cancel_left _ g0, Int.mul_ediv_cancel_left _ g0]
  grind
/-- two in lowest terms with the same worth are the same -/
theorem lo_ext {x y : Fr} (hx : Lo x) (hy : Lo y) (e : x.1 * y.2 = y.1 * x.2) : x = y := by
  obtain ⟨a, b⟩ := x
  obtain ⟨c, d⟩ := y
  have e : a * d = c * b := e
  have hb : 0 < b := hx.pos
  have hd : 0 < d := hy.pos
  have ga : Nat.Coprime a.natAbs b.natAbs := hx.g
  have gc : Nat.Coprime c.natAbs d.natAbs := hy.g
  have en : a.natAbs * d.natAbs = c.natAbs * b.natAbs := by rw [← Int.natAbs_mul, ← Int.natAbs_mul, e]
  have h1 : b.natAbs ∣ d.natAbs := ga.symm.dvd_of_dvd_mul_left (by rw [en]; exact Nat.dvd_mul_left _ _)
  have h2 : d.natAbs ∣ b.natAbs := gc.symm.dvd_of_dvd_mul_left (by rw [← en]; exact Nat.dvd_mul_left _ _)
  have h3 := Nat.dvd_antisymm h1 h2
  have h4 : b = d := by omega
  subst h4
  have h5 : a = c := Int.eq_of_mul_eq_mul_right (by omega) e
  rw [h5]
theorem low_eq {t l t' l' : Int} (h : 0 < l) (h' : 0 < l') (e : t * l' = t' * l) : low t l = low t' l' := by
  refine lo_ext (lo_low h) (lo_low h') ?_
  have v1 := low_val (t := t) h
  have v2 := low_val (t := t') h'
  generalize (low t l).1 = a at v1 ⊢
  generalize (low t l).2 = b at v1 ⊢
  generalize (low t' l').1 = c at v2 ⊢
  generalize (low t' l').2 = d at v2 ⊢
  have z : (a * d) * (l * l') = (c * b) * (l * l') := by grind
  exact Int.eq_of_mul_eq_mul_right (by have := Int.mul_pos h h'; omega) z
theorem low_self {x : Fr} (h : Lo x) : low x.1 x.2 = x := lo_ext (lo_low h.pos) h (low_val h.pos)
theorem lo_add {x y : Fr} (hx : Lo x) (hy : Lo y) : Lo (addF x y) := lo_low (Int.mul_pos hx.pos hy.pos)
theorem lo_les {x y : Fr} (hx : Lo x) (hy : Lo y) : Lo (lesF x y) := lo_low (Int.mul_pos hx.pos hy.pos)
theorem lo_mul {x y : Fr} (hx : Lo x) (hy : Lo y) : Lo (mulF x y) := lo_low (Int.mul_pos hx.pos hy.pos)
theorem add_comm' (x y : Fr) : addF x y = addF y x := by
  unfold addF
  rw [Int.add_comm, Int.mul_comm x.2]
theorem mul_comm' (x y : Fr) : mulF x y = mulF y x := by
  unfold mulF
  rw [Int.mul_comm x.1, Int.mul_comm x.2]
theorem add_assoc' {x y z : Fr} (hx : Lo x) (hy : Lo y) (hz : Lo z) : addF (addF x y) z = addF x (addF y z) := by
  have p := (lo_add hx hy).pos
  have q := (lo_add hy hz).pos
  have v1 : (addF x y).1 * (x.2 * y.2) = (x.1 * y.2 + y.1 * x.2) * (addF x y).2 := low_val (Int.mul_pos hx.pos hy.pos)
  have v2 : (addF y z).1 * (y.2 * z.2) = (y.1 * z.2 + z.1 * y.2) * (addF y z).2 := low_val (Int.mul_pos hy.pos hz.pos)
  show low ((addF x y).1 * z.2 + z.1 * (addF x y).2) ((addF x y).2 * z.2) = low (x.1 * (addF y z).2 + (addF y z).1 * x.2) (x.2 * (addF y z).2)
  have py := hy.pos
  generalize (addF x y).1 = a at v1 ⊢
  generalize (addF x y).2 = b at v1 p ⊢
  generalize (addF y z).1 = c at v2 ⊢
  generalize (addF y z).2 = d at v2 q ⊢
  refine low_eq (Int.mul_pos p hz.pos) (Int.mul_pos hx.pos q) ?_
  have w : ((a * z.2 + z.1 * b) * (x.2 * d)) * y.2 = ((x.1 * d + c * x.2) * (b * z.2)) * y.2 := by grind
  exact Int.eq_of_mul_eq_mul_right (by omega) w
theorem mul_assoc' {x y z : Fr} (hx : Lo x) (hy : Lo y) (hz : Lo z) : mulF (mulF x y) z = mulF x (mulF y z) := by
  have p := (lo_mul hx hy).pos
  have q := (lo_mul hy hz).pos
  have v1 : (mulF x y).1 * (x.2 * y.2) = (x.1 * y.1) * (mulF x y).2 := low_val (Int.mul_pos hx.pos hy.pos)
  have v2 : (mulF y z).1 * (y.2 * z.2) = (y.1 * z.1) * (mulF y z).2 := low_val (Int.mul_pos hy.pos hz.pos)
  show low ((mulF x y).1 * z.1) ((mulF x y).2 * z.2) = low (x.1 * (mulF y z).1) (x.2 * (mulF y z).2)
  have py := hy.pos
  generalize (mulF x y).1 = a at v1 ⊢
  generalize (mulF x y).2 = b at v1 p ⊢
  generalize (mulF y z).1 = c at v2 ⊢
  generalize (mulF y z).2 = d at v2 q ⊢
  refine low_eq (Int.mul_pos p hz.pos) (Int.mul_pos hx.pos q) ?_
  have w : ((a * z.1) * (x.2 * d)) * y.2 = ((x.1 * c) * (b * z.2)) * y.2 := by grind
  exact Int.eq_of_mul_eq_mul_right (by omega) w
theorem mul_add' {x y z : Fr} (hx : Lo x) (hy : Lo y) (hz : Lo z) : mulF x (addF y z) = addF (mulF x y) (mulF x z) := by
  have p := (lo_mul hx hy).pos
  have q := (lo_mul hx hz).pos
  have r := (lo_add hy hz).pos
  have v1 : (mulF x y).1 * (x.2 * y.2) = (x.1 * y.1) * (mulF x y).2 := low_val (Int.mul_pos hx.pos hy.pos)
  have v2 : (mulF x z).1 * (x.2 * z.2) = (x.1 * z.1) * (mulF x z).2 := low_val (Int.mul_pos hx.pos hz.pos)
  have v3 : (addF y z).1 * (y.2 * z.2) = (y.1 * z.2 + z.1 * y.2) * (addF y z).2 := low_val (Int.mul_pos hy.pos hz.pos)
  show low (x.1 * (addF y z).1) (x.2 * (addF y z).2) = low ((mulF x y).1 * (mulF x z).2 + (mulF x z).1 * (mulF x y).2) ((mulF x y).2 * (mulF x z).2)
  have px := hx.pos
  have py := hy.pos
  have pz := hz.pos
  generalize (mulF x y).1 = a at v1 ⊢
  generalize (mulF x y).2 = b at v1 p ⊢
  generalize (mulF x z).1 = c at v2 ⊢
  generalize (mulF x z).2 = d at v2 q ⊢
  generalize (addF y z).1 = e at v3 ⊢
  generalize (addF y z).2 = f at v3 r ⊢
  refine low_eq (Int.mul_pos px r) (Int.mul_pos p q) ?_
  have w : ((x.1 * e) * (b * d)) * (x.2 * y.2 * z.2) = ((a * d + c * b) * (x.2 * f)) * (x.2 * y.2 * z.2) := by grind
  exact Int.eq_of_mul_eq_mul_right (by have := Int.mul_pos (Int.mul_pos px py) pz; omega) w
theorem lo0 : Lo (0, 1) := ⟨by decide, by decide +kernel⟩
theorem lo1 : Lo (1, 1) := ⟨by decide, by decide +kernel⟩
theorem add_zero' {x : Fr} (h : Lo x) : addF (0, 1) x = x := by
  show low (0 * x.2 + x.1 * 1) (1 * x.2) = x
  rw [Int.zero_mul, Int.zero_add, Int.mul_one, Int.one_mul]
  exact low_self h
theorem mul_one' {x : Fr} (h : Lo x) : mulF (1, 1) x = x := by
  show low (1 * x.1) (1 * x.2) = x
  rw [Int.one_mul, Int.one_mul]
  exact low_self h
theorem mul_zero' {x : Fr} (h : Lo x) : mulF (0, 1) x = (0, 1) := by
  show low (0 * x.1) (1 * x.2) = (0, 1)
  rw [Int.zero_mul, Int.one_mul]
  have e : low 0 x.2 = low 0 1 := low_eq h.pos (by decide) (by omega)
  rw [e]
  rfl
end FR

set_option Elab.async false
set_option linter.all false
set_option maxHeartbeats 1000000
/-! ### fractions as rational numbers; sums; powers of tables -/
namespace FR
def val (x : Fr) : Rat := (x.1 : Rat) / (x.2 : Rat)
theorem ne0 {i : Int} (h : 0 < i) : (i : Rat) ≠ 0 := fun z => by
  have : i = 0 := by exact_mod_cast z
  omega
theorem frac_eq {a b t l : Rat} (hb : b ≠ 0) (hl : l ≠ 0) (e : a * l = t * b) : a / b = t / l := by grind
theorem val_low {t l : Int} (h : 0 < l) : val (low t l) = (t : Rat) / (l : Rat) := by
  have v := low_val (t := t) h
  have p := (lo_low (t := t) h).pos
  refine frac_eq (ne0 p) (ne0 h) ?_
  exact_mod_cast v
theorem val_add {x y : Fr} (hx : 0 < x.2) (hy : 0 < y.2) : val (addF x y) = val x + val y := by
  have a := ne0 hx
  have b := ne0 hy
  unfold addF
  rw [val_low (Int.mul_pos hx hy)]
  unfold val
  rw [Rat.intCast_add, Rat.intCast_mul, Rat.intCast_mul, Rat.intCast_mul]
  grind
theorem val_les {x y : Fr} (hx : 0 < x.2) (hy : 0 < y.2) : val (lesF x y) = val x - val y := by
  have a := ne0 hx
  have b := ne0 hy
  unfold lesF
  rw [val_low (Int.mul_pos hx hy)]
  unfold val
  rw [Rat.intCast_sub, Rat.intCast_mul, Rat.intCast_mul, Rat.intCast_mul]
  grind
theorem val_mul {x y : Fr} (hx : 0 < x.2) (hy : 0 < y.2) : val (mulF x y) = val x * val y := by
  have a := ne0 hx
  have b := ne0 hy
  unfold mulF
  rw [val_low (Int.mul_pos hx hy)]
  unfold val
  rw [Rat.intCast_mul, Rat.intCast_mul]
  grind
theorem val_inj {x y : Fr} (hx : Lo x) (hy : Lo y) (e : val x = val y) : x = y := by
  refine lo_ext hx hy ?_
  have a := ne0 hx.pos
  have b := ne0 hy.pos
  unfold val at e
  have z : (x.1 : Rat) * y.2 = y.1 * x.2 := by grind
  exact_mod_cast z
theorem val0 : val (0, 1) = 0 := by unfold val; grind
theorem val1 : val (1, 1) = 1 := by unfold val; grind
/-- sums -/
def sm : Nat → (Nat → Rat) → Rat
  | 0, _ => 0
  | n + 1, f => sm n f + f n
theorem sm_congr {f g : Nat → Rat} : ∀ {n : Nat}, (∀ i, i < n → f i = g i) → sm n f = sm n g
  | 0, _ => rfl
  | n + 1, h => by
    unfold sm
    rw [sm_congr (n := n) fun i hi => h i (by omega), h n (by omega)]
theorem sm_add (f g : Nat → Rat) : ∀ n, sm n (fun i => f i + g i) = sm n f + sm n g
  | 0 => by unfold sm; grind
  | n + 1 => by
    unfold sm
    rw [sm_add f g n]
    grind
theorem sm_mul (c : Rat) (f : Nat → Rat) : ∀ n, sm n (fun i => c * f i) = c * sm n f
  | 0 => by unfold sm; grind
  | n + 1 => by
    unfold sm
    rw [sm_mul c f n]
    grind
theorem sm_mulr (c : Rat) (f : Nat → Rat) : ∀ n, sm n (fun i => f i * c) = sm n f * c
  | 0 => by unfold sm; grind
  | n + 1 => by
    unfold sm
    rw [sm_mulr c f n]
    grind
theorem sm_zero : ∀ n, sm n (fun _ => 0) = 0
  | 0 => rfl
  | n + 1 => by
    unfold sm
    rw [sm_zero n]
    grind
theorem sm_swap (f : Nat → Nat → Rat) : ∀ n m, sm n (fun i => sm m (f i)) = sm m (fun j => sm n (fun i => f i j))
  | 0, m => by
    show (0 : Rat) = sm m fun _ => 0
    rw [sm_zero]
  | n + 1, m => by
    show sm n (fun i => sm m (f i)) + sm m (f n) = sm m fun j => sm n (fun i => f i j) + f n j
    rw [sm_swap f n m, sm_add]
def dlt (i j : Nat) : Rat := if i = j then 1 else 0
theorem sm_dlt {f : Nat → Rat} {j : Nat} : ∀ {n}, sm n (fun i => f i * dlt i j) = if j < n then f j else 0
  | 0 => by simp [sm]
  | n + 1 => by
    show sm n (fun i => f i * dlt i j) + f n * dlt n j = _
    rw [sm_dlt (n := n)]
    unfold dlt
    by_cases c : n = j
    · subst c
      simp
      grind
    · rw [if_neg c]
      by_cases d : j < n
      · rw [if_pos d, if_pos (by omega)]
        grind
      · rw [if_neg d, if_neg (by omega)]
        grind
theorem dlt_comm (i j : Nat) : dlt i j = dlt j i := by
  unfold dlt
  by_cases c : i = j
  · rw [if_pos c, if_pos c.symm]
  · rw [if_neg c, if_neg (Ne.symm c)]
/-- the powers of a table of m rows -/
def pw (A : Nat → Nat → Rat) (m : Nat) : Nat → Nat → Nat → Rat
  | 0, i, j => dlt i j
  | k + 1, i, j => sm m fun l => A i l * pw A m k l j
theorem pw_right (A : Nat → Nat → Rat) (m : Nat) : ∀ (k : Nat) {i j : Nat}, i < m → j < m → pw A m (k + 1) i j = sm m fun l => pw A m k i l * A l j
  | 0, i, j, hi, hj => by
    show (sm m fun l => A i l * dlt l j) = sm m fun l => dlt i l * A l j
    rw [sm_dlt, if_pos hj]
    have e : sm m (fun l => dlt i l * A l j) = sm m fun l => A l j * dlt l i := sm_congr fun l _ => by rw [dlt_comm i l]; grind
    rw [e, sm_dlt (f := fun l => A l j), if_pos hi]
  | k + 1, i, j, hi, hj => by
    have e1 : pw A m (k + 1 + 1) i j = sm m fun l => sm m fun l' => A i l * (pw A m k l l' * A l' j) := by
      show (sm m fun l => A i l * pw A m (k + 1) l j) = _
      refine sm_congr fun l hl => ?_
      rw [pw_right A m k hl hj, sm_mul]
    rw [e1, sm_swap]
    refine sm_congr fun l' _ => ?_
    rw [show pw A m (k + 1) i l' = sm m fun l => A i l * pw A m k l l' from rfl, ← sm_mulr]
    exact sm_congr fun l _ => by grind
end FR

set_option Elab.async false
set_option linter.all false
set_option maxRecDepth 100000
set_option maxHeartbeats 1000000
/-! ### fractions in the heap, and what is worked out with them -/
namespace KP
open PySem PySem.Spec PyProof.Rows L2 KX KT KJ KS FR
abbrev sLowest : Stmt := top 15
abbrev sAdded : Stmt := top 16
abbrev sNeg : Stmt := top 17
abbrev sLess : Stmt := top 18
abbrev sMul : Stmt := top 19
abbrev lPlus : Stmt := top 53
abbrev lLess : Stmt := top 54
abbrev lBy : Stmt := top 55
theorem iteB {b : Bool} {A B : Prop} (h1 : b = true → A) (h2 : b = false → B) : if b = true then A else B := by
  cases b with
  | true => rw [if_pos rfl]; exact h1 rfl
  | false => rw [if_neg Bool.false_ne_true]; exact h2 rfl
/-- the heap's tuples alone -/
def tO (H : Hp) : Hp := fun b => match H b with
  | some (.tup xs) => some (.tup xs)
  | some (.frz _ (.tup xs)) => some (.tup xs)
  | _ => none
theorem tO_of {H : Hp} {a : Addr} {xs : List V} (h : H a = some (.tup xs)) : tO H a = some (.tup xs) := by
  unfold tO
  rw [h]
theorem tO_rd {H : Hp} {a : Addr} {xs : List V} (h : Rd H a (.tup xs)) : tO H a = some (.tup xs) := by
  rcases h with h | ⟨o, h⟩
  · exact tO_of h
  · unfold tO
    rw [h]
theorem of_tO {H : Hp} {a : Addr} {u : HO} (h : tO H a = some u) : ∃ xs, u = .tup xs ∧ Rd H a (.tup xs) := by
  unfold tO at h
  split at h
  · rename_i xs e
    cases h
    exact ⟨xs, rfl, .inl e⟩
  · rename_i o xs e
    cases h
    exact ⟨xs, rfl, .inr ⟨o, e⟩⟩
  · cases h
theorem tO_same (H : Hp) (a : Addr) (xs : List V) (e : tO H a = some (.tup xs)) : Rd H a (.tup xs) := by
  obtain ⟨ys, z, r⟩ := of_tO e
  cases z
  exact r
theorem tO_eq {H : Hp} {a : Addr} {xs : List V} (h : Rd (tO H) a (.tup xs)) : tO H a = some (.tup xs) := by
  rcases h with h | ⟨o, h⟩
  · exact h
  · obtain ⟨ys, z, _⟩ := of_tO h
    cases z
/-- all tuples stay -/
def Tk (H H' : Hp) : Prop := Same (tO H) (tO H')
theorem Tk.refl (H : Hp) : Tk H H := Same.refl _
theorem Tk.trans {H H1 H2 : Hp} (a : Tk H H1) (b : Tk H1 H2) : Tk H H2 := Same.trans a b
theorem Tk.same {H H' : Hp} (s : Same H H') : Tk H H' := fun b u e => by
  obtain ⟨xs, rfl, e1⟩ := of_tO e
  exact tO_rd (s.rd e1)
theorem Tk.sm {H H' : Hp} (s : Sm H H') : Tk H H' := fun b u e => by
  obtain ⟨xs, rfl, e1⟩ := of_tO e
  exact tO_rd (s.rd e1)
theorem Tk.but {j : Addr} {H H' : Hp} {xs : List V} (hj : H j = some (.lst xs)) (s : KJ.But j H H') : Tk H H' := fun b u e => by
  obtain ⟨ys, rfl, e1⟩ := of_tO e
  rcases e1 with e1 | ⟨o, e1⟩
  · exact tO_of (s _ _ (fun z => by rw [z, hj] at e1; cases e1) e1)
  · exact tO_rd (.inr ⟨o, s _ _ (fun z => by rw [z, hj] at e1; cases e1) e1⟩)
theorem Tk.jar {j : Addr} {H H' : Hp} {n : Nat} (hj : JarAt H j n) (s : KJ.But j H H') : Tk H H' := by
  obtain ⟨_, _, _, e, _⟩ := hj
  exact Tk.but e s
theorem Tk.put {H : Hp} {p : Addr} {xs ys : List V} (h : H p = some (.lst xs)) : Tk H (upd H p (.lst ys)) := fun b u e => by
  obtain ⟨zs, rfl, e1⟩ := of_tO e
  rcases e1 with e1 | ⟨o, e1⟩
  · exact tO_of (by rw [upd_ne (fun z => by rw [z, h] at e1; cases e1)]; exact e1)
  · exact tO_rd (.inr ⟨o, by rw [upd_ne (fun z => by rw [z, h] at e1; cases e1)]; exact e1⟩)
theorem Th.tk {H H' : Hp} {v : V} {d : PyData} (h : Th (tO H) v d) (s : Tk H H') : Th (tO H') v d := h.mono (Sm.same s)
theorem Th.up {H : Hp} {v : V} {d : PyData} (h : Th (tO H) v d) : Th H v d := by
  refine Th.rec (motive_1 := fun v d _ => Th H v d) (motive_2 := fun vs ds _ => ThAll H vs ds) .non (fun b => .bl b) (fun i => .int i) (fun x => .str x) (fun q _ ih => ?_) (fun q _ ih => .tup' (tO_same H _ _ (tO_eq q)) ih) (fun q => ?_) .nil (fun _ _ a b => .cons a b) h
  · obtain ⟨_, z, _⟩ := of_tO q
    cases z
  · obtain ⟨_, z, _⟩ := of_tO q
    cases z
theorem ThAll.up {H : Hp} : ∀ {vs : List V} {ds : List PyData}, ThAll (tO H) vs ds → ThAll H vs ds
  | [], [], _ => .nil
  | _ :: _, _ :: _, .cons a b => .cons a.up b.up
theorem sqT_up {K : PySem.W.Frag} {H : Hp} {a : Addr} {xs : List V} (h : SqT K (tO H) a xs) : SqT K H a xs := by
  rcases h with h | h
  · exact .inl (tO_same H _ _ (tO_eq h))
  · exact .inr h
theorem same_sqT {K : PySem.W.Frag} {H H' : Hp} {a : Addr} {xs : List V} (e : Same H H') (h : SqT K H a xs) : SqT K H' a xs := by
  rcases h with (h | ⟨o, h⟩) | h
  · exact .inl (.inl (e _ _ h))
  · exact .inl (.inr ⟨o, e _ _ h⟩)
  · exact .inr h
/-- v is the fraction x -/
def FrV (K : PySem.W.Frag) (H : Hp) (v : V) (x : Fr) : Prop := ∃ a, v = .ref a ∧ SqT K (tO H) a [.int x.1, .int x.2]
theorem FrV.tk {K : PySem.W.Frag} {H H' : Hp} {v : V} {x : Fr} (h : FrV K H v x) (s : Tk H H') : FrV K H' v x := by
  obtain ⟨a, e, q⟩ := h
  exact ⟨a, e, same_sqT s q⟩
theorem FrV.new {K : PySem.W.Frag} {H : Hp} {p : Addr} {x : Fr} : FrV K (upd H p (.tup [.int x.1, .int x.2])) (.ref p) x := ⟨p, rfl, SqT.of (tO_of upd_same)⟩
theorem FrV.at {K : PySem.W.Frag} {H : Hp} {p : Addr} {x : Fr} (h : H p = some (.tup [.int x.1, .int x.2])) : FrV K H (.ref p) x := ⟨p, rfl, SqT.of (tO_of h)⟩
section
variable {K : PySem.W.Frag} {σ : L2.St} {H : Hp} {D : Ends}
theorem vi_ix0 {i : Nat} {v : V} {x : Fr} (h : σ[i]? = some (some v)) (f : FrV K H v x) : Vi (tOp (rIxT K) (tVar i) (tC (.int 0))) σ H (.int x.1) := by
  obtain ⟨a, rfl, q⟩ := f
  exact vi_op (vi_var h) vi_c fun Q k => ⟨a, _, 0, _, rfl, rfl, sqT_up q, rfl, k⟩
theorem vi_ix1 {i : Nat} {v : V} {x : Fr} (h : σ[i]? = some (some v)) (f : FrV K H v x) : Vi (tOp (rIxT K) (tVar i) (tC (.int 1))) σ H (.int x.2) := by
  obtain ⟨a, rfl, q⟩ := f
  exact vi_op (vi_var h) vi_c fun Q k => ⟨a, _, 1, _, rfl, rfl, sqT_up q, rfl, k⟩
theorem vi_mul {ta tb : TE} {a b : Int} (ha : Vi ta σ H (.int a)) (hb : Vi tb σ H (.int b)) (c : CMulW a b) : Vi (tOp (rI CMulW fun i j => .int (i * j)) ta tb) σ H (.int (a * b)) := vi_op ha hb fun Q q => ⟨_, _, rfl, rfl, c, q⟩
theorem vi_add {ta tb : TE} {a b : Int} (ha : Vi ta σ H (.int a)) (hb : Vi tb σ H (.int b)) : Vi (tOp (rI0 fun i j => .int (i + j)) ta tb) σ H (.int (a + b)) := vi_op ha hb fun Q q => ⟨_, _, rfl, rfl, q⟩
theorem vi_sub {ta tb : TE} {a b : Int} (ha : Vi ta σ H (.int a)) (hb : Vi tb σ H (.int b)) : Vi (tOp (rI0 fun i j => .int (i - j)) ta tb) σ H (.int (a - b)) := vi_op ha hb fun Q q => ⟨_, _, rfl, rfl, q⟩
theorem ti_and {t u : TT} {a b : Bool} (h : Ti t σ H a) (h2 : a = true → Ti u σ H b) : Ti (tAnd t u) σ H (a && b) := fun Q q => h _ (by
  cases a with
  | true => rw [if_pos rfl]; exact h2 rfl _ q
  | false => rw [if_neg Bool.false_ne_true]; exact q)
theorem i_when {t : TT} {tu tz : TS} {b : Bool} (h : Ti t σ H b) (h1 : b = true → tu { D with nx := tz D } σ H) (h2 : b = false → tz D σ H) : tSeq (tIfS t tu tNext) tz D σ H := i_if (D := { D with nx := tz D }) h h1 h2
theorem i_set {te : TE} {tz : TS} {i : Nat} {v : V} (h : Vi te σ H v) (k : tz D (σ.set i (some v)) H) : tSeq (tAsg te (gName i)) tz D σ H := h _ k
end
theorem ret_call {K : PySem.W.Frag} {σ : L2.St} {H : Hp} {D : Ends} {sp : Sp} {E : XK} {ta : TA} {vs : List V} (h : Ai ta σ H vs) (k : sp vs H D.rt E) : tRet (tCall sp [] E ta) D σ H := h _ (by rw [List.append_nil]; exact k)
theorem ret_tup2 {σ : L2.St} {H : Hp} {D : Ends} {ta tb : TE} {a b : Int} (ha : Vi ta σ H (.int a)) (hb : Vi tb σ H (.int b)) (k : ∀ p, H p = none → D.rt (.ref p) (upd H p (.tup [.int a, .int b]))) : tRet (tTup (tCons ta (tCons tb tNil))) D σ H := ha _ (hb _ ⟨(by show 2 ≤ sizeLine; decide), k⟩)
theorem cmul {x y : Int} {a b : Nat} (hx : x.natAbs < 2 ^ (a + 1)) (hy : y.natAbs < 2 ^ (b + 1)) (h : a + b ≤ 900000) : CMulW x y := wide_mul hx hy (by omega) (by omega) (by omega)
/-- lowest, and the law's own -/
def spLow : Sp := fun vs H Q _ => ∃ t l : Int, vs = [.int t, .int l] ∧ 0 < l ∧ l.natAbs < 2 ^ 9000 ∧ ∀ p, H p = none → Q (.ref p) (upd H p (.tup [.int (low t l).1, .int (low t l).2]))
def spBin (K : PySem.W.Frag) (f : Fr → Fr → Fr) : Sp := fun vs H Q _ => ∃ u v x y, vs = [u, v] ∧ FrV K H u x ∧ FrV K H v y ∧ Sz 4000 x ∧ Sz 4000 y ∧ ∀ r H', Same H H' → FrV K H' r (f x y) → Q r H'
def spNegF (K : PySem.W.Frag) : Sp := fun vs H Q _ => ∃ u x, vs = [u] ∧ FrV K H u x ∧ ∀ r H', Same H H' → FrV K H' r (negF x) → Q r H'
theorem z9 {x y : Fr} (hx : Sz 4000 x) (hy : Sz 4000 y) : 0 < x.2 * y.2 ∧ (x.2 * y.2).natAbs < 2 ^ 9000 := ⟨Int.mul_pos hx.pos hy.pos, Nat.lt_of_lt_of_le (wide_lt hx.d hy.d) (Nat.pow_le_pow_right (by decide) (by decide))⟩
section
variable {P : Program} {w : World} {K : PySem.W.Frag} {mg : Str → Option Value} {base : Heap}
theorem scLowest : FnScope ["above", "below", "divisor"] ["above", "below"] (defScope sLowest) := ⟨rfl, rfl, rfl, by decide +kernel, rfl, by decide +kernel, by decide +kernel⟩
theorem ok_lowest {f : Addr} {fd : FuncData} (F : Fun K "lowest" "lowest" sLowest f fd) (mG : mg "gcd" = some (.builtin "math.gcd")) : FnOk P w K mg base CX0 1 f fd ["above", "below"] spLow := by
  refine F.ok scLowest (fun vs H Q E h => ?_) (fun cdv A outer s H vs Q E hr h => ?_)
  · obtain ⟨t, l, rfl, _⟩ := h
    rfl
  · obtain ⟨t, l, rfl, l0, l9, k⟩ := h
    refine ⟨_, pss_cons (ps_set (i := 2) scLowest.nd rfl (Or.inl rfl) (pe_callBfun cr_gcd (by rfl) mG (pa_cons (pv 0) (pa_cons (pv 1) pa_nil))))
      (pss_one (ps_ret (pe_tup (pa_cons (pe_op op_fdivW (pv 0) (pv 2)) (pa_cons (pe_op op_fdivW (pv 1) (pv 2)) pa_nil))))), ?_⟩
    have hg := gcd_pos (t := t) l0
    have hd : CDivW t ((Nat.gcd t.natAbs l.natAbs : Nat) : Int) := wide_div (b := 9000) (by omega) (by rw [Int.natAbs_natCast]; exact Nat.lt_of_le_of_lt (Nat.le_of_dvd (by omega) (Nat.gcd_dvd_right _ _)) l9) (by decide) (Nat.le_refl _)
    exact ⟨_, rfl, _, rfl, _, _, rfl, _, rfl, _, rfl, _, _, rfl, rfl, hd, _, rfl, _, rfl, _, _, rfl, rfl, hd, (by show 2 ≤ sizeLine; decide), fun p hp => k p hp⟩
theorem scAdded : FnScope ["one", "two"] ["one", "two"] (defScope sAdded) := ⟨rfl, rfl, rfl, by decide +kernel, rfl, by decide +kernel, by decide +kernel⟩
theorem ok_added {f fL : Addr} {fd fdL : FuncData} (F : Fun K "added" "added" sAdded f fd) (FL : FnOk P w K mg base CX0 1 fL fdL ["above", "below"] spLow) (mL : mg "lowest" = some (.ref fL)) (kL : PySem.W.keepIn K (.ref fL) = true) (bL : Binds K fdL ["above", "below"] []) :
    FnOk P w K mg base CX0 2 f fd ["one", "two"] (spBin K addF) := by
  refine F.ok scAdded (fun vs H Q E h => ?_) (fun cdv A outer s H vs Q E hr h => ?_)
  · obtain ⟨u, v, x, y, rfl, _⟩ := h
    rfl
  · obtain ⟨u, v, x, y, rfl, hx, hy, zx, zy, k⟩ := h
    refine ⟨_, pss_cons (ps_if (pw_and (pt_cmpR op_eq (pe_ix ix_tup (pv 0) pe_int (fun _ _ => rfl)) pe_int (nomark _)) (pw_and1 (pt_cmpR op_eq (pe_ix ix_tup (pv 1) pe_int (fun _ _ => rfl)) pe_int (nomark _)))).pt
        (pss_one (ps_ret (pe_tup (pa_cons (pe_op op_add (pe_ix ix_tup (pv 0) pe_int (fun _ _ => rfl)) (pe_ix ix_tup (pv 1) pe_int (fun _ _ => rfl))) (pa_cons pe_int pa_nil))))) pss_nil)
      (pss_one (ps_ret (pe_call FL hr rfl mL kL bL .nil pass0 (pa_cons (pe_op op_add (pe_op op_mulW (pe_ix ix_tup (pv 0) pe_int (fun _ _ => rfl)) (pe_ix ix_tup (pv 1) pe_int (fun _ _ => rfl))) (pe_op op_mulW (pe_ix ix_tup (pv 1) pe_int (fun _ _ => rfl)) (pe_ix ix_tup (pv 0) pe_int (fun _ _ => rfl))))
        (pa_cons (pe_op op_mulW (pe_ix ix_tup (pv 0) pe_int (fun _ _ => rfl)) (pe_ix ix_tup (pv 1) pe_int (fun _ _ => rfl))) pa_nil))))), ?_⟩
    refine i_when (D := { nx := _, rt := Q }) (b := decide (V.int x.2 = V.int 1) && decide (V.int y.2 = V.int 1)) (ti_and (ti_test (vi_op (vi_ix1 rfl hx) vi_c fun Q q => ⟨rfl, q⟩)) fun _ => ti_test (vi_op (vi_ix1 rfl hy) vi_c fun Q q => ⟨rfl, q⟩)) (fun c => ?_) (fun c => ?_)
    · rw [Bool.and_eq_true] at c
      have e1 := V.int.inj (of_decide_eq_true c.1)
      have e2 := V.int.inj (of_decide_eq_true c.2)
      refine ret_tup2 (vi_add (vi_ix0 rfl hx) (vi_ix0 rfl hy)) vi_c fun p hp => k _ _ (same_upd hp) ?_
      rw [add_one e1 e2]
      exact FrV.new (x := (x.1 + y.1, 1))
    · obtain ⟨z1, z2⟩ := z9 zx zy
      refine ret_call (K := K) (D := { nx := _, rt := Q }) (ai_cons (vi_add (vi_mul (vi_ix0 rfl hx) (vi_ix1 rfl hy) (cmul (a := 3999) (b := 3999) zx.n zy.d (by decide))) (vi_mul (vi_ix0 rfl hy) (vi_ix1 rfl hx) (cmul (a := 3999) (b := 3999) zy.n zx.d (by decide)))) (ai_cons (vi_mul (vi_ix1 rfl hx) (vi_ix1 rfl hy) (cmul (a := 3999) (b := 3999) zx.d zy.d (by decide))) ai_nil)) ?_
      exact ⟨_, _, rfl, z1, z2, fun p hp => k _ _ (same_upd hp) (FrV.new (x := addF x y))⟩
theorem scNeg : FnScope ["one"] ["one"] (defScope sNeg) := ⟨rfl, rfl, rfl, by decide +kernel, rfl, by decide +kernel, by decide +kernel⟩
theorem ok_negative {f : Addr} {fd : FuncData} (F : Fun K "negative" "negative" sNeg f fd) : FnOk P w K mg base CX0 1 f fd ["one"] (spNegF K) := by
  refine F.ok scNeg (fun vs H Q E h => ?_) (fun cdv A outer s H vs Q E hr h => ?_)
  · obtain ⟨u, x, rfl, _⟩ := h
    rfl
  · obtain ⟨u, x, rfl, hx, k⟩ := h
    refine ⟨_, pss_one (ps_ret (pe_tup (pa_cons (pe_un un_neg (pe_ix ix_tup (pv 0) pe_int (fun _ _ => rfl))) (pa_cons (pe_ix ix_tup (pv 0) pe_int (fun _ _ => rfl)) pa_nil)))), ?_⟩
    exact ret_tup2 (D := { nx := _, rt := Q }) (fun Q q => vi_ix0 (i := 0) rfl hx _ ⟨_, rfl, q⟩) (vi_ix1 rfl hx) fun p hp => k _ _ (same_upd hp) (FrV.new (x := negF x))
theorem scLess : FnScope ["one", "two"] ["one", "two"] (defScope sLess) := ⟨rfl, rfl, rfl, by decide +kernel, rfl, by decide +kernel, by decide +kernel⟩
theorem ok_lessened {f fA fN : Addr} {fd fdA fdN : FuncData} (F : Fun K "lessened" "lessened" sLess f fd) (FA : FnOk P w K mg base CX0 2 fA fdA ["one", "two"] (spBin K addF)) (mA : mg "added" = some (.ref fA)) (kA : PySem.W.keepIn K (.ref fA) = true) (bA : Binds K fdA ["one", "two"] [])
    (FN : FnOk P w K mg base CX0 1 fN fdN ["one"] (spNegF K)) (mN : mg "negative" = some (.ref fN)) (kN : PySem.W.keepIn K (.ref fN) = true) (bN : Binds K fdN ["one"] []) : FnOk P w K mg base CX0 3 f fd ["one", "two"] (spBin K lesF) := by
  refine F.ok scLess (fun vs H Q E h => ?_) (fun cdv A outer s H vs Q E hr h => ?_)
  · obtain ⟨u, v, x, y, rfl, _⟩ := h
    rfl
  · obtain ⟨u, v, x, y, rfl, hx, hy, zx, zy, k⟩ := h
    refine ⟨_, pss_one (ps_ret (pe_call FA hr rfl mA kA bA .nil pass0 (pa_cons (pv 0) (pa_cons (pe_call FN (hr.mono (by decide)) rfl mN kN bN .nil pass0 (pa_cons (pv 1) pa_nil)) pa_nil)))), ?_⟩
    refine ⟨_, rfl, _, rfl, v, y, rfl, hy, fun r H1 s1 h1 => ?_⟩
    refine ⟨_, _, x, negF y, rfl, hx.tk (Tk.same s1), h1, zx, ⟨zy.pos, by show (-y.1).natAbs < _; rw [Int.natAbs_neg]; exact zy.n, zy.d⟩, fun r2 H2 s2 h2 => k _ _ (s1.trans s2) ?_⟩
    rw [← les_neg]
    exact h2
theorem scMul : FnScope ["one", "two"] ["one", "two"] (defScope sMul) := ⟨rfl, rfl, rfl, by decide +kernel, rfl, by decide +kernel, by decide +kernel⟩
theorem ok_multiplied {f fL : Addr} {fd fdL : FuncData} (F : Fun K "multiplied" "multiplied" sMul f fd) (FL : FnOk P w K mg base CX0 1 fL fdL ["above", "below"] spLow) (mL : mg "lowest" = some (.ref fL)) (kL : PySem.W.keepIn K (.ref fL) = true) (bL : Binds K fdL ["above", "below"] []) :
    FnOk P w K mg base CX0 2 f fd ["one", "two"] (spBin K mulF) := by
  refine F.ok scMul (fun vs H Q E h => ?_) (fun cdv A outer s H vs Q E hr h => ?_)
  · obtain ⟨u, v, x, y, rfl, _⟩ := h
    rfl
  · obtain ⟨u, v, x, y, rfl, hx, hy, zx, zy, k⟩ := h
    refine ⟨_, pss_cons (ps_if (pw_and (pt_cmpR op_eq (pe_ix ix_tup (pv 0) pe_int (fun _ _ => rfl)) pe_int (nomark _)) (pw_and1 (pt_cmpR op_eq (pe_ix ix_tup (pv 1) pe_int (fun _ _ => rfl)) pe_int (nomark _)))).pt
        (pss_one (ps_ret (pe_tup (pa_cons (pe_op op_mulW (pe_ix ix_tup (pv 0) pe_int (fun _ _ => rfl)) (pe_ix ix_tup (pv 1) pe_int (fun _ _ => rfl))) (pa_cons pe_int pa_nil))))) pss_nil)
      (pss_one (ps_ret (pe_call FL hr rfl mL kL bL .nil pass0 (pa_cons (pe_op op_mulW (pe_ix ix_tup (pv 0) pe_int (fun _ _ => rfl)) (pe_ix ix_tup (pv 1) pe_int (fun _ _ => rfl)))
        (pa_cons (pe_op op_mulW (pe_ix ix_tup (pv 0) pe_int (fun _ _ => rfl)) (pe_ix ix_tup (pv 1) pe_int (fun _ _ => rfl))) pa_nil))))), ?_⟩
    refine i_when (D := { nx := _, rt := Q }) (b := decide (V.int x.2 = V.int 1) && decide (V.int y.2 = V.int 1)) (ti_and (ti_test (vi_op (vi_ix1 rfl hx) vi_c fun Q q => ⟨rfl, q⟩)) fun _ => ti_test (vi_op (vi_ix1 rfl hy) vi_c fun Q q => ⟨rfl, q⟩)) (fun c => ?_) (fun c => ?_)
    · rw [Bool.and_eq_true] at c
      have e1 := V.int.inj (of_decide_eq_true c.1)
      have e2 := V.int.inj (of_decide_eq_true c.2)
      refine ret_tup2 (vi_mul (vi_ix0 rfl hx) (vi_ix0 rfl hy) (cmul (a := 3999) (b := 3999) zx.n zy.n (by decide))) vi_c fun p hp => k _ _ (same_upd hp) ?_
      rw [mul_one e1 e2]
      exact FrV.new (x := (x.1 * y.1, 1))
    · obtain ⟨z1, z2⟩ := z9 zx zy
      refine ret_call (K := K) (D := { nx := _, rt := Q }) (ai_cons (vi_mul (vi_ix0 rfl hx) (vi_ix0 rfl hy) (cmul (a := 3999) (b := 3999) zx.n zy.n (by decide))) (ai_cons (vi_mul (vi_ix1 rfl hx) (vi_ix1 rfl hy) (cmul (a := 3999) (b := 3999) zx.d zy.d (by decide))) ai_nil)) ?_
      exact ⟨_, _, rfl, z1, z2, fun p hp => k _ _ (same_upd hp) (FrV.new (x := mulF x y))⟩
-- the law's own
theorem scFrac : FnScope ["top", "low", "one", "two"] ["top", "low"] (defScope lFrac) := ⟨rfl, rfl, rfl, by decide +kernel, rfl, by decide +kernel, by decide +kernel⟩
theorem ok_fracW {f : Addr} {fd : FuncData} (F : Fun K "_law_frac" "_law_frac" lFrac f fd) (T : TxT mg) : FnOk P w K mg base CX0 1 f fd ["top", "low"] spLow := by
  refine F.ok scFrac (fun vs H Q E h => ?_) (fun cdv A outer s H vs Q E hr h => ?_)
  · obtain ⟨t, l, rfl, _⟩ := h
    rfl
  · obtain ⟨t, l, rfl, l0, l9, k⟩ := h
    refine ⟨_, pss_cons (ps_par (i := 2) (j := 3) (by rfl) scFrac.nd rfl rfl (by decide) rfl rfl (pa_cons (pe_callB call_abs (by rfl) T.abs (by decide +kernel) (pa_cons (pv 0) pa_nil)) (pa_cons (pv 1) pa_nil)) (by rfl))
      (pss_cons (ps_while PassesOwn.never (pt_cmpR op_gt (pv 3) pe_int (nomark _)) (pss_one (ps_par (i := 2) (j := 3) (by rfl) scFrac.nd rfl rfl (by decide) rfl rfl (pa_cons (pv 3) (pa_cons (pe_op op_mod (pe_callTy call_int1 (by rfl) T.int (by decide +kernel) (pa_cons (pv 2) pa_nil)) (pv 3)) pa_nil)) (by rfl))))
      (pss_one (ps_ret (pe_tup (pa_cons (pe_op op_fdivW (pv 0) (pv 2)) (pa_cons (pe_op op_fdivW (pv 1) (pv 2)) pa_nil)))))), ?_⟩
    have hg := gcd_pos (t := t) l0
    refine ⟨_, rfl, _, rfl, _, rfl, _, _, rfl, ?_⟩
    refine ⟨fun m σ H' => H' = H ∧ ∃ a b : Nat, σ = [some (.int t), some (.int l), some (.int a), some (.int b)] ∧ Nat.gcd a b = Nat.gcd t.natAbs l.natAbs ∧ m = b, ⟨_, rfl, t.natAbs, l.natAbs, ?_, rfl, rfl⟩, ?_⟩
    · have e1 : (if t < 0 then -t else t) = (t.natAbs : Int) := by split <;> omega
      have e2 : l = (l.natAbs : Int) := by omega
      show [some (V.int t), some (V.int l), some (V.int (if t < 0 then -t else t)), some (V.int l)] = _
      rw [e1, ← e2]
    · rintro m σ H' ⟨rfl, a, b, rfl, hgc, hm⟩
      refine ⟨_, rfl, _, _, rfl, rfl, _, rfl, ?_⟩
      dsimp only
      by_cases c : 0 < b
      · rw [if_pos (decide_eq_true (show (0 : Int) < (b : Int) by omega))]
        refine ⟨fun σ' H2 => H2 = H' ∧ σ' = [some (.int t), some (.int l), some (.int b), some (.int ((a % b : Nat) : Int))], ?_, ?_⟩
        · rintro σ' H2 ⟨rfl, rfl⟩
          have lt := Nat.mod_lt a c
          refine ⟨a % b, by omega, rfl, b, a % b, rfl, ?_, rfl⟩
          rw [← hgc, Nat.gcd_comm a b, Nat.gcd_rec b a, Nat.gcd_comm]
        · refine ⟨_, rfl, _, rfl, .inl ⟨_, rfl, _, rfl, _, _, rfl, rfl, show (0 : Int) < (b : Int) by omega, _, _, rfl, rfl, ?_⟩⟩
          show [some (V.int t), some (V.int l), some (V.int b), some (V.int ((a : Int) % (b : Int)))] = _
          rw [Int.natCast_emod]
      · have b0 : b = 0 := by omega
        subst b0
        rw [if_neg (by decide)]
        rw [Nat.gcd_zero_right] at hgc
        subst hgc
        have hd : CDivW t ((Nat.gcd t.natAbs l.natAbs : Nat) : Int) := wide_div (b := 9000) (by omega) (by rw [Int.natAbs_natCast]; exact Nat.lt_of_le_of_lt (Nat.le_of_dvd (by omega) (Nat.gcd_dvd_right _ _)) l9) (by decide) (Nat.le_refl _)
        exact ⟨_, rfl, _, rfl, _, _, rfl, rfl, hd, _, rfl, _, rfl, _, _, rfl, rfl, hd, (by decide : 2 ≤ sizeLine), fun p hp => k p hp⟩
theorem scPlus : FnScope ["one", "two"] ["one", "two"] (defScope lPlus) := ⟨rfl, rfl, rfl, by decide +kernel, rfl, by decide +kernel, by decide +kernel⟩
theorem ok_plusL {f fL : Addr} {fd fdL : FuncData} (F : Fun K "_law_plus" "_law_plus" lPlus f fd) (FL : FnOk P w K mg base CX0 1 fL fdL ["top", "low"] spLow) (mL : mg "_law_frac" = some (.ref fL)) (kL : PySem.W.keepIn K (.ref fL) = true) (bL : Binds K fdL ["top", "low"] []) :
    FnOk P w K mg base CX0 2 f fd ["one", "two"] (spBin K addF) := by
  refine F.ok scPlus (fun vs H Q E h => ?_) (fun cdv A outer s H vs Q E hr h => ?_)
  · obtain ⟨u, v, x, y, rfl, _⟩ := h
    rfl
  · obtain ⟨u, v, x, y, rfl, hx, hy, zx, zy, k⟩ := h
    refine ⟨_, pss_one (ps_ret (pe_call FL hr rfl mL kL bL .nil pass0 (pa_cons (pe_op op_add (pe_op op_mulW (pe_ix ix_tup (pv 0) pe_int (fun _ _ => rfl)) (pe_ix ix_tup (pv 1) pe_int (fun _ _ => rfl))) (pe_op op_mulW (pe_ix ix_tup (pv 1) pe_int (fun _ _ => rfl)) (pe_ix ix_tup (pv 0) pe_int (fun _ _ => rfl))))
        (pa_cons (pe_op op_mulW (pe_ix ix_tup (pv 0) pe_int (fun _ _ => rfl)) (pe_ix ix_tup (pv 1) pe_int (fun _ _ => rfl))) pa_nil)))), ?_⟩
    obtain ⟨z1, z2⟩ := z9 zx zy
    refine ret_call (K := K) (D := { nx := _, rt := Q }) (ai_cons (vi_add (vi_mul (vi_ix0 rfl hx) (vi_ix1 rfl hy) (cmul (a := 3999) (b := 3999) zx.n zy.d (by decide))) (vi_mul (vi_ix0 rfl hy) (vi_ix1 rfl hx) (cmul (a := 3999) (b := 3999) zy.n zx.d (by decide)))) (ai_cons (vi_mul (vi_ix1 rfl hx) (vi_ix1 rfl hy) (cmul (a := 3999) (b := 3999) zx.d zy.d (by decide))) ai_nil)) ?_
    exact ⟨_, _, rfl, z1, z2, fun p hp => k _ _ (same_upd hp) (FrV.new (x := addF x y))⟩
theorem scLessL : FnScope ["one", "two"] ["one", "two"] (defScope lLess) := ⟨rfl, rfl, rfl, by decide +kernel, rfl, by decide +kernel, by decide +kernel⟩
theorem ok_lessL {f fL : Addr} {fd fdL : FuncData} (F : Fun K "_law_less" "_law_less" lLess f fd) (FL : FnOk P w K mg base CX0 1 fL fdL ["top", "low"] spLow) (mL : mg "_law_frac" = some (.ref fL)) (kL : PySem.W.keepIn K (.ref fL) = true) (bL : Binds K fdL ["top", "low"] []) :
    FnOk P w K mg base CX0 2 f fd ["one", "two"] (spBin K lesF) := by
  refine F.ok scLessL (fun vs H Q E h => ?_) (fun cdv A outer s H vs Q E hr h => ?_)
  · obtain ⟨u, v, x, y, rfl, _⟩ := h
    rfl
  · obtain ⟨u, v, x, y, rfl, hx, hy, zx, zy, k⟩ := h
    refine ⟨_, pss_one (ps_ret (pe_call FL hr rfl mL kL bL .nil pass0 (pa_cons (pe_op op_sub (pe_op op_mulW (pe_ix ix_tup (pv 0) pe_int (fun _ _ => rfl)) (pe_ix ix_tup (pv 1) pe_int (fun _ _ => rfl))) (pe_op op_mulW (pe_ix ix_tup (pv 1) pe_int (fun _ _ => rfl)) (pe_ix ix_tup (pv 0) pe_int (fun _ _ => rfl))))
        (pa_cons (pe_op op_mulW (pe_ix ix_tup (pv 0) pe_int (fun _ _ => rfl)) (pe_ix ix_tup (pv 1) pe_int (fun _ _ => rfl))) pa_nil)))), ?_⟩
    obtain ⟨z1, z2⟩ := z9 zx zy
    refine ret_call (K := K) (D := { nx := _, rt := Q }) (ai_cons (vi_sub (vi_mul (vi_ix0 rfl hx) (vi_ix1 rfl hy) (cmul (a := 3999) (b := 3999) zx.n zy.d (by decide))) (vi_mul (vi_ix0 rfl hy) (vi_ix1 rfl hx) (cmul (a := 3999) (b := 3999) zy.n zx.d (by decide)))) (ai_cons (vi_mul (vi_ix1 rfl hx) (vi_ix1 rfl hy) (cmul (a := 3999) (b := 3999) zx.d zy.d (by decide))) ai_nil)) ?_
    exact ⟨_, _, rfl, z1, z2, fun p hp => k _ _ (same_upd hp) (FrV.new (x := lesF x y))⟩
theorem scByL : FnScope ["one", "two"] ["one", "two"] (defScope lBy) := ⟨rfl, rfl, rfl, by decide +kernel, rfl, by decide +kernel, by decide +kernel⟩
theorem ok_byL {f fL : Addr} {fd fdL : FuncData} (F : Fun K "_law_by" "_law_by" lBy f fd) (FL : FnOk P w K mg base CX0 1 fL fdL ["top", "low"] spLow) (mL : mg "_law_frac" = some (.ref fL)) (kL : PySem.W.keepIn K (.ref fL) = true) (bL : Binds K fdL ["top", "low"] []) :
    FnOk P w K mg base CX0 2 f fd ["one", "two"] (spBin K mulF) := by
  refine F.ok scByL (fun vs H Q E h => ?_) (fun cdv A outer s H vs Q E hr h => ?_)
  · obtain ⟨u, v, x, y, rfl, _⟩ := h
    rfl
  · obtain ⟨u, v, x, y, rfl, hx, hy, zx, zy, k⟩ := h
    refine ⟨_, pss_one (ps_ret (pe_call FL hr rfl mL kL bL .nil pass0 (pa_cons (pe_op op_mulW (pe_ix ix_tup (pv 0) pe_int (fun _ _ => rfl)) (pe_ix ix_tup (pv 1) pe_int (fun _ _ => rfl)))
        (pa_cons (pe_op op_mulW (pe_ix ix_tup (pv 0) pe_int (fun _ _ => rfl)) (pe_ix ix_tup (pv 1) pe_int (fun _ _ => rfl))) pa_nil)))), ?_⟩
    obtain ⟨z1, z2⟩ := z9 zx zy
    refine ret_call (K := K) (D := { nx := _, rt := Q }) (ai_cons (vi_mul (vi_ix0 rfl hx) (vi_ix0 rfl hy) (cmul (a := 3999) (b := 3999) zx.n zy.n (by decide))) (ai_cons (vi_mul (vi_ix1 rfl hx) (vi_ix1 rfl hy) (cmul (a := 3999) (b := 3999) zx.d zy.d (by decide))) ai_nil)) ?_
    exact ⟨_, _, rfl, z1, z2, fun p hp => k _ _ (same_upd hp) (FrV.new (x := mulF x y))⟩
end
end KP

set_option Elab.async false
set_option linter.all false
set_option maxRecDepth 100000
set_option maxHeartbeats 2000000
/-! ### drawn nets that are nets: the data -/
namespace KP
open PySem PySem.Spec PyProof.Rows L2 KX KT KJ KS FR
structure Told (x : Fr) : Prop where
  pos : 0 < x.2
  d : x.2 ≤ 999
  n : x.1.natAbs ≤ 999
  g : Nat.gcd x.1.natAbs x.2.natAbs = 1
def fD (x : Fr) : PyData := .tuple [.int x.1, .int x.2]
theorem low_told {t l : Int} (h : 0 < l) (hl : l ≤ 999) (ht : t.natAbs ≤ 999) : Told (low t l) := by
  have hg := gcd_pos (t := t) h
  obtain ⟨e1, e2⟩ := low_abs (t := t) h
  have g2 : Nat.gcd t.natAbs l.natAbs ∣ l.natAbs := Nat.gcd_dvd_right _ _
  have q2 : 0 < l.natAbs / Nat.gcd t.natAbs l.natAbs := Nat.div_pos (Nat.le_of_dvd (by omega) g2) hg
  have q3 := Nat.div_le_self l.natAbs (Nat.gcd t.natAbs l.natAbs)
  have q4 := Nat.div_le_self t.natAbs (Nat.gcd t.natAbs l.natAbs)
  refine ⟨by rw [e2]; omega, by rw [e2]; omega, by rw [e1]; omega, ?_⟩
  rw [e1, e2, Int.natAbs_natCast]
  exact Nat.coprime_div_gcd_div_gcd hg
theorem told_is {x : Fr} (h : Told x) : isTold (fD x) = true := by
  obtain ⟨h1, h2, h3, h4⟩ := h
  have e : (if x.1 < 0 then -x.1 else x.1) ≤ 999 := by split <;> omega
  simp [isTold, isR, shp, fD, tyN, lenT, ith, ratio2, small2, h1, h2, h4, e]
theorem told_bd {x : Fr} (h : Told x) : Bd x.2.natAbs 999 x := ⟨h.pos, by have := h.pos; rw [show ((x.2.natAbs : Nat) : Int) = x.2 by omega]; exact Int.dvd_refl _, Nat.le_trans h.n (by have := h.pos; omega)⟩
structure Pp where
  s : Nat
  e : Option Nat
  sh : Nat ⊕ Fr
def shD : Nat ⊕ Fr → PyData
  | .inl j => .tuple [.str "x", .int (j : Nat)]
  | .inr x => fD x
def enD : Option Nat → PyData
  | none => .none
  | some k => .int (k : Nat)
def ppD (p : Pp) : PyData := .tuple [.int (p.s : Nat), enD p.e, shD p.sh]
def natsD (ns : List Nat) : List PyData := ns.map fun i => .int (i : Nat)
structure NetM where
  m : Nat
  u : Nat
  ps : List Pp
  fs : List Nat
  ss : List Nat
def NetM.d (n : NetM) : PyData := .tuple [.int (n.m : Nat), .int (n.u : Nat), .tuple (n.ps.map ppD), .tuple (natsD n.fs), .tuple (natsD n.ss)]
def GoodS (u : Nat) : Nat ⊕ Fr → Prop
  | .inl j => j < u
  | .inr x => Told x
structure GoodP (m u : Nat) (p : Pp) : Prop where
  s : p.s < m
  e : ∀ k, p.e = some k → k < m ∧ k ≠ p.s
  sh : GoodS u p.sh
structure GoodT (m : Nat) (ns : List Nat) : Prop where
  ne : ns ≠ []
  asc : ns.Pairwise (· < ·)
  lt : ∀ i ∈ ns, i < m
  len : ns.length ≤ m
structure GoodN (n : NetM) : Prop where
  m1 : 1 ≤ n.m
  m4 : n.m ≤ 4
  u4 : n.u ≤ 4
  mu : n.m + n.u ≤ 7
  len : n.ps.length ≤ 12
  ps : ∀ p ∈ n.ps, GoodP n.m n.u p
  dist : distB (n.ps.map ppD) = true
  fs : GoodT n.m n.fs
  ss : GoodT n.m n.ss
theorem goodP_is {m u : Nat} {p : Pp} (h : GoodP m u p) : isPipe (m : Nat) (u : Nat) (ppD p) = true := by
  obtain ⟨h1, h2, h3⟩ := h
  have c1 : isW (.int (p.s : Nat)) 0 ((m : Int) - 1) = true := by simp only [isW, Bool.and_eq_true, decide_eq_true_eq]; omega
  have c2 : isShare (u : Nat) (shD p.sh) = true := by
    cases q : p.sh with
    | inl j =>
      rw [q] at h3
      have h3 : j < u := h3
      have : (j : Int) ≤ (u : Int) - 1 := by omega
      simp [shD, isShare, shp, tyN, lenT, ith, isX, isW, this]
    | inr x =>
      rw [q] at h3
      have h3 : Told x := h3
      have z := told_is h3
      show (shp 2 (fD x) && _) = true
      rw [show shp 2 (fD x) = true from rfl, Bool.true_and, if_neg (by simp [ith, shD, fD, tyN])]
      exact z
  have c3 : (isNon (enD p.e) || (isW (enD p.e) 0 ((m : Int) - 1) && !eqI (enD p.e) (.int (p.s : Nat)))) = true := by
    cases q : p.e with
    | none => rfl
    | some k =>
      obtain ⟨a, b⟩ := h2 k q
      have e1 : (k : Int) ≤ (m : Int) - 1 := by omega
      have e2 : ¬ (k : Int) = (p.s : Int) := by omega
      simp [enD, isNon, isW, eqI, e1, e2]
  show (shp 3 (ppD p) && (!(!isW (.int (p.s : Nat)) 0 ((m : Int) - 1) || !isShare (u : Nat) (shD p.sh)) && (isNon (enD p.e) || (isW (enD p.e) 0 ((m : Int) - 1) && !eqI (enD p.e) (.int (p.s : Nat)))))) = true
  rw [c1, c2, c3]
  rfl
theorem nats_get {ns : List Nat} {i : Nat} (h : i < ns.length) : (natsD ns).getD i .none = .int ((ns[i] : Nat) : Int) := by
  rw [List.getD_eq_getElem?_getD]
  simp [natsD, List.getElem?_eq_getElem h]
theorem goodT_is {m : Nat} {ns : List Nat} (h : GoodT m ns) : areT (m : Nat) (.tuple (natsD ns)) = true := by
  obtain ⟨h1, h2, h3, h4⟩ := h
  have hl : (natsD ns).length = ns.length := List.length_map _
  have l1 : 1 ≤ ns.length := List.length_pos_iff.mpr h1
  have e2 : areT (m : Nat) (.tuple (natsD ns)) = ((decide (1 ≤ ((natsD ns).length : Int)) && decide (((natsD ns).length : Int) ≤ (m : Nat))) && ((natsD ns).all (fun e => isW e 0 ((m : Int) - 1)) && ascB (natsD ns))) := by
    unfold areT
    have e0 : decide (tyN (.tuple (natsD ns)) = "tuple") = true := decide_eq_true rfl
    rw [e0, Bool.true_and]
    rfl
  rw [e2, hl, decide_eq_true (show (1 : Int) ≤ (ns.length : Nat) by omega), decide_eq_true (show ((ns.length : Nat) : Int) ≤ (m : Nat) by omega), Bool.true_and, Bool.true_and, Bool.and_eq_true]
  constructor
  · rw [List.all_eq_true]
    intro d hd
    obtain ⟨i, hi, rfl⟩ := List.mem_map.mp hd
    have := h3 i hi
    simp only [isW, Bool.and_eq_true, decide_eq_true_eq]
    omega
  · unfold ascB
    rw [List.all_eq_true]
    intro i hi
    rw [List.mem_range, hl] at hi
    rw [nats_get (by omega), nats_get (by omega)]
    have := List.pairwise_iff_getElem.mp h2 i (i + 1) (by omega) (by omega) (by omega)
    simp only [ltI, decide_eq_true_eq]
    omega
theorem goodN_is {n : NetM} (h : GoodN n) : isNet n.d = true := by
  have c1 : isW (.int (n.m : Nat)) 1 4 = true := by have := h.m1; have := h.m4; simp only [isW, Bool.and_eq_true, decide_eq_true_eq]; omega
  have c2 : isW (.int (n.u : Nat)) 0 4 = true := by have := h.u4; simp only [isW, Bool.and_eq_true, decide_eq_true_eq]; omega
  have c3 : areP (n.m : Nat) (n.u : Nat) (.tuple (n.ps.map ppD)) = true := by
    unfold areP
    have e0 : decide (tyN (.tuple (n.ps.map ppD)) = "tuple") = true := decide_eq_true rfl
    have e1 : decide ((12 : Int) < (lenT (.tuple (n.ps.map ppD)) : Int)) = false := decide_eq_false (by have := h.len; show ¬ (12 : Int) < ((n.ps.map ppD).length : Int); rw [List.length_map]; omega)
    have e2 : (itms (.tuple (n.ps.map ppD))).all (isPipe (n.m : Nat) (n.u : Nat)) = true := by
      rw [List.all_eq_true]
      intro d hd
      obtain ⟨p, hp, rfl⟩ := List.mem_map.mp (show d ∈ n.ps.map ppD from hd)
      exact goodP_is (h.ps p hp)
    rw [e0, e1, e2]
    exact h.dist
  have c4 : decide ((7 : Int) < (n.m : Nat) + (n.u : Nat)) = false := decide_eq_false (by have := h.mu; omega)
  show (shp 5 n.d && (!(!isW (.int (n.m : Nat)) 1 4 || !isW (.int (n.u : Nat)) 0 4) && (!decide ((7 : Int) < (n.m : Nat) + (n.u : Nat)) && (areP (n.m : Nat) (n.u : Nat) (.tuple (n.ps.map ppD)) && (areT (n.m : Nat) (.tuple (natsD n.fs)) && areT (n.m : Nat) (.tuple (natsD n.ss))))))) = true
  rw [c1, c2, c3, c4, goodT_is h.fs, goodT_is h.ss]
  rfl
theorem dist_snoc {ds : List PyData} {d : PyData} (h : distB ds = true) (hn : (ds.any fun z => PyData.eqv z d) = false) : distB (ds ++ [d]) = true := by
  unfold distB at h ⊢
  rw [List.all_eq_true] at h ⊢
  intro i hi
  rw [List.mem_range, List.length_append, List.length_singleton] at hi
  by_cases c : i < ds.length
  · have q := h i (List.mem_range.mpr c)
    rw [List.take_append_of_le_length (Nat.le_of_lt c), List.getD_eq_getElem?_getD, List.getElem?_append_left c, ← List.getD_eq_getElem?_getD]
    exact q
  · have e : i = ds.length := by omega
    subst e
    rw [List.take_append_of_le_length (Nat.le_refl _), List.take_length, List.getD_eq_getElem?_getD, List.getElem?_append_right (Nat.le_refl _), Nat.sub_self]
    show (!ds.any fun z => PyData.eqv z d) = true
    rw [hn]
    rfl
theorem pp_flat {p : Pp} : Flat (ppD p) := by
  have ok : PyData.strOk "x" = true := by decide +kernel
  cases p with
  | mk s e sh =>
    cases sh <;> cases e <;> exact ⟨by simp [ppD, enD, shD, fD, PyData.canLay0, PyData.canLayAll0, ok], by simp [ppD, enD, shD, fD, PyData.depth, PyData.depthAll], by simp [ppD, enD, shD, fD, PyData.hasDict, PyData.hasDictAll]⟩
theorem flat_shapedL {ds : List PyData} (h : ∀ d ∈ ds, Flat d) : SeqAt.shaped (.list ds) = true ∧ (PyData.list ds).hasDict = false := by
  obtain ⟨a, b, c⟩ := flat_all h
  refine ⟨shaped_of (by simpa [PyData.canLay0] using a) ?_, by simpa [PyData.hasDict] using c⟩
  simp only [PyData.depth]
  omega
end KP

set_option Elab.async false
set_option linter.all false
set_option maxRecDepth 100000
set_option maxHeartbeats 4000000
/-! ### drawn nets that are nets: the draws -/
namespace KP
open PySem PySem.Spec PyProof.Rows L2 KX KT KJ KS FR
structure TxD (mg : Str → Option Value) : Prop extends TxL mg where
  set : mg "set" = none
  sorted : mg "sorted" = none
  list : mg "list" = none
  repr : mg "repr" = none
  max : mg "max" = none
  min : mg "min" = none
def spPart2 : Sp := fun vs H Q _ => ∃ j n, vs = [.ref j] ∧ JarAt H j n ∧ n ≤ 900000 ∧ ∀ v x H', Told x → Th (hid j H') v (fD x) → KJ.But j H H' → JarAt H' j (n + 3) → Q v H'
def spLot2 : Sp := fun vs H Q _ => ∃ j, ∃ m n : Nat, vs = [.ref j, .int (m : Nat)] ∧ 1 ≤ m ∧ m ≤ 4 ∧ JarAt H j n ∧ n ≤ 900000 ∧ ∀ v ns H', GoodT m ns → Th (hid j H') v (.tuple (natsD ns)) → FzV (hid j H') v → KJ.But j H H' → JarAt H' j (n + 2) → Q v H'
/-- a net whose fifth part has no dict of its own -/
def NetZ (H : Hp) (v : V) : Prop := ∃ (a : Addr) (p0 p1 p2 p3 u : V), v = .ref a ∧ H a = some (.tup [p0, p1, p2, p3, u]) ∧ FzV H u
theorem NetZ.same {H H' : Hp} {v : V} (h : NetZ H v) (s : Same H H') : NetZ H' v := by
  obtain ⟨a, p0, p1, p2, p3, u, e, q, f⟩ := h
  exact ⟨a, p0, p1, p2, p3, u, e, s _ _ q, f.same s⟩
def spMake2 : Sp := fun vs H Q _ => ∃ j n, vs = [.ref j, .int 4] ∧ JarAt H j n ∧ n ≤ 800000 ∧ ∀ v nt H', GoodN nt → Th (hid j H') v nt.d → NetZ (hid j H') v → KJ.But j H H' → JarAt H' j (n + 100) → Q v H'
theorem asc_card : ∀ {ns : List Nat} {m : Nat}, ns.Pairwise (· < ·) → (∀ i ∈ ns, i < m) → ns.length ≤ m := by
  intro ns m h1 h2
  have h : ∀ i (hi : i < ns.length), i ≤ ns[i] := by
    intro i
    induction i with
    | zero => intro _; exact Nat.zero_le _
    | succ i ih =>
      intro hi
      have a := ih (by omega)
      have b := List.pairwise_iff_getElem.mp h1 i (i + 1) (by omega) hi (by omega)
      omega
  by_cases c : ns.length = 0
  · omega
  · have a := h (ns.length - 1) (by omega)
    have b := h2 (ns[ns.length - 1]'(by omega)) (List.getElem_mem _)
    omega
theorem goodT_of {m : Nat} {ms : List Int} (hp : ms.Pairwise (· < ·)) (h0 : ∀ z ∈ ms, 0 ≤ z ∧ z < (m : Nat)) (hn : ms ≠ []) : GoodT m (ms.map Int.toNat) ∧ ms.map PyData.int = natsD (ms.map Int.toNat) := by
  have e : ms.map PyData.int = natsD (ms.map Int.toNat) := by
    unfold natsD
    rw [List.map_map]
    refine List.map_congr_left fun z hz => ?_
    have := (h0 z hz).1
    show PyData.int z = PyData.int ((z.toNat : Nat) : Int)
    rw [Int.toNat_of_nonneg this]
  have lt : ∀ i ∈ ms.map Int.toNat, i < m := fun i hi => by
    obtain ⟨z, hz, rfl⟩ := List.mem_map.mp hi
    have := h0 z hz
    omega
  have asc : (ms.map Int.toNat).Pairwise (· < ·) := by
    rw [List.pairwise_map]
    refine hp.imp_of_mem fun {a b} ha hb h => ?_
    have := h0 a ha
    have := h0 b hb
    omega
  exact ⟨⟨fun z => hn (List.map_eq_nil_iff.mp z), asc, lt, asc_card asc lt⟩, e⟩
theorem cut_map {ms : List Int} {k : Nat} : cutD (ms.map PyData.int) none (some (k : Int)) = (ms.take k).map PyData.int := by
  unfold cutD
  rw [HT.sIx_nat, HT.sIx_none, List.drop_zero, Nat.sub_zero, List.length_map, ← List.map_take]
  congr 1
  rw [← List.take_take, List.take_length]
theorem mk_lst {j : Addr} {σ : L2.St} {H : Hp} {ta : TA} {ds : List PyData} (hj : H j ≠ none) (h : MkA j ta σ H ds) (hl : ds.length ≤ 1000) : Mk j (tLst ta) σ H (.list ds) := fun H1 s Q q =>
  h H1 s _ fun vs H2 s2 t2 => ⟨Nat.le_trans (by rw [all2 t2]; exact hl) (by decide), fun p hp => by
    have sp := same_upd (o := .lst vs) hp
    have np := new_ne hp (same_ne (s.trans s2) hj)
    exact q _ _ (s2.trans sp) (.lst (by rw [hid_ne np]; exact upd_same) (ThAllj.same t2 sp))⟩
theorem mk_i {j : Addr} {σ : L2.St} {H : Hp} {i : Int} : Mk j (tC (.int i)) σ H (.int i) := mk_vi fun _ => vi_c
theorem lit_pair {j : Addr} {σ : L2.St} {a b : Int} : Lit j (tTup (tCons (tC (.int a)) (tCons (tC (.int b)) tNil))) σ (.tuple [.int a, .int b]) := lit_tup (litA_cons lit_int (litA_cons lit_int litA_nil)) (by simp)
abbrev nLot : List Str := ["jar", "many", "found", "keep", "at"]
abbrev nMk : List Str := ["jar", "most", "many", "unknowns", "pipes", "turn", "start", "aims", "share", "pipe", "at"]
section
variable {P : Program} {w : World} {K : PySem.W.Frag} {mg : Str → Option Value} {base : Heap}
theorem scPart : FnScope ["jar", "way"] ["jar"] (defScope lToldPart) := ⟨rfl, rfl, rfl, by decide +kernel, rfl, by decide +kernel, by decide +kernel⟩
theorem ok_part2 {f fD fO fF : Addr} {fd fdD fdO fdF : FuncData} (F : Fun K "_law_told_part" "_law_told_part" lToldPart f fd)
    (FD : FnOk P w K mg base CX0 1 fD fdD ["jar", "top"] spDip) (mD : mg "_law_dip" = some (.ref fD)) (kD : PySem.W.keepIn K (.ref fD) = true) (bD : Binds K fdD ["jar", "top"] [])
    (FO : FnOk P w K mg base CX0 2 fO fdO ["jar", "some"] (spOne K)) (mO : mg "_law_one_of" = some (.ref fO)) (kO : PySem.W.keepIn K (.ref fO) = true) (bO : Binds K fdO ["jar", "some"] [])
    (FF : FnOk P w K mg base CX0 1 fF fdF ["top", "low"] spLow) (mF : mg "_law_frac" = some (.ref fF)) (kF : PySem.W.keepIn K (.ref fF) = true) (bF : Binds K fdF ["top", "low"] []) :
    FnOk P w K mg base CX0 3 f fd ["jar"] spPart2 := by
  refine F.ok scPart (fun vs H Q E h => ?_) (fun cdv A outer s H vs Q E hr h => ?_)
  · obtain ⟨j, n, rfl, _⟩ := h
    rfl
  · obtain ⟨j, n, rfl, hj, hn, k⟩ := h
    have hr1 : Room 1 _ := hr.mono (by decide)
    refine ⟨_, pss_cons (ps_set (i := 1) scPart.nd rfl (Or.inl rfl) (pe_call FD hr1 rfl mD kD bD .nil pass0 (pa_cons (pv 0) (pa_cons pe_int pa_nil))))
      (pss_cons (ps_if (pt_cmpR op_lt (pv 1) pe_int (nomark _)) (pss_one (ps_ret (pe_call FO hr rfl mO kO bO .nil pass0 (pa_cons (pv 0) (pa_cons (pe_lst (pa_cons (pe_tup (pa_cons pe_int (pa_cons pe_int pa_nil))) (pa_cons (pe_tup (pa_cons pe_int (pa_cons pe_int pa_nil))) (pa_cons (pe_tup (pa_cons pe_int (pa_cons pe_int pa_nil))) (pa_cons (pe_tup (pa_cons pe_int (pa_cons pe_int pa_nil)))
          (pa_cons (pe_tup (pa_cons pe_int (pa_cons pe_int pa_nil))) (pa_cons (pe_tup (pa_cons pe_int (pa_cons pe_int pa_nil))) (pa_cons (pe_tup (pa_cons (pe_un un_neg pe_int) (pa_cons pe_int pa_nil))) (pa_cons (pe_tup (pa_cons pe_int (pa_cons pe_int pa_nil))) (pa_cons (pe_tup (pa_cons pe_int (pa_cons pe_int pa_nil))) (pa_cons (pe_tup (pa_cons pe_int (pa_cons pe_int pa_nil))) pa_nil))))))))))) pa_nil))))) pss_nil)
      (pss_cons (ps_if (pt_cmpR op_lt (pv 1) pe_int (nomark _)) (pss_one (ps_ret (pe_call FF hr1 rfl mF kF bF .nil pass0 (pa_cons (pe_op op_sub (pe_call FD hr1 rfl mD kD bD .nil pass0 (pa_cons (pv 0) (pa_cons pe_int pa_nil))) pe_int) (pa_cons (pe_op op_add pe_int (pe_call FD hr1 rfl mD kD bD .nil pass0 (pa_cons (pv 0) (pa_cons pe_int pa_nil)))) pa_nil))))) pss_nil)
      (pss_one (ps_ret (pe_call FF hr1 rfl mF kF bF .nil pass0 (pa_cons (pe_op op_sub (pe_call FD hr1 rfl mD kD bD .nil pass0 (pa_cons (pv 0) (pa_cons pe_int pa_nil))) pe_int) (pa_cons (pe_op op_add pe_int (pe_call FD hr1 rfl mD kD bD .nil pass0 (pa_cons (pv 0) (pa_cons pe_int pa_nil)))) pa_nil))))))), ?_⟩
    have two : ∀ (H1 : Hp) (a1 a2 : Int) (p : Addr), 0 < a2 → a2 ≤ 999 → a1.natAbs ≤ 999 → KJ.But j H H1 → JarAt H1 j (n + 3) → H1 p = none → Q (.ref p) (upd H1 p (.tup [.int (low a1 a2).1, .int (low a1 a2).2])) := fun H1 a1 a2 p h1 h2 h3 b jr hp => by
      have sp := same_upd (o := .tup [V.int (low a1 a2).1, .int (low a1 a2).2]) hp
      exact k _ (low a1 a2) _ (low_told h1 h2 h3) (.tup (by rw [hid_ne (new_ne hp (jar_ne jr))]; exact upd_same) (.cons (.int _) (.cons (.int _) .nil))) (b.trans (KJ.But.same sp)) (jar_same jr sp)
    have p9 : ∀ {l : Int}, 0 < l → l ≤ 999 → l.natAbs < 2 ^ 9000 := fun {l} h1 h2 => Nat.lt_of_lt_of_le (show l.natAbs < 2 ^ 10 by omega) (Nat.pow_le_pow_right (by decide) (by decide))
    refine ⟨_, rfl, j, _, n, rfl, by decide, by decide, hj, by omega, fun way H1 w0 w1 b1 j1 => ?_⟩
    refine ⟨_, rfl, _, _, rfl, rfl, _, rfl, ite2 (fun c => ?_) (fun c => ?_)⟩
    · refine ⟨_, rfl, ?_⟩
      have L : Lit j (tLst (tCons (tTup (tCons (tC (.int 0)) (tCons (tC (.int 1)) tNil))) (tCons (tTup (tCons (tC (.int 1)) (tCons (tC (.int 1)) tNil))) (tCons (tTup (tCons (tC (.int 1)) (tCons (tC (.int 2)) tNil))) (tCons (tTup (tCons (tC (.int 1)) (tCons (tC (.int 3)) tNil))) (tCons (tTup (tCons (tC (.int 1)) (tCons (tC (.int 4)) tNil)))
        (tCons (tTup (tCons (tC (.int 2)) (tCons (tC (.int 3)) tNil))) (tCons (tTup (tCons (tUn (rU fun i => .int (-i)) (tC (.int 1))) (tCons (tC (.int 2)) tNil))) (tCons (tTup (tCons (tC (.int 3)) (tCons (tC (.int 2)) tNil))) (tCons (tTup (tCons (tC (.int 1)) (tCons (tC (.int 5)) tNil))) (tCons (tTup (tCons (tC (.int 2)) (tCons (tC (.int 1)) tNil))) tNil))))))))))) ((L2.start ["jar", "way"] [V.ref j]).set 1 (some (.int way))) _ :=
        lit_lst (litA_cons lit_pair (litA_cons lit_pair (litA_cons lit_pair (litA_cons lit_pair (litA_cons lit_pair (litA_cons lit_pair (litA_cons (lit_tup (litA_cons lit_neg (litA_cons lit_int litA_nil)) (by simp)) (litA_cons lit_pair (litA_cons lit_pair (litA_cons lit_pair litA_nil)))))))))) (by simp)
      refine L H1 _ (jar_ne j1) fun v H2 s2 t2 => ?_
      have tv := t2
      cases t2 with
      | lst e2 ta =>
        refine one_of (K := K) (E := L2.E0) tv (.inl rfl) (by simp) (by simp) (jar_same j1 s2) (by omega) fun x e H3 he te b3 j3 => ?_
        obtain ⟨f, rfl, hf⟩ : ∃ f, e = KP.fD f ∧ Told f := by
          simp only [List.mem_cons, List.not_mem_nil, or_false] at he
          rcases he with rfl | rfl | rfl | rfl | rfl | rfl | rfl | rfl | rfl | rfl
          · exact ⟨(0, 1), rfl, by decide, by decide, by decide, by decide +kernel⟩
          · exact ⟨(1, 1), rfl, by decide, by decide, by decide, by decide +kernel⟩
          · exact ⟨(1, 2), rfl, by decide, by decide, by decide, by decide +kernel⟩
          · exact ⟨(1, 3), rfl, by decide, by decide, by decide, by decide +kernel⟩
          · exact ⟨(1, 4), rfl, by decide, by decide, by decide, by decide +kernel⟩
          · exact ⟨(2, 3), rfl, by decide, by decide, by decide, by decide +kernel⟩
          · exact ⟨(-1, 2), rfl, by decide, by decide, by decide, by decide +kernel⟩
          · exact ⟨(3, 2), rfl, by decide, by decide, by decide, by decide +kernel⟩
          · exact ⟨(1, 5), rfl, by decide, by decide, by decide, by decide +kernel⟩
          · exact ⟨(2, 1), rfl, by decide, by decide, by decide, by decide +kernel⟩
        exact k x f H3 hf te (b1.trans ((KJ.But.same s2).trans b3)) (jar_more j3 (by omega))
    refine ⟨_, rfl, _, _, rfl, rfl, _, rfl, ite2 (fun c2 => ?_) (fun c2 => ?_)⟩
    · refine ⟨_, rfl, j, _, _, rfl, by decide, by decide, j1, by omega, fun r1 H2 r10 r11 b2 j2 => ⟨_, _, rfl, rfl, ?_⟩⟩
      refine ⟨_, rfl, j, _, _, rfl, by decide, by decide, j2, by omega, fun r2 H3 r20 r21 b3 j3 => ⟨_, _, rfl, rfl, ?_⟩⟩
      exact ⟨_, _, rfl, by omega, p9 (by omega) (by omega), fun p hp => two H3 _ _ p (by omega) (by omega) (by omega) (b1.trans (b2.trans b3)) j3 hp⟩
    · refine ⟨_, rfl, j, _, _, rfl, by decide, by decide, j1, by omega, fun r1 H2 r10 r11 b2 j2 => ⟨_, _, rfl, rfl, ?_⟩⟩
      refine ⟨_, rfl, j, _, _, rfl, by decide, by decide, j2, by omega, fun r2 H3 r20 r21 b3 j3 => ⟨_, _, rfl, rfl, ?_⟩⟩
      exact ⟨_, _, rfl, by omega, p9 (by omega) (by omega), fun p hp => two H3 _ _ p (by omega) (by omega) (by omega) (b1.trans (b2.trans b3)) j3 hp⟩
theorem scLot : FnScope nLot ["jar", "many"] (defScope lLot) := ⟨rfl, rfl, rfl, by decide +kernel, rfl, by decide +kernel, by decide +kernel⟩
theorem ok_lot2 {f fD : Addr} {fd fdD : FuncData} (F : Fun K "_law_lot" "_law_lot" lLot f fd) (T : TxD mg)
    (FD : FnOk P w K mg base CX0 1 fD fdD ["jar", "top"] spDip) (mD : mg "_law_dip" = some (.ref fD)) (kD : PySem.W.keepIn K (.ref fD) = true) (bD : Binds K fdD ["jar", "top"] []) :
    FnOk P w K mg base CX0 2 f fd ["jar", "many"] spLot2 := by
  refine F.ok scLot (fun vs H Q E h => ?_) (fun cdv A outer s H vs Q E hr h => ?_)
  · obtain ⟨j, m, n, rfl, _⟩ := h
    rfl
  · obtain ⟨j, m, n, rfl, m1, m4, hj, hn, k⟩ := h
    refine ⟨_, pss_cons (ps_setLc (i := 2) (own := [("at", 4)]) (g := gName 4) rfl scLot.nd rfl rfl (sw_true rfl rfl rfl (by decide +kernel)) (pi_range1 rfl T.range (pa_cons (pv 1) pa_nil)) (blkOk_by (N := nLot) (sc := defScope lLot) (by decide +kernel))
          (fun _ _ _ _ _ => pg_name (i := 4) scLot.nd rfl (Or.inl rfl))
          (fun _ _ _ _ _ => pts_one (pt_cmpR op_eq (pe_op op_and (pe_op op_shr (pe_ix (r := rIx K) (by exact ix_seq) (pv 0) pe_int (fun _ _ => rfl)) (pv 4)) pe_int) pe_int (nomark _)))
          (fun _ _ _ _ _ => pv 4))
      (pss_cons (ps_set (i := 3) scLot.nd rfl (Or.inl rfl) (pe_call FD hr rfl mD kD bD .nil pass0 (pa_cons (pv 0) (pa_cons (pv 1) pa_nil))))
      (pss_one (ps_ret (pe_slice sl_tupF (pe_tupleOfF (by rfl) T.tuple (pe_callB (cr_sortedSet rfl) (by rfl) T.sorted (by decide +kernel) (pa_cons (pe_callTy (cr_setL rfl) (by rfl) T.set (by decide +kernel)
          (pa_cons (pe_op op_cat (pv 2) (pe_lst (pa_cons (pv 3) pa_nil))) pa_nil)) pa_nil))) po_none (po_some (pe_op op_add pe_int (pe_call FD hr rfl mD kD bD .nil pass0 (pa_cons (pv 0) (pa_cons (pv 1) pa_nil))))))))), ?_⟩
    refine ⟨_, rfl, _, rfl, by omega, by omega, fun D hD => ?_⟩
    obtain ⟨ja, jb, jc, ej, _⟩ := id hj
    refine lc_range (lo := 0) (n := (m : Int).toNat) (fun i H' => Same H H' ∧ ∃ ns : List Int, ns.length ≤ i ∧ (∀ z ∈ ns, 0 ≤ z ∧ z < (m : Nat)) ∧ H' D = some (.lst (ns.map V.int))) ⟨same_upd hD, [], Nat.le_refl _, (fun z hz => by cases hz), upd_same⟩ ?_ ?_
    · rintro i H' hi ⟨s7, ns, ln, nz, eD⟩
      refine ⟨rfl, ?_⟩
      refine ⟨_, rfl, .inl ⟨j, _, _, .int jb, rfl, rfl, SqL.of (s7 _ _ ej), rfl, ?_⟩⟩
      refine ⟨_, rfl, _, _, rfl, rfl, (by show (0 : Int) ≤ 0 + (i : Int); omega), _, _, rfl, rfl, rfl, _, rfl, ?_⟩
      refine ite2 (fun c => ?_) (fun c => ?_)
      · refine ⟨_, rfl, _, eD, ?_, fun b o eb => ?_, ns ++ [0 + (i : Int)], ?_, fun z hz => ?_, ?_⟩
        · rw [List.length_map]
          exact Nat.lt_of_le_of_lt (show ns.length ≤ 4 by omega) (by decide)
        · have nb : b ≠ D := fun z => by
            rw [z, hD] at eb
            cases eb
          rw [upd_ne nb]
          exact s7 _ _ eb
        · rw [List.length_append, List.length_singleton]
          omega
        · rcases List.mem_append.mp hz with h | h
          · exact nz z h
          · rw [List.mem_singleton.mp h]
            omega
        · rw [upd_same, List.map_append]
          rfl
      · exact ⟨s7, ns, Nat.le_succ_of_le ln, nz, eD⟩
    · rintro H1 ⟨s1, ns, ln, nz, eD⟩
      have nD : D ≠ j := fun z => by
        rw [z, ej] at hD
        cases hD
      refine ⟨_, rfl, _, rfl, j, (m : Nat), n, rfl, by omega, by omega, jar_same hj s1, by omega, fun kp H2 k0 k1 b2 j2 => ?_⟩
      have eD2 : H2 D = some (.lst (ns.map V.int)) := b2 _ _ nD eD
      obtain ⟨ja2, jb2, jc2, ej2, _⟩ := id j2
      refine ⟨_, rfl, _, rfl, (by show 1 ≤ sizeLine; decide), fun l hl => ?_⟩
      have sl := same_upd (o := .lst [V.int kp]) hl
      refine ⟨D, l, _, _, rfl, rfl, sl _ _ eD2, upd_same, ?_, fun p hp => ?_⟩
      · rw [List.length_map]
        exact Nat.le_trans (show ns.length + 1 ≤ 10 by omega) (by decide)
      have sp := same_upd (o := .lst (ns.map V.int ++ [V.int kp])) hp
      have em : ns.map V.int ++ [V.int kp] = (ns ++ [kp]).map V.int := by rw [List.map_append]; rfl
      have ln5 : (ns ++ [kp]).length ≤ 5 := by rw [List.length_append, List.length_singleton]; omega
      refine ⟨p, ns ++ [kp], rfl, SqL.of (by rw [upd_same, em]), by omega, fun q c hq hc => ?_⟩
      have sq := same_upd (o := SetO w q (fun j => decide (j ∈ ns ++ [kp])) c) hq
      refine ⟨q, _, c, rfl, upd_same, by omega, fun ms r asc mem lm hr' => ?_⟩
      have sr := same_upd (o := .lst (ms.map V.int)) hr'
      refine ⟨r, _, rfl, SqL.of upd_same, fun t o ht od => ?_⟩
      have st := same_upd (o := .frz o (.tup (ms.map V.int))) ht
      have s3 := ((sl.trans sp).trans sq).trans (sr.trans st)
      have nT : t ≠ j := new_ne ht (jar_ne (jar_same j2 (((sl.trans sp).trans sq).trans sr)))
      have j3 := jar_same j2 s3
      have mz : ∀ z ∈ ms, 0 ≤ z ∧ z < (m : Nat) := fun z hz => by
        have := of_decide_eq_true ((mem z).mp hz)
        rcases List.mem_append.mp this with h | h
        · exact nz z h
        · rw [List.mem_singleton.mp h]
          exact ⟨k0, k1⟩
      have kin : kp ∈ ms := (mem kp).mpr (decide_eq_true (List.mem_append_right _ (List.mem_singleton.mpr rfl)))
      refine ⟨_, rfl, _, rfl, j, (m : Nat), _, rfl, by omega, by omega, j3, by omega, fun r2 H3 r0 r1 b3 j4 => ⟨_, _, rfl, rfl, _, rfl, ?_⟩⟩
      have eT3 : H3 t = some (.frz o (.tup (ms.map V.int))) := b3 _ _ nT upd_same
      have bb : KJ.But j H H3 := (KJ.But.same s1).trans (b2.trans ((KJ.But.same s3).trans b3))
      have ta := thAll_ints (H := hid j H3) ms
      refine ⟨t, _, o, rfl, eT3, fun z => ?_, fun _ p2 o2 hp2 od2 => ?_⟩
      · obtain ⟨g, e⟩ := goodT_of asc mz (fun z => by rw [z] at kin; cases kin)
        refine k _ _ H3 g (.tup' (.inr ⟨o, by rw [hid_ne nT]; exact eT3⟩) ?_) ⟨t, _, o, rfl, od, by rw [hid_ne nT]; exact eT3⟩ bb j4
        rw [← e]
        exact ta
      · have s4 := same_upd (o := .frz o2 (.tup (cutV (ms.map V.int) none (some (1 + r2))))) hp2
        have er : (1 : Int) + r2 = ((1 + r2.toNat : Nat) : Int) := by omega
        have tc : ThAll (hid j (upd H3 p2 (.frz o2 (.tup (cutV (ms.map V.int) none (some (1 + r2))))))) (cutV (ms.map V.int) none (some (1 + r2))) ((ms.take (1 + r2.toNat)).map PyData.int) := by
          have z := ThAllj.same (ta.cut none (some (1 + r2))) s4
          have e : cutD (ms.map PyData.int) none (some (1 + r2)) = (ms.take (1 + r2.toNat)).map PyData.int := by rw [er, cut_map]
          rw [e] at z
          exact z
        obtain ⟨g, e⟩ := goodT_of (ms := ms.take (1 + r2.toNat)) (m := m) (asc.sublist (List.take_sublist _ _)) (fun z hz => mz z (List.mem_of_mem_take hz)) (fun z => by
          have := congrArg List.length z
          rw [List.length_take, List.length_nil] at this
          have l0 := List.length_pos_of_mem kin
          omega)
        rw [e] at tc
        exact k _ _ _ g (.tup' (.inr ⟨o2, by rw [hid_ne (new_ne hp2 (jar_ne j4))]; exact upd_same⟩) tc) ⟨p2, _, o2, rfl, od2, by rw [hid_ne (new_ne hp2 (jar_ne j4))]; exact upd_same⟩ (bb.trans (KJ.But.same s4)) (jar_same j4 s4)
end
end KP

set_option Elab.async false
set_option linter.all false
set_option maxRecDepth 100000
set_option maxHeartbeats 4000000
/-! ### drawn nets that are nets -/
namespace KP
open PySem PySem.Spec PyProof.Rows L2 KX KT KJ KS FR
section
variable {P : Program} {w : World} {K : PySem.W.Frag} {mg : Str → Option Value} {base : Heap}
theorem scMk : FnScope nMk ["jar", "most"] (defScope lNet) := ⟨rfl, rfl, rfl, by decide +kernel, rfl, by decide +kernel, by decide +kernel⟩
theorem ok_make2 {f fd1 fO fP fL : Addr} {fd fdD fdO fdP fdL : FuncData} (F : Fun K "_law_net" "_law_net" lNet f fd) (T : TxD mg)
    (FD : FnOk P w K mg base CX0 1 fd1 fdD ["jar", "top"] spDip) (mD : mg "_law_dip" = some (.ref fd1)) (kD : PySem.W.keepIn K (.ref fd1) = true) (bD : Binds K fdD ["jar", "top"] [])
    (FO : FnOk P w K mg base CX0 2 fO fdO ["jar", "some"] (spOne K)) (mO : mg "_law_one_of" = some (.ref fO)) (kO : PySem.W.keepIn K (.ref fO) = true) (bO : Binds K fdO ["jar", "some"] [])
    (FP : FnOk P w K mg base CX0 3 fP fdP ["jar"] spPart2) (mP : mg "_law_told_part" = some (.ref fP)) (kP : PySem.W.keepIn K (.ref fP) = true) (bP : Binds K fdP ["jar"] [])
    (FL : FnOk P w K mg base CX0 2 fL fdL ["jar", "many"] spLot2) (mL : mg "_law_lot" = some (.ref fL)) (kL : PySem.W.keepIn K (.ref fL) = true) (bL : Binds K fdL ["jar", "many"] []) :
    FnOk P w K mg base CX0 4 f fd ["jar", "most"] spMake2 := by
  refine F.ok scMk (fun vs H Q E h => ?_) (fun cdv A outer s H vs Q E hr h => ?_)
  · obtain ⟨j, n, rfl, _⟩ := h
    rfl
  · obtain ⟨j, n, rfl, hj, hn, k⟩ := h
    have hr1 : Room 1 _ := hr.mono (by decide)
    have hr2 : Room 2 _ := hr.mono (by decide)
    have hu : (A.deeper (envOfC "_law_net" (defScope lNet) s.heap.objs.size f cdv)).units + 65 < cLine := by have := hr.un; omega
    refine ⟨_, pss_cons (ps_set (i := 2) scMk.nd rfl (Or.inl rfl) (pe_call FO hr2 rfl mO kO bO .nil pass0 (pa_cons (pv 0) (pa_cons (pe_slice sl_list (pe_lst (pa_cons pe_int (pa_cons pe_int (pa_cons pe_int (pa_cons pe_int (pa_cons pe_int (pa_cons pe_int pa_nil))))))) po_none (po_some (pe_op op_add (pv 1) pe_int))) pa_nil))))
      (pss_cons (ps_par (i := 3) (j := 4) (by rfl) scMk.nd rfl rfl (by decide) rfl rfl (pa_cons (pe_call FO hr2 rfl mO kO bO .nil pass0 (pa_cons (pv 0) (pa_cons (pe_lst (pa_cons pe_int (pa_cons pe_int (pa_cons pe_int (pa_cons pe_int (pa_cons pe_int (pa_cons pe_int
          (pa_cons (pe_ifExp (pt_cmpR op_eq (pv 2) pe_int (nomark _)) pe_int pe_int) pa_nil)))))))) pa_nil))) (pa_cons (pe_lst pa_nil) pa_nil)) (by rfl))
      (pss_cons (ps_for PassesOwn.never rfl (pi_range1 rfl T.range (pa_cons (pe_call FO hr2 rfl mO kO bO .nil pass0 (pa_cons (pv 0) (pa_cons (pe_lst (pa_cons pe_int (pa_cons pe_int (pa_cons pe_int (pa_cons pe_int (pa_cons pe_int (pa_cons pe_int (pa_cons pe_int (pa_cons pe_int (pa_cons pe_int pa_nil)))))))))) pa_nil))) pa_nil)) (pg_name (i := 5) scMk.nd rfl (Or.inl rfl))
        (pss_cons (ps_set (i := 6) scMk.nd rfl (by first | exact Or.inl rfl | exact Or.inr rfl) (pe_call FD hr1 rfl mD kD bD .nil pass0 (pa_cons (pv 0) (pa_cons (pv 2) pa_nil))))
        (pss_cons (ps_set (i := 7) scMk.nd rfl (Or.inl rfl) (pe_op op_cat (pe_lc (own := [("at", 10)]) (g := gName 10) rfl scMk.nd (pi_range1 rfl T.range (pa_cons (pv 2) pa_nil)) (blkOk_by (N := nMk) (sc := defScope lNet) (by decide +kernel))
            (fun _ _ _ _ _ => pg_name (i := 10) scMk.nd rfl (Or.inl rfl)) (fun _ _ _ _ _ => pts_one (pt_cmpR op_ne (pv 10) (pv 6) (nomark _))) (fun _ _ _ _ _ => pv 10)) (pe_lst (pa_cons pe_non pa_nil))))
        (Evl.pss_cut (ps_set (i := 8) scMk.nd rfl (Or.inl rfl) (pe_ifExp (PW.pt (pw_and (pt_cmpR op_gt (pv 3) pe_int (nomark _)) (pw_and1 (pt_cmpR op_gt (pe_call FD hr1 rfl mD kD bD .nil pass0 (pa_cons (pv 0) (pa_cons pe_int pa_nil))) pe_int (nomark _)))))
            (pe_tup (pa_cons pe_str (pa_cons (pe_call FD hr1 rfl mD kD bD .nil pass0 (pa_cons (pv 0) (pa_cons (pv 3) pa_nil))) pa_nil))) (pe_call FP hr rfl mP kP bP .nil pass0 (pa_cons (pv 0) pa_nil))))
        (pss_cons (ps_set (i := 9) scMk.nd rfl (Or.inl rfl) (pe_tup (pa_cons (pv 6) (pa_cons (pe_call FO hr2 rfl mO kO bO .nil pass0 (pa_cons (pv 0) (pa_cons (pv 7) pa_nil))) (pa_cons (pv 8) pa_nil)))))
        (pss_one (ps_set (i := 4) scMk.nd rfl (Or.inl rfl) (pe_op op_cat (pv 4) (pe_ifExp (pt_cmpR (op_notInD hu) (pv 9) (pv 4) (by rfl)) (pe_lst (pa_cons (pv 9) pa_nil)) (pe_lst pa_nil))))))))))
      (pss_one (ps_ret (pe_tup (pa_cons (pv 2) (pa_cons (pv 3) (pa_cons (pe_tupleOf (by rfl) T.tuple (pv 4)) (pa_cons (pe_call FL hr2 rfl mL kL bL .nil pass0 (pa_cons (pv 0) (pa_cons (pv 2) pa_nil))) (pa_cons (pe_call FL hr2 rfl mL kL bL .nil pass0 (pa_cons (pv 0) (pa_cons (pv 2) pa_nil))) pa_nil)))))))))), ?_⟩
    -- many
    have hjn := jar_ne hj
    refine ⟨_, rfl, by decide, fun l0 hl0 => ⟨_, rfl, _, _, rfl, rfl, _, rfl, l0, _, rfl, SqL.of upd_same, fun p0 hp0 => ?_⟩⟩
    have sl0 := same_upd (o := .lst [V.int 1, .int 2, .int 2, .int 3, .int 3, .int 4]) hl0
    have sp0 := same_upd (o := .lst (cutV [V.int 1, .int 2, .int 2, .int 3, .int 3, .int 4] none (some (4 + 2)))) hp0
    have s0 := sl0.trans sp0
    have hj0 := jar_same hj s0
    have np0 := new_ne hp0 (jar_ne (jar_same hj sl0))
    refine one_of (K := K) (E := L2.E0) (ds := cutD [.int 1, .int 2, .int 2, .int 3, .int 3, .int 4] none (some (4 + 2))) (.lst (by rw [hid_ne np0]; exact upd_same) (ThAll.cut (thAll_ints [1, 2, 2, 3, 3, 4]) none (some (4 + 2)))) (.inl rfl)
      (fun z => by have z' : (6 : Nat) = 0 := congrArg List.length z; omega) (Nat.le_trans cutD_len (by decide)) hj0 (by omega) fun x e H1 he te b1 j1 => ?_
    obtain ⟨m, rfl, m1, m4⟩ : ∃ m : Nat, e = .int (m : Nat) ∧ 1 ≤ m ∧ m ≤ 4 := by
      have := cutD_mem he
      simp only [List.mem_cons, List.not_mem_nil, or_false] at this
      rcases this with rfl | rfl | rfl | rfl | rfl | rfl
      · exact ⟨1, rfl, by decide, by decide⟩
      · exact ⟨2, rfl, by decide, by decide⟩
      · exact ⟨2, rfl, by decide, by decide⟩
      · exact ⟨3, rfl, by decide, by decide⟩
      · exact ⟨3, rfl, by decide, by decide⟩
      · exact ⟨4, rfl, by decide, by decide⟩
    cases te
    have b1 := (KJ.But.same s0).trans b1
    clear hj0 s0 sp0 np0
    -- unknowns, pipes
    have hj1 := jar_ne j1
    have M : Mk j (tLst (tCons (tC (.int 0)) (tCons (tC (.int 1)) (tCons (tC (.int 1)) (tCons (tC (.int 2)) (tCons (tC (.int 2)) (tCons (tC (.int 3)) (tCons (tIf (tTest (tOp rEq (tVar 2) (tC (.int 4)))) (tC (.int 3)) (tC (.int 4))) tNil)))))))) ((L2.start nMk [V.ref j, .int 4]).set 2 (some (.int (m : Nat)))) H1
        (.list [.int 0, .int 1, .int 1, .int 2, .int 2, .int 3, if decide (V.int (m : Nat) = V.int 4) = true then .int 3 else .int 4]) :=
      mk_lst hj1 (mkA_cons mk_i (mkA_cons mk_i (mkA_cons mk_i (mkA_cons mk_i (mkA_cons mk_i (mkA_cons mk_i (mkA_cons (mk_if (fun H1 => ti_test (vi_op (vi_var rfl) vi_c fun Q q => ⟨rfl, q⟩)) mk_i mk_i) mkA_nil))))))) (by simp)
    refine ⟨_, rfl, M H1 (Same.refl H1) _ fun v2 H2 s2 tv2 => ?_⟩
    have tv2' := tv2
    cases tv2 with
    | lst e2 ta2 =>
    refine one_of (K := K) (E := L2.E0) tv2' (.inl rfl) (by simp) (by simp) (jar_same j1 s2) (by omega) fun x e H3 he te b3 j3 => ?_
    obtain ⟨u, rfl, u4, mu⟩ : ∃ u : Nat, e = .int (u : Nat) ∧ u ≤ 4 ∧ m + u ≤ 7 := by
      simp only [List.mem_cons, List.not_mem_nil, or_false] at he
      rcases he with rfl | rfl | rfl | rfl | rfl | rfl | rfl
      · exact ⟨0, rfl, by decide, by omega⟩
      · exact ⟨1, rfl, by decide, by omega⟩
      · exact ⟨1, rfl, by decide, by omega⟩
      · exact ⟨2, rfl, by decide, by omega⟩
      · exact ⟨2, rfl, by decide, by omega⟩
      · exact ⟨3, rfl, by decide, by omega⟩
      · by_cases c : m = 4
        · rw [if_pos (by rw [c]; rfl)]
          exact ⟨3, rfl, by decide, by omega⟩
        · rw [if_neg (by
            intro z
            have := V.int.inj (of_decide_eq_true z)
            omega)]
          exact ⟨4, rfl, by decide, by omega⟩
    cases te
    refine ⟨by decide, fun pp hpp => ⟨_, _, rfl, ?_⟩⟩
    have spp := same_upd (o := .lst []) hpp
    have npp : pp ≠ j := new_ne hpp (jar_ne j3)
    have bA := b1.trans ((KJ.But.same s2).trans (b3.trans (KJ.But.same spp)))
    have jA := jar_same j3 spp
    have eA : upd H3 pp (.lst []) pp = some (.lst []) := upd_same
    generalize upd H3 pp (.lst []) = HA at bA jA eA ⊢
    clear spp hpp b3 j3 s2 ta2 tv2' e2 j1 b1
    -- the loop
    have L : ∀ {σ : L2.St}, Lit j (tLst (tCons (tC (.int 0)) (tCons (tC (.int 1)) (tCons (tC (.int 2)) (tCons (tC (.int 3)) (tCons (tC (.int 4)) (tCons (tC (.int 5)) (tCons (tC (.int 6)) (tCons (tC (.int 8)) (tCons (tC (.int 12)) tNil)))))))))) σ (.list [.int 0, .int 1, .int 2, .int 3, .int 4, .int 5, .int 6, .int 8, .int 12]) :=
      lit_lst (litA_cons lit_int (litA_cons lit_int (litA_cons lit_int (litA_cons lit_int (litA_cons lit_int (litA_cons lit_int (litA_cons lit_int (litA_cons lit_int (litA_cons lit_int litA_nil))))))))) (by simp)
    refine ⟨_, rfl, L HA _ (jar_ne jA) fun v2 H2 s2 tv2 => ?_⟩
    have tv2' := tv2
    cases tv2 with
    | lst e2 ta2 =>
    refine one_of (K := K) (E := L2.E0) tv2' (.inl rfl) (by simp) (by simp) (jar_same jA s2) (by omega) fun x e H3 he te b3 j3 => ?_
    obtain ⟨t, rfl, t0, t12⟩ : ∃ t, e = .int t ∧ 0 ≤ t ∧ t ≤ 12 := by
      simp only [List.mem_cons, List.not_mem_nil, or_false] at he
      rcases he with rfl | rfl | rfl | rfl | rfl | rfl | rfl | rfl | rfl <;> exact ⟨_, rfl, by decide, by decide⟩
    cases te
    have bB := bA.trans ((KJ.But.same s2).trans b3)
    have eB : H3 pp = some (.lst []) := b3 _ _ npp (s2 _ _ eA)
    refine ⟨_, rfl, by omega, by omega, ?_⟩
    refine for_range (lo := 0) (n := t.toNat) (fun i σ H' => ∃ (o5 o6 o7 o8 o9 : Option V) (p : Addr) (xs : List V) (ps : List Pp), σ = [some (.ref j), some (.int 4), some (.int (m : Nat)), some (.int (u : Nat)), some (.ref p), o5, o6, o7, o8, o9, none] ∧ KJ.But j H H' ∧
      JarAt H' j (n + 3 + 6 * i) ∧ p ≠ j ∧ H' p = some (.lst xs) ∧ ThAll (hid j H') xs (ps.map ppD) ∧ ps.length ≤ i ∧ (∀ p ∈ ps, GoodP m u p) ∧ distB (ps.map ppD) = true) ⟨none, none, none, none, none, pp, [], [], rfl, bB, jar_more j3 (by omega), npp, eB, .nil, Nat.le_refl _, (fun d hd => by cases hd), rfl⟩ ?_ ?_
    · rintro i σ H' hi ⟨o5, o6, o7, o8, o9, p, xs, ps, rfl, b0, j0, np, ep, ta, ln, hg, hdist⟩
      have i12 : i < 12 := by omega
      refine ⟨_, rfl, _, rfl, j, (m : Nat), _, rfl, by omega, by omega, j0, by omega, fun st H4 st0 st1 b4 j4 => ?_⟩
      refine ⟨_, rfl, _, rfl, by omega, by omega, fun D hD => ?_⟩
      refine lc_range (lo := 0) (n := (m : Int).toNat) (fun i H' => Same H4 H' ∧ ∃ ns : List Int, ns.length ≤ i ∧ (∀ z ∈ ns, 0 ≤ z ∧ z < (m : Nat) ∧ z ≠ st) ∧ H' D = some (.lst (ns.map V.int))) ⟨same_upd hD, [], Nat.le_refl _, (fun z hz => by cases hz), upd_same⟩ ?_ ?_
      · rintro i5 H5 hi5 ⟨s7, ns, lnn, nz, eD⟩
        refine ⟨rfl, ?_⟩
        refine ⟨_, rfl, _, rfl, rfl, _, rfl, iteB (fun c => ?_) (fun c => ?_)⟩
        · refine ⟨_, rfl, _, eD, ?_, fun b o eb => ?_, ns ++ [0 + (i5 : Int)], ?_, fun z hz => ?_, ?_⟩
          · rw [List.length_map]
            exact Nat.lt_of_le_of_lt (show ns.length ≤ 4 by omega) (by decide)
          · have nb : b ≠ D := fun z => by
              rw [z, hD] at eb
              cases eb
            rw [upd_ne nb]
            exact s7 _ _ eb
          · rw [List.length_append, List.length_singleton]
            omega
          · rcases List.mem_append.mp hz with h | h
            · exact nz z h
            · rw [List.mem_singleton.mp h]
              rw [Bool.not_eq_true'] at c
              have c := of_decide_eq_false c
              exact ⟨by omega, by omega, fun e => c (by rw [e])⟩
          · rw [upd_same, List.map_append]
            rfl
        · exact ⟨s7, ns, Nat.le_succ_of_le lnn, nz, eD⟩
      · rintro H5 ⟨s5, ns, lnn, nz, eD⟩
        refine ⟨by decide, fun l hl => ?_⟩
        have sl := same_upd (o := .lst [V.non]) hl
        refine ⟨D, l, _, _, rfl, rfl, sl _ _ eD, upd_same, ?_, fun q hq => ?_⟩
        · rw [List.length_map]
          exact Nat.le_trans (show ns.length + 1 ≤ 10 by omega) (by decide)
        have sq := same_upd (o := .lst (ns.map V.int ++ [V.non])) hq
        have nq : q ≠ j := new_ne hq (jar_ne (jar_same j4 (s5.trans sl)))
        have s6 := s5.trans (sl.trans sq)
        have eq6 : upd (upd H5 l (.lst [V.non])) q (.lst (ns.map V.int ++ [V.non])) q = some (.lst (ns.map V.int ++ [V.non])) := upd_same
        generalize upd (upd H5 l (.lst [V.non])) q (.lst (ns.map V.int ++ [V.non])) = H6 at s6 eq6 ⊢
        have j6 := jar_same j4 s6
        have b6 := b4.trans (KJ.But.same s6)
        -- the share
        refine ⟨fun σ' H7 => ∃ v sh, σ' = [some (.ref j), some (.int 4), some (.int (m : Nat)), some (.int (u : Nat)), some (.ref p), some (.int (0 + (i : Int))), some (.int st), some (.ref q), some v, o9, none] ∧ KJ.But j H6 H7 ∧ JarAt H7 j (n + 3 + 6 * i + 1 + 4) ∧
          Th (hid j H7) v (shD sh) ∧ GoodS u sh, ?_, ?_⟩
        · have part : ∀ (H7 : Hp) (c : Nat), c ≤ n + 3 + 6 * i + 1 + 1 → KJ.But j H6 H7 → JarAt H7 j c → spPart2 [.ref j] H7 (fun v H8 => ∃ v' sh, [some (V.ref j), some (V.int 4), some (.int (m : Nat)), some (.int (u : Nat)), some (.ref p), some (.int (0 + (i : Int))), some (.int st), some (.ref q), some v, o9, none] = [some (.ref j), some (.int 4), some (.int (m : Nat)), some (.int (u : Nat)), some (.ref p), some (.int (0 + (i : Int))), some (.int st), some (.ref q), some v', o9, none] ∧ KJ.But j H6 H8 ∧ JarAt H8 j (n + 3 + 6 * i + 1 + 4) ∧
              Th (hid j H8) v' (shD sh) ∧ GoodS u sh) L2.E0 := fun H7 c hc b7 j7 =>
            ⟨j, c, rfl, j7, by omega, fun v x H8 hx th b8 j8 => ⟨v, .inr x, rfl, b7.trans b8, jar_more j8 (by omega), th, hx⟩⟩
          refine ⟨_, rfl, _, _, rfl, rfl, _, rfl, iteB (fun c => ?_) (fun c => ?_)⟩
          · have c' := of_decide_eq_true c
            refine ⟨_, rfl, j, _, _, rfl, by decide, by decide, j6, by omega, fun r H7 r0 r1 b7 j7 => ⟨_, _, rfl, rfl, _, rfl, iteB (fun c2 => ?_) (fun c2 => ?_)⟩⟩
            · refine ⟨_, rfl, _, rfl, j, (u : Nat), _, rfl, by omega, by omega, j7, by omega, fun r2 H8 q0 q1 b8 j8 => ⟨(by show 2 ≤ sizeLine; decide), fun z hz => ?_⟩⟩
              have sz := same_upd (o := .tup [V.str "x", .int r2]) hz
              refine ⟨_, .inl r2.toNat, rfl, b7.trans (b8.trans (KJ.But.same sz)), jar_more (jar_same j8 sz) (by omega), .tup (by rw [hid_ne (new_ne hz (jar_ne j8))]; exact upd_same) (.cons (.str _) (.cons ?_ .nil)), by show r2.toNat < u; omega⟩
              rw [Int.toNat_of_nonneg q0]
              exact .int _
            · exact ⟨_, rfl, part H7 _ (by omega) b7 j7⟩
          · exact ⟨_, rfl, part H6 _ (by omega) (fun _ _ _ e => e) j6⟩
        · rintro σ' H7 ⟨v, sh, rfl, b7, j7, th, hsh⟩
          refine ⟨_, rfl, _, rfl, _, rfl, j, q, _, _, rfl, nq, .inl (b7 _ _ nq eq6), by simp, ?_, j7, by omega, fun x H8 hx b8 j8 => ⟨_, rfl, by show 3 ≤ sizeLine; decide, fun z hz => ?_⟩⟩
          · rw [List.length_append, List.length_map]
            exact Nat.lt_of_le_of_lt (show ns.length + 1 ≤ 10 by omega) (by decide)
          obtain ⟨a, hxa, haa⟩ : ∃ a, Th (hid j H8) x (enD a) ∧ ∀ k, a = some k → k < m ∧ k ≠ st.toNat := by
            rcases List.mem_append.mp hx with h | h
            · obtain ⟨y, hy, rfl⟩ := List.mem_map.mp h
              obtain ⟨y0, y1, y2⟩ := nz y hy
              refine ⟨some y.toNat, ?_, fun k hk => ?_⟩
              · show Th _ _ (.int ((y.toNat : Nat) : Int))
                rw [Int.toNat_of_nonneg y0]
                exact .int y
              · cases hk
                omega
            · rw [List.mem_singleton.mp h]
              exact ⟨none, .non, fun k hk => by cases hk⟩
          have sz := same_upd (o := .tup [V.int st, x, v]) hz
          have thp : Th (hid j (upd H8 z (.tup [V.int st, x, v]))) (.ref z) (ppD ⟨st.toNat, a, sh⟩) := .tup (by rw [hid_ne (new_ne hz (jar_ne j8))]; exact upd_same) (.cons (by rw [Int.toNat_of_nonneg st0]; exact .int _) (.cons (Thj.same hxa sz) (.cons (Thj.same (Thj.but th b8) sz) .nil)))
          have gp : GoodP m u ⟨st.toNat, a, sh⟩ := ⟨by show st.toNat < m; omega, haa, hsh⟩
          have fl : Flat (ppD ⟨st.toNat, a, sh⟩) := pp_flat
          generalize (⟨st.toNat, a, sh⟩ : Pp) = pd at thp gp fl
          generalize upd H8 z (.tup [V.int st, x, v]) = H9 at sz thp ⊢
          have b9 := b6.trans (b7.trans (b8.trans (KJ.But.same sz)))
          have ep9 : H9 p = some (.lst xs) := b9 _ _ np ep
          have ta9 : ThAll (hid j H9) xs (ps.map ppD) := ThAll.mono (Sm.same (hid_but b9)) ta
          have j9 := jar_same j8 sz
          have sL := flat_shapedL (ds := ps.map ppD) fun e he => by
            obtain ⟨p', _, rfl⟩ := List.mem_map.mp he
            exact pp_flat
          have lx : xs.length ≤ 12 := by rw [all2 ta9, List.length_map]; omega
          refine ⟨_, rfl, _, rfl, _, rfl, ppD pd, ps.map ppD, Th.dp (Thj.th thp) fl.2.2, Th.dp (.lst ep9 (ThAll.mono (Sm.same (hid_same j H9)) ta9)) sL.2, shaped_of fl.1 (by have := fl.2.1; omega), sL.1, _, rfl, iteB (fun c => ?_) (fun c => ?_)⟩
          · rw [Bool.not_eq_true'] at c
            refine ⟨_, rfl, (by show 1 ≤ sizeLine; decide), fun l hl => ⟨p, l, xs, [.ref z], rfl, rfl, (same_upd hl) _ _ ep9, upd_same, Nat.le_trans (show xs.length + 1 ≤ 13 by omega) (by decide), fun r hr' => ?_⟩⟩
            have sr := (same_upd (o := .lst [V.ref z]) hl).trans (same_upd (o := .lst (xs ++ [V.ref z])) hr')
            refine ⟨_, _, _, _, _, r, xs ++ [.ref z], ps ++ [pd], rfl, b0.trans (b9.trans (KJ.But.same sr)), jar_more (jar_same j9 sr) (by omega), new_ne hr' (jar_ne (jar_same j9 (same_upd hl))), upd_same, ?_, by rw [List.length_append, List.length_singleton]; omega, fun e he => ?_, ?_⟩
            · rw [List.map_append]
              exact ThAllj.same (ThAll.append ta9 (.cons thp .nil)) sr
            · rcases List.mem_append.mp he with h | h
              · exact hg e h
              · rw [List.mem_singleton.mp h]
                exact gp
            · rw [List.map_append]
              exact dist_snoc hdist c
          · refine ⟨by decide, fun l hl => ⟨p, l, xs, [], rfl, rfl, (same_upd hl) _ _ ep9, upd_same, Nat.le_trans (show xs.length + 0 ≤ 13 by omega) (by decide), fun r hr' => ?_⟩⟩
            have sr := (same_upd (o := .lst ([] : List V)) hl).trans (same_upd (o := .lst (xs ++ [])) hr')
            exact ⟨_, _, _, _, _, r, xs ++ [], ps, rfl, b0.trans (b9.trans (KJ.But.same sr)), jar_more (jar_same j9 sr) (by omega), new_ne hr' (jar_ne (jar_same j9 (same_upd hl))), upd_same, (by have z := ThAllj.same ta9 sr; rw [List.append_nil] at z ⊢; exact z), by omega, hg, hdist⟩
    · rintro σ H' ⟨o5, o6, o7, o8, o9, p, xs, ps, rfl, b0, j0, np, ep, ta, ln, hg, hdist⟩
      refine ⟨_, rfl, _, rfl, _, rfl, .inl ⟨p, xs, rfl, SqL.of ep, fun q hq => ?_⟩⟩
      have sq := same_upd (o := .tup xs) hq
      have tq : Th (hid j (upd H' q (.tup xs))) (.ref q) (.tuple (ps.map ppD)) := .tup (by rw [hid_ne (new_ne hq (jar_ne j0))]; exact upd_same) (ThAllj.same ta sq)
      generalize upd H' q (.tup xs) = H4 at sq tq ⊢
      refine ⟨_, rfl, _, rfl, j, m, _, rfl, m1, m4, jar_same j0 sq, by omega, fun v5 n5 H5 g5 t5 _ b5 j5 => ?_⟩
      refine ⟨_, rfl, _, rfl, j, m, _, rfl, m1, m4, j5, by omega, fun v6 n6 H6 g6 t6 f6 b6 j6 => ⟨by show 5 ≤ sizeLine; decide, fun z hz => ?_⟩⟩
      have sz := same_upd (o := .tup [V.int (m : Nat), .int (u : Nat), .ref q, v5, v6]) hz
      refine k _ ⟨m, u, ps, n5, n6⟩ _ ⟨m1, m4, u4, mu, by show ps.length ≤ 12; omega, hg, hdist, g5, g6⟩ (.tup (by rw [hid_ne (new_ne hz (jar_ne j6))]; exact upd_same) (.cons (.int _) (.cons (.int _) (.cons (Thj.same (Thj.but (Thj.but tq b5) b6) sz) (.cons (Thj.same (Thj.but t5 b6) sz) (.cons (Thj.same t6 sz) .nil)))))) ⟨z, _, _, _, _, v6, rfl, by rw [hid_ne (new_ne hz (jar_ne j6))]; exact upd_same, f6.same (hid_but (KJ.But.same sz))⟩
        (b0.trans ((KJ.But.same sq).trans (b5.trans (b6.trans (KJ.But.same sz))))) (jar_more (jar_same j6 sz) (by omega))
end
end KP

set_option Elab.async false
set_option linter.all false
set_option maxRecDepth 100000
set_option maxHeartbeats 2000000
/-! ### what is asked of arguments, of nets and told fractions -/
namespace KP
open PySem PySem.Spec PyProof.Rows L2 KX KT KJ KS FR
abbrev sNeedNet : Stmt := top 33
abbrev sNeedAs : Stmt := top 34
abbrev sNeedFi : Stmt := top 35
abbrev sIsFi : Stmt := top 36
mutual
/-- tuples, ints, texts alone -/
def tpD : PyData → Bool
  | .tuple ds => tpAll ds
  | .list _ => false
  | .dict _ => false
  | _ => true
def tpAll : List PyData → Bool
  | [] => true
  | d :: ds => tpD d && tpAll ds
end
theorem tpAll_of : ∀ {ds : List PyData}, (∀ d ∈ ds, tpD d = true) → tpAll ds = true
  | [], _ => rfl
  | d :: ds, h => by
    simp only [tpAll, Bool.and_eq_true]
    exact ⟨h d List.mem_cons_self, tpAll_of fun e he => h e (List.mem_cons_of_mem _ he)⟩
theorem th_tO {H : Hp} {v : V} {d : PyData} (h : Th H v d) : tpD d = true → Th (tO H) v d := by
  refine Th.rec (motive_1 := fun v d _ => tpD d = true → Th (tO H) v d) (motive_2 := fun vs ds _ => tpAll ds = true → ThAll (tO H) vs ds) (fun _ => .non) (fun b _ => .bl b) (fun i _ => .int i) (fun x _ => .str x)
    (fun _ _ _ z => by simp [tpD] at z) (fun q _ ih z => .tup (tO_rd q) (ih (by simpa [tpD] using z))) (fun _ z => by simp [tpD] at z) (fun _ => .nil) (fun _ _ a b z => ?_) h
  simp only [tpAll, Bool.and_eq_true] at z
  exact .cons (a z.1) (b z.2)
theorem tp_f (x : Fr) : tpD (fD x) = true := by simp [fD, tpD, tpAll]
theorem tp_pp (p : Pp) : tpD (ppD p) = true := by
  cases p with
  | mk s e sh => cases sh <;> cases e <;> simp [ppD, enD, shD, fD, tpD, tpAll]
theorem tp_nats (ns : List Nat) : tpAll (natsD ns) = true := tpAll_of fun d hd => by
  obtain ⟨i, _, rfl⟩ := List.mem_map.mp hd
  rfl
theorem tp_net (n : NetM) : tpD n.d = true := by
  have h : tpAll (n.ps.map ppD) = true := tpAll_of fun d hd => by
    obtain ⟨p, _, rfl⟩ := List.mem_map.mp hd
    exact tp_pp p
  simp [NetM.d, tpD, tpAll, h, tp_nats]
theorem tp_fs (as : List Fr) : tpD (.tuple (as.map fD)) = true := by
  have h : tpAll (as.map fD) = true := tpAll_of fun d hd => by
    obtain ⟨p, _, rfl⟩ := List.mem_map.mp hd
    exact tp_f p
  simp [tpD, h]
/-- a net's parts -/
theorem net_parts {H : Hp} {x : V} {n : NetM} (h : Th (tO H) x n.d) : ∃ a ps fs ss, x = .ref a ∧ tO H a = some (.tup [.int (n.m : Nat), .int (n.u : Nat), ps, fs, ss]) ∧ Th (tO H) ps (.tuple (n.ps.map ppD)) ∧ Th (tO H) fs (.tuple (natsD n.fs)) ∧ Th (tO H) ss (.tuple (natsD n.ss)) := by
  cases h with
  | tup' e h => cases h with
    | cons a1 h => cases h with
      | cons a2 h => cases h with
        | cons a3 h => cases h with
          | cons a4 h => cases h with
            | cons a5 h =>
              cases h
              cases a1
              cases a2
              exact ⟨_, _, _, _, rfl, tO_eq e, a3, a4, a5⟩
theorem tup_parts {H : Hp} {x : V} {ds : List PyData} (h : Th (tO H) x (.tuple ds)) : ∃ a xs, x = .ref a ∧ tO H a = some (.tup xs) ∧ ThAll (tO H) xs ds := by
  cases h with
  | tup' e h => exact ⟨_, _, rfl, tO_eq e, h⟩
theorem frv_of {K : PySem.W.Frag} {H : Hp} {v : V} {x : Fr} (h : Th (tO H) v (fD x)) : FrV K H v x := by
  cases h with
  | tup' e h => cases h with
    | cons a1 h => cases h with
      | cons a2 h =>
        cases h
        cases a1
        cases a2
        exact ⟨_, rfl, SqT.of e⟩
def ToldS (as : List Fr) : Prop := ∀ a ∈ as, Told a
def AsOk (n : NetM) (as : List Fr) : Prop := as.length = n.u ∧ ToldS as
def FiOk (n : NetM) (fl : List (List Fr)) : Prop := fl.length ≤ 30 ∧ ∀ r ∈ fl, r.length = n.fs.length ∧ ToldS r
def flD (fl : List (List Fr)) : PyData := .tuple (fl.map fun r => .tuple (r.map fD))
def spNeedNet (Ps : List Addr) : Sp := fun vs H Q _ => ∃ x n, vs = [x] ∧ GoodN n ∧ Th (tO H) x n.d ∧ Tbs Ps H ∧ ∀ H', Grown Ps H H' → Q .non H'
def spNeedAs : Sp := fun vs H Q _ => ∃ x y n as, vs = [x, y] ∧ Th (tO H) x (NetM.d n) ∧ AsOk n as ∧ Th (tO H) y (.tuple (as.map fD)) ∧ ∀ H', Same H H' → Q .non H'
def spIsFi (Ps : List Addr) : Sp := fun vs H Q _ => ∃ x y n r, vs = [x, y] ∧ Th (tO H) x (NetM.d n) ∧ r.length = n.fs.length ∧ ToldS r ∧ Th (tO H) y (.tuple (r.map fD)) ∧ Tbs Ps H ∧ ∀ H', Grown Ps H H' → Q (.bl true) H'
def spNeedFi (Ps : List Addr) : Sp := fun vs H Q _ => ∃ x y n fl, vs = [x, y] ∧ Th (tO H) x (NetM.d n) ∧ FiOk n fl ∧ Th (tO H) y (flD fl) ∧ Tbs Ps H ∧ ∀ H', Grown Ps H H' → Q .non H'
theorem told_all {as : List Fr} (h : ToldS as) : (as.map fD).all isTold = true := by
  rw [List.all_eq_true]
  intro d hd
  obtain ⟨x, hx, rfl⟩ := List.mem_map.mp hd
  exact told_is (h x hx)
section
variable {P : Program} {w : World} {K : PySem.W.Frag} {mg : Str → Option Value} {base : Heap}
theorem scNeedNet : FnScope ["net"] ["net"] (defScope sNeedNet) := ⟨rfl, rfl, rfl, by decide +kernel, rfl, by decide +kernel, by decide +kernel⟩
theorem ok_neednet {f fN : Addr} {fd fdN : FuncData} {Ps : List Addr} (F : Fun K "need_net" "need_net" sNeedNet f fd) (FN : FnOk P w K mg base CX0 8 fN fdN ["value"] (spNet Ps)) (mN : mg "is_net" = some (.ref fN)) (kN : PySem.W.keepIn K (.ref fN) = true) (bN : Binds K fdN ["value"] []) :
    FnOk P w K mg base CX0 9 f fd ["net"] (spNeedNet Ps) := by
  refine F.ok scNeedNet (fun vs H Q E h => ?_) (fun cdv A outer s H vs Q E hr h => ?_)
  · obtain ⟨x, n, rfl, _⟩ := h
    rfl
  · obtain ⟨x, n, rfl, g, th, tb, k⟩ := h
    refine ⟨_, pss_one (ps_if (pt_not (pt_val (pe_call FN hr rfl mN kN bN .nil pass0 (pa_cons (pv 0) pa_nil)))) (pss_one ps_never) pss_nil), ?_⟩
    refine ⟨_, rfl, x, n.d, rfl, th.up, tb, fun H' gr => ⟨_, rfl, iteB (fun z => ?_) (fun _ => k H' gr)⟩⟩
    rw [goodN_is g] at z
    cases z
abbrev nNA : List Str := ["net", "assignment", "index", "share"]
theorem scNeedAs : FnScope nNA ["net", "assignment"] (defScope sNeedAs) := ⟨rfl, rfl, rfl, by decide +kernel, rfl, by decide +kernel, by decide +kernel⟩
theorem vi_netix {σ : L2.St} {H : Hp} {i : Nat} {a : Addr} {xs : List V} {k : Int} {v : V} (h : σ[i]? = some (some (.ref a))) (e : tO H a = some (.tup xs)) (hk : atI xs k = some v) : Vi (tOp (rIxT K) (tVar i) (tC (.int k))) σ H v :=
  vi_op (vi_var h) vi_c fun Q q => ⟨a, xs, k, v, rfl, rfl, SqT.of (tO_same H _ _ e), hk, q⟩
theorem ok_needas {f fT : Addr} {fd fdT : FuncData} (F : Fun K "need_assignment" "need_assignment" sNeedAs f fd) (T : TxT mg) (FT : FnOk P w K mg base CX0 3 fT fdT ["value"] (spIs isTold)) (mT : mg "is_told" = some (.ref fT)) (kT : PySem.W.keepIn K (.ref fT) = true) (bT : Binds K fdT ["value"] []) :
    FnOk P w K mg base CX0 4 f fd ["net", "assignment"] spNeedAs := by
  refine F.ok scNeedAs (fun vs H Q E h => ?_) (fun cdv A outer s H vs Q E hr h => ?_)
  · obtain ⟨x, y, n, as, rfl, _⟩ := h
    rfl
  · obtain ⟨x, y, n, as, rfl, th, ⟨hl, ht⟩, ty, k⟩ := h
    refine ⟨_, pss_cons (ps_if (pw_or (pt_cmpR op_notTyB (pe_callTy call_type1 (by rfl) T.type (by decide +kernel) (pa_cons (pv 1) pa_nil)) (pe_bltn (v := .ty "tuple") (by rfl) T.tuple (by decide +kernel) rfl) (nomark _))
        (pw_or1 (pt_cmpR op_ne (pe_callB call_len_seq (by rfl) T.len PySem.boot_len (pa_cons (pv 1) pa_nil)) (pe_ix ix_tup (pv 0) pe_int (fun _ _ => rfl)) (nomark _)))).pt (pss_one ps_never) pss_nil)
      (pss_one (ps_for PassesOwn.never rfl (pi_enumT (by rfl) T.enumerate (pa_cons (pv 1) pa_nil)) (pg_tup rfl (pgs_cons (pg_name (i := 2) scNeedAs.nd rfl (Or.inl rfl)) (pgs_cons (pg_name (i := 3) scNeedAs.nd rfl (Or.inl rfl)) pgs_nil)))
        (pss_one (ps_if (pt_not (pt_val (pe_call FT hr rfl mT kT bT .nil pass0 (pa_cons (pv 3) pa_nil)))) (pss_one ps_never) pss_nil)))), ?_⟩
    obtain ⟨a, ps, fs, ss, rfl, ea, _⟩ := net_parts th
    obtain ⟨b, ys, rfl, eb, ta⟩ := tup_parts ty
    have ly : ys.length = as.length := by rw [all2 ta, List.length_map]
    refine i_when (D := { nx := fun _ H' => Q .non H', rt := Q }) (b := (!decide (tyN (.tuple (as.map fD)) = "tuple") || !decide (V.int (lenT (.tuple (as.map fD)) : Nat) = V.int (n.u : Nat)))) (ti_or (ti_notTup (vi_var rfl) ty.up) fun z => ti_test (vi_op (vi_lenT (ai_cons (vi_var rfl) ai_nil) ty.up rfl) (vi_netix rfl ea rfl) fun Q q => ⟨rfl, q⟩)) (fun z => ?_) (fun _ => ?_)
    · exfalso
      rw [int_dec] at z
      have e : lenT (.tuple (as.map fD)) = n.u := by show (as.map fD).length = n.u; rw [List.length_map]; exact hl
      rw [decide_eq_true e] at z
      simp [tyN] at z
    · refine ⟨_, rfl, b, ys, rfl, SqT.of (tO_same H _ _ eb), ?_⟩
      refine for_it (walk_enumT (K := K) (a := b) (xs := ys)) (fun i σ H' => (∃ o2 o3, σ = [some (.ref a), some (.ref b), o2, o3]) ∧ Same H H') ⟨⟨none, none, rfl⟩, Same.refl _⟩ (fun i σ H' _ z => SqT.of (z.2.rd (tO_same H _ _ eb))) ?_ ?_
      · rintro i v σ H' H'' hi ⟨⟨o2, o3, rfl⟩, s1⟩ ⟨U, x1, y1, rfl, hU, rfl, hx1, hy1⟩
        cases hx1
        have sU := same_upd (o := .tup [V.int (i : Nat), y1]) hU
        have s2 : Same H _ := s1.trans sU
        obtain ⟨d, hd, td⟩ := all_get (ThAll.mono (Sm.same (Tk.same s2)) ta) hy1
        refine ⟨U, _, rfl, SqT.of upd_same, rfl, _, _, rfl, _, _, rfl, rfl, ?_⟩
        refine ⟨_, rfl, y1, d, rfl, td.up, _, rfl, iteB (fun z => ?_) (fun _ => ⟨⟨_, _, rfl⟩, s2⟩)⟩
        have := List.all_eq_true.mp (told_all ht) d (List.mem_of_getElem? hd)
        rw [this] at z
        cases z
      · rintro σ H' ⟨_, s1⟩
        exact k H' s1
theorem scIsFi : FnScope ["net", "filling", "amount"] ["net", "filling"] (defScope sIsFi) := ⟨rfl, rfl, rfl, by decide +kernel, rfl, by decide +kernel, by decide +kernel⟩
theorem ok_isfi {f fT c PT' : Addr} {fd fdT : FuncData} {Ps : List Addr} (F : FunC K "_is_filling" "_is_filling" sIsFi f fd c) (T : TxT mg) (TB : GxR.TabB base mg c PT') (hP : PT' ∈ Ps) (FT : FnOk P w K mg base CX0 3 fT fdT ["value"] (spIs isTold)) (mT : mg "is_told" = some (.ref fT)) (kT : PySem.W.keepIn K (.ref fT) = true) (bT : Binds K fdT ["value"] []) :
    FnOk P w K mg base CX0 5 f fd ["net", "filling"] (spIsFi Ps) := by
  refine F.ok scIsFi (fun {vs H Q E} h => ?_) (fun A outer s H vs Q E hr h => ?_)
  · obtain ⟨x, y, n, r, rfl, _⟩ := h
    rfl
  · obtain ⟨x, y, n, r, rfl, th, hl, ht, ty, tb, k⟩ := h
    refine ⟨_, pss_cons (ps_if (pw_or (pt_cmpR op_notTyB (pe_callTy call_type1 (by rfl) T.type (by decide +kernel) (pa_cons (pv 1) pa_nil)) (pe_bltn (v := .ty "tuple") (by rfl) T.tuple (by decide +kernel) rfl) (nomark _))
        (pw_or1 (pt_cmpR op_ne (pe_callB call_len_seq (by rfl) T.len PySem.boot_len (pa_cons (pv 1) pa_nil)) (pe_callB call_len_seq (by rfl) T.len PySem.boot_len (pa_cons (pe_ix ix_tup (pv 0) pe_int (fun _ _ => rfl)) pa_nil)) (nomark _)))).pt (pss_one (ps_ret pe_bl)) pss_nil)
      (pss_one (ps_ret (KG.pe_allG (k := 3) (own := [("amount", 2)]) (g := gName 2) rfl scIsFi.nd hr (by rfl) T.all (by decide +kernel) TB rfl ⟨blkOk_by (N := ["net", "filling", "amount"]) (sc := defScope sIsFi) (by decide +kernel), rfl, by decide +kernel, by decide +kernel⟩ (pi_tup (pv 1))
          (fun _ _ _ _ _ _ _ _ => pg_name (i := 2) scIsFi.nd rfl (Or.inl rfl)) (fun _ _ _ _ _ _ _ _ hB => pe_call FT hB (by rfl) mT kT bT .nil pass0 (pa_cons (pv 2) pa_nil)) (fun _ => rfl)))), ?_⟩
    obtain ⟨a, ps, fs, ss, rfl, ea, _, tf, _⟩ := net_parts th
    obtain ⟨b, ys, rfl, eb, ta⟩ := tup_parts ty
    refine i_when (D := { nx := fun _ H' => Q .non H', rt := Q }) (b := (!decide (tyN (.tuple (r.map fD)) = "tuple") || !decide (V.int (lenT (.tuple (r.map fD)) : Nat) = V.int (lenT (.tuple (natsD n.fs)) : Nat)))) (ti_or (ti_notTup (vi_var rfl) ty.up) fun z => ti_test (vi_op (vi_lenT (ai_cons (vi_var rfl) ai_nil) ty.up rfl) (vi_lenT (ai_cons (vi_netix rfl ea rfl) ai_nil) tf.up rfl) fun Q q => ⟨rfl, q⟩)) (fun z => ?_) (fun _ => ?_)
    · exfalso
      rw [int_dec] at z
      have e : lenT (.tuple (r.map fD)) = lenT (.tuple (natsD n.fs)) := by show (r.map fD).length = (n.fs.map _).length; rw [List.length_map, List.length_map]; exact hl
      rw [decide_eq_true e] at z
      simp [tyN] at z
    · refine all_vi (Ps := Ps) (pd := isTold) rfl (tO_same H _ _ eb) (ta.up) tb hP (fun x => rfl) (fun H2 x d h => vi_call (ai_cons (vi_var rfl) ai_nil) fun Q q => ⟨_, _, rfl, h, q⟩) fun H2 gr => ?_
      rw [told_all ht]
      exact k H2 gr
abbrev nNF : List Str := ["net", "fillings", "index", "filling"]
theorem scNeedFi : FnScope nNF ["net", "fillings"] (defScope sNeedFi) := ⟨rfl, rfl, rfl, by decide +kernel, rfl, by decide +kernel, by decide +kernel⟩
theorem ok_needfi {f fT : Addr} {fd fdT : FuncData} {Ps : List Addr} {uB : Value} (F : Fun K "need_fillings" "need_fillings" sNeedFi f fd) (T : TxT mg) (mB : mg "MOST_FILLINGS" = some uB) (rB : RelV (.int 30) uB)
    (FT : FnOk P w K mg base CX0 5 fT fdT ["net", "filling"] (spIsFi Ps)) (mT : mg "_is_filling" = some (.ref fT)) (kT : PySem.W.keepIn K (.ref fT) = true) (bT : Binds K fdT ["net", "filling"] []) : FnOk P w K mg base CX0 6 f fd ["net", "fillings"] (spNeedFi Ps) := by
  refine F.ok scNeedFi (fun vs H Q E h => ?_) (fun cdv A outer s H vs Q E hr h => ?_)
  · obtain ⟨x, y, n, fl, rfl, _⟩ := h
    rfl
  · obtain ⟨x, y, n, fl, rfl, th, ⟨hl, ht⟩, ty, tb, k⟩ := h
    refine ⟨_, pss_cons (ps_if (pw_or (pt_cmpR op_notTyB (pe_callTy call_type1 (by rfl) T.type (by decide +kernel) (pa_cons (pv 1) pa_nil)) (pe_bltn (v := .ty "tuple") (by rfl) T.tuple (by decide +kernel) rfl) (nomark _))
        (pw_or1 (pt_cmpR op_gt (pe_callB call_len_seq (by rfl) T.len PySem.boot_len (pa_cons (pv 1) pa_nil)) (pe_glob (by rfl) mB rB) (nomark _)))).pt (pss_one ps_never) pss_nil)
      (pss_one (ps_for PassesOwn.never rfl (pi_enumT (by rfl) T.enumerate (pa_cons (pv 1) pa_nil)) (pg_tup rfl (pgs_cons (pg_name (i := 2) scNeedFi.nd rfl (Or.inl rfl)) (pgs_cons (pg_name (i := 3) scNeedFi.nd rfl (Or.inl rfl)) pgs_nil)))
        (pss_one (ps_if (pt_not (pt_val (pe_call FT hr rfl mT kT bT .nil pass0 (pa_cons (pv 0) (pa_cons (pv 3) pa_nil))))) (pss_one ps_never) pss_nil)))), ?_⟩
    obtain ⟨b, ys, rfl, eb, ta⟩ := tup_parts ty
    refine i_when (D := { nx := fun _ H' => Q .non H', rt := Q }) (b := (!decide (tyN (flD fl) = "tuple") || decide ((30 : Int) < (lenT (flD fl) : Nat)))) (ti_or (ti_notTup (vi_var rfl) ty.up) fun z => ti_test (vi_op (vi_lenT (ai_cons (vi_var rfl) ai_nil) ty.up rfl) vi_c fun Q q => ⟨_, _, rfl, rfl, q⟩)) (fun z => ?_) (fun _ => ?_)
    · exfalso
      have e : ¬ (30 : Int) < (lenT (flD fl) : Nat) := by show ¬ (30 : Int) < ((fl.map _).length : Nat); rw [List.length_map]; omega
      rw [decide_eq_false e] at z
      simp [tyN, flD] at z
    · refine ⟨_, rfl, b, ys, rfl, SqT.of (tO_same H _ _ eb), ?_⟩
      refine for_it (walk_enumT (K := K) (a := b) (xs := ys)) (fun i σ H' => (∃ o2 o3, σ = [some x, some (.ref b), o2, o3]) ∧ Grown Ps H H') ⟨⟨none, none, rfl⟩, Grown.same (Same.refl _) tb⟩ (fun i σ H' _ z => SqT.of (z.2.sm.rd (tO_same H _ _ eb))) ?_ ?_
      · rintro i v σ H' H'' hi ⟨⟨o2, o3, rfl⟩, g1⟩ ⟨U, x1, y1, rfl, hU, rfl, hx1, hy1⟩
        cases hx1
        have sU := same_upd (o := .tup [V.int (i : Nat), y1]) hU
        have g2 : Grown Ps H _ := g1.trans (Grown.same sU g1.tbs)
        obtain ⟨d, hd, td⟩ := all_get (ThAll.mono (Sm.same (Tk.sm g2.sm)) ta) hy1
        obtain ⟨r, hr', rfl⟩ := List.mem_map.mp (List.mem_of_getElem? hd)
        obtain ⟨h1, h2⟩ := ht r hr'
        refine ⟨U, _, rfl, SqT.of upd_same, rfl, _, _, rfl, _, _, rfl, rfl, ?_⟩
        refine ⟨_, rfl, _, rfl, x, y1, n, r, rfl, th.tk (Tk.sm g2.sm), h1, h2, td, g2.tbs, fun H3 g3 => ⟨_, rfl, iteB (fun z => by cases z) (fun _ => ⟨⟨_, _, rfl⟩, g2.trans g3⟩)⟩⟩
      · rintro σ H' ⟨_, g1⟩
        exact k H' g1
end
end KP

set_option Elab.async false
set_option linter.all false
set_option maxRecDepth 100000
set_option maxHeartbeats 2000000
/-! ### tables: the data; lists of lists in the heap -/
namespace KP
open PySem PySem.Spec PyProof.Rows L2 KX KT KJ KS FR
abbrev Tab := List (List Fr)
def gt (t : Tab) (i k : Nat) : Fr := (t.getD i []).getD k (0, 1)
def st (t : Tab) (i k : Nat) (x : Fr) : Tab := t.set i ((t.getD i []).set k x)
def partF (as : List Fr) : Nat ⊕ Fr → Fr
  | .inl j => as.getD j (0, 1)
  | .inr x => x
def step1 (t : Tab) (s : Nat) (x : Fr) : Tab := st t s s (lesF (gt t s s) x)
def stepF (as : List Fr) (t : Tab) (p : Pp) : Tab := match p.e with
  | none => step1 t p.s (partF as p.sh)
  | some k => st (step1 t p.s (partF as p.sh)) k p.s (addF (gt (step1 t p.s (partF as p.sh)) k p.s) (partF as p.sh))
def row0 (m i : Nat) : List Fr := (List.range m).map fun k => if i = k then (1, 1) else (0, 1)
def tab0 (m : Nat) : Tab := (List.range m).map (row0 m)
def tabF (n : NetM) (as : List Fr) : Tab := n.ps.foldl (stepF as) (tab0 n.m)
/-- m rows of m -/
structure Sq (m : Nat) (t : Tab) : Prop where
  len : t.length = m
  row : ∀ i, i < m → (t.getD i []).length = m
theorem Sq.st {m : Nat} {t : Tab} (h : Sq m t) (i k : Nat) (x : Fr) : Sq m (KP.st t i k x) := by
  refine ⟨by unfold KP.st; rw [List.length_set]; exact h.len, fun i' hi' => ?_⟩
  have hr := h.row i' hi'
  unfold KP.st
  rw [List.getD_eq_getElem?_getD, List.getElem?_set]
  rw [List.getD_eq_getElem?_getD] at hr
  by_cases c : i = i'
  · subst c
    rw [if_pos rfl, if_pos (by rw [h.len]; exact hi'), List.getD_eq_getElem?_getD]
    show (List.set _ _ _).length = m
    rw [List.length_set]
    exact hr
  · rw [if_neg c]
    exact hr
theorem Sq.step {m : Nat} {t : Tab} (h : Sq m t) (as : List Fr) (p : Pp) : Sq m (stepF as t p) := by
  unfold stepF step1
  split
  · exact h.st _ _ _
  · exact (h.st _ _ _).st _ _ _
theorem sq0 (m : Nat) : Sq m (tab0 m) := by
  refine ⟨by simp [tab0], fun i hi => ?_⟩
  rw [List.getD_eq_getElem?_getD]
  simp [tab0, hi, row0]
theorem sqF (n : NetM) (as : List Fr) : Sq n.m (tabF n as) := by
  have h : ∀ (ps : List Pp) (t : Tab), Sq n.m t → Sq n.m (ps.foldl (stepF as) t) := by
    intro ps
    induction ps with
    | nil => exact fun t h => h
    | cons p ps ih => exact fun t h => ih _ (h.step as p)
  exact h _ _ (sq0 _)
/-- bounds of all entries -/
def TBd (a : Nat) (N : Nat) (t : Tab) : Prop := ∃ M, 0 < M ∧ M < 2 ^ a ∧ ∀ row ∈ t, ∀ x ∈ row, Bd M N x
theorem told_pow {x : Fr} (h : Told x) : 0 < x.2.natAbs ∧ x.2.natAbs < 2 ^ 10 := by
  have h1 := h.pos
  have h2 := h.d
  exact ⟨by omega, Nat.lt_of_lt_of_le (show x.2.natAbs < 1000 by omega) (by decide)⟩
theorem told_sz {x : Fr} (h : Told x) : Sz 4000 x := ((told_bd h).sz (told_pow h).1 (told_pow h).2 (b := 10) (by decide)).mono (by decide)
theorem gt_mem {m : Nat} {t : Tab} (h : Sq m t) {i k : Nat} (hi : i < m) (hk : k < m) : ∃ row ∈ t, gt t i k ∈ row := by
  have h1 := h.row i hi
  have h2 : i < t.length := by rw [h.len]; exact hi
  have e1 : t.getD i [] = t[i] := by
    rw [List.getD_eq_getElem?_getD, List.getElem?_eq_getElem h2]
    rfl
  rw [e1] at h1
  have h3 : k < (t[i]).length := by omega
  refine ⟨t[i], List.getElem_mem _, ?_⟩
  unfold gt
  rw [e1]
  have e2 : (t[i]).getD k (0, 1) = (t[i])[k] := by
    rw [List.getD_eq_getElem?_getD, List.getElem?_eq_getElem h3]
    rfl
  rw [e2]
  exact List.getElem_mem _
theorem TBd.at {m a N : Nat} {t : Tab} (h : TBd a N t) (sq : Sq m t) {i k : Nat} (hi : i < m) (hk : k < m) : ∃ M, 0 < M ∧ M < 2 ^ a ∧ Bd M N (gt t i k) := by
  obtain ⟨M, h0, h1, h2⟩ := h
  obtain ⟨row, hr, hx⟩ := gt_mem sq hi hk
  exact ⟨M, h0, h1, h2 row hr _ hx⟩
theorem mem_st {t : Tab} {i k : Nat} {x : Fr} {row : List Fr} {y : Fr} (hr : row ∈ st t i k x) (hy : y ∈ row) : y = x ∨ ∃ row ∈ t, y ∈ row := by
  unfold st at hr
  rcases List.mem_or_eq_of_mem_set hr with h | h
  · exact .inr ⟨row, h, hy⟩
  · rw [h] at hy
    rcases List.mem_or_eq_of_mem_set hy with h2 | h2
    · rw [List.getD_eq_getElem?_getD] at h2
      cases e : t[i]? with
      | none =>
        rw [e] at h2
        cases h2
      | some r =>
        rw [e] at h2
        exact .inr ⟨r, List.mem_of_getElem? e, h2⟩
    · exact .inl h2
/-- an entry worked out of entries and a told fraction -/
theorem TBd.put {m a N : Nat} {t : Tab} (h : TBd a N t) (sq : Sq m t) {i k i' k' : Nat} (hi : i' < m) (hk : k' < m) {x : Fr} (hx : Told x) (f : Fr → Fr → Fr) (hf : ∀ {M N N' : Nat} {y z : Fr}, Bd M N y → Bd M N' z → Bd M (N + N') (f y z)) : TBd (a + 10) (N + 999) (st t i k (f (gt t i' k') x)) := by
  obtain ⟨M, h0, h1, h2⟩ := h
  obtain ⟨p0, p1⟩ := told_pow hx
  refine ⟨M * x.2.natAbs, Nat.mul_pos h0 p0, by rw [Nat.pow_add]; exact Nat.mul_lt_mul'' h1 p1, fun row hr y hy => ?_⟩
  have up : ∀ {y}, (∃ row ∈ t, y ∈ row) → Bd (M * x.2.natAbs) N y := fun ⟨r, hr, hy⟩ => (h2 r hr _ hy).mono (Nat.dvd_mul_right _ _) (Nat.le_refl _)
  rcases mem_st hr hy with rfl | h
  · exact hf (up (gt_mem sq hi hk)) ((told_bd hx).mono (Nat.dvd_mul_left _ _) (Nat.le_refl _))
  · exact (up h).mono (Nat.dvd_refl _) (by omega)
theorem tb0 (m : Nat) : TBd 1 1 (tab0 m) := by
  refine ⟨1, by decide, by decide, fun row hr x hx => ?_⟩
  obtain ⟨i, _, rfl⟩ := List.mem_map.mp hr
  obtain ⟨k, _, rfl⟩ := List.mem_map.mp hx
  split <;> exact ⟨by decide, ⟨1, rfl⟩, by decide⟩
theorem part_told {u : Nat} {as : List Fr} {sh : Nat ⊕ Fr} (h : GoodS u sh) (hl : as.length = u) (ht : ToldS as) : Told (partF as sh) := by
  cases sh with
  | inl j =>
    have h : j < u := h
    show Told (as.getD j (0, 1))
    rw [List.getD_eq_getElem?_getD, List.getElem?_eq_getElem (by omega)]
    exact ht _ (List.getElem_mem _)
  | inr x => exact h
theorem bdm_put {m M N : Nat} {t : Tab} (h2 : ∀ row ∈ t, ∀ x ∈ row, Bd M N x) (sq : Sq m t) {i k i' k' : Nat} (hi : i' < m) (hk : k' < m) {x : Fr} (hx : Told x) (hd : x.2.natAbs ∣ M) (f : Fr → Fr → Fr) (hf : ∀ {M N N' : Nat} {y z : Fr}, Bd M N y → Bd M N' z → Bd M (N + N') (f y z)) :
    ∀ row ∈ st t i k (f (gt t i' k') x), ∀ x ∈ row, Bd M (N + 999) x := fun row hr y hy => by
  have up : ∀ {y}, (∃ row ∈ t, y ∈ row) → Bd M N y := fun ⟨r, hr, hy⟩ => h2 r hr _ hy
  rcases mem_st hr hy with rfl | h
  · exact hf (up (gt_mem sq hi hk)) ((told_bd hx).mono hd (Nat.le_refl _))
  · exact (up h).mono (Nat.dvd_refl _) (by omega)
theorem TBd.step {m u a N : Nat} {t : Tab} {as : List Fr} {p : Pp} (h : TBd a N t) (sq : Sq m t) (g : GoodP m u p) (hl : as.length = u) (ht : ToldS as) : TBd (a + 10) (N + 1998) (stepF as t p) := by
  have hp := part_told g.sh hl ht
  obtain ⟨p0, p1⟩ := told_pow hp
  obtain ⟨M, h0, h1, h2⟩ := h
  have z1 : ∀ row ∈ t, ∀ x ∈ row, Bd (M * (partF as p.sh).2.natAbs) N x := fun r hr x hx => (h2 r hr x hx).mono (Nat.dvd_mul_right _ _) (Nat.le_refl _)
  have z2 : ∀ row ∈ step1 t p.s (partF as p.sh), ∀ x ∈ row, Bd (M * (partF as p.sh).2.natAbs) (N + 999) x := bdm_put z1 sq g.s g.s hp (Nat.dvd_mul_left _ _) lesF Bd.les
  refine ⟨M * (partF as p.sh).2.natAbs, Nat.mul_pos h0 p0, by rw [Nat.pow_add]; exact Nat.mul_lt_mul'' h1 p1, ?_⟩
  unfold stepF
  split
  · exact fun r hr x hx => (z2 r hr x hx).mono (Nat.dvd_refl _) (by omega)
  · rename_i k hk
    have := bdm_put (i := k) (k := p.s) z2 (sq.st _ _ _) (g.e k hk).1 g.s hp (Nat.dvd_mul_left _ _) addF Bd.add
    exact this
/-- row by row -/
structure FrL (K : PySem.W.Frag) (H : Hp) (vs : List V) (row : List Fr) : Prop where
  len : vs.length = row.length
  get : ∀ (k : Nat) (v : V) (x : Fr), vs[k]? = some v → row[k]? = some x → FrV K H v x
theorem FrL.tk {K : PySem.W.Frag} {H H' : Hp} {vs : List V} {row : List Fr} (h : FrL K H vs row) (s : Tk H H') : FrL K H' vs row := ⟨h.len, fun k v x a b => (h.get k v x a b).tk s⟩
theorem FrL.set {K : PySem.W.Frag} {H : Hp} {vs : List V} {row : List Fr} (h : FrL K H vs row) (k : Nat) {w : V} {x : Fr} (f : FrV K H w x) : FrL K H (vs.set k w) (row.set k x) := by
  refine ⟨by rw [List.length_set, List.length_set]; exact h.len, fun i v y a b => ?_⟩
  rw [List.getElem?_set] at a b
  have hl := h.len
  by_cases c : k = i
  · rw [if_pos c] at a b
    by_cases c2 : k < vs.length
    · rw [if_pos c2] at a
      rw [if_pos (by omega)] at b
      cases a
      cases b
      exact f
    · rw [if_neg c2] at a
      cases a
  · rw [if_neg c] at a b
    exact h.get i v y a b
theorem FrL.snoc {K : PySem.W.Frag} {H : Hp} {vs : List V} {row : List Fr} (h : FrL K H vs row) {w : V} {x : Fr} (f : FrV K H w x) : FrL K H (vs ++ [w]) (row ++ [x]) := by
  have hl := h.len
  refine ⟨by rw [List.length_append, List.length_append, hl]; rfl, fun i v y a b => ?_⟩
  by_cases c : i < vs.length
  · rw [List.getElem?_append_left c] at a
    rw [List.getElem?_append_left (by omega)] at b
    exact h.get i v y a b
  · rw [List.getElem?_append_right (by omega)] at a
    rw [List.getElem?_append_right (by omega)] at b
    have e : i - vs.length = 0 := by
      have := (List.getElem?_eq_some_iff.mp a).1
      rw [List.length_singleton] at this
      omega
    rw [e] at a
    rw [← hl, e] at b
    cases a
    cases b
    exact f
theorem FrL.nil {K : PySem.W.Frag} {H : Hp} : FrL K H [] [] := ⟨rfl, fun k v x a => by simp at a⟩
theorem frl_of {K : PySem.W.Frag} {H : Hp} : ∀ {vs : List V} {row : List Fr}, ThAll (tO H) vs (row.map fD) → FrL K H vs row := fun {vs row} h => by
  refine ⟨by rw [all2 h, List.length_map], fun k v x a b => ?_⟩
  obtain ⟨d, hd, td⟩ := all_get h a
  rw [List.getElem?_map, b] at hd
  cases hd
  exact frv_of td
/-- a list of lists, all new since H0 -/
structure TabL (K : PySem.W.Frag) (H0 H : Hp) (T : Addr) (rs : List Addr) (t : Tab) : Prop where
  top : H T = some (.lst (rs.map V.ref))
  nd : rs.Nodup
  out : T ∉ rs
  new : ∀ r ∈ rs, H0 r = none
  len : rs.length = t.length
  row : ∀ (i : Nat) (r : Addr) (row : List Fr), rs[i]? = some r → t[i]? = some row → ∃ vs, H r = some (.lst vs) ∧ FrL K H vs row
theorem TabL.same {K : PySem.W.Frag} {H0 H H' : Hp} {T : Addr} {rs : List Addr} {t : Tab} (h : TabL K H0 H T rs t) (s : Same H H') : TabL K H0 H' T rs t :=
  ⟨s _ _ h.top, h.nd, h.out, h.new, h.len, fun i r row a b => let ⟨vs, e, f⟩ := h.row i r row a b; ⟨vs, s _ _ e, f.tk (Tk.same s)⟩⟩
theorem grown_put {Ps : List Addr} {H0 H : Hp} {r : Addr} {xs ys : List V} (g : Grown Ps H0 H) (h0 : H0 r = none) (h : H r = some (.lst xs)) : Grown Ps H0 (upd H r (.lst ys)) := by
  refine ⟨fun b u e n => ?_, fun P hP => ?_⟩
  · rw [upd_ne (ne_of_none e h0)]
    exact g.sm b u e n
  · obtain ⟨ps, e, k⟩ := g.tbs P hP
    exact ⟨ps, by rw [upd_ne (fun z => by rw [z, h] at e; cases e)]; exact e, k⟩
/-- an entry, and storing there -/
theorem tab_at {K : PySem.W.Frag} {H0 H : Hp} {T : Addr} {rs : List Addr} {t : Tab} {m : Nat} (h : TabL K H0 H T rs t) (sq : Sq m t) {i k : Nat} (hi : i < m) (hk : k < m) :
    ∃ r vs v, rs[i]? = some r ∧ H r = some (.lst vs) ∧ vs[k]? = some v ∧ vs.length = m ∧ H0 r = none ∧ FrV K H v (gt t i k) ∧ ∀ {H'} {w x}, Same H H' → FrV K H' w x → TabL K H0 (upd H' r (.lst (vs.set k w))) T rs (st t i k x) := by
  have h2 : i < t.length := by rw [sq.len]; exact hi
  have h3 : i < rs.length := by rw [h.len]; exact h2
  have e1 := List.getElem?_eq_getElem h3
  have e2 := List.getElem?_eq_getElem h2
  obtain ⟨vs, e, f⟩ := h.row i _ _ e1 e2
  have hrow : (t[i]).length = m := by
    have := sq.row i hi
    rw [List.getD_eq_getElem?_getD, e2] at this
    exact this
  have lv : vs.length = m := by rw [f.len, hrow]
  have ek := List.getElem?_eq_getElem (show k < vs.length by omega)
  have er := List.getElem?_eq_getElem (show k < (t[i]).length by omega)
  refine ⟨rs[i], vs, vs[k], e1, e, ek, lv, h.new _ (List.getElem_mem _), ?_, fun {H' w x} s fw => ?_⟩
  · have := f.get k _ _ ek er
    have g1 : t.getD i [] = t[i] := by
      rw [List.getD_eq_getElem?_getD, e2]
      rfl
    have g2 : gt t i k = (t[i])[k] := by
      unfold gt
      rw [g1, List.getD_eq_getElem?_getD, er]
      rfl
    rw [g2]
    exact this
  · have e' := s _ _ e
    have nT : T ≠ rs[i] := fun z => h.out (by rw [z]; exact List.getElem_mem _)
    refine ⟨by rw [upd_ne nT]; exact s _ _ h.top, h.nd, h.out, h.new, by unfold st; rw [List.length_set]; exact h.len, fun i' r' row' a b => ?_⟩
    unfold st at b
    rw [List.getElem?_set] at b
    by_cases c : i = i'
    · subst c
      rw [e1] at a
      cases a
      rw [if_pos rfl, if_pos h2] at b
      cases b
      refine ⟨vs.set k w, upd_same, ?_⟩
      have z := ((f.tk (Tk.same s)).set k fw).tk (Tk.put (ys := vs.set k w) e')
      rw [List.getD_eq_getElem?_getD, e2]
      exact z
    · rw [if_neg c] at b
      obtain ⟨vs', e3, f3⟩ := h.row i' r' row' a b
      have nr : r' ≠ rs[i] := fun z => by
        have h4 := (List.getElem?_eq_some_iff.mp a)
        obtain ⟨h5, h6⟩ := h4
        exact c ((List.getElem_inj h.nd).mp (h6.trans z)).symm
      exact ⟨vs', by rw [upd_ne nr]; exact s _ _ e3, (f3.tk (Tk.same s)).tk (Tk.put e')⟩
/-- a tuple of tuples -/
def RowT (K : PySem.W.Frag) (H : Hp) (u : V) (row : List Fr) : Prop := ∃ b vs, u = .ref b ∧ tO H b = some (.tup vs) ∧ FrL K H vs row
theorem RowT.tk {K : PySem.W.Frag} {H H' : Hp} {u : V} {row : List Fr} (h : RowT K H u row) (s : Tk H H') : RowT K H' u row := by
  obtain ⟨b, vs, e, e2, f⟩ := h
  exact ⟨b, vs, e, s _ _ e2, f.tk s⟩
structure RowsT (K : PySem.W.Frag) (H : Hp) (us : List V) (t : Tab) : Prop where
  len : us.length = t.length
  get : ∀ (i : Nat) (u : V) (row : List Fr), us[i]? = some u → t[i]? = some row → RowT K H u row
theorem RowsT.tk {K : PySem.W.Frag} {H H' : Hp} {us : List V} {t : Tab} (h : RowsT K H us t) (s : Tk H H') : RowsT K H' us t := ⟨h.len, fun i u row a b => (h.get i u row a b).tk s⟩
theorem RowsT.nil {K : PySem.W.Frag} {H : Hp} : RowsT K H [] [] := ⟨rfl, fun k v x a => by simp at a⟩
theorem RowsT.snoc {K : PySem.W.Frag} {H : Hp} {vs : List V} {row : Tab} (h : RowsT K H vs row) {w : V} {x : List Fr} (f : RowT K H w x) : RowsT K H (vs ++ [w]) (row ++ [x]) := by
  have hl := h.len
  refine ⟨by rw [List.length_append, List.length_append, hl]; rfl, fun i v y a b => ?_⟩
  by_cases c : i < vs.length
  · rw [List.getElem?_append_left c] at a
    rw [List.getElem?_append_left (by omega)] at b
    exact h.get i v y a b
  · rw [List.getElem?_append_right (by omega)] at a
    rw [List.getElem?_append_right (by omega)] at b
    have e : i - vs.length = 0 := by
      have := (List.getElem?_eq_some_iff.mp a).1
      rw [List.length_singleton] at this
      omega
    rw [e] at a
    rw [← hl, e] at b
    cases a
    cases b
    exact f
def TabT (K : PySem.W.Frag) (H : Hp) (v : V) (t : Tab) : Prop := ∃ a us, v = .ref a ∧ tO H a = some (.tup us) ∧ RowsT K H us t
theorem TabT.tk {K : PySem.W.Frag} {H H' : Hp} {v : V} {t : Tab} (h : TabT K H v t) (s : Tk H H') : TabT K H' v t := by
  obtain ⟨b, vs, e, e2, f⟩ := h
  exact ⟨b, vs, e, s _ _ e2, f.tk s⟩
theorem ixN_nat {n i : Nat} (h : i < n) : ixN n (i : Nat) = some i := by
  unfold ixN
  rw [if_pos (by omega), if_pos (by omega), Int.toNat_natCast]
end KP

set_option Elab.async false
set_option linter.all false
set_option maxRecDepth 100000
set_option maxHeartbeats 4000000
/-! ### shares; the unit's rows -/
namespace KP
open PySem PySem.Spec PyProof.Rows L2 KX KT KJ KS FR
abbrev sShareBy : Stmt := top 38
abbrev sUnit : Stmt := top 39
abbrev lShare : Stmt := top 61
theorem th_ty {H : Hp} {v : V} {d : PyData} : Th (tO H) v d → Th H v d := Th.up
theorem same_put {H0 H : Hp} {p : Addr} {o : HO} (s : Same H0 H) (h : H0 p = none) : Same H0 (upd H p o) := fun b u e => by
  rw [upd_ne (ne_of_none e h)]
  exact s _ _ e
def spShareV : Sp := fun vs H Q _ => ∃ x y sh as u, vs = [x, y] ∧ Th (tO H) x (shD sh) ∧ GoodS u sh ∧ as.length = u ∧ Th (tO H) y (.tuple (as.map fD)) ∧ ∀ v, Th (tO H) v (fD (partF as sh)) → Q v H
/-- the mark of a share -/
def markV : Nat ⊕ Fr → V
  | .inl _ => .str "x"
  | .inr x => .int x.1
theorem share_parts {H : Hp} {x : V} {sh : Nat ⊕ Fr} (h : Th (tO H) x (shD sh)) : ∃ a y, x = .ref a ∧ tO H a = some (.tup [markV sh, y]) ∧ ∀ j, sh = .inl j → y = .int (j : Nat) := by
  cases sh with
  | inl j =>
    cases h with
    | tup' e h => cases h with
      | cons a1 h => cases h with
        | cons a2 h =>
          cases h
          cases a1
          cases a2
          exact ⟨_, _, rfl, tO_eq e, fun k z => by cases z; rfl⟩
  | inr x =>
    cases h with
    | tup' e h => cases h with
      | cons a1 h => cases h with
        | cons a2 h =>
          cases h
          cases a1
          cases a2
          exact ⟨_, _, rfl, tO_eq e, fun k z => by cases z⟩
theorem mark_scal (sh : Nat ⊕ Fr) : scal (markV sh) (.str "x") = true := by cases sh <;> rfl
theorem as_get {H : Hp} {ys : List V} {as : List Fr} {u j : Nat} (ta : ThAll (tO H) ys (as.map fD)) (hl : as.length = u) (hj : j < u) : ∃ v, ys[j]? = some v ∧ Th (tO H) v (fD (as.getD j (0, 1))) := by
  have ly : ys.length = as.length := by rw [all2 ta, List.length_map]
  have hy : j < ys.length := by omega
  obtain ⟨d, hd, td⟩ := all_get ta (List.getElem?_eq_getElem hy)
  refine ⟨_, List.getElem?_eq_getElem hy, ?_⟩
  rw [List.getElem?_map, List.getElem?_eq_getElem (show j < as.length by omega)] at hd
  cases hd
  rw [List.getD_eq_getElem?_getD, List.getElem?_eq_getElem (show j < as.length by omega)]
  exact td
section
variable {P : Program} {w : World} {K : PySem.W.Frag} {mg : Str → Option Value} {base : Heap}
theorem scShareBy : FnScope ["share", "assignment"] ["share", "assignment"] (defScope sShareBy) := ⟨rfl, rfl, rfl, by decide +kernel, rfl, by decide +kernel, by decide +kernel⟩
theorem vi_mark {σ : L2.St} {H : Hp} {i : Nat} {a : Addr} {m y : V} (h : σ[i]? = some (some (.ref a))) (e : tO H a = some (.tup [m, y])) : Vi (tOp (rIxT K) (tVar i) (tC (.int 0))) σ H m := vi_netix h e rfl
theorem ok_shareby {f : Addr} {fd : FuncData} (F : Fun K "_share_by" "_share_by" sShareBy f fd) : FnOk P w K mg base CX0 1 f fd ["share", "assignment"] spShareV := by
  refine F.ok scShareBy (fun vs H Q E h => ?_) (fun cdv A outer s H vs Q E hr h => ?_)
  · obtain ⟨x, y, sh, as, u, rfl, _⟩ := h
    rfl
  · obtain ⟨x, y, sh, as, u, rfl, th, gs, hl, ty, k⟩ := h
    refine ⟨_, pss_cons (ps_if (pt_cmpR op_eq (pe_ix ix_tup (pv 0) pe_int (fun _ _ => rfl)) pe_str (nomark _)) (pss_one (ps_ret (pe_ix ix_tup (pv 1) (pe_ix ix_tup (pv 0) pe_int (fun _ _ => rfl)) (fun _ _ => rfl)))) pss_nil) (pss_one (ps_ret (pv 0))), ?_⟩
    obtain ⟨a, y1, rfl, ea, hy1⟩ := share_parts th
    obtain ⟨b, ys, rfl, eb, ta⟩ := tup_parts ty
    refine i_when (D := { nx := _, rt := Q }) (ti_test (vi_op (vi_mark rfl ea) vi_c fun Q q => ⟨mark_scal sh, q⟩)) (fun c => ?_) (fun c => ?_)
    · cases sh with
      | inr x => simp [markV] at c
      | inl j =>
        obtain rfl := hy1 j rfl
        obtain ⟨v, hv, tv⟩ := as_get ta hl (show j < u from gs)
        exact i_ret (vi_op (r := rIxT K) (vi_var rfl) (vi_netix (K := K) (i := 0) (k := 1) rfl ea rfl) fun Q q => ⟨b, ys, _, v, rfl, rfl, SqT.of (tO_same H _ _ eb), atI_nat hv, q⟩) (k v tv)
    · cases sh with
      | inl j => simp [markV] at c
      | inr x => exact i_ret (vi_var rfl) (k _ th)
theorem scShareL : FnScope ["share", "assignment"] ["share", "assignment"] (defScope lShare) := ⟨rfl, rfl, rfl, by decide +kernel, rfl, by decide +kernel, by decide +kernel⟩
theorem ok_shareL {f : Addr} {fd : FuncData} (F : Fun K "_law_share" "_law_share" lShare f fd) : FnOk P w K mg base CX0 1 f fd ["share", "assignment"] spShareV := by
  refine F.ok scShareL (fun vs H Q E h => ?_) (fun cdv A outer s H vs Q E hr h => ?_)
  · obtain ⟨x, y, sh, as, u, rfl, _⟩ := h
    rfl
  · obtain ⟨x, y, sh, as, u, rfl, th, gs, hl, ty, k⟩ := h
    refine ⟨_, pss_one (ps_ret (pe_ifExp (pt_cmpR op_eq (pe_ix ix_tup (pv 0) pe_int (fun _ _ => rfl)) pe_str (nomark _)) (pe_ix ix_tup (pv 1) (pe_ix ix_tup (pv 0) pe_int (fun _ _ => rfl)) (fun _ _ => rfl)) (pv 0))), ?_⟩
    obtain ⟨a, y1, rfl, ea, hy1⟩ := share_parts th
    obtain ⟨b, ys, rfl, eb, ta⟩ := tup_parts ty
    have hc : Ti (tTest (tOp rEq (tOp (rIxT K) (tVar 0) (tC (.int 0))) (tC (.str "x")))) (L2.start ["share", "assignment"] [.ref a, .ref b]) H (decide (markV sh = .str "x")) := ti_test (vi_op (vi_mark rfl ea) vi_c fun Q q => ⟨mark_scal sh, q⟩)
    refine hc _ ?_
    cases sh with
    | inl j =>
      obtain rfl := hy1 j rfl
      obtain ⟨v, hv, tv⟩ := as_get ta hl (show j < u from gs)
      rw [if_pos (by simp [markV])]
      exact (vi_op (r := rIxT K) (vi_var rfl) (vi_netix (K := K) (i := 0) (k := 1) rfl ea rfl) fun Q q => ⟨b, ys, _, v, rfl, rfl, SqT.of (tO_same H _ _ eb), atI_nat hv, q⟩ : Vi _ _ _ _) _ (k v tv)
    | inr x =>
      rw [if_neg (by simp [markV])]
      exact ⟨_, rfl, k _ th⟩
end
end KP

set_option Elab.async false
set_option linter.all false
set_option maxRecDepth 100000
set_option maxHeartbeats 4000000
/-! ### comprehensions; the unit's rows -/
namespace KP
open PySem PySem.Spec PyProof.Rows L2 KX KT KJ KS FR
structure Cst (K : PySem.W.Frag) (mg : Str → Option Value) (aU aN : Addr) : Prop where
  mU : mg "UNIT" = some (.ref aU)
  mN : mg "NOUGHT" = some (.ref aN)
  cU : ∀ H, SqT K H aU [.int 1, .int 1]
  cN : ∀ H, SqT K H aN [.int 0, .int 1]
/-- a list of tuples of fractions -/
def RowsL (K : PySem.W.Frag) (H : Hp) (a : Addr) (t : Tab) : Prop := ∃ us, H a = some (.lst us) ∧ RowsT K H us t
def spUnit (K : PySem.W.Frag) : Sp := fun vs H Q _ => ∃ m : Nat, vs = [.int (m : Nat)] ∧ m ≤ 4 ∧ ∀ a H', H a = none → Same H H' → RowsL K H' a (tab0 m) → Q (.ref a) H'
theorem FrV.cst {K : PySem.W.Frag} {H : Hp} {a : Addr} {x : Fr} (h : ∀ H, SqT K H a [.int x.1, .int x.2]) : FrV K H (.ref a) x := ⟨a, rfl, h _⟩
def PvM (H1 : Hp) (D : Addr) (Rr : Hp → List V → Nat → Prop) (i : Nat) (H : Hp) : Prop := Same H1 H ∧ ∃ xs, H D = some (.lst xs) ∧ Rr H xs i
def Aft (H1 : Hp) (D : Addr) (Rr : Hp → List V → Nat → Prop) (k : Nat) : VK := fun y H4 => ∃ acc, H4 D = some (.lst acc) ∧ acc.length < sizeLine ∧ PvM H1 D Rr k (upd H4 D (.lst (acc ++ [y])))
theorem aft {H1 H4 : Hp} {D : Addr} {Rr : Hp → List V → Nat → Prop} {k : Nat} {xs : List V} {y : V} (hD : H1 D = none) (s : Same H1 H4) (e : H4 D = some (.lst xs)) (hl : xs.length < sizeLine) (r : Rr (upd H4 D (.lst (xs ++ [y]))) (xs ++ [y]) k) : Aft H1 D Rr k y H4 :=
  ⟨xs, e, hl, same_put s hD, _, upd_same, r⟩
/-- a comprehension with one name and no condition: the list by the turn -/
theorem lc_map {J : It} {n : Nat} {G : Hp → Prop} {Y : Nat → Hp → V → Hp → Prop} (wk : Walk J n G Y) {j : Nat} {te : TE} {vs : List Nat} {σ : L2.St} {H1 : Hp} {D : Addr} {Qd : Hp → Prop} (Rr : Hp → List V → Nat → Prop) (hD : H1 D = none) (hn : n ≤ 1000)
    (hlen : ∀ H xs i, Rr H xs i → xs.length = i) (r0 : Rr (upd H1 D (.lst [])) [] 0) (hG : ∀ H, Same H1 H → G H) (hw : ∀ x : V, wipe ((wipe σ vs).set j (some x)) vs = wipe σ vs)
    (hs : ∀ i x H H' xs, i < n → Same H1 H → H D = some (.lst xs) → xs.length < sizeLine → Rr H xs i → Y i H x H' → te ((wipe σ vs).set j (some x)) H' (Aft H1 D Rr (i + 1)))
    (hd : ∀ H xs, Same H1 H → H D = some (.lst xs) → Rr H xs n → Qd H) :
    ∃ W : Nat → Nat → Hp → Prop, (∃ m, W 0 m (upd H1 D (.lst []))) ∧ ∀ i m H, W i m H →
      (J.stop i H ∧ Qd H) ∨ (J.go i H ∧ ∃ Nx : Hp → Prop, (∀ H', Nx H' → ∃ m', m' < m ∧ W (i + 1) m' H') ∧ ∀ x H', J.yld i H x H' → gName j x (wipe σ vs) H' fun σ2 H2 => wipe σ2 vs = wipe σ vs ∧ tYes σ2 H2 fun b H3 =>
        if b = true then te σ2 H3 fun y H4 => ∃ acc, H4 D = some (.lst acc) ∧ acc.length < sizeLine ∧ Nx (upd H4 D (.lst (acc ++ [y]))) else Nx H3) := by
  refine lc_it wk (PvM H1 D Rr) ⟨same_put (Same.refl H1) hD, [], upd_same, r0⟩ (fun i H hi p => hG H p.1) ?_ ?_
  · rintro i x H H' hi ⟨s, xs, e, r⟩ y
    refine ⟨hw x, ?_⟩
    have l := hlen _ _ _ r
    exact hs i x H H' xs hi s e (Nat.lt_of_lt_of_le (show xs.length < 1001 by omega) (by decide)) r y
  · rintro H ⟨s, xs, e, r⟩
    exact hd H xs s e r
theorem row0_succ {m i k : Nat} : (List.range (k + 1)).map (fun k => if i = k then ((1, 1) : Fr) else (0, 1)) = (List.range k).map (fun k => if i = k then ((1, 1) : Fr) else (0, 1)) ++ [if i = k then (1, 1) else (0, 1)] := by
  rw [List.range_succ, List.map_append]
  rfl
theorem RowsT.len' {K : PySem.W.Frag} {H : Hp} {xs : List V} {f : Nat → List Fr} {i : Nat} (h : RowsT K H xs ((List.range i).map f)) : xs.length = i := by
  rw [h.len, List.length_map, List.length_range]
theorem FrL.len' {K : PySem.W.Frag} {H : Hp} {xs : List V} {f : Nat → Fr} {i : Nat} (h : FrL K H xs ((List.range i).map f)) : xs.length = i := by
  rw [h.len, List.length_map, List.length_range]
theorem pe_tupK {X : Cx} {K : PySem.W.Frag} {a : Expr} {ta : TE} {p pos : Pos} (hk : X.K = K) (hg : Gl X "tuple") (hm : X.mg "tuple" = none) (ha : PE X a ta) (na : starEach [a] X.env = (false, eval a X.env) :: starEach [] X.env := by rfl) :
    PE X (.Call (.Name "tuple" p) [a] [] pos) (tThen ta (kTup K)) := hk ▸ pe_tupleOf hg hm ha na
abbrev scRow : Scope := { kind := .function, names := [(".0", .local), ("row", .cell), ("tuple", .globalImplicit), ("range", .globalImplicit), ("many", .cell)], isGenerator := false, isCoroutine := false }
abbrev nUn : List Str := ["many", "row", "column"]
section
variable {P : Program} {w : World} {K : PySem.W.Frag} {mg : Str → Option Value} {base : Heap}
theorem scUnit : FnScope nUn ["many"] (defScope sUnit) := ⟨rfl, rfl, rfl, by decide +kernel, rfl, by decide +kernel, by decide +kernel⟩
theorem ok_unit {f aU aN : Addr} {fd : FuncData} (F : Fun K "_unit_rows" "_unit_rows" sUnit f fd) (T : TxD mg) (C : Cst K mg aU aN) : FnOk P w K mg base CX0 1 f fd ["many"] (spUnit K) := by
  refine F.ok scUnit (fun vs H Q E h => ?_) (fun cdv A outer s H vs Q E hr h => ?_)
  · obtain ⟨m, rfl, _⟩ := h
    rfl
  · obtain ⟨m, rfl, m4, k⟩ := h
    refine ⟨_, pss_one (ps_ret (pe_lc (own := [("row", 1)]) (g := gName 1) rfl scUnit.nd (pi_range1 rfl T.range (pa_cons (pv 0) pa_nil)) (blkOk_by (N := nUn) (sc := defScope sUnit) (by decide +kernel))
        (fun _ _ _ _ _ => pg_name (i := 1) scUnit.nd rfl (Or.inr rfl)) (fun _ _ _ _ _ => pts_nil)
        (fun _ _ _ _ _ => pe_tupK (K := K) rfl (by rfl) T.tuple (pe_lc (own := [("column", 2)]) (g := gName 2) rfl scUnit.nd (pi_range1 rfl T.range (pa_cons (pv 0) pa_nil)) (blkOk_by (N := nUn) (sc := scRow) (by decide +kernel))
          (fun _ _ _ _ _ => pg_name (i := 2) scUnit.nd rfl (Or.inl rfl)) (fun _ _ _ _ _ => pts_nil)
          (fun _ _ _ _ _ => pe_ifExp (pt_cmpR op_eq (pv 1) (pv 2) (nomark _)) (pe_glob (v := .ref aU) (by rfl) C.mU rfl) (pe_glob (v := .ref aN) (by rfl) C.mN rfl)))))), ?_⟩
    refine ⟨_, rfl, (m : Int), rfl, by omega, by omega, fun D hD => ?_⟩
    rw [show ((m : Nat) : Int).toNat = m from rfl]
    refine lc_map walk_range (fun H' xs i => RowsT K H' xs ((List.range i).map (row0 m))) hD (by omega) (fun _ _ _ r => r.len') RowsT.nil (fun _ _ => trivial) (fun _ => rfl) ?_ (fun H' xs s e r => k D H' hD s ⟨xs, e, r⟩)
    rintro i x _ H' xs hi s e hl r ⟨rfl, rfl⟩
    refine ⟨_, rfl, (m : Int), rfl, by omega, by omega, fun D2 hD2 => ?_⟩
    rw [show ((m : Nat) : Int).toNat = m from rfl]
    have nD : D ≠ D2 := fun z => by rw [← z, e] at hD2; cases hD2
    refine lc_map walk_range (fun H' xs k => FrL K H' xs ((List.range k).map fun k => if i = k then (1, 1) else (0, 1))) hD2 (by omega) (fun _ _ _ r => r.len') FrL.nil (fun _ _ => trivial) (fun _ => rfl) ?_ ?_
    · rintro c x _ H2 ys hc s2 e2 hl2 r2 ⟨rfl, rfl⟩
      refine ⟨_, rfl, _, rfl, rfl, _, rfl, iteB (fun z => ?_) (fun z => ?_)⟩
      · have ic : i = c := by have := V.int.inj (of_decide_eq_true z); omega
        refine aft hD2 s2 e2 hl2 ?_
        rw [row0_succ (m := m), if_pos ic]
        exact (r2.tk (Tk.put e2)).snoc (FrV.cst C.cU)
      · have ic : i ≠ c := fun w => by subst w; rw [decide_eq_true rfl] at z; cases z
        refine aft hD2 s2 e2 hl2 ?_
        rw [row0_succ (m := m), if_neg ic]
        exact (r2.tk (Tk.put e2)).snoc (FrV.cst C.cN)
    · rintro H2 ys s2 e2 r2
      refine .inl ⟨D2, ys, rfl, SqL.of e2, fun q hq => ?_⟩
      have sq := same_upd (o := .tup ys) hq
      have s3 := s2.trans sq
      refine aft hD (s.trans s3) (s3 _ _ e) hl ?_
      have tk : Tk (upd H2 q (.tup ys)) _ := Tk.put (ys := xs ++ [.ref q]) (s3 _ _ e)
      rw [List.range_succ, List.map_append]
      exact (r.tk ((Tk.same s3).trans tk)).snoc ⟨q, ys, rfl, tk _ _ (tO_of upd_same), r2.tk ((Tk.same sq).trans tk)⟩
end
end KP

set_option Elab.async false
set_option linter.all false
set_option maxRecDepth 100000
set_option maxHeartbeats 4000000
/-! ### tables: storing in them, freezing them -/
namespace KP
open PySem PySem.Spec PyProof.Rows L2 KX KT KJ KS FR
theorem none_same {H H' : Hp} {l : Addr} (s : Same H H') (h : H' l = none) : H l = none := by
  cases e : H l with
  | none => rfl
  | some u => rw [s _ _ e] at h; cases h
def enV : Option Nat → V
  | none => .non
  | some k => .int (k : Nat)
theorem pipe_parts {H : Hp} {x : V} {p : Pp} (h : Th (tO H) x (ppD p)) : ∃ b sv, x = .ref b ∧ tO H b = some (.tup [.int (p.s : Nat), enV p.e, sv]) ∧ Th (tO H) sv (shD p.sh) := by
  cases h with
  | tup' e h => cases h with
    | cons a1 h => cases h with
      | cons a2 h => cases h with
        | cons a3 h =>
          cases h
          cases a1
          obtain ⟨s, en, sh⟩ := p
          cases en with
          | none => cases a2; exact ⟨_, _, rfl, tO_eq e, a3⟩
          | some k => cases a2; exact ⟨_, _, rfl, tO_eq e, a3⟩
section
variable {K : PySem.W.Frag} {σ : L2.St} {H0 H : Hp} {T : Addr} {rs : List Addr} {t : Tab} {m i k : Nat}
theorem i_tabset {Ps : List Addr} {E : XK} {o2 io ko uo : Nat} {u : V} {y : Fr} {f : Fr → Fr → Fr} {D : Ends} (h : TabL K H0 H T rs t) (gr : Grown Ps H0 H) (sq : Sq m t) (hi : i < m) (hk : k < m) (h2 : σ[o2]? = some (some (.ref T))) (h3 : σ[io]? = some (some (.int (i : Nat)))) (h4 : σ[ko]? = some (some (.int (k : Nat))))
    (h6 : σ[uo]? = some (some u)) (fu : FrV K H u y) (z1 : Sz 4000 (gt t i k)) (z2 : Sz 4000 y) (nx : ∀ H', Grown Ps H0 H' → Tk H H' → TabL K H0 H' T rs (st t i k (f (gt t i k) y)) → D.nx σ H') :
    tAsg (tCall (spBin K f) [] E (tCons (tOp (rIxL K) (tOp (rIxL K) (tVar o2) (tVar io)) (tVar ko)) (tCons (tVar uo) tNil))) (gSub (tOp (rIxL K) (tVar o2) (tVar io)) (tVar ko) rSetL) D σ H := by
  obtain ⟨r, vs, v, e1, e2, e3, lv, n0, fv, put⟩ := tab_at h sq hi hk
  have e1' : (rs.map V.ref)[i]? = some (.ref r) := by rw [List.getElem?_map, e1]; rfl
  refine ⟨_, h2, _, h3, T, _, _, _, rfl, rfl, SqL.of h.top, atI_nat e1', _, h4, r, vs, _, v, rfl, rfl, SqL.of e2, atI_nat e3, _, h6, v, u, _, y, rfl, fv, fu, z1, z2, fun w H1 s1 fw => ?_⟩
  have h1 := h.same s1
  have e2' := s1 _ _ e2
  refine ⟨_, h2, _, h3, T, _, _, _, rfl, rfl, SqL.of h1.top, atI_nat e1', _, h4, r, vs, _, k, rfl, rfl, e2', ixN_nat (by omega), ?_⟩
  exact nx _ (grown_put (gr.trans (Grown.same s1 gr.tbs)) n0 e2') ((Tk.same s1).trans (Tk.put e2')) (put s1 fw)
theorem i_freeze {Q : VK} {o2 j : Nat} {vs : List Nat} (h : TabL K H0 H T rs t) (tl : t.length ≤ 4) (h2 : σ[o2]? = some (some (.ref T))) (hw : ∀ x : V, wipe ((wipe σ vs).set j (some x)) vs = wipe σ vs) (hj : ∀ x : V, ((wipe σ vs).set j (some x))[j]? = some (some x))
    (k : ∀ v H', Same H H' → TabT K H' v t → Q v H') : tThen (tLc (iList K (tVar o2)) (gName j) tYes (tThen (tVar j) (kTup K)) vs) (kTup K) σ H Q := by
  refine ⟨_, h2, T, rfl, ⟨_, SqL.of h.top⟩, fun D hD => ?_⟩
  have ll : (rs.map V.ref).length = t.length := by rw [List.length_map, h.len]
  refine lc_map walk_list (fun H' xs i => RowsT K H' xs (t.take i) ∧ i ≤ t.length) hD (by omega) (fun _ _ i r => by rw [r.1.len, List.length_take]; have := r.2; omega) ⟨by rw [List.take_zero]; exact RowsT.nil, Nat.zero_le _⟩ (fun H' s => SqL.of (s _ _ h.top)) hw ?_ ?_
  · rintro i x _ H' xs hi s e hl ⟨r, hle⟩ ⟨rfl, hx⟩
    rw [List.getElem?_map] at hx
    have hr : i < rs.length := by rw [List.length_map] at hi; exact hi
    have ht : i < t.length := by omega
    rw [List.getElem?_eq_getElem hr] at hx
    cases hx
    obtain ⟨vs', e2, f2⟩ := h.row i _ _ (List.getElem?_eq_getElem hr) (List.getElem?_eq_getElem ht)
    refine ⟨_, hj _, .inl ⟨_, vs', rfl, SqL.of (s _ _ e2), fun q hq => ?_⟩⟩
    have sq := same_upd (o := .tup vs') hq
    refine aft hD (s.trans sq) (sq _ _ e) hl ?_
    have tk : Tk (upd H' q (.tup vs')) _ := Tk.put (ys := xs ++ [.ref q]) (sq _ _ e)
    refine ⟨?_, ht⟩
    rw [List.take_add_one, List.getElem?_eq_getElem ht]
    exact (r.tk ((Tk.same sq).trans tk)).snoc ⟨q, vs', rfl, tk _ _ (tO_of upd_same), f2.tk ((Tk.same (s.trans sq)).trans tk)⟩
  · rintro H' xs s e ⟨r, _⟩
    rw [ll, List.take_length] at r
    refine .inl ⟨D, xs, rfl, SqL.of e, fun q hq => ?_⟩
    have sq := same_upd (o := .tup xs) hq
    exact k _ _ (s.trans sq) ⟨q, xs, rfl, tO_of upd_same, r.tk (Tk.same sq)⟩
end
end KP

set_option Elab.async false
set_option linter.all false
set_option maxRecDepth 100000
set_option maxHeartbeats 4000000
/-! ### table_of -/
namespace KP
open PySem PySem.Spec PyProof.Rows L2 KX KT KJ KS FR
abbrev sTable : Stmt := top 37
def spTable (K : PySem.W.Frag) (Ps : List Addr) : Sp := fun vs H Q _ => ∃ x y n as, vs = [x, y] ∧ GoodN n ∧ Th (tO H) x (NetM.d n) ∧ AsOk n as ∧ Th (tO H) y (.tuple (as.map fD)) ∧ Tbs Ps H ∧ ∀ v H', Grown Ps H H' → TabT K H' v (tabF n as) → Q v H'
abbrev nTb : List Str := ["net", "assignment", "table", "start", "end", "share", "size", "row"]
def rListOf (K : PySem.W.Frag) : List V → Hp → VK → Prop := fun xs H Q => ∃ p ys, xs = [.ref p] ∧ (SqL K H p ys ∨ SqT K H p ys) ∧ ∀ l, H l = none → Q (.ref l) (upd H l (.lst ys))
/-- the table after some pipes -/
def tabI (n : NetM) (as : List Fr) (i : Nat) : Tab := (n.ps.take i).foldl (stepF as) (tab0 n.m)
theorem tabI_zero (n : NetM) (as : List Fr) : tabI n as 0 = tab0 n.m := rfl
theorem tabI_all (n : NetM) (as : List Fr) : tabI n as n.ps.length = tabF n as := by unfold tabI; rw [List.take_length]; rfl
theorem tabI_succ {n : NetM} {as : List Fr} {i : Nat} {p : Pp} (h : n.ps[i]? = some p) : tabI n as (i + 1) = stepF as (tabI n as i) p := by
  unfold tabI
  rw [List.take_add_one, h, List.foldl_append]
  rfl
theorem tabI_sq (n : NetM) (as : List Fr) (i : Nat) : Sq n.m (tabI n as i) := by
  have h : ∀ (ps : List Pp) (t : Tab), Sq n.m t → Sq n.m (ps.foldl (stepF as) t) := by
    intro ps
    induction ps with
    | nil => exact fun t h => h
    | cons p ps ih => exact fun t h => ih _ (h.step as p)
  exact h _ _ (sq0 _)
theorem tabI_bd {n : NetM} {as : List Fr} (g : GoodN n) (ok : AsOk n as) : ∀ {i : Nat}, i ≤ n.ps.length → TBd (1 + 10 * i) (1 + 1998 * i) (tabI n as i)
  | 0, _ => tb0 _
  | i + 1, h => by
    have h2 : i < n.ps.length := by omega
    rw [tabI_succ (List.getElem?_eq_getElem h2)]
    have z := (tabI_bd g ok (i := i) (by omega)).step (tabI_sq n as i) (g.ps _ (List.getElem_mem h2)) ok.1 ok.2
    have e1 : 1 + 10 * (i + 1) = 1 + 10 * i + 10 := by omega
    have e2 : 1 + 1998 * (i + 1) = 1 + 1998 * i + 1998 := by omega
    rw [e1, e2]
    exact z
theorem TBd.sz {m a N : Nat} {t : Tab} (h : TBd a N t) (sq : Sq m t) {i k : Nat} (hi : i < m) (hk : k < m) (ha : a ≤ 300) (hN : N ≤ 30000) : Sz 4000 (gt t i k) := by
  obtain ⟨M, m0, m1, b⟩ := h.at sq hi hk
  exact (b.sz m0 m1 (b := 16) (Nat.lt_of_le_of_lt hN (by decide))).mono (by omega)
section
variable {P : Program} {w : World} {K : PySem.W.Frag} {mg : Str → Option Value} {base : Heap}
theorem scTb : FnScope nTb ["net", "assignment"] (defScope sTable) := ⟨rfl, rfl, rfl, by decide +kernel, rfl, by decide +kernel, by decide +kernel⟩
theorem ok_tableof {f fN fA fU fS fL fP : Addr} {fd fdN fdA fdU fdS fdL fdP : FuncData} {Ps : List Addr} (F : Fun K "table_of" "table_of" sTable f fd) (T : TxD mg)
    (FN : FnOk P w K mg base CX0 9 fN fdN ["net"] (spNeedNet Ps)) (mN : mg "need_net" = some (.ref fN)) (kN : PySem.W.keepIn K (.ref fN) = true) (bN : Binds K fdN ["net"] [])
    (FA : FnOk P w K mg base CX0 4 fA fdA ["net", "assignment"] spNeedAs) (mA : mg "need_assignment" = some (.ref fA)) (kA : PySem.W.keepIn K (.ref fA) = true) (bA : Binds K fdA ["net", "assignment"] [])
    (FU : FnOk P w K mg base CX0 1 fU fdU ["many"] (spUnit K)) (mU : mg "_unit_rows" = some (.ref fU)) (kU : PySem.W.keepIn K (.ref fU) = true) (bU : Binds K fdU ["many"] [])
    (FS : FnOk P w K mg base CX0 1 fS fdS ["share", "assignment"] spShareV) (mS : mg "_share_by" = some (.ref fS)) (kS : PySem.W.keepIn K (.ref fS) = true) (bS : Binds K fdS ["share", "assignment"] [])
    (FL : FnOk P w K mg base CX0 3 fL fdL ["one", "two"] (spBin K lesF)) (mL : mg "lessened" = some (.ref fL)) (kL : PySem.W.keepIn K (.ref fL) = true) (bL : Binds K fdL ["one", "two"] [])
    (FP : FnOk P w K mg base CX0 2 fP fdP ["one", "two"] (spBin K addF)) (mP : mg "added" = some (.ref fP)) (kP : PySem.W.keepIn K (.ref fP) = true) (bP : Binds K fdP ["one", "two"] []) :
    FnOk P w K mg base CX0 10 f fd ["net", "assignment"] (spTable K Ps) := by
  refine F.ok scTb (fun vs H Q E h => ?_) (fun cdv A outer s H vs Q E hr h => ?_)
  · obtain ⟨x, y, n, as, rfl, _⟩ := h
    rfl
  · obtain ⟨x, y, n, as, rfl, g, th, ok, ty, tb, k⟩ := h
    refine ⟨_, pss_cons (ps_expr (pe_call FN hr rfl mN kN bN .nil pass0 (pa_cons (pv 0) pa_nil)))
      (pss_cons (ps_expr (pe_call FA (hr.mono (by decide)) rfl mA kA bA .nil pass0 (pa_cons (pv 0) (pa_cons (pv 1) pa_nil))))
      (pss_cons (ps_setLc (i := 2) (own := [("row", 7)]) (g := gName 7) rfl scTb.nd rfl rfl (sw_true rfl rfl rfl (by decide +kernel)) (pi_list (pe_call FU (hr.mono (by decide)) rfl mU kU bU .nil pass0 (pa_cons (pe_ix ix_tup (pv 0) pe_int (fun _ _ => rfl)) pa_nil))) (blkOk_by (N := nTb) (sc := defScope sTable) (by decide +kernel))
          (fun _ _ _ _ _ => pg_name (i := 7) scTb.nd rfl (Or.inl rfl)) (fun _ _ _ _ _ => pts_nil)
          (fun _ _ _ _ _ => pe_callTy (r := rListOf K) (by exact call_list_of) (by rfl) T.list (by decide +kernel) (pa_cons (pv 7) pa_nil)))
      (pss_cons (ps_for PassesOwn.never rfl (pi_tup (pe_ix ix_tup (pv 0) pe_int (fun _ _ => rfl))) (pg_tup rfl (pgs_cons (pg_name (i := 3) scTb.nd rfl (Or.inl rfl)) (pgs_cons (pg_name (i := 4) scTb.nd rfl (Or.inl rfl)) (pgs_cons (pg_name (i := 5) scTb.nd rfl (Or.inl rfl)) pgs_nil))))
        (pss_cons (ps_set (i := 6) scTb.nd rfl (Or.inl rfl) (pe_call FS (hr.mono (by decide)) rfl mS kS bS .nil pass0 (pa_cons (pv 5) (pa_cons (pv 1) pa_nil))))
        (pss_cons (ps_asg (pe_call FL (hr.mono (by decide)) rfl mL kL bL .nil pass0 (pa_cons (pe_ix ix_list (pe_ix ix_list (pv 2) (pv 3) (fun _ _ => rfl)) (pv 3) (fun _ _ => rfl)) (pa_cons (pv 6) pa_nil))) (pg_sub (pe_ix ix_list (pv 2) (pv 3) (fun _ _ => rfl)) (pv 3) set_list))
        (pss_one (ps_if (pt_cmpR op_notN1 (pv 4) pe_non (nomark _)) (pss_one (ps_asg (pe_call FP (hr.mono (by decide)) rfl mP kP bP .nil pass0 (pa_cons (pe_ix ix_list (pe_ix ix_list (pv 2) (pv 4) (fun _ _ => rfl)) (pv 3) (fun _ _ => rfl)) (pa_cons (pv 6) pa_nil))) (pg_sub (pe_ix ix_list (pv 2) (pv 4) (fun _ _ => rfl)) (pv 3) set_list))) pss_nil)))))
      (pss_one (ps_ret (pe_tupleOf (by rfl) T.tuple (pe_lc (own := [("row", 7)]) (g := gName 7) rfl scTb.nd (pi_list (pv 2)) (blkOk_by (N := nTb) (sc := defScope sTable) (by decide +kernel))
          (fun _ _ _ _ _ => pg_name (i := 7) scTb.nd rfl (Or.inl rfl)) (fun _ _ _ _ _ => pts_nil) (fun _ _ _ _ _ => pe_tupK (K := K) rfl (by rfl) T.tuple (pv 7))))))))), ?_⟩
    refine ⟨_, rfl, _, n, rfl, g, th, tb, fun H1 gr1 => ?_⟩
    have th1 := th.tk (Tk.sm gr1.sm)
    have ty1 := ty.tk (Tk.sm gr1.sm)
    refine ⟨_, rfl, _, rfl, _, _, n, as, rfl, th1, ok, ty1, fun H2 s2 => ?_⟩
    have th2 := th1.tk (Tk.same s2)
    have ty2 := ty1.tk (Tk.same s2)
    have gr2 := gr1.trans (Grown.same s2 gr1.tbs)
    obtain ⟨a, ps, fs, ss, rfl, ea, tps, _, _⟩ := net_parts th2
    refine ⟨_, rfl, a, _, _, _, rfl, rfl, SqT.of (tO_same H2 _ _ ea), rfl, n.m, rfl, g.m4, fun ua H3 hua s3 hus => ?_⟩
    obtain ⟨us, eu, ru⟩ := hus
    refine ⟨ua, rfl, ⟨us, SqL.of eu⟩, fun D hD => ?_⟩
    have t0l : (tab0 n.m).length = n.m := (sq0 n.m).len
    have lu : us.length = n.m := by rw [ru.len, t0l]
    have m4 := g.m4
    refine lc_map (walk_list (K := K) (a := ua) (xs := us)) (fun H' xs i => ∃ rs : List Addr, xs = rs.map V.ref ∧ rs.Nodup ∧ D ∉ rs ∧ (∀ r ∈ rs, H2 r = none) ∧ rs.length = i ∧ ∀ (k : Nat) (r : Addr) (row : List Fr), rs[k]? = some r → (tab0 n.m)[k]? = some row → ∃ vs, H' r = some (.lst vs) ∧ FrL K H' vs row) hD (by omega)
      (fun _ xs i r => by obtain ⟨rs, rfl, _, _, _, l, _⟩ := r; rw [List.length_map]; exact l) ⟨[], rfl, List.nodup_nil, by simp, by simp, rfl, fun k r row e => by simp at e⟩ (fun H' s => SqL.of (s _ _ eu)) (fun _ => rfl) ?_ ?_
    · rintro i x _ H' xs hi s e hl ⟨rs, rfl, nd, nD, nw, lr, rows⟩ ⟨rfl, hx⟩
      have hi0 : i < (tab0 n.m).length := by omega
      obtain ⟨b, bs, rfl, eb, fb⟩ := ru.get i x _ hx (List.getElem?_eq_getElem hi0)
      refine ⟨_, rfl, b, bs, rfl, .inr (SqT.of (s.rd (tO_same H3 _ _ eb))), fun l hl' => ?_⟩
      have sl := same_upd (o := .lst bs) hl'
      have n1 : l ≠ D := fun z => by rw [z, e] at hl'; cases hl'
      have n2 : l ∉ rs := fun z => by
        obtain ⟨k', hk', rfl⟩ := List.getElem_of_mem z
        obtain ⟨vs', e', _⟩ := rows k' _ _ (List.getElem?_eq_getElem hk') (List.getElem?_eq_getElem (show k' < (tab0 n.m).length by omega))
        rw [e'] at hl'
        cases hl'
      have eD := sl _ _ e
      refine aft hD (s.trans sl) eD hl ⟨rs ++ [l], by rw [List.map_append]; rfl, ?_, ?_, fun r hr' => ?_, by rw [List.length_append, List.length_singleton, lr], fun k' r row a1 a2 => ?_⟩
      · rw [List.nodup_append]
        refine ⟨nd, by simp, fun p hp q hq => ?_⟩
        rw [List.mem_singleton.mp hq]
        exact fun z => n2 (z ▸ hp)
      · intro z
        rcases List.mem_append.mp z with z | z
        · exact nD z
        · exact n1 (List.mem_singleton.mp z).symm
      · rcases List.mem_append.mp hr' with z | z
        · exact nw r z
        · rw [List.mem_singleton.mp z]
          exact none_same (s3.trans s) hl'
      · have tkD := Tk.put (ys := rs.map V.ref ++ [.ref l]) eD
        by_cases c : k' < rs.length
        · rw [List.getElem?_append_left c] at a1
          obtain ⟨vs', e', f'⟩ := rows k' r row a1 a2
          have nr : r ≠ D := fun z => nD (z ▸ List.mem_of_getElem? a1)
          exact ⟨vs', by rw [upd_ne nr]; exact sl _ _ e', f'.tk ((Tk.same sl).trans tkD)⟩
        · rw [List.getElem?_append_right (by omega)] at a1
          have z : k' - rs.length = 0 := by
            have := (List.getElem?_eq_some_iff.mp a1).1
            rw [List.length_singleton] at this
            omega
          rw [z] at a1
          cases a1
          have z2 : k' = i := by omega
          subst z2
          rw [List.getElem?_eq_getElem hi0] at a2
          cases a2
          exact ⟨bs, by rw [upd_ne n1]; exact upd_same, fb.tk ((Tk.same (s.trans sl)).trans tkD)⟩
    · rintro H4 xs s e ⟨rs, rfl, nd, nD, nw, lr, rows⟩
      have s4 := s3.trans s
      have gr4 : Grown Ps H2 H4 := Grown.same s4 gr2.tbs
      have T4 : TabL K H2 H4 D rs (tab0 n.m) := ⟨e, nd, nD, nw, by rw [lr, lu, t0l], rows⟩
      obtain ⟨pa, pvs, rfl, ep, tpv⟩ := tup_parts tps
      have lp : pvs.length = n.ps.length := by rw [all2 tpv, List.length_map]
      have l12 := g.len
      refine ⟨_, rfl, a, _, _, _, rfl, rfl, SqT.of (s4.rd (tO_same H2 _ _ ea)), rfl, pa, rfl, ⟨pvs, SqT.of (s4.rd (tO_same H2 _ _ ep))⟩, ?_⟩
      refine for_it (walk_tup (K := K) (a := pa) (xs := pvs)) (fun i σ H' => (∃ o3 o4 o5 o6, σ = [some (.ref a), some y, some (.ref D), o3, o4, o5, o6, none]) ∧ Grown Ps H2 H' ∧ TabL K H2 H' D rs (tabI n as i)) ⟨⟨none, none, none, none, rfl⟩, gr4, T4⟩
        (fun i σ H' _ z => SqT.of (tO_same H' _ _ ((Tk.sm z.2.1.sm) _ _ ep))) ?_ ?_
      · rintro i v σ _ H' hi ⟨⟨o3, o4, o5, o6, rfl⟩, gr5, T5⟩ ⟨rfl, hv⟩
        have tk5 := Tk.sm gr5.sm
        obtain ⟨d, hd, td⟩ := all_get tpv hv
        have hip : i < n.ps.length := by omega
        have epi := List.getElem?_eq_getElem hip
        rw [List.getElem?_map, epi] at hd
        cases hd
        have gp := g.ps _ (List.getElem_mem hip)
        rw [tabI_succ epi]
        have bd := tabI_bd g ok (i := i) (by omega)
        have sq := tabI_sq n as i
        generalize n.ps[i] = p at td gp ⊢
        generalize tabI n as i = t at T5 bd sq ⊢
        obtain ⟨b, sv, rfl, eb, tsv⟩ := pipe_parts (td.tk tk5)
        refine ⟨b, _, rfl, SqT.of (tO_same H' _ _ eb), rfl, _, _, rfl, _, _, rfl, _, _, rfl, rfl, ?_⟩
        refine ⟨_, rfl, _, rfl, sv, y, p.sh, as, n.u, rfl, tsv, gp.sh, ok.1, ty2.tk tk5, fun v tv => ?_⟩
        have pt := part_told gp.sh ok.1 ok.2
        have fv : FrV K H' v (partF as p.sh) := frv_of tv
        refine i_tabset (o2 := 2) (io := 3) (ko := 3) (uo := 6) T5 gr5 sq gp.s gp.s rfl rfl rfl rfl fv (bd.sz sq gp.s gp.s (by omega) (by omega)) (told_sz pt) fun H6 gr6 tk6 T6 => ?_
        have T6 : TabL K H2 H6 D rs (step1 t p.s (partF as p.sh)) := T6
        have bd1 : TBd (1 + 10 * i + 10) (1 + 1998 * i + 999) (step1 t p.s (partF as p.sh)) := bd.put sq gp.s gp.s pt lesF Bd.les
        have sq1 : Sq n.m (step1 t p.s (partF as p.sh)) := sq.st _ _ _
        refine i_if (b := !decide (enV p.e = .non)) (ti_test (vi_op (vi_var rfl) vi_c fun Q q => ⟨rfl, q⟩)) (fun z => ?_) (fun z => ?_)
        · cases he : p.e with
          | none => rw [he] at z; cases z
          | some k' =>
            have hk := gp.e k' he
            refine i_tabset (o2 := 2) (io := 4) (ko := 3) (uo := 6) T6 gr6 sq1 hk.1 gp.s rfl rfl rfl rfl (fv.tk tk6) (bd1.sz sq1 hk.1 gp.s (by omega) (by omega)) (told_sz pt) fun H7 gr7 tk7 T7 => ?_
            refine ⟨⟨_, _, _, _, rfl⟩, gr7, ?_⟩
            unfold stepF
            rw [he]
            exact T7
        · cases he : p.e with
          | some k' => rw [he] at z; simp [enV] at z
          | none =>
            refine ⟨⟨_, _, _, _, rfl⟩, gr6, ?_⟩
            unfold stepF
            rw [he]
            exact T6
      · rintro σ H5 ⟨⟨o3, o4, o5, o6, rfl⟩, gr5, T5⟩
        rw [lp, tabI_all] at T5
        refine i_freeze (o2 := 2) (j := 7) T5 (by rw [(sqF n as).len]; exact m4) rfl (fun _ => rfl) (fun _ => rfl) fun v H6 s6 tv => k v H6 (gr2.trans (gr5.trans (Grown.same s6 gr5.tbs))) tv
end
end KP

set_option Elab.async false
set_option linter.all false
set_option maxRecDepth 100000
set_option maxHeartbeats 4000000
/-! ### the law's own table -/
namespace KP
open PySem PySem.Spec PyProof.Rows L2 KX KT KJ KS FR
abbrev lTable : Stmt := top 62
def spTableL (K : PySem.W.Frag) : Sp := fun vs H Q _ => ∃ x y n as, vs = [x, y] ∧ GoodN n ∧ Th (tO H) x (NetM.d n) ∧ AsOk n as ∧ Th (tO H) y (.tuple (as.map fD)) ∧ ∀ v H', Same H H' → TabT K H' v (tabF n as) → Q v H'
abbrev nTl : List Str := ["net", "assignment", "many", "rows", "start", "aim", "share", "part", "at", "to", "row"]
abbrev scAt : Scope := { kind := .function, names := [(".0", .local), ("at", .cell), ("range", .globalImplicit), ("many", .cell)], isGenerator := false, isCoroutine := false }
theorem i_tabsetS {K : PySem.W.Frag} {σ : L2.St} {H0 H : Hp} {T : Addr} {rs : List Addr} {t : Tab} {m i k : Nat} {E : XK} {o2 io ko uo : Nat} {u : V} {y : Fr} {f : Fr → Fr → Fr} {D : Ends} (h : TabL K H0 H T rs t) (gr : Same H0 H) (sq : Sq m t) (hi : i < m) (hk : k < m) (h2 : σ[o2]? = some (some (.ref T))) (h3 : σ[io]? = some (some (.int (i : Nat)))) (h4 : σ[ko]? = some (some (.int (k : Nat))))
    (h6 : σ[uo]? = some (some u)) (fu : FrV K H u y) (z1 : Sz 4000 (gt t i k)) (z2 : Sz 4000 y) (nx : ∀ H', Same H0 H' → Tk H H' → TabL K H0 H' T rs (st t i k (f (gt t i k) y)) → D.nx σ H') :
    tAsg (tCall (spBin K f) [] E (tCons (tOp (rIxL K) (tOp (rIxL K) (tVar o2) (tVar io)) (tVar ko)) (tCons (tVar uo) tNil))) (gSub (tOp (rIxL K) (tVar o2) (tVar io)) (tVar ko) rSetL) D σ H := by
  obtain ⟨r, vs, v, e1, e2, e3, lv, n0, fv, put⟩ := tab_at h sq hi hk
  have e1' : (rs.map V.ref)[i]? = some (.ref r) := by rw [List.getElem?_map, e1]; rfl
  refine ⟨_, h2, _, h3, T, _, _, _, rfl, rfl, SqL.of h.top, atI_nat e1', _, h4, r, vs, _, v, rfl, rfl, SqL.of e2, atI_nat e3, _, h6, v, u, _, y, rfl, fv, fu, z1, z2, fun w H1 s1 fw => ?_⟩
  have h1 := h.same s1
  have e2' := s1 _ _ e2
  refine ⟨_, h2, _, h3, T, _, _, _, rfl, rfl, SqL.of h1.top, atI_nat e1', _, h4, r, vs, _, k, rfl, rfl, e2', ixN_nat (by omega), ?_⟩
  exact nx _ (same_put (gr.trans s1) n0) ((Tk.same s1).trans (Tk.put e2')) (put s1 fw)
section
variable {P : Program} {w : World} {K : PySem.W.Frag} {mg : Str → Option Value} {base : Heap}
theorem scTl : FnScope nTl ["net", "assignment"] (defScope lTable) := ⟨rfl, rfl, rfl, by decide +kernel, rfl, by decide +kernel, by decide +kernel⟩
theorem ok_tableL {f fS fL fP : Addr} {fd fdS fdL fdP : FuncData} (F : Fun K "_law_table" "_law_table" lTable f fd) (T : TxD mg)
    (FS : FnOk P w K mg base CX0 1 fS fdS ["share", "assignment"] spShareV) (mS : mg "_law_share" = some (.ref fS)) (kS : PySem.W.keepIn K (.ref fS) = true) (bS : Binds K fdS ["share", "assignment"] [])
    (FL : FnOk P w K mg base CX0 2 fL fdL ["one", "two"] (spBin K lesF)) (mL : mg "_law_less" = some (.ref fL)) (kL : PySem.W.keepIn K (.ref fL) = true) (bL : Binds K fdL ["one", "two"] [])
    (FP : FnOk P w K mg base CX0 2 fP fdP ["one", "two"] (spBin K addF)) (mP : mg "_law_plus" = some (.ref fP)) (kP : PySem.W.keepIn K (.ref fP) = true) (bP : Binds K fdP ["one", "two"] []) :
    FnOk P w K mg base CX0 3 f fd ["net", "assignment"] (spTableL K) := by
  refine F.ok scTl (fun vs H Q E h => ?_) (fun cdv A outer s H vs Q E hr h => ?_)
  · obtain ⟨x, y, n, as, rfl, _⟩ := h
    rfl
  · obtain ⟨x, y, n, as, rfl, g, th2, ok, ty2, k⟩ := h
    refine ⟨_, pss_cons (ps_set (i := 2) scTl.nd rfl (Or.inr rfl) (pe_ix ix_tup (pv 0) pe_int (fun _ _ => rfl)))
      (pss_cons (ps_setLc (i := 3) (own := [("at", 8)]) (g := gName 8) rfl scTl.nd rfl rfl (sw_true rfl rfl rfl (by decide +kernel)) (pi_range1 rfl T.range (pa_cons (pv 2) pa_nil)) (blkOk_by (N := nTl) (sc := defScope lTable) (by decide +kernel))
          (fun _ _ _ _ _ => pg_name (i := 8) scTl.nd rfl (Or.inr rfl)) (fun _ _ _ _ _ => pts_nil)
          (fun _ _ _ _ _ => pe_lc (own := [("to", 9)]) (g := gName 9) rfl scTl.nd (pi_range1 rfl T.range (pa_cons (pv 2) pa_nil)) (blkOk_by (N := nTl) (sc := scAt) (by decide +kernel))
            (fun _ _ _ _ _ => pg_name (i := 9) scTl.nd rfl (Or.inl rfl)) (fun _ _ _ _ _ => pts_nil)
            (fun _ _ _ _ _ => pe_tup (pa_cons (pe_callTy call_int1 (by rfl) T.int (by decide +kernel) (pa_cons (pe_cmpR op_eq (pv 8) (pv 9) (nomark _)) pa_nil)) (pa_cons pe_int pa_nil)))))
      (pss_cons (ps_for PassesOwn.never rfl (pi_tup (pe_ix ix_tup (pv 0) pe_int (fun _ _ => rfl))) (pg_tup rfl (pgs_cons (pg_name (i := 4) scTl.nd rfl (Or.inl rfl)) (pgs_cons (pg_name (i := 5) scTl.nd rfl (Or.inl rfl)) (pgs_cons (pg_name (i := 6) scTl.nd rfl (Or.inl rfl)) pgs_nil))))
        (pss_cons (ps_set (i := 7) scTl.nd rfl (Or.inl rfl) (pe_call FS (hr.mono (by decide)) rfl mS kS bS .nil pass0 (pa_cons (pv 6) (pa_cons (pv 1) pa_nil))))
        (pss_cons (ps_asg (pe_call FL (hr.mono (by decide)) rfl mL kL bL .nil pass0 (pa_cons (pe_ix ix_list (pe_ix ix_list (pv 3) (pv 4) (fun _ _ => rfl)) (pv 4) (fun _ _ => rfl)) (pa_cons (pv 7) pa_nil))) (pg_sub (pe_ix ix_list (pv 3) (pv 4) (fun _ _ => rfl)) (pv 4) set_list))
        (pss_one (ps_if (pt_cmpR op_notN1 (pv 5) pe_non (nomark _)) (pss_one (ps_asg (pe_call FP (hr.mono (by decide)) rfl mP kP bP .nil pass0 (pa_cons (pe_ix ix_list (pe_ix ix_list (pv 3) (pv 5) (fun _ _ => rfl)) (pv 4) (fun _ _ => rfl)) (pa_cons (pv 7) pa_nil))) (pg_sub (pe_ix ix_list (pv 3) (pv 5) (fun _ _ => rfl)) (pv 4) set_list))) pss_nil)))))
      (pss_one (ps_ret (pe_tupleOf (by rfl) T.tuple (pe_lc (own := [("row", 10)]) (g := gName 10) rfl scTl.nd (pi_list (pv 3)) (blkOk_by (N := nTl) (sc := defScope lTable) (by decide +kernel))
          (fun _ _ _ _ _ => pg_name (i := 10) scTl.nd rfl (Or.inl rfl)) (fun _ _ _ _ _ => pts_nil) (fun _ _ _ _ _ => pe_tupK (K := K) rfl (by rfl) T.tuple (pv 10)))))))), ?_⟩
    obtain ⟨a, ps, fs, ss, rfl, ea, tps, _, _⟩ := net_parts th2
    have m4 := g.m4
    have t0l : (tab0 n.m).length = n.m := (sq0 n.m).len
    refine ⟨_, rfl, a, _, _, _, rfl, rfl, SqT.of (tO_same H _ _ ea), rfl, ?_⟩
    refine ⟨_, rfl, (n.m : Int), rfl, by omega, by omega, fun D hD => ?_⟩
    rw [show ((n.m : Nat) : Int).toNat = n.m from rfl]
    refine lc_map (walk_range (lo := 0) (n := n.m)) (fun H' xs i => ∃ rs : List Addr, xs = rs.map V.ref ∧ rs.Nodup ∧ D ∉ rs ∧ (∀ r ∈ rs, H r = none) ∧ rs.length = i ∧ ∀ (k : Nat) (r : Addr) (row : List Fr), rs[k]? = some r → (tab0 n.m)[k]? = some row → ∃ vs, H' r = some (.lst vs) ∧ FrL K H' vs row) hD (by omega)
      (fun _ xs i r => by obtain ⟨rs, rfl, _, _, _, l, _⟩ := r; rw [List.length_map]; exact l) ⟨[], rfl, List.nodup_nil, by simp, by simp, rfl, fun k r row e => by simp at e⟩ (fun _ _ => trivial) (fun _ => rfl) ?_ ?_
    · rintro i x _ H' xs hi s e hl ⟨rs, rfl, nd, nD, nw, lr, rows⟩ ⟨rfl, rfl⟩
      have hi0 : i < (tab0 n.m).length := by omega
      refine ⟨_, rfl, (n.m : Int), rfl, by omega, by omega, fun D2 hD2 => ?_⟩
      rw [show ((n.m : Nat) : Int).toNat = n.m from rfl]
      have n1 : D2 ≠ D := fun z => by rw [z, e] at hD2; cases hD2
      have n2 : D2 ∉ rs := fun z => by
        obtain ⟨k', hk', rfl⟩ := List.getElem_of_mem z
        obtain ⟨vs', e', _⟩ := rows k' _ _ (List.getElem?_eq_getElem hk') (List.getElem?_eq_getElem (show k' < (tab0 n.m).length by omega))
        rw [e'] at hD2
        cases hD2
      refine lc_map (walk_range (lo := 0) (n := n.m)) (fun H' xs k => FrL K H' xs ((List.range k).map fun k => if i = k then (1, 1) else (0, 1))) hD2 (by omega) (fun _ _ _ r => r.len') FrL.nil (fun _ _ => trivial) (fun _ => rfl) ?_ ?_
      · rintro c x _ H2 ys hc s2 e2 hl2 r2 ⟨rfl, rfl⟩
        refine ⟨_, rfl, _, rfl, rfl, .inr ⟨_, rfl, (by show 2 ≤ sizeLine; decide), fun q hq => ?_⟩⟩
        have sq := same_upd (o := .tup [V.int (if decide (V.int (0 + (i : Int)) = V.int (0 + (c : Int))) = true then 1 else 0), V.int 1]) hq
        refine aft hD2 (s2.trans sq) (sq _ _ e2) hl2 ?_
        rw [row0_succ (m := n.m)]
        have tk := Tk.put (ys := ys ++ [.ref q]) (sq _ _ e2)
        refine (r2.tk ((Tk.same sq).trans tk)).snoc ?_
        have fq : FrV K (upd H2 q (.tup [V.int (if decide (V.int (0 + (i : Int)) = V.int (0 + (c : Int))) = true then 1 else 0), V.int 1])) (.ref q) (if i = c then (1, 1) else (0, 1)) := by
          by_cases ic : i = c
          · subst ic
            rw [if_pos (decide_eq_true rfl), if_pos rfl]
            exact FrV.new (x := (1, 1))
          · rw [if_neg (fun z => ic (by have := V.int.inj (of_decide_eq_true z); omega)), if_neg ic]
            exact FrV.new (x := (0, 1))
        exact fq.tk tk
      · rintro H2 ys s2 e2 r2
        have eD := s2 _ _ e
        refine aft hD (s.trans s2) eD hl ⟨rs ++ [D2], by rw [List.map_append]; rfl, ?_, ?_, fun r hr' => ?_, by rw [List.length_append, List.length_singleton, lr], fun k' r row a1 a2 => ?_⟩
        · rw [List.nodup_append]
          refine ⟨nd, by simp, fun p hp q hq => ?_⟩
          rw [List.mem_singleton.mp hq]
          exact fun z => n2 (z ▸ hp)
        · intro z
          rcases List.mem_append.mp z with z | z
          · exact nD z
          · exact n1 (List.mem_singleton.mp z).symm
        · rcases List.mem_append.mp hr' with z | z
          · exact nw r z
          · rw [List.mem_singleton.mp z]
            exact none_same s hD2
        · have tkD := Tk.put (ys := rs.map V.ref ++ [.ref D2]) eD
          by_cases c : k' < rs.length
          · rw [List.getElem?_append_left c] at a1
            obtain ⟨vs', e', f'⟩ := rows k' r row a1 a2
            have nr : r ≠ D := fun z => nD (z ▸ List.mem_of_getElem? a1)
            exact ⟨vs', by rw [upd_ne nr]; exact s2 _ _ e', f'.tk ((Tk.same s2).trans tkD)⟩
          · rw [List.getElem?_append_right (by omega)] at a1
            have z : k' - rs.length = 0 := by
              have := (List.getElem?_eq_some_iff.mp a1).1
              rw [List.length_singleton] at this
              omega
            rw [z] at a1
            cases a1
            have z2 : k' = i := by omega
            subst z2
            unfold tab0 at a2
            rw [List.getElem?_map, List.getElem?_range (by omega)] at a2
            cases a2
            exact ⟨ys, by rw [upd_ne n1]; exact e2, r2.tk tkD⟩
    · rintro H4 xs s e ⟨rs, rfl, nd, nD, nw, lr, rows⟩
      have T4 : TabL K H H4 D rs (tab0 n.m) := ⟨e, nd, nD, nw, by rw [lr, t0l], rows⟩
      obtain ⟨pa, pvs, rfl, ep, tpv⟩ := tup_parts tps
      have lp : pvs.length = n.ps.length := by rw [all2 tpv, List.length_map]
      have l12 := g.len
      refine ⟨_, rfl, a, _, _, _, rfl, rfl, SqT.of (s.rd (tO_same H _ _ ea)), rfl, pa, rfl, ⟨pvs, SqT.of (s.rd (tO_same H _ _ ep))⟩, ?_⟩
      refine for_it (walk_tup (K := K) (a := pa) (xs := pvs)) (fun i σ H' => (∃ o4 o5 o6 o7, σ = [some (.ref a), some y, some (.int (n.m : Nat)), some (.ref D), o4, o5, o6, o7, none, none, none]) ∧ Same H H' ∧ TabL K H H' D rs (tabI n as i)) ⟨⟨none, none, none, none, rfl⟩, s, T4⟩
        (fun i σ H' _ z => SqT.of (tO_same H' _ _ ((Tk.same z.2.1) _ _ ep))) ?_ ?_
      · rintro i v σ _ H' hi ⟨⟨o4, o5, o6, o7, rfl⟩, gr5, T5⟩ ⟨rfl, hv⟩
        have tk5 := Tk.same gr5
        obtain ⟨d, hd, td⟩ := all_get tpv hv
        have hip : i < n.ps.length := by omega
        have epi := List.getElem?_eq_getElem hip
        rw [List.getElem?_map, epi] at hd
        cases hd
        have gp := g.ps _ (List.getElem_mem hip)
        rw [tabI_succ epi]
        have bd := tabI_bd g ok (i := i) (by omega)
        have sq := tabI_sq n as i
        generalize n.ps[i] = p at td gp ⊢
        generalize tabI n as i = t at T5 bd sq ⊢
        obtain ⟨b, sv, rfl, eb, tsv⟩ := pipe_parts (td.tk tk5)
        refine ⟨b, _, rfl, SqT.of (tO_same H' _ _ eb), rfl, _, _, rfl, _, _, rfl, _, _, rfl, rfl, ?_⟩
        refine ⟨_, rfl, _, rfl, sv, y, p.sh, as, n.u, rfl, tsv, gp.sh, ok.1, ty2.tk tk5, fun v tv => ?_⟩
        have pt := part_told gp.sh ok.1 ok.2
        have fv : FrV K H' v (partF as p.sh) := frv_of tv
        refine i_tabsetS (o2 := 3) (io := 4) (ko := 4) (uo := 7) T5 gr5 sq gp.s gp.s rfl rfl rfl rfl fv (bd.sz sq gp.s gp.s (by omega) (by omega)) (told_sz pt) fun H6 gr6 tk6 T6 => ?_
        have T6 : TabL K H H6 D rs (step1 t p.s (partF as p.sh)) := T6
        have bd1 : TBd (1 + 10 * i + 10) (1 + 1998 * i + 999) (step1 t p.s (partF as p.sh)) := bd.put sq gp.s gp.s pt lesF Bd.les
        have sq1 : Sq n.m (step1 t p.s (partF as p.sh)) := sq.st _ _ _
        refine i_if (b := !decide (enV p.e = .non)) (ti_test (vi_op (vi_var rfl) vi_c fun Q q => ⟨rfl, q⟩)) (fun z => ?_) (fun z => ?_)
        · cases he : p.e with
          | none => rw [he] at z; cases z
          | some k' =>
            have hk := gp.e k' he
            refine i_tabsetS (o2 := 3) (io := 5) (ko := 4) (uo := 7) T6 gr6 sq1 hk.1 gp.s rfl rfl rfl rfl (fv.tk tk6) (bd1.sz sq1 hk.1 gp.s (by omega) (by omega)) (told_sz pt) fun H7 gr7 tk7 T7 => ?_
            refine ⟨⟨_, _, _, _, rfl⟩, gr7, ?_⟩
            unfold stepF
            rw [he]
            exact T7
        · cases he : p.e with
          | some k' => rw [he] at z; simp [enV] at z
          | none =>
            refine ⟨⟨_, _, _, _, rfl⟩, gr6, ?_⟩
            unfold stepF
            rw [he]
            exact T6
      · rintro σ H5 ⟨⟨o4, o5, o6, o7, rfl⟩, gr5, T5⟩
        rw [lp, tabI_all] at T5
        refine i_freeze (o2 := 3) (j := 10) T5 (by rw [(sqF n as).len]; exact m4) rfl (fun _ => rfl) (fun _ => rfl) fun v H6 s6 tv => k v H6 (gr5.trans s6) tv
end
end KP

set_option Elab.async false
set_option linter.all false
set_option maxRecDepth 100000
set_option maxHeartbeats 4000000
/-! ### sums of products -/
namespace KP
open PySem PySem.Spec PyProof.Rows L2 KX KT KJ KS FR
abbrev sRowTimes : Stmt := top 20
abbrev lDot : Stmt := top 63
def dotS (s : Fr) (p : Fr × Fr) : Fr := addF s (mulF p.1 p.2)
def dotI (a b : List Fr) (i : Nat) : Fr := ((a.zip b).take i).foldl dotS (0, 1)
def dotF (a b : List Fr) : Fr := dotI a b a.length
/-- bounds of all entries of a row -/
def HB (a b : Nat) (h : List Fr) : Prop := ∃ M N, 0 < M ∧ M < 2 ^ a ∧ N < 2 ^ b ∧ ∀ x ∈ h, Bd M N x
theorem dotI_zero (a b : List Fr) : dotI a b 0 = (0, 1) := rfl
theorem dotI_succ {a b : List Fr} {i : Nat} {x y : Fr} (ha : a[i]? = some x) (hb : b[i]? = some y) : dotI a b (i + 1) = addF (dotI a b i) (mulF x y) := by
  unfold dotI
  have e : (a.zip b)[i]? = some (x, y) := by
    rw [List.getElem?_zip_eq_some]
    exact ⟨ha, hb⟩
  rw [List.take_add_one, e, List.foldl_append]
  rfl
theorem bd0 {M N : Nat} (hM : 0 < M) : Bd M N (0, 1) := ⟨by decide, ⟨M, by omega⟩, by simp⟩
theorem dotI_bd {a b : List Fr} {M N M' N' : Nat} (hM : 0 < M) (hM' : 0 < M') (ha : ∀ x ∈ a, Bd M N x) (hb : ∀ x ∈ b, Bd M' N' x) (hl : a.length = b.length) : ∀ {i : Nat}, i ≤ a.length → Bd (M * M') (i * (N * N')) (dotI a b i)
  | 0, _ => bd0 (Nat.mul_pos hM hM')
  | i + 1, h => by
    have e1 := List.getElem?_eq_getElem (show i < a.length by omega)
    have e2 := List.getElem?_eq_getElem (show i < b.length by omega)
    rw [dotI_succ e1 e2]
    have z := (dotI_bd hM hM' ha hb hl (i := i) (by omega)).add ((ha _ (List.mem_of_getElem? e1)).mul (hb _ (List.mem_of_getElem? e2)))
    rw [show (i + 1) * (N * N') = i * (N * N') + N * N' from Nat.succ_mul _ _]
    exact z
theorem pow_mul_lt {x y a b : Nat} (hx : x < 2 ^ a) (hy : y < 2 ^ b) : x * y < 2 ^ (a + b) := by
  rw [Nat.pow_add]
  exact Nat.mul_lt_mul'' hx hy
/-- all that is worked out on the way is small enough -/
theorem dot_sz {r h : List Fr} {a b a' b' : Nat} (hr : HB a b r) (hh : HB a' b' h) (hl : r.length = h.length) (l4 : r.length ≤ 4) (hz : a + b + a' + b' + 3 ≤ 4000) {i : Nat} (hi : i ≤ r.length) :
    Sz 4000 (dotI r h i) ∧ ∀ x y, r[i]? = some x → h[i]? = some y → Sz 4000 x ∧ Sz 4000 y ∧ Sz 4000 (mulF x y) := by
  obtain ⟨M, N, m0, m1, n1, b1⟩ := hr
  obtain ⟨M', N', m0', m1', n1', b1'⟩ := hh
  have hMM := Nat.mul_pos m0 m0'
  have hm := pow_mul_lt m1 m1'
  have hn := pow_mul_lt n1 n1'
  refine ⟨((dotI_bd m0 m0' b1 b1' hl hi).sz hMM hm (b := 3 + (b + b')) (pow_mul_lt (show i < 2 ^ 3 by omega) hn)).mono (by omega), fun x y hx hy => ?_⟩
  have bx := b1 _ (List.mem_of_getElem? hx)
  have bY := b1' _ (List.mem_of_getElem? hy)
  exact ⟨(bx.sz m0 m1 n1).mono (by omega), (bY.sz m0' m1' n1').mono (by omega), ((bx.mul bY).sz hMM hm hn).mono (by omega)⟩
def DotOk (r h : List Fr) : Prop := r.length = h.length ∧ r.length ≤ 4 ∧ ∃ a b a' b', HB a b r ∧ HB a' b' h ∧ a + b + a' + b' + 3 ≤ 4000
theorem RowT.parts {K : PySem.W.Frag} {H : Hp} {u : V} {row : List Fr} (h : RowT K H u row) : ∃ b vs, u = .ref b ∧ tO H b = some (.tup vs) ∧ FrL K H vs row := h
def spDot (K : PySem.W.Frag) : Sp := fun vs H Q _ => ∃ u v r h, vs = [u, v] ∧ RowT K H u r ∧ RowT K H v h ∧ DotOk r h ∧ ∀ w H', Same H H' → FrV K H' w (dotF r h) → Q w H'
def spDotL (K : PySem.W.Frag) : Sp := fun vs H Q _ => ∃ u c ys r h, vs = [u, .ref c] ∧ RowT K H u r ∧ H c = some (.lst ys) ∧ FrL K H ys h ∧ DotOk r h ∧ ∀ w H', Same H H' → FrV K H' w (dotF r h) → Q w H'
section
variable {P : Program} {w : World} {K : PySem.W.Frag} {mg : Str → Option Value} {base : Heap}
abbrev nRt : List Str := ["row", "other", "worth", "one", "two"]
theorem scRt : FnScope nRt ["row", "other"] (defScope sRowTimes) := ⟨rfl, rfl, rfl, by decide +kernel, rfl, by decide +kernel, by decide +kernel⟩
theorem ok_rowtimes {f fA fM aU aN : Addr} {fd fdA fdM : FuncData} (F : Fun K "row_times" "row_times" sRowTimes f fd) (T : TxD mg) (mZ : mg "zip" = none) (C : Cst K mg aU aN)
    (FA : FnOk P w K mg base CX0 2 fA fdA ["one", "two"] (spBin K addF)) (mA : mg "added" = some (.ref fA)) (kA : PySem.W.keepIn K (.ref fA) = true) (bA : Binds K fdA ["one", "two"] [])
    (FM : FnOk P w K mg base CX0 2 fM fdM ["one", "two"] (spBin K mulF)) (mM : mg "multiplied" = some (.ref fM)) (kM : PySem.W.keepIn K (.ref fM) = true) (bM : Binds K fdM ["one", "two"] []) :
    FnOk P w K mg base CX0 3 f fd ["row", "other"] (spDot K) := by
  refine F.ok scRt (fun vs H Q E h => ?_) (fun cdv A outer s H vs Q E hr h => ?_)
  · obtain ⟨u, v, r, h, rfl, _⟩ := h
    rfl
  · obtain ⟨u, v, r, h, rfl, hu, hv, ok, k⟩ := h
    refine ⟨_, pss_cons (ps_set (i := 2) scRt.nd rfl (Or.inl rfl) (pe_glob (v := .ref aN) (by rfl) C.mN rfl))
      (pss_cons (ps_for PassesOwn.never rfl (RZ.pi_zipA (by rfl) mZ (pa_cons (pv 0) (pa_cons (pv 1) pa_nil))) (pg_tup rfl (pgs_cons (pg_name (i := 3) scRt.nd rfl (Or.inl rfl)) (pgs_cons (pg_name (i := 4) scRt.nd rfl (Or.inl rfl)) pgs_nil)))
        (pss_one (ps_set (i := 2) scRt.nd rfl (Or.inl rfl) (pe_call FA hr rfl mA kA bA .nil pass0 (pa_cons (pv 2) (pa_cons (pe_call FM hr rfl mM kM bM .nil pass0 (pa_cons (pv 3) (pa_cons (pv 4) pa_nil))) pa_nil))))))
      (pss_one (ps_ret (pv 2)))), ?_⟩
    obtain ⟨a, xs, rfl, ea, fa⟩ := hu
    obtain ⟨b, ys, rfl, eb, fb⟩ := hv
    obtain ⟨hl, l4, a1, b1, a2, b2, hb1, hb2, hz⟩ := ok
    have lx := fa.len
    have ly := fb.len
    refine ⟨_, rfl, _, rfl, a, b, xs, ys, rfl, .inr ⟨SqT.of (tO_same H _ _ ea), SqT.of (tO_same H _ _ eb), ?_⟩⟩
    refine for_it (walk_zipT (K := K) (a := a) (b := b) (xs := xs) (ys := ys) (n := r.length) (by omega)) (fun i σ H' => (∃ w o3 o4, σ = [some (.ref a), some (.ref b), some w, o3, o4] ∧ FrV K H' w (dotI r h i)) ∧ Same H H') ⟨⟨_, _, _, rfl, FrV.cst C.cN⟩, Same.refl _⟩
      (fun i σ H' _ z => ⟨SqT.of (z.2.rd (tO_same H _ _ ea)), SqT.of (z.2.rd (tO_same H _ _ eb))⟩) ?_ ?_
    · rintro i v σ H' H'' hi ⟨⟨w, o3, o4, rfl, fw⟩, s1⟩ ⟨U, x1, y1, rfl, hU, rfl, hx1, hy1⟩
      have sU := same_upd (o := .tup [x1, y1]) hU
      have s2 : Same H _ := s1.trans sU
      have ex := List.getElem?_eq_getElem (show i < r.length by omega)
      have ey := List.getElem?_eq_getElem (show i < h.length by omega)
      have fx := (fa.get i _ _ hx1 ex).tk (Tk.same s2)
      have fy := (fb.get i _ _ hy1 ey).tk (Tk.same s2)
      obtain ⟨z0, z1⟩ := dot_sz hb1 hb2 hl l4 (by omega) (i := i) (by omega)
      obtain ⟨zx, zy, zm⟩ := z1 _ _ ex ey
      refine ⟨U, _, rfl, SqT.of upd_same, rfl, _, _, rfl, _, _, rfl, rfl, ?_⟩
      refine ⟨_, rfl, _, rfl, _, rfl, _, _, _, _, rfl, fx, fy, zx, zy, fun wm H3 s3 fm => ?_⟩
      refine ⟨_, _, _, _, rfl, fw.tk (Tk.same (sU.trans s3)), fm, z0, zm, fun wa H4 s4 fa' => ⟨⟨_, _, _, rfl, ?_⟩, s2.trans (s3.trans s4)⟩⟩
      rw [dotI_succ ex ey]
      exact fa'
    · rintro σ H' ⟨⟨w, o3, o4, rfl, fw⟩, s1⟩
      exact ⟨_, rfl, k w H' s1 fw⟩
abbrev nDt : List Str := ["one", "two", "found", "x", "y"]
theorem scDt : FnScope nDt ["one", "two"] (defScope lDot) := ⟨rfl, rfl, rfl, by decide +kernel, rfl, by decide +kernel, by decide +kernel⟩
theorem ok_dotL {f fA fM : Addr} {fd fdA fdM : FuncData} (F : Fun K "_law_dot" "_law_dot" lDot f fd) (T : TxD mg) (mZ : mg "zip" = none)
    (FA : FnOk P w K mg base CX0 2 fA fdA ["one", "two"] (spBin K addF)) (mA : mg "_law_plus" = some (.ref fA)) (kA : PySem.W.keepIn K (.ref fA) = true) (bA : Binds K fdA ["one", "two"] [])
    (FM : FnOk P w K mg base CX0 2 fM fdM ["one", "two"] (spBin K mulF)) (mM : mg "_law_by" = some (.ref fM)) (kM : PySem.W.keepIn K (.ref fM) = true) (bM : Binds K fdM ["one", "two"] []) :
    FnOk P w K mg base CX0 3 f fd ["one", "two"] (spDotL K) := by
  refine F.ok scDt (fun vs H Q E h => ?_) (fun cdv A outer s H vs Q E hr h => ?_)
  · obtain ⟨u, c, ys, r, h, rfl, _⟩ := h
    rfl
  · obtain ⟨u, b, ys, r, h, rfl, hu, eb, fb, ok, k⟩ := h
    refine ⟨_, pss_cons (ps_set (i := 2) scDt.nd rfl (Or.inl rfl) (pe_tup (pa_cons pe_int (pa_cons pe_int pa_nil))))
      (pss_cons (ps_for PassesOwn.never rfl (MZ.pi_zipM (by rfl) mZ (pa_cons (pv 0) (pa_cons (pv 1) pa_nil))) (pg_tup rfl (pgs_cons (pg_name (i := 3) scDt.nd rfl (Or.inl rfl)) (pgs_cons (pg_name (i := 4) scDt.nd rfl (Or.inl rfl)) pgs_nil)))
        (pss_one (ps_set (i := 2) scDt.nd rfl (Or.inl rfl) (pe_call FA hr rfl mA kA bA .nil pass0 (pa_cons (pv 2) (pa_cons (pe_call FM hr rfl mM kM bM .nil pass0 (pa_cons (pv 3) (pa_cons (pv 4) pa_nil))) pa_nil))))))
      (pss_one (ps_ret (pv 2)))), ?_⟩
    obtain ⟨a, xs, rfl, ea, fa⟩ := hu
    obtain ⟨hl, l4, a1, b1, a2, b2, hb1, hb2, hz⟩ := ok
    have lx := fa.len
    have ly := fb.len
    refine ⟨(by show 2 ≤ sizeLine; decide), fun p hp => ?_⟩
    have sp := same_upd (o := .tup [V.int 0, V.int 1]) hp
    refine ⟨_, rfl, _, rfl, a, b, xs, ys, rfl, SqT.of (sp.rd (tO_same H _ _ ea)), SqL.of (sp _ _ eb), ?_⟩
    refine for_it (MZ.walk_zipM (K := K) (a := a) (b := b) (xs := xs) (ys := ys) (n := r.length) (by omega)) (fun i σ H' => (∃ w o3 o4, σ = [some (.ref a), some (.ref b), some w, o3, o4] ∧ FrV K H' w (dotI r h i)) ∧ Same H H') ⟨⟨_, _, _, rfl, FrV.new (x := (0, 1))⟩, sp⟩
      (fun i σ H' _ z => ⟨SqT.of (z.2.rd (tO_same H _ _ ea)), SqL.of (z.2 _ _ eb)⟩) ?_ ?_
    · rintro i v σ H' H'' hi ⟨⟨w, o3, o4, rfl, fw⟩, s1⟩ ⟨U, x1, y1, rfl, hU, rfl, hx1, hy1⟩
      have sU := same_upd (o := .tup [x1, y1]) hU
      have s2 : Same H _ := s1.trans sU
      have ex := List.getElem?_eq_getElem (show i < r.length by omega)
      have ey := List.getElem?_eq_getElem (show i < h.length by omega)
      have fx := (fa.get i _ _ hx1 ex).tk (Tk.same s2)
      have fy := (fb.get i _ _ hy1 ey).tk (Tk.same s2)
      obtain ⟨z0, z1⟩ := dot_sz hb1 hb2 hl l4 (by omega) (i := i) (by omega)
      obtain ⟨zx, zy, zm⟩ := z1 _ _ ex ey
      refine ⟨U, _, rfl, SqT.of upd_same, rfl, _, _, rfl, _, _, rfl, rfl, ?_⟩
      refine ⟨_, rfl, _, rfl, _, rfl, _, _, _, _, rfl, fx, fy, zx, zy, fun wm H3 s3 fm => ?_⟩
      refine ⟨_, _, _, _, rfl, fw.tk (Tk.same (sU.trans s3)), fm, z0, zm, fun wa H4 s4 fa' => ⟨⟨_, _, _, rfl, ?_⟩, s2.trans (s3.trans s4)⟩⟩
      rw [dotI_succ ex ey]
      exact fa'
    · rintro σ H' ⟨⟨w, o3, o4, rfl, fw⟩, s1⟩
      exact ⟨_, rfl, k w H' s1 fw⟩
end
end KP

set_option Elab.async false
set_option linter.all false
set_option maxRecDepth 100000
set_option maxHeartbeats 4000000
/-! ### what tanks hold: the data -/
namespace KP
open PySem PySem.Spec PyProof.Rows L2 KX KT KJ KS FR
def HBN (a N : Nat) (h : List Fr) : Prop := ∃ M, 0 < M ∧ M < 2 ^ a ∧ ∀ x ∈ h, Bd M N x
theorem HBN.hb {a b N : Nat} {h : List Fr} (z : HBN a N h) (hN : N < 2 ^ b) : HB a b h := let ⟨M, m0, m1, b1⟩ := z; ⟨M, N, m0, m1, hN, b1⟩
theorem HBN.mono {a a' N N' : Nat} {h : List Fr} (z : HBN a N h) (ha : a ≤ a') (hN : N ≤ N') : HBN a' N' h := let ⟨M, m0, m1, b1⟩ := z; ⟨M, m0, Nat.lt_of_lt_of_le m1 (Nat.pow_le_pow_right (by decide) ha), fun x hx => (b1 x hx).mono (Nat.dvd_refl _) hN⟩
theorem HBN.sz {a b N : Nat} {h : List Fr} (z : HBN a N h) (hN : N < 2 ^ b) (hz : a + b ≤ 4000) {x : Fr} (hx : x ∈ h) : Sz 4000 x := let ⟨M, m0, m1, b1⟩ := z; ((b1 x hx).sz m0 m1 hN).mono hz
def sentF (t : Tab) (h : List Fr) : List Fr := t.map fun r => dotF r h
def fillS (h : List Fr) (p : Nat × Fr) : List Fr := h.set p.1 (addF (h.getD p.1 (0, 1)) p.2)
def fillI (fs : List Nat) (r : List Fr) (h : List Fr) (i : Nat) : List Fr := ((fs.zip r).take i).foldl fillS h
def fillF (fs : List Nat) (r : List Fr) (h : List Fr) : List Fr := fillI fs r h r.length
def seenF (ss : List Nat) (h : List Fr) : List Fr := ss.map fun i => h.getD i (0, 1)
def held0 (m : Nat) : List Fr := List.replicate m (0, 1)
def heldI (n : NetM) (as : List Fr) (fl : List (List Fr)) (k : Nat) : List Fr := (fl.take k).foldl (fun h r => fillF n.fs r (sentF (tabF n as) h)) (held0 n.m)
def seenAll (n : NetM) (as : List Fr) (fl : List (List Fr)) : Tab := (List.range (fl.length + 1)).map fun k => seenF n.ss (heldI n as fl k)
theorem fillI_succ {fs : List Nat} {r h : List Fr} {i j : Nat} {x : Fr} (ha : fs[i]? = some j) (hb : r[i]? = some x) : fillI fs r h (i + 1) = fillS (fillI fs r h i) (j, x) := by
  unfold fillI
  have e : (fs.zip r)[i]? = some (j, x) := by
    rw [List.getElem?_zip_eq_some]
    exact ⟨ha, hb⟩
  rw [List.take_add_one, e, List.foldl_append]
  rfl
theorem fillS_len (h : List Fr) (p : Nat × Fr) : (fillS h p).length = h.length := List.length_set
theorem fillI_len {fs : List Nat} {r h : List Fr} {i : Nat} : (fillI fs r h i).length = h.length := by
  have z : ∀ (ps : List (Nat × Fr)) (h : List Fr), (ps.foldl fillS h).length = h.length := by
    intro ps
    induction ps with
    | nil => exact fun _ => rfl
    | cons p ps ih => exact fun h => (ih _).trans (fillS_len h p)
  exact z _ _
theorem getD_mem {h : List Fr} {i : Nat} (hi : i < h.length) : h.getD i (0, 1) ∈ h := by
  have e : h.getD i (0, 1) = h[i] := by
    rw [List.getD_eq_getElem?_getD, List.getElem?_eq_getElem hi]
    rfl
  rw [e]
  exact List.getElem_mem _
theorem fillS_bd {a N : Nat} {h : List Fr} {j : Nat} {x : Fr} (z : HBN a N h) (hj : j < h.length) (hx : Told x) : HBN (a + 10) (N + 999) (fillS h (j, x)) := by
  obtain ⟨M, m0, m1, b1⟩ := z
  obtain ⟨p0, p1⟩ := told_pow hx
  refine ⟨M * x.2.natAbs, Nat.mul_pos m0 p0, pow_mul_lt m1 p1, fun y hy => ?_⟩
  have up : ∀ {y}, y ∈ h → Bd (M * x.2.natAbs) N y := fun hy => (b1 _ hy).mono (Nat.dvd_mul_right _ _) (Nat.le_refl _)
  rcases List.mem_or_eq_of_mem_set hy with hy | rfl
  · exact (up hy).mono (Nat.dvd_refl _) (by omega)
  · exact (up (getD_mem hj)).add ((told_bd hx).mono (Nat.dvd_mul_left _ _) (Nat.le_refl _))
theorem fillI_bd {a N : Nat} {fs : List Nat} {r h : List Fr} (z : HBN a N h) (hf : ∀ j ∈ fs, j < h.length) (hr : ToldS r) (hl : r.length = fs.length) : ∀ {i : Nat}, i ≤ r.length → HBN (a + 10 * i) (N + 999 * i) (fillI fs r h i)
  | 0, _ => z
  | i + 1, h' => by
    have e1 := List.getElem?_eq_getElem (show i < fs.length by omega)
    have e2 := List.getElem?_eq_getElem (show i < r.length by omega)
    rw [fillI_succ e1 e2]
    have z2 := fillS_bd (fillI_bd z hf hr hl (i := i) (by omega)) (j := fs[i]) (by rw [fillI_len]; exact hf _ (List.getElem_mem _)) (hr _ (List.getElem_mem (show i < r.length by omega)))
    exact z2.mono (by omega) (by omega)
theorem tab_hb {n : NetM} {as : List Fr} (g : GoodN n) (ok : AsOk n as) {row : List Fr} (h : row ∈ tabF n as) : HBN 121 23977 row := by
  have z := tabI_bd g ok (Nat.le_refl _)
  rw [tabI_all] at z
  obtain ⟨M, m0, m1, b1⟩ := z
  have l := g.len
  exact ⟨M, m0, Nat.lt_of_lt_of_le m1 (Nat.pow_le_pow_right (by decide) (by omega)), fun x hx => (b1 row h x hx).mono (Nat.dvd_refl _) (by omega)⟩
theorem tab_row {n : NetM} {as : List Fr} {row : List Fr} (h : row ∈ tabF n as) : row.length = n.m := by
  obtain ⟨i, hi, rfl⟩ := List.getElem_of_mem h
  have z := (sqF n as).row i (by rw [← (sqF n as).len]; exact hi)
  rw [List.getD_eq_getElem?_getD, List.getElem?_eq_getElem hi] at z
  exact z
theorem sentF_len (n : NetM) (as : List Fr) (h : List Fr) : (sentF (tabF n as) h).length = n.m := by
  unfold sentF
  rw [List.length_map]
  exact (sqF n as).len
theorem sent_bd {n : NetM} {as : List Fr} (g : GoodN n) (ok : AsOk n as) {a N : Nat} {h : List Fr} (z : HBN a N h) (hl : h.length = n.m) : HBN (121 + a) (4 * (23977 * N)) (sentF (tabF n as) h) := by
  have zt := tabI_bd g ok (Nat.le_refl _)
  rw [tabI_all] at zt
  obtain ⟨Mt, m0, m1, b1⟩ := zt
  obtain ⟨M, p0, p1, b2⟩ := z
  have l := g.len
  have m4 := g.m4
  have m1' : Mt < 2 ^ 121 := Nat.lt_of_lt_of_le m1 (Nat.pow_le_pow_right (by decide) (by omega))
  refine ⟨Mt * M, Nat.mul_pos m0 p0, pow_mul_lt m1' p1, fun x hx => ?_⟩
  obtain ⟨row, hrow, rfl⟩ := List.mem_map.mp hx
  have lr := tab_row hrow
  have zz := dotI_bd (N := 23977) (N' := N) m0 p0 (fun x hx => (b1 row hrow x hx).mono (Nat.dvd_refl _) (by omega)) b2 (by omega) (Nat.le_refl row.length)
  exact zz.mono (Nat.dvd_refl _) (Nat.mul_le_mul_right _ (by omega))
theorem sent_ok {n : NetM} {as : List Fr} (g : GoodN n) (ok : AsOk n as) {a N b : Nat} {h : List Fr} (z : HBN a N h) (hN : N < 2 ^ b) (hz : a + b + 300 ≤ 4000) (hl : h.length = n.m) : ∀ row ∈ tabF n as, DotOk row h := fun row hr => by
  have lr := tab_row hr
  have m4 := g.m4
  exact ⟨by omega, by omega, 121, 15, a, b, (tab_hb g ok hr).hb (by decide), z.hb hN, by omega⟩
theorem heldI_zero (n : NetM) (as : List Fr) (fl : List (List Fr)) : heldI n as fl 0 = held0 n.m := rfl
theorem heldI_succ {n : NetM} {as : List Fr} {fl : List (List Fr)} {k : Nat} {r : List Fr} (h : fl[k]? = some r) : heldI n as fl (k + 1) = fillF n.fs r (sentF (tabF n as) (heldI n as fl k)) := by
  unfold heldI
  rw [List.take_add_one, h, List.foldl_append]
  rfl
def FlOk (n : NetM) (fl : List (List Fr)) : Prop := fl.length ≤ 8 ∧ ∀ r ∈ fl, r.length = n.fs.length ∧ ToldS r
theorem held_ok {n : NetM} {as : List Fr} {fl : List (List Fr)} (g : GoodN n) (ok : AsOk n as) (hf : FlOk n fl) : ∀ {k : Nat}, k ≤ fl.length → HBN (1 + 161 * k) (2 ^ (18 * k)) (heldI n as fl k) ∧ (heldI n as fl k).length = n.m
  | 0, _ => ⟨⟨1, by decide, by decide, fun x hx => by
      rw [heldI_zero] at hx
      rw [(List.mem_replicate.mp hx).2]
      exact bd0 (by decide)⟩, by rw [heldI_zero]; exact List.length_replicate⟩
  | k + 1, h => by
    obtain ⟨z, hl⟩ := held_ok g ok hf (k := k) (by omega)
    have e := List.getElem?_eq_getElem (show k < fl.length by omega)
    rw [heldI_succ e]
    obtain ⟨lr, tr⟩ := hf.2 _ (List.getElem_mem (show k < fl.length by omega))
    have zs := sent_bd g ok z hl
    have ls := sentF_len n as (heldI n as fl k)
    have f4 : n.fs.length ≤ 4 := Nat.le_trans g.fs.len g.m4
    have zf := fillI_bd zs (fs := n.fs) (r := fl[k]) (fun j hj => by rw [ls]; exact g.fs.lt j hj) tr lr (Nat.le_refl _)
    refine ⟨zf.mono (by omega) ?_, by unfold fillF; rw [fillI_len, ls]⟩
    have p1 : 1 ≤ 2 ^ (18 * k) := Nat.one_le_two_pow
    have e18 : 2 ^ (18 * (k + 1)) = 2 ^ (18 * k) * 262144 := by rw [Nat.mul_succ, Nat.pow_add]
    rw [e18]
    generalize 2 ^ (18 * k) = X at p1 ⊢
    omega
end KP

set_option Elab.async false
set_option linter.all false
set_option maxRecDepth 100000
set_option maxHeartbeats 1000000
/-! ### what is worked out, as rational numbers -/
namespace KP
open PySem PySem.Spec PyProof.Rows L2 KX KT KJ KS FR
def LoL (h : List Fr) : Prop := ∀ x ∈ h, Lo x
def LoT (t : Tab) : Prop := ∀ r ∈ t, LoL r
def vl (h : List Fr) (i : Nat) : Rat := val (h.getD i (0, 1))
def At (t : Tab) (i j : Nat) : Rat := val (gt t i j)
theorem getD_in {α : Type} {h : List α} {i : Nat} (d : α) (hi : i < h.length) : h.getD i d = h[i] := by
  rw [List.getD_eq_getElem?_getD, List.getElem?_eq_getElem hi]
  rfl
theorem getD_out {α : Type} {h : List α} {i : Nat} (d : α) (hi : ¬ i < h.length) : h.getD i d = d := by
  rw [List.getD_eq_getElem?_getD, List.getElem?_eq_none (by omega)]
  rfl
theorem lo_getD {h : List Fr} (l : LoL h) (i : Nat) : Lo (h.getD i (0, 1)) := by
  by_cases c : i < h.length
  · rw [getD_in _ c]
    exact l _ (List.getElem_mem c)
  · rw [getD_out _ c]
    exact lo0
theorem lo_row {t : Tab} (l : LoT t) (i : Nat) : LoL (t.getD i []) := by
  by_cases c : i < t.length
  · rw [getD_in _ c]
    exact l _ (List.getElem_mem c)
  · rw [getD_out _ c]
    exact fun x h => by cases h
theorem lo_gt {t : Tab} (l : LoT t) (i k : Nat) : Lo (gt t i k) := lo_getD (lo_row l i) k
theorem lo_fold : ∀ (ps : List (Fr × Fr)) (s : Fr), Lo s → (∀ p ∈ ps, Lo p.1 ∧ Lo p.2) → Lo (ps.foldl dotS s)
  | [], _, h, _ => h
  | p :: ps, s, h, hp => lo_fold ps _ (lo_add h (lo_mul (hp p List.mem_cons_self).1 (hp p List.mem_cons_self).2)) fun q hq => hp q (List.mem_cons_of_mem _ hq)
theorem lo_dotI {a b : List Fr} (ha : LoL a) (hb : LoL b) (i : Nat) : Lo (dotI a b i) := by
  unfold dotI
  refine lo_fold _ _ lo0 fun p hp => ?_
  have hp := List.mem_of_mem_take hp
  exact ⟨ha _ (List.of_mem_zip hp).1, hb _ (List.of_mem_zip hp).2⟩
theorem val_dotI {a b : List Fr} (ha : LoL a) (hb : LoL b) (hl : a.length = b.length) : ∀ {i : Nat}, i ≤ a.length → val (dotI a b i) = sm i fun k => vl a k * vl b k
  | 0, _ => by rw [dotI_zero]; exact val0
  | i + 1, h => by
    have e1 := List.getElem?_eq_getElem (show i < a.length by omega)
    have e2 := List.getElem?_eq_getElem (show i < b.length by omega)
    have l1 := ha _ (List.getElem_mem (show i < a.length by omega))
    have l2 := hb _ (List.getElem_mem (show i < b.length by omega))
    rw [dotI_succ e1 e2, val_add (lo_dotI ha hb i).pos (lo_mul l1 l2).pos, val_mul l1.pos l2.pos, val_dotI ha hb hl (by omega)]
    show _ = sm i _ + vl a i * vl b i
    unfold vl
    rw [getD_in _ (show i < a.length by omega), getD_in _ (show i < b.length by omega)]
theorem lo_sent {t : Tab} {h : List Fr} (lt : LoT t) (lh : LoL h) : LoL (sentF t h) := fun x hx => by
  obtain ⟨r, hr, rfl⟩ := List.mem_map.mp hx
  exact lo_dotI (lt r hr) lh _
theorem sent_getD {t : Tab} {h : List Fr} {i : Nat} (hi : i < t.length) : (sentF t h).getD i (0, 1) = dotF (t.getD i []) h := by
  rw [getD_in _ hi, getD_in (h := sentF t h) _ (by unfold sentF; rw [List.length_map]; exact hi)]
  unfold sentF
  rw [List.getElem_map]
theorem vl_sent {m : Nat} {t : Tab} {h : List Fr} (sq : Sq m t) (lt : LoT t) (lh : LoL h) (hl : h.length = m) {i : Nat} (hi : i < m) : vl (sentF t h) i = sm m fun l => At t i l * vl h l := by
  unfold vl
  rw [sent_getD (by rw [sq.len]; exact hi)]
  have hr := sq.row i hi
  unfold dotF
  rw [val_dotI (lo_row lt i) lh (by rw [hr, hl]) (Nat.le_refl _), hr]
  rfl
/-- a column of the powers of a table -/
def colF (t : Tab) (m f : Nat) : Nat → List Fr
  | 0 => row0 m f
  | k + 1 => sentF t (colF t m f k)
theorem row0_len (m i : Nat) : (row0 m i).length = m := by simp [row0]
theorem colF_len {m : Nat} {t : Tab} (sq : Sq m t) (f : Nat) : ∀ k, (colF t m f k).length = m
  | 0 => row0_len m f
  | k + 1 => by
    show (sentF t _).length = m
    unfold sentF
    rw [List.length_map]
    exact sq.len
theorem lo_row0 (m i : Nat) : LoL (row0 m i) := fun x hx => by
  unfold row0 at hx
  obtain ⟨k, _, rfl⟩ := List.mem_map.mp hx
  split
  · exact lo1
  · exact lo0
theorem row0_at {m i k : Nat} (hk : k < m) : (row0 m i).getD k (0, 1) = if i = k then (1, 1) else (0, 1) := by
  rw [getD_in _ (by rw [row0_len]; exact hk)]
  simp [row0]
theorem vl_row0 {m i k : Nat} (hk : k < m) : vl (row0 m i) k = dlt k i := by
  unfold vl dlt
  rw [row0_at hk]
  by_cases c : i = k
  · rw [if_pos c, if_pos c.symm]
    exact val1
  · rw [if_neg c, if_neg (Ne.symm c)]
    exact val0
theorem lo_col {t : Tab} (lt : LoT t) (m f : Nat) : ∀ k, LoL (colF t m f k)
  | 0 => lo_row0 m f
  | k + 1 => lo_sent lt (lo_col lt m f k)
theorem vl_col {m : Nat} {t : Tab} (sq : Sq m t) (lt : LoT t) (f : Nat) : ∀ (k : Nat) {i : Nat}, i < m → vl (colF t m f k) i = pw (At t) m k i f
  | 0, i, hi => vl_row0 hi
  | k + 1, i, hi => by
    show vl (sentF t _) i = _
    rw [vl_sent sq lt (lo_col lt m f k) (colF_len sq f k) hi]
    exact sm_congr fun l hl => by rw [vl_col sq lt f k hl]
/-- a sum over walks -/
def walkF (t : Tab) (m : Nat) : Nat → Nat → Nat → Fr
  | 0, s, a => if s = a then (1, 1) else (0, 1)
  | k + 1, s, a => (List.range m).foldl (fun x l => addF x (mulF (gt t l s) (walkF t m k l a))) (0, 1)
def walkI (t : Tab) (m k s a i : Nat) : Fr := (List.range i).foldl (fun x l => addF x (mulF (gt t l s) (walkF t m k l a))) (0, 1)
theorem walkI_succ {t : Tab} {m k s a i : Nat} : walkI t m k s a (i + 1) = addF (walkI t m k s a i) (mulF (gt t i s) (walkF t m k i a)) := by
  unfold walkI
  rw [List.range_succ, List.foldl_append]
  rfl
theorem lo_walk {t : Tab} (lt : LoT t) (m : Nat) : ∀ (k s a : Nat), Lo (walkF t m k s a)
  | 0, s, a => by
    unfold walkF
    split
    · exact lo1
    · exact lo0
  | k + 1, s, a => by
    have h : ∀ i, Lo (walkI t m k s a i) := fun i => by
      induction i with
      | zero => exact lo0
      | succ i ih =>
        rw [walkI_succ]
        exact lo_add ih (lo_mul (lo_gt lt _ _) (lo_walk lt m k i a))
    exact h m
theorem lo_walkI {t : Tab} (lt : LoT t) (m k s a : Nat) : ∀ i, Lo (walkI t m k s a i)
  | 0 => lo0
  | i + 1 => by
    rw [walkI_succ]
    exact lo_add (lo_walkI lt m k s a i) (lo_mul (lo_gt lt _ _) (lo_walk lt m k i a))
theorem val_walk {m : Nat} {t : Tab} (sq : Sq m t) (lt : LoT t) : ∀ (k : Nat) {s a : Nat}, s < m → a < m → val (walkF t m k s a) = pw (At t) m k a s
  | 0, s, a, _, _ => by
    show val (if s = a then (1, 1) else (0, 1)) = dlt a s
    unfold dlt
    by_cases c : s = a
    · rw [if_pos c, if_pos c.symm]
      exact val1
    · rw [if_neg c, if_neg (Ne.symm c)]
      exact val0
  | k + 1, s, a, hs, ha => by
    have h : ∀ i, i ≤ m → val (walkI t m k s a i) = sm i fun l => pw (At t) m k a l * At t l s := fun i => by
      induction i with
      | zero => exact fun _ => val0
      | succ i ih =>
        intro hi
        rw [walkI_succ, val_add (lo_walkI lt m k s a i).pos (lo_mul (lo_gt lt _ _) (lo_walk lt m k i a)).pos, val_mul (lo_gt lt _ _).pos (lo_walk lt m k i a).pos, ih (by omega), val_walk sq lt k (show i < m by omega) ha]
        show _ + At t i s * _ = sm i _ + _
        grind
    rw [pw_right _ _ _ ha hs]
    exact h m (Nat.le_refl m)
theorem walk_col {m : Nat} {t : Tab} (sq : Sq m t) (lt : LoT t) {k s a : Nat} (hs : s < m) (ha : a < m) : walkF t m k s a = (colF t m s k).getD a (0, 1) :=
  val_inj (lo_walk lt m k s a) (lo_getD (lo_col lt m s k) a) ((val_walk sq lt k hs ha).trans (vl_col sq lt s k ha).symm)
/-- the looks of one power -/
def looksRow (n : NetM) (t : Tab) (k : Nat) : Tab := n.ss.map fun s => n.fs.map fun f => (colF t n.m f k).getD s (0, 1)
def looksF (n : NetM) (as : List Fr) (k : Nat) : List Tab := (List.range k).map fun p => looksRow n (tabF n as) p
def walkRow (n : NetM) (t : Tab) (k : Nat) : Tab := n.ss.map fun s => n.fs.map fun f => walkF t n.m k f s
theorem walk_row {n : NetM} {t : Tab} (sq : Sq n.m t) (lt : LoT t) (hf : ∀ f ∈ n.fs, f < n.m) (hs : ∀ s ∈ n.ss, s < n.m) (k : Nat) : walkRow n t k = looksRow n t k :=
  List.map_congr_left fun s z => List.map_congr_left fun f z' => walk_col sq lt (hf f z') (hs s z)
theorem lo_st {t : Tab} {i k : Nat} {x : Fr} (l : LoT t) (hx : Lo x) : LoT (st t i k x) := fun r hr y hy => by
  rcases mem_st hr hy with rfl | ⟨row, h1, h2⟩
  · exact hx
  · exact l row h1 y h2
theorem lo_step {as : List Fr} {t : Tab} {p : Pp} (l : LoT t) (hp : Lo (partF as p.sh)) : LoT (stepF as t p) := by
  have h1 : LoT (step1 t p.s (partF as p.sh)) := lo_st l (lo_les (lo_gt l _ _) hp)
  unfold stepF
  split
  · exact h1
  · exact lo_st h1 (lo_add (lo_gt h1 _ _) hp)
theorem lo_tab0 (m : Nat) : LoT (tab0 m) := fun r hr => by
  unfold tab0 at hr
  obtain ⟨i, _, rfl⟩ := List.mem_map.mp hr
  exact lo_row0 m i
theorem lo_fillS {h : List Fr} {j : Nat} {x : Fr} (l : LoL h) (hx : Lo x) : LoL (fillS h (j, x)) := fun y hy => by
  rcases List.mem_or_eq_of_mem_set hy with hy | rfl
  · exact l y hy
  · exact lo_add (lo_getD l j) hx
theorem lo_fillI {fs : List Nat} {r h : List Fr} (l : LoL h) (lr : LoL r) (hl : r.length = fs.length) : ∀ {i : Nat}, i ≤ r.length → LoL (fillI fs r h i)
  | 0, _ => l
  | i + 1, h' => by
    rw [fillI_succ (List.getElem?_eq_getElem (show i < fs.length by omega)) (List.getElem?_eq_getElem (show i < r.length by omega))]
    exact lo_fillS (lo_fillI l lr hl (by omega)) (lr _ (List.getElem_mem _))
theorem vl_set {h : List Fr} {j x : Nat} {y : Fr} (hj : j < h.length) : vl (h.set j y) x = if x = j then val y else vl h x := by
  unfold vl
  rw [List.getD_eq_getElem?_getD, List.getD_eq_getElem?_getD, List.getElem?_set]
  by_cases c : j = x
  · subst c
    rw [if_pos rfl, if_pos rfl, if_pos hj]
    rfl
  · rw [if_neg c, if_neg (Ne.symm c)]
theorem vl_fillI {fs : List Nat} {r h : List Fr} (l : LoL h) (lr : LoL r) (hl : r.length = fs.length) (hf : ∀ j ∈ fs, j < h.length) (x : Nat) : ∀ {i : Nat}, i ≤ r.length → vl (fillI fs r h i) x = vl h x + sm i fun j => dlt x (fs.getD j 0) * vl r j
  | 0, _ => by
    show vl h x = vl h x + 0
    grind
  | i + 1, h' => by
    have h1 : i < fs.length := by omega
    have h2 : i < r.length := by omega
    rw [fillI_succ (List.getElem?_eq_getElem h1) (List.getElem?_eq_getElem h2)]
    unfold fillS
    have li := lo_fillI l lr hl (i := i) (by omega)
    rw [vl_set (by rw [fillI_len]; exact hf _ (List.getElem_mem _)), val_add (lo_getD li _).pos (lr _ (List.getElem_mem h2)).pos]
    show _ = _ + (sm i _ + dlt x (fs.getD i 0) * vl r i)
    have ih := vl_fillI l lr hl hf x (i := i) (by omega)
    have e1 : fs.getD i 0 = fs[i] := getD_in _ h1
    have e2 : vl r i = val r[i] := by unfold vl; rw [getD_in _ h2]
    rw [e1, e2]
    unfold dlt
    by_cases c : x = fs[i]
    · rw [if_pos c, if_pos c]
      rw [← c]
      show vl (fillI fs r h i) x + _ = _
      rw [ih]
      unfold dlt
      grind
    · rw [if_neg c, if_neg c, ih]
      unfold dlt
      grind
theorem lo_told {x : Fr} (h : Told x) : Lo x := ⟨h.pos, h.g⟩
theorem lo_tab {n : NetM} {as : List Fr} (hp : ∀ p ∈ n.ps, Lo (partF as p.sh)) : LoT (tabF n as) := by
  have h : ∀ (ps : List Pp) (t : Tab), (∀ p ∈ ps, Lo (partF as p.sh)) → LoT t → LoT (ps.foldl (stepF as) t) := by
    intro ps
    induction ps with
    | nil => exact fun t _ l => l
    | cons p ps ih => exact fun t hp l => ih _ (fun q hq => hp q (List.mem_cons_of_mem _ hq)) (lo_step l (hp p List.mem_cons_self))
  exact h _ _ hp (lo_tab0 _)
theorem lo_held {n : NetM} {as : List Fr} {fl : List (List Fr)} (lt : LoT (tabF n as)) (hl : ∀ r ∈ fl, r.length = n.fs.length ∧ LoL r) : ∀ {k : Nat}, k ≤ fl.length → LoL (heldI n as fl k)
  | 0, _ => fun x hx => by
    rw [heldI_zero] at hx
    rw [(List.mem_replicate.mp hx).2]
    exact lo0
  | k + 1, h => by
    have e := List.getElem?_eq_getElem (show k < fl.length by omega)
    obtain ⟨l1, l2⟩ := hl _ (List.getElem_mem (show k < fl.length by omega))
    rw [heldI_succ e]
    exact lo_fillI (lo_sent lt (lo_held lt hl (by omega))) l2 l1 (Nat.le_refl _)
/-- what a tank holds, by all that was filled in -/
theorem vl_held {n : NetM} {as : List Fr} {fl : List (List Fr)} (lt : LoT (tabF n as)) (hl : ∀ r ∈ fl, r.length = n.fs.length ∧ LoL r) (hf : ∀ f ∈ n.fs, f < n.m) (hlen : ∀ k, k ≤ fl.length → (heldI n as fl k).length = n.m) : ∀ {k : Nat}, k ≤ fl.length → ∀ {x : Nat}, x < n.m →
    vl (heldI n as fl k) x = sm k fun b => sm n.fs.length fun j => pw (At (tabF n as)) n.m (k - 1 - b) x (n.fs.getD j 0) * vl (fl.getD b []) j
  | 0, _, x, hx => by
    rw [heldI_zero]
    unfold vl held0
    rw [getD_in _ (by rw [List.length_replicate]; exact hx), List.getElem_replicate]
    exact val0
  | k + 1, h, x, hx => by
    have hk : k < fl.length := by omega
    obtain ⟨l1, l2⟩ := hl _ (List.getElem_mem hk)
    have lh := lo_held lt hl (k := k) (by omega)
    have sq := sqF n as
    have ls : (sentF (tabF n as) (heldI n as fl k)).length = n.m := by unfold sentF; rw [List.length_map]; exact sq.len
    rw [heldI_succ (List.getElem?_eq_getElem hk)]
    unfold fillF
    rw [vl_fillI (lo_sent lt lh) l2 l1 (fun j hj => by rw [ls]; exact hf j hj) x (Nat.le_refl _), vl_sent sq lt lh (hlen k (by omega)) hx]
    show _ = sm k _ + sm n.fs.length fun j => pw (At (tabF n as)) n.m (k + 1 - 1 - k) x (n.fs.getD j 0) * vl (fl.getD k []) j
    rw [l1, getD_in _ hk, show k + 1 - 1 - k = 0 by omega]
    refine congrArg (· + _) ?_
    have e1 : (sm n.m fun l => At (tabF n as) x l * vl (heldI n as fl k) l) = sm n.m fun l => sm k fun b => At (tabF n as) x l * sm n.fs.length fun j => pw (At (tabF n as)) n.m (k - 1 - b) l (n.fs.getD j 0) * vl (fl.getD b []) j :=
      sm_congr fun l hl' => by rw [vl_held lt hl hf hlen (k := k) (by omega) hl', sm_mul]
    rw [e1, sm_swap]
    refine sm_congr fun b hb => ?_
    have e2 : (sm n.m fun l => At (tabF n as) x l * sm n.fs.length fun j => pw (At (tabF n as)) n.m (k - 1 - b) l (n.fs.getD j 0) * vl (fl.getD b []) j) = sm n.m fun l => sm n.fs.length fun j => At (tabF n as) x l * (pw (At (tabF n as)) n.m (k - 1 - b) l (n.fs.getD j 0) * vl (fl.getD b []) j) :=
      sm_congr fun l _ => by rw [sm_mul]
    rw [e2, sm_swap]
    refine sm_congr fun j _ => ?_
    rw [show k + 1 - 1 - b = (k - 1 - b) + 1 by omega]
    show _ = (sm n.m fun l => _) * _
    rw [← sm_mulr]
    exact sm_congr fun l _ => by grind
/-- what is seen last, by sums of looks -/
def sumP (c : List Tab) (fl : List (List Fr)) (a i : Nat) : Fr := (List.range i).foldl (fun p b => addF p (dotF ((c.getD (fl.length - 1 - b) []).getD a []) (fl.getD b []))) (0, 1)
def sumF (n : NetM) (c : List Tab) (fl : List (List Fr)) : List Fr := (List.range n.ss.length).map fun a => sumP c fl a fl.length
theorem sumP_succ {c : List Tab} {fl : List (List Fr)} {a i : Nat} : sumP c fl a (i + 1) = addF (sumP c fl a i) (dotF ((c.getD (fl.length - 1 - i) []).getD a []) (fl.getD i [])) := by
  unfold sumP
  rw [List.range_succ, List.foldl_append]
  rfl
theorem looks_row {n : NetM} {as : List Fr} {k p : Nat} (hp : p < k) : (looksF n as k).getD p [] = looksRow n (tabF n as) p := by
  unfold looksF
  rw [getD_in _ (by rw [List.length_map, List.length_range]; exact hp), List.getElem_map, List.getElem_range]
theorem looks_at {n : NetM} {as : List Fr} {k p a : Nat} (hp : p < k) (ha : a < n.ss.length) : ((looksF n as k).getD p []).getD a [] = n.fs.map fun f => (colF (tabF n as) n.m f p).getD n.ss[a] (0, 1) := by
  rw [looks_row hp]
  unfold looksRow
  rw [getD_in _ (by rw [List.length_map]; exact ha), List.getElem_map]
theorem lo_lookrow {n : NetM} {t : Tab} (lt : LoT t) (p s : Nat) : LoL (n.fs.map fun f => (colF t n.m f p).getD s (0, 1)) := fun x hx => by
  obtain ⟨f, _, rfl⟩ := List.mem_map.mp hx
  exact lo_getD (lo_col lt n.m f p) s
theorem vl_lookrow {n : NetM} {as : List Fr} (lt : LoT (tabF n as)) {p s j : Nat} (hs : s < n.m) (hj : j < n.fs.length) : vl (n.fs.map fun f => (colF (tabF n as) n.m f p).getD s (0, 1)) j = pw (At (tabF n as)) n.m p s (n.fs.getD j 0) := by
  rw [← vl_col (sqF n as) lt _ p hs]
  unfold vl
  rw [getD_in _ (by rw [List.length_map]; exact hj), List.getElem_map, getD_in _ hj]
theorem sumP_val {n : NetM} {as : List Fr} {fl : List (List Fr)} (lt : LoT (tabF n as)) (hl : ∀ r ∈ fl, r.length = n.fs.length ∧ LoL r) (hs : ∀ s ∈ n.ss, s < n.m) {a : Nat} (ha : a < n.ss.length) : ∀ {i : Nat}, i ≤ fl.length → Lo (sumP (looksF n as fl.length) fl a i) ∧
    val (sumP (looksF n as fl.length) fl a i) = sm i fun b => sm n.fs.length fun j => pw (At (tabF n as)) n.m (fl.length - 1 - b) n.ss[a] (n.fs.getD j 0) * vl (fl.getD b []) j
  | 0, _ => ⟨lo0, val0⟩
  | i + 1, h => by
    obtain ⟨l0, v0⟩ := sumP_val lt hl hs ha (i := i) (by omega)
    have hi : i < fl.length := by omega
    obtain ⟨l1, l2⟩ := hl _ (List.getElem_mem hi)
    have e0 : ((looksF n as fl.length).getD (fl.length - 1 - i) []).getD a [] = n.fs.map fun f => (colF (tabF n as) n.m f (fl.length - 1 - i)).getD n.ss[a] (0, 1) := looks_at (by omega) ha
    have lr := lo_lookrow (n := n) lt (fl.length - 1 - i) n.ss[a]
    have e3 : fl.getD i [] = fl[i] := getD_in _ hi
    rw [sumP_succ, e0, e3]
    have ld := lo_dotI lr l2 (n.fs.map fun f => (colF (tabF n as) n.m f (fl.length - 1 - i)).getD n.ss[a] (0, 1)).length
    refine ⟨lo_add l0 ld, ?_⟩
    unfold dotF
    rw [val_add l0.pos ld.pos, v0, val_dotI lr l2 (by rw [List.length_map, l1]) (Nat.le_refl _)]
    show _ = sm i _ + sm n.fs.length fun j => pw (At (tabF n as)) n.m (fl.length - 1 - i) n.ss[a] (n.fs.getD j 0) * vl (fl.getD i []) j
    rw [List.length_map, e3]
    refine congrArg (_ + ·) (sm_congr fun j hj => ?_)
    rw [vl_lookrow lt (hs _ (List.getElem_mem _)) hj]
theorem seen_sum {n : NetM} {as : List Fr} {fl : List (List Fr)} (lt : LoT (tabF n as)) (hl : ∀ r ∈ fl, r.length = n.fs.length ∧ LoL r) (hf : ∀ f ∈ n.fs, f < n.m) (hs : ∀ s ∈ n.ss, s < n.m) (hlen : ∀ k, k ≤ fl.length → (heldI n as fl k).length = n.m) :
    sumF n (looksF n as fl.length) fl = seenF n.ss (heldI n as fl fl.length) := by
  unfold sumF seenF
  refine List.ext_getElem (by rw [List.length_map, List.length_map, List.length_range]) fun a h1 h2 => ?_
  have ha : a < n.ss.length := by rw [List.length_map] at h2; exact h2
  rw [List.getElem_map, List.getElem_map, List.getElem_range]
  obtain ⟨l0, v0⟩ := sumP_val lt hl hs ha (Nat.le_refl fl.length)
  refine val_inj l0 (lo_getD (lo_held lt hl (Nat.le_refl _)) _) ?_
  rw [v0]
  exact (vl_held lt hl hf hlen (Nat.le_refl _) (hs _ (List.getElem_mem ha))).symm
end KP

set_option Elab.async false
set_option linter.all false
set_option maxRecDepth 100000
set_option maxHeartbeats 4000000
/-! ### sent, filled_up, seen_of; the law's sent -/
namespace KP
open PySem PySem.Spec PyProof.Rows L2 KX KT KJ KS FR
abbrev sSent : Stmt := top 40
abbrev sFilled : Stmt := top 41
abbrev sSeenOf : Stmt := top 42
abbrev lSent : Stmt := top 64
theorem frl_at {K : PySem.W.Frag} {H : Hp} {vs : List V} {h : List Fr} (f : FrL K H vs h) {j : Nat} (hj : j < h.length) : ∃ v, vs[j]? = some v ∧ FrV K H v (h.getD j (0, 1)) := by
  have hv : j < vs.length := by rw [f.len]; exact hj
  refine ⟨_, List.getElem?_eq_getElem hv, ?_⟩
  have e : h.getD j (0, 1) = h[j] := by
    rw [List.getD_eq_getElem?_getD, List.getElem?_eq_getElem hj]
    rfl
  rw [e]
  exact f.get j _ _ (List.getElem?_eq_getElem hv) (List.getElem?_eq_getElem hj)
theorem nats_at {H : Hp} {vs : List V} {ns : List Nat} {i : Nat} {v : V} (h : ThAll H vs (natsD ns)) (e : vs[i]? = some v) : ∃ j, ns[i]? = some j ∧ v = .int (j : Nat) := by
  obtain ⟨d, hd, td⟩ := all_get h e
  unfold natsD at hd
  rw [List.getElem?_map] at hd
  cases z : ns[i]? with
  | none => rw [z] at hd; cases hd
  | some j =>
    rw [z] at hd
    cases hd
    cases td
    exact ⟨j, rfl, rfl⟩
def spSent (K : PySem.W.Frag) : Sp := fun vs H Q _ => ∃ u v t h, vs = [u, v] ∧ TabT K H u t ∧ RowT K H v h ∧ t.length ≤ 4 ∧ (∀ row ∈ t, DotOk row h) ∧ ∀ w H', Same H H' → RowT K H' w (sentF t h) → Q w H'
def spSentL (K : PySem.W.Frag) : Sp := fun vs H Q _ => ∃ u c ys t h, vs = [u, .ref c] ∧ TabT K H u t ∧ H c = some (.lst ys) ∧ FrL K H ys h ∧ t.length ≤ 4 ∧ (∀ row ∈ t, DotOk row h) ∧ ∀ p zs H', Same H H' → H p = none → H' p = some (.lst zs) → FrL K H' zs (sentF t h) → Q (.ref p) H'
def spSeenOf (K : PySem.W.Frag) : Sp := fun vs H Q _ => ∃ x u n h, vs = [x, u] ∧ GoodN n ∧ Th (tO H) x (NetM.d n) ∧ RowT K H u h ∧ h.length = n.m ∧ ∀ w H', Same H H' → RowT K H' w (seenF n.ss h) → Q w H'
def spFilled (K : PySem.W.Frag) : Sp := fun vs H Q _ => ∃ x u z n h r a N, vs = [x, u, z] ∧ GoodN n ∧ Th (tO H) x (NetM.d n) ∧ RowT K H u h ∧ h.length = n.m ∧ Th (tO H) z (.tuple (r.map fD)) ∧ r.length = n.fs.length ∧ ToldS r ∧ HBN a N h ∧ a ≤ 2600 ∧ N < 2 ^ 180 ∧ ∀ w H', Same H H' → RowT K H' w (fillF n.fs r h) → Q w H'
section
variable {P : Program} {w : World} {K : PySem.W.Frag} {mg : Str → Option Value} {base : Heap}
theorem scSent : FnScope ["table", "held", "row"] ["table", "held"] (defScope sSent) := ⟨rfl, rfl, rfl, by decide +kernel, rfl, by decide +kernel, by decide +kernel⟩
theorem ok_sent {f fR : Addr} {fd fdR : FuncData} (F : Fun K "sent" "sent" sSent f fd) (T : TxD mg)
    (FR : FnOk P w K mg base CX0 3 fR fdR ["row", "other"] (spDot K)) (mR : mg "row_times" = some (.ref fR)) (kR : PySem.W.keepIn K (.ref fR) = true) (bR : Binds K fdR ["row", "other"] []) :
    FnOk P w K mg base CX0 4 f fd ["table", "held"] (spSent K) := by
  refine F.ok scSent (fun vs H Q E h => ?_) (fun cdv A outer s H vs Q E hr h => ?_)
  · obtain ⟨u, v, t, h, rfl, _⟩ := h
    rfl
  · obtain ⟨u, v, t, h, rfl, ht, hv, t4, ok, k⟩ := h
    refine ⟨_, pss_one (ps_ret (pe_tupleOf (by rfl) T.tuple (pe_lc (own := [("row", 2)]) (g := gName 2) rfl scSent.nd (pi_tup (pv 0)) (blkOk_by (N := ["table", "held", "row"]) (sc := defScope sSent) (by decide +kernel))
        (fun _ _ _ _ _ => pg_name (i := 2) scSent.nd rfl (Or.inl rfl)) (fun _ _ _ _ _ => pts_nil) (fun _ _ _ _ _ => pe_call FR hr (by rfl) mR kR bR .nil pass0 (pa_cons (pv 2) (pa_cons (pv 1) pa_nil)))))), ?_⟩
    obtain ⟨a, us, rfl, ea, ru⟩ := ht
    have lu := ru.len
    refine ⟨_, rfl, a, rfl, ⟨us, SqT.of (tO_same H _ _ ea)⟩, fun D hD => ?_⟩
    refine lc_map (walk_tup (K := K) (a := a) (xs := us)) (fun H' xs i => FrL K H' xs ((sentF t h).take i) ∧ i ≤ t.length) hD (by omega) (fun _ _ i r => by rw [r.1.len, List.length_take]; unfold sentF; rw [List.length_map]; have := r.2; omega) ⟨by rw [List.take_zero]; exact FrL.nil, Nat.zero_le _⟩
      (fun H' s => SqT.of (s.rd (tO_same H _ _ ea))) (fun _ => rfl) ?_ ?_
    · rintro i x _ H' xs hi s e hl ⟨r, hle⟩ ⟨rfl, hx⟩
      have ht : i < t.length := by omega
      have et := List.getElem?_eq_getElem ht
      have rx := (ru.get i x _ hx et).tk (Tk.same s)
      refine ⟨_, rfl, _, rfl, _, _, _, _, rfl, rx, hv.tk (Tk.same s), ok _ (List.getElem_mem ht), fun y H3 s3 fy => ?_⟩
      have e3 := s3 _ _ e
      refine aft hD (s.trans s3) e3 hl ⟨?_, ht⟩
      have tk := Tk.put (ys := xs ++ [y]) e3
      rw [List.take_add_one, show (sentF t h)[i]? = some (dotF t[i] h) by unfold sentF; rw [List.getElem?_map, et]; rfl]
      exact (r.tk ((Tk.same s3).trans tk)).snoc (fy.tk tk)
    · rintro H' xs s e ⟨r, _⟩
      rw [lu, List.take_of_length_le (by unfold sentF; rw [List.length_map]; omega)] at r
      refine .inl ⟨D, xs, rfl, SqL.of e, fun q hq => ?_⟩
      have sq := same_upd (o := .tup xs) hq
      exact k _ _ (s.trans sq) ⟨q, xs, rfl, tO_of upd_same, r.tk (Tk.same sq)⟩
theorem scSentL : FnScope ["table", "held", "row"] ["table", "held"] (defScope lSent) := ⟨rfl, rfl, rfl, by decide +kernel, rfl, by decide +kernel, by decide +kernel⟩
theorem ok_sentL {f fR : Addr} {fd fdR : FuncData} (F : Fun K "_law_sent" "_law_sent" lSent f fd) (T : TxD mg)
    (FR : FnOk P w K mg base CX0 3 fR fdR ["one", "two"] (spDotL K)) (mR : mg "_law_dot" = some (.ref fR)) (kR : PySem.W.keepIn K (.ref fR) = true) (bR : Binds K fdR ["one", "two"] []) :
    FnOk P w K mg base CX0 4 f fd ["table", "held"] (spSentL K) := by
  refine F.ok scSentL (fun vs H Q E h => ?_) (fun cdv A outer s H vs Q E hr h => ?_)
  · obtain ⟨u, c, ys, t, h, rfl, _⟩ := h
    rfl
  · obtain ⟨u, c, ys, t, h, rfl, ht, ec, fc, t4, ok, k⟩ := h
    refine ⟨_, pss_one (ps_ret (pe_lc (own := [("row", 2)]) (g := gName 2) rfl scSentL.nd (pi_tup (pv 0)) (blkOk_by (N := ["table", "held", "row"]) (sc := defScope lSent) (by decide +kernel))
        (fun _ _ _ _ _ => pg_name (i := 2) scSentL.nd rfl (Or.inl rfl)) (fun _ _ _ _ _ => pts_nil) (fun _ _ _ _ _ => pe_call FR hr (by rfl) mR kR bR .nil pass0 (pa_cons (pv 2) (pa_cons (pv 1) pa_nil))))), ?_⟩
    obtain ⟨a, us, rfl, ea, ru⟩ := ht
    have lu := ru.len
    refine ⟨_, rfl, a, rfl, ⟨us, SqT.of (tO_same H _ _ ea)⟩, fun D hD => ?_⟩
    refine lc_map (walk_tup (K := K) (a := a) (xs := us)) (fun H' xs i => FrL K H' xs ((sentF t h).take i) ∧ i ≤ t.length) hD (by omega) (fun _ _ i r => by rw [r.1.len, List.length_take]; unfold sentF; rw [List.length_map]; have := r.2; omega) ⟨by rw [List.take_zero]; exact FrL.nil, Nat.zero_le _⟩
      (fun H' s => SqT.of (s.rd (tO_same H _ _ ea))) (fun _ => rfl) ?_ ?_
    · rintro i x _ H' xs hi s e hl ⟨r, hle⟩ ⟨rfl, hx⟩
      have ht : i < t.length := by omega
      have et := List.getElem?_eq_getElem ht
      have rx := (ru.get i x _ hx et).tk (Tk.same s)
      refine ⟨_, rfl, _, rfl, _, c, ys, _, _, rfl, rx, s _ _ ec, fc.tk (Tk.same s), ok _ (List.getElem_mem ht), fun y H3 s3 fy => ?_⟩
      have e3 := s3 _ _ e
      refine aft hD (s.trans s3) e3 hl ⟨?_, ht⟩
      have tk := Tk.put (ys := xs ++ [y]) e3
      rw [List.take_add_one, show (sentF t h)[i]? = some (dotF t[i] h) by unfold sentF; rw [List.getElem?_map, et]; rfl]
      exact (r.tk ((Tk.same s3).trans tk)).snoc (fy.tk tk)
    · rintro H' xs s e ⟨r, _⟩
      rw [lu, List.take_of_length_le (by unfold sentF; rw [List.length_map]; omega)] at r
      exact k D xs H' s hD e r
theorem scSeenOf : FnScope ["net", "held", "tank"] ["net", "held"] (defScope sSeenOf) := ⟨rfl, rfl, rfl, by decide +kernel, rfl, by decide +kernel, by decide +kernel⟩
theorem ok_seenof {f : Addr} {fd : FuncData} (F : Fun K "seen_of" "seen_of" sSeenOf f fd) (T : TxD mg) : FnOk P w K mg base CX0 1 f fd ["net", "held"] (spSeenOf K) := by
  refine F.ok scSeenOf (fun vs H Q E h => ?_) (fun cdv A outer s H vs Q E hr h => ?_)
  · obtain ⟨x, u, n, h, rfl, _⟩ := h
    rfl
  · obtain ⟨x, u, n, h, rfl, g, th, hu, hl, k⟩ := h
    refine ⟨_, pss_one (ps_ret (pe_tupleOf (by rfl) T.tuple (pe_lc (own := [("tank", 2)]) (g := gName 2) rfl scSeenOf.nd (pi_tup (pe_ix ix_tup (pv 0) pe_int (fun _ _ => rfl))) (blkOk_by (N := ["net", "held", "tank"]) (sc := defScope sSeenOf) (by decide +kernel))
        (fun _ _ _ _ _ => pg_name (i := 2) scSeenOf.nd rfl (Or.inl rfl)) (fun _ _ _ _ _ => pts_nil) (fun _ _ _ _ _ => pe_ix (r := rIxT K) (by exact ix_tup) (pv 1) (pv 2) (fun _ _ => rfl))))), ?_⟩
    obtain ⟨a, ps, fs, ss, rfl, ea, _, _, tss⟩ := net_parts th
    obtain ⟨b, ys, rfl, eb, ta⟩ := tup_parts tss
    obtain ⟨c, hs, rfl, ec, fc⟩ := hu
    have ly : ys.length = n.ss.length := by rw [all2 ta, natsD, List.length_map]
    have s4 : n.ss.length ≤ 4 := Nat.le_trans g.ss.len g.m4
    refine ⟨_, rfl, a, _, _, _, rfl, rfl, SqT.of (tO_same H _ _ ea), rfl, b, rfl, ⟨ys, SqT.of (tO_same H _ _ eb)⟩, fun D hD => ?_⟩
    refine lc_map (walk_tup (K := K) (a := b) (xs := ys)) (fun H' xs i => FrL K H' xs ((seenF n.ss h).take i) ∧ i ≤ n.ss.length) hD (by omega) (fun _ _ i r => by rw [r.1.len, List.length_take]; unfold seenF; rw [List.length_map]; have := r.2; omega) ⟨by rw [List.take_zero]; exact FrL.nil, Nat.zero_le _⟩
      (fun H' s => SqT.of (s.rd (tO_same H _ _ eb))) (fun _ => rfl) ?_ ?_
    · rintro i x _ H' xs hi s e hl' ⟨r, hle⟩ ⟨rfl, hx⟩
      obtain ⟨j, ej, rfl⟩ := nats_at ta hx
      have hj := g.ss.lt j (List.mem_of_getElem? ej)
      obtain ⟨v, ev, fv⟩ := frl_at (fc.tk (Tk.same s)) (j := j) (by omega)
      refine ⟨_, rfl, _, rfl, c, hs, _, v, rfl, rfl, SqT.of (s.rd (tO_same H _ _ ec)), atI_nat ev, ?_⟩
      refine aft hD s e hl' ⟨?_, by omega⟩
      have tk := Tk.put (ys := xs ++ [v]) e
      rw [List.take_add_one, show (seenF n.ss h)[i]? = some (h.getD j (0, 1)) by unfold seenF; rw [List.getElem?_map, ej]; rfl]
      exact (r.tk tk).snoc (fv.tk tk)
    · rintro H' xs s e ⟨r, _⟩
      rw [ly, List.take_of_length_le (by unfold seenF; rw [List.length_map]; omega)] at r
      refine .inl ⟨D, xs, rfl, SqL.of e, fun q hq => ?_⟩
      have sq := same_upd (o := .tup xs) hq
      exact k _ _ (s.trans sq) ⟨q, xs, rfl, tO_of upd_same, r.tk (Tk.same sq)⟩
abbrev nFu : List Str := ["net", "held", "filling", "amounts", "tank", "amount"]
theorem scFu : FnScope nFu ["net", "held", "filling"] (defScope sFilled) := ⟨rfl, rfl, rfl, by decide +kernel, rfl, by decide +kernel, by decide +kernel⟩
theorem ok_filled {f fA : Addr} {fd fdA : FuncData} (F : Fun K "filled_up" "filled_up" sFilled f fd) (T : TxD mg) (mZ : mg "zip" = none)
    (FA : FnOk P w K mg base CX0 2 fA fdA ["one", "two"] (spBin K addF)) (mA : mg "added" = some (.ref fA)) (kA : PySem.W.keepIn K (.ref fA) = true) (bA : Binds K fdA ["one", "two"] []) :
    FnOk P w K mg base CX0 3 f fd ["net", "held", "filling"] (spFilled K) := by
  refine F.ok scFu (fun vs H Q E h => ?_) (fun cdv A outer s H vs Q E hr h => ?_)
  · obtain ⟨x, u, z, n, h, r, a, N, rfl, _⟩ := h
    rfl
  · obtain ⟨x, u, z, n, h, r, a0, N, rfl, g, th, hu, hl, tz, lr, tr, hb, ha, hN, k⟩ := h
    refine ⟨_, pss_cons (ps_set (i := 3) scFu.nd rfl (Or.inl rfl) (pe_callTy (r := rListOf K) (by exact call_list_of) (by rfl) T.list (by decide +kernel) (pa_cons (pv 1) pa_nil)))
      (pss_cons (ps_for PassesOwn.never rfl (RZ.pi_zipA (by rfl) mZ (pa_cons (pe_ix ix_tup (pv 0) pe_int (fun _ _ => rfl)) (pa_cons (pv 2) pa_nil))) (pg_tup rfl (pgs_cons (pg_name (i := 4) scFu.nd rfl (Or.inl rfl)) (pgs_cons (pg_name (i := 5) scFu.nd rfl (Or.inl rfl)) pgs_nil)))
        (pss_one (ps_asg (pe_call FA hr rfl mA kA bA .nil pass0 (pa_cons (pe_ix ix_list (pv 3) (pv 4) (fun _ _ => rfl)) (pa_cons (pv 5) pa_nil))) (pg_sub (pv 3) (pv 4) set_list))))
      (pss_one (ps_ret (pe_tupleOf (by rfl) T.tuple (pv 3))))), ?_⟩
    obtain ⟨a, ps, fs, ss, rfl, ea, _, tfs, _⟩ := net_parts th
    obtain ⟨b, fv, rfl, eb, tf⟩ := tup_parts tfs
    obtain ⟨c, hs, rfl, ec, fc⟩ := hu
    obtain ⟨d, zs, rfl, ed, tzs⟩ := tup_parts tz
    have lf : fv.length = n.fs.length := by rw [all2 tf, natsD, List.length_map]
    have lz : zs.length = r.length := by rw [all2 tzs, List.length_map]
    have f4 : n.fs.length ≤ 4 := Nat.le_trans g.fs.len g.m4
    refine ⟨_, rfl, c, hs, rfl, .inr (SqT.of (tO_same H _ _ ec)), fun l hl0 => ?_⟩
    have sl := same_upd (o := .lst hs) hl0
    refine ⟨_, rfl, a, _, _, _, rfl, rfl, SqT.of (sl.rd (tO_same H _ _ ea)), rfl, _, rfl, b, d, fv, zs, rfl, .inr ⟨SqT.of (sl.rd (tO_same H _ _ eb)), SqT.of (sl.rd (tO_same H _ _ ed)), ?_⟩⟩
    refine for_it (walk_zipT (K := K) (a := b) (b := d) (xs := fv) (ys := zs) (n := r.length) (by omega)) (fun i σ H' => (∃ o4 o5 xs, σ = [some (.ref a), some (.ref c), some (.ref d), some (.ref l), o4, o5] ∧ H' l = some (.lst xs) ∧ FrL K H' xs (fillI n.fs r h i)) ∧ Same H H') ⟨⟨none, none, hs, rfl, upd_same, fc.tk (Tk.same sl)⟩, sl⟩
      (fun i σ H' _ z => ⟨SqT.of (z.2.rd (tO_same H _ _ eb)), SqT.of (z.2.rd (tO_same H _ _ ed))⟩) ?_ ?_
    · rintro i v σ H' H'' hi ⟨⟨o4, o5, xs, rfl, el, fl⟩, s1⟩ ⟨U, x1, y1, rfl, hU, rfl, hx1, hy1⟩
      have sU := same_upd (o := .tup [x1, y1]) hU
      have s2 : Same H _ := s1.trans sU
      obtain ⟨j, ej, rfl⟩ := nats_at tf hx1
      have hj := g.fs.lt j (List.mem_of_getElem? ej)
      have er := List.getElem?_eq_getElem (show i < r.length by omega)
      obtain ⟨d', hd', td'⟩ := all_get tzs hy1
      rw [List.getElem?_map, er] at hd'
      cases hd'
      have fy : FrV K _ y1 (r[i]'(by omega)) := (frv_of td').tk (Tk.same s2)
      have li : (fillI n.fs r h i).length = n.m := by rw [fillI_len, hl]
      obtain ⟨v0, ev, fv0⟩ := frl_at (fl.tk (Tk.same sU)) (j := j) (by omega)
      have lxs : xs.length = n.m := by rw [fl.len, li]
      have bd := fillI_bd hb (fs := n.fs) (r := r) (fun j hj => by rw [hl]; exact g.fs.lt j hj) tr lr (i := i) (by omega)
      refine ⟨U, _, rfl, SqT.of upd_same, rfl, _, _, rfl, _, _, rfl, rfl, ?_⟩
      refine ⟨_, rfl, _, rfl, l, xs, _, v0, rfl, rfl, SqL.of (sU _ _ el), atI_nat ev, _, rfl, _, _, _, _, rfl, fv0, fy, bd.sz (b := 181) (by omega) (by omega) (getD_mem (by omega)), told_sz (tr _ (List.getElem_mem _)), fun wv H3 s3 fw => ?_⟩
      have el3 := (sU.trans s3) _ _ el
      refine ⟨_, rfl, _, rfl, l, xs, _, j, rfl, rfl, el3, ixN_nat (by omega), ⟨_, _, _, rfl, upd_same, ?_⟩, same_put (s2.trans s3) hl0⟩
      rw [fillI_succ ej er]
      have tk := Tk.put (ys := xs.set j wv) el3
      exact ((fl.tk ((Tk.same (sU.trans s3)).trans tk)).set j (fw.tk tk))
    · rintro σ H' ⟨⟨o4, o5, xs, rfl, el, fl⟩, s1⟩
      refine ⟨_, rfl, .inl ⟨l, xs, rfl, SqL.of el, fun q hq => ?_⟩⟩
      have sq := same_upd (o := .tup xs) hq
      exact k _ _ (s1.trans sq) ⟨q, xs, rfl, tO_of upd_same, fl.tk (Tk.same sq)⟩
end
end KP

set_option Elab.async false
set_option linter.all false
set_option maxRecDepth 100000
set_option maxHeartbeats 4000000
/-! ### seen_in -/
namespace KP
open PySem PySem.Spec PyProof.Rows L2 KX KT KJ KS FR
abbrev sSeenIn : Stmt := top 43
def spRuns (K : PySem.W.Frag) (Ps : List Addr) : Sp := fun vs H Q _ => ∃ x y z n as fl, vs = [x, y, z] ∧ GoodN n ∧ Th (tO H) x (NetM.d n) ∧ AsOk n as ∧ Th (tO H) y (.tuple (as.map fD)) ∧ FlOk n fl ∧ Th (tO H) z (flD fl) ∧ Tbs Ps H ∧ ∀ v H', Grown Ps H H' → TabT K H' v (seenAll n as fl) → Q v H'
abbrev nSi : List Str := ["net", "assignment", "fillings", "table", "held", "rows", "filling"]
theorem rep_vec {K : PySem.W.Frag} {H : Hp} {p aN : Addr} {m : Nat} {Q : VK} (cN : ∀ H, SqT K H aN [.int 0, .int 1]) (m1 : 1 ≤ m) (m4 : m ≤ 4) (e : H p = some (.tup [.ref aN])) (k : ∀ v H', Same H H' → RowT K H' v (held0 m) → Q v H') : MZ.rRepA K (.ref p) (.int (m : Nat)) H Q := by
  have fr : ∀ (H : Hp) (j : Nat), FrL K H (List.replicate j (V.ref aN)) (held0 j) := by
    intro H j
    induction j with
    | zero => exact FrL.nil
    | succ j ih =>
      have e1 : List.replicate (j + 1) (V.ref aN) = List.replicate j (V.ref aN) ++ [V.ref aN] := List.replicate_succ'
      have e2 : held0 (j + 1) = held0 j ++ [(0, 1)] := List.replicate_succ'
      rw [e1, e2]
      exact ih.snoc (FrV.cst cN)
  refine ⟨p, (m : Int), _, rfl, rfl, SqT.of e, by simp, by omega, by omega, by simp, fun z => ?_, fun z q hq => ?_⟩
  · have m1 : m = 1 := by omega
    subst m1
    exact k _ H (Same.refl H) ⟨p, _, rfl, tO_of e, fr H 1⟩
  · have e3 : (List.replicate ((m : Int)).toNat [V.ref aN]).flatten = List.replicate m (V.ref aN) := by
      rw [Int.toNat_natCast]
      exact List.flatten_replicate_singleton
    rw [e3]
    exact k _ _ (same_upd hq) ⟨q, _, rfl, tO_of upd_same, fr _ m⟩
/-- what is seen, after some beats -/
def seenI (n : NetM) (as : List Fr) (fl : List (List Fr)) (i : Nat) : Tab := (List.range i).map fun k => seenF n.ss (heldI n as fl k)
theorem seenI_succ {n : NetM} {as : List Fr} {fl : List (List Fr)} {i : Nat} : seenI n as fl (i + 1) = seenI n as fl i ++ [seenF n.ss (heldI n as fl i)] := by
  unfold seenI
  rw [List.range_succ, List.map_append]
  rfl
theorem seenI_all {n : NetM} {as : List Fr} {fl : List (List Fr)} : seenI n as fl (fl.length + 1) = seenAll n as fl := rfl
theorem n17 {k : Nat} (h : k ≤ 8) : 4 * (23977 * 2 ^ (18 * k)) < 2 ^ 180 := by
  have p1 : 0 < 2 ^ (18 * k) := Nat.pow_pos (by decide)
  have e : 2 ^ (17 + 18 * k) = 131072 * 2 ^ (18 * k) := by rw [Nat.pow_add]
  have l : 2 ^ (17 + 18 * k) ≤ 2 ^ 180 := Nat.pow_le_pow_right (by decide) (by omega)
  rw [e] at l
  generalize 2 ^ (18 * k) = X at p1 l ⊢
  omega
theorem n18 {k : Nat} (h : k ≤ 8) : 2 ^ (18 * k) < 2 ^ 145 := Nat.pow_lt_pow_right (by decide) (by omega)
section
variable {P : Program} {w : World} {K : PySem.W.Frag} {mg : Str → Option Value} {base : Heap}
theorem scSi : FnScope nSi ["net", "assignment", "fillings"] (defScope sSeenIn) := ⟨rfl, rfl, rfl, by decide +kernel, rfl, by decide +kernel, by decide +kernel⟩
theorem ok_seenin {f fN fA fF fT fS fU fO aU aN : Addr} {fd fdN fdA fdF fdT fdS fdU fdO : FuncData} {Ps : List Addr} (F : Fun K "seen_in" "seen_in" sSeenIn f fd) (T : TxD mg) (C : Cst K mg aU aN)
    (FN : FnOk P w K mg base CX0 9 fN fdN ["net"] (spNeedNet Ps)) (mN : mg "need_net" = some (.ref fN)) (kN : PySem.W.keepIn K (.ref fN) = true) (bN : Binds K fdN ["net"] [])
    (FA : FnOk P w K mg base CX0 4 fA fdA ["net", "assignment"] spNeedAs) (mA : mg "need_assignment" = some (.ref fA)) (kA : PySem.W.keepIn K (.ref fA) = true) (bA : Binds K fdA ["net", "assignment"] [])
    (FF : FnOk P w K mg base CX0 6 fF fdF ["net", "fillings"] (spNeedFi Ps)) (mF : mg "need_fillings" = some (.ref fF)) (kF : PySem.W.keepIn K (.ref fF) = true) (bF : Binds K fdF ["net", "fillings"] [])
    (FT : FnOk P w K mg base CX0 10 fT fdT ["net", "assignment"] (spTable K Ps)) (mT : mg "table_of" = some (.ref fT)) (kT : PySem.W.keepIn K (.ref fT) = true) (bT : Binds K fdT ["net", "assignment"] [])
    (FS : FnOk P w K mg base CX0 4 fS fdS ["table", "held"] (spSent K)) (mS : mg "sent" = some (.ref fS)) (kS : PySem.W.keepIn K (.ref fS) = true) (bS : Binds K fdS ["table", "held"] [])
    (FU : FnOk P w K mg base CX0 3 fU fdU ["net", "held", "filling"] (spFilled K)) (mU : mg "filled_up" = some (.ref fU)) (kU : PySem.W.keepIn K (.ref fU) = true) (bU : Binds K fdU ["net", "held", "filling"] [])
    (FO : FnOk P w K mg base CX0 1 fO fdO ["net", "held"] (spSeenOf K)) (mO : mg "seen_of" = some (.ref fO)) (kO : PySem.W.keepIn K (.ref fO) = true) (bO : Binds K fdO ["net", "held"] []) :
    FnOk P w K mg base CX0 11 f fd ["net", "assignment", "fillings"] (spRuns K Ps) := by
  refine F.ok scSi (fun vs H Q E h => ?_) (fun cdv A outer s H vs Q E hr h => ?_)
  · obtain ⟨x, y, z, n, as, fl, rfl, _⟩ := h
    rfl
  · obtain ⟨x, y, z, n, as, fl, rfl, g, th, ok, ty, hf, tz, tb, k⟩ := h
    refine ⟨_, pss_cons (ps_expr (pe_call FN (hr.mono (by decide)) rfl mN kN bN .nil pass0 (pa_cons (pv 0) pa_nil)))
      (pss_cons (ps_expr (pe_call FA (hr.mono (by decide)) rfl mA kA bA .nil pass0 (pa_cons (pv 0) (pa_cons (pv 1) pa_nil))))
      (pss_cons (ps_expr (pe_call FF (hr.mono (by decide)) rfl mF kF bF .nil pass0 (pa_cons (pv 0) (pa_cons (pv 2) pa_nil))))
      (pss_cons (ps_set (i := 3) scSi.nd rfl (Or.inl rfl) (pe_call FT hr rfl mT kT bT .nil pass0 (pa_cons (pv 0) (pa_cons (pv 1) pa_nil))))
      (pss_cons (ps_set (i := 4) scSi.nd rfl (Or.inl rfl) (pe_op (r := MZ.rRepA K) (by exact MZ.op_repA) (pe_tup (pa_cons (pe_glob (v := .ref aN) (by rfl) C.mN rfl) pa_nil)) (pe_ix ix_tup (pv 0) pe_int (fun _ _ => rfl))))
      (pss_cons (ps_set (i := 5) scSi.nd rfl (Or.inl rfl) (pe_lst pa_nil))
      (pss_cons (ps_for PassesOwn.never rfl (pi_tup (pv 2)) (pg_name (i := 6) scSi.nd rfl (Or.inl rfl))
        (pss_cons (ps_expr (pe_bm PySem.F.plainAttrs_list PySem.F.slot_list_append PySem.F.type_list_append mt_append (pv 5) (pa_cons (pe_call FO (hr.mono (by decide)) rfl mO kO bO .nil pass0 (pa_cons (pv 0) (pa_cons (pv 4) pa_nil))) pa_nil)))
        (pss_one (ps_set (i := 4) scSi.nd rfl (Or.inl rfl) (pe_call FU (hr.mono (by decide)) rfl mU kU bU .nil pass0 (pa_cons (pv 0) (pa_cons (pe_call FS (hr.mono (by decide)) rfl mS kS bS .nil pass0 (pa_cons (pv 3) (pa_cons (pv 4) pa_nil))) (pa_cons (pv 6) pa_nil))))))))
      (pss_one (ps_ret (pe_op op_catA (pe_tupleOf (by rfl) T.tuple (pv 5)) (pe_tup (pa_cons (pe_call FO (hr.mono (by decide)) rfl mO kO bO .nil pass0 (pa_cons (pv 0) (pa_cons (pv 4) pa_nil))) pa_nil))))))))))), ?_⟩
    have hf' : FiOk n fl := ⟨by have := hf.1; omega, hf.2⟩
    refine ⟨_, rfl, _, n, rfl, g, th, tb, fun H1 gr1 => ?_⟩
    have tk1 := Tk.sm gr1.sm
    refine ⟨_, rfl, _, rfl, _, _, n, as, rfl, th.tk tk1, ok, ty.tk tk1, fun H2 s2 => ?_⟩
    have gr2 := gr1.trans (Grown.same s2 gr1.tbs)
    have tk2 := Tk.sm gr2.sm
    refine ⟨_, rfl, _, rfl, _, _, n, fl, rfl, th.tk tk2, hf', tz.tk tk2, gr2.tbs, fun H3 gr3' => ?_⟩
    have gr3 := gr2.trans gr3'
    have tk3 := Tk.sm gr3.sm
    refine ⟨_, rfl, _, rfl, _, _, n, as, rfl, g, th.tk tk3, ok, ty.tk tk3, gr3.tbs, fun tv H4 gr4' tt => ?_⟩
    have gr4 := gr3.trans gr4'
    have tk4 := Tk.sm gr4.sm
    have th4 := th.tk tk4
    have tz4 := tz.tk tk4
    obtain ⟨a, ps, fs, ss, rfl, ea, _, _, _⟩ := net_parts th4
    refine ⟨(by show 1 ≤ sizeLine; decide), fun p hp => ?_⟩
    have sp := same_upd (o := .tup [V.ref aN]) hp
    refine ⟨_, rfl, a, _, _, _, rfl, rfl, SqT.of (sp.rd (tO_same H4 _ _ ea)), rfl, ?_⟩
    refine rep_vec C.cN g.m1 g.m4 upd_same fun hv0 H5 s5 rv0 => ?_
    have s45 := sp.trans s5
    refine ⟨by decide, fun q hq => ?_⟩
    have sq := same_upd (o := .lst []) hq
    have nq : H4 q = none := none_same s45 hq
    obtain ⟨fa, zs, rfl, ez, tzs⟩ := tup_parts tz4
    have lz : zs.length = fl.length := by rw [all2 tzs, List.length_map]
    have s46 := s45.trans sq
    refine ⟨_, rfl, fa, rfl, ⟨zs, SqT.of (s46.rd (tO_same H4 _ _ ez))⟩, ?_⟩
    have l8 := hf.1
    refine for_it (walk_tup (K := K) (a := fa) (xs := zs)) (fun i σ H' => (∃ hv o6 xs, σ = [some (.ref a), some y, some (.ref fa), some tv, some hv, some (.ref q), o6] ∧ RowT K H' hv (heldI n as fl i) ∧ H' q = some (.lst xs) ∧ RowsT K H' xs (seenI n as fl i)) ∧ Grown Ps H4 H')
      ⟨⟨hv0, none, [], rfl, rv0.tk (Tk.same sq), upd_same, RowsT.nil⟩, Grown.same s46 gr4.tbs⟩ (fun i σ H' _ z => SqT.of (tO_same H' _ _ ((Tk.sm z.2.sm) _ _ ez))) ?_ ?_
    · rintro i v σ _ H' hi ⟨⟨hv, o6, xs, rfl, rv, eq, rows⟩, gr5⟩ ⟨rfl, hx⟩
      have tk5 := Tk.sm gr5.sm
      obtain ⟨d, hd, td⟩ := all_get tzs hx
      have hil : i < fl.length := by omega
      have efl := List.getElem?_eq_getElem hil
      rw [List.getElem?_map, efl] at hd
      cases hd
      obtain ⟨lr, tr⟩ := hf.2 _ (List.getElem_mem hil)
      obtain ⟨hb, hl⟩ := held_ok g ok hf (k := i) (by omega)
      have lx : xs.length = i := by rw [rows.len]; unfold seenI; rw [List.length_map, List.length_range]
      have th5 := th4.tk tk5
      refine ⟨_, rfl, .inl ⟨rfl, _, SqL.of eq⟩, ⟨_, rfl, _, rfl, _, hv, n, _, rfl, g, th5, rv, hl, fun wv H6 s6 rw6 => ⟨q, xs, wv, rfl, rfl, s6 _ _ eq, Nat.lt_of_lt_of_le (show xs.length < 1000 by omega) (by decide), ?_⟩⟩⟩
      have eq6 := s6 _ _ eq
      have tkq : Tk H' (upd H6 q (.lst (xs ++ [wv]))) := (Tk.same s6).trans (Tk.put eq6)
      have gr7 : Grown Ps H4 (upd H6 q (.lst (xs ++ [wv]))) := grown_put (gr5.trans (Grown.same s6 gr5.tbs)) nq eq6
      have rows7 : RowsT K (upd H6 q (.lst (xs ++ [wv]))) (xs ++ [wv]) (seenI n as fl (i + 1)) := by
        rw [seenI_succ]
        exact (rows.tk tkq).snoc (rw6.tk (Tk.put eq6))
      have e7 : upd H6 q (.lst (xs ++ [wv])) q = some (.lst (xs ++ [wv])) := upd_same
      generalize upd H6 q (.lst (xs ++ [wv])) = H7 at tkq gr7 rows7 e7 ⊢
      have rv7 := rv.tk tkq
      have tk7 := Tk.sm gr7.sm
      refine ⟨_, rfl, _, rfl, _, rfl, tv, hv, _, _, rfl, tt.tk tk7, rv7, by rw [(sqF n as).len]; exact g.m4, sent_ok g ok hb (n18 (by omega)) (by omega) hl, fun v2 H8 s8 r2 => ⟨_, rfl, ?_⟩⟩
      have tk8 := tk7.trans (Tk.same s8)
      refine ⟨_, v2, v, n, _, fl[i], _, _, rfl, g, th4.tk tk8, r2, sentF_len n as _, td.tk tk8, lr, tr, sent_bd g ok hb hl, by omega, n17 (by omega), fun v3 H9 s9 r3 => ?_⟩
      have s79 := s8.trans s9
      refine ⟨⟨v3, _, _, rfl, ?_, s79 _ _ e7, rows7.tk (Tk.same s79)⟩, gr7.trans (Grown.same s79 gr7.tbs)⟩
      rw [heldI_succ efl]
      exact r3
    · rintro σ H' ⟨⟨hv, o6, xs, rfl, rv, eq, rows⟩, gr5⟩
      rw [lz] at rv rows
      have tk5 := Tk.sm gr5.sm
      obtain ⟨hb, hl⟩ := held_ok g ok hf (k := fl.length) (Nat.le_refl _)
      have lx : xs.length = fl.length := by rw [rows.len]; unfold seenI; rw [List.length_map, List.length_range]
      refine ⟨_, rfl, .inl ⟨q, xs, rfl, SqL.of eq, fun q2 hq2 => ?_⟩⟩
      have sq2 := same_upd (o := .tup xs) hq2
      refine ⟨_, rfl, _, rfl, _, hv, n, _, rfl, g, (th4.tk tk5).tk (Tk.same sq2), rv.tk (Tk.same sq2), hl, fun wv H6 s6 rw6 => ⟨(by show 1 ≤ sizeLine; decide), fun q3 hq3 => ?_⟩⟩
      have sq3 := same_upd (o := .tup [wv]) hq3
      have s56 := sq2.trans (s6.trans sq3)
      have rowsA : RowsT K (upd H6 q3 (.tup [wv])) (xs ++ [wv]) (seenAll n as fl) := by
        rw [← seenI_all, seenI_succ]
        exact (rows.tk (Tk.same s56)).snoc (rw6.tk (Tk.same sq3))
      have e3 : upd H6 q3 (.tup [wv]) q3 = some (.tup [wv]) := upd_same
      have e2 := (s6.trans sq3) _ _ (show upd H' q2 (.tup xs) q2 = some (.tup xs) from upd_same)
      generalize upd H6 q3 (.tup [wv]) = H8 at sq3 s56 rowsA e3 e2 ⊢
      have gr8 := gr4.trans (gr5.trans (Grown.same s56 gr5.tbs))
      refine ⟨q2, q3, xs, [wv], rfl, rfl, SqT.of e2, SqT.of e3, Nat.le_trans (show xs.length + 1 ≤ 1000 by omega) (by decide), fun z => ?_, (fun _ z => by cases z), fun _ _ q4 hq4 => ?_⟩
      · subst z
        exact k _ _ gr8 ⟨q3, _, rfl, tO_of e3, rowsA⟩
      · have sq4 := same_upd (o := .tup (xs ++ [wv])) hq4
        exact k _ _ (gr8.trans (Grown.same sq4 gr8.tbs)) ⟨q4, _, rfl, tO_of upd_same, rowsA.tk (Tk.same sq4)⟩
end
end KP

set_option Elab.async false
set_option linter.all false
set_option maxRecDepth 100000
set_option maxHeartbeats 4000000
/-! ### the law's own runs -/
namespace KP
open PySem PySem.Spec PyProof.Rows L2 KX KT KJ KS FR
def spRunsL (K : PySem.W.Frag) : Sp := fun vs H Q _ => ∃ x y z n as fl, vs = [x, y, z] ∧ GoodN n ∧ Th (tO H) x (NetM.d n) ∧ AsOk n as ∧ Th (tO H) y (.tuple (as.map fD)) ∧ FlOk n fl ∧ Th (tO H) z (flD fl) ∧ ∀ v H', Same H H' → TabT K H' v (seenAll n as fl) → Q v H'
abbrev nSl : List Str := ["net", "assignment", "fillings", "table", "held", "found", "row", "at", "part"]
theorem cat_none {K : PySem.W.Frag} {H : Hp} {a p : Addr} {zs : List V} {Q : VK} (ea : H a = some (.tup zs)) (ep : H p = some (.tup [.non])) (hl : zs.length ≤ 1000) (k : ∀ c H', Same H H' → H' c = some (.tup (zs ++ [.non])) → Q (.ref c) H') : rCatA K (.ref a) (.ref p) H Q :=
  ⟨a, p, zs, _, rfl, rfl, SqT.of ea, SqT.of ep, Nat.le_trans (show zs.length + 1 ≤ 1001 by omega) (by decide), (fun z => by subst z; exact k p H (Same.refl H) ep), (fun _ z => by cases z), fun _ _ q hq => k q _ (same_upd hq) upd_same⟩
theorem i_ifE {t : TT} {ta tb : TE} {b : Bool} {σ : L2.St} {H : Hp} {Q : VK} (h : Ti t σ H b) (h1 : b = true → ta σ H Q) (h2 : b = false → tb σ H Q) : tIf t ta tb σ H Q := h _ (iteB h1 h2)
theorem rep_lst {H : Hp} {l : Addr} {x : V} {m : Nat} {Q : VK} (m4 : m ≤ 4) (e : H l = some (.lst [x])) (k : ∀ q, H q = none → Q (.ref q) (upd H q (.lst (List.replicate m x)))) : rRep (.ref l) (.int (m : Nat)) H Q := by
  refine ⟨l, (m : Int), _, rfl, rfl, e, by omega, by omega, ?_, fun q hq => ?_⟩
  · rw [Int.toNat_natCast]
    exact Nat.le_trans (show 1 * m ≤ 4 by omega) (by decide)
  · rw [Int.toNat_natCast, List.flatten_replicate_singleton]
    exact k q hq
theorem frl_rep {K : PySem.W.Frag} {H : Hp} {v : V} (f : FrV K H v (0, 1)) : ∀ j : Nat, FrL K H (List.replicate j v) (held0 j)
  | 0 => FrL.nil
  | j + 1 => by
    have e1 : List.replicate (j + 1) v = List.replicate j v ++ [v] := List.replicate_succ'
    have e2 : held0 (j + 1) = held0 j ++ [(0, 1)] := List.replicate_succ'
    rw [e1, e2]
    exact (frl_rep f j).snoc f
end KP

set_option Elab.async false
set_option linter.all false
set_option maxRecDepth 100000
set_option maxHeartbeats 4000000
/-! ### drawn assignments and fillings -/
namespace KP
open PySem PySem.Spec PyProof.Rows L2 KX KT KJ KS FR
abbrev lAsn : Stmt := top 60
abbrev lFil : Stmt := top 67
theorem th_hid {j : Addr} {H : Hp} {v : V} {d : PyData} (h : Th (hid j H) v d) (z : tpD d = true) : Th (tO H) v d := th_tO (h.mono (Sm.same (hid_same j H))) z
theorem thAll_tk {H H' : Hp} {vs : List V} {ds : List PyData} (h : ThAll (tO H) vs ds) (s : Tk H H') : ThAll (tO H') vs ds := ThAll.mono (Sm.same s) h
theorem but_put {j p : Addr} {H H' : Hp} {o : HO} (b : KJ.But j H H') (h : H p = none) : KJ.But j H (upd H' p o) := fun c u n e => by
  rw [upd_ne (ne_of_none e h)]
  exact b c u n e
theorem jar_put {j p : Addr} {H : Hp} {n : Nat} {o : HO} (h : JarAt H j n) (np : p ≠ j) : JarAt (upd H p o) j n := by
  obtain ⟨x1, x2, x3, ej, r⟩ := h
  exact ⟨x1, x2, x3, by rw [upd_ne (Ne.symm np)]; exact ej, r⟩
def spAsn : Sp := fun vs H Q _ => ∃ j n x nt, vs = [.ref j, x] ∧ JarAt H j n ∧ n ≤ 800000 ∧ GoodN nt ∧ Th (tO H) x (NetM.d nt) ∧ ∀ v as H', AsOk nt as → Th (tO H') v (.tuple (as.map fD)) → KJ.But j H H' → JarAt H' j (n + 12) → Q v H'
def spFil : Sp := fun vs H Q _ => ∃ j n x nt, vs = [.ref j, x, .int 6] ∧ JarAt H j n ∧ n ≤ 800000 ∧ GoodN nt ∧ Th (tO H) x (NetM.d nt) ∧ ∀ v fl H', FlOk nt fl → Th (tO H') v (flD fl) → KJ.But j H H' → JarAt H' j (n + 129) → Q v H'
section
variable {P : Program} {w : World} {K : PySem.W.Frag} {mg : Str → Option Value} {base : Heap}
abbrev nAsn : List Str := ["jar", "net", "found", "at"]
theorem scAsn : FnScope nAsn ["jar", "net"] (defScope lAsn) := ⟨rfl, rfl, rfl, by decide +kernel, rfl, by decide +kernel, by decide +kernel⟩
theorem ok_asn {f fP : Addr} {fd fdP : FuncData} (F : Fun K "_law_assignment" "_law_assignment" lAsn f fd) (T : TxD mg)
    (FP : FnOk P w K mg base CX0 3 fP fdP ["jar"] spPart2) (mP : mg "_law_told_part" = some (.ref fP)) (kP : PySem.W.keepIn K (.ref fP) = true) (bP : Binds K fdP ["jar"] []) :
    FnOk P w K mg base CX0 4 f fd ["jar", "net"] spAsn := by
  refine F.ok scAsn (fun vs H Q E h => ?_) (fun cdv A outer s H vs Q E hr h => ?_)
  · obtain ⟨j, n, x, nt, rfl, _⟩ := h
    rfl
  · obtain ⟨j, n, x, nt, rfl, hj, hn, g, th, k⟩ := h
    refine ⟨_, pss_cons (ps_set (i := 2) scAsn.nd rfl (Or.inl rfl) (pe_lst pa_nil))
      (pss_cons (ps_for PassesOwn.never rfl (pi_range1 rfl T.range (pa_cons (pe_ix ix_tup (pv 1) pe_int (fun _ _ => rfl)) pa_nil)) (pg_name (i := 3) scAsn.nd rfl (Or.inl rfl))
        (pss_one (ps_expr (pe_bm PySem.F.plainAttrs_list PySem.F.slot_list_append PySem.F.type_list_append mt_append (pv 2) (pa_cons (pe_call FP hr rfl mP kP bP .nil pass0 (pa_cons (pv 0) pa_nil)) pa_nil)))))
      (pss_one (ps_ret (pe_tupleOf (by rfl) T.tuple (pv 2))))), ?_⟩
    obtain ⟨a, ps, fs, ss, rfl, ea, _, _, _⟩ := net_parts th
    have u4 := g.u4
    refine ⟨by decide, fun p hp => ?_⟩
    have sp := same_upd (o := .lst ([] : List V)) hp
    have np : p ≠ j := new_ne hp (jar_ne hj)
    refine ⟨_, rfl, a, _, _, _, rfl, rfl, SqT.of (sp.rd (tO_same H _ _ ea)), rfl, (nt.u : Int), rfl, by omega, by omega, ?_⟩
    rw [show ((nt.u : Nat) : Int).toNat = nt.u from rfl]
    refine for_range (lo := 0) (n := nt.u) (fun i σ H' => ∃ o3 xs as, σ = [some (.ref j), some (.ref a), some (.ref p), o3] ∧ H' p = some (.lst xs) ∧ ThAll (tO H') xs (as.map fD) ∧ as.length = i ∧ ToldS as ∧ KJ.But j H H' ∧ JarAt H' j (n + 3 * i)) ⟨none, [], [], rfl, upd_same, .nil, rfl, (fun a h => by cases h), KJ.But.same sp, jar_same hj sp⟩ ?_ ?_
    · rintro i σ H' hi ⟨o3, xs, as, rfl, ep, ta, la, ht, b0, j0⟩
      have lx : xs.length = i := by rw [all2 ta, List.length_map, la]
      refine ⟨_, rfl, .inl ⟨rfl, _, SqL.of ep⟩, ⟨_, rfl, j, _, rfl, j0, by omega, fun v f H1 hf tv b1 j1 => ?_⟩⟩
      have ep1 := b1 _ _ np ep
      refine ⟨p, xs, v, rfl, rfl, ep1, Nat.lt_of_lt_of_le (show xs.length < 1000 by omega) (by decide), ?_⟩
      have tk := Tk.put (ys := xs ++ [v]) ep1
      refine ⟨_, xs ++ [v], as ++ [f], rfl, upd_same, ?_, by rw [List.length_append, List.length_singleton, la], fun y hy => ?_, but_put (b0.trans b1) hp, by rw [show n + 3 * (i + 1) = n + 3 * i + 3 by omega]; exact jar_put j1 np⟩
      · rw [List.map_append]
        exact ThAll.append (thAll_tk ta ((Tk.jar j0 b1).trans tk)) (.cons ((th_hid tv (tp_f f)).tk tk) .nil)
      · rcases List.mem_append.mp hy with h | h
        · exact ht y h
        · rw [List.mem_singleton.mp h]
          exact hf
    · rintro σ H' ⟨o3, xs, as, rfl, ep, ta, la, ht, b0, j0⟩
      refine ⟨_, rfl, .inl ⟨p, xs, rfl, SqL.of ep, fun q hq => ?_⟩⟩
      have sq := same_upd (o := .tup xs) hq
      exact k _ as _ ⟨la, ht⟩ (.tup (tO_of upd_same) (thAll_tk ta (Tk.same sq))) (b0.trans (KJ.But.same sq)) (jar_more (jar_same j0 sq) (by omega))
/-- a row that is being drawn -/
def RowI (j p2 : Addr) (H' : Hp) (c b : Nat) (H2 : Hp) : Prop := ∃ ys r, H2 p2 = some (.lst ys) ∧ ThAll (tO H2) ys (r.map fD) ∧ r.length = b ∧ ToldS r ∧ KJ.But j H' H2 ∧ Tk H' H2 ∧ JarAt H2 j (c + 4 * b)
theorem RowI.jar {j p2 : Addr} {H' H2 : Hp} {c b : Nat} (R : RowI j p2 H' c b H2) : JarAt H2 j (c + 4 * b) := let ⟨_, _, _, _, _, _, _, _, z⟩ := R; z
theorem RowI.lst {j p2 : Addr} {H' H2 : Hp} {c b : Nat} (R : RowI j p2 H' c b H2) : ∃ ys, H2 p2 = some (.lst ys) := let ⟨ys, _, e, _⟩ := R; ⟨ys, e⟩
theorem RowI.more {j p2 : Addr} {H' H2 H3 : Hp} {c b : Nat} (R : RowI j p2 H' c b H2) (hp2 : H' p2 = none) (np2 : p2 ≠ j) {v : V} {f : Fr} (hf : Told f) (tv : Th (tO H3) v (fD f)) (b3 : KJ.But j H2 H3) (j3 : JarAt H3 j (c + 4 * b + 4)) :
    ∃ ys, H3 p2 = some (.lst ys) ∧ ys.length = b ∧ RowI j p2 H' c (b + 1) (upd H3 p2 (.lst (ys ++ [v]))) := by
  obtain ⟨ys, r, ey, ty, lr, hr', b2, tk2, j2⟩ := R
  have ey3 := b3 _ _ np2 ey
  have tk := Tk.put (ys := ys ++ [v]) ey3
  have tk3 := (Tk.jar j2 b3).trans tk
  refine ⟨ys, ey3, by rw [all2 ty, List.length_map, lr], ys ++ [v], r ++ [f], upd_same, ?_, by rw [List.length_append, List.length_singleton, lr], fun y hy => ?_, but_put (b2.trans b3) hp2, tk2.trans tk3, by rw [show c + 4 * (b + 1) = c + 4 * b + 4 by omega]; exact jar_put j3 np2⟩
  · rw [List.map_append]
    exact ThAll.append (thAll_tk ty tk3) (.cons (tv.tk tk) .nil)
  · rcases List.mem_append.mp hy with h | h
    · exact hr' y h
    · rw [List.mem_singleton.mp h]
      exact hf
abbrev nFil : List Str := ["jar", "net", "most", "found", "turn", "row", "at"]
theorem scFil : FnScope nFil ["jar", "net", "most"] (defScope lFil) := ⟨rfl, rfl, rfl, by decide +kernel, rfl, by decide +kernel, by decide +kernel⟩
theorem ok_fil {f fW fP : Addr} {fd fdD fdP : FuncData} (F : Fun K "_law_fillings" "_law_fillings" lFil f fd) (T : TxD mg)
    (FD : FnOk P w K mg base CX0 1 fW fdD ["jar", "top"] spDip) (mD : mg "_law_dip" = some (.ref fW)) (kD : PySem.W.keepIn K (.ref fW) = true) (bD : Binds K fdD ["jar", "top"] [])
    (FP : FnOk P w K mg base CX0 3 fP fdP ["jar"] spPart2) (mP : mg "_law_told_part" = some (.ref fP)) (kP : PySem.W.keepIn K (.ref fP) = true) (bP : Binds K fdP ["jar"] []) :
    FnOk P w K mg base CX0 4 f fd ["jar", "net", "most"] spFil := by
  refine F.ok scFil (fun vs H Q E h => ?_) (fun cdv A outer s H vs Q E hr h => ?_)
  · obtain ⟨j, n, x, nt, rfl, _⟩ := h
    rfl
  · obtain ⟨j, n, x, nt, rfl, hj, hn, g, th, k⟩ := h
    have hr1 : Room 1 _ := hr.mono (by decide)
    refine ⟨_, pss_cons (ps_set (i := 3) scFil.nd rfl (Or.inl rfl) (pe_lst pa_nil))
      (pss_cons (ps_for PassesOwn.never rfl (pi_range1 rfl T.range (pa_cons (pe_call FD hr1 rfl mD kD bD .nil pass0 (pa_cons (pv 0) (pa_cons (pe_op op_add (pv 2) pe_int) pa_nil))) pa_nil)) (pg_name (i := 4) scFil.nd rfl (Or.inl rfl))
        (pss_cons (ps_set (i := 5) scFil.nd rfl (Or.inl rfl) (pe_lst pa_nil))
        (pss_cons (ps_for PassesOwn.never rfl (pi_tup (pe_ix ix_tup (pv 1) pe_int (fun _ _ => rfl))) (pg_name (i := 6) scFil.nd rfl (Or.inl rfl))
          (pss_one (ps_expr (pe_bm PySem.F.plainAttrs_list PySem.F.slot_list_append PySem.F.type_list_append mt_append (pv 5) (pa_cons (pe_ifExp (pt_cmpR op_eq (pe_call FD hr1 rfl mD kD bD .nil pass0 (pa_cons (pv 0) (pa_cons pe_int pa_nil))) pe_int (nomark _)) (pe_call FP hr rfl mP kP bP .nil pass0 (pa_cons (pv 0) pa_nil))
            (pe_tup (pa_cons (pe_op op_sub (pe_call FD hr1 rfl mD kD bD .nil pass0 (pa_cons (pv 0) (pa_cons pe_int pa_nil))) pe_int) (pa_cons pe_int pa_nil)))) pa_nil)))))
        (pss_one (ps_expr (pe_bm PySem.F.plainAttrs_list PySem.F.slot_list_append PySem.F.type_list_append mt_append (pv 3) (pa_cons (pe_tupleOf (by rfl) T.tuple (pv 5)) pa_nil)))))))
      (pss_one (ps_ret (pe_tupleOf (by rfl) T.tuple (pv 3))))), ?_⟩
    obtain ⟨a, ps, fs, ss, rfl, ea, _, tfs, _⟩ := net_parts th
    obtain ⟨fb, fv, rfl, efb, tf⟩ := tup_parts tfs
    have lf : fv.length = nt.fs.length := by rw [all2 tf, natsD, List.length_map]
    have f4 : nt.fs.length ≤ 4 := Nat.le_trans g.fs.len g.m4
    refine ⟨by decide, fun p hp => ?_⟩
    have sp := same_upd (o := .lst ([] : List V)) hp
    have np : p ≠ j := new_ne hp (jar_ne hj)
    refine ⟨_, rfl, _, rfl, _, _, rfl, rfl, j, _, _, rfl, by decide, by decide, jar_same hj sp, by omega, fun r0 H1 r00 r01 b1 j1 => ⟨_, rfl, by omega, by omega, ?_⟩⟩
    obtain ⟨rn, rfl⟩ := Int.eq_ofNat_of_zero_le r00
    rw [show ((rn : Nat) : Int).toNat = rn from rfl]
    have b01 : KJ.But j H H1 := (KJ.But.same sp).trans b1
    have ep1 := b1 _ _ np (show upd H p (.lst []) p = some (.lst []) from upd_same)
    refine for_range (lo := 0) (n := rn) (fun i σ H' => ∃ o4 o5 o6 xs fl, σ = [some (.ref j), some (.ref a), some (.int 6), some (.ref p), o4, o5, o6] ∧ H' p = some (.lst xs) ∧ ThAll (tO H') xs (fl.map fun r => PyData.tuple (r.map fD)) ∧ fl.length = i ∧ (∀ r ∈ fl, r.length = nt.fs.length ∧ ToldS r) ∧ KJ.But j H H' ∧ Tk H H' ∧ JarAt H' j (n + 1 + 16 * i))
      ⟨none, none, none, [], [], rfl, ep1, .nil, rfl, (fun a h => by cases h), b01, (Tk.same sp).trans (Tk.jar (jar_same hj sp) b1), j1⟩ ?_ ?_
    · rintro i σ H' hi ⟨o4, o5, o6, xs, fl, rfl, ep, ta, lfl, hfl, b0, tk0, j0⟩
      have lx : xs.length = i := by rw [all2 ta, List.length_map, lfl]
      refine ⟨by decide, fun p2 hp2 => ?_⟩
      have sp2 := same_upd (o := .lst ([] : List V)) hp2
      have np2 : p2 ≠ j := new_ne hp2 (jar_ne j0)
      have npp : p2 ≠ p := fun z => by rw [z, ep] at hp2; cases hp2
      refine ⟨_, rfl, a, _, _, _, rfl, rfl, SqT.of (tO_same _ _ _ ((tk0.trans (Tk.same sp2)) _ _ ea)), rfl, fb, rfl, ⟨fv, SqT.of (tO_same _ _ _ ((tk0.trans (Tk.same sp2)) _ _ efb))⟩, ?_⟩
      refine for_it (walk_tup (K := K) (a := fb) (xs := fv)) (fun b σ H'' => (∃ o6, σ = [some (.ref j), some (.ref a), some (.int 6), some (.ref p), some (.int (0 + (i : Int))), some (.ref p2), o6]) ∧ RowI j p2 H' (n + 1 + 16 * i) b H'')
        ⟨⟨_, rfl⟩, [], [], upd_same, .nil, rfl, (fun a h => by cases h), KJ.But.same sp2, Tk.same sp2, jar_same j0 sp2⟩ (fun b σ H'' _ z => by obtain ⟨_, _, _, _, _, _, _, _, tk, _⟩ := z; exact SqT.of (tO_same _ _ _ ((tk0.trans tk) _ _ efb))) ?_ ?_
      · rintro b v σ _ H2 hb ⟨⟨o6, rfl⟩, R⟩ ⟨rfl, hv⟩
        have j2 := R.jar
        refine ⟨_, rfl, .inl ⟨rfl, _, SqL.of R.lst.choose_spec⟩, ?_⟩
        refine ⟨_, rfl, j, _, _, rfl, by decide, by decide, j2, by omega, fun r1 H3 r10 r11 b3 j3 => ⟨rfl, _, rfl, iteB (fun z => ?_) (fun z => ?_)⟩⟩
        · refine ⟨_, rfl, j, _, rfl, j3, by omega, fun v f H4 hf tv b4 j4 => ?_⟩
          obtain ⟨ys, ey, ly, R4⟩ := R.more hp2 np2 hf (th_hid tv (tp_f f)) (b3.trans b4) (jar_more j4 (by omega))
          exact ⟨p2, ys, v, rfl, rfl, ey, Nat.lt_of_lt_of_le (show ys.length < 1000 by omega) (by decide), ⟨_, rfl⟩, R4⟩
        · refine ⟨_, rfl, j, _, _, rfl, by decide, by decide, j3, by omega, fun r2 H4 r20 r21 b4 j4 => ⟨_, _, rfl, rfl, (by show 2 ≤ sizeLine; decide), fun t ht => ?_⟩⟩
          have st := same_upd (o := .tup [V.int (r2 - 1), V.int 1]) ht
          have hf : Told (r2 - 1, 1) := ⟨by show (0 : Int) < 1; decide, by show (1 : Int) ≤ 999; decide, by show (r2 - 1).natAbs ≤ 999; omega, by show Nat.gcd _ 1 = 1; exact Nat.gcd_one_right _⟩
          obtain ⟨ys, ey, ly, R4⟩ := R.more (f := (r2 - 1, 1)) (v := .ref t) (H3 := upd H4 t (.tup [V.int (r2 - 1), V.int 1])) hp2 np2 hf (.tup (tO_of upd_same) (.cons (.int _) (.cons (.int _) .nil))) (b3.trans (b4.trans (KJ.But.same st))) (jar_more (jar_same j4 st) (by omega))
          exact ⟨p2, ys, _, rfl, rfl, ey, Nat.lt_of_lt_of_le (show ys.length < 1000 by omega) (by decide), ⟨_, rfl⟩, R4⟩
      · rintro σ H2 ⟨⟨o6, rfl⟩, ys, r, ey, ty, lr, hr', b2, tk2, j2⟩
        have ep2 := b2 _ _ np ep
        refine ⟨_, rfl, .inl ⟨rfl, _, SqL.of ep2⟩, ⟨_, rfl, .inl ⟨p2, ys, rfl, SqL.of ey, fun q hq => ?_⟩⟩⟩
        have sq := same_upd (o := .tup ys) hq
        have ep3 := sq _ _ ep2
        refine ⟨p, xs, _, rfl, rfl, ep3, Nat.lt_of_lt_of_le (show xs.length < 1000 by omega) (by decide), ?_⟩
        have tk := Tk.put (ys := xs ++ [.ref q]) ep3
        have tk3 := (Tk.same sq).trans tk
        refine ⟨_, _, _, xs ++ [.ref q], fl ++ [r], rfl, upd_same, ?_, by rw [List.length_append, List.length_singleton, lfl], fun y hy => ?_, but_put (b0.trans (b2.trans (KJ.But.same sq))) hp, tk0.trans (tk2.trans tk3), jar_put (jar_more (jar_same j2 sq) (by omega)) np⟩
        · rw [List.map_append]
          refine ThAll.append (thAll_tk ta (tk2.trans tk3)) (.cons (.tup (tk _ _ (tO_of upd_same)) (thAll_tk ty tk3)) .nil)
        · rcases List.mem_append.mp hy with h | h
          · exact hfl y h
          · rw [List.mem_singleton.mp h]
            exact ⟨by rw [lr, lf], hr'⟩
    · rintro σ H' ⟨o4, o5, o6, xs, fl, rfl, ep, ta, lfl, hfl, b0, tk0, j0⟩
      refine ⟨_, rfl, .inl ⟨p, xs, rfl, SqL.of ep, fun q hq => ?_⟩⟩
      have sq := same_upd (o := .tup xs) hq
      exact k _ fl _ ⟨by omega, hfl⟩ (.tup (tO_of upd_same) (thAll_tk ta (Tk.same sq))) (b0.trans (KJ.But.same sq)) (jar_more (jar_same j0 sq) (by omega))
end
end KP

set_option Elab.async false
set_option linter.all false
set_option maxRecDepth 100000
set_option maxHeartbeats 4000000
/-! ### tables as data that can be shown; parts of tuples -/
namespace KP
open PySem PySem.Spec PyProof.Rows L2 KX KT KJ KS FR
structure FOk (x : Fr) : Prop where
  n : x.1.natAbs < 2 ^ 1920
  d : x.2.natAbs < 2 ^ 1920
structure TOk (t : Tab) : Prop where
  len : t.length ≤ 9
  row : ∀ r ∈ t, r.length ≤ 4 ∧ ∀ x ∈ r, FOk x
theorem log_ok {n : Nat} (h : n < 2 ^ 1920) : n.log2 < 1920 := by
  by_cases z : n = 0
  · subst z
    decide
  · exact (Nat.log2_lt z).mpr h
theorem shownAll_map : ∀ ds : List PyData, PyData.shownAll ds = ds.map PyData.shown
  | [] => rfl
  | d :: ds => by
    simp only [PyData.shownAll, List.map_cons]
    rw [shownAll_map ds]
theorem showableAll_of : ∀ {ds : List PyData}, (∀ d ∈ ds, d.showable = true) → PyData.showableAll ds = true
  | [], _ => rfl
  | d :: ds, h => by
    simp only [PyData.showableAll, Bool.and_eq_true]
    exact ⟨h d List.mem_cons_self, showableAll_of fun e he => h e (List.mem_cons_of_mem _ he)⟩
theorem hasDictAll_of : ∀ {ds : List PyData}, (∀ d ∈ ds, d.hasDict = false) → PyData.hasDictAll ds = false
  | [], _ => rfl
  | d :: ds, h => by
    simp only [PyData.hasDictAll, Bool.or_eq_false_iff]
    exact ⟨h d List.mem_cons_self, hasDictAll_of fun e he => h e (List.mem_cons_of_mem _ he)⟩
theorem depthAll_of {n : Nat} : ∀ {ds : List PyData}, (∀ d ∈ ds, d.depth ≤ n) → PyData.depthAll ds ≤ n
  | [], _ => by simp [PyData.depthAll]
  | d :: ds, h => by
    simp only [PyData.depthAll]
    have h1 := h d List.mem_cons_self
    have h2 := depthAll_of (ds := ds) fun e he => h e (List.mem_cons_of_mem _ he)
    omega
/-- what can be shown in so many signs -/
structure Sw (L n : Nat) (d : PyData) : Prop where
  ok : d.showable = true
  len : d.shown.length ≤ L
  dep : d.depth ≤ n
  nod : d.hasDict = false
theorem sum_le {α : Type} {f : α → Nat} {B : Nat} : ∀ {l : List α}, (∀ x ∈ l, f x ≤ B) → (l.map f).sum ≤ l.length * B
  | [], _ => by simp
  | x :: l, h => by
    have h1 := h x List.mem_cons_self
    have h2 := sum_le (l := l) fun y hy => h y (List.mem_cons_of_mem _ hy)
    rw [List.map_cons, List.sum_cons, List.length_cons, Nat.succ_mul]
    omega
theorem sw_int {i : Int} (h : i.natAbs < 2 ^ 1920) : Sw 1921 1 (.int i) :=
  ⟨by simpa [PyData.showable] using log_ok h, by simp only [PyData.shown]; exact int_text_len_1921 (log_ok h), by simp [PyData.depth], by simp [PyData.hasDict]⟩
theorem sw_tup {L n k : Nat} {ds : List PyData} (h : ∀ d ∈ ds, Sw L n d) (hk : ds.length ≤ k) : Sw (k * (L + 2) + 3) (n + 1) (.tuple ds) := by
  refine ⟨by simp only [PyData.showable]; exact showableAll_of fun d hd => (h d hd).ok, ?_, ?_, by simp only [PyData.hasDict]; exact hasDictAll_of fun d hd => (h d hd).nod⟩
  · simp only [PyData.shown]
    rw [shownAll_map]
    have a := tupleText_len_le (ds.map PyData.shown)
    rw [List.map_map, List.length_map] at a
    have b := sum_le (f := fun d : PyData => d.shown.length) (l := ds) fun d hd => (h d hd).len
    have c : ds.length * L + 2 * ds.length ≤ k * (L + 2) := by
      rw [Nat.mul_comm 2, ← Nat.mul_add]
      exact Nat.mul_le_mul_right _ hk
    have e : (List.map (Str.length ∘ PyData.shown) ds).sum ≤ ds.length * L := b
    have a' : (tupleText (ds.map PyData.shown)).length ≤ (List.map (Str.length ∘ PyData.shown) ds).sum + 2 * ds.length + 3 := a
    omega
  · simp only [PyData.depth]
    have := depthAll_of (ds := ds) fun d hd => (h d hd).dep
    omega
theorem sw_lst {L n k : Nat} {ds : List PyData} (h : ∀ d ∈ ds, Sw L n d) (hk : ds.length ≤ k) : Sw (k * (L + 2) + 3) (n + 1) (.list ds) := by
  refine ⟨by simp only [PyData.showable]; exact showableAll_of fun d hd => (h d hd).ok, ?_, ?_, by simp only [PyData.hasDict]; exact hasDictAll_of fun d hd => (h d hd).nod⟩
  · simp only [PyData.shown]
    rw [shownAll_map]
    have a := listText_len_le (ds.map PyData.shown)
    rw [List.map_map, List.length_map] at a
    have b := sum_le (f := fun d : PyData => d.shown.length) (l := ds) fun d hd => (h d hd).len
    have c : ds.length * L + 2 * ds.length ≤ k * (L + 2) := by
      rw [Nat.mul_comm 2, ← Nat.mul_add]
      exact Nat.mul_le_mul_right _ hk
    have e : (List.map (Str.length ∘ PyData.shown) ds).sum ≤ ds.length * L := b
    have a' : (listText (ds.map PyData.shown)).length ≤ (List.map (Str.length ∘ PyData.shown) ds).sum + 2 * ds.length + 3 := a
    omega
  · simp only [PyData.depth]
    have := depthAll_of (ds := ds) fun d hd => (h d hd).dep
    omega
theorem sw_tab {t : Tab} (h : TOk t) : Sw 200000 4 (flD t) := by
  have f : ∀ x, FOk x → Sw 3849 2 (fD x) := fun x hx => sw_tup (k := 2) (L := 1921) (n := 1) (fun d hd => by
    simp only [List.mem_cons, List.not_mem_nil, or_false] at hd
    rcases hd with rfl | rfl
    · exact sw_int hx.n
    · exact sw_int hx.d) (by simp)
  have r : ∀ r ∈ t, Sw 15407 3 (.tuple (r.map fD)) := fun r hr => sw_tup (k := 4) (L := 3849) (n := 2) (fun d hd => by
    obtain ⟨x, hx, rfl⟩ := List.mem_map.mp hd
    exact f x ((h.row r hr).2 x hx)) (by rw [List.length_map]; exact (h.row r hr).1)
  have z := sw_tup (k := 9) (L := 15407) (n := 3) (ds := t.map fun r => PyData.tuple (r.map fD)) (fun d hd => by
    obtain ⟨r', hr, rfl⟩ := List.mem_map.mp hd
    exact r r' hr) (by rw [List.length_map]; exact h.len)
  exact ⟨z.ok, Nat.le_trans z.len (by decide), z.dep, z.nod⟩
section
variable {K : PySem.W.Frag} {H : Hp}
theorem dp_fr {v : V} {x : Fr} (h : FrV K H v x) : Dp K H v (fD x) := by
  obtain ⟨a, rfl, q⟩ := h
  exact .tup (sqT_up q) (.cons (.int _) (.cons (.int _) .nil))
theorem dpAll_of {α : Type} {f : α → PyData} : ∀ {vs : List V} {xs : List α}, vs.length = xs.length → (∀ (k : Nat) (v : V) (x : α), vs[k]? = some v → xs[k]? = some x → Dp K H v (f x)) → DpAll K H vs (xs.map f)
  | [], [], _, _ => .nil
  | v :: vs, x :: xs, hl, h => .cons (h 0 v x rfl rfl) (dpAll_of (by simpa using hl) fun k v' x' a b => h (k + 1) v' x' (by simpa using a) (by simpa using b))
  | [], _ :: _, hl, _ => by simp at hl
  | _ :: _, [], hl, _ => by simp at hl
theorem dp_tab {v : V} {t : Tab} (h : TabT K H v t) : Dp K H v (flD t) := by
  obtain ⟨a, us, rfl, e, r⟩ := h
  refine .tup (SqT.of (tO_same H _ _ e)) (dpAll_of r.len fun k u row a b => ?_)
  obtain ⟨c, vs, rfl, e2, f⟩ := r.get k u row a b
  exact .tup (SqT.of (tO_same H _ _ e2)) (dpAll_of f.len fun k v x a b => dp_fr (f.get k v x a b))
theorem shw_tab {v : V} {t : Tab} (h : TabT K H v t) (ok : TOk t) : Shw K H v (flD t) := by
  have z := sw_tab ok
  exact ⟨z.ok, Nat.le_trans z.len (by decide), Nat.le_trans z.dep (by decide), .inl ⟨z.nod, dp_tab h⟩⟩
theorem shw_two {a : Addr} {v1 v2 : V} {t : Tab} (e : H a = some (.lst [v1, v2])) (h1 : TabT K H v1 t) (h2 : TabT K H v2 t) (ok : TOk t) : Shw K H (.ref a) (.list [flD t, flD t]) := by
  have s := sw_tab ok
  have z := sw_lst (k := 2) (L := 200000) (n := 4) (ds := [flD t, flD t]) (fun d hd => by
    simp only [List.mem_cons, List.not_mem_nil, or_false] at hd
    rcases hd with rfl | rfl <;> exact s) (by simp)
  exact ⟨z.ok, Nat.le_trans z.len (by decide), Nat.le_trans z.dep (by decide), .inl ⟨z.nod, .lst (SqL.of e) (.cons (dp_tab h1) (.cons (dp_tab h2) .nil))⟩⟩
/-- a beginning of a tuple -/
theorem sl_take {a : Addr} {xs : List V} {k : Nat} {Q : VK} (e : tO H a = some (.tup xs)) (q : ∀ b H', Same H H' → tO H' b = some (.tup (xs.take k)) → Q (.ref b) H') : rSlA K (.ref a) none (some (k : Int)) H Q := by
  refine ⟨a, xs, rfl, SqT.of (tO_same H _ _ e), fun z => ?_, fun _ p hp => ?_⟩
  · rw [HT.sIx_nat] at z
    refine q a H (Same.refl H) ?_
    rw [List.take_of_length_le (by have := z.2; omega)]
    exact e
  · have ec : cutV xs none (some (k : Int)) = xs.take k := by
      unfold cutV
      rw [HT.sIx_nat, HT.sIx_none, List.drop_zero, Nat.sub_zero, ← List.take_take, List.take_length]
    rw [ec]
    exact q p _ (same_upd hp) (tO_of upd_same)
theorem TabT.take {k : Nat} {a : Addr} {us : List V} {t : Tab} (e : tO H a = some (.tup (us.take k))) (r : RowsT K H us t) : TabT K H (.ref a) (t.take k) := by
  refine ⟨a, _, rfl, e, by rw [List.length_take, List.length_take, r.len], fun i u row h1 h2 => ?_⟩
  rw [List.getElem?_take] at h1 h2
  split at h1
  · rename_i hi
    rw [if_pos hi] at h2
    exact r.get i u row h1 h2
  · cases h1
theorem ThAll.take' : ∀ {xs : List V} {ds : List PyData} (k : Nat), ThAll H xs ds → ThAll H (xs.take k) (ds.take k)
  | _, _, 0, _ => .nil
  | _, _, _ + 1, .nil => .nil
  | _, _, k + 1, .cons a b => .cons a (ThAll.take' k b)
end
/-- the runs of a beginning are the beginning of the runs -/
theorem seenAll_take {n : NetM} {as : List Fr} {fl : List (List Fr)} {k : Nat} (h : k ≤ fl.length) : seenAll n as (fl.take k) = (seenAll n as fl).take (k + 1) := by
  unfold seenAll
  rw [← List.map_take, List.take_range, List.length_take, Nat.min_eq_left h, Nat.min_eq_left (by omega)]
  refine List.map_congr_left fun i hi => ?_
  have hi := List.mem_range.mp hi
  unfold heldI
  rw [List.take_take, Nat.min_eq_left (by omega)]
theorem hbn_ok {a N : Nat} {h : List Fr} (z : HBN a N h) (hN : N < 2 ^ 145) (ha : a ≤ 1775) {x : Fr} (hx : x ∈ h) : FOk x := by
  obtain ⟨M, m0, m1, b1⟩ := z
  have s := ((b1 x hx).sz m0 m1 hN).mono (b := 1920) (by omega) |>.d
  have s' := ((b1 x hx).sz m0 m1 hN).mono (b := 1920) (by omega) |>.n
  exact ⟨s', s⟩
theorem tab_tok {n : NetM} {as : List Fr} (g : GoodN n) (ok : AsOk n as) : TOk (tabF n as) := by
  have m4 := g.m4
  refine ⟨by rw [(sqF n as).len]; omega, fun r hr => ⟨by rw [tab_row hr]; exact m4, fun x hx => hbn_ok (tab_hb g ok hr) (Nat.lt_of_lt_of_le (show 23977 < 2 ^ 15 by decide) (Nat.pow_le_pow_right (by decide) (by decide))) (by omega) hx⟩⟩
theorem seen_tok {n : NetM} {as : List Fr} {fl : List (List Fr)} (g : GoodN n) (ok : AsOk n as) (hf : FlOk n fl) : TOk (seenAll n as fl) := by
  have l8 := hf.1
  refine ⟨by unfold seenAll; rw [List.length_map, List.length_range]; omega, fun r hr => ?_⟩
  unfold seenAll at hr
  obtain ⟨k, hk, rfl⟩ := List.mem_map.mp hr
  have hk := List.mem_range.mp hk
  obtain ⟨hb, hl⟩ := held_ok g ok hf (k := k) (by omega)
  refine ⟨by unfold seenF; rw [List.length_map]; exact Nat.le_trans g.ss.len g.m4, fun x hx => ?_⟩
  unfold seenF at hx
  obtain ⟨i, hi, rfl⟩ := List.mem_map.mp hx
  exact hbn_ok hb (n18 (by omega)) (by omega) (getD_mem (by rw [hl]; exact g.ss.lt i hi))
theorem FlOk.take {n : NetM} {fl : List (List Fr)} (h : FlOk n fl) (k : Nat) : FlOk n (fl.take k) := ⟨by rw [List.length_take]; have := h.1; omega, fun r hr => h.2 r (List.mem_of_mem_take hr)⟩
theorem TOk.take {t : Tab} (h : TOk t) (k : Nat) : TOk (t.take k) := ⟨by rw [List.length_take]; have := h.len; omega, fun r hr => h.row r (List.mem_of_mem_take hr)⟩
end KP

set_option Elab.async false
set_option linter.all false
set_option maxRecDepth 100000
set_option maxHeartbeats 4000000
/-! ### the law's check of one jar, and the law -/
namespace KP
open PySem PySem.Spec PyProof.Rows L2 KX KT KJ KS FR
abbrev lSame3 : Stmt := top 51
abbrev lRight3 : Stmt := top 71
abbrev lLaw3 : Stmt := top 72
/-- f(k = v, ..) -/
theorem pe_callK0 {X : Cx} {CX : CXT} {k : Nat} {f : Addr} {fd : FuncData} {ps ks : List Str} {sp : Sp} {E : XK} {x : Str} {p pos : Pos} {kws : List Keyword} {tk : TA} {g : List Value → List Value → List Value} {gV : List V → List V → List V}
    (F : FnOk X.prog X.w X.K X.mg X.base CX k f fd ps sp) (hr : Room k X.A) (hg : Gl X x) (hm : X.mg x = some (.ref f)) (hk : PySem.W.keepIn X.K (.ref f) = true) (hb : KBinds X.K fd ps ks g gV) (hx : Passes CX X E) (hkw : PK X kws tk)
    (hall : (backToKw pos (keywordEach kws X.env)).all (·.1.isSome) = true := by rfl) (hks : (backToKw pos (keywordEach kws X.env)).filterMap (·.1) = ks := by rfl) (hdb : (x == ("__debug__" : Str)) = false := by decide)
    (hpl : ((backTo pos (starEach [] X.env)).any (·.1) || (backToKw pos (keywordEach kws X.env)).any (·.1.isNone)) = false := by rfl) : PE X (.Call (.Name x p) [] kws pos) (tCallK sp gV E tNil tk) :=
  ⟨fun pins s σ H Q I h => wpAny_Call_Name_kw (ld_glob I hg hm (PySem.W.callWith_KW0 (h₀ := X.base) I.ok.mod.kin hk hall (thn (hkw.run pos pins s σ H _ I h) fun ws s2 ⟨zs, H2, I2, rz, q2⟩ => ⟨I2.kIn, by
    rw [hks]
    exact run_fnk F hr hb hx I2 .nil rz q2⟩) hpl) hdb)⟩
def Bt (j : Addr) (H H' : Hp) : Prop := ∀ b u, b ≠ j → H b = some u → (∀ q, u ≠ .tbl q) → H' b = some u
theorem Bt.but {j : Addr} {H H1 H2 : Hp} (a : Bt j H H1) (b : KJ.But j H1 H2) : Bt j H H2 := fun c u n e t => b c u n (a c u n e t)
theorem Bt.sm {j : Addr} {H H1 H2 : Hp} (a : Bt j H H1) (b : Sm H1 H2) : Bt j H H2 := fun c u n e t => b c u (a c u n e t) t
theorem jar_sm {H H' : Hp} {j : Addr} {n : Nat} (h : JarAt H j n) (s : Sm H H') : JarAt H' j n := by
  obtain ⟨a, b, c, e, r⟩ := h
  exact ⟨a, b, c, s _ _ e (fun _ z => by cases z), r⟩
theorem tbs_but {Ps : List Addr} {H H' : Hp} {j : Addr} {n : Nat} (t : Tbs Ps H) (jr : JarAt H j n) (b : KJ.But j H H') : Tbs Ps H' := fun P hP => by
  obtain ⟨ps, e, k⟩ := t P hP
  obtain ⟨_, _, _, ej, _⟩ := jr
  exact ⟨ps, b _ _ (fun z => by rw [z, ej] at e; cases e) e, k⟩
theorem tbs_same {Ps : List Addr} {H H' : Hp} (t : Tbs Ps H) (b : Same H H') : Tbs Ps H' := fun P hP => by
  obtain ⟨ps, e, k⟩ := t P hP
  exact ⟨ps, b _ _ e, k⟩
theorem sq_sm {K : PySem.W.Frag} {H H' : Hp} {a : Addr} {xs : List V} (s : Sm H H') (h : SqL K H a xs) : SqL K H' a xs := by
  rcases h with (h | ⟨o, h⟩) | h
  · exact .inl (.inl (s _ _ h fun _ z => by cases z))
  · exact .inl (.inr ⟨o, s _ _ h fun _ z => by cases z⟩)
  · exact .inr h
def spSame3 (K : PySem.W.Frag) : Sp := fun vs H Q _ => ∃ a b d, vs = [a, b] ∧ Shw K H a d ∧ Shw K H b d ∧ Q (.bl true) H
def spRight3 (Ps : List Addr) : Sp := fun vs H Q _ => ∃ j, vs = [.ref j] ∧ JarAt H j 0 ∧ Tbs Ps H ∧ ∀ H', Bt j H H' → Tbs Ps H' → Q (.bl true) H'
def spLaw3 (K : PySem.W.Frag) (Ps : List Addr) : Sp := fun vs H Q _ => ∃ (a : Addr) (ns : List Int), vs = [.ref a] ∧ SqL K H a (ns.map V.int) ∧ ns.length ≤ 63 ∧ Tbs Ps H ∧ ∀ H', Q (.bl true) H'
def gRev (us ws : List Value) : List Value := us ++ ws.reverse
def gRevV (us ws : List V) : List V := us ++ ws.reverse
section
variable {P : Program} {w : World} {K : PySem.W.Frag} {mg : Str → Option Value} {base : Heap}
theorem scSm3 : FnScope ["told", "due"] ["told", "due"] (defScope lSame3) := ⟨rfl, rfl, rfl, by decide +kernel, rfl, by decide +kernel, by decide +kernel⟩
theorem ok_same3 {f : Addr} {fd : FuncData} (F : Fun K "_law_same" "_law_same" lSame3 f fd) (T : TxD mg) : FnG P w K mg base 1 f fd ["told", "due"] (spSame3 K) := by
  refine FnG.mk' F scSm3 (fun {vs H Q E} h => ?_) (fun cdv A outer s H vs Q E qu hr h => ?_)
  · obtain ⟨a, b, x, rfl, _⟩ := h
    rfl
  · obtain ⟨a, b, d, rfl, ea, eb, k⟩ := h
    have qu' : Quiet (A.deeper (envOfC "_law_same" (defScope lSame3) s.heap.objs.size f cdv)) := qu
    have hu : (A.deeper (envOfC "_law_same" (defScope lSame3) s.heap.objs.size f cdv)).units + 64 < cLine := by have := hr.un; omega
    refine ⟨_, pss_one (ps_ret (pe_cmpR op_eq (pe_callB (cr_repr qu' hu) (by rfl) T.repr (by decide +kernel) (pa_cons (pv 0) pa_nil)) (pe_callB (cr_repr qu' hu) (by rfl) T.repr (by decide +kernel) (pa_cons (pv 1) pa_nil)) (nomark _))), ?_⟩
    refine ⟨_, rfl, _, _, rfl, ea, _, rfl, _, _, rfl, eb, rfl, ?_⟩
    rw [decide_eq_true rfl]
    exact k
end
end KP

set_option Elab.async false
set_option linter.all false
set_option maxRecDepth 100000
set_option maxHeartbeats 4000000
/-! ### the law -/
namespace KP
open PySem PySem.Spec PyProof.Rows L2 KX KT KJ KS FR
section
variable {P : Program} {w : World} {K : PySem.W.Frag} {mg : Str → Option Value} {base : Heap}
theorem scLw3 : FnScope ["script", "turn"] ["script"] (defScope lLaw3) := ⟨rfl, rfl, rfl, by decide +kernel, rfl, by decide +kernel, by decide +kernel⟩
theorem ok_law3 {f fR fJ : Addr} {fd fdR fdJ : FuncData} {Ps : List Addr} (F : Fun K "law" "law" lLaw3 f fd) (T : TxD mg)
    (FR : FnG P w K mg base 14 fR fdR ["jar"] (spRight3 Ps)) (mR : mg "_law_right" = some (.ref fR)) (kR : PySem.W.keepIn K (.ref fR) = true) (bR : Binds K fdR ["jar"] [])
    (FJ : FnOk P w K mg base CX0 1 fJ fdJ ["script", "turn"] (spJar K)) (mJ : mg "_law_jar" = some (.ref fJ)) (kJ : PySem.W.keepIn K (.ref fJ) = true) (bJ : Binds K fdJ ["script", "turn"] []) :
    FnG P w K mg base 15 f fd ["script"] (spLaw3 K Ps) := by
  refine FnG.mk' F scLw3 (fun {vs H Q E} h => ?_) (fun cdv A outer s H vs Q E qu hr h => ?_)
  · obtain ⟨j, _, rfl, _⟩ := h
    rfl
  · obtain ⟨a, ns, rfl, hS, hn, tb, k⟩ := h
    have hr1 : Room 1 _ := hr.mono (by decide)
    have qu' : Quiet (A.deeper (envOfC "law" (defScope lLaw3) s.heap.objs.size f cdv)) := qu
    refine ⟨_, pss_one (ps_ret (pe_callB (cr_all rfl) (by rfl) T.all (by decide +kernel) (pa_cons (pe_lc (own := [("turn", 1)]) (g := gName 1) (tt := tYes) rfl scLw3.nd
      (pi_range1 rfl T.range (pa_cons (pe_callB (call_max2 rfl) (by rfl) T.max (by decide +kernel) (pa_cons pe_int (pa_cons (pe_callB (call_min2 rfl) (by rfl) T.min (by decide +kernel) (pa_cons (pe_callB call_len_seq (by rfl) T.len PySem.boot_len (pa_cons (pv 0) pa_nil)) (pa_cons pe_int pa_nil))) pa_nil))) pa_nil))
      (blkOk_by (N := ["script", "turn"]) (sc := defScope lLaw3) (by decide +kernel)) (fun _ _ _ _ _ => pg_name (i := 1) scLw3.nd rfl (Or.inl rfl)) (fun _ _ _ _ _ => pts_nil)
      (fun _ _ _ _ _ => pe_quiet FR qu' hr rfl mR kR bR (pa_cons (pe_call FJ hr1 rfl mJ kJ bJ .nil pass0 (pa_cons (pv 0) (pa_cons (pv 1) pa_nil))) pa_nil))) pa_nil))), ?_⟩
    refine ⟨_, rfl, a, _, rfl, .inl hS, _, _, rfl, _, _, rfl, _, rfl, ?_, ?_, fun D hD => ?_⟩
    · split <;> split <;> omega
    · rw [List.length_map]
      split <;> split <;> omega
    · rw [List.length_map]
      generalize hN : (if (if (4 : Int) < (ns.length : Nat) then (4 : Int) else (ns.length : Nat)) > 2 then (if (4 : Int) < (ns.length : Nat) then (4 : Int) else (ns.length : Nat)) else (2 : Int)).toNat = N
      have hN4 : N ≤ 4 := by
        rw [← hN]
        split <;> split <;> omega
      refine lc_range (lo := 0) (n := N) (fun n H' => Sm H H' ∧ Tbs Ps H' ∧ H' D = some (.lst ((List.replicate n true).map V.bl))) ⟨Sm.same (same_upd hD), tbs_same tb (same_upd hD), upd_same⟩ ?_ ?_
      · rintro i H1 hi ⟨s1, t1, hD1⟩
        refine ⟨rfl, ?_⟩
        refine ⟨_, rfl, _, rfl, a, ns, i, by rw [Int.zero_add]; rfl, sq_sm s1 hS, hn, by omega, fun j H2 hj s2 jr => ?_⟩
        refine ⟨j, rfl, jr, tbs_same t1 s2, fun H3 b3 t3 => ?_⟩
        have nD : D ≠ j := ne_of_none hD1 hj
        refine ⟨_, b3 _ _ nD (s2 _ _ hD1) (fun _ z => by cases z), ?_, fun b o e nt => ?_, fun p hp => ?_, ?_⟩
        · rw [List.length_map, List.length_replicate]
          exact Nat.lt_of_lt_of_le hi (Nat.le_trans hN4 (by decide))
        · have nb : b ≠ D := fun z => by
            rw [z, hD] at e
            cases e
          rw [upd_ne nb]
          have e1 := s1 _ _ e nt
          exact b3 _ _ (ne_of_none e1 hj) (s2 _ _ e1) nt
        · obtain ⟨ps, e, c⟩ := t3 p hp
          have e3 := b3 _ _ nD (s2 _ _ hD1) (fun _ z => by cases z)
          exact ⟨ps, by rw [upd_ne (fun z => by rw [z, e3] at e; cases e)]; exact e, c⟩
        · rw [upd_same, List.replicate_succ', List.map_append]
          rfl
      · rintro H1 ⟨s1, t1, hD1⟩
        refine ⟨D, _, rfl, SqL.of hD1, ?_⟩
        have al : (List.replicate N true).all id = true := by
          rw [List.all_eq_true]
          intro x hx
          rw [List.eq_of_mem_replicate hx]
          rfl
        rw [al]
        exact k H1
end
end KP

set_option Elab.async false
set_option linter.all false
set_option maxRecDepth 100000
set_option maxHeartbeats 4000000
/-! ### the end of a quiet law with tables -/
namespace KG
open PySem PySem.Spec PyProof.Rows L2 KX
/-- what is known of the table of a top def -/
abbrev TabFact (mg : Str → Option Value) (h : Heap) (y : Str) : Prop := ∃ (a : Addr) (o : Obj) (fd : FuncData) (c P : Addr), mg y = some (.ref a) ∧ h.get? a = some o ∧ o.data = .func fd ∧ fd.code = .ref c ∧ PySem.W.CodeHd h c P ∧ h.get? P = some { cls := .none, data := .fields #[] }
theorem walkGT {l : PySem.W.OpenLaw} {n k : Nat} {q : Program} {loose : List Str} {XP : (Str → Option Value) → Heap → Prop} {YP : World → Heap → Prop} {d : DefRec} {K : Params → PySem.W.Frag} {x : Str}
    (hn : l.most = some n) (hn2 : n ≤ sizeLine) (hdf : d.params.defaults = []) (hr : Room k callerA) (hY : ∀ (w : World) (h : Heap), YP w h → (K w.params).In h)
    (F : ∀ (w : World) (mg : Str → Option Value) (fa : Addr) (h : Heap), (K w.params).In h → h.Ns mainGlobals mg → mg d.name = some (.ref fa) → (∀ y : Str, ((recsOf q).any fun e => e.name == y) = true → TabFact mg h y) →
      ∃ (fd : FuncData) (cs : List (Addr × Addr)) (sp : Sp), (∀ p ∈ cs, h.get? p.2 = some { cls := .none, data := .fields #[] }) ∧ (∀ p ∈ cs, (K w.params).lookup p.2 = none) ∧ (∀ p ∈ cs, PySem.W.CodeHd h p.1 p.2) ∧ (∀ (s : Shared) (u : Value), BindsTo s fd ⟨[u], []⟩ [(x, u)]) ∧
        (∀ (H : Hp) (a : Addr) (ns : List Int), ns.length ≤ n → (∀ p ∈ cs, H p.2 = some (.tbl #[])) → SqL (K w.params) H a (ns.map V.int) → sp [.ref a] H (fun v _ => v = .bl true) fun _ _ _ => False) ∧
        ∀ base : Heap, (K w.params).In base → base.Ns mainGlobals mg → (∀ p ∈ cs, GxR.TabB base mg p.1 p.2) → FnG l.prog w (K w.params) mg base k fa fd [x] sp) :
    PySem.W.WalkO q loose XP YP l.row.toRowW d [] (fun f vs => PySem.call f vs) :=
  Att.attach_call hn hdf fun w s₀ s₁ mg mb fa o pm cd doc a vs ns G Y ho hd hcd hmg hobj hints hlen hg => by
    obtain ⟨fd, cs, sp, hT, nT, C, b, hsp, f⟩ := F w mg fa _ (hY w _ Y) G.T.g hmg fun y hy => by
      obtain ⟨e, he, en⟩ := List.any_eq_true.mp hy
      have en : e.name = y := beq_iff_eq.mp en
      obtain ⟨a1, o1, fd1, c1, P1, h1, h2, h3, h4, h5, h6⟩ := G.T.tab e he
      rw [en] at h1
      exact ⟨a1, o1, fd1, c1, P1, h1, h2, h3, h4, PySem.W.CodeHd.of h5 h6, h6.2⟩
    exact lawGT (hY w _ Y) G.T.g G.T.b G.T.builtins G.T.nolimit hg hT nT C G.T.bmain hobj hints (Nat.le_trans hlen hn2) hr f b fun H h1 h2 => hsp H a ns hlen h1 h2
/-- a def whose table is known -/
theorem tab_def {K : PySem.W.Frag} {h : Heap} {mg : Str → Option Value} {y : Str} {f : Addr} {oc : Value} {od : Option Addr} {fd : FuncData} {sl : Array (Option Value)} (X : K.In h) (m : mg y = some (.ref f)) (l : K.lookup f = some ⟨oc, od, .func fd, sl⟩) (nt : PySem.W.noTabs K = true) (t : TabFact mg h y) :
    ∃ c P, fd.code = .ref c ∧ PySem.W.CodeHd h c P ∧ h.get? P = some { cls := .none, data := .fields #[] } ∧ K.lookup P = none := by
  obtain ⟨a, o, fd', c, P, h1, h2, h3, h4, h5, h6⟩ := t
  rw [m] at h1
  cases h1
  have e := X _ _ l
  rw [e] at h2
  cases h2
  cases h3
  refine ⟨c, P, h4, h5, h6, ?_⟩
  cases z : K.lookup P with
  | none => rfl
  | some u =>
    have e := X _ _ z
    rw [h6] at e
    cases e
    have := List.all_eq_true.mp nt _ (PySem.W.mem_of_lookupK z)
    cases this
end KG

set_option Elab.async false
set_option linter.all false
set_option maxRecDepth 100000
set_option maxHeartbeats 4000000
/-! ### looks: the data's bounds; tuples of tables, lists of lists -/
namespace KP
open PySem PySem.Spec PyProof.Rows L2 KX KT KJ KS FR
structure TabsT (K : PySem.W.Frag) (H : Hp) (us : List V) (c : List Tab) : Prop where
  len : us.length = c.length
  get : ∀ (i : Nat) (u : V) (t : Tab), us[i]? = some u → c[i]? = some t → TabT K H u t
theorem TabsT.tk {K : PySem.W.Frag} {H H' : Hp} {us : List V} {c : List Tab} (h : TabsT K H us c) (s : Tk H H') : TabsT K H' us c := ⟨h.len, fun i u t a b => (h.get i u t a b).tk s⟩
theorem TabsT.nil {K : PySem.W.Frag} {H : Hp} : TabsT K H [] [] := ⟨rfl, fun k v x a => by simp at a⟩
theorem TabsT.snoc {K : PySem.W.Frag} {H : Hp} {vs : List V} {c : List Tab} (h : TabsT K H vs c) {w : V} {x : Tab} (f : TabT K H w x) : TabsT K H (vs ++ [w]) (c ++ [x]) := by
  have hl := h.len
  refine ⟨by rw [List.length_append, List.length_append, hl]; rfl, fun i v y a b => ?_⟩
  by_cases c : i < vs.length
  · rw [List.getElem?_append_left c] at a
    rw [List.getElem?_append_left (by omega)] at b
    exact h.get i v y a b
  · rw [List.getElem?_append_right (by omega)] at a
    rw [List.getElem?_append_right (by omega)] at b
    have e : i - vs.length = 0 := by
      have := (List.getElem?_eq_some_iff.mp a).1
      rw [List.length_singleton] at this
      omega
    rw [e] at a
    rw [← hl, e] at b
    cases a
    cases b
    exact f
def CubT (K : PySem.W.Frag) (H : Hp) (v : V) (c : List Tab) : Prop := ∃ a us, v = .ref a ∧ tO H a = some (.tup us) ∧ TabsT K H us c
theorem CubT.tk {K : PySem.W.Frag} {H H' : Hp} {v : V} {c : List Tab} (h : CubT K H v c) (s : Tk H H') : CubT K H' v c := by
  obtain ⟨b, vs, e, e2, f⟩ := h
  exact ⟨b, vs, e, s _ _ e2, f.tk s⟩
/-- lists of fractions in a list, none at an address of ns -/
structure RowsLL (K : PySem.W.Frag) (H : Hp) (ns : List Addr) (us : List V) (t : Tab) : Prop where
  len : us.length = t.length
  get : ∀ (i : Nat) (u : V) (row : List Fr), us[i]? = some u → t[i]? = some row → ∃ r vs, u = .ref r ∧ r ∉ ns ∧ H r = some (.lst vs) ∧ FrL K H vs row
theorem RowsLL.same {K : PySem.W.Frag} {H H' : Hp} {ns : List Addr} {us : List V} {t : Tab} (h : RowsLL K H ns us t) (s : Same H H') : RowsLL K H' ns us t :=
  ⟨h.len, fun i u row a b => let ⟨r, vs, e, n, e2, f⟩ := h.get i u row a b; ⟨r, vs, e, n, s _ _ e2, f.tk (Tk.same s)⟩⟩
theorem RowsLL.put {K : PySem.W.Frag} {H : Hp} {ns : List Addr} {us : List V} {t : Tab} {q : Addr} {xs ys : List V} (h : RowsLL K H ns us t) (hq : q ∈ ns) (e : H q = some (.lst xs)) : RowsLL K (upd H q (.lst ys)) ns us t :=
  ⟨h.len, fun i u row a b => let ⟨r, vs, e1, n, e2, f⟩ := h.get i u row a b; ⟨r, vs, e1, n, by rw [upd_ne (show r ≠ q from fun z => n (by rw [z]; exact hq))]; exact e2, f.tk (Tk.put e)⟩⟩
theorem RowsLL.weak {K : PySem.W.Frag} {H : Hp} {ns ms : List Addr} {us : List V} {t : Tab} (h : RowsLL K H ns us t) (z : ∀ a ∈ ms, a ∈ ns) : RowsLL K H ms us t :=
  ⟨h.len, fun i u row a b => let ⟨r, vs, e1, n, e2, f⟩ := h.get i u row a b; ⟨r, vs, e1, fun y => n (z _ y), e2, f⟩⟩
theorem RowsLL.nil {K : PySem.W.Frag} {H : Hp} {ns : List Addr} : RowsLL K H ns [] [] := ⟨rfl, fun k v x a => by simp at a⟩
theorem RowsLL.snoc {K : PySem.W.Frag} {H : Hp} {ns : List Addr} {us : List V} {t : Tab} (h : RowsLL K H ns us t) {r : Addr} {vs : List V} {x : List Fr} (nr : r ∉ ns) (e : H r = some (.lst vs)) (f : FrL K H vs x) : RowsLL K H ns (us ++ [.ref r]) (t ++ [x]) := by
  have hl := h.len
  refine ⟨by rw [List.length_append, List.length_append, hl]; rfl, fun i v y a b => ?_⟩
  by_cases c : i < us.length
  · rw [List.getElem?_append_left c] at a
    rw [List.getElem?_append_left (by omega)] at b
    exact h.get i v y a b
  · rw [List.getElem?_append_right (by omega)] at a
    rw [List.getElem?_append_right (by omega)] at b
    have e' : i - us.length = 0 := by
      have := (List.getElem?_eq_some_iff.mp a).1
      rw [List.length_singleton] at this
      omega
    rw [e'] at a
    rw [← hl, e'] at b
    cases a
    cases b
    exact ⟨r, vs, rfl, nr, e, f⟩
theorem pi_listK {X : Cx} {K : PySem.W.Frag} {tg e : Expr} {te : TE} (hk : X.K = K) (he : PE X e te) : PI X tg e (iList K te) := hk ▸ pi_list he
/-- how many powers are asked for -/
def ManyOk (n : NetM) (k : Nat) : Prop := k ≤ 10 ∨ (n.m ≤ 2 ∧ n.ps.length ≤ 5 ∧ k ≤ 20)
theorem ManyOk.le {n : NetM} {k j : Nat} (h : ManyOk n k) (hj : j ≤ k) : ManyOk n j := by
  rcases h with h | ⟨a, b, c⟩
  · exact .inl (by omega)
  · exact .inr ⟨a, b, by omega⟩
theorem ManyOk.l20 {n : NetM} {k : Nat} (h : ManyOk n k) : k ≤ 20 := by
  rcases h with h | ⟨a, b, c⟩ <;> omega
theorem sent_bdG {t : Tab} {m p Nt c : Nat} (hb : TBd p Nt t) (sq : Sq m t) (mc : m ≤ c) {a N : Nat} {h : List Fr} (z : HBN a N h) (hl : h.length = m) : HBN (p + a) (c * (Nt * N)) (sentF t h) := by
  obtain ⟨Mt, m0, m1, b1⟩ := hb
  obtain ⟨M, p0, p1, b2⟩ := z
  refine ⟨Mt * M, Nat.mul_pos m0 p0, pow_mul_lt m1 p1, fun x hx => ?_⟩
  obtain ⟨row, hrow, rfl⟩ := List.mem_map.mp hx
  have lr : row.length = m := by
    obtain ⟨i, hi, rfl⟩ := List.getElem_of_mem hrow
    have z := sq.row i (by rw [← sq.len]; exact hi)
    rw [List.getD_eq_getElem?_getD, List.getElem?_eq_getElem hi] at z
    exact z
  have zz := dotI_bd (N := Nt) (N' := N) m0 p0 (b1 row hrow) b2 (by omega) (Nat.le_refl row.length)
  exact zz.mono (Nat.dvd_refl _) (Nat.mul_le_mul_right _ (by omega))
theorem col_bd {t : Tab} {m p Nt c q : Nat} (hb : TBd p Nt t) (sq : Sq m t) (mc : m ≤ c) (hq : c * Nt ≤ 2 ^ q) (f : Nat) : ∀ k, HBN (p * k + 1) (2 ^ (q * k)) (colF t m f k)
  | 0 => ⟨1, by decide, by rw [Nat.mul_zero]; decide, fun x hx => by
      have hx : x ∈ row0 m f := hx
      unfold row0 at hx
      obtain ⟨k, _, rfl⟩ := List.mem_map.mp hx
      rw [Nat.mul_zero]
      split <;> exact ⟨by decide, ⟨1, rfl⟩, by decide⟩⟩
  | k + 1 => by
    have z := sent_bdG hb sq mc (col_bd hb sq mc hq f k) (colF_len sq f k)
    refine z.mono (by rw [Nat.mul_succ]; omega) ?_
    rw [← Nat.mul_assoc, Nat.mul_succ, Nat.pow_add, Nat.mul_comm (2 ^ (q * k))]
    exact Nat.mul_le_mul_right _ hq
theorem tab_tbd {n : NetM} {as : List Fr} (g : GoodN n) (ok : AsOk n as) : TBd (1 + 10 * n.ps.length) (1 + 1998 * n.ps.length) (tabF n as) := by
  have z := tabI_bd g ok (Nat.le_refl _)
  rw [tabI_all] at z
  exact z
theorem TBd.mono {a a' N N' : Nat} {t : Tab} (h : TBd a N t) (ha : a ≤ a') (hN : N ≤ N') : TBd a' N' t := let ⟨M, m0, m1, b⟩ := h
  ⟨M, m0, Nat.lt_of_lt_of_le m1 (Nat.pow_le_pow_right (by decide) ha), fun r hr x hx => (b r hr x hx).mono (Nat.dvd_refl _) hN⟩
theorem col_hb {n : NetM} {as : List Fr} (g : GoodN n) (ok : AsOk n as) {k : Nat} (hk : ManyOk n k) (f : Nat) : ∃ a b, HB a b (colF (tabF n as) n.m f k) ∧ a + b ≤ 1400 := by
  have z := tab_tbd g ok
  have l := g.len
  have m4 := g.m4
  have sq := sqF n as
  rcases hk with hk | ⟨m2, p5, k20⟩
  · have c := col_bd (z.mono (a' := 121) (N' := 23977) (by omega) (by omega)) sq m4 (q := 17) (by decide) f k
    exact ⟨121 * k + 1, 17 * k + 1, c.hb (Nat.pow_lt_pow_right (by decide) (by omega)), by omega⟩
  · have c := col_bd (z.mono (a' := 51) (N' := 9991) (by omega) (by omega)) sq m2 (q := 15) (by decide) f k
    exact ⟨51 * k + 1, 15 * k + 1, c.hb (Nat.pow_lt_pow_right (by decide) (by omega)), by omega⟩
theorem col_dot {n : NetM} {as : List Fr} (g : GoodN n) (ok : AsOk n as) {k : Nat} (hk : ManyOk n k) (f : Nat) : ∀ row ∈ tabF n as, DotOk row (colF (tabF n as) n.m f k) := fun row hr => by
  have lr := tab_row hr
  have m4 := g.m4
  obtain ⟨a, b, h, hz⟩ := col_hb g ok hk f
  exact ⟨by rw [lr, colF_len (sqF n as)], by omega, 121, 15, a, b, (tab_hb g ok hr).hb (by decide), h, by omega⟩
theorem HB.fok {a b : Nat} {h : List Fr} (z : HB a b h) (hz : a + b ≤ 1900) {x : Fr} (hx : x ∈ h) : FR.Sz 1900 x := let ⟨M, N, m0, m1, n1, b1⟩ := z; ((b1 x hx).sz m0 m1 n1).mono hz
/-- the columns of one power -/
def cols (n : NetM) (t : Tab) (k : Nat) : Tab := n.fs.map fun f => colF t n.m f k
theorem cols_len (n : NetM) (t : Tab) (k : Nat) : (cols n t k).length = n.fs.length := List.length_map ..
theorem cols_get {n : NetM} {t : Tab} {k i : Nat} (h : i < n.fs.length) : (cols n t k)[i]? = some (colF t n.m n.fs[i] k) := by
  unfold cols
  rw [List.getElem?_map, List.getElem?_eq_getElem h]
  rfl
theorem looksF_succ {n : NetM} {as : List Fr} {k : Nat} : looksF n as (k + 1) = looksF n as k ++ [looksRow n (tabF n as) k] := by
  unfold looksF
  rw [List.range_succ, List.map_append]
  rfl
theorem looksF_len (n : NetM) (as : List Fr) (k : Nat) : (looksF n as k).length = k := by
  unfold looksF
  rw [List.length_map, List.length_range]
end KP

set_option Elab.async false
set_option linter.all false
set_option maxRecDepth 100000
set_option maxHeartbeats 4000000
/-! ### looks_in -/
namespace KP
open PySem PySem.Spec PyProof.Rows L2 KX KT KJ KS FR
abbrev sLooksIn : Stmt := top 44
def spLooks (K : PySem.W.Frag) (Ps : List Addr) : Sp := fun vs H Q _ => ∃ (x y : V) (n : NetM) (as : List Fr) (k : Nat), vs = [x, y, .int (k : Nat)] ∧ GoodN n ∧ Th (tO H) x (NetM.d n) ∧ AsOk n as ∧ Th (tO H) y (.tuple (as.map fD)) ∧ ManyOk n k ∧ Tbs Ps H ∧ ∀ v H', Grown Ps H H' → CubT K H' v (looksF n as k) → Q v H'
abbrev nLk : List Str := ["net", "assignment", "many", "table", "unit", "columns", "looks", "_", "tank", "column"]
abbrev scTank : Scope := { kind := .function, names := [(".0", .local), ("tank", .cell), ("tuple", .globalImplicit), ("columns", .cell)], isGenerator := false, isCoroutine := false }
theorem scLk : FnScope nLk ["net", "assignment", "many"] (defScope sLooksIn) := ⟨rfl, rfl, rfl, by decide +kernel, rfl, by decide +kernel, by decide +kernel⟩
theorem many_isW {n : NetM} {k : Nat} (h : ManyOk n k) : isW (.int (k : Nat)) 0 20 = true := by
  have := h.l20
  simp only [isW, Bool.and_eq_true, decide_eq_true_eq]
  omega
section
variable {P : Program} {w : World} {K : PySem.W.Frag} {mg : Str → Option Value} {base : Heap}
theorem ok_looksin {f fN fA fI fT fU fS aU aN : Addr} {fd fdN fdA fdI fdT fdU fdS : FuncData} {Ps : List Addr} {uB : Value} (F : Fun K "looks_in" "looks_in" sLooksIn f fd) (T : TxD mg) (C : Cst K mg aU aN) (mB : mg "MOST_LOOKS" = some uB) (rB : RelV (.int 20) uB)
    (FN : FnOk P w K mg base CX0 9 fN fdN ["net"] (spNeedNet Ps)) (mN : mg "need_net" = some (.ref fN)) (kN : PySem.W.keepIn K (.ref fN) = true) (bN : Binds K fdN ["net"] [])
    (FA : FnOk P w K mg base CX0 4 fA fdA ["net", "assignment"] spNeedAs) (mA : mg "need_assignment" = some (.ref fA)) (kA : PySem.W.keepIn K (.ref fA) = true) (bA : Binds K fdA ["net", "assignment"] [])
    (FI : FnOk P w K mg base CX0 2 fI fdI ["value", "least", "most"] spWithin) (mI : mg "is_within" = some (.ref fI)) (kI : PySem.W.keepIn K (.ref fI) = true) (bI : Binds K fdI ["value", "least", "most"] [])
    (FT : FnOk P w K mg base CX0 10 fT fdT ["net", "assignment"] (spTable K Ps)) (mT : mg "table_of" = some (.ref fT)) (kT : PySem.W.keepIn K (.ref fT) = true) (bT : Binds K fdT ["net", "assignment"] [])
    (FU : FnOk P w K mg base CX0 1 fU fdU ["many"] (spUnit K)) (mU : mg "_unit_rows" = some (.ref fU)) (kU : PySem.W.keepIn K (.ref fU) = true) (bU : Binds K fdU ["many"] [])
    (FS : FnOk P w K mg base CX0 4 fS fdS ["table", "held"] (spSent K)) (mS : mg "sent" = some (.ref fS)) (kS : PySem.W.keepIn K (.ref fS) = true) (bS : Binds K fdS ["table", "held"] []) :
    FnOk P w K mg base CX0 11 f fd ["net", "assignment", "many"] (spLooks K Ps) := by
  refine F.ok scLk (fun vs H Q E h => ?_) (fun cdv A outer s H vs Q E hr h => ?_)
  · obtain ⟨x, y, n, as, k, rfl, _⟩ := h
    rfl
  · obtain ⟨x, y, n, as, m, rfl, g, th, ok, ty, hm, tb, k⟩ := h
    refine ⟨_, pss_cons (ps_expr (pe_call FN (hr.mono (by decide)) rfl mN kN bN .nil pass0 (pa_cons (pv 0) pa_nil)))
      (pss_cons (ps_expr (pe_call FA (hr.mono (by decide)) rfl mA kA bA .nil pass0 (pa_cons (pv 0) (pa_cons (pv 1) pa_nil))))
      (pss_cons (ps_if (pt_not (pt_val (pe_call FI (hr.mono (by decide)) (by rfl) mI kI bI .nil pass0 (pa_cons (pv 2) (pa_cons pe_int (pa_cons (pe_glob (by rfl) mB rB) pa_nil)))))) (pss_one ps_never) pss_nil)
      (pss_cons (ps_set (i := 3) scLk.nd rfl (Or.inr rfl) (pe_call FT hr rfl mT kT bT .nil pass0 (pa_cons (pv 0) (pa_cons (pv 1) pa_nil))))
      (pss_cons (ps_set (i := 4) scLk.nd rfl (Or.inr rfl) (pe_call FU (hr.mono (by decide)) rfl mU kU bU .nil pass0 (pa_cons (pe_ix ix_tup (pv 0) pe_int (fun _ _ => rfl)) pa_nil)))
      (pss_cons (ps_set (i := 5) scLk.nd rfl (Or.inr rfl) (pe_lc (own := [("tank", 8)]) (g := gName 8) rfl scLk.nd (pi_tup (pe_ix ix_tup (pv 0) pe_int (fun _ _ => rfl))) (blkOk_by (N := nLk) (sc := defScope sLooksIn) (by decide +kernel))
          (fun _ _ _ _ _ => pg_name (i := 8) scLk.nd rfl (Or.inl rfl)) (fun _ _ _ _ _ => pts_nil) (fun _ _ _ _ _ => pe_ix (r := rIxL K) (by exact ix_list) (pv 4) (pv 8) (fun _ _ => rfl))))
      (pss_cons (ps_set (i := 6) scLk.nd rfl (Or.inl rfl) (pe_lst pa_nil))
      (pss_cons (ps_for PassesOwn.never rfl (pi_range1 rfl T.range (pa_cons (pv 2) pa_nil)) (pg_name (i := 7) scLk.nd rfl (Or.inl rfl))
        (pss_cons (ps_expr (pe_bm PySem.F.plainAttrs_list PySem.F.slot_list_append PySem.F.type_list_append mt_append (pv 6) (pa_cons (pe_tupleOf (by rfl) T.tuple
            (pe_lc (own := [("tank", 8)]) (g := gName 8) rfl scLk.nd (pi_tup (pe_ix ix_tup (pv 0) pe_int (fun _ _ => rfl))) (blkOk_by (N := nLk) (sc := defScope sLooksIn) (by decide +kernel))
              (fun _ _ _ _ _ => pg_name (i := 8) scLk.nd rfl (Or.inr rfl)) (fun _ _ _ _ _ => pts_nil)
              (fun _ _ _ _ _ => pe_tupK (K := K) rfl (by rfl) T.tuple (pe_lc (own := [("column", 9)]) (g := gName 9) rfl scLk.nd (pi_listK (K := K) rfl (pv 5)) (blkOk_by (N := nLk) (sc := scTank) (by decide +kernel))
                (fun _ _ _ _ _ => pg_name (i := 9) scLk.nd rfl (Or.inl rfl)) (fun _ _ _ _ _ => pts_nil) (fun _ _ _ _ _ => pe_ix (r := rIxT K) (by exact ix_tup) (pv 9) (pv 8) (fun _ _ => rfl)))))) pa_nil)))
        (pss_one (ps_set (i := 5) scLk.nd rfl (Or.inr rfl) (pe_lc (own := [("column", 9)]) (g := gName 9) rfl scLk.nd (pi_list (pv 5)) (blkOk_by (N := nLk) (sc := defScope sLooksIn) (by decide +kernel))
            (fun _ _ _ _ _ => pg_name (i := 9) scLk.nd rfl (Or.inl rfl)) (fun _ _ _ _ _ => pts_nil) (fun _ _ _ _ _ => pe_call FS (hr.mono (by decide)) (by rfl) mS kS bS .nil pass0 (pa_cons (pv 3) (pa_cons (pv 9) pa_nil))))))))
      (pss_one (ps_ret (pe_tupleOf (by rfl) T.tuple (pv 6))))))))))), ?_⟩
    refine ⟨_, rfl, _, n, rfl, g, th, tb, fun H1 gr1 => ?_⟩
    have tk1 := Tk.sm gr1.sm
    refine ⟨_, rfl, _, rfl, _, _, n, as, rfl, th.tk tk1, ok, ty.tk tk1, fun H2 s2 => ?_⟩
    have gr2 := gr1.trans (Grown.same s2 gr1.tbs)
    have tk2 := Tk.sm gr2.sm
    refine ⟨_, rfl, .int (m : Nat), .int (m : Nat), 0, 20, rfl, .int _, _, rfl, iteB (fun z => ?_) fun _ => ?_⟩
    · rw [many_isW hm] at z
      cases z
    refine ⟨_, rfl, _, rfl, _, _, n, as, rfl, g, th.tk tk2, ok, ty.tk tk2, gr2.tbs, fun tv H4 gr4' tt => ?_⟩
    have gr4 := gr2.trans gr4'
    have tk4 := Tk.sm gr4.sm
    have th4 := th.tk tk4
    obtain ⟨a, ps, fs, ss, rfl, ea, _, tfs, tss⟩ := net_parts th4
    obtain ⟨fb, fv, rfl, efb, tf⟩ := tup_parts tfs
    obtain ⟨sb, sv, rfl, esb, ts⟩ := tup_parts tss
    have lf : fv.length = n.fs.length := by rw [all2 tf, natsD, List.length_map]
    have lsv : sv.length = n.ss.length := by rw [all2 ts, natsD, List.length_map]
    have f4 : n.fs.length ≤ 4 := Nat.le_trans g.fs.len g.m4
    have s4 : n.ss.length ≤ 4 := Nat.le_trans g.ss.len g.m4
    have sqT := sqF n as
    refine ⟨_, rfl, a, _, _, _, rfl, rfl, SqT.of (tO_same H4 _ _ ea), rfl, n.m, rfl, g.m4, fun ua H5 hua s5 hus => ?_⟩
    obtain ⟨us, eu, ru⟩ := hus
    have t0l : (tab0 n.m).length = n.m := (sq0 n.m).len
    have lu : us.length = n.m := by rw [ru.len, t0l]
    refine ⟨_, rfl, a, _, _, _, rfl, rfl, SqT.of (s5.rd (tO_same H4 _ _ ea)), rfl, fb, rfl, ⟨fv, SqT.of (s5.rd (tO_same H4 _ _ efb))⟩, fun D hD => ?_⟩
    refine lc_map (walk_tup (K := K) (a := fb) (xs := fv)) (fun H' xs i => RowsT K H' xs ((cols n (tabF n as) 0).take i) ∧ i ≤ n.fs.length) hD (by omega) (fun _ _ i r => by rw [r.1.len, List.length_take, cols_len]; have := r.2; omega) ⟨by rw [List.take_zero]; exact RowsT.nil, Nat.zero_le _⟩
      (fun H' s => SqT.of (s.rd (s5.rd (tO_same H4 _ _ efb)))) (fun _ => rfl) ?_ ?_
    · rintro i x _ H' xs hi s e hl ⟨r, hle⟩ ⟨rfl, hx⟩
      obtain ⟨j, ej, rfl⟩ := nats_at tf hx
      have hj := g.fs.lt j (List.mem_of_getElem? ej)
      have hif : i < n.fs.length := by omega
      have ej' : n.fs[i] = j := by rw [List.getElem?_eq_getElem hif] at ej; exact Option.some.inj ej
      have eu' := List.getElem?_eq_getElem (show j < us.length by omega)
      have r0 : (tab0 n.m)[j]? = some (row0 n.m j) := by unfold tab0; rw [List.getElem?_map, List.getElem?_range hj]; rfl
      have ru' := ru.get j _ _ eu' r0
      refine ⟨_, rfl, _, rfl, ua, us, _, us[j], rfl, rfl, SqL.of (s _ _ eu), atI_nat eu', ?_⟩
      refine aft hD s e hl ⟨?_, by omega⟩
      have tk := Tk.put (ys := xs ++ [us[j]]) e
      rw [List.take_add_one, cols_get hif, ej']
      exact (r.tk tk).snoc ((ru'.tk (Tk.same s)).tk tk)
    rintro H6 cs s6 e6 ⟨rc, _⟩
    rw [lf, List.take_of_length_le (by rw [cols_len]; omega)] at rc
    have s46 := s5.trans s6
    refine ⟨by decide, fun q hq => ?_⟩
    have sq := same_upd (o := .lst []) hq
    have nq : H4 q = none := none_same s46 hq
    have m20 := hm.l20
    have nDq : D ≠ q := fun z => by rw [z] at e6; rw [hq] at e6; cases e6
    refine ⟨_, rfl, (m : Int), rfl, by omega, by omega, ?_⟩
    rw [show ((m : Nat) : Int).toNat = m from rfl]
    refine for_range (lo := 0) (n := m) (fun i σ H' => (∃ c cs o7 xs, σ = [some (.ref a), some y, some (.int (m : Nat)), some tv, some (.ref ua), some (.ref c), some (.ref q), o7, none, none] ∧ c ≠ q ∧ H' c = some (.lst cs) ∧ RowsT K H' cs (cols n (tabF n as) i) ∧ H' q = some (.lst xs) ∧ TabsT K H' xs (looksF n as i)) ∧ Grown Ps H4 H')
      ⟨⟨D, cs, none, [], rfl, nDq, sq _ _ e6, rc.tk (Tk.same sq), upd_same, TabsT.nil⟩, Grown.same (s46.trans sq) gr4.tbs⟩ ?_ ?_
    · rintro i σ H' hi ⟨⟨c, cs, o7, xs, rfl, ncq, ec, rc, eq, rx⟩, gr5⟩
      have tk5 := Tk.sm gr5.sm
      have lcs : cs.length = n.fs.length := by rw [rc.len, cols_len]
      have lx : xs.length = i := by rw [rx.len, looksF_len]
      have esb' := tO_same _ _ _ (tk5 _ _ esb)
      have ea' := tO_same _ _ _ (tk5 _ _ ea)
      refine ⟨_, rfl, .inl ⟨rfl, _, SqL.of eq⟩, ?_⟩
      refine ⟨_, rfl, a, _, _, _, rfl, rfl, SqT.of ea', rfl, sb, rfl, ⟨sv, SqT.of esb'⟩, fun D hD => ?_⟩
      refine lc_map (walk_tup (K := K) (a := sb) (xs := sv)) (fun H' xs b => RowsT K H' xs ((looksRow n (tabF n as) i).take b) ∧ b ≤ n.ss.length) hD (by omega) (fun _ _ b r => by rw [r.1.len, List.length_take]; unfold looksRow; rw [List.length_map]; have := r.2; omega) ⟨by rw [List.take_zero]; exact RowsT.nil, Nat.zero_le _⟩
        (fun H' s => SqT.of (s.rd esb')) (fun _ => rfl) ?_ ?_
      · rintro b x _ H7 ys hb s e hl ⟨r, hle⟩ ⟨rfl, hx⟩
        obtain ⟨j, ej, rfl⟩ := nats_at ts hx
        have hj := g.ss.lt j (List.mem_of_getElem? ej)
        refine ⟨_, rfl, c, rfl, ⟨cs, SqL.of (s _ _ ec)⟩, fun D2 hD2 => ?_⟩
        refine lc_map (walk_list (K := K) (a := c) (xs := cs)) (fun H' xs d => FrL K H' xs ((n.fs.map fun f => (colF (tabF n as) n.m f i).getD j (0, 1)).take d) ∧ d ≤ n.fs.length) hD2 (by omega) (fun _ _ d r => by rw [r.1.len, List.length_take, List.length_map]; have := r.2; omega) ⟨by rw [List.take_zero]; exact FrL.nil, Nat.zero_le _⟩
          (fun H' s' => SqL.of (s' _ _ (s _ _ ec))) (fun _ => rfl) ?_ ?_
        · rintro d x _ H8 zs hd s8 e8 hl8 ⟨r8, hle8⟩ ⟨rfl, hx8⟩
          have hdf : d < n.fs.length := by omega
          obtain ⟨p, vs, rfl, ep, fp⟩ := (rc.get d x _ hx8 (cols_get hdf)).tk (Tk.same (s.trans s8))
          obtain ⟨v, ev, fv'⟩ := frl_at fp (j := j) (by rw [colF_len sqT]; exact hj)
          refine ⟨_, rfl, _, rfl, p, vs, _, v, rfl, rfl, SqT.of (tO_same _ _ _ ep), atI_nat ev, ?_⟩
          refine aft hD2 s8 e8 hl8 ⟨?_, by omega⟩
          have tk := Tk.put (ys := zs ++ [v]) e8
          rw [List.take_add_one, List.getElem?_map, List.getElem?_eq_getElem hdf]
          exact (r8.tk tk).snoc (fv'.tk tk)
        · rintro H8 zs s8 e8 ⟨r8, _⟩
          rw [lcs, List.take_of_length_le (by rw [List.length_map]; omega)] at r8
          refine .inl ⟨D2, zs, rfl, SqL.of e8, fun p hp => ?_⟩
          have sp := same_upd (o := .tup zs) hp
          have s9 := s8.trans sp
          refine aft hD (s.trans s9) (s9 _ _ e) hl ⟨?_, by omega⟩
          have tk : Tk (upd H8 p (.tup zs)) _ := Tk.put (ys := ys ++ [.ref p]) (s9 _ _ e)
          rw [List.take_add_one, show (looksRow n (tabF n as) i)[b]? = some (n.fs.map fun f => (colF (tabF n as) n.m f i).getD j (0, 1)) by unfold looksRow; rw [List.getElem?_map, ej]; rfl]
          exact (r.tk ((Tk.same s9).trans tk)).snoc ⟨p, zs, rfl, tk _ _ (tO_of upd_same), r8.tk ((Tk.same sp).trans tk)⟩
      · rintro H7 ys s e ⟨r, _⟩
        rw [lsv, List.take_of_length_le (by unfold looksRow; rw [List.length_map]; omega)] at r
        refine .inl ⟨D, ys, rfl, SqL.of e, fun p hp => ?_⟩
        have sp := same_upd (o := .tup ys) hp
        have s6 := s.trans sp
        have eq6 := s6 _ _ eq
        refine ⟨q, xs, _, rfl, rfl, eq6, Nat.lt_of_lt_of_le (show xs.length < 1000 by omega) (by decide), ?_⟩
        have row6 : TabT K (upd H7 p (.tup ys)) (.ref p) (looksRow n (tabF n as) i) := ⟨p, ys, rfl, tO_of upd_same, r.tk (Tk.same sp)⟩
        have tkq : Tk H' (upd (upd H7 p (.tup ys)) q (.lst (xs ++ [.ref p]))) := (Tk.same s6).trans (Tk.put eq6)
        have gr7 : Grown Ps H4 (upd (upd H7 p (.tup ys)) q (.lst (xs ++ [.ref p]))) := grown_put (gr5.trans (Grown.same s6 gr5.tbs)) nq eq6
        have rows7 : TabsT K (upd (upd H7 p (.tup ys)) q (.lst (xs ++ [.ref p]))) (xs ++ [.ref p]) (looksF n as (i + 1)) := by
          rw [looksF_succ]
          exact (rx.tk tkq).snoc (row6.tk (Tk.put eq6))
        have e7 : upd (upd H7 p (.tup ys)) q (.lst (xs ++ [.ref p])) q = some (.lst (xs ++ [.ref p])) := upd_same
        have ec7 : upd (upd H7 p (.tup ys)) q (.lst (xs ++ [.ref p])) c = some (.lst cs) := by rw [upd_ne ncq]; exact s6 _ _ ec
        have rc7 := rc.tk tkq
        generalize upd (upd H7 p (.tup ys)) q (.lst (xs ++ [.ref p])) = H9 at tkq gr7 rows7 e7 ec7 rc7 ⊢
        have tt9 := tt.tk (Tk.sm gr7.sm)
        refine ⟨_, rfl, c, rfl, ⟨cs, SqL.of ec7⟩, fun D3 hD3 => ?_⟩
        have n3 : D3 ≠ q := fun z => by rw [z, e7] at hD3; cases hD3
        refine lc_map (walk_list (K := K) (a := c) (xs := cs)) (fun H' xs d => RowsT K H' xs ((cols n (tabF n as) (i + 1)).take d) ∧ d ≤ n.fs.length) hD3 (by omega) (fun _ _ d r => by rw [r.1.len, List.length_take, cols_len]; have := r.2; omega) ⟨by rw [List.take_zero]; exact RowsT.nil, Nat.zero_le _⟩
          (fun H' s' => SqL.of (s' _ _ ec7)) (fun _ => rfl) ?_ ?_
        · rintro d x _ HA zs hd sA eA hlA ⟨rA, hleA⟩ ⟨rfl, hxA⟩
          have hdf : d < n.fs.length := by omega
          have rx9 := (rc7.get d x _ hxA (cols_get hdf)).tk (Tk.same sA)
          refine ⟨_, rfl, _, rfl, tv, x, _, _, rfl, tt9.tk (Tk.same sA), rx9, by rw [sqT.len]; exact g.m4, col_dot g ok (hm.le (by omega)) _, fun w HB sB rB => ?_⟩
          have eB := sB _ _ eA
          refine aft hD3 (sA.trans sB) eB hlA ⟨?_, by omega⟩
          have tk := Tk.put (ys := zs ++ [w]) eB
          rw [List.take_add_one, cols_get hdf]
          exact (rA.tk ((Tk.same sB).trans tk)).snoc (rB.tk tk)
        · rintro HA zs sA eA ⟨rA, _⟩
          rw [lcs, List.take_of_length_le (by rw [cols_len]; omega)] at rA
          exact ⟨⟨D3, zs, _, _, rfl, n3, eA, rA, sA _ _ e7, rows7.tk (Tk.same sA)⟩, gr7.trans (Grown.same sA gr7.tbs)⟩
    · rintro σ H' ⟨⟨c, cs, o7, xs, rfl, ncq, ec, rc, eq, rx⟩, gr5⟩
      refine ⟨_, rfl, .inl ⟨q, xs, rfl, SqL.of eq, fun q2 hq2 => ?_⟩⟩
      have sq2 := same_upd (o := .tup xs) hq2
      exact k _ _ (gr4.trans (gr5.trans (Grown.same sq2 gr5.tbs))) ⟨q2, xs, rfl, tO_of upd_same, rx.tk (Tk.same sq2)⟩
end
end KP

set_option Elab.async false
set_option linter.all false
set_option maxRecDepth 100000
set_option maxHeartbeats 4000000
/-! ### the law's own looks -/
namespace KP
open PySem PySem.Spec PyProof.Rows L2 KX KT KJ KS FR
abbrev lLooks : Stmt := top 65
def spLooksL (K : PySem.W.Frag) : Sp := fun vs H Q _ => ∃ (x y : V) (n : NetM) (as : List Fr) (k : Nat), vs = [x, y, .int (k : Nat)] ∧ GoodN n ∧ Th (tO H) x (NetM.d n) ∧ AsOk n as ∧ Th (tO H) y (.tuple (as.map fD)) ∧ ManyOk n k ∧ ∀ v H', Same H H' → CubT K H' v (looksF n as k) → Q v H'
abbrev nLl : List Str := ["net", "assignment", "many", "table", "found", "columns", "power", "start", "at", "column"]
abbrev scStart : Scope := { kind := .function, names := [(".0", .local), ("start", .cell), ("range", .globalImplicit), ("net", .cell)], isGenerator := false, isCoroutine := false }
abbrev scAtC : Scope := { kind := .function, names := [(".0", .local), ("at", .cell), ("tuple", .globalImplicit), ("columns", .cell)], isGenerator := false, isCoroutine := false }
theorem scLl : FnScope nLl ["net", "assignment", "many"] (defScope lLooks) := ⟨rfl, rfl, rfl, by decide +kernel, rfl, by decide +kernel, by decide +kernel⟩
section
variable {P : Program} {w : World} {K : PySem.W.Frag} {mg : Str → Option Value} {base : Heap}
theorem ok_looksL {f fT fS : Addr} {fd fdT fdS : FuncData} (F : Fun K "_law_looks" "_law_looks" lLooks f fd) (T : TxD mg)
    (FT : FnOk P w K mg base CX0 3 fT fdT ["net", "assignment"] (spTableL K)) (mT : mg "_law_table" = some (.ref fT)) (kT : PySem.W.keepIn K (.ref fT) = true) (bT : Binds K fdT ["net", "assignment"] [])
    (FS : FnOk P w K mg base CX0 4 fS fdS ["table", "held"] (spSentL K)) (mS : mg "_law_sent" = some (.ref fS)) (kS : PySem.W.keepIn K (.ref fS) = true) (bS : Binds K fdS ["table", "held"] []) :
    FnOk P w K mg base CX0 5 f fd ["net", "assignment", "many"] (spLooksL K) := by
  refine F.ok scLl (fun vs H Q E h => ?_) (fun cdv A outer s H vs Q E hr h => ?_)
  · obtain ⟨x, y, n, as, k, rfl, _⟩ := h
    rfl
  · obtain ⟨x, y, n, as, m, rfl, g, th, ok, ty, hm, k⟩ := h
    refine ⟨_, pss_cons (ps_asg (pe_tup (pa_cons (pe_call FT (hr.mono (by decide)) rfl mT kT bT .nil pass0 (pa_cons (pv 0) (pa_cons (pv 1) pa_nil))) (pa_cons (pe_lst pa_nil) pa_nil)))
        (pg_tup rfl (pgs_cons (pg_name (i := 3) scLl.nd rfl (Or.inr rfl)) (pgs_cons (pg_name (i := 4) scLl.nd rfl (Or.inl rfl)) pgs_nil))))
      (pss_cons (ps_set (i := 5) scLl.nd rfl (Or.inr rfl) (pe_lc (own := [("start", 7)]) (g := gName 7) rfl scLl.nd (pi_tup (pe_ix ix_tup (pv 0) pe_int (fun _ _ => rfl))) (blkOk_by (N := nLl) (sc := defScope lLooks) (by decide +kernel))
          (fun _ _ _ _ _ => pg_name (i := 7) scLl.nd rfl (Or.inr rfl)) (fun _ _ _ _ _ => pts_nil)
          (fun _ _ _ _ _ => pe_lc (own := [("at", 8)]) (g := gName 8) rfl scLl.nd (pi_range1 rfl T.range (pa_cons (pe_ix (r := rIxT K) (by exact ix_tup) (pv 0) pe_int (fun _ _ => rfl)) pa_nil)) (blkOk_by (N := nLl) (sc := scStart) (by decide +kernel))
            (fun _ _ _ _ _ => pg_name (i := 8) scLl.nd rfl (Or.inl rfl)) (fun _ _ _ _ _ => pts_nil)
            (fun _ _ _ _ _ => pe_tup (pa_cons (pe_callTy call_int1 (by rfl) T.int (by decide +kernel) (pa_cons (pe_cmpR op_eq (pv 8) (pv 7) (nomark _)) pa_nil)) (pa_cons pe_int pa_nil))))))
      (pss_cons (ps_for PassesOwn.never rfl (pi_range1 rfl T.range (pa_cons (pv 2) pa_nil)) (pg_name (i := 6) scLl.nd rfl (Or.inl rfl))
        (pss_cons (ps_expr (pe_bm PySem.F.plainAttrs_list PySem.F.slot_list_append PySem.F.type_list_append mt_append (pv 4) (pa_cons (pe_tupleOf (by rfl) T.tuple
            (pe_lc (own := [("at", 8)]) (g := gName 8) rfl scLl.nd (pi_tup (pe_ix ix_tup (pv 0) pe_int (fun _ _ => rfl))) (blkOk_by (N := nLl) (sc := defScope lLooks) (by decide +kernel))
              (fun _ _ _ _ _ => pg_name (i := 8) scLl.nd rfl (Or.inr rfl)) (fun _ _ _ _ _ => pts_nil)
              (fun _ _ _ _ _ => pe_tupK (K := K) rfl (by rfl) T.tuple (pe_lc (own := [("column", 9)]) (g := gName 9) rfl scLl.nd (pi_listK (K := K) rfl (pv 5)) (blkOk_by (N := nLl) (sc := scAtC) (by decide +kernel))
                (fun _ _ _ _ _ => pg_name (i := 9) scLl.nd rfl (Or.inl rfl)) (fun _ _ _ _ _ => pts_nil) (fun _ _ _ _ _ => pe_ix (r := rIxL K) (by exact ix_list) (pv 9) (pv 8) (fun _ _ => rfl)))))) pa_nil)))
        (pss_one (ps_set (i := 5) scLl.nd rfl (Or.inr rfl) (pe_lc (own := [("column", 9)]) (g := gName 9) rfl scLl.nd (pi_list (pv 5)) (blkOk_by (N := nLl) (sc := defScope lLooks) (by decide +kernel))
            (fun _ _ _ _ _ => pg_name (i := 9) scLl.nd rfl (Or.inl rfl)) (fun _ _ _ _ _ => pts_nil) (fun _ _ _ _ _ => pe_call FS hr (by rfl) mS kS bS .nil pass0 (pa_cons (pv 3) (pa_cons (pv 9) pa_nil))))))))
      (pss_one (ps_ret (pe_tupleOf (by rfl) T.tuple (pv 4)))))), ?_⟩
    obtain ⟨a, ps, fs, ss, rfl, ea, _, tfs, tss⟩ := net_parts th
    obtain ⟨fb, fv, rfl, efb, tf⟩ := tup_parts tfs
    obtain ⟨sb, sv, rfl, esb, ts⟩ := tup_parts tss
    have lf : fv.length = n.fs.length := by rw [all2 tf, natsD, List.length_map]
    have lsv : sv.length = n.ss.length := by rw [all2 ts, natsD, List.length_map]
    have f4 : n.fs.length ≤ 4 := Nat.le_trans g.fs.len g.m4
    have s4 : n.ss.length ≤ 4 := Nat.le_trans g.ss.len g.m4
    have m4 := g.m4
    have m20 := hm.l20
    have sqT := sqF n as
    refine ⟨_, rfl, _, rfl, _, _, n, as, rfl, g, th, ok, ty, fun tv H1 s1 tt => ?_⟩
    refine ⟨by decide, fun q hq => ⟨(by show 2 ≤ sizeLine; decide), fun t ht => ?_⟩⟩
    have sq := same_upd (o := .lst ([] : List V)) hq
    have st := same_upd (o := .tup [tv, V.ref q]) ht
    refine ⟨t, _, rfl, SqT.of upd_same, rfl, _, _, rfl, _, _, rfl, rfl, ?_⟩
    have s0 : Same H _ := s1.trans (sq.trans st)
    have eq0 := st _ _ (show upd H1 q (.lst []) q = some (.lst []) from upd_same)
    have nq : H q = none := none_same s1 hq
    have tt0 := tt.tk (Tk.same (sq.trans st))
    generalize upd (upd H1 q (.lst [])) t (.tup [tv, V.ref q]) = H2 at s0 eq0 tt0 ⊢
    clear sq st hq ht
    refine ⟨_, rfl, a, _, _, _, rfl, rfl, SqT.of (s0.rd (tO_same H _ _ ea)), rfl, fb, rfl, ⟨fv, SqT.of (s0.rd (tO_same H _ _ efb))⟩, fun D hD => ?_⟩
    have nDq : D ≠ q := fun z => by rw [z, eq0] at hD; cases hD
    refine lc_map (walk_tup (K := K) (a := fb) (xs := fv)) (fun H' xs i => RowsLL K H' [D, q] xs ((cols n (tabF n as) 0).take i) ∧ i ≤ n.fs.length) hD (by omega) (fun _ _ i r => by rw [r.1.len, List.length_take, cols_len]; have := r.2; omega) ⟨by rw [List.take_zero]; exact RowsLL.nil, Nat.zero_le _⟩
      (fun H' s => SqT.of (s.rd (s0.rd (tO_same H _ _ efb)))) (fun _ => rfl) ?_ ?_
    · rintro i x _ H' xs hi s e hl ⟨r, hle⟩ ⟨rfl, hx⟩
      obtain ⟨j, ej, rfl⟩ := nats_at tf hx
      have hj := g.fs.lt j (List.mem_of_getElem? ej)
      have hif : i < n.fs.length := by omega
      have ej' : n.fs[i] = j := by rw [List.getElem?_eq_getElem hif] at ej; exact Option.some.inj ej
      refine ⟨_, rfl, a, _, _, _, rfl, rfl, SqT.of (s.rd (s0.rd (tO_same H _ _ ea))), rfl, (n.m : Int), rfl, by omega, by omega, fun D2 hD2 => ?_⟩
      rw [show ((n.m : Nat) : Int).toNat = n.m from rfl]
      have n1 : D2 ≠ D := fun z => by rw [z, e] at hD2; cases hD2
      have n2 : D2 ≠ q := fun z => by rw [z, s _ _ eq0] at hD2; cases hD2
      refine lc_map (walk_range (lo := 0) (n := n.m)) (fun H' xs k => FrL K H' xs ((List.range k).map fun k => if j = k then (1, 1) else (0, 1))) hD2 (by omega) (fun _ _ _ r => r.len') FrL.nil (fun _ _ => trivial) (fun _ => rfl) ?_ ?_
      · rintro c x _ H3 ys hc s2 e2 hl2 r2 ⟨rfl, rfl⟩
        refine ⟨_, rfl, _, rfl, rfl, .inr ⟨_, rfl, (by show 2 ≤ sizeLine; decide), fun p hp => ?_⟩⟩
        have sp := same_upd (o := .tup [V.int (if decide (V.int (0 + (c : Int)) = V.int (j : Int)) = true then 1 else 0), V.int 1]) hp
        refine aft hD2 (s2.trans sp) (sp _ _ e2) hl2 ?_
        rw [row0_succ (m := n.m)]
        have tk := Tk.put (ys := ys ++ [.ref p]) (sp _ _ e2)
        refine (r2.tk ((Tk.same sp).trans tk)).snoc ?_
        have fq : FrV K (upd H3 p (.tup [V.int (if decide (V.int (0 + (c : Int)) = V.int (j : Int)) = true then 1 else 0), V.int 1])) (.ref p) (if j = c then (1, 1) else (0, 1)) := by
          by_cases ic : j = c
          · subst ic
            rw [if_pos (decide_eq_true (by rw [Int.zero_add])), if_pos rfl]
            exact FrV.new (x := (1, 1))
          · rw [if_neg (fun z => ic (by have := V.int.inj (of_decide_eq_true z); omega)), if_neg ic]
            exact FrV.new (x := (0, 1))
        exact fq.tk tk
      · rintro H3 ys s2 e2 r2
        have eD := s2 _ _ e
        refine aft hD (s.trans s2) eD hl ⟨?_, by omega⟩
        have tk := Tk.put (ys := xs ++ [.ref D2]) eD
        rw [List.take_add_one, cols_get hif, ej']
        refine ((r.same s2).put (by simp) eD).snoc (by simp [n1, n2]) (by rw [upd_ne n1]; exact e2) ?_
        exact FrL.tk r2 tk
    rintro H6 cs s6 e6 ⟨rc, _⟩
    rw [lf, List.take_of_length_le (by rw [cols_len]; omega)] at rc
    have s06 := s0.trans s6
    refine ⟨_, rfl, (m : Int), rfl, by omega, by omega, ?_⟩
    rw [show ((m : Nat) : Int).toNat = m from rfl]
    refine for_range (lo := 0) (n := m) (fun i σ H' => (∃ c cs o6 xs, σ = [some (.ref a), some y, some (.int (m : Nat)), some tv, some (.ref q), some (.ref c), o6, none, none, none] ∧ c ≠ q ∧ H' c = some (.lst cs) ∧ RowsLL K H' [q] cs (cols n (tabF n as) i) ∧ H' q = some (.lst xs) ∧ TabsT K H' xs (looksF n as i)) ∧ Same H H' ∧ Tk H6 H')
      ⟨⟨D, cs, none, [], rfl, nDq, e6, rc.weak (by simp), s6 _ _ eq0, TabsT.nil⟩, s06, Tk.refl _⟩ ?_ ?_
    · rintro i σ H' hi ⟨⟨c, cs, o6, xs, rfl, ncq, ec, rc, eq, rx⟩, gr5, tk6⟩
      have tk5 := Tk.same gr5
      have lcs : cs.length = n.fs.length := by rw [rc.len, cols_len]
      have lx : xs.length = i := by rw [rx.len, looksF_len]
      have esb' := tO_same _ _ _ (tk5 _ _ esb)
      have ea' := tO_same _ _ _ (tk5 _ _ ea)
      refine ⟨_, rfl, .inl ⟨rfl, _, SqL.of eq⟩, ?_⟩
      refine ⟨_, rfl, a, _, _, _, rfl, rfl, SqT.of ea', rfl, sb, rfl, ⟨sv, SqT.of esb'⟩, fun D hD => ?_⟩
      refine lc_map (walk_tup (K := K) (a := sb) (xs := sv)) (fun H' xs b => RowsT K H' xs ((looksRow n (tabF n as) i).take b) ∧ b ≤ n.ss.length) hD (by omega) (fun _ _ b r => by rw [r.1.len, List.length_take]; unfold looksRow; rw [List.length_map]; have := r.2; omega) ⟨by rw [List.take_zero]; exact RowsT.nil, Nat.zero_le _⟩
        (fun H' s => SqT.of (s.rd esb')) (fun _ => rfl) ?_ ?_
      · rintro b x _ H7 ys hb s e hl ⟨r, hle⟩ ⟨rfl, hx⟩
        obtain ⟨j, ej, rfl⟩ := nats_at ts hx
        have hj := g.ss.lt j (List.mem_of_getElem? ej)
        refine ⟨_, rfl, c, rfl, ⟨cs, SqL.of (s _ _ ec)⟩, fun D2 hD2 => ?_⟩
        refine lc_map (walk_list (K := K) (a := c) (xs := cs)) (fun H' xs d => FrL K H' xs ((n.fs.map fun f => (colF (tabF n as) n.m f i).getD j (0, 1)).take d) ∧ d ≤ n.fs.length) hD2 (by omega) (fun _ _ d r => by rw [r.1.len, List.length_take, List.length_map]; have := r.2; omega) ⟨by rw [List.take_zero]; exact FrL.nil, Nat.zero_le _⟩
          (fun H' s' => SqL.of (s' _ _ (s _ _ ec))) (fun _ => rfl) ?_ ?_
        · rintro d x _ H8 zs hd s8 e8 hl8 ⟨r8, hle8⟩ ⟨rfl, hx8⟩
          have hdf : d < n.fs.length := by omega
          obtain ⟨p, vs, rfl, _, ep, fp⟩ := (rc.same (s.trans s8)).get d x _ hx8 (cols_get hdf)
          obtain ⟨v, ev, fv'⟩ := frl_at fp (j := j) (by rw [colF_len sqT]; exact hj)
          refine ⟨_, rfl, _, rfl, p, vs, _, v, rfl, rfl, SqL.of ep, atI_nat ev, ?_⟩
          refine aft hD2 s8 e8 hl8 ⟨?_, by omega⟩
          have tk := Tk.put (ys := zs ++ [v]) e8
          rw [List.take_add_one, List.getElem?_map, List.getElem?_eq_getElem hdf]
          exact (r8.tk tk).snoc (fv'.tk tk)
        · rintro H8 zs s8 e8 ⟨r8, _⟩
          rw [lcs, List.take_of_length_le (by rw [List.length_map]; omega)] at r8
          refine .inl ⟨D2, zs, rfl, SqL.of e8, fun p hp => ?_⟩
          have sp := same_upd (o := .tup zs) hp
          have s9 := s8.trans sp
          refine aft hD (s.trans s9) (s9 _ _ e) hl ⟨?_, by omega⟩
          have tk : Tk (upd H8 p (.tup zs)) _ := Tk.put (ys := ys ++ [.ref p]) (s9 _ _ e)
          rw [List.take_add_one, show (looksRow n (tabF n as) i)[b]? = some (n.fs.map fun f => (colF (tabF n as) n.m f i).getD j (0, 1)) by unfold looksRow; rw [List.getElem?_map, ej]; rfl]
          exact (r.tk ((Tk.same s9).trans tk)).snoc ⟨p, zs, rfl, tk _ _ (tO_of upd_same), r8.tk ((Tk.same sp).trans tk)⟩
      · rintro H7 ys s e ⟨r, _⟩
        rw [lsv, List.take_of_length_le (by unfold looksRow; rw [List.length_map]; omega)] at r
        refine .inl ⟨D, ys, rfl, SqL.of e, fun p hp => ?_⟩
        have sp := same_upd (o := .tup ys) hp
        have s6' := s.trans sp
        have eq6 := s6' _ _ eq
        refine ⟨q, xs, _, rfl, rfl, eq6, Nat.lt_of_lt_of_le (show xs.length < 1000 by omega) (by decide), ?_⟩
        have row6 : TabT K (upd H7 p (.tup ys)) (.ref p) (looksRow n (tabF n as) i) := ⟨p, ys, rfl, tO_of upd_same, r.tk (Tk.same sp)⟩
        have tkq : Tk H' (upd (upd H7 p (.tup ys)) q (.lst (xs ++ [.ref p]))) := (Tk.same s6').trans (Tk.put eq6)
        have gr7 : Same H (upd (upd H7 p (.tup ys)) q (.lst (xs ++ [.ref p]))) := same_put (gr5.trans s6') nq
        have rows7 : TabsT K (upd (upd H7 p (.tup ys)) q (.lst (xs ++ [.ref p]))) (xs ++ [.ref p]) (looksF n as (i + 1)) := by
          rw [looksF_succ]
          exact (rx.tk tkq).snoc (row6.tk (Tk.put eq6))
        have e7 : upd (upd H7 p (.tup ys)) q (.lst (xs ++ [.ref p])) q = some (.lst (xs ++ [.ref p])) := upd_same
        have ec7 : upd (upd H7 p (.tup ys)) q (.lst (xs ++ [.ref p])) c = some (.lst cs) := by rw [upd_ne ncq]; exact s6' _ _ ec
        have rc7 := (rc.same s6').put (ys := xs ++ [.ref p]) (by simp) eq6
        have tk67 := tk6.trans tkq
        generalize upd (upd H7 p (.tup ys)) q (.lst (xs ++ [.ref p])) = H9 at tkq gr7 rows7 e7 ec7 rc7 tk67 ⊢
        have tt9 := tt0.tk ((Tk.same s6).trans tk67)
        refine ⟨_, rfl, c, rfl, ⟨cs, SqL.of ec7⟩, fun D3 hD3 => ?_⟩
        have n3 : D3 ≠ q := fun z => by rw [z, e7] at hD3; cases hD3
        refine lc_map (walk_list (K := K) (a := c) (xs := cs)) (fun H' xs d => RowsLL K H' [D3, q] xs ((cols n (tabF n as) (i + 1)).take d) ∧ d ≤ n.fs.length) hD3 (by omega) (fun _ _ d r => by rw [r.1.len, List.length_take, cols_len]; have := r.2; omega) ⟨by rw [List.take_zero]; exact RowsLL.nil, Nat.zero_le _⟩
          (fun H' s' => SqL.of (s' _ _ ec7)) (fun _ => rfl) ?_ ?_
        · rintro d x _ HA zs hd sA eA hlA ⟨rA, hleA⟩ ⟨rfl, hxA⟩
          have hdf : d < n.fs.length := by omega
          obtain ⟨p', vs, rfl, _, ep, fp⟩ := (rc7.same sA).get d x _ hxA (cols_get hdf)
          refine ⟨_, rfl, _, rfl, tv, p', vs, _, _, rfl, tt9.tk (Tk.same sA), ep, fp, by rw [sqT.len]; exact g.m4, col_dot g ok (hm.le (by omega)) _, fun r zs2 HB sB nB eB2 fB => ?_⟩
          have eB := sB _ _ eA
          have nr1 : r ≠ D3 := fun z => by rw [z, eA] at nB; cases nB
          have nr2 : r ≠ q := fun z => by rw [z, sA _ _ e7] at nB; cases nB
          refine aft hD3 (sA.trans sB) eB hlA ⟨?_, by omega⟩
          have tk := Tk.put (ys := zs ++ [.ref r]) eB
          rw [List.take_add_one, cols_get hdf]
          exact ((rA.same sB).put (by simp) eB).snoc (by simp [nr1, nr2]) (by rw [upd_ne nr1]; exact eB2) (fB.tk tk)
        · rintro HA zs sA eA ⟨rA, _⟩
          rw [lcs, List.take_of_length_le (by rw [cols_len]; omega)] at rA
          exact ⟨⟨D3, zs, _, _, rfl, n3, eA, rA.weak (by simp), sA _ _ e7, rows7.tk (Tk.same sA)⟩, gr7.trans sA, tk67.trans (Tk.same sA)⟩
    · rintro σ H' ⟨⟨c, cs, o6, xs, rfl, ncq, ec, rc, eq, rx⟩, gr5, _⟩
      refine ⟨_, rfl, .inl ⟨q, xs, rfl, SqL.of eq, fun q2 hq2 => ?_⟩⟩
      have sq2 := same_upd (o := .tup xs) hq2
      exact k _ _ (gr5.trans sq2) ⟨q2, xs, rfl, tO_of upd_same, rx.tk (Tk.same sq2)⟩
end
end KP

set_option Elab.async false
set_option linter.all false
set_option maxRecDepth 100000
set_option maxHeartbeats 4000000
/-! ### the law's sums over walks -/
namespace KP
open PySem PySem.Spec PyProof.Rows L2 KX KT KJ KS FR
/-- a table with all entries over one number -/
structure TabM (M : Nat) (t : Tab) : Prop where
  pos : 0 < M
  lt : M < 2 ^ 121
  bd : ∀ row ∈ t, ∀ x ∈ row, Bd M 23977 x
theorem tabM {n : NetM} {as : List Fr} (g : GoodN n) (ok : AsOk n as) : ∃ M, TabM M (tabF n as) := by
  have l := g.len
  obtain ⟨M, m0, m1, b⟩ := (tab_tbd g ok).mono (a' := 121) (N' := 23977) (by omega) (by omega)
  exact ⟨M, m0, m1, b⟩
theorem TabM.gt {M m : Nat} {t : Tab} (h : TabM M t) (sq : Sq m t) {i k : Nat} (hi : i < m) (hk : k < m) : Bd M 23977 (gt t i k) := by
  obtain ⟨row, hr, hx⟩ := gt_mem sq hi hk
  exact h.bd row hr _ hx
theorem TabM.pow {M : Nat} {t : Tab} (h : TabM M t) (k : Nat) : 0 < M ^ k ∧ M ^ k < 2 ^ (121 * k + 1) := by
  refine ⟨Nat.pow_pos h.pos, ?_⟩
  have a : M ^ k ≤ (2 ^ 121) ^ k := Nat.pow_le_pow_left (Nat.le_of_lt h.lt) k
  rw [← Nat.pow_mul] at a
  exact Nat.lt_of_le_of_lt a (Nat.pow_lt_pow_right (by decide) (by omega))
theorem walk_bd {M m : Nat} {t : Tab} (h : TabM M t) (sq : Sq m t) (m4 : m ≤ 4) : ∀ (k : Nat) {s a : Nat}, s < m → Bd (M ^ k) (2 ^ (17 * k)) (walkF t m k s a)
  | 0, s, a, _ => by
    unfold walkF
    split <;> exact ⟨by decide, ⟨1, rfl⟩, by decide⟩
  | k + 1, s, a, hs => by
    have z : ∀ i, i ≤ m → Bd (M * M ^ k) (i * (23977 * 2 ^ (17 * k))) (walkI t m k s a i) := fun i => by
      induction i with
      | zero => exact fun _ => bd0 (Nat.mul_pos h.pos (h.pow k).1)
      | succ i ih =>
        intro hi
        rw [walkI_succ, show (i + 1) * (23977 * 2 ^ (17 * k)) = i * (23977 * 2 ^ (17 * k)) + 23977 * 2 ^ (17 * k) from Nat.succ_mul _ _]
        exact (ih (by omega)).add ((h.gt sq (by omega) hs).mul (walk_bd h sq m4 k (by omega)))
    have e : M * M ^ k = M ^ (k + 1) := by rw [Nat.pow_succ, Nat.mul_comm]
    have z2 := z m (Nat.le_refl m)
    rw [e] at z2
    refine z2.mono (Nat.dvd_refl _) ?_
    rw [Nat.mul_succ, Nat.pow_add, Nat.mul_comm (2 ^ (17 * k)), ← Nat.mul_assoc]
    exact Nat.mul_le_mul_right _ (Nat.le_trans (show m * 23977 ≤ 4 * 23977 by omega) (by decide))
theorem walkI_bd {M m : Nat} {t : Tab} (h : TabM M t) (sq : Sq m t) (m4 : m ≤ 4) {k s a : Nat} (hs : s < m) : ∀ i, i ≤ m → Bd (M * M ^ k) (i * (23977 * 2 ^ (17 * k))) (walkI t m k s a i)
  | 0, _ => bd0 (Nat.mul_pos h.pos (h.pow k).1)
  | i + 1, hi => by
    rw [walkI_succ, show (i + 1) * (23977 * 2 ^ (17 * k)) = i * (23977 * 2 ^ (17 * k)) + 23977 * 2 ^ (17 * k) from Nat.succ_mul _ _]
    exact (walkI_bd h sq m4 hs i (by omega)).add ((h.gt sq (by omega) hs).mul (walk_bd h sq m4 k (by omega)))
theorem walk_sz {M m : Nat} {t : Tab} (h : TabM M t) (sq : Sq m t) (m4 : m ≤ 4) {k s a i : Nat} (k3 : k ≤ 3) (hs : s < m) (hi : i < m) : Sz 4000 (walkI t m k s a i) ∧ Sz 4000 (gt t i s) ∧ Sz 4000 (walkF t m k i a) ∧ Sz 4000 (mulF (gt t i s) (walkF t m k i a)) := by
  obtain ⟨p0, p1⟩ := h.pow k
  have q0 := Nat.mul_pos h.pos p0
  have q1 := pow_mul_lt h.lt p1
  have e17 : 2 ^ (17 * k) < 2 ^ 52 := Nat.pow_lt_pow_right (by decide) (by omega)
  have e0 : 0 < 2 ^ (17 * k) := Nat.two_pow_pos _
  have b1 := walkI_bd h sq m4 (k := k) (a := a) hs i (by omega)
  have b2 := h.gt sq hi hs
  have b3 := walk_bd h sq m4 k (a := a) hi
  have b4 := b2.mul b3
  have n1 : i * (23977 * 2 ^ (17 * k)) < 2 ^ 80 := by
    have : i * (23977 * 2 ^ (17 * k)) ≤ 4 * (23977 * 2 ^ (17 * k)) := Nat.mul_le_mul_right _ (by omega)
    have l : (4 : Nat) * (23977 * 2 ^ 52) < 2 ^ 80 := by decide
    omega
  have n4 : 23977 * 2 ^ (17 * k) < 2 ^ 80 := by
    have l : (23977 : Nat) * 2 ^ 52 < 2 ^ 80 := by decide
    omega
  exact ⟨(b1.sz q0 q1 n1).mono (by omega), (b2.sz h.pos h.lt (b := 15) (by decide)).mono (by decide), (b3.sz p0 p1 e17).mono (by omega), (b4.sz q0 q1 n4).mono (by omega)⟩
def spWalk (K : PySem.W.Frag) : Nat → Sp
  | 0 => fun _ _ _ _ => False
  | k + 1 => fun vs H Q _ => ∃ (x : V) (s a m M : Nat) (t : Tab), vs = [x, .int (s : Nat), .int (a : Nat), .int (k : Nat)] ∧ TabT K H x t ∧ Sq m t ∧ m ≤ 4 ∧ TabM M t ∧ s < m ∧ k ≤ 3 ∧ ∀ w H', Same H H' → FrV K H' w (walkF t m k s a) → Q w H'
abbrev nWk : List Str := ["table", "start", "aim", "steps", "found", "at"]
theorem tab_gt {K : PySem.W.Frag} {H : Hp} {b : Addr} {us : List V} {t : Tab} {m i k : Nat} (r : RowsT K H us t) (sq : Sq m t) (hi : i < m) (hk : k < m) : ∃ c vs v, us[i]? = some (.ref c) ∧ tO H c = some (.tup vs) ∧ vs[k]? = some v ∧ FrV K H v (gt t i k) := by
  have hi' : i < t.length := by rw [sq.len]; exact hi
  have hu : i < us.length := by rw [r.len]; exact hi'
  have hrow : (t[i]).length = m := by
    have z := sq.row i hi
    rw [getD_in _ hi'] at z
    exact z
  obtain ⟨c, vs, e, ec, f⟩ := r.get i _ _ (List.getElem?_eq_getElem hu) (List.getElem?_eq_getElem hi')
  obtain ⟨v, ev, fv⟩ := frl_at f (j := k) (by omega)
  refine ⟨c, vs, v, by rw [List.getElem?_eq_getElem hu, e], ec, ev, ?_⟩
  unfold gt
  rw [getD_in _ hi']
  exact fv
section
variable {P : Program} {w : World} {K : PySem.W.Frag} {mg : Str → Option Value} {base : Heap}
end
end KP

set_option Elab.async false
set_option linter.all false
set_option maxRecDepth 100000
set_option maxHeartbeats 4000000
/-! ### the law's sums of looks -/
namespace KP
open PySem PySem.Spec PyProof.Rows L2 KX KT KJ KS FR
/-- a row of told fractions over one number -/
theorem told_row : ∀ {r : List Fr}, ToldS r → ∃ M, 0 < M ∧ M < 2 ^ (10 * r.length + 1) ∧ ∀ x ∈ r, Bd M 999 x
  | [], _ => ⟨1, by decide, by decide, fun x h => by cases h⟩
  | y :: r, h => by
    obtain ⟨M, m0, m1, b⟩ := told_row (r := r) fun a ha => h a (List.mem_cons_of_mem _ ha)
    have hy := h y List.mem_cons_self
    obtain ⟨p0, p1⟩ := told_pow hy
    refine ⟨M * y.2.natAbs, Nat.mul_pos m0 p0, ?_, fun x hx => ?_⟩
    · have := pow_mul_lt m1 p1
      rw [List.length_cons, show 10 * (r.length + 1) + 1 = 10 * r.length + 1 + 10 by omega]
      exact this
    · rcases List.mem_cons.mp hx with rfl | hx
      · exact (told_bd hy).mono (Nat.dvd_mul_left _ _) (Nat.le_refl _)
      · exact (b x hx).mono (Nat.dvd_mul_right _ _) (Nat.le_refl _)
theorem col_bdM {M m : Nat} {t : Tab} (h : TabM M t) (sq : Sq m t) (m4 : m ≤ 4) (f : Nat) : ∀ k, ∀ x ∈ colF t m f k, Bd (M ^ k) (2 ^ (17 * k)) x
  | 0 => fun x hx => by
    have hx : x ∈ row0 m f := hx
    unfold row0 at hx
    obtain ⟨k, _, rfl⟩ := List.mem_map.mp hx
    split <;> exact ⟨by decide, ⟨1, rfl⟩, by decide⟩
  | k + 1 => fun x hx => by
    obtain ⟨row, hrow, rfl⟩ := List.mem_map.mp (show x ∈ sentF t (colF t m f k) from hx)
    have lr : row.length = m := by
      obtain ⟨i, hi, rfl⟩ := List.getElem_of_mem hrow
      have z := sq.row i (by rw [← sq.len]; exact hi)
      rw [getD_in _ hi] at z
      exact z
    have zz := dotI_bd (N := 23977) (N' := 2 ^ (17 * k)) h.pos (h.pow k).1 (h.bd row hrow) (col_bdM h sq m4 f k) (by rw [lr, colF_len sq]) (Nat.le_refl row.length)
    have e : M * M ^ k = M ^ (k + 1) := by rw [Nat.pow_succ, Nat.mul_comm]
    rw [e] at zz
    refine zz.mono (Nat.dvd_refl _) ?_
    rw [Nat.mul_succ, Nat.pow_add, Nat.mul_comm (2 ^ (17 * k)), ← Nat.mul_assoc]
    exact Nat.mul_le_mul_right _ (Nat.le_trans (show row.length * 23977 ≤ 4 * 23977 by omega) (by decide))
/-- a row of looks -/
def lrow (n : NetM) (t : Tab) (p s : Nat) : List Fr := n.fs.map fun f => (colF t n.m f p).getD s (0, 1)
theorem lrow_bd {M : Nat} {n : NetM} {t : Tab} (h : TabM M t) (sq : Sq n.m t) (m4 : n.m ≤ 4) {p s : Nat} (hs : s < n.m) : ∀ x ∈ lrow n t p s, Bd (M ^ p) (2 ^ (17 * p)) x := fun x hx => by
  obtain ⟨f, _, rfl⟩ := List.mem_map.mp hx
  exact col_bdM h sq m4 f p _ (getD_mem (by rw [colF_len sq]; exact hs))
theorem lrow_dot {M : Nat} {n : NetM} {t : Tab} (h : TabM M t) (sq : Sq n.m t) (m4 : n.m ≤ 4) (f4 : n.fs.length ≤ 4) {p s : Nat} (p8 : p ≤ 8) (hs : s < n.m) {r : List Fr} (tr : ToldS r) (lr : r.length = n.fs.length) : DotOk (lrow n t p s) r := by
  obtain ⟨F, f0, f1, fb⟩ := told_row tr
  have e17 : 2 ^ (17 * p) < 2 ^ 137 := Nat.pow_lt_pow_right (by decide) (by omega)
  exact ⟨by unfold lrow; rw [List.length_map, lr], by unfold lrow; rw [List.length_map]; exact f4, 121 * p + 1, 137, 10 * r.length + 1, 10, ⟨M ^ p, _, (h.pow p).1, (h.pow p).2, e17, lrow_bd h sq m4 hs⟩, ⟨F, 999, f0, f1, by decide, fb⟩, by omega⟩
theorem sumP_bd {M : Nat} {n : NetM} {as : List Fr} {fl : List (List Fr)} (h : TabM M (tabF n as)) (g : GoodN n) (hf : FlOk n fl) {a : Nat} (ha : a < n.ss.length) : ∀ i, i ≤ fl.length → ∃ F, 0 < F ∧ F < 2 ^ (41 * i + 1) ∧ Bd (M ^ 8 * F) (i * 2 ^ 150) (sumP (looksF n as fl.length) fl a i)
  | 0, _ => ⟨1, by decide, by decide, bd0 (Nat.mul_pos (h.pow 8).1 (by decide))⟩
  | i + 1, hi => by
    obtain ⟨F, f0, f1, b⟩ := sumP_bd h g hf ha i (by omega)
    have hil : i < fl.length := by omega
    obtain ⟨lr, tr⟩ := hf.2 _ (List.getElem_mem hil)
    obtain ⟨G, g0, g1, gb⟩ := told_row tr
    have l8 := hf.1
    have f4 : n.fs.length ≤ 4 := Nat.le_trans g.fs.len g.m4
    have sq := sqF n as
    have e0 : ((looksF n as fl.length).getD (fl.length - 1 - i) []).getD a [] = lrow n (tabF n as) (fl.length - 1 - i) n.ss[a] := looks_at (by omega) ha
    rw [sumP_succ, e0, getD_in _ hil]
    have hs := g.ss.lt _ (List.getElem_mem ha)
    have ll : (lrow n (tabF n as) (fl.length - 1 - i) n.ss[a]).length = n.fs.length := by unfold lrow; rw [List.length_map]
    have d := dotI_bd (h.pow (fl.length - 1 - i)).1 g0 (lrow_bd h sq g.m4 hs) gb (by rw [ll, lr]) (Nat.le_refl _)
    refine ⟨F * G, Nat.mul_pos f0 g0, ?_, ?_⟩
    · have z := pow_mul_lt f1 g1
      exact Nat.lt_of_lt_of_le z (Nat.pow_le_pow_right (by decide) (by omega))
    · have e1 : M ^ 8 = M ^ (fl.length - 1 - i) * M ^ (8 - (fl.length - 1 - i)) := by rw [← Nat.pow_add]; congr 1; omega
      have d' := d.mono (M' := M ^ 8 * (F * G)) (N' := 2 ^ 150) (by
        rw [e1, Nat.mul_assoc]
        exact Nat.mul_dvd_mul_left _ (Nat.dvd_trans (Nat.dvd_mul_left G F) (Nat.dvd_mul_left _ _))) (by
        have e17 : 2 ^ (17 * (fl.length - 1 - i)) ≤ 2 ^ 119 := Nat.pow_le_pow_right (by decide) (by omega)
        have l : (4 : Nat) * (2 ^ 119 * 999) ≤ 2 ^ 150 := by decide
        refine Nat.le_trans ?_ l
        exact Nat.mul_le_mul (by omega) (Nat.mul_le_mul_right _ e17))
      rw [Nat.succ_mul]
      exact (b.mono (Nat.mul_dvd_mul_left _ (Nat.dvd_mul_right _ _)) (Nat.le_refl _)).add d'
theorem sumP_sz {M : Nat} {n : NetM} {as : List Fr} {fl : List (List Fr)} (h : TabM M (tabF n as)) (g : GoodN n) (hf : FlOk n fl) {a : Nat} (ha : a < n.ss.length) {i : Nat} (hi : i ≤ fl.length) : Sz 4000 (sumP (looksF n as fl.length) fl a i) := by
  obtain ⟨F, f0, f1, b⟩ := sumP_bd h g hf ha i hi
  have l8 := hf.1
  have hn : i * 2 ^ 150 < 2 ^ 160 := Nat.lt_of_le_of_lt (Nat.mul_le_mul_right _ (show i ≤ 8 by omega)) (by decide)
  exact (b.sz (Nat.mul_pos (h.pow 8).1 f0) (pow_mul_lt (h.pow 8).2 f1) hn).mono (by omega)
theorem dot_one {r h : List Fr} (ok : DotOk r h) : Sz 4000 (dotF r h) := by
  obtain ⟨hl, l4, a, b, a', b', h1, h2, hz⟩ := ok
  exact (dot_sz h1 h2 hl l4 hz (Nat.le_refl _)).1
def spSum (K : PySem.W.Frag) : Sp := fun vs H Q _ => ∃ (x c z : V) (n : NetM) (as : List Fr) (fl : List (List Fr)), vs = [x, c, z] ∧ GoodN n ∧ Th (tO H) x (NetM.d n) ∧ AsOk n as ∧ FlOk n fl ∧ Th (tO H) z (flD fl) ∧ CubT K H c (looksF n as fl.length) ∧ ∀ v H', Same H H' → RowT K H' v (sumF n (looksF n as fl.length) fl) → Q v H'
abbrev nSm : List Str := ["net", "looks", "fillings", "found", "at", "part", "beat", "row"]
/-- a row of a table of a cube -/
theorem cub_at {K : PySem.W.Frag} {H : Hp} {c : V} {n : NetM} {as : List Fr} {k p s : Nat} (h : CubT K H c (looksF n as k)) (hp : p < k) (hs : s < n.ss.length) : ∃ b us d vs v, c = .ref b ∧ tO H b = some (.tup us) ∧ us[p]? = some (.ref d) ∧ tO H d = some (.tup vs) ∧ vs[s]? = some v ∧ RowT K H v (lrow n (tabF n as) p n.ss[s]) := by
  obtain ⟨b, us, rfl, e, r⟩ := h
  have hu : p < us.length := by rw [r.len, looksF_len]; exact hp
  have ep : (looksF n as k)[p]? = some (looksRow n (tabF n as) p) := by unfold looksF; rw [List.getElem?_map, List.getElem?_range hp]; rfl
  obtain ⟨d, vs, e1, e2, rv⟩ := r.get p _ _ (List.getElem?_eq_getElem hu) ep
  have hv : s < vs.length := by rw [rv.len]; unfold looksRow; rw [List.length_map]; exact hs
  have es : (looksRow n (tabF n as) p)[s]? = some (lrow n (tabF n as) p n.ss[s]) := by unfold looksRow; rw [List.getElem?_map, List.getElem?_eq_getElem hs]; rfl
  exact ⟨b, us, d, vs, vs[s], rfl, e, by rw [List.getElem?_eq_getElem hu, e1], e2, List.getElem?_eq_getElem hv, rv.get s _ _ (List.getElem?_eq_getElem hv) es⟩
section
variable {P : Program} {w : World} {K : PySem.W.Frag} {mg : Str → Option Value} {base : Heap}
theorem ok_dotT {f fA fM : Addr} {fd fdA fdM : FuncData} (F : Fun K "_law_dot" "_law_dot" lDot f fd) (T : TxD mg) (mZ : mg "zip" = none)
    (FA : FnOk P w K mg base CX0 2 fA fdA ["one", "two"] (spBin K addF)) (mA : mg "_law_plus" = some (.ref fA)) (kA : PySem.W.keepIn K (.ref fA) = true) (bA : Binds K fdA ["one", "two"] [])
    (FM : FnOk P w K mg base CX0 2 fM fdM ["one", "two"] (spBin K mulF)) (mM : mg "_law_by" = some (.ref fM)) (kM : PySem.W.keepIn K (.ref fM) = true) (bM : Binds K fdM ["one", "two"] []) :
    FnOk P w K mg base CX0 3 f fd ["one", "two"] (spDot K) := by
  refine F.ok scDt (fun vs H Q E h => ?_) (fun cdv A outer s H vs Q E hr h => ?_)
  · obtain ⟨u, v, r, h, rfl, _⟩ := h
    rfl
  · obtain ⟨u, v, r, h, rfl, hu, hv, ok, k⟩ := h
    refine ⟨_, pss_cons (ps_set (i := 2) scDt.nd rfl (Or.inl rfl) (pe_tup (pa_cons pe_int (pa_cons pe_int pa_nil))))
      (pss_cons (ps_for PassesOwn.never rfl (RZ.pi_zipA (by rfl) mZ (pa_cons (pv 0) (pa_cons (pv 1) pa_nil))) (pg_tup rfl (pgs_cons (pg_name (i := 3) scDt.nd rfl (Or.inl rfl)) (pgs_cons (pg_name (i := 4) scDt.nd rfl (Or.inl rfl)) pgs_nil)))
        (pss_one (ps_set (i := 2) scDt.nd rfl (Or.inl rfl) (pe_call FA hr rfl mA kA bA .nil pass0 (pa_cons (pv 2) (pa_cons (pe_call FM hr rfl mM kM bM .nil pass0 (pa_cons (pv 3) (pa_cons (pv 4) pa_nil))) pa_nil))))))
      (pss_one (ps_ret (pv 2)))), ?_⟩
    obtain ⟨a, xs, rfl, ea, fa⟩ := hu
    obtain ⟨b, ys, rfl, eb, fb⟩ := hv
    obtain ⟨hl, l4, a1, b1, a2, b2, hb1, hb2, hz⟩ := ok
    have lx := fa.len
    have ly := fb.len
    refine ⟨(by show 2 ≤ sizeLine; decide), fun p hp => ?_⟩
    have sp := same_upd (o := .tup [V.int 0, V.int 1]) hp
    refine ⟨_, rfl, _, rfl, a, b, xs, ys, rfl, .inr ⟨SqT.of (sp.rd (tO_same H _ _ ea)), SqT.of (sp.rd (tO_same H _ _ eb)), ?_⟩⟩
    refine for_it (walk_zipT (K := K) (a := a) (b := b) (xs := xs) (ys := ys) (n := r.length) (by omega)) (fun i σ H' => (∃ w o3 o4, σ = [some (.ref a), some (.ref b), some w, o3, o4] ∧ FrV K H' w (dotI r h i)) ∧ Same H H') ⟨⟨_, _, _, rfl, FrV.new (x := (0, 1))⟩, sp⟩
      (fun i σ H' _ z => ⟨SqT.of (z.2.rd (tO_same H _ _ ea)), SqT.of (z.2.rd (tO_same H _ _ eb))⟩) ?_ ?_
    · rintro i v σ H' H'' hi ⟨⟨w, o3, o4, rfl, fw⟩, s1⟩ ⟨U, x1, y1, rfl, hU, rfl, hx1, hy1⟩
      have sU := same_upd (o := .tup [x1, y1]) hU
      have s2 : Same H _ := s1.trans sU
      have ex := List.getElem?_eq_getElem (show i < r.length by omega)
      have ey := List.getElem?_eq_getElem (show i < h.length by omega)
      have fx := (fa.get i _ _ hx1 ex).tk (Tk.same s2)
      have fy := (fb.get i _ _ hy1 ey).tk (Tk.same s2)
      obtain ⟨z0, z1⟩ := dot_sz hb1 hb2 hl l4 (by omega) (i := i) (by omega)
      obtain ⟨zx, zy, zm⟩ := z1 _ _ ex ey
      refine ⟨U, _, rfl, SqT.of upd_same, rfl, _, _, rfl, _, _, rfl, rfl, ?_⟩
      refine ⟨_, rfl, _, rfl, _, rfl, _, _, _, _, rfl, fx, fy, zx, zy, fun wm H3 s3 fm => ?_⟩
      refine ⟨_, _, _, _, rfl, fw.tk (Tk.same (sU.trans s3)), fm, z0, zm, fun wa H4 s4 fa' => ⟨⟨_, _, _, rfl, ?_⟩, s2.trans (s3.trans s4)⟩⟩
      rw [dotI_succ ex ey]
      exact fa'
    · rintro σ H' ⟨⟨w, o3, o4, rfl, fw⟩, s1⟩
      exact ⟨_, rfl, k w H' s1 fw⟩
end
end KP

set_option Elab.async false
set_option linter.all false
set_option maxRecDepth 100000
set_option maxHeartbeats 4000000
/-! ### looks shown -/
namespace KP
open PySem PySem.Spec PyProof.Rows L2 KX KT KJ KS FR
structure KOk (c : List Tab) : Prop where
  len : c.length ≤ 20
  tab : ∀ t ∈ c, TOk t
def cD (c : List Tab) : PyData := .tuple (c.map flD)
theorem sw_cub {c : List Tab} (h : KOk c) : Sw 4000043 5 (cD c) := by
  have z := sw_tup (k := 20) (L := 200000) (n := 4) (ds := c.map flD) (fun d hd => by
    obtain ⟨t, ht, rfl⟩ := List.mem_map.mp hd
    exact sw_tab (h.tab t ht)) (by rw [List.length_map]; exact h.len)
  exact ⟨z.ok, Nat.le_trans z.len (by decide), z.dep, z.nod⟩
section
variable {K : PySem.W.Frag} {H : Hp}
theorem dp_cub {v : V} {c : List Tab} (h : CubT K H v c) : Dp K H v (cD c) := by
  obtain ⟨a, us, rfl, e, r⟩ := h
  exact .tup (SqT.of (tO_same H _ _ e)) (dpAll_of r.len fun k u t a b => dp_tab (r.get k u t a b))
theorem shw_cub2 {a : Addr} {v1 v2 : V} {c : List Tab} (e : H a = some (.lst [v1, v2])) (h1 : CubT K H v1 c) (h2 : CubT K H v2 c) (ok : KOk c) : Shw K H (.ref a) (.list [cD c, cD c]) := by
  have s := sw_cub ok
  have z := sw_lst (k := 2) (L := 4000043) (n := 5) (ds := [cD c, cD c]) (fun d hd => by
    simp only [List.mem_cons, List.not_mem_nil, or_false] at hd
    rcases hd with rfl | rfl <;> exact s) (by simp)
  exact ⟨z.ok, Nat.le_trans z.len (by decide), Nat.le_trans z.dep (by decide), .inl ⟨z.nod, .lst (SqL.of e) (.cons (dp_cub h1) (.cons (dp_cub h2) .nil))⟩⟩
theorem sw_fr {x : Fr} (hx : FOk x) : Sw 3849 2 (fD x) := sw_tup (k := 2) (L := 1921) (n := 1) (fun d hd => by
    simp only [List.mem_cons, List.not_mem_nil, or_false] at hd
    rcases hd with rfl | rfl
    · exact sw_int hx.n
    · exact sw_int hx.d) (by simp)
theorem shw_row {v : V} {r : List Fr} (h : RowT K H v r) (hl : r.length ≤ 4) (ok : ∀ x ∈ r, FOk x) : Shw K H v (.tuple (r.map fD)) := by
  have z : Sw 15407 3 (.tuple (r.map fD)) := sw_tup (k := 4) (L := 3849) (n := 2) (fun d hd => by
    obtain ⟨x, hx, rfl⟩ := List.mem_map.mp hd
    exact sw_fr (ok x hx)) (by rw [List.length_map]; exact hl)
  obtain ⟨c, vs, rfl, e2, f⟩ := h
  exact ⟨z.ok, Nat.le_trans z.len (by decide), Nat.le_trans z.dep (by decide), .inl ⟨z.nod, .tup (SqT.of (tO_same H _ _ e2)) (dpAll_of f.len fun k v x a b => dp_fr (f.get k v x a b))⟩⟩
end
theorem Sz.fok {x : Fr} (h : FR.Sz 1900 x) : FOk x := ⟨(h.mono (b := 1920) (by decide)).n, (h.mono (b := 1920) (by decide)).d⟩
theorem looksRow_tok {n : NetM} {as : List Fr} (g : GoodN n) (ok : AsOk n as) {k : Nat} (hk : ManyOk n k) : TOk (looksRow n (tabF n as) k) := by
  have m4 := g.m4
  have f4 : n.fs.length ≤ 4 := Nat.le_trans g.fs.len m4
  have s4 : n.ss.length ≤ 4 := Nat.le_trans g.ss.len m4
  refine ⟨by unfold looksRow; rw [List.length_map]; omega, fun r hr => ?_⟩
  unfold looksRow at hr
  obtain ⟨s, hs, rfl⟩ := List.mem_map.mp hr
  refine ⟨by rw [List.length_map]; exact f4, fun x hx => ?_⟩
  obtain ⟨f, _, rfl⟩ := List.mem_map.mp hx
  obtain ⟨a, b, h, hz⟩ := col_hb g ok hk f
  exact Sz.fok (h.fok (by omega) (getD_mem (by rw [colF_len (sqF n as)]; exact g.ss.lt s hs)))
theorem looks_kok {n : NetM} {as : List Fr} (g : GoodN n) (ok : AsOk n as) {k : Nat} (hk : ManyOk n k) : KOk (looksF n as k) := by
  refine ⟨by rw [looksF_len]; exact hk.l20, fun t ht => ?_⟩
  unfold looksF at ht
  obtain ⟨p, hp, rfl⟩ := List.mem_map.mp ht
  exact looksRow_tok g ok (hk.le (Nat.le_of_lt (List.mem_range.mp hp)))
theorem tab_lo {n : NetM} {as : List Fr} (g : GoodN n) (ok : AsOk n as) : LoT (tabF n as) := lo_tab fun p hp => lo_told (part_told (g.ps p hp).sh ok.1 ok.2)
theorem last_seen {K : PySem.W.Frag} {H : Hp} {v : V} {n : NetM} {as : List Fr} {fl : List (List Fr)} (h : TabT K H v (seenAll n as fl)) : ∃ a us u, v = .ref a ∧ tO H a = some (.tup us) ∧ atI us (-1) = some u ∧ RowT K H u (seenF n.ss (heldI n as fl fl.length)) := by
  obtain ⟨a, us, rfl, e, r⟩ := h
  have l : us.length = fl.length + 1 := by rw [r.len]; unfold seenAll; rw [List.length_map, List.length_range]
  have hu : fl.length < us.length := by omega
  have er : (seenAll n as fl)[fl.length]? = some (seenF n.ss (heldI n as fl fl.length)) := by unfold seenAll; rw [List.getElem?_map, List.getElem?_range (by omega)]; rfl
  refine ⟨a, us, us[fl.length], rfl, e, ?_, r.get _ _ _ (List.getElem?_eq_getElem hu) er⟩
  unfold atI ixN
  rw [if_neg (by decide), if_pos (by omega)]
  show us[((-1 : Int) + (us.length : Int)).toNat]? = _
  rw [show ((-1 : Int) + (us.length : Int)).toNat = fl.length by omega]
  exact List.getElem?_eq_getElem hu
theorem sum_seen {n : NetM} {as : List Fr} {fl : List (List Fr)} (g : GoodN n) (ok : AsOk n as) (hf : FlOk n fl) : sumF n (looksF n as fl.length) fl = seenF n.ss (heldI n as fl fl.length) :=
  seen_sum (tab_lo g ok) (fun r hr => ⟨(hf.2 r hr).1, fun x hx => lo_told ((hf.2 r hr).2 x hx)⟩) g.fs.lt g.ss.lt fun k hk => (held_ok g ok hf hk).2
theorem seen_rok {n : NetM} {as : List Fr} {fl : List (List Fr)} (g : GoodN n) (ok : AsOk n as) (hf : FlOk n fl) : (seenF n.ss (heldI n as fl fl.length)).length ≤ 4 ∧ ∀ x ∈ seenF n.ss (heldI n as fl fl.length), FOk x := by
  have z := seen_tok g ok hf
  refine z.row _ ?_
  unfold seenAll
  exact List.mem_map.mpr ⟨fl.length, List.mem_range.mpr (by omega), rfl⟩
theorem i_setIf {t : TT} {ta tb : TE} {i : Nat} {b : Bool} {σ : L2.St} {H : Hp} {D : Ends} (h : Ti t σ H b) (h1 : b = true → ta σ H fun v H1 => D.nx (σ.set i (some v)) H1) (h2 : b = false → tb σ H fun v H1 => D.nx (σ.set i (some v)) H1) : tAsg (tIf t ta tb) (gName i) D σ H := h _ (iteB h1 h2)
end KP

set_option Elab.async false
set_option linter.all false
set_option maxRecDepth 100000
set_option maxHeartbeats 1000000
/-! ### what a row of powers tells: of more vectors than places one is a sum of those ahead -/
namespace FR
theorem sm_skip (f : Nat → Rat) (j0 : Nat) : ∀ n, j0 ≤ n → sm (n + 1) f = sm n (fun j => f (if j < j0 then j else j + 1)) + f j0
  | n, h => by
    induction n with
    | zero =>
      have : j0 = 0 := by omega
      subst this
      rfl
    | succ n ih =>
      by_cases c : j0 = n + 1
      · subst c
        show sm (n + 1) f + f (n + 1) = _
        rw [sm_congr (n := n + 1) (g := fun j => f (if j < n + 1 then j else j + 1)) fun i hi => by rw [if_pos hi]]
      · show sm (n + 1) f + f (n + 1) = (sm n (fun j => f (if j < j0 then j else j + 1)) + f (if n < j0 then n else n + 1)) + f j0
        rw [ih (by omega), if_neg (by omega)]
        grind
theorem sm_split (f : Nat → Rat) (m : Nat) : ∀ k, sm (m + k) f = sm m f + sm k fun i => f (m + i)
  | 0 => by
    show sm m f = sm m f + 0
    grind
  | k + 1 => by
    show sm (m + k) f + f (m + k) = sm m f + (sm k _ + f (m + k))
    rw [sm_split f m k]
    grind
/-- n + 1 vectors of n numbers hang together -/
theorem hang : ∀ (n : Nat) (v : Nat → Nat → Rat), ∃ c : Nat → Rat, (∃ j, j < n + 1 ∧ c j ≠ 0) ∧ ∀ i, i < n → (sm (n + 1) fun j => c j * v j i) = 0
  | 0, v => ⟨fun _ => 1, ⟨0, by decide, by decide⟩, fun i hi => by omega⟩
  | n + 1, v => by
    by_cases z : ∀ j, j < n + 2 → v j n = 0
    · obtain ⟨c, ⟨j, hj, hc⟩, h⟩ := hang n v
      refine ⟨fun j => if j < n + 1 then c j else 0, ⟨j, by omega, by dsimp only; rw [if_pos hj]; exact hc⟩, fun i hi => ?_⟩
      show sm (n + 1) _ + (if n + 1 < n + 1 then c (n + 1) else 0) * v (n + 1) i = 0
      rw [if_neg (by omega), sm_congr (g := fun j => c j * v j i) fun j hj => by dsimp only; rw [if_pos hj]]
      by_cases e : i = n
      · subst e
        rw [sm_congr (g := fun _ => 0) fun j hj => by rw [z j (by omega)]; grind, sm_zero]
        grind
      · rw [h i (by omega)]
        grind
    · have z : ∃ j, j < n + 2 ∧ v j n ≠ 0 := by
        false_or_by_contra
        rename_i w
        exact z fun j hj => by
          false_or_by_contra
          rename_i u
          exact w ⟨j, hj, u⟩
      obtain ⟨j0, hj0, p0⟩ := z
      obtain ⟨c, ⟨j, hj, hc⟩, h⟩ := hang n fun j i => v (if j < j0 then j else j + 1) i - v (if j < j0 then j else j + 1) n / v j0 n * v j0 i
      refine ⟨fun j => if j = j0 then - sm (n + 1) (fun j => c j * v (if j < j0 then j else j + 1) n) / v j0 n else c (if j < j0 then j else j - 1), ⟨if j < j0 then j else j + 1, ?_, ?_⟩, fun i hi => ?_⟩
      · split <;> omega
      · dsimp only
        by_cases d : j < j0
        · rw [if_pos d, if_neg (by omega), if_pos d]
          exact hc
        · rw [if_neg d, if_neg (by omega), if_neg (by omega), show j + 1 - 1 = j by omega]
          exact hc
      · rw [sm_skip _ j0 (n + 1) (by omega)]
        have e1 : ∀ j, j < n + 1 → (if (if j < j0 then j else j + 1) = j0 then - sm (n + 1) (fun j => c j * v (if j < j0 then j else j + 1) n) / v j0 n else c (if (if j < j0 then j else j + 1) < j0 then (if j < j0 then j else j + 1) else (if j < j0 then j else j + 1) - 1)) * v (if j < j0 then j else j + 1) i = c j * v (if j < j0 then j else j + 1) i := fun j _ => by
          by_cases d : j < j0
          · rw [if_pos d, if_neg (by omega), if_pos d]
          · rw [if_neg d, if_neg (by omega), if_neg (by omega), show j + 1 - 1 = j by omega]
        rw [sm_congr e1]
        dsimp only
        rw [if_pos rfl]
        have e2 : (sm (n + 1) fun j => c j * (v (if j < j0 then j else j + 1) i - v (if j < j0 then j else j + 1) n / v j0 n * v j0 i)) = 0 := by
          by_cases e : i = n
          · subst e
            rw [sm_congr (g := fun _ => 0) fun j _ => by grind, sm_zero]
          · exact h i (by omega)
        have e3 : (sm (n + 1) fun j => c j * (v (if j < j0 then j else j + 1) i - v (if j < j0 then j else j + 1) n / v j0 n * v j0 i)) = (sm (n + 1) fun j => c j * v (if j < j0 then j else j + 1) i) + sm (n + 1) (fun j => c j * v (if j < j0 then j else j + 1) n) * (- v j0 i / v j0 n) := by
          rw [← sm_mulr, ← sm_add]
          exact sm_congr fun j _ => by grind
        rw [e3] at e2
        generalize (sm (n + 1) fun j => c j * v (if j < j0 then j else j + 1) i) = X at e2 ⊢
        generalize (sm (n + 1) fun j => c j * v (if j < j0 then j else j + 1) n) = Y at e2 ⊢
        grind
theorem last_of (c : Nat → Rat) : ∀ n, (∃ j, j < n ∧ c j ≠ 0) → ∃ d, d < n ∧ c d ≠ 0 ∧ ∀ j, d < j → j < n → c j = 0
  | 0, ⟨j, h, _⟩ => by omega
  | n + 1, ⟨j, hj, hc⟩ => by
    by_cases z : c n = 0
    · have : j ≠ n := fun e => hc (e ▸ z)
      obtain ⟨d, h1, h2, h3⟩ := last_of c n ⟨j, by omega, hc⟩
      refine ⟨d, by omega, h2, fun k hk hk' => ?_⟩
      by_cases e : k = n
      · rw [e]
        exact z
      · exact h3 k hk (by omega)
    · exact ⟨n, by omega, z, fun k _ _ => by omega⟩
theorem sm_cut {f : Nat → Rat} {d : Nat} : ∀ {n}, d ≤ n → (∀ j, d ≤ j → j < n → f j = 0) → sm n f = sm d f
  | 0, h, _ => by
    have : d = 0 := by omega
    rw [this]
  | n + 1, h, z => by
    by_cases e : d = n + 1
    · rw [e]
    · show sm n f + f n = _
      rw [sm_cut (n := n) (by omega) fun j h1 h2 => z j h1 (by omega), z n (by omega) (by omega)]
      grind
theorem krylov {N : Nat} {B : Nat → Nat → Rat} {v : Nat → Nat → Rat} (hv : ∀ k i, i < N → v (k + 1) i = sm N fun l => B i l * v k l) {L : Nat → Rat} (h : ∀ k, k < N → (sm N fun i => L i * v k i) = 0) : ∀ k, (sm N fun i => L i * v k i) = 0 := by
  obtain ⟨c, hc, hh⟩ := hang N v
  obtain ⟨d, h1, h2, h3⟩ := last_of c (N + 1) hc
  -- the last one by those ahead
  have e0 : ∀ i, i < N → v d i = sm d fun j => -c j / c d * v j i := fun i hi => by
    have z := hh i hi
    rw [sm_cut (d := d + 1) (by omega) fun j a b => by rw [h3 j (by omega) b]; grind] at z
    have z : sm d (fun j => c j * v j i) + c d * v d i = 0 := z
    have w : (sm d fun j => -c j / c d * v j i) = sm d (fun j => c j * v j i) * (-1 / c d) := by
      rw [← sm_mulr]
      exact sm_congr fun j _ => by grind
    rw [w]
    grind
  have e1 : ∀ t i, i < N → v (d + t) i = sm d fun j => -c j / c d * v (j + t) i := fun t => by
    induction t with
    | zero => exact e0
    | succ t ih =>
      intro i hi
      rw [show d + (t + 1) = (d + t) + 1 by omega, hv _ _ hi, sm_congr (g := fun l => sm d fun j => B i l * (-c j / c d * v (j + t) l)) fun l hl => by rw [ih l hl, sm_mul], sm_swap]
      refine sm_congr fun j _ => ?_
      rw [show j + (t + 1) = (j + t) + 1 by omega, hv _ _ hi, ← sm_mul]
      exact sm_congr fun l _ => by grind
  intro k
  induction k using Nat.strongRecOn with
  | ind k ih =>
    by_cases z : k < N
    · exact h k z
    · obtain ⟨t, rfl⟩ : ∃ t, k = d + t := ⟨k - d, by omega⟩
      rw [sm_congr (g := fun i => sm d fun j => -c j / c d * (L i * v (j + t) i)) fun i hi => by
        rw [e1 t i hi, ← sm_mul]
        exact sm_congr fun j _ => by grind, sm_swap, sm_congr (g := fun _ => 0) fun j hj => by
          rw [sm_mul, ih (j + t) (by omega)]
          grind, sm_zero]
/-- two tables: looks that are equal below twice the tanks are equal for ever -/
theorem for_ever {m : Nat} {A A' : Nat → Nat → Rat} {s f : Nat} (hs : s < m) (h : ∀ k, k < 2 * m → pw A m k s f = pw A' m k s f) : ∀ k, pw A m k s f = pw A' m k s f := by
  have ev : ∀ k, (sm (m + m) fun i => (dlt i s - dlt i (m + s)) * (if i < m then pw A m k i f else pw A' m k (i - m) f)) = pw A m k s f - pw A' m k s f := fun k => by
    rw [sm_split]
    have a : (sm m fun i => (dlt i s - dlt i (m + s)) * (if i < m then pw A m k i f else pw A' m k (i - m) f)) = pw A m k s f := by
      rw [sm_congr (g := fun i => pw A m k i f * dlt i s) fun i hi => by
        rw [if_pos hi, show dlt i (m + s) = 0 from if_neg (by omega)]
        grind, sm_dlt (f := fun i => pw A m k i f), if_pos hs]
    have b : (sm m fun i => (dlt (m + i) s - dlt (m + i) (m + s)) * (if m + i < m then pw A m k (m + i) f else pw A' m k (m + i - m) f)) = - pw A' m k s f := by
      rw [sm_congr (g := fun i => (-1) * (pw A' m k i f * dlt i s)) fun i hi => by
        rw [if_neg (by omega), show dlt (m + i) s = 0 from if_neg (by omega), show m + i - m = i by omega]
        have : dlt (m + i) (m + s) = dlt i s := by
          unfold dlt
          by_cases e : i = s
          · rw [if_pos e, if_pos (by omega)]
          · rw [if_neg e, if_neg (by omega)]
        rw [this]
        grind, sm_mul, sm_dlt (f := fun i => pw A' m k i f), if_pos hs]
      grind
    rw [a, b]
    grind
  have kv := krylov (N := m + m) (B := fun i l => if i < m then (if l < m then A i l else 0) else (if l < m then 0 else A' (i - m) (l - m))) (v := fun k i => if i < m then pw A m k i f else pw A' m k (i - m) f) (L := fun i => dlt i s - dlt i (m + s)) (fun k i hi => by
    show _ = _
    rw [sm_split]
    by_cases c : i < m
    · rw [if_pos c]
      have a : (sm m fun l => (if i < m then (if l < m then A i l else 0) else (if l < m then 0 else A' (i - m) (l - m))) * (if l < m then pw A m k l f else pw A' m k (l - m) f)) = pw A m (k + 1) i f := sm_congr fun l hl => by rw [if_pos c, if_pos hl, if_pos hl]
      have b : (sm m fun l => (if i < m then (if m + l < m then A i (m + l) else 0) else (if m + l < m then 0 else A' (i - m) (m + l - m))) * (if m + l < m then pw A m k (m + l) f else pw A' m k (m + l - m) f)) = 0 := by
        rw [sm_congr (g := fun _ => 0) fun l _ => by rw [if_pos c, if_neg (show ¬ m + l < m by omega)]; grind, sm_zero]
      rw [a, b]
      grind
    · rw [if_neg c]
      have a : (sm m fun l => (if i < m then (if l < m then A i l else 0) else (if l < m then 0 else A' (i - m) (l - m))) * (if l < m then pw A m k l f else pw A' m k (l - m) f)) = 0 := by
        rw [sm_congr (g := fun _ => 0) fun l hl => by rw [if_neg c, if_pos hl]; grind, sm_zero]
      have b : (sm m fun l => (if i < m then (if m + l < m then A i (m + l) else 0) else (if m + l < m then 0 else A' (i - m) (m + l - m))) * (if m + l < m then pw A m k (m + l) f else pw A' m k (m + l - m) f)) = pw A' m (k + 1) (i - m) f := sm_congr fun l hl => by
        rw [if_neg c, if_neg (show ¬ m + l < m by omega), if_neg (show ¬ m + l < m by omega), show m + l - m = l by omega]
      rw [a, b]
      grind) (fun k hk => by
    rw [ev, h k (by omega)]
    grind)
  intro k
  have z := kv k
  rw [ev] at z
  grind
end FR
/-! ### the first look that parts; alike for ever -/
namespace KP
open PySem PySem.Spec PyProof.Rows L2 KX KT KJ KS FR
/-- an entry of looks -/
def cg (c : List Tab) (p r q : Nat) : Fr := ((c.getD p []).getD r []).getD q (0, 1)
/-- ahead of (p, r, q) -/
def Ahead (p r q p' r' q' : Nat) : Prop := p' < p ∨ (p' = p ∧ (r' < r ∨ (r' = r ∧ q' < q)))
/-- what parting tells -/
def PartR (n : NetM) (a b : List Tab) (k : Nat) : Option (Nat × Nat × Nat) → Prop
  | none => ∀ p r q, p < k → r < n.ss.length → q < n.fs.length → cg a p r q = cg b p r q
  | some x => ∃ p r q, p < k ∧ r < n.ss.length ∧ q < n.fs.length ∧ x = (p, n.ss.getD r 0, n.fs.getD q 0) ∧ cg a p r q ≠ cg b p r q ∧ ∀ p' r' q', r' < n.ss.length → q' < n.fs.length → Ahead p r q p' r' q' → cg a p' r' q' = cg b p' r' q'
theorem partR_symm {n : NetM} {a b : List Tab} {k : Nat} : ∀ {x : Option (Nat × Nat × Nat)}, PartR n a b k x → PartR n b a k x
  | none, h => fun p r q h1 h2 h3 => (h p r q h1 h2 h3).symm
  | some _, ⟨p, r, q, h1, h2, h3, h4, h5, h6⟩ => ⟨p, r, q, h1, h2, h3, h4, h5.symm, fun p' r' q' a b c => (h6 p' r' q' a b c).symm⟩
theorem partR_same {n : NetM} {a : List Tab} {k : Nat} {x : Option (Nat × Nat × Nat)} (h : PartR n a a k x) : x = none := by
  cases x with
  | none => rfl
  | some x =>
    obtain ⟨p, r, q, _, _, _, _, h5, _⟩ := h
    exact absurd rfl h5
theorem partR_uniq {n : NetM} {a b : List Tab} {k : Nat} : ∀ {x y : Option (Nat × Nat × Nat)}, PartR n a b k x → PartR n a b k y → x = y
  | none, none, _, _ => rfl
  | none, some _, h, ⟨p, r, q, h1, h2, h3, _, h5, _⟩ => absurd (h p r q h1 h2 h3) h5
  | some _, none, ⟨p, r, q, h1, h2, h3, _, h5, _⟩, h => absurd (h p r q h1 h2 h3) h5
  | some _, some _, ⟨p, r, q, h1, h2, h3, h4, h5, h6⟩, ⟨p', r', q', g1, g2, g3, g4, g5, g6⟩ => by
    by_cases a1 : Ahead p r q p' r' q'
    · exact absurd (h6 _ _ _ g2 g3 a1) g5
    · by_cases a2 : Ahead p' r' q' p r q
      · exact absurd (g6 _ _ _ h2 h3 a2) h5
      · unfold Ahead at a1 a2
        have e1 : p = p' := by omega
        have e2 : r = r' := by omega
        have e3 : q = q' := by omega
        subst e1 e2 e3
        rw [h4, g4]
theorem cg_look {n : NetM} {as : List Fr} {k p r q : Nat} (hp : p < k) (hr : r < n.ss.length) (hq : q < n.fs.length) : cg (looksF n as k) p r q = (colF (tabF n as) n.m n.fs[q] p).getD n.ss[r] (0, 1) := by
  unfold cg
  rw [looks_at hp hr, getD_in _ (by rw [List.length_map]; exact hq), List.getElem_map]
theorem look_val {n : NetM} {as : List Fr} (lt : LoT (tabF n as)) {p s : Nat} (f : Nat) (hs : s < n.m) : val ((colF (tabF n as) n.m f p).getD s (0, 1)) = pw (At (tabF n as)) n.m p s f := vl_col (sqF n as) lt f p hs
/-- alike below twice the tanks: alike for ever -/
theorem alike_rows {n : NetM} {as bs : List Fr} (la : LoT (tabF n as)) (lb : LoT (tabF n bs)) (hs : ∀ s ∈ n.ss, s < n.m) (h : PartR n (looksF n as (2 * n.m)) (looksF n bs (2 * n.m)) (2 * n.m) none) (p : Nat) : looksRow n (tabF n as) p = looksRow n (tabF n bs) p := by
  unfold looksRow
  refine List.map_congr_left fun s hsm => List.map_congr_left fun f hfm => ?_
  obtain ⟨r, hr, rfl⟩ := List.getElem_of_mem hsm
  obtain ⟨q, hq, rfl⟩ := List.getElem_of_mem hfm
  have hsr := hs _ hsm
  refine val_inj (lo_getD (lo_col la _ _ _) _) (lo_getD (lo_col lb _ _ _) _) ?_
  rw [look_val la _ hsr, look_val lb _ hsr]
  refine for_ever hsr (fun k hk => ?_) p
  have z := h k r q hk hr hq
  rw [cg_look hk hr hq, cg_look hk hr hq] at z
  rw [← look_val la _ hsr, ← look_val lb _ hsr, z]
theorem alike_looks {n : NetM} {as bs : List Fr} (la : LoT (tabF n as)) (lb : LoT (tabF n bs)) (hs : ∀ s ∈ n.ss, s < n.m) (h : PartR n (looksF n as (2 * n.m)) (looksF n bs (2 * n.m)) (2 * n.m) none) (k : Nat) : looksF n as k = looksF n bs k :=
  List.map_congr_left fun p _ => alike_rows la lb hs h p
theorem heldI_take {n : NetM} {as : List Fr} {fl : List (List Fr)} {k : Nat} (hk : k ≤ fl.length) : heldI n as (fl.take k) (fl.take k).length = heldI n as fl k := by
  unfold heldI
  rw [List.length_take, Nat.min_eq_left hk, List.take_take, Nat.min_self]
theorem alike_seen {n : NetM} {as bs : List Fr} (la : LoT (tabF n as)) (lb : LoT (tabF n bs)) (hf : ∀ f ∈ n.fs, f < n.m) (hs : ∀ s ∈ n.ss, s < n.m) (h : PartR n (looksF n as (2 * n.m)) (looksF n bs (2 * n.m)) (2 * n.m) none) {fl : List (List Fr)} (hl : ∀ r ∈ fl, r.length = n.fs.length ∧ LoL r)
    (ha : ∀ k, k ≤ fl.length → (heldI n as fl k).length = n.m) (hb : ∀ k, k ≤ fl.length → (heldI n bs fl k).length = n.m) : seenAll n as fl = seenAll n bs fl := by
  unfold seenAll
  refine List.map_congr_left fun k hk => ?_
  have hk : k ≤ fl.length := by have := List.mem_range.mp hk; omega
  have tk : ∀ j, j ≤ (fl.take k).length → ∀ cs : List Fr, heldI n cs (fl.take k) j = heldI n cs fl j := fun j hj cs => by
    rw [List.length_take, Nat.min_eq_left hk] at hj
    unfold heldI
    rw [List.take_take, Nat.min_eq_left hj]
  have lk : ∀ r ∈ fl.take k, r.length = n.fs.length ∧ LoL r := fun r hr => hl r (List.mem_of_mem_take hr)
  have z1 := seen_sum (n := n) (as := as) (fl := fl.take k) la lk hf hs fun j hj => by
    rw [tk j hj]
    rw [List.length_take, Nat.min_eq_left hk] at hj
    exact ha j (by omega)
  have z2 := seen_sum (n := n) (as := bs) (fl := fl.take k) lb lk hf hs fun j hj => by
    rw [tk j hj]
    rw [List.length_take, Nat.min_eq_left hk] at hj
    exact hb j (by omega)
  rw [heldI_take hk] at z1 z2
  rw [← z1, ← z2, alike_looks la lb hs h]
/-- the fillings that show a look: 1 into the tank at place q, then nothing -/
def showR (n : NetM) (q : Nat) : List Fr := (List.range n.fs.length).map fun i => if i = q then (1, 1) else (0, 1)
def showF (n : NetM) (q p : Nat) : List (List Fr) := showR n q :: List.replicate p (List.replicate n.fs.length (0, 1))
theorem showF_len (n : NetM) (q p : Nat) : (showF n q p).length = p + 1 := by simp [showF]
theorem lo_show {n : NetM} {q p : Nat} : ∀ r ∈ showF n q p, r.length = n.fs.length ∧ LoL r := fun r hr => by
  rcases List.mem_cons.mp hr with rfl | hr
  · refine ⟨by simp [showR], fun x hx => ?_⟩
    obtain ⟨i, _, rfl⟩ := List.mem_map.mp hx
    split
    · exact lo1
    · exact lo0
  · rw [(List.mem_replicate.mp hr).2]
    exact ⟨List.length_replicate, fun x hx => by rw [(List.mem_replicate.mp hx).2]; exact lo0⟩
theorem vl_show0 {n : NetM} {q p j : Nat} (hj : j < n.fs.length) : vl ((showF n q p).getD 0 []) j = dlt j q := by
  show vl (showR n q) j = _
  unfold vl showR dlt
  rw [getD_in _ (by rw [List.length_map, List.length_range]; exact hj), List.getElem_map, List.getElem_range]
  by_cases c : j = q
  · rw [if_pos c, if_pos c]
    exact val1
  · rw [if_neg c, if_neg c]
    exact val0
theorem vl_showS {n : NetM} {q p b j : Nat} (hb : b < p) (hj : j < n.fs.length) : vl ((showF n q p).getD (b + 1) []) j = 0 := by
  show vl ((List.replicate p (List.replicate n.fs.length ((0, 1) : Fr))).getD b []) j = 0
  rw [getD_in _ (by rw [List.length_replicate]; exact hb), List.getElem_replicate]
  unfold vl
  rw [getD_in _ (by rw [List.length_replicate]; exact hj), List.getElem_replicate]
  exact val0
/-- what is seen k + 1 beats behind is the look of power k -/
theorem show_look {n : NetM} {as : List Fr} (lt : LoT (tabF n as)) (hf : ∀ f ∈ n.fs, f < n.m) {q p : Nat} (hq : q < n.fs.length) (hlen : ∀ k, k ≤ (showF n q p).length → (heldI n as (showF n q p) k).length = n.m) {k s : Nat} (hk : k ≤ p) (hs : s < n.m) :
    (heldI n as (showF n q p) (k + 1)).getD s (0, 1) = (colF (tabF n as) n.m n.fs[q] k).getD s (0, 1) := by
  refine val_inj (lo_getD (lo_held lt lo_show (by rw [showF_len]; omega)) _) (lo_getD (lo_col lt _ _ _) _) ?_
  rw [look_val lt _ hs]
  show vl _ s = _
  rw [vl_held lt lo_show hf hlen (by rw [showF_len]; omega) hs]
  have e : ∀ b, b < k + 1 → (sm n.fs.length fun j => pw (At (tabF n as)) n.m (k + 1 - 1 - b) s (n.fs.getD j 0) * vl ((showF n q p).getD b []) j) = pw (At (tabF n as)) n.m k s n.fs[q] * dlt b 0 := fun b hb => by
    cases b with
    | zero =>
      rw [sm_congr (g := fun j => pw (At (tabF n as)) n.m k s (n.fs.getD j 0) * dlt j q) fun j hj => by rw [vl_show0 hj]; rfl, sm_dlt (f := fun j => pw (At (tabF n as)) n.m k s (n.fs.getD j 0)), if_pos hq, getD_in _ hq]
      unfold dlt
      rw [if_pos rfl]
      grind
    | succ b =>
      rw [sm_congr (g := fun _ => 0) fun j hj => by rw [vl_showS (by omega) hj]; grind, sm_zero]
      unfold dlt
      rw [if_neg (by omega)]
      grind
  rw [sm_congr e, sm_dlt (f := fun _ => pw (At (tabF n as)) n.m k s n.fs[q]), if_pos (by omega)]
end KP

set_option Elab.async false
set_option linter.all false
set_option maxRecDepth 100000
set_option maxHeartbeats 4000000
/-! ### parting -/
namespace KP
open PySem PySem.Spec PyProof.Rows L2 KX KT KJ KS FR
abbrev sParting : Stmt := top 46
def ptD : Option (Nat × Nat × Nat) → PyData
  | none => .none
  | some x => .tuple [.int (x.1 : Nat), .int (x.2.1 : Nat), .int (x.2.2 : Nat)]
theorem flat_fD (x : Fr) : Flat (fD x) := by simp [Flat, fD, PyData.canLay0, PyData.canLayAll0, PyData.depth, PyData.depthAll, PyData.hasDict, PyData.hasDictAll]
theorem shaped_fD (x : Fr) : SeqAt.shaped (fD x) = true := shaped_of (flat_fD x).1 (by have := (flat_fD x).2.1; omega)
theorem eqv_fD (x y : Fr) : PyData.eqv (fD x) (fD y) = decide (x = y) := by
  obtain ⟨a, b⟩ := x
  obtain ⟨c, d⟩ := y
  by_cases h : (a, b) = (c, d)
  · cases h
    simp [fD, PyData.eqv, PyData.eqvAll]
  · rw [decide_eq_false h]
    by_cases h1 : a = c
    · have h2 : b ≠ d := fun z => h (by rw [h1, z])
      simp [fD, PyData.eqv, PyData.eqvAll, h1, h2]
    · simp [fD, PyData.eqv, PyData.eqvAll, h1]
theorem two_ok (n : NetM) (g : GoodN n) : ManyOk n (2 * n.m) := .inl (by have := g.m4; omega)
/-- an entry of looks in the heap -/
theorem cub_fr {K : PySem.W.Frag} {H : Hp} {c : V} {n : NetM} {as : List Fr} {k p s q : Nat} (h : CubT K H c (looksF n as k)) (hp : p < k) (hs : s < n.ss.length) (hq : q < n.fs.length) : ∃ b us d vs e ws v, c = .ref b ∧ tO H b = some (.tup us) ∧ us[p]? = some (.ref d) ∧ tO H d = some (.tup vs) ∧ vs[s]? = some (.ref e) ∧ tO H e = some (.tup ws) ∧ ws[q]? = some v ∧ FrV K H v (cg (looksF n as k) p s q) := by
  obtain ⟨b, us, d, vs, v, rfl, e1, e2, e3, e4, rv⟩ := cub_at h hp hs
  obtain ⟨e, ws, rfl, e5, f⟩ := rv
  obtain ⟨v, ev, fv⟩ := frl_at f (j := q) (by unfold lrow; rw [List.length_map]; exact hq)
  refine ⟨b, us, d, vs, e, ws, v, rfl, e1, e2, e3, e4, e5, ev, ?_⟩
  unfold cg
  rw [looks_at hp hs]
  exact fv
def spPartP (K : PySem.W.Frag) (Ps : List Addr) : Sp := fun vs H Q _ => ∃ (x y z : V) (n : NetM) (as bs : List Fr), vs = [x, y, z] ∧ GoodN n ∧ Th (tO H) x (NetM.d n) ∧ AsOk n as ∧ Th (tO H) y (.tuple (as.map fD)) ∧ AsOk n bs ∧ Th (tO H) z (.tuple (bs.map fD)) ∧ Tbs Ps H ∧
  ∀ v d H', Grown Ps H H' → PartR n (looksF n as (2 * n.m)) (looksF n bs (2 * n.m)) (2 * n.m) d → Th (tO H') v (ptD d) → Q v H'
abbrev nPt : List Str := ["net", "one", "other", "many", "mine", "yours", "power", "row", "seen", "column", "filled"]
theorem scPt : FnScope nPt ["net", "one", "other"] (defScope sParting) := ⟨rfl, rfl, rfl, by decide +kernel, rfl, by decide +kernel, by decide +kernel⟩
section
variable {P : Program} {w : World} {K : PySem.W.Frag} {mg : Str → Option Value} {base : Heap}
theorem ok_parting {f fN fA fL : Addr} {fd fdN fdA fdL : FuncData} {Ps : List Addr} (F : Fun K "parting" "parting" sParting f fd) (T : TxD mg)
    (FN : FnOk P w K mg base CX0 9 fN fdN ["net"] (spNeedNet Ps)) (mN : mg "need_net" = some (.ref fN)) (kN : PySem.W.keepIn K (.ref fN) = true) (bN : Binds K fdN ["net"] [])
    (FA : FnOk P w K mg base CX0 4 fA fdA ["net", "assignment"] spNeedAs) (mA : mg "need_assignment" = some (.ref fA)) (kA : PySem.W.keepIn K (.ref fA) = true) (bA : Binds K fdA ["net", "assignment"] [])
    (FL : FnOk P w K mg base CX0 11 fL fdL ["net", "assignment", "many"] (spLooks K Ps)) (mL : mg "looks_in" = some (.ref fL)) (kL : PySem.W.keepIn K (.ref fL) = true) (bL : Binds K fdL ["net", "assignment", "many"] []) :
    FnOk P w K mg base CX0 12 f fd ["net", "one", "other"] (spPartP K Ps) := by
  refine F.ok scPt (fun vs H Q E h => ?_) (fun cdv A outer s H vs Q E hr h => ?_)
  · obtain ⟨x, y, z, n, as, bs, rfl, _⟩ := h
    rfl
  · obtain ⟨x, y, z, n, as, bs, rfl, g, th, ok, ty, ok2, tz, tb, k⟩ := h
    have hu : (A.deeper (envOfC "parting" (defScope sParting) s.heap.objs.size f cdv)).units + 64 < cLine := by have := hr.un; omega
    refine ⟨_, pss_cons (ps_expr (pe_call FN (hr.mono (by decide)) rfl mN kN bN .nil pass0 (pa_cons (pv 0) pa_nil)))
      (pss_cons (ps_expr (pe_call FA (hr.mono (by decide)) rfl mA kA bA .nil pass0 (pa_cons (pv 0) (pa_cons (pv 1) pa_nil))))
      (pss_cons (ps_expr (pe_call FA (hr.mono (by decide)) rfl mA kA bA .nil pass0 (pa_cons (pv 0) (pa_cons (pv 2) pa_nil))))
      (pss_cons (ps_set (i := 3) scPt.nd rfl (Or.inl rfl) (pe_op op_mul pe_int (pe_ix ix_tup (pv 0) pe_int (fun _ _ => rfl))))
      (pss_cons (ps_par (i := 4) (j := 5) (by rfl) scPt.nd rfl rfl (by decide) rfl rfl (pa_cons (pe_call FL hr rfl mL kL bL .nil pass0 (pa_cons (pv 0) (pa_cons (pv 1) (pa_cons (pv 3) pa_nil)))) (pa_cons (pe_call FL hr rfl mL kL bL .nil pass0 (pa_cons (pv 0) (pa_cons (pv 2) (pa_cons (pv 3) pa_nil)))) pa_nil)) (by rfl))
      (pss_cons (ps_for PassesOwn.never rfl (pi_range1 rfl T.range (pa_cons (pv 3) pa_nil)) (pg_name (i := 6) scPt.nd rfl (Or.inl rfl))
        (pss_one (ps_for PassesOwn.never rfl (pi_enumT (by rfl) T.enumerate (pa_cons (pe_ix ix_tup (pv 0) pe_int (fun _ _ => rfl)) pa_nil)) (pg_tup rfl (pgs_cons (pg_name (i := 7) scPt.nd rfl (Or.inl rfl)) (pgs_cons (pg_name (i := 8) scPt.nd rfl (Or.inl rfl)) pgs_nil)))
          (pss_one (ps_for PassesOwn.never rfl (pi_enumT (by rfl) T.enumerate (pa_cons (pe_ix ix_tup (pv 0) pe_int (fun _ _ => rfl)) pa_nil)) (pg_tup rfl (pgs_cons (pg_name (i := 9) scPt.nd rfl (Or.inl rfl)) (pgs_cons (pg_name (i := 10) scPt.nd rfl (Or.inl rfl)) pgs_nil)))
            (pss_one (ps_if (pt_cmpR (op_neD hu) (pe_ix ix_tup (pe_ix ix_tup (pe_ix ix_tup (pv 4) (pv 6) (fun _ _ => rfl)) (pv 7) (fun _ _ => rfl)) (pv 9) (fun _ _ => rfl)) (pe_ix ix_tup (pe_ix ix_tup (pe_ix ix_tup (pv 5) (pv 6) (fun _ _ => rfl)) (pv 7) (fun _ _ => rfl)) (pv 9) (fun _ _ => rfl)) (by rfl))
              (pss_one (ps_ret (pe_tup (pa_cons (pv 6) (pa_cons (pv 8) (pa_cons (pv 10) pa_nil)))))) pss_nil)))))))
      (pss_one (ps_ret pe_non))))))), ?_⟩
    refine ⟨_, rfl, _, n, rfl, g, th, tb, fun H1 gr1 => ?_⟩
    have tk1 := Tk.sm gr1.sm
    refine ⟨_, rfl, _, rfl, _, _, n, as, rfl, th.tk tk1, ok, ty.tk tk1, fun H2 s2 => ?_⟩
    have gr2 := gr1.trans (Grown.same s2 gr1.tbs)
    have tk2 := Tk.sm gr2.sm
    refine ⟨_, rfl, _, rfl, _, _, n, bs, rfl, th.tk tk2, ok2, tz.tk tk2, fun H3 s3 => ?_⟩
    have gr3 := gr2.trans (Grown.same s3 gr2.tbs)
    have tk3 := Tk.sm gr3.sm
    have th3 := th.tk tk3
    obtain ⟨a, ps, fs, ss, rfl, ea, _, tfs, tss⟩ := net_parts th3
    obtain ⟨fb, fv, rfl, efb, tf⟩ := tup_parts tfs
    obtain ⟨sb, sv, rfl, esb, ts⟩ := tup_parts tss
    have lf : fv.length = n.fs.length := by rw [all2 tf, natsD, List.length_map]
    have lsv : sv.length = n.ss.length := by rw [all2 ts, natsD, List.length_map]
    have m4 := g.m4
    have e2 : (2 : Int) * (n.m : Int) = ((2 * n.m : Nat) : Int) := by omega
    refine ⟨_, rfl, a, _, _, _, rfl, rfl, SqT.of (tO_same H3 _ _ ea), rfl, _, _, rfl, rfl, .inl ⟨by omega, by omega⟩, ?_⟩
    refine ⟨_, rfl, _, rfl, _, rfl, _, _, n, as, 2 * n.m, (show [_, _, V.int (2 * (n.m : Int))] = _ by rw [e2]), g, th3, ok, ty.tk tk3, two_ok n g, gr3.tbs, fun v4 H4 g4 d4 => ?_⟩
    have gr4 := gr3.trans g4
    have tk4 := Tk.sm gr4.sm
    refine ⟨_, rfl, _, rfl, _, rfl, _, _, n, bs, 2 * n.m, (show [_, _, V.int (2 * (n.m : Int))] = _ by rw [e2]), g, th.tk tk4, ok2, tz.tk tk4, two_ok n g, gr4.tbs, fun v5 H5 g5 d5 => ⟨_, _, rfl, ?_⟩⟩
    have gr5 := gr4.trans g5
    have d4 := d4.tk (Tk.sm g5.sm)
    have tk35 := (Tk.sm g4.sm).trans (Tk.sm g5.sm)
    have ea := tk35 _ _ ea
    have efb := tk35 _ _ efb
    have esb := tk35 _ _ esb
    refine ⟨_, rfl, (2 * n.m : Int), rfl, by omega, by omega, ?_⟩
    rw [show (2 * (n.m : Int)).toNat = 2 * n.m by omega]
    refine for_range (lo := 0) (n := 2 * n.m) (fun i σ H' => (∃ o6 o7 o8 o9 o10, σ = [some (.ref a), some y, some z, some (.int (2 * (n.m : Int))), some v4, some v5, o6, o7, o8, o9, o10]) ∧ Same H5 H' ∧ ∀ p' r' q', r' < n.ss.length → q' < n.fs.length → Ahead i 0 0 p' r' q' → cg (looksF n as (2 * n.m)) p' r' q' = cg (looksF n bs (2 * n.m)) p' r' q')
      ⟨⟨_, _, _, _, _, rfl⟩, Same.refl _, fun p' r' q' _ _ h => by unfold Ahead at h; omega⟩ ?_ ?_
    · rintro i σ H' hi ⟨⟨o6, o7, o8, o9, o10, rfl⟩, s6, eq⟩
      have ei : (0 : Int) + (i : Int) = ((i : Nat) : Int) := by omega
      rw [ei]
      refine ⟨_, rfl, a, _, _, _, rfl, rfl, SqT.of (s6.rd (tO_same H5 _ _ ea)), rfl, sb, sv, rfl, SqT.of (s6.rd (tO_same H5 _ _ esb)), ?_⟩
      refine for_it (walk_enumT (K := K) (a := sb) (xs := sv)) (fun r σ H' => (∃ o7 o8 o9 o10, σ = [some (.ref a), some y, some z, some (.int (2 * (n.m : Int))), some v4, some v5, some (.int (i : Nat)), o7, o8, o9, o10]) ∧ Same H5 H' ∧ ∀ p' r' q', r' < n.ss.length → q' < n.fs.length → Ahead i r 0 p' r' q' → cg (looksF n as (2 * n.m)) p' r' q' = cg (looksF n bs (2 * n.m)) p' r' q')
        ⟨⟨_, _, _, _, rfl⟩, s6, eq⟩ (fun r σ H' _ z => SqT.of (z.2.1.rd (tO_same H5 _ _ esb))) ?_ ?_
      · rintro r v σ H7 H7' hr' ⟨⟨o7, o8, o9, o10, rfl⟩, s7, eq⟩ ⟨U, x1, y1, rfl, hU, rfl, hx1, hy1⟩
        cases hx1
        have s8 := s7.trans (same_upd (o := .tup [V.int (r : Nat), y1]) hU)
        obtain ⟨js, ejs, rfl⟩ := nats_at ts hy1
        have hrs : r < n.ss.length := by omega
        refine ⟨U, _, rfl, SqT.of upd_same, rfl, _, _, rfl, _, _, rfl, rfl, ?_⟩
        refine ⟨_, rfl, a, _, _, _, rfl, rfl, SqT.of (s8.rd (tO_same H5 _ _ ea)), rfl, fb, fv, rfl, SqT.of (s8.rd (tO_same H5 _ _ efb)), ?_⟩
        refine for_it (walk_enumT (K := K) (a := fb) (xs := fv)) (fun q σ H' => (∃ o9 o10, σ = [some (.ref a), some y, some z, some (.int (2 * (n.m : Int))), some v4, some v5, some (.int (i : Nat)), some (.int (r : Nat)), some (.int (js : Nat)), o9, o10]) ∧ Same H5 H' ∧ ∀ p' r' q', r' < n.ss.length → q' < n.fs.length → Ahead i r q p' r' q' → cg (looksF n as (2 * n.m)) p' r' q' = cg (looksF n bs (2 * n.m)) p' r' q')
          ⟨⟨_, _, rfl⟩, s8, eq⟩ (fun r σ H' _ z => SqT.of (z.2.1.rd (tO_same H5 _ _ efb))) ?_ ?_
        · rintro q v σ H9 H9' hq' ⟨⟨o9, o10, rfl⟩, s9, eq⟩ ⟨U2, x2, y2, rfl, hU2, rfl, hx2, hy2⟩
          cases hx2
          have sA := s9.trans (same_upd (o := .tup [V.int (q : Nat), y2]) hU2)
          obtain ⟨jf, ejf, rfl⟩ := nats_at tf hy2
          have hqf : q < n.fs.length := by omega
          obtain ⟨b1, us1, c1, vs1, d1, ws1, x1, rfl, e11, e12, e13, e14, e15, e16, f1⟩ := cub_fr (d4.tk (Tk.same sA)) hi hrs hqf
          obtain ⟨b2, us2, c2, vs2, d2, ws2, x2, rfl, e21, e22, e23, e24, e25, e26, f2⟩ := cub_fr (d5.tk (Tk.same sA)) hi hrs hqf
          refine ⟨U2, _, rfl, SqT.of upd_same, rfl, _, _, rfl, _, _, rfl, rfl, ?_⟩
          refine ⟨_, rfl, _, rfl, b1, us1, _, _, rfl, rfl, SqT.of (tO_same _ _ _ e11), atI_nat e12, _, rfl, c1, vs1, _, _, rfl, rfl, SqT.of (tO_same _ _ _ e13), atI_nat e14, _, rfl, d1, ws1, _, _, rfl, rfl, SqT.of (tO_same _ _ _ e15), atI_nat e16, ?_⟩
          refine ⟨_, rfl, _, rfl, b2, us2, _, _, rfl, rfl, SqT.of (tO_same _ _ _ e21), atI_nat e22, _, rfl, c2, vs2, _, _, rfl, rfl, SqT.of (tO_same _ _ _ e23), atI_nat e24, _, rfl, d2, ws2, _, _, rfl, rfl, SqT.of (tO_same _ _ _ e25), atI_nat e26, ?_⟩
          refine ⟨_, _, dp_fr f1, dp_fr f2, shaped_fD _, shaped_fD _, _, rfl, ?_⟩
          rw [eqv_fD]
          refine iteB (fun c => ?_) (fun c => ?_)
          · have ne : cg (looksF n as (2 * n.m)) i r q ≠ cg (looksF n bs (2 * n.m)) i r q := fun e => by rw [decide_eq_true e] at c; cases c
            refine ⟨_, rfl, _, rfl, _, rfl, by show 3 ≤ sizeLine; decide, fun p hp => ?_⟩
            have sp := same_upd (o := .tup [V.int (i : Nat), V.int (js : Nat), V.int (jf : Nat)]) hp
            refine k _ (some (i, js, jf)) _ (gr5.trans (Grown.same (sA.trans sp) gr5.tbs)) ⟨i, r, q, hi, hrs, hqf, ?_, ne, eq⟩ (.tup (tO_of upd_same) (.cons (.int _) (.cons (.int _) (.cons (.int _) .nil))))
            rw [List.getD_eq_getElem?_getD, List.getD_eq_getElem?_getD, ejs, ejf]
            rfl
          · have ee : cg (looksF n as (2 * n.m)) i r q = cg (looksF n bs (2 * n.m)) i r q := by
              false_or_by_contra
              rename_i u
              rw [decide_eq_false u] at c
              cases c
            refine ⟨⟨_, _, rfl⟩, sA, fun p' r' q' h1 h2 h3 => ?_⟩
            by_cases w : Ahead i r q p' r' q'
            · exact eq p' r' q' h1 h2 w
            · have : p' = i ∧ r' = r ∧ q' = q := by unfold Ahead at h3 w; omega
              obtain ⟨rfl, rfl, rfl⟩ := this
              exact ee
        · rintro σ H9 ⟨⟨o9, o10, rfl⟩, s9, eq⟩
          exact ⟨⟨_, _, _, _, rfl⟩, s9, fun p' r' q' h1 h2 h3 => eq p' r' q' h1 h2 (by unfold Ahead at h3 ⊢; omega)⟩
      · rintro σ H7 ⟨⟨o7, o8, o9, o10, rfl⟩, s7, eq⟩
        exact ⟨⟨_, _, _, _, _, rfl⟩, s7, fun p' r' q' h1 h2 h3 => eq p' r' q' h1 h2 (by unfold Ahead at h3 ⊢; omega)⟩
    · rintro σ H' ⟨⟨o6, o7, o8, o9, o10, rfl⟩, s6, eq⟩
      exact k _ none _ (gr5.trans (Grown.same s6 gr5.tbs)) (fun p r q h1 h2 h3 => eq p r q h2 h3 (.inl h1)) .non
end
end KP

set_option Elab.async false
set_option linter.all false
set_option maxRecDepth 100000
set_option maxHeartbeats 4000000
/-! ### the law's own first look that parts; quotients -/
namespace KP
open PySem PySem.Spec PyProof.Rows L2 KX KT KJ KS FR
abbrev lParting : Stmt := top 66
abbrev lOver : Stmt := top 56
def sg (y : Fr) : Int := if y.1 > 0 then 1 else -1
def overF (x y : Fr) : Fr := low (sg y * x.1 * y.2) (sg y * x.2 * y.1)
def spOver (K : PySem.W.Frag) : Sp := fun vs H Q _ => ∃ u v x y, vs = [u, v] ∧ FrV K H u x ∧ FrV K H v y ∧ Sz 4000 x ∧ Sz 4000 y ∧ y.1 ≠ 0 ∧ ∀ r H', Same H H' → Th (tO H') r (fD (overF x y)) → Q r H'
def spPartL (K : PySem.W.Frag) : Sp := fun vs H Q _ => ∃ (x y z : V) (n : NetM) (as bs : List Fr), vs = [x, y, z] ∧ GoodN n ∧ Th (tO H) x (NetM.d n) ∧ AsOk n as ∧ Th (tO H) y (.tuple (as.map fD)) ∧ AsOk n bs ∧ Th (tO H) z (.tuple (bs.map fD)) ∧
  ∀ v d H', Same H H' → PartR n (looksF n as (2 * n.m)) (looksF n bs (2 * n.m)) (2 * n.m) d → Th (tO H') v (ptD d) → Q v H'
abbrev nLp : List Str := ["net", "one", "two", "first", "second", "power", "at", "seen", "to", "filled"]
theorem scLp : FnScope nLp ["net", "one", "two"] (defScope lParting) := ⟨rfl, rfl, rfl, by decide +kernel, rfl, by decide +kernel, by decide +kernel⟩
section
variable {P : Program} {w : World} {K : PySem.W.Frag} {mg : Str → Option Value} {base : Heap}
theorem ok_partL {f fL : Addr} {fd fdL : FuncData} (F : Fun K "_law_parting" "_law_parting" lParting f fd) (T : TxD mg)
    (FL : FnOk P w K mg base CX0 5 fL fdL ["net", "assignment", "many"] (spLooksL K)) (mL : mg "_law_looks" = some (.ref fL)) (kL : PySem.W.keepIn K (.ref fL) = true) (bL : Binds K fdL ["net", "assignment", "many"] []) :
    FnOk P w K mg base CX0 6 f fd ["net", "one", "two"] (spPartL K) := by
  refine F.ok scLp (fun vs H Q E h => ?_) (fun cdv A outer s H vs Q E hr h => ?_)
  · obtain ⟨x, y, z, n, as, bs, rfl, _⟩ := h
    rfl
  · obtain ⟨x, y, z, n, as, bs, rfl, g, th, ok, ty, ok2, tz, k⟩ := h
    have hu : (A.deeper (envOfC "_law_parting" (defScope lParting) s.heap.objs.size f cdv)).units + 64 < cLine := by have := hr.un; omega
    refine ⟨_, pss_cons (ps_par (i := 3) (j := 4) (by rfl) scLp.nd rfl rfl (by decide) rfl rfl (pa_cons (pe_call FL hr rfl mL kL bL .nil pass0 (pa_cons (pv 0) (pa_cons (pv 1) (pa_cons (pe_op op_mul pe_int (pe_ix ix_tup (pv 0) pe_int (fun _ _ => rfl))) pa_nil)))) (pa_cons (pe_call FL hr rfl mL kL bL .nil pass0 (pa_cons (pv 0) (pa_cons (pv 2) (pa_cons (pe_op op_mul pe_int (pe_ix ix_tup (pv 0) pe_int (fun _ _ => rfl))) pa_nil)))) pa_nil)) (by rfl))
      (pss_cons (ps_for PassesOwn.never rfl (pi_range1 rfl T.range (pa_cons (pe_op op_mul pe_int (pe_ix ix_tup (pv 0) pe_int (fun _ _ => rfl))) pa_nil)) (pg_name (i := 5) scLp.nd rfl (Or.inl rfl))
        (pss_one (ps_for PassesOwn.never rfl (pi_enumT (by rfl) T.enumerate (pa_cons (pe_ix ix_tup (pv 0) pe_int (fun _ _ => rfl)) pa_nil)) (pg_tup rfl (pgs_cons (pg_name (i := 6) scLp.nd rfl (Or.inl rfl)) (pgs_cons (pg_name (i := 7) scLp.nd rfl (Or.inl rfl)) pgs_nil)))
          (pss_one (ps_for PassesOwn.never rfl (pi_enumT (by rfl) T.enumerate (pa_cons (pe_ix ix_tup (pv 0) pe_int (fun _ _ => rfl)) pa_nil)) (pg_tup rfl (pgs_cons (pg_name (i := 8) scLp.nd rfl (Or.inl rfl)) (pgs_cons (pg_name (i := 9) scLp.nd rfl (Or.inl rfl)) pgs_nil)))
            (pss_one (ps_if (pt_cmpR (op_neD hu) (pe_ix ix_tup (pe_ix ix_tup (pe_ix ix_tup (pv 3) (pv 5) (fun _ _ => rfl)) (pv 6) (fun _ _ => rfl)) (pv 8) (fun _ _ => rfl)) (pe_ix ix_tup (pe_ix ix_tup (pe_ix ix_tup (pv 4) (pv 5) (fun _ _ => rfl)) (pv 6) (fun _ _ => rfl)) (pv 8) (fun _ _ => rfl)) (by rfl))
              (pss_one (ps_ret (pe_tup (pa_cons (pv 5) (pa_cons (pv 7) (pa_cons (pv 9) pa_nil)))))) pss_nil)))))))
      (pss_one (ps_ret pe_non))), ?_⟩
    have th0 := th
    obtain ⟨a, ps, fs, ss, rfl, ea0, _, tfs, tss⟩ := net_parts th
    obtain ⟨fb, fv, rfl, efb0, tf⟩ := tup_parts tfs
    obtain ⟨sb, sv, rfl, esb0, ts⟩ := tup_parts tss
    have lf : fv.length = n.fs.length := by rw [all2 tf, natsD, List.length_map]
    have lsv : sv.length = n.ss.length := by rw [all2 ts, natsD, List.length_map]
    have m4 := g.m4
    have e2 : (2 : Int) * (n.m : Int) = ((2 * n.m : Nat) : Int) := by omega
    refine ⟨_, rfl, _, rfl, _, rfl, a, _, _, _, rfl, rfl, SqT.of (tO_same H _ _ ea0), rfl, _, _, rfl, rfl, .inl ⟨by omega, by omega⟩, ?_⟩
    refine ⟨_, _, n, as, 2 * n.m, (show [_, _, V.int (2 * (n.m : Int))] = _ by rw [e2]), g, th0, ok, ty, two_ok n g, fun v4 H4 s4 d4 => ?_⟩
    have tk4 := Tk.same s4
    refine ⟨_, rfl, _, rfl, _, rfl, a, _, _, _, rfl, rfl, SqT.of (s4.rd (tO_same H _ _ ea0)), rfl, _, _, rfl, rfl, .inl ⟨by omega, by omega⟩, ?_⟩
    refine ⟨_, _, n, bs, 2 * n.m, (show [_, _, V.int (2 * (n.m : Int))] = _ by rw [e2]), g, th0.tk tk4, ok2, tz.tk tk4, two_ok n g, fun v5 H5 s5 d5 => ⟨_, _, rfl, ?_⟩⟩
    have s05 := s4.trans s5
    have d4 := d4.tk (Tk.same s5)
    have ea := (Tk.same s05) _ _ ea0
    have efb := (Tk.same s05) _ _ efb0
    have esb := (Tk.same s05) _ _ esb0
    refine ⟨_, rfl, a, _, _, _, rfl, rfl, SqT.of (tO_same H5 _ _ ea), rfl, _, _, rfl, rfl, .inl ⟨by omega, by omega⟩, (2 * n.m : Int), rfl, by omega, by omega, ?_⟩
    rw [show (2 * (n.m : Int)).toNat = 2 * n.m by omega]
    refine for_range (lo := 0) (n := 2 * n.m) (fun i σ H' => (∃ o6 o7 o8 o9 o10, σ = [some (.ref a), some y, some z, some v4, some v5, o6, o7, o8, o9, o10]) ∧ Same H5 H' ∧ ∀ p' r' q', r' < n.ss.length → q' < n.fs.length → Ahead i 0 0 p' r' q' → cg (looksF n as (2 * n.m)) p' r' q' = cg (looksF n bs (2 * n.m)) p' r' q')
      ⟨⟨_, _, _, _, _, rfl⟩, Same.refl _, fun p' r' q' _ _ h => by unfold Ahead at h; omega⟩ ?_ ?_
    · rintro i σ H' hi ⟨⟨o6, o7, o8, o9, o10, rfl⟩, s6, eq⟩
      have ei : (0 : Int) + (i : Int) = ((i : Nat) : Int) := by omega
      rw [ei]
      refine ⟨_, rfl, a, _, _, _, rfl, rfl, SqT.of (s6.rd (tO_same H5 _ _ ea)), rfl, sb, sv, rfl, SqT.of (s6.rd (tO_same H5 _ _ esb)), ?_⟩
      refine for_it (walk_enumT (K := K) (a := sb) (xs := sv)) (fun r σ H' => (∃ o7 o8 o9 o10, σ = [some (.ref a), some y, some z, some v4, some v5, some (.int (i : Nat)), o7, o8, o9, o10]) ∧ Same H5 H' ∧ ∀ p' r' q', r' < n.ss.length → q' < n.fs.length → Ahead i r 0 p' r' q' → cg (looksF n as (2 * n.m)) p' r' q' = cg (looksF n bs (2 * n.m)) p' r' q')
        ⟨⟨_, _, _, _, rfl⟩, s6, eq⟩ (fun r σ H' _ z => SqT.of (z.2.1.rd (tO_same H5 _ _ esb))) ?_ ?_
      · rintro r v σ H7 H7' hr' ⟨⟨o7, o8, o9, o10, rfl⟩, s7, eq⟩ ⟨U, x1, y1, rfl, hU, rfl, hx1, hy1⟩
        cases hx1
        have s8 := s7.trans (same_upd (o := .tup [V.int (r : Nat), y1]) hU)
        obtain ⟨js, ejs, rfl⟩ := nats_at ts hy1
        have hrs : r < n.ss.length := by omega
        refine ⟨U, _, rfl, SqT.of upd_same, rfl, _, _, rfl, _, _, rfl, rfl, ?_⟩
        refine ⟨_, rfl, a, _, _, _, rfl, rfl, SqT.of (s8.rd (tO_same H5 _ _ ea)), rfl, fb, fv, rfl, SqT.of (s8.rd (tO_same H5 _ _ efb)), ?_⟩
        refine for_it (walk_enumT (K := K) (a := fb) (xs := fv)) (fun q σ H' => (∃ o9 o10, σ = [some (.ref a), some y, some z, some v4, some v5, some (.int (i : Nat)), some (.int (r : Nat)), some (.int (js : Nat)), o9, o10]) ∧ Same H5 H' ∧ ∀ p' r' q', r' < n.ss.length → q' < n.fs.length → Ahead i r q p' r' q' → cg (looksF n as (2 * n.m)) p' r' q' = cg (looksF n bs (2 * n.m)) p' r' q')
          ⟨⟨_, _, rfl⟩, s8, eq⟩ (fun r σ H' _ z => SqT.of (z.2.1.rd (tO_same H5 _ _ efb))) ?_ ?_
        · rintro q v σ H9 H9' hq' ⟨⟨o9, o10, rfl⟩, s9, eq⟩ ⟨U2, x2, y2, rfl, hU2, rfl, hx2, hy2⟩
          cases hx2
          have sA := s9.trans (same_upd (o := .tup [V.int (q : Nat), y2]) hU2)
          obtain ⟨jf, ejf, rfl⟩ := nats_at tf hy2
          have hqf : q < n.fs.length := by omega
          obtain ⟨b1, us1, c1, vs1, d1, ws1, x1, rfl, e11, e12, e13, e14, e15, e16, f1⟩ := cub_fr (d4.tk (Tk.same sA)) hi hrs hqf
          obtain ⟨b2, us2, c2, vs2, d2, ws2, x2, rfl, e21, e22, e23, e24, e25, e26, f2⟩ := cub_fr (d5.tk (Tk.same sA)) hi hrs hqf
          refine ⟨U2, _, rfl, SqT.of upd_same, rfl, _, _, rfl, _, _, rfl, rfl, ?_⟩
          refine ⟨_, rfl, _, rfl, b1, us1, _, _, rfl, rfl, SqT.of (tO_same _ _ _ e11), atI_nat e12, _, rfl, c1, vs1, _, _, rfl, rfl, SqT.of (tO_same _ _ _ e13), atI_nat e14, _, rfl, d1, ws1, _, _, rfl, rfl, SqT.of (tO_same _ _ _ e15), atI_nat e16, ?_⟩
          refine ⟨_, rfl, _, rfl, b2, us2, _, _, rfl, rfl, SqT.of (tO_same _ _ _ e21), atI_nat e22, _, rfl, c2, vs2, _, _, rfl, rfl, SqT.of (tO_same _ _ _ e23), atI_nat e24, _, rfl, d2, ws2, _, _, rfl, rfl, SqT.of (tO_same _ _ _ e25), atI_nat e26, ?_⟩
          refine ⟨_, _, dp_fr f1, dp_fr f2, shaped_fD _, shaped_fD _, _, rfl, ?_⟩
          rw [eqv_fD]
          refine iteB (fun c => ?_) (fun c => ?_)
          · have ne : cg (looksF n as (2 * n.m)) i r q ≠ cg (looksF n bs (2 * n.m)) i r q := fun e => by rw [decide_eq_true e] at c; cases c
            refine ⟨_, rfl, _, rfl, _, rfl, by show 3 ≤ sizeLine; decide, fun p hp => ?_⟩
            have sp := same_upd (o := .tup [V.int (i : Nat), V.int (js : Nat), V.int (jf : Nat)]) hp
            refine k _ (some (i, js, jf)) _ (s05.trans (sA.trans sp)) ⟨i, r, q, hi, hrs, hqf, ?_, ne, eq⟩ (.tup (tO_of upd_same) (.cons (.int _) (.cons (.int _) (.cons (.int _) .nil))))
            rw [List.getD_eq_getElem?_getD, List.getD_eq_getElem?_getD, ejs, ejf]
            rfl
          · have ee : cg (looksF n as (2 * n.m)) i r q = cg (looksF n bs (2 * n.m)) i r q := by
              false_or_by_contra
              rename_i u
              rw [decide_eq_false u] at c
              cases c
            refine ⟨⟨_, _, rfl⟩, sA, fun p' r' q' h1 h2 h3 => ?_⟩
            by_cases w : Ahead i r q p' r' q'
            · exact eq p' r' q' h1 h2 w
            · have : p' = i ∧ r' = r ∧ q' = q := by unfold Ahead at h3 w; omega
              obtain ⟨rfl, rfl, rfl⟩ := this
              exact ee
        · rintro σ H9 ⟨⟨o9, o10, rfl⟩, s9, eq⟩
          exact ⟨⟨_, _, _, _, rfl⟩, s9, fun p' r' q' h1 h2 h3 => eq p' r' q' h1 h2 (by unfold Ahead at h3 ⊢; omega)⟩
      · rintro σ H7 ⟨⟨o7, o8, o9, o10, rfl⟩, s7, eq⟩
        exact ⟨⟨_, _, _, _, _, rfl⟩, s7, fun p' r' q' h1 h2 h3 => eq p' r' q' h1 h2 (by unfold Ahead at h3 ⊢; omega)⟩
    · rintro σ H' ⟨⟨o6, o7, o8, o9, o10, rfl⟩, s6, eq⟩
      exact k _ none _ (s05.trans s6) (fun p r q h1 h2 h3 => eq p r q h2 h3 (.inl h1)) .non
theorem scOver : FnScope ["one", "two", "sign"] ["one", "two"] (defScope lOver) := ⟨rfl, rfl, rfl, by decide +kernel, rfl, by decide +kernel, by decide +kernel⟩
theorem ok_over {f fF : Addr} {fd fdF : FuncData} (F : Fun K "_law_over" "_law_over" lOver f fd)
    (FF : FnOk P w K mg base CX0 1 fF fdF ["top", "low"] spLow) (mF : mg "_law_frac" = some (.ref fF)) (kF : PySem.W.keepIn K (.ref fF) = true) (bF : Binds K fdF ["top", "low"] []) :
    FnOk P w K mg base CX0 2 f fd ["one", "two"] (spOver K) := by
  refine F.ok scOver (fun vs H Q E h => ?_) (fun cdv A outer s H vs Q E hr h => ?_)
  · obtain ⟨u, v, x, y, rfl, _⟩ := h
    rfl
  · obtain ⟨u, v, x, y, rfl, hx, hy, zx, zy, y0, k⟩ := h
    refine ⟨_, Evl.pss_cut (ps_set (i := 2) scOver.nd rfl (Or.inl rfl) (pe_ifExp (pt_cmpR op_gt (pe_ix ix_tup (pv 1) pe_int (fun _ _ => rfl)) pe_int (nomark _)) pe_int (pe_un un_neg pe_int)))
      (pss_one (ps_ret (pe_call FF hr rfl mF kF bF .nil pass0 (pa_cons (pe_op op_mulW (pe_op op_mulW (pv 2) (pe_ix ix_tup (pv 0) pe_int (fun _ _ => rfl))) (pe_ix ix_tup (pv 1) pe_int (fun _ _ => rfl)))
        (pa_cons (pe_op op_mulW (pe_op op_mulW (pv 2) (pe_ix ix_tup (pv 0) pe_int (fun _ _ => rfl))) (pe_ix ix_tup (pv 1) pe_int (fun _ _ => rfl))) pa_nil))))), ?_⟩
    refine ⟨fun σ' H' => σ' = [some u, some v, some (.int (sg y))] ∧ H' = H, ?_, ?_⟩
    · refine i_setIf (b := decide (y.1 > 0)) (ti_test (vi_op (vi_ix0 rfl hy) vi_c fun Q q => ⟨_, _, rfl, rfl, q⟩)) (fun c => ⟨?_, rfl⟩) (fun c => ⟨_, rfl, ?_, rfl⟩)
      · unfold sg
        rw [if_pos (of_decide_eq_true c)]
        rfl
      · unfold sg
        rw [if_neg (of_decide_eq_false c)]
        rfl
    · rintro σ' H' ⟨rfl, rfl⟩
      have sgb : (sg y).natAbs < 2 ^ (0 + 1) := by unfold sg; split <;> decide
      have m1 : (sg y * x.1).natAbs < 2 ^ (4000 + 1) := by
        rw [Int.natAbs_mul]
        have e : (sg y).natAbs = 1 := by unfold sg; split <;> rfl
        rw [e, Nat.one_mul]
        exact Nat.lt_of_lt_of_le zx.n (Nat.pow_le_pow_right (by decide) (by decide))
      have m2 : (sg y * x.2).natAbs < 2 ^ (4000 + 1) := by
        rw [Int.natAbs_mul]
        have e : (sg y).natAbs = 1 := by unfold sg; split <;> rfl
        rw [e, Nat.one_mul]
        exact Nat.lt_of_lt_of_le zx.d (Nat.pow_le_pow_right (by decide) (by decide))
      refine ret_call (K := K) (D := { nx := _, rt := Q }) (ai_cons (vi_mul (vi_mul (vi_var rfl) (vi_ix0 rfl hx) (cmul (a := 0) (b := 3999) sgb zx.n (by decide))) (vi_ix1 rfl hy) (cmul (a := 4000) (b := 3999) m1 zy.d (by decide))) (ai_cons (vi_mul (vi_mul (vi_var rfl) (vi_ix1 rfl hx) (cmul (a := 0) (b := 3999) sgb zx.d (by decide))) (vi_ix0 rfl hy) (cmul (a := 4000) (b := 3999) m2 zy.n (by decide))) ai_nil)) ?_
      have l0 : 0 < sg y * x.2 * y.1 := by
        have px := zx.pos
        unfold sg
        split
        · rename_i h
          rw [Int.one_mul]
          exact Int.mul_pos px h
        · rename_i h
          have : y.1 < 0 := by omega
          have q := Int.mul_pos px (show 0 < - y.1 by omega)
          have e : (-1 : Int) * x.2 * y.1 = x.2 * - y.1 := by grind
          rw [e]
          exact q
      refine ⟨_, _, rfl, l0, ?_, fun p hp => k _ _ (same_upd hp) (.tup (tO_of upd_same) (.cons (.int _) (.cons (.int _) .nil)))⟩
      rw [Int.natAbs_mul]
      have := Nat.mul_lt_mul'' m2 zy.n
      rw [← Nat.pow_add] at this
      exact Nat.lt_of_lt_of_le this (Nat.pow_le_pow_right (by decide) (by decide))
end
end KP

set_option Elab.async false
set_option linter.all false
set_option maxRecDepth 100000
set_option maxHeartbeats 4000000
/-! ### families of shares: the data -/
namespace KP
open PySem PySem.Spec PyProof.Rows L2 KX KT KJ KS FR
theorem eqv_pp (p q : Pp) : PyData.eqv (ppD p) (ppD q) = true ↔ p = q := by
  have sx : ("x" : Str) = "x" := rfl
  constructor
  · intro h
    obtain ⟨s, e, sh⟩ := p
    obtain ⟨s', e', sh'⟩ := q
    cases sh <;> cases e <;> cases sh' <;> cases e' <;> simp_all [ppD, enD, shD, fD, PyData.eqv, PyData.eqvAll]
    all_goals (first | omega | (simp only [Prod.ext_iff]; omega))
  · rintro rfl
    obtain ⟨s, e, sh⟩ := p
    cases sh <;> cases e <;> simp [ppD, enD, shD, fD, PyData.eqv, PyData.eqvAll]
theorem dist_iff (ps : List Pp) : distB (ps.map ppD) = true ↔ ps.Nodup := by
  unfold distB
  rw [List.all_eq_true]
  unfold List.Nodup
  rw [List.pairwise_iff_getElem]
  constructor
  · intro h i j hi hj hij e
    have z := h j (List.mem_range.mpr (by rw [List.length_map]; exact hj))
    rw [Bool.not_eq_true', List.any_eq_false] at z
    have e1 : (ps.map ppD).getD j .none = ppD ps[j] := by rw [getD_in _ (by rw [List.length_map]; exact hj), List.getElem_map]
    rw [e1] at z
    refine z (ppD ps[i]) ?_ ((eqv_pp _ _).mpr e)
    refine List.mem_iff_getElem?.mpr ⟨i, ?_⟩
    rw [List.getElem?_take, if_pos hij, List.getElem?_map, List.getElem?_eq_getElem hi]
    rfl
  · intro h j hj
    have hj : j < ps.length := by have := List.mem_range.mp hj; rw [List.length_map] at this; exact this
    rw [Bool.not_eq_true', List.any_eq_false]
    intro z hz hq
    obtain ⟨i, hi⟩ := List.mem_iff_getElem?.mp hz
    rw [List.getElem?_take] at hi
    split at hi
    · rename_i hij
      have hi' : i < ps.length := by omega
      rw [List.getElem?_map, List.getElem?_eq_getElem hi'] at hi
      cases hi
      rw [getD_in _ (by rw [List.length_map]; exact hj), List.getElem_map] at hq
      exact h i j hi' hj hij ((eqv_pp _ _).mp hq)
    · cases hi
theorem erase_perm {α : Type} : ∀ (l : List α) (i : Nat) (h : i < l.length), (l[i] :: l.eraseIdx i).Perm l
  | a :: l, 0, _ => List.Perm.refl _
  | a :: l, i + 1, h => by
    have h' : i < l.length := by simpa using h
    show (l[i] :: a :: l.eraseIdx i).Perm (a :: l)
    exact (List.Perm.swap _ _ _).trans ((erase_perm l i h').cons a)
theorem thAll_erase {H : Hp} : ∀ {xs : List V} {ds : List PyData} (i : Nat), ThAll H xs ds → ThAll H (xs.eraseIdx i) (ds.eraseIdx i)
  | _, _, _, .nil => by simp; exact .nil
  | _, _, 0, .cons a b => b
  | _, _, i + 1, .cons a b => .cons a (thAll_erase i b)
theorem map_erase {α β : Type} (f : α → β) : ∀ (l : List α) (i : Nat), (l.map f).eraseIdx i = (l.eraseIdx i).map f
  | [], _ => by simp
  | a :: l, 0 => rfl
  | a :: l, i + 1 => by
    show f a :: (l.map f).eraseIdx i = f a :: (l.eraseIdx i).map f
    rw [map_erase f l i]
theorem th_i {H : Hp} {i : Int} {s : Nat} (e : i = (s : Int)) : Th H (.int i) (.int (s : Nat)) := by
  subst e
  exact .int _
/-- the shares of a family -/
def fam0 : List Fr := [(1, 2), (1, 3), (2, 3), (1, 1), (3, 1), (-1, 2)]
def fam1 : List Fr := [(1, 2), (1, 4), (2, 1)]
def fam2 : List Fr := [(1, 2), (0, 1), (1, 5)]
def fam3 : List Fr := [(1, 3), (0, 1), (2, 1)]
def famB : List Fr := [(2, 1), (1, 2), (3, 2), (-1, 1), (2, 3)]
def toldB (x : Fr) : Bool := decide (0 < x.2) && decide (x.2 ≤ 999) && decide (x.1.natAbs ≤ 999) && decide (Nat.gcd x.1.natAbs x.2.natAbs = 1)
theorem told_of {x : Fr} (h : toldB x = true) : Told x := by
  simp only [toldB, Bool.and_eq_true, decide_eq_true_eq] at h
  exact ⟨h.1.1.1, h.1.1.2, h.1.2, h.2⟩
theorem fam_a : ∀ a ∈ fam0, ∀ y ∈ famB, toldB (mulF a y) = true := by decide +kernel
theorem fam_b : ∀ b ∈ fam1, ∀ y ∈ famB, toldB (overF b y) = true := by decide +kernel
theorem fam_c : ∀ c ∈ fam2, ∀ b ∈ fam1, ∀ y ∈ famB, toldB (addF c (lesF b (overF b y))) = true ∧ toldB (lesF b (overF b y)) = true := by decide +kernel
theorem fam_d : ∀ d ∈ fam3, ∀ a ∈ fam0, ∀ y ∈ famB, toldB (addF d (lesF a (mulF a y))) = true ∧ toldB (lesF a (mulF a y)) = true := by decide +kernel
theorem fam_0 : ∀ a ∈ fam0, toldB a = true := by decide +kernel
theorem fam_1 : ∀ a ∈ fam1, toldB a = true := by decide +kernel
theorem fam_2 : ∀ a ∈ fam2, toldB a = true := by decide +kernel
theorem fam_3 : ∀ a ∈ fam3, toldB a = true := by decide +kernel
theorem fam_y : ∀ y ∈ famB, toldB y = true ∧ y.1 ≠ 0 := by decide +kernel
def famP (m o : Nat) : List Pp := [⟨o, some (m - 1), .inl 0⟩, ⟨m - 1, some o, .inl 1⟩, ⟨m - 1, none, .inl 2⟩, ⟨o, none, .inl 3⟩]
theorem famP_ok {m o : Nat} (hm : m = 2 ∨ m = 3) (ho : o < m - 1) : (∀ p ∈ famP m o, GoodP m 4 p) ∧ (famP m o).Nodup := by
  have e : ∀ p ∈ famP m o, GoodP m 4 p := fun p hp => by
    unfold famP at hp
    simp only [List.mem_cons, List.not_mem_nil, or_false] at hp
    rcases hp with rfl | rfl | rfl | rfl
    · exact ⟨by show o < m; omega, (fun k hk => by cases hk; show m - 1 < m ∧ m - 1 ≠ o; omega), by show 0 < 4; omega⟩
    · exact ⟨by show m - 1 < m; omega, (fun k hk => by cases hk; show o < m ∧ o ≠ m - 1; omega), by show 1 < 4; omega⟩
    · exact ⟨by show m - 1 < m; omega, (fun k hk => by cases hk), by show 2 < 4; omega⟩
    · exact ⟨by show o < m; omega, (fun k hk => by cases hk), by show 3 < 4; omega⟩
  exact ⟨e, by simp [famP]⟩
theorem GoodT.up {m m' : Nat} {ns : List Nat} (h : GoodT m ns) (hm : m ≤ m') : GoodT m' ns := ⟨h.ne, h.asc, fun i hi => Nat.lt_of_lt_of_le (h.lt i hi) hm, Nat.le_trans h.len hm⟩
/-- one of a written list of fractions -/
theorem one_fr {K : PySem.W.Frag} {j : Addr} {H : Hp} {v : V} {L : List Fr} {n : Nat} {Q : VK} {E : XK} (tv : Th (hid j H) v (.list (L.map fD))) (h0 : L ≠ []) (hl : L.length ≤ 1000) (hj : JarAt H j n) (hn : n < 1000000)
    (k : ∀ x f H', f ∈ L → Th (tO H') x (fD f) → KJ.But j H H' → JarAt H' j (n + 1) → Q x H') : spOne K [.ref j, v] H Q E := by
  cases tv with
  | lst e ta =>
    refine one_of (K := K) (E := E) (.lst e ta) (.inl rfl) (by simpa using h0) (by rw [List.length_map]; exact hl) hj hn fun x e H' he te b3 j3 => ?_
    obtain ⟨f, hf, rfl⟩ := List.mem_map.mp he
    exact k x f H' hf (th_hid te (tp_f f)) b3 j3
theorem i_mkset {j : Addr} {te : TE} {tz : TS} {σ : L2.St} {H : Hp} {D : Ends} {d : PyData} {i : Nat} (h : Mk j te σ H d) (k : ∀ v H', Same H H' → Th (hid j H') v d → tz D (σ.set i (some v)) H') : tSeq (tAsg te (gName i)) tz D σ H := h H (Same.refl H) _ k
theorem tif_key {t : TT} {ta tb : TE} {σ : L2.St} {H : Hp} {Q : VK} {b : Bool} (R : V → Hp → Prop) (h : Ti t σ H b) (h1 : b = true → ∀ Q' : VK, (∀ v H', R v H' → Q' v H') → ta σ H Q') (h2 : b = false → ∀ Q' : VK, (∀ v H', R v H' → Q' v H') → tb σ H Q') (k : ∀ v H', R v H' → Q v H') : tIf t ta tb σ H Q := h _ (iteB (fun c => h1 c _ k) (fun c => h2 c _ k))
theorem tfor_if {t : TT} {ta tb : TE} {g : TG} {body tz : TS} {σ : L2.St} {H : Hp} {D : Ends} {b : Bool} (R : V → Hp → Prop) (h : Ti t σ H b) (h1 : b = true → ∀ Q' : VK, (∀ v H', R v H' → Q' v H') → ta σ H Q') (h2 : b = false → ∀ Q' : VK, (∀ v H', R v H' → Q' v H') → tb σ H Q')
    (k : ∀ v H', R v H' → tSeq (tFor (iRng1 (tCons (fun _ _ Q => Q v H') tNil)) g body) tz D σ H) : tSeq (tFor (iRng1 (tCons (tIf t ta tb) tNil)) g body) tz D σ H := h _ (iteB (fun c => h1 c _ k) (fun c => h2 c _ k))
theorem th_frnew {H : Hp} {p : Addr} (x : Fr) : Th (tO (upd H p (.tup [.int x.1, .int x.2]))) (.ref p) (fD x) := .tup (tO_of upd_same) (.cons (.int _) (.cons (.int _) .nil))
def spBinT (K : PySem.W.Frag) (f : Fr → Fr → Fr) : Sp := fun vs H Q _ => ∃ u v x y, vs = [u, v] ∧ FrV K H u x ∧ FrV K H v y ∧ Sz 4000 x ∧ Sz 4000 y ∧ ∀ r H', Same H H' → Th (tO H') r (fD (f x y)) → Q r H'
theorem one_dat {K : PySem.W.Frag} {j : Addr} {H : Hp} {v : V} {ds : List PyData} {n : Nat} {Q : VK} {E : XK} (tv : Th (hid j H) v (.list ds)) (h0 : ds ≠ []) (hl : ds.length ≤ 1000) (hj : JarAt H j n) (hn : n < 1000000)
    (k : ∀ x e H', e ∈ ds → Th (hid j H') x e → KJ.But j H H' → JarAt H' j (n + 1) → Q x H') : spOne K [.ref j, v] H Q E := by
  cases tv with
  | lst e ta => exact one_of (K := K) (E := E) (.lst e ta) (.inl rfl) h0 hl hj hn k
theorem thAll_hid {j : Addr} {H : Hp} : ∀ {xs : List V} {ds : List PyData}, (∀ d ∈ ds, tpD d = true) → ThAll (hid j H) xs ds → ThAll (tO H) xs ds
  | _, _, _, .nil => .nil
  | _, _, h, .cons a b => .cons (th_hid a (h _ List.mem_cons_self)) (thAll_hid (fun d hd => h d (List.mem_cons_of_mem _ hd)) b)
theorem hid_at {j p : Addr} {H : Hp} {u : HO} (e : hid j H p = some u) : p ≠ j ∧ H p = some u := by
  refine ⟨fun z => ?_, hid_same j H _ _ e⟩
  rw [z, show hid j H j = none from if_pos rfl] at e
  cases e
section
variable {P : Program} {w : World} {K : PySem.W.Frag} {mg : Str → Option Value} {base : Heap}
theorem ok_plusT {f fL : Addr} {fd fdL : FuncData} (F : Fun K "_law_plus" "_law_plus" lPlus f fd) (FL : FnOk P w K mg base CX0 1 fL fdL ["top", "low"] spLow) (mL : mg "_law_frac" = some (.ref fL)) (kL : PySem.W.keepIn K (.ref fL) = true) (bL : Binds K fdL ["top", "low"] []) :
    FnOk P w K mg base CX0 2 f fd ["one", "two"] (spBinT K addF) := by
  refine F.ok scPlus (fun vs H Q E h => ?_) (fun cdv A outer s H vs Q E hr h => ?_)
  · obtain ⟨u, v, x, y, rfl, _⟩ := h
    rfl
  · obtain ⟨u, v, x, y, rfl, hx, hy, zx, zy, k⟩ := h
    refine ⟨_, pss_one (ps_ret (pe_call FL hr rfl mL kL bL .nil pass0 (pa_cons (pe_op op_add (pe_op op_mulW (pe_ix ix_tup (pv 0) pe_int (fun _ _ => rfl)) (pe_ix ix_tup (pv 1) pe_int (fun _ _ => rfl))) (pe_op op_mulW (pe_ix ix_tup (pv 1) pe_int (fun _ _ => rfl)) (pe_ix ix_tup (pv 0) pe_int (fun _ _ => rfl))))
        (pa_cons (pe_op op_mulW (pe_ix ix_tup (pv 0) pe_int (fun _ _ => rfl)) (pe_ix ix_tup (pv 1) pe_int (fun _ _ => rfl))) pa_nil)))), ?_⟩
    obtain ⟨z1, z2⟩ := z9 zx zy
    refine ret_call (K := K) (D := { nx := _, rt := Q }) (ai_cons (vi_add (vi_mul (vi_ix0 rfl hx) (vi_ix1 rfl hy) (cmul (a := 3999) (b := 3999) zx.n zy.d (by decide))) (vi_mul (vi_ix0 rfl hy) (vi_ix1 rfl hx) (cmul (a := 3999) (b := 3999) zy.n zx.d (by decide)))) (ai_cons (vi_mul (vi_ix1 rfl hx) (vi_ix1 rfl hy) (cmul (a := 3999) (b := 3999) zx.d zy.d (by decide))) ai_nil)) ?_
    exact ⟨_, _, rfl, z1, z2, fun p hp => k _ _ (same_upd hp) (th_frnew (addF x y))⟩
theorem ok_lessT {f fL : Addr} {fd fdL : FuncData} (F : Fun K "_law_less" "_law_less" lLess f fd) (FL : FnOk P w K mg base CX0 1 fL fdL ["top", "low"] spLow) (mL : mg "_law_frac" = some (.ref fL)) (kL : PySem.W.keepIn K (.ref fL) = true) (bL : Binds K fdL ["top", "low"] []) :
    FnOk P w K mg base CX0 2 f fd ["one", "two"] (spBinT K lesF) := by
  refine F.ok scLessL (fun vs H Q E h => ?_) (fun cdv A outer s H vs Q E hr h => ?_)
  · obtain ⟨u, v, x, y, rfl, _⟩ := h
    rfl
  · obtain ⟨u, v, x, y, rfl, hx, hy, zx, zy, k⟩ := h
    refine ⟨_, pss_one (ps_ret (pe_call FL hr rfl mL kL bL .nil pass0 (pa_cons (pe_op op_sub (pe_op op_mulW (pe_ix ix_tup (pv 0) pe_int (fun _ _ => rfl)) (pe_ix ix_tup (pv 1) pe_int (fun _ _ => rfl))) (pe_op op_mulW (pe_ix ix_tup (pv 1) pe_int (fun _ _ => rfl)) (pe_ix ix_tup (pv 0) pe_int (fun _ _ => rfl))))
        (pa_cons (pe_op op_mulW (pe_ix ix_tup (pv 0) pe_int (fun _ _ => rfl)) (pe_ix ix_tup (pv 1) pe_int (fun _ _ => rfl))) pa_nil)))), ?_⟩
    obtain ⟨z1, z2⟩ := z9 zx zy
    refine ret_call (K := K) (D := { nx := _, rt := Q }) (ai_cons (vi_sub (vi_mul (vi_ix0 rfl hx) (vi_ix1 rfl hy) (cmul (a := 3999) (b := 3999) zx.n zy.d (by decide))) (vi_mul (vi_ix0 rfl hy) (vi_ix1 rfl hx) (cmul (a := 3999) (b := 3999) zy.n zx.d (by decide)))) (ai_cons (vi_mul (vi_ix1 rfl hx) (vi_ix1 rfl hy) (cmul (a := 3999) (b := 3999) zx.d zy.d (by decide))) ai_nil)) ?_
    exact ⟨_, _, rfl, z1, z2, fun p hp => k _ _ (same_upd hp) (th_frnew (lesF x y))⟩
theorem ok_byT {f fL : Addr} {fd fdL : FuncData} (F : Fun K "_law_by" "_law_by" lBy f fd) (FL : FnOk P w K mg base CX0 1 fL fdL ["top", "low"] spLow) (mL : mg "_law_frac" = some (.ref fL)) (kL : PySem.W.keepIn K (.ref fL) = true) (bL : Binds K fdL ["top", "low"] []) :
    FnOk P w K mg base CX0 2 f fd ["one", "two"] (spBinT K mulF) := by
  refine F.ok scByL (fun vs H Q E h => ?_) (fun cdv A outer s H vs Q E hr h => ?_)
  · obtain ⟨u, v, x, y, rfl, _⟩ := h
    rfl
  · obtain ⟨u, v, x, y, rfl, hx, hy, zx, zy, k⟩ := h
    refine ⟨_, pss_one (ps_ret (pe_call FL hr rfl mL kL bL .nil pass0 (pa_cons (pe_op op_mulW (pe_ix ix_tup (pv 0) pe_int (fun _ _ => rfl)) (pe_ix ix_tup (pv 1) pe_int (fun _ _ => rfl)))
        (pa_cons (pe_op op_mulW (pe_ix ix_tup (pv 0) pe_int (fun _ _ => rfl)) (pe_ix ix_tup (pv 1) pe_int (fun _ _ => rfl))) pa_nil)))), ?_⟩
    obtain ⟨z1, z2⟩ := z9 zx zy
    refine ret_call (K := K) (D := { nx := _, rt := Q }) (ai_cons (vi_mul (vi_ix0 rfl hx) (vi_ix0 rfl hy) (cmul (a := 3999) (b := 3999) zx.n zy.n (by decide))) (ai_cons (vi_mul (vi_ix1 rfl hx) (vi_ix1 rfl hy) (cmul (a := 3999) (b := 3999) zx.d zy.d (by decide))) ai_nil)) ?_
    exact ⟨_, _, rfl, z1, z2, fun p hp => k _ _ (same_upd hp) (th_frnew (mulF x y))⟩
end
end KP

set_option Elab.async false
set_option linter.all false
set_option maxRecDepth 100000
set_option maxHeartbeats 4000000
/-! ### families of shares -/
namespace KP
open PySem PySem.Spec PyProof.Rows L2 KX KT KJ KS FR
abbrev lFam : Stmt := top 68
def trioD (n : NetM) (as bs : List Fr) : PyData := .tuple [n.d, .tuple (as.map fD), .tuple (bs.map fD)]
/-- three in a tuple, the first a net whose fifth part has no dict of its own -/
def TrioZ (H : Hp) (v : V) : Prop := ∃ (a : Addr) (x y z : V), v = .ref a ∧ H a = some (.tup [x, y, z]) ∧ NetZ H x
theorem TrioZ.same {H H' : Hp} {v : V} (h : TrioZ H v) (s : Same H H') : TrioZ H' v := by
  obtain ⟨a, x, y, z, e, q, n⟩ := h
  exact ⟨a, x, y, z, e, s _ _ q, n.same s⟩
def spFam : Sp := fun vs H Q _ => ∃ j n, vs = [.ref j] ∧ JarAt H j n ∧ n ≤ 800000 ∧ ∀ v nt as bs H', GoodN nt → nt.u = 4 → AsOk nt as → AsOk nt bs → Th (tO H') v (trioD nt as bs) → TrioZ (hid j H') v → KJ.But j H H' → JarAt H' j (n + 60) → Q v H'
abbrev nFam : List Str := ["jar", "many", "hidden", "other", "pipes", "turn", "start", "pipe", "left", "whole", "shown", "net", "one", "by", "gone", "back", "two"]
theorem scFam : FnScope nFam ["jar"] (defScope lFam) := ⟨rfl, rfl, rfl, by decide +kernel, rfl, by decide +kernel, by decide +kernel⟩
theorem fr_tup {K : PySem.W.Frag} {H : Hp} {q : Addr} {xs : List V} {r : List Fr} (e : tO H q = some (.tup xs)) (f : FrL K H xs r) (t : ∀ (i : Nat) (v : V) (x : Fr), xs[i]? = some v → r[i]? = some x → Th (tO H) v (fD x)) : Th (tO H) (.ref q) (.tuple (r.map fD)) := by
  refine .tup e ?_
  have : ∀ {xs : List V} {r : List Fr}, xs.length = r.length → (∀ (i : Nat) (v : V) (x : Fr), xs[i]? = some v → r[i]? = some x → Th (tO H) v (fD x)) → ThAll (tO H) xs (r.map fD) := by
    intro xs
    induction xs with
    | nil =>
      intro r hl _
      cases r with
      | nil => exact .nil
      | cons _ _ => simp at hl
    | cons x xs ih =>
      intro r hl h
      cases r with
      | nil => simp at hl
      | cons y r => exact .cons (h 0 x y rfl rfl) (ih (by simpa using hl) fun i v z a b => h (i + 1) v z (by simpa using a) (by simpa using b))
  exact this f.len t
theorem told4 {x : Fr} (h : Told x) : Sz 4000 x := told_sz h
section
variable {P : Program} {w : World} {K : PySem.W.Frag} {mg : Str → Option Value} {base : Heap}
theorem ok_fam {f fD1 fO fP fL fB fV fA fS : Addr} {fd fdD fdO fdP fdL fdB fdV fdA fdS : FuncData} (F : Fun K "_law_family" "_law_family" lFam f fd) (T : TxD mg)
    (FD : FnOk P w K mg base CX0 1 fD1 fdD ["jar", "top"] spDip) (mD : mg "_law_dip" = some (.ref fD1)) (kD : PySem.W.keepIn K (.ref fD1) = true) (bD : Binds K fdD ["jar", "top"] [])
    (FO : FnOk P w K mg base CX0 2 fO fdO ["jar", "some"] (spOne K)) (mO : mg "_law_one_of" = some (.ref fO)) (kO : PySem.W.keepIn K (.ref fO) = true) (bO : Binds K fdO ["jar", "some"] [])
    (FP : FnOk P w K mg base CX0 3 fP fdP ["jar"] spPart2) (mP : mg "_law_told_part" = some (.ref fP)) (kP : PySem.W.keepIn K (.ref fP) = true) (bP : Binds K fdP ["jar"] [])
    (FL : FnOk P w K mg base CX0 2 fL fdL ["jar", "many"] spLot2) (mL : mg "_law_lot" = some (.ref fL)) (kL : PySem.W.keepIn K (.ref fL) = true) (bL : Binds K fdL ["jar", "many"] [])
    (FB : FnOk P w K mg base CX0 2 fB fdB ["one", "two"] (spBinT K mulF)) (mB : mg "_law_by" = some (.ref fB)) (kB : PySem.W.keepIn K (.ref fB) = true) (bB : Binds K fdB ["one", "two"] [])
    (FV : FnOk P w K mg base CX0 2 fV fdV ["one", "two"] (spOver K)) (mV : mg "_law_over" = some (.ref fV)) (kV : PySem.W.keepIn K (.ref fV) = true) (bV : Binds K fdV ["one", "two"] [])
    (FA : FnOk P w K mg base CX0 2 fA fdA ["one", "two"] (spBinT K addF)) (mA : mg "_law_plus" = some (.ref fA)) (kA : PySem.W.keepIn K (.ref fA) = true) (bA : Binds K fdA ["one", "two"] [])
    (FS : FnOk P w K mg base CX0 2 fS fdS ["one", "two"] (spBinT K lesF)) (mS : mg "_law_less" = some (.ref fS)) (kS : PySem.W.keepIn K (.ref fS) = true) (bS : Binds K fdS ["one", "two"] []) :
    FnOk P w K mg base CX0 4 f fd ["jar"] spFam := by
  refine F.ok scFam (fun vs H Q E h => ?_) (fun cdv A outer s H vs Q E hr h => ?_)
  · obtain ⟨j, n, rfl, _⟩ := h
    rfl
  · obtain ⟨j, n, rfl, hj, hn, k⟩ := h
    have hr1 : Room 1 _ := hr.mono (by decide)
    have hr2 : Room 2 _ := hr.mono (by decide)
    have hu : (A.deeper (envOfC "_law_family" (defScope lFam) s.heap.objs.size f cdv)).units + 65 < cLine := by have := hr.un; omega
    refine ⟨_, pss_cons (ps_set (i := 1) scFam.nd rfl (Or.inl rfl) (pe_call FO hr2 rfl mO kO bO .nil pass0 (pa_cons (pv 0) (pa_cons (pe_lst (pa_cons pe_int (pa_cons pe_int (pa_cons pe_int pa_nil)))) pa_nil))))
      (pss_cons (ps_par (i := 2) (j := 3) (by rfl) scFam.nd rfl rfl (by decide) rfl rfl (pa_cons (pe_op op_sub (pv 1) pe_int) (pa_cons (pe_call FD hr1 rfl mD kD bD .nil pass0 (pa_cons (pv 0) (pa_cons (pe_op op_sub (pv 1) pe_int) pa_nil))) pa_nil)) (by rfl))
      (pss_cons (ps_set (i := 4) scFam.nd rfl (Or.inl rfl) (pe_lst (pa_cons (pe_tup (pa_cons (pv 3) (pa_cons (pv 2) (pa_cons (pe_tup (pa_cons pe_str (pa_cons pe_int pa_nil))) pa_nil)))) (pa_cons (pe_tup (pa_cons (pv 2) (pa_cons (pv 3) (pa_cons (pe_tup (pa_cons pe_str (pa_cons pe_int pa_nil))) pa_nil))))
          (pa_cons (pe_tup (pa_cons (pv 2) (pa_cons pe_non (pa_cons (pe_tup (pa_cons pe_str (pa_cons pe_int pa_nil))) pa_nil)))) (pa_cons (pe_tup (pa_cons (pv 3) (pa_cons pe_non (pa_cons (pe_tup (pa_cons pe_str (pa_cons pe_int pa_nil))) pa_nil)))) pa_nil))))))
      (pss_cons (ps_for PassesOwn.never rfl (pi_range1 rfl T.range (pa_cons (pe_ifExp (pt_cmpR op_eq (pv 1) pe_int (nomark _)) (pe_call FD hr1 rfl mD kD bD .nil pass0 (pa_cons (pv 0) (pa_cons pe_int pa_nil))) pe_int) pa_nil)) (pg_name (i := 5) scFam.nd rfl (Or.inl rfl))
        (pss_cons (ps_set (i := 6) scFam.nd rfl (Or.inl rfl) (pe_call FD hr1 rfl mD kD bD .nil pass0 (pa_cons (pv 0) (pa_cons pe_int pa_nil))))
        (pss_cons (ps_set (i := 7) scFam.nd rfl (Or.inl rfl) (pe_tup (pa_cons (pv 6) (pa_cons (pe_call FO hr2 rfl mO kO bO .nil pass0 (pa_cons (pv 0) (pa_cons (pe_lst (pa_cons (pe_op op_sub pe_int (pv 6)) (pa_cons pe_non pa_nil))) pa_nil))) (pa_cons (pe_call FP hr rfl mP kP bP .nil pass0 (pa_cons (pv 0) pa_nil)) pa_nil)))))
        (pss_one (ps_set (i := 4) scFam.nd rfl (Or.inl rfl) (pe_op op_cat (pv 4) (pe_ifExp (pt_cmpR (op_notInD hu) (pv 7) (pv 4) (by rfl)) (pe_lst (pa_cons (pv 7) pa_nil)) (pe_lst pa_nil))))))))
      (pss_cons (ps_par (i := 8) (j := 9) (by rfl) scFam.nd rfl rfl (by decide) rfl rfl (pa_cons (pe_callTy (r := rListOf K) (by exact call_list_of) (by rfl) T.list (by decide +kernel) (pa_cons (pv 4) pa_nil)) (pa_cons (pe_lst pa_nil) pa_nil)) (by rfl))
      (pss_cons (ps_for PassesOwn.never rfl (pi_range1 rfl T.range (pa_cons (pe_callB call_len_seq (by rfl) T.len PySem.boot_len (pa_cons (pv 4) pa_nil)) pa_nil)) (pg_name (i := 5) scFam.nd rfl (Or.inl rfl))
        (pss_one (ps_expr (pe_bm PySem.F.plainAttrs_list PySem.F.slot_list_append PySem.F.type_list_append mt_append (pv 9) (pa_cons (pe_bm PySem.F.plainAttrs_list PySem.F.slot_list_pop PySem.F.type_list_pop mt_popAt (pv 8) (pa_cons (pe_call FD hr1 rfl mD kD bD .nil pass0 (pa_cons (pv 0) (pa_cons (pe_callB call_len_seq (by rfl) T.len PySem.boot_len (pa_cons (pv 8) pa_nil)) pa_nil))) pa_nil)) pa_nil)))))
      (pss_cons (ps_set (i := 10) scFam.nd rfl (Or.inl rfl) (pe_call FL hr2 rfl mL kL bL .nil pass0 (pa_cons (pv 0) (pa_cons (pe_op op_sub (pv 1) pe_int) pa_nil))))
      (pss_cons (ps_set (i := 11) scFam.nd rfl (Or.inl rfl) (pe_tup (pa_cons (pv 1) (pa_cons pe_int (pa_cons (pe_tupleOf (by rfl) T.tuple (pv 9)) (pa_cons (pe_call FL hr2 rfl mL kL bL .nil pass0 (pa_cons (pv 0) (pa_cons (pe_op op_sub (pv 1) pe_int) pa_nil))) (pa_cons (pv 10) pa_nil)))))))
      (pss_cons (ps_set (i := 12) scFam.nd rfl (Or.inl rfl) (pe_lst (pa_cons (pe_call FO hr2 rfl mO kO bO .nil pass0 (pa_cons (pv 0) (pa_cons (pe_lst (pa_cons (pe_tup (pa_cons pe_int (pa_cons pe_int pa_nil))) (pa_cons (pe_tup (pa_cons pe_int (pa_cons pe_int pa_nil))) (pa_cons (pe_tup (pa_cons pe_int (pa_cons pe_int pa_nil)))
          (pa_cons (pe_tup (pa_cons pe_int (pa_cons pe_int pa_nil))) (pa_cons (pe_tup (pa_cons pe_int (pa_cons pe_int pa_nil))) (pa_cons (pe_tup (pa_cons (pe_un un_neg pe_int) (pa_cons pe_int pa_nil))) pa_nil))))))) pa_nil))) pa_nil)))
      (pss_cons (ps_expr (pe_bm PySem.F.plainAttrs_list PySem.F.slot_list_append PySem.F.type_list_append mt_append (pv 12) (pa_cons (pe_call FO hr2 rfl mO kO bO .nil pass0 (pa_cons (pv 0) (pa_cons (pe_lst (pa_cons (pe_tup (pa_cons pe_int (pa_cons pe_int pa_nil))) (pa_cons (pe_tup (pa_cons pe_int (pa_cons pe_int pa_nil))) (pa_cons (pe_tup (pa_cons pe_int (pa_cons pe_int pa_nil))) pa_nil)))) pa_nil))) pa_nil)))
      (pss_cons (ps_set (i := 12) scFam.nd rfl (Or.inl rfl) (pe_op op_cat (pv 12) (pe_lst (pa_cons (pe_call FO hr2 rfl mO kO bO .nil pass0 (pa_cons (pv 0) (pa_cons (pe_lst (pa_cons (pe_tup (pa_cons pe_int (pa_cons pe_int pa_nil))) (pa_cons (pe_tup (pa_cons pe_int (pa_cons pe_int pa_nil))) (pa_cons (pe_tup (pa_cons pe_int (pa_cons pe_int pa_nil))) pa_nil)))) pa_nil)))
          (pa_cons (pe_call FO hr2 rfl mO kO bO .nil pass0 (pa_cons (pv 0) (pa_cons (pe_lst (pa_cons (pe_tup (pa_cons pe_int (pa_cons pe_int pa_nil))) (pa_cons (pe_tup (pa_cons pe_int (pa_cons pe_int pa_nil))) (pa_cons (pe_tup (pa_cons pe_int (pa_cons pe_int pa_nil))) pa_nil)))) pa_nil))) pa_nil)))))
      (pss_cons (ps_set (i := 13) scFam.nd rfl (Or.inl rfl) (pe_call FO hr2 rfl mO kO bO .nil pass0 (pa_cons (pv 0) (pa_cons (pe_lst (pa_cons (pe_tup (pa_cons pe_int (pa_cons pe_int pa_nil))) (pa_cons (pe_tup (pa_cons pe_int (pa_cons pe_int pa_nil))) (pa_cons (pe_tup (pa_cons pe_int (pa_cons pe_int pa_nil)))
          (pa_cons (pe_tup (pa_cons (pe_un un_neg pe_int) (pa_cons pe_int pa_nil))) (pa_cons (pe_tup (pa_cons pe_int (pa_cons pe_int pa_nil))) pa_nil)))))) pa_nil))))
      (pss_cons (ps_par (i := 14) (j := 15) (by rfl) scFam.nd rfl rfl (by decide) rfl rfl (pa_cons (pe_call FB hr2 rfl mB kB bB .nil pass0 (pa_cons (pe_ix ix_list (pv 12) pe_int (fun _ _ => rfl)) (pa_cons (pv 13) pa_nil))) (pa_cons (pe_call FV hr2 rfl mV kV bV .nil pass0 (pa_cons (pe_ix ix_list (pv 12) pe_int (fun _ _ => rfl)) (pa_cons (pv 13) pa_nil))) pa_nil)) (by rfl))
      (pss_cons (ps_set (i := 16) scFam.nd rfl (Or.inl rfl) (pe_lst (pa_cons (pv 14) (pa_cons (pv 15) (pa_cons (pe_call FA hr2 rfl mA kA bA .nil pass0 (pa_cons (pe_ix ix_list (pv 12) pe_int (fun _ _ => rfl)) (pa_cons (pe_call FS hr2 rfl mS kS bS .nil pass0 (pa_cons (pe_ix ix_list (pv 12) pe_int (fun _ _ => rfl)) (pa_cons (pv 15) pa_nil))) pa_nil)))
          (pa_cons (pe_call FA hr2 rfl mA kA bA .nil pass0 (pa_cons (pe_ix ix_list (pv 12) pe_int (fun _ _ => rfl)) (pa_cons (pe_call FS hr2 rfl mS kS bS .nil pass0 (pa_cons (pe_ix ix_list (pv 12) pe_int (fun _ _ => rfl)) (pa_cons (pv 14) pa_nil))) pa_nil))) pa_nil))))))
      (pss_one (ps_ret (pe_tup (pa_cons (pv 11) (pa_cons (pe_tupleOf (by rfl) T.tuple (pv 12)) (pa_cons (pe_tupleOf (by rfl) T.tuple (pv 16)) pa_nil))))))))))))))))))), ?_⟩
    -- many
    refine ⟨_, rfl, (lit_lst (litA_cons lit_int (litA_cons lit_int (litA_cons lit_int litA_nil))) (by simp) : Lit j _ _ _) H _ (jar_ne hj) fun v1 H1 s1 t1 => ?_⟩
    refine one_dat (K := K) (E := L2.E0) t1 (by simp) (by simp) (jar_same hj s1) (by omega) fun x e H2 he te b2 j2 => ?_
    obtain ⟨m, rfl, hm⟩ : ∃ m : Nat, e = .int (m : Nat) ∧ (m = 2 ∨ m = 3) := by
      simp only [List.mem_cons, List.not_mem_nil, or_false] at he
      rcases he with rfl | rfl | rfl
      · exact ⟨2, rfl, .inl rfl⟩
      · exact ⟨3, rfl, .inr rfl⟩
      · exact ⟨3, rfl, .inr rfl⟩
    cases te
    have b02 := (KJ.But.same s1).trans b2
    have em : (m : Int) - 1 = ((m - 1 : Nat) : Int) := by omega
    -- hidden, other
    refine ⟨_, rfl, _, _, rfl, rfl, _, rfl, _, rfl, _, _, rfl, rfl, j, _, _, rfl, by omega, by omega, j2, by omega, fun o H3 o0 o1 b3 j3 => ⟨_, _, rfl, ?_⟩⟩
    obtain ⟨o, rfl⟩ := Int.eq_ofNat_of_zero_le o0
    have ho : o < m - 1 := by omega
    have b03 := b02.trans b3
    have hj3 := jar_ne j3
    -- pipes
    have M : Mk j (tLst (tCons (tTup (tCons (tVar 3) (tCons (tVar 2) (tCons (tTup (tCons (tC (.str "x")) (tCons (tC (.int 0)) tNil))) tNil)))) (tCons (tTup (tCons (tVar 2) (tCons (tVar 3) (tCons (tTup (tCons (tC (.str "x")) (tCons (tC (.int 1)) tNil))) tNil))))
        (tCons (tTup (tCons (tVar 2) (tCons (tC .non) (tCons (tTup (tCons (tC (.str "x")) (tCons (tC (.int 2)) tNil))) tNil)))) (tCons (tTup (tCons (tVar 3) (tCons (tC .non) (tCons (tTup (tCons (tC (.str "x")) (tCons (tC (.int 3)) tNil))) tNil)))) tNil)))))
        [some (V.ref j), some (.int (m : Nat)), some (.int ((m : Int) - 1)), some (.int (o : Nat)), none, none, none, none, none, none, none, none, none, none, none, none, none] H3
        (.list [.tuple [.int (o : Nat), .int ((m - 1 : Nat) : Int), .tuple [.str "x", .int 0]], .tuple [.int ((m - 1 : Nat) : Int), .int (o : Nat), .tuple [.str "x", .int 1]], .tuple [.int ((m - 1 : Nat) : Int), .none, .tuple [.str "x", .int 2]], .tuple [.int (o : Nat), .none, .tuple [.str "x", .int 3]]]) :=
      mk_lst hj3 (mkA_cons (mk_tup hj3 (mkA_cons (mk_var rfl (.int _)) (mkA_cons (mk_var rfl (th_i em)) (mkA_cons (mk_lit hj3 (lit_tup (litA_cons lit_str (litA_cons lit_int litA_nil)) (by simp))) mkA_nil))) (by simp))
      (mkA_cons (mk_tup hj3 (mkA_cons (mk_var rfl (th_i em)) (mkA_cons (mk_var rfl (.int _)) (mkA_cons (mk_lit hj3 (lit_tup (litA_cons lit_str (litA_cons lit_int litA_nil)) (by simp))) mkA_nil))) (by simp))
      (mkA_cons (mk_tup hj3 (mkA_cons (mk_var rfl (th_i em)) (mkA_cons (mk_lit hj3 lit_non) (mkA_cons (mk_lit hj3 (lit_tup (litA_cons lit_str (litA_cons lit_int litA_nil)) (by simp))) mkA_nil))) (by simp))
      (mkA_cons (mk_tup hj3 (mkA_cons (mk_var rfl (.int _)) (mkA_cons (mk_lit hj3 lit_non) (mkA_cons (mk_lit hj3 (lit_tup (litA_cons lit_str (litA_cons lit_int litA_nil)) (by simp))) mkA_nil))) (by simp)) mkA_nil)))) (by simp)
    refine i_mkset M fun v4 H4 s4 t4 => ?_
    have t4 : Th (hid j H4) v4 (.list ((famP m o).map ppD)) := t4
    obtain ⟨p4, xs4, rfl, np4, ep4, ta4⟩ : ∃ p xs, v4 = .ref p ∧ p ≠ j ∧ H4 p = some (.lst xs) ∧ ThAll (hid j H4) xs ((famP m o).map ppD) := by
      cases t4 with
      | lst e ta => exact ⟨_, _, rfl, (hid_at e).1, (hid_at e).2, ta⟩
    have j4 := jar_same j3 s4
    have b04 := b03.trans (KJ.But.same s4)
    obtain ⟨gf, nf⟩ := famP_ok hm ho
    -- more pipes
    refine tfor_if (b := decide (V.int (m : Nat) = V.int 3)) (fun v H' => ∃ t : Int, v = .int t ∧ 0 ≤ t ∧ t ≤ 2 ∧ (0 < t → m = 3) ∧ KJ.But j H4 H' ∧ JarAt H' j (n + 3)) (ti_test (vi_op (vi_var rfl) vi_c fun Q q => ⟨rfl, q⟩)) (fun c Q' q => ?_) (fun c Q' q => q _ _ ⟨0, rfl, by omega, by omega, by omega, fun _ _ _ e => e, jar_more j4 (by omega)⟩) ?_
    · have := V.int.inj (of_decide_eq_true c)
      exact ⟨_, rfl, j, 3, _, rfl, by decide, by decide, j4, by omega, fun r H5 r0 r1 b5 j5 => q _ _ ⟨r, rfl, by omega, by omega, by omega, b5, jar_more j5 (by omega)⟩⟩
    rintro _ H5 ⟨t, rfl, t0, t2, tm, b5, j5⟩
    have b05 := b04.trans b5
    have ep5 := b5 _ _ np4 ep4
    have ta5 : ThAll (hid j H5) xs4 ((famP m o).map ppD) := ThAll.mono (Sm.same (hid_but b5)) ta4
    clear b02 b03 b04 b5 j2 j3 j4 s4 t4 M ep4 ta4
    refine ⟨t, rfl, by omega, by omega, ?_⟩
    refine for_range (lo := 0) (n := t.toNat) (fun i σ H' => ∃ (o5 o6 o7 : Option V) (p : Addr) (xs : List V) (ps : List Pp), σ = [some (.ref j), some (.int (m : Nat)), some (.int ((m : Int) - 1)), some (.int (o : Nat)), some (.ref p), o5, o6, o7, none, none, none, none, none, none, none, none, none] ∧ KJ.But j H H' ∧
      JarAt H' j (n + 3 + 5 * i) ∧ p ≠ j ∧ H' p = some (.lst xs) ∧ ThAll (hid j H') xs (ps.map ppD) ∧ ps.length ≤ 4 + i ∧ (∀ p ∈ ps, GoodP m 4 p) ∧ distB (ps.map ppD) = true) ⟨none, none, none, p4, xs4, famP m o, rfl, b05, j5, np4, ep5, ta5, Nat.le_refl _, gf, (dist_iff _).mpr nf⟩ ?_ ?_
    · rintro i σ H' hi ⟨o5, o6, o7, p, xs, ps, rfl, b0, j0, np, ep, ta, ln, hg, hdist⟩
      have m3 : m = 3 := tm (by omega)
      refine ⟨_, rfl, j, 2, _, rfl, by decide, by decide, j0, by omega, fun st H6 st0 st1 b6 j6 => ?_⟩
      refine ⟨_, rfl, _, rfl, _, rfl, _, _, rfl, rfl, by show 2 ≤ sizeLine; decide, fun l hl => ?_⟩
      have sl := same_upd (o := .lst [V.int (1 - st), V.non]) hl
      refine ⟨j, l, [V.int (1 - st), V.non], _, rfl, new_ne hl (jar_ne j6), .inl upd_same, by simp, by show 2 < 1000000; decide, jar_same j6 sl, by omega, fun x H7 hx b7 j7 => ?_⟩
      refine ⟨_, rfl, j, _, rfl, j7, by omega, fun v fx H8 hfx tv b8 j8 => ⟨by show 3 ≤ sizeLine; decide, fun z hz => ?_⟩⟩
      obtain ⟨a, hxa, haa⟩ : ∃ a, Th (hid j H8) x (enD a) ∧ ∀ k, a = some k → k < m ∧ k ≠ st.toNat := by
        simp only [List.mem_cons, List.not_mem_nil, or_false] at hx
        rcases hx with rfl | rfl
        · refine ⟨some (1 - st).toNat, ?_, fun k hk => ?_⟩
          · exact th_i (by omega)
          · cases hk
            omega
        · exact ⟨none, .non, fun k hk => by cases hk⟩
      have sz := same_upd (o := .tup [V.int st, x, v]) hz
      have thp : Th (hid j (upd H8 z (.tup [V.int st, x, v]))) (.ref z) (ppD ⟨st.toNat, a, .inr fx⟩) := .tup (by rw [hid_ne (new_ne hz (jar_ne j8))]; exact upd_same) (.cons (th_i (show st = ((st.toNat : Nat) : Int) by omega)) (.cons (Thj.same hxa sz) (.cons (Thj.same tv sz) .nil)))
      have gp : GoodP m 4 ⟨st.toNat, a, .inr fx⟩ := ⟨(show st.toNat < m by rw [m3]; omega), haa, hfx⟩
      have fl : Flat (ppD ⟨st.toNat, a, .inr fx⟩) := pp_flat
      generalize (⟨st.toNat, a, .inr fx⟩ : Pp) = pd at thp gp fl
      generalize upd H8 z (.tup [V.int st, x, v]) = H9 at sz thp ⊢
      have b9 := b6.trans ((KJ.But.same sl).trans (b7.trans (b8.trans (KJ.But.same sz))))
      have ep9 : H9 p = some (.lst xs) := b9 _ _ np ep
      have ta9 : ThAll (hid j H9) xs (ps.map ppD) := ThAll.mono (Sm.same (hid_but b9)) ta
      have j9 := jar_same j8 sz
      have sL := flat_shapedL (ds := ps.map ppD) fun e he => by
        obtain ⟨p', _, rfl⟩ := List.mem_map.mp he
        exact pp_flat
      have lx : xs.length ≤ 12 := by rw [all2 ta9, List.length_map]; omega
      refine ⟨_, rfl, _, rfl, _, rfl, ppD pd, ps.map ppD, Th.dp (Thj.th thp) fl.2.2, Th.dp (.lst ep9 (ThAll.mono (Sm.same (hid_same j H9)) ta9)) sL.2, shaped_of fl.1 (by have := fl.2.1; omega), sL.1, _, rfl, iteB (fun c => ?_) (fun c => ?_)⟩
      · rw [Bool.not_eq_true'] at c
        refine ⟨_, rfl, (by show 1 ≤ sizeLine; decide), fun l hl => ⟨p, l, xs, [.ref z], rfl, rfl, (same_upd hl) _ _ ep9, upd_same, Nat.le_trans (show xs.length + 1 ≤ 13 by omega) (by decide), fun r hr' => ?_⟩⟩
        have sr := (same_upd (o := .lst [V.ref z]) hl).trans (same_upd (o := .lst (xs ++ [V.ref z])) hr')
        refine ⟨_, _, _, r, xs ++ [.ref z], ps ++ [pd], rfl, b0.trans (b9.trans (KJ.But.same sr)), jar_more (jar_same j9 sr) (by omega), new_ne hr' (jar_ne (jar_same j9 (same_upd hl))), upd_same, ?_, by rw [List.length_append, List.length_singleton]; omega, fun e he => ?_, ?_⟩
        · rw [List.map_append]
          exact ThAllj.same (ThAll.append ta9 (.cons thp .nil)) sr
        · rcases List.mem_append.mp he with h | h
          · exact hg e h
          · rw [List.mem_singleton.mp h]
            exact gp
        · rw [List.map_append]
          exact dist_snoc hdist c
      · refine ⟨by decide, fun l hl => ⟨p, l, xs, [], rfl, rfl, (same_upd hl) _ _ ep9, upd_same, Nat.le_trans (show xs.length + 0 ≤ 13 by omega) (by decide), fun r hr' => ?_⟩⟩
        have sr := (same_upd (o := .lst ([] : List V)) hl).trans (same_upd (o := .lst (xs ++ [])) hr')
        exact ⟨_, _, _, r, xs ++ [], ps, rfl, b0.trans (b9.trans (KJ.But.same sr)), jar_more (jar_same j9 sr) (by omega), new_ne hr' (jar_ne (jar_same j9 (same_upd hl))), upd_same, (by have z := ThAllj.same ta9 sr; rw [List.append_nil] at z ⊢; exact z), by omega, hg, hdist⟩
    rintro σ H6 ⟨o5, o6, o7, p, xs, ps, rfl, b0, j0, np, ep, ta, ln, hg, hdist⟩
    clear b05 j5 ep5 ta5 np4 gf nf
    have lx : xs.length = ps.length := by rw [all2 ta, List.length_map]
    have lps : ps.length ≤ 6 := by omega
    have nps : ps.Nodup := (dist_iff _).mp hdist
    have ta : ThAll (tO H6) xs (ps.map ppD) := thAll_hid (fun d hd => by obtain ⟨q, _, rfl⟩ := List.mem_map.mp hd; exact tp_pp q) ta
    -- in another order
    refine ⟨_, rfl, p, xs, rfl, .inl (SqL.of ep), fun l hl => ⟨by decide, fun q hq => ⟨_, _, rfl, ?_⟩⟩⟩
    have sl := same_upd (o := .lst xs) hl
    have sq := same_upd (o := .lst ([] : List V)) hq
    have nl : l ≠ j := new_ne hl (jar_ne j0)
    have nq : q ≠ j := new_ne hq (jar_ne (jar_same j0 sl))
    have nql : q ≠ l := fun z => by rw [z, show upd H6 l (.lst xs) l = some (.lst xs) from upd_same] at hq; cases hq
    have nHl : H l = none := by
      cases e : H l with
      | none => rfl
      | some u => rw [b0 _ _ nl e] at hl; cases hl
    have nHq : H q = none := by
      cases e : H q with
      | none => rfl
      | some u => rw [(b0.trans (KJ.But.same sl)) _ _ nq e] at hq; cases hq
    have s7 := sl.trans sq
    refine ⟨_, rfl, p, xs, rfl, .inl (SqL.of (s7 _ _ ep)), _, rfl, by omega, by omega, ?_⟩
    rw [Int.toNat_natCast, lx]
    refine for_range (lo := 0) (n := ps.length) (fun i σ H' => ∃ (o5 : Option V) (xl xw : List V) (lp wp : List Pp), σ = [some (.ref j), some (.int (m : Nat)), some (.int ((m : Int) - 1)), some (.int (o : Nat)), some (.ref p), o5, o6, o7, some (.ref l), some (.ref q), none, none, none, none, none, none, none] ∧ H' l = some (.lst xl) ∧ H' q = some (.lst xw) ∧
      ThAll (tO H') xl (lp.map ppD) ∧ ThAll (tO H') xw (wp.map ppD) ∧ (wp ++ lp).Perm ps ∧ wp.length = i ∧ KJ.But j H H' ∧ JarAt H' j (n + 13 + i)) ⟨o5, xs, [], ps, [], rfl, sq _ _ upd_same, upd_same, thAll_tk ta (Tk.same s7), .nil, List.Perm.refl _, rfl, b0.trans (KJ.But.same s7), jar_more (jar_same j0 s7) (by omega)⟩ ?_ ?_
    · rintro i σ H' hi ⟨o5, xl, xw, lp, wp, rfl, el, eq, tl, tw, pm, lw, b1, j1⟩
      have ll := pm.length_eq
      rw [List.length_append] at ll
      have lxl : xl.length = lp.length := by rw [all2 tl, List.length_map]
      refine ⟨_, rfl, .inl ⟨rfl, _, SqL.of eq⟩, ⟨_, rfl, .inl ⟨rfl, _, SqL.of el⟩, ?_⟩⟩
      refine ⟨_, rfl, _, rfl, l, xl, rfl, .inl (SqL.of el), j, _, _, rfl, by omega, by omega, j1, by omega, fun r H2 r0 r1 b2 j2 => ?_⟩
      obtain ⟨r, rfl⟩ := Int.eq_ofNat_of_zero_le r0
      have hr : r < lp.length := by omega
      have hrx : r < xl.length := by omega
      have el2 := b2 _ _ nl el
      have eq2 := b2 _ _ nq eq
      refine ⟨l, xl, r, r, xl[r], rfl, rfl, el2, by omega, by omega, (ixN_seq (ixN_nat (by omega))).1, List.getElem?_eq_getElem hrx, ?_⟩
      have eq3 : upd H2 l (.lst (xl.eraseIdx r)) q = some (.lst xw) := by rw [upd_ne nql]; exact eq2
      refine ⟨q, xw, xl[r], rfl, rfl, eq3, Nat.lt_of_lt_of_le (show xw.length < 1000 by rw [all2 tw, List.length_map]; omega) (by decide), ?_⟩
      have tk2 := Tk.jar j1 b2
      have tk3 := Tk.put (ys := xl.eraseIdx r) el2
      have tk4 := Tk.put (ys := xw ++ [xl[r]]) eq3
      have tk := tk2.trans (tk3.trans tk4)
      obtain ⟨d, hd, td⟩ := all_get tl (List.getElem?_eq_getElem hrx)
      rw [List.getElem?_map, List.getElem?_eq_getElem hr] at hd
      cases hd
      refine ⟨_, xl.eraseIdx r, xw ++ [xl[r]], lp.eraseIdx r, wp ++ [lp[r]], rfl, by rw [upd_ne (Ne.symm nql)]; exact upd_same, upd_same, ?_, ?_, ?_, by rw [List.length_append, List.length_singleton, lw], but_put (but_put (b1.trans b2) nHl) nHq, jar_put (jar_put (jar_more j2 (by omega)) nl) nq⟩
      · rw [← map_erase]
        exact thAll_tk (thAll_erase r tl) tk
      · rw [List.map_append]
        exact thAll_tk (ThAll.append tw (.cons td .nil)) tk
      · refine List.Perm.trans ?_ pm
        rw [List.append_assoc]
        exact (erase_perm lp r hr).append_left wp
    rintro σ H7 ⟨o5, xl, xw, lp, wp, rfl, el, eq, tl, tw, pm, lw, b1, j1⟩
    have elp : lp = [] := by
      have ll := pm.length_eq
      rw [List.length_append, lw] at ll
      exact List.length_eq_zero_iff.mp (by omega)
    subst elp
    rw [List.append_nil] at pm
    have gw : ∀ p ∈ wp, GoodP m 4 p := fun p hp => hg p (pm.mem_iff.mp hp)
    have dw : distB (wp.map ppD) = true := (dist_iff _).mpr (pm.nodup_iff.mpr nps)
    have lwp : wp.length ≤ 6 := by omega
    clear pm lw tl el hg hdist nps ta ep b0 j0 sl sq s7 hl hq nHl lx
    -- the net
    refine ⟨_, rfl, _, rfl, _, _, rfl, rfl, j, m - 1, _, (show [V.ref j, V.int ((m : Int) - 1)] = _ by rw [em]), by omega, by omega, j1, by omega, fun v10 n10 H8 g10 t10 f10 b8 j8 => ?_⟩
    have k8 := Tk.jar j1 b8
    have eq8 := b8 _ _ nq eq
    have t10 := th_hid t10 (show tpD (.tuple (natsD n10)) = true by simpa [tpD] using tp_nats n10)
    refine ⟨_, rfl, _, rfl, .inl ⟨q, xw, rfl, SqL.of eq8, fun z hz => ?_⟩⟩
    have sz := same_upd (o := .tup xw) hz
    have tz : Th (tO (upd H8 z (.tup xw))) (.ref z) (.tuple (wp.map ppD)) := .tup (tO_of upd_same) (thAll_tk tw (k8.trans (Tk.same sz)))
    refine ⟨_, rfl, _, rfl, _, _, rfl, rfl, j, m - 1, _, (show [V.ref j, V.int ((m : Int) - 1)] = _ by rw [em]), by omega, by omega, jar_same j8 sz, by omega, fun v9 n9 H9 g9 t9 _ b9 j9 => ?_⟩
    have k9 := Tk.jar (jar_same j8 sz) b9
    have t9 := th_hid t9 (show tpD (.tuple (natsD n9)) = true by simpa [tpD] using tp_nats n9)
    refine ⟨_, rfl, by show 5 ≤ sizeLine; decide, fun nn hnn => ?_⟩
    have sn := same_upd (o := .tup [V.int (m : Nat), .int 4, .ref z, v9, v10]) hnn
    have kn := Tk.same sn
    have tn : Th (tO (upd H9 nn (.tup [V.int (m : Nat), .int 4, .ref z, v9, v10]))) (.ref nn) (NetM.d ⟨m, 4, wp, n9, n10⟩) := .tup (tO_of upd_same) (.cons (.int _) (.cons (.int _) (.cons (tz.tk (k9.trans kn)) (.cons (t9.tk kn) (.cons (t10.tk (((Tk.same sz).trans k9).trans kn)) .nil)))))
    have gn : GoodN ⟨m, 4, wp, n9, n10⟩ := ⟨by show 1 ≤ m; omega, by show m ≤ 4; omega, by show 4 ≤ 4; omega, by show m + 4 ≤ 7; omega, by show wp.length ≤ 12; omega, gw, dw, g9.up (by show m - 1 ≤ m; omega), g10.up (by show m - 1 ≤ m; omega)⟩
    have bn := b1.trans (b8.trans ((KJ.But.same sz).trans (b9.trans (KJ.But.same sn))))
    have jn := jar_more (jar_same j9 sn) (show _ ≤ n + 25 by omega)
    have un : (⟨m, 4, wp, n9, n10⟩ : NetM).u = 4 := rfl
    have zA : NetZ (hid j (upd H9 nn (.tup [V.int (m : Nat), .int 4, .ref z, v9, v10]))) (.ref nn) := ⟨nn, _, _, _, _, v10, rfl, by rw [hid_ne (new_ne hnn (jar_ne j9))]; exact upd_same, f10.same (hid_but ((KJ.But.same sz).trans (b9.trans (KJ.But.same sn))))⟩
    generalize (⟨m, 4, wp, n9, n10⟩ : NetM) = nt at tn gn un
    generalize upd H9 nn (.tup [V.int (m : Nat), .int 4, .ref z, v9, v10]) = HA at tn bn jn zA ⊢
    clear k8 eq8 sz tz b8 j8 k9 b9 j9 sn kn t9 t10 b1 j1 tw eq gw dw hz hnn nHq
    -- one
    refine ⟨_, rfl, (lit_lst (litA_cons lit_pair (litA_cons lit_pair (litA_cons lit_pair (litA_cons lit_pair (litA_cons lit_pair (litA_cons (lit_tup (litA_cons lit_neg (litA_cons lit_int litA_nil)) (by simp)) litA_nil)))))) (by simp) : Lit j _ _ _) HA _ (jar_ne jn) fun u0 HB sB tB => ?_⟩
    refine one_fr (K := K) (E := L2.E0) (L := fam0) tB (by decide) (by decide) (jar_same jn sB) (by omega) fun x0 f0 HC hf0 tx0 bC jC => ?_
    refine ⟨by show 1 ≤ sizeLine; decide, fun p1 hp1 => ?_⟩
    have s1 := same_upd (o := .lst [x0]) hp1
    have np1 : p1 ≠ j := new_ne hp1 (jar_ne jC)
    have bC' := bn.trans ((KJ.But.same sB).trans bC)
    have nHp1 : H p1 = none := by
      cases e : H p1 with
      | none => rfl
      | some u => rw [bC' _ _ np1 e] at hp1; cases hp1
    have bAC := (KJ.But.same sB).trans bC
    have nAp1 : HA p1 = none := by
      cases e : HA p1 with
      | none => rfl
      | some u => rw [bAC _ _ np1 e] at hp1; cases hp1
    have kC := (Tk.same sB).trans (Tk.jar (jar_same jn sB) bC)
    refine ⟨_, rfl, .inl ⟨rfl, _, SqL.of upd_same⟩, ?_⟩
    refine ⟨_, rfl, (lit_lst (litA_cons lit_pair (litA_cons lit_pair (litA_cons lit_pair litA_nil))) (by simp) : Lit j _ _ _) _ _ (jar_ne (jar_same jC s1)) fun u1 HD sD tD => ?_⟩
    refine one_fr (K := K) (E := L2.E0) (L := fam1) tD (by decide) (by decide) (jar_same (jar_same jC s1) sD) (by omega) fun x1 f1 HE hf1 tx1 bE jE => ?_
    have e1 : HE p1 = some (.lst [x0]) := bE _ _ np1 (sD _ _ upd_same)
    refine ⟨p1, [x0], x1, rfl, rfl, e1, by show 1 < sizeLine; decide, ?_⟩
    have kE := (Tk.same s1).trans ((Tk.same sD).trans (Tk.jar (jar_same (jar_same jC s1) sD) bE))
    have kp := Tk.put (ys := [x0] ++ [x1]) e1
    have tx0 := tx0.tk (kE.trans kp)
    have tx1 := tx1.tk kp
    have tnE := tn.tk (kC.trans (kE.trans kp))
    have bF : KJ.But j H (upd HE p1 (.lst ([x0] ++ [x1]))) := but_put (bC'.trans ((KJ.But.same s1).trans ((KJ.But.same sD).trans bE))) nHp1
    have zF : NetZ (hid j (upd HE p1 (.lst ([x0] ++ [x1])))) (.ref nn) := zA.same (hid_but (but_put (bAC.trans ((KJ.But.same s1).trans ((KJ.But.same sD).trans bE))) nAp1))
    have jF : JarAt (upd HE p1 (.lst ([x0] ++ [x1]))) j (n + 27) := jar_put (jar_more jE (by omega)) np1
    have e1 : upd HE p1 (.lst ([x0] ++ [x1])) p1 = some (.lst [x0, x1]) := upd_same
    generalize upd HE p1 (.lst ([x0] ++ [x1])) = HF at tx0 tx1 tnE bF jF e1 zF ⊢
    clear kE kp kC bC' s1 sD bE jE bC jC sB tB tD hp1 nHp1 tn bn jn
    refine ⟨_, rfl, ?_⟩
    refine ⟨_, rfl, (lit_lst (litA_cons lit_pair (litA_cons lit_pair (litA_cons lit_pair litA_nil))) (by simp) : Lit j _ _ _) _ _ (jar_ne jF) fun u2 HG sG tG => ?_⟩
    refine one_fr (K := K) (E := L2.E0) (L := fam2) tG (by decide) (by decide) (jar_same jF sG) (by omega) fun x2 f2 HI hf2 tx2 bI jI => ?_
    refine ⟨_, rfl, (lit_lst (litA_cons lit_pair (litA_cons lit_pair (litA_cons lit_pair litA_nil))) (by simp) : Lit j _ _ _) _ _ (jar_ne jI) fun u3 HJ sJ tJ => ?_⟩
    refine one_fr (K := K) (E := L2.E0) (L := fam3) tJ (by decide) (by decide) (jar_same jI sJ) (by omega) fun x3 f3 HK hf3 tx3 bK jK => ?_
    have kI := (Tk.same sG).trans (Tk.jar (jar_same jF sG) bI)
    have kK := (Tk.same sJ).trans (Tk.jar (jar_same jI sJ) bK)
    have bFK := (KJ.But.same sG).trans (bI.trans ((KJ.But.same sJ).trans bK))
    refine ⟨by show 2 ≤ sizeLine; decide, fun l2 hl2 => ?_⟩
    have s2 := same_upd (o := .lst [x2, x3]) hl2
    refine ⟨p1, l2, [x0, x1], [x2, x3], rfl, rfl, s2 _ _ (bFK _ _ np1 e1), upd_same, by show 4 ≤ sizeLine; decide, fun p2 hp2 => ?_⟩
    have s3 := s2.trans (same_upd (o := .lst ([x0, x1] ++ [x2, x3])) hp2)
    have np2 : p2 ≠ j := new_ne hp2 (jar_ne (jar_same jK s2))
    have tx0 := tx0.tk ((kI.trans kK).trans (Tk.same s3))
    have tx1 := tx1.tk ((kI.trans kK).trans (Tk.same s3))
    have tx2 := tx2.tk (kK.trans (Tk.same s3))
    have tx3 := tx3.tk (Tk.same s3)
    have tnL := tnE.tk ((kI.trans kK).trans (Tk.same s3))
    have bL' := bF.trans (bFK.trans (KJ.But.same s3))
    have zL := zF.same (hid_but (bFK.trans (KJ.But.same s3)))
    have jL := jar_more (jar_same jK s3) (show _ ≤ n + 29 by omega)
    have e2 : upd (upd HK l2 (.lst [x2, x3])) p2 (.lst ([x0, x1] ++ [x2, x3])) p2 = some (.lst [x0, x1, x2, x3]) := upd_same
    generalize upd (upd HK l2 (.lst [x2, x3])) p2 (.lst ([x0, x1] ++ [x2, x3])) = HL at tx0 tx1 tx2 tx3 tnL bL' jL e2 zL ⊢
    clear kI kK bFK s2 s3 bK jK bI jI sG sJ tG tJ hl2 hp2 tnE bF jF e1
    -- by
    refine ⟨_, rfl, (lit_lst (litA_cons lit_pair (litA_cons lit_pair (litA_cons lit_pair (litA_cons (lit_tup (litA_cons lit_neg (litA_cons lit_int litA_nil)) (by simp)) (litA_cons lit_pair litA_nil))))) (by simp) : Lit j _ _ _) _ _ (jar_ne jL) fun u4 HM sM tM => ?_⟩
    refine one_fr (K := K) (E := L2.E0) (L := famB) tM (by decide) (by decide) (jar_same jL sM) (by omega) fun y g HN hg ty bN jN => ?_
    have kN := (Tk.same sM).trans (Tk.jar (jar_same jL sM) bN)
    have bN' := bL'.trans ((KJ.But.same sM).trans bN)
    have zN := zL.same (hid_but ((KJ.But.same sM).trans bN))
    have tx0 := tx0.tk kN
    have tx1 := tx1.tk kN
    have tx2 := tx2.tk kN
    have tx3 := tx3.tk kN
    have tnN := tnL.tk kN
    have e2 := bN _ _ np2 (sM _ _ e2)
    clear kN sM tM bN tnL bL' jL
    have T0 := told_of (fam_0 _ hf0)
    have T1 := told_of (fam_1 _ hf1)
    have T2 := told_of (fam_2 _ hf2)
    have T3 := told_of (fam_3 _ hf3)
    have TY := told_of (fam_y _ hg).1
    have TG := told_of (fam_a _ hf0 _ hg)
    have TB := told_of (fam_b _ hf1 _ hg)
    have TC := fam_c _ hf2 _ hf1 _ hg
    have TD' := fam_d _ hf3 _ hf0 _ hg
    -- gone, back
    refine ⟨_, rfl, p2, _, 0, x0, rfl, rfl, SqL.of e2, rfl, _, rfl, x0, y, f0, g, rfl, frv_of tx0, frv_of ty, told_sz T0, told_sz TY, fun v14 HO sO t14 => ?_⟩
    refine ⟨_, rfl, p2, _, 1, x1, rfl, rfl, SqL.of (sO _ _ e2), rfl, _, rfl, x1, y, f1, g, rfl, frv_of (tx1.tk (Tk.same sO)), frv_of (ty.tk (Tk.same sO)), told_sz T1, told_sz TY, (fam_y _ hg).2, fun v15 HP sP t15 => ⟨_, _, rfl, ?_⟩⟩
    have t14 := t14.tk (Tk.same sP)
    have sOP := sO.trans sP
    -- two
    refine ⟨_, rfl, _, rfl, _, rfl, p2, _, 2, x2, rfl, rfl, SqL.of (sOP _ _ e2), rfl, _, rfl, p2, _, 1, x1, rfl, rfl, SqL.of (sOP _ _ e2), rfl, _, rfl, x1, v15, f1, _, rfl, frv_of (tx1.tk (Tk.same sOP)), frv_of t15, told_sz T1, told_sz TB, fun w1 HQ sQ tw1 => ?_⟩
    have sOQ := sOP.trans sQ
    refine ⟨x2, w1, f2, _, rfl, frv_of (tx2.tk (Tk.same sOQ)), frv_of tw1, told_sz T2, told_sz (told_of TC.2), fun v2' HR sR t2' => ?_⟩
    have sOR := sOQ.trans sR
    refine ⟨_, rfl, p2, _, 3, x3, rfl, rfl, SqL.of (sOR _ _ e2), rfl, _, rfl, p2, _, 0, x0, rfl, rfl, SqL.of (sOR _ _ e2), rfl, _, rfl, x0, v14, f0, _, rfl, frv_of (tx0.tk (Tk.same sOR)), frv_of (t14.tk (Tk.same (sQ.trans sR))), told_sz T0, told_sz TG, fun w2 HS sS tw2 => ?_⟩
    have sOS := sOR.trans sS
    refine ⟨x3, w2, f3, _, rfl, frv_of (tx3.tk (Tk.same sOS)), frv_of tw2, told_sz T3, told_sz (told_of TD'.2), fun v3' HT sT t3' => ?_⟩
    have sOT := sOS.trans sT
    refine ⟨by show 4 ≤ sizeLine; decide, fun p3 hp3 => ?_⟩
    have su := same_upd (o := .lst [v14, v15, v2', v3']) hp3
    have sOU := sOT.trans su
    -- the end
    refine ⟨_, rfl, _, rfl, .inl ⟨p2, _, rfl, SqL.of (sOU _ _ e2), fun q1 hq1 => ?_⟩⟩
    have s1 := same_upd (o := .tup [x0, x1, x2, x3]) hq1
    refine ⟨_, rfl, .inl ⟨p3, _, rfl, SqL.of (s1 _ _ upd_same), fun q2 hq2 => ?_⟩⟩
    have s2 := same_upd (o := .tup [v14, v15, v2', v3']) hq2
    refine ⟨by show 3 ≤ sizeLine; decide, fun q3 hq3 => ?_⟩
    have s3 := same_upd (o := .tup [V.ref nn, V.ref q1, V.ref q2]) hq3
    have s12 := s1.trans (s2.trans s3)
    have sAll := sOU.trans s12
    have kA' := Tk.same sAll
    have eq1 := Tk.same (s2.trans s3) _ _ (tO_of (show upd (upd HT p3 (.lst [v14, v15, v2', v3'])) q1 (.tup [x0, x1, x2, x3]) q1 = some (.tup [x0, x1, x2, x3]) from upd_same))
    have eq2 := Tk.same s3 _ _ (tO_of (show upd (upd (upd HT p3 (.lst [v14, v15, v2', v3'])) q1 (.tup [x0, x1, x2, x3])) q2 (.tup [v14, v15, v2', v3']) q2 = some (.tup [v14, v15, v2', v3']) from upd_same))
    refine k _ nt [f0, f1, f2, f3] [mulF f0 g, overF f1 g, addF f2 (lesF f1 (overF f1 g)), addF f3 (lesF f0 (mulF f0 g))] _ gn un ⟨by rw [un]; rfl, fun a ha => ?_⟩ ⟨by rw [un]; rfl, fun a ha => ?_⟩ (.tup (tO_of upd_same) (.cons (tnN.tk kA') (.cons (.tup eq1 (.cons (tx0.tk kA') (.cons (tx1.tk kA') (.cons (tx2.tk kA') (.cons (tx3.tk kA') .nil)))))
      (.cons (.tup eq2 (.cons (t14.tk (Tk.same (sQ.trans (sR.trans (sS.trans (sT.trans (su.trans s12))))))) (.cons (t15.tk (Tk.same (sQ.trans (sR.trans (sS.trans (sT.trans (su.trans s12))))))) (.cons (t2'.tk (Tk.same (sS.trans (sT.trans (su.trans s12))))) (.cons (t3'.tk (Tk.same (su.trans s12))) .nil))))) .nil)))) ⟨q3, _, _, _, rfl, by rw [hid_ne (new_ne hq3 (jar_ne (jar_same jN (sOU.trans (s1.trans s2)))))]; exact upd_same, zN.same (hid_but (KJ.But.same sAll))⟩ (bN'.trans (KJ.But.same sAll)) (jar_more (jar_same jN sAll) (by omega))
    · simp only [List.mem_cons, List.not_mem_nil, or_false] at ha
      rcases ha with rfl | rfl | rfl | rfl
      · exact T0
      · exact T1
      · exact T2
      · exact T3
    · simp only [List.mem_cons, List.not_mem_nil, or_false] at ha
      rcases ha with rfl | rfl | rfl | rfl
      · exact TG
      · exact TB
      · exact told_of TC.1
      · exact told_of TD'.1
end
end KP

set_option Elab.async false
set_option linter.all false
set_option maxRecDepth 100000
set_option maxHeartbeats 4000000
/-! ### tuples of fractions: parts, joined -/
namespace KP
open PySem PySem.Spec PyProof.Rows L2 KX KT KJ KS FR
section
variable {K : PySem.W.Frag} {H : Hp}
theorem sl_any {v : V} {ds : List PyData} {lo hi : Option Int} {Q : VK} (t : Th (tO H) v (.tuple ds)) (q : ∀ v' H', Same H H' → Th (tO H') v' (.tuple (cutD ds lo hi)) → Q v' H') : rSlA K v lo hi H Q := by
  have t' := t
  cases t with
  | @tup' a xs _ e1 ta1 =>
    have e1 := tO_eq e1
    refine ⟨a, xs, rfl, SqT.of (tO_same H _ _ e1), fun z => ?_, fun _ p hp => ?_⟩
    · have e : cutD ds lo hi = ds := by
        unfold cutD
        rw [all2 ta1] at z
        rw [z.1, z.2]
        simp
      rw [e] at q
      exact q _ _ (Same.refl H) t'
    · have sp := same_upd (o := .tup (cutV xs lo hi)) hp
      exact q _ _ sp (.tup (tO_of upd_same) (thAll_tk (ta1.cut lo hi) (Tk.same sp)))
theorem cat_any {v u : V} {ds es : List PyData} {Q : VK} (t : Th (tO H) v (.tuple ds)) (t2 : Th (tO H) u (.tuple es)) (hl : ds.length + es.length ≤ 1000) (q : ∀ r H', Same H H' → Th (tO H') r (.tuple (ds ++ es)) → Q r H') : rCatA K v u H Q := by
  cases t with
  | @tup' a xs _ e1 ta1 =>
    have e1 := tO_eq e1
    have t2' := t2
    cases t2 with
    | @tup' b ys _ e2 ta2 =>
      have e2 := tO_eq e2
      refine ⟨a, b, xs, ys, rfl, rfl, SqT.of (tO_same H _ _ e1), SqT.of (tO_same H _ _ e2), Nat.le_trans (by rw [all2 ta1, all2 ta2]; exact hl) (by decide), fun z => ?_, fun _ z => ?_, fun _ _ p hp => ?_⟩
      · subst z
        cases ta1
        exact q _ _ (Same.refl H) t2'
      · subst z
        cases ta2
        rw [List.append_nil] at q
        exact q _ _ (Same.refl H) (.tup e1 ta1)
      · have sp := same_upd (o := .tup (xs ++ ys)) hp
        exact q _ _ sp (.tup (tO_of upd_same) (thAll_tk (ThAll.append ta1 ta2) (Tk.same sp)))
end
theorem cut_a {l : List Fr} {k : Nat} : cutD (l.map fD) none (some (k : Int)) = (l.take k).map fD := by
  unfold cutD
  rw [HT.sIx_nat, HT.sIx_none, List.drop_zero, Nat.sub_zero, List.length_map, ← List.map_take]
  congr 1
  rw [← List.take_take, List.take_length]
theorem cut_b {l : List Fr} {k : Nat} : cutD (l.map fD) (some (k : Int)) none = (l.drop k).map fD := by
  unfold cutD
  rw [HT.sIx_nat, HT.sIx_none, List.length_map, ← List.map_drop, ← List.map_take]
  congr 1
  by_cases c : k ≤ l.length
  · rw [Nat.min_eq_left c, List.take_of_length_le (by rw [List.length_drop]; omega)]
  · rw [Nat.min_eq_right (by omega), List.drop_of_length_le (Nat.le_refl _), List.drop_of_length_le (by omega), List.take_nil]
theorem cut_c {l : List Fr} {k : Nat} (h : k < l.length) : cutD (l.map fD) (some (k : Int)) (some ((k : Int) + 1)) = [fD l[k]] := by
  unfold cutD
  rw [show (k : Int) + 1 = ((k + 1 : Nat) : Int) from rfl, HT.sIx_nat, HT.sIx_nat, List.length_map, Nat.min_eq_left (by omega), Nat.min_eq_left (by omega), show k + 1 - k = 1 by omega, ← List.map_drop, ← List.map_take]
  rw [List.drop_eq_getElem_cons h]
  rfl
/-- one share exchanged -/
def mixF (a b : List Fr) (k : Nat) : List Fr := a.take k ++ b.getD k (0, 1) :: a.drop (k + 1)
theorem mix_ok {n : NetM} {a b : List Fr} {k : Nat} (ha : AsOk n a) (hb : AsOk n b) (hk : k < n.u) : AsOk n (mixF a b k) := by
  obtain ⟨la, ta⟩ := ha
  obtain ⟨lb, tb⟩ := hb
  refine ⟨by unfold mixF; rw [List.length_append, List.length_cons, List.length_take, List.length_drop]; omega, fun x hx => ?_⟩
  unfold mixF at hx
  rcases List.mem_append.mp hx with h | h
  · exact ta x (List.mem_of_mem_take h)
  · rcases List.mem_cons.mp h with rfl | h
    · rw [getD_in _ (by omega)]
      exact tb _ (List.getElem_mem _)
    · exact ta x (List.mem_of_mem_drop h)
def putF (a : List Fr) (f : Fr) (k : Nat) : List Fr := a.take k ++ f :: a.drop (k + 1)
theorem put_ok {n : NetM} {a : List Fr} {f : Fr} {k : Nat} (ha : AsOk n a) (hf : Told f) (hk : k < n.u) : AsOk n (putF a f k) := by
  obtain ⟨la, ta⟩ := ha
  refine ⟨by unfold putF; rw [List.length_append, List.length_cons, List.length_take, List.length_drop]; omega, fun x hx => ?_⟩
  unfold putF at hx
  rcases List.mem_append.mp hx with h | h
  · exact ta x (List.mem_of_mem_take h)
  · rcases List.mem_cons.mp h with rfl | h
    · exact hf
    · exact ta x (List.mem_of_mem_drop h)
/-- three in a tuple -/
theorem trio_parts {H : Hp} {v : V} {n : NetM} {as bs : List Fr} (h : Th (tO H) v (trioD n as bs)) : ∃ a x y z, v = .ref a ∧ tO H a = some (.tup [x, y, z]) ∧ Th (tO H) x (NetM.d n) ∧ Th (tO H) y (.tuple (as.map fD)) ∧ Th (tO H) z (.tuple (bs.map fD)) := by
  cases h with
  | tup' e h => cases h with
    | cons a1 h => cases h with
      | cons a2 h => cases h with
        | cons a3 h =>
          cases h
          exact ⟨_, _, _, _, rfl, tO_eq e, a1, a2, a3⟩
/-- what parting tells, shown -/
def PtOk (x : Option (Nat × Nat × Nat)) : Prop := ∀ y, x = some y → y.1 < 100 ∧ y.2.1 < 100 ∧ y.2.2 < 100
theorem pt_ok {n : NetM} {a b : List Tab} {k : Nat} (g : GoodN n) (hk : k ≤ 8) : ∀ {x : Option (Nat × Nat × Nat)}, PartR n a b k x → PtOk x
  | none, _ => fun _ h => by cases h
  | some x, ⟨p, r, q, h1, h2, h3, h4, _, _⟩ => fun y hy => by
    cases hy
    rw [h4]
    have m4 := g.m4
    have a := g.ss.lt _ (List.getElem_mem h2)
    have b := g.fs.lt _ (List.getElem_mem h3)
    refine ⟨by show p < 100; omega, ?_, ?_⟩
    · show n.ss.getD r 0 < 100
      rw [getD_in _ h2]
      omega
    · show n.fs.getD q 0 < 100
      rw [getD_in _ h3]
      omega
theorem tp_pt (x : Option (Nat × Nat × Nat)) : tpD (ptD x) = true := by cases x <;> simp [ptD, tpD, tpAll]
theorem sw_pt {x : Option (Nat × Nat × Nat)} (h : PtOk x) : Sw 6000 2 (ptD x) := by
  have big : ∀ {a : Nat}, a < 100 → ((a : Nat) : Int).natAbs < 2 ^ 1920 := fun {a} ha => by
    rw [Int.natAbs_natCast]
    exact Nat.lt_of_lt_of_le ha (Nat.le_trans (by decide : 100 ≤ 2 ^ 7) (Nat.pow_le_pow_right (by decide) (by decide)))
  cases x with
  | none => exact ⟨rfl, by simp only [ptD, PyData.shown]; decide, by simp [ptD, PyData.depth], by simp [ptD, PyData.hasDict]⟩
  | some x =>
    obtain ⟨h1, h2, h3⟩ := h x rfl
    have z := sw_tup (k := 3) (L := 1921) (n := 1) (ds := [.int (x.1 : Nat), .int (x.2.1 : Nat), .int (x.2.2 : Nat)]) (fun d hd => by
      simp only [List.mem_cons, List.not_mem_nil, or_false] at hd
      rcases hd with rfl | rfl | rfl
      · exact sw_int (big h1)
      · exact sw_int (big h2)
      · exact sw_int (big h3)) (by simp)
    exact ⟨z.ok, Nat.le_trans z.len (by decide), z.dep, z.nod⟩
end KP

set_option Elab.async false
set_option linter.all false
set_option maxRecDepth 100000
set_option maxHeartbeats 2000000
/-! ### t * k, k from 0 on; t.index(i) of a tuple of ints; data that are the same -/
namespace MZ
open PySem PySem.Spec PyProof.Rows L2
theorem tuple_none (l : Addr) (items : Array Value) (n : Nat) (dd : Option Addr) (sl : Array (Option Value)) (u : Tok) (hi : items.isEmpty = false) :
    Meets (Builtin.«tuple.__mul__» ⟨[.ref l, .int 0 u], []⟩) (fun _ R s => s.heap.get? l = some { cls := .type "tuple", dict := dd, data := .seq items n, slots := sl } ∧
      R (.ok (.ret (Value.ref s.heap.objs.size))) { s with heap := s.heap.push { cls := Value.type "tuple", data := Data.seq #[] }, toks := s.toks }) :=
  .of_wp fun prog w A R s h => by
    obtain ⟨hp, g, d, tk, os⟩ := s
    obtain ⟨hl, h⟩ := h
    have f1 := AutoSeq1.idx_int
    wp_walk using wpAny_loadPart' hl
    repeat (first
      | (refine wpAny_ite_true (by simp [hi]) ?_; wp_walk using wpAny_loadPart' hl)
      | (refine wpAny_ite_false (by simp [hi]) ?_; wp_walk using wpAny_loadPart' hl))
    first
      | exact ⟨_, rfl, h⟩
      | exact h
def rRepB (K : PySem.W.Frag) : R2 := fun x y H Q => ∃ l k xs, x = .ref l ∧ y = .int k ∧ SqT K H l xs ∧ xs ≠ [] ∧ 0 ≤ k ∧ k ≤ 1000 ∧ xs.length ≤ 1000 ∧ (k = 1 → Q (.ref l) H) ∧ (k ≠ 1 → ∀ p, H p = none → Q (.ref p) (upd H p (.tup (List.replicate k.toNat xs).flatten)))
theorem op_repB {X : Cx} : OpR X (binaryOp .Mult) (rRepB X.K) := by
  intro pins s σ H x y v u Q I rx ry h
  obtain ⟨l, k, xs, rfl, rfl, hT, hne, h1, h2, hz, q1, q2⟩ := h
  by_cases c : k = 0
  · subst c
    have q2 := q2 (by decide)
    cases rx
    obtain ⟨t, rfl⟩ := ry
    obtain ⟨its, r, ⟨⟨cls, dd, data, sl⟩, ho, hc, n, hd⟩, hs⟩ := I.tuple hT
    simp only at hc hd
    subst hc hd
    have hle : its.length = xs.length := r.length.symm
    have hn : its ≠ [] := fun e => hne (by
      rw [e] at hle
      exact List.eq_nil_of_length_eq_zero hle.symm)
    have hi : its.toArray.isEmpty = false := by
      cases its with
      | nil => exact absurd rfl hn
      | cons a b => rfl
    refine wpAny_binaryOp_repeat_ref (T := "tuple") (U := "int") (by decide) ⟨_, ho, rfl⟩ (fun s' => typeIs_int s' 0 t) noFill_tuple_mul F.fills_int_mul F.slot_int_rmul repeat_tuple F.slot_int_index.lookup
      (call_meets F.slot_int_rmul (typeIs_int s 0 t) F.entry_int_rmul (F.args_int_rmul_2 _ _) (int_rmul_tuple 0 t l its.toArray n dd sl)
        ⟨ho, rfl, ⟨_, ho, rfl⟩, call_meets F.slot_tuple_mul ⟨_, ho, rfl⟩ F.entry_tuple_mul (F.args_tuple_mul_2 _ _) (tuple_none l its.toArray n dd sl t hi) ⟨ho, ?_⟩⟩)
    have e0 : (List.replicate (0 : Int).toNat xs).flatten = [] := rfl
    rw [e0] at q2
    refine ⟨.ref s.heap.objs.size, _, I.laid (t' := s.toks) (o := .tup []) (fun b ob q => Heap.get?_push_of_some _ q) (Nat.le_refl _) ?_, rfl, q2 _ (I.hok.fresh (Nat.le_refl _))⟩
    exact ⟨by decide, [], .nil, IsTup.new _ _⟩
  · exact op_repA pins s σ H _ _ v u Q I rx ry ⟨l, k, xs, rfl, rfl, hT, hne, by omega, h2, hz, q1, q2⟩
def rIxOf (K : PySem.W.Frag) : V → List V → Hp → VK → Prop := fun x xs H Q => ∃ p, ∃ ys : List Int, ∃ z, x = .ref p ∧ xs = [.int z] ∧ SqT K H p (ys.map V.int) ∧ z ∈ ys ∧ Q (.int (ys.idxOf z : Nat)) H
theorem mt_tup_indexI {X : Cx} : MtR X "tuple.index" (rIxOf X.K) := by
  intro pins s σ H x xs v us Q I rx rs h
  obtain ⟨p, ys, z, rfl, rfl, hq, hy, q⟩ := h
  cases rx
  obtain ⟨u, rfl, t, rfl⟩ := vals1 rs
  obtain ⟨its, r, pl, hz⟩ := I.tuple hq
  exact PySem.SeqAt.tuple_index_ints pl (intsAre_of r) hy ⟨.int _, H, I.tok _, ⟨_, rfl⟩, q⟩
end MZ
namespace KP
open PySem PySem.Spec PyProof.Rows L2 KX KT KJ KS FR
/-- data that can be compared -/
structure Cmp (d : PyData) : Prop where
  lay : d.canLay0 = true
  dep : d.depth ≤ 64
theorem Cmp.shaped {d : PyData} (h : Cmp d) : SeqAt.shaped d = true := shaped_of h.lay h.dep
theorem layAll_of : ∀ {ds : List PyData}, (∀ d ∈ ds, d.canLay0 = true) → PyData.canLayAll0 ds = true
  | [], _ => rfl
  | d :: ds, h => by
    simp only [PyData.canLayAll0, Bool.and_eq_true]
    exact ⟨h d List.mem_cons_self, layAll_of fun e he => h e (List.mem_cons_of_mem _ he)⟩
structure Lay (n : Nat) (d : PyData) : Prop where
  lay : d.canLay0 = true
  dep : d.depth ≤ n
theorem lay_tup {n : Nat} {ds : List PyData} (h : ∀ d ∈ ds, Lay n d) : Lay (n + 1) (.tuple ds) := by
  refine ⟨by simp only [PyData.canLay0]; exact layAll_of fun d hd => (h d hd).lay, ?_⟩
  simp only [PyData.depth]
  have := depthAll_of (ds := ds) fun d hd => (h d hd).dep
  omega
theorem lay_fr (x : Fr) : Lay 2 (fD x) := ⟨(flat_fD x).1, (flat_fD x).2.1⟩
theorem lay_row (r : List Fr) : Lay 3 (.tuple (r.map fD)) := lay_tup fun d hd => by
  obtain ⟨x, _, rfl⟩ := List.mem_map.mp hd
  exact lay_fr x
theorem lay_tab (t : Tab) : Lay 4 (flD t) := lay_tup fun d hd => by
  obtain ⟨r, _, rfl⟩ := List.mem_map.mp hd
  exact lay_row r
theorem lay_cub (c : List Tab) : Lay 5 (cD c) := lay_tup fun d hd => by
  obtain ⟨t, _, rfl⟩ := List.mem_map.mp hd
  exact lay_tab t
theorem Lay.shaped {n : Nat} {d : PyData} (h : Lay n d) (hn : n ≤ 64) : SeqAt.shaped d = true := shaped_of h.lay (Nat.le_trans h.dep hn)
theorem Lay.refl {n : Nat} {d : PyData} (h : Lay n d) : PyData.eqv d d = true := PySem.SeqAt.eqv_refl d h.lay
end KP

set_option Elab.async false
set_option linter.all false
set_option maxRecDepth 100000
set_option maxHeartbeats 4000000
/-! ### are_alike; the pairs that are drawn -/
namespace KP
open PySem PySem.Spec PyProof.Rows L2 KX KT KJ KS FR
abbrev sAlike : Stmt := top 45
abbrev lPair : Stmt := top 69
def spAlike (K : PySem.W.Frag) (Ps : List Addr) : Sp := fun vs H Q _ => ∃ (x y z : V) (n : NetM) (as bs : List Fr), vs = [x, y, z] ∧ GoodN n ∧ Th (tO H) x (NetM.d n) ∧ AsOk n as ∧ Th (tO H) y (.tuple (as.map fD)) ∧ AsOk n bs ∧ Th (tO H) z (.tuple (bs.map fD)) ∧ Tbs Ps H ∧
  ∀ d H', Grown Ps H H' → PartR n (looksF n as (2 * n.m)) (looksF n bs (2 * n.m)) (2 * n.m) d → Q (.bl d.isNone) H'
def spPair : Sp := fun vs H Q _ => ∃ j n, vs = [.ref j] ∧ JarAt H j n ∧ n ≤ 700000 ∧ ∀ v nt as bs H', GoodN nt → AsOk nt as → AsOk nt bs → Th (tO H') v (trioD nt as bs) → TrioZ (hid j H') v → KJ.But j H H' → JarAt H' j (n + 140) → Q v H'
abbrev nPair : List Str := ["jar", "net", "one", "two", "at"]
theorem scAlike : FnScope ["net", "one", "other"] ["net", "one", "other"] (defScope sAlike) := ⟨rfl, rfl, rfl, by decide +kernel, rfl, by decide +kernel, by decide +kernel⟩
theorem scPair : FnScope nPair ["jar"] (defScope lPair) := ⟨rfl, rfl, rfl, by decide +kernel, rfl, by decide +kernel, by decide +kernel⟩
theorem mix_map {a b : List Fr} {k : Nat} (h : k < b.length) : ((a.take k).map fD ++ [fD b[k]]) ++ (a.drop (k + 1)).map fD = (mixF a b k).map fD := by
  unfold mixF
  rw [getD_in _ h, List.map_append, List.map_cons, List.append_assoc]
  rfl
theorem pt_none {H : Hp} {v : V} {d : Option (Nat × Nat × Nat)} (h : Th H v (ptD d)) : decide (v = .non) = d.isNone := by
  cases d with
  | none => cases h; rfl
  | some x => cases h; rfl
section
variable {P : Program} {w : World} {K : PySem.W.Frag} {mg : Str → Option Value} {base : Heap}
theorem ok_alike {f fP : Addr} {fd fdP : FuncData} {Ps : List Addr} (F : Fun K "are_alike" "are_alike" sAlike f fd)
    (FP : FnOk P w K mg base CX0 12 fP fdP ["net", "one", "other"] (spPartP K Ps)) (mP : mg "parting" = some (.ref fP)) (kP : PySem.W.keepIn K (.ref fP) = true) (bP : Binds K fdP ["net", "one", "other"] []) :
    FnOk P w K mg base CX0 13 f fd ["net", "one", "other"] (spAlike K Ps) := by
  refine F.ok scAlike (fun vs H Q E h => ?_) (fun cdv A outer s H vs Q E hr h => ?_)
  · obtain ⟨x, y, z, n, as, bs, rfl, _⟩ := h
    rfl
  · obtain ⟨x, y, z, n, as, bs, rfl, g, th, ok, ty, ok2, tz, tb, k⟩ := h
    refine ⟨_, pss_one (ps_ret (pe_cmpR op_isN1 (pe_call FP hr rfl mP kP bP .nil pass0 (pa_cons (pv 0) (pa_cons (pv 1) (pa_cons (pv 2) pa_nil)))) pe_non (nomark _))), ?_⟩
    refine ⟨_, rfl, _, rfl, _, rfl, x, y, z, n, as, bs, rfl, g, th, ok, ty, ok2, tz, tb, fun v d H1 g1 p1 t1 => ⟨rfl, ?_⟩⟩
    rw [pt_none t1]
    exact k d H1 g1 p1
theorem ok_pair {f fD1 fF fM fA : Addr} {fd fdD fdF fdM fdA : FuncData} (F : Fun K "_law_pair" "_law_pair" lPair f fd) (T : TxD mg)
    (FD : FnOk P w K mg base CX0 1 fD1 fdD ["jar", "top"] spDip) (mD : mg "_law_dip" = some (.ref fD1)) (kD : PySem.W.keepIn K (.ref fD1) = true) (bD : Binds K fdD ["jar", "top"] [])
    (FF : FnOk P w K mg base CX0 4 fF fdF ["jar"] spFam) (mF : mg "_law_family" = some (.ref fF)) (kF : PySem.W.keepIn K (.ref fF) = true) (bF : Binds K fdF ["jar"] [])
    (FM : FnOk P w K mg base CX0 4 fM fdM ["jar", "most"] spMake2) (mM : mg "_law_net" = some (.ref fM)) (kM : PySem.W.keepIn K (.ref fM) = true) (bM : Binds K fdM ["jar", "most"] [])
    (FA : FnOk P w K mg base CX0 4 fA fdA ["jar", "net"] spAsn) (mA : mg "_law_assignment" = some (.ref fA)) (kA : PySem.W.keepIn K (.ref fA) = true) (bA : Binds K fdA ["jar", "net"] []) :
    FnOk P w K mg base CX0 5 f fd ["jar"] spPair := by
  refine F.ok scPair (fun vs H Q E h => ?_) (fun cdv A outer s H vs Q E hr h => ?_)
  · obtain ⟨j, n, rfl, _⟩ := h
    rfl
  · obtain ⟨j, n, rfl, hj, hn, k⟩ := h
    have hr1 : Room 1 _ := hr.mono (by decide)
    refine ⟨_, pss_cons (ps_if (pt_cmpR op_eq (pe_call FD hr1 rfl mD kD bD .nil pass0 (pa_cons (pv 0) (pa_cons pe_int pa_nil))) pe_int (nomark _)) (pss_one (ps_ret (pe_call FF hr rfl mF kF bF .nil pass0 (pa_cons (pv 0) pa_nil)))) pss_nil)
      (pss_cons (ps_set (i := 1) scPair.nd rfl (Or.inl rfl) (pe_call FM hr rfl mM kM bM .nil pass0 (pa_cons (pv 0) (pa_cons pe_int pa_nil))))
      (pss_cons (ps_par (i := 2) (j := 3) (by rfl) scPair.nd rfl rfl (by decide) rfl rfl (pa_cons (pe_call FA hr rfl mA kA bA .nil pass0 (pa_cons (pv 0) (pa_cons (pv 1) pa_nil))) (pa_cons (pe_call FA hr rfl mA kA bA .nil pass0 (pa_cons (pv 0) (pa_cons (pv 1) pa_nil))) pa_nil)) (by rfl))
      (Evl.pss_cut (ps_if (PW.pt (pw_and (pt_cmpR op_gt (pe_call FD hr1 rfl mD kD bD .nil pass0 (pa_cons (pv 0) (pa_cons pe_int pa_nil))) pe_int (nomark _)) (pw_and1 (pt_cmpR op_gt (pe_ix ix_tup (pv 1) pe_int (fun _ _ => rfl)) pe_int (nomark _)))))
          (pss_cons (ps_set (i := 4) scPair.nd rfl (Or.inl rfl) (pe_call FD hr1 rfl mD kD bD .nil pass0 (pa_cons (pv 0) (pa_cons (pe_ix ix_tup (pv 1) pe_int (fun _ _ => rfl)) pa_nil))))
          (pss_one (ps_set (i := 3) scPair.nd rfl (Or.inl rfl) (pe_op op_catA (pe_op op_catA (pe_slice sl_tupA (pv 2) po_none (po_some (pv 4))) (pe_slice sl_tupA (pv 3) (po_some (pv 4)) (po_some (pe_op op_add (pv 4) pe_int)))) (pe_slice sl_tupA (pv 2) (po_some (pe_op op_add (pv 4) pe_int)) po_none))))) pss_nil)
      (pss_one (ps_ret (pe_tup (pa_cons (pv 1) (pa_cons (pv 2) (pa_cons (pv 3) pa_nil))))))))), ?_⟩
    refine ⟨_, rfl, j, 3, _, rfl, by decide, by decide, hj, by omega, fun r0 H1 r00 r01 b1 j1 => ⟨rfl, _, rfl, iteB (fun c => ?_) (fun c => ?_)⟩⟩
    · exact ⟨_, rfl, j, _, rfl, j1, by omega, fun v nt as bs H2 g u4 oa ob tv zt b2 j2 => k v nt as bs H2 g oa ob tv zt (b1.trans b2) (jar_more j2 (by omega))⟩
    · refine ⟨_, rfl, j, _, rfl, j1, by omega, fun v2 nt H2 g t2 z2 b2 j2 => ?_⟩
      have t2 := th_hid t2 (tp_net nt)
      refine ⟨_, rfl, _, rfl, j, _, v2, nt, rfl, j2, by omega, g, t2, fun v3 as H3 oa t3 b3 j3 => ?_⟩
      have k3 := Tk.jar j2 b3
      refine ⟨_, rfl, _, rfl, j, _, v2, nt, rfl, j3, by omega, g, t2.tk k3, fun v4 bs H4 ob t4 b4 j4 => ⟨_, _, rfl, ?_⟩⟩
      have k4 := Tk.jar j3 b4
      have t24 := t2.tk (k3.trans k4)
      have t34 := t3.tk k4
      refine ⟨fun σ' H' => ∃ (o5 : Option V) (v4' : V) (bs' : List Fr), σ' = [some (.ref j), some v2, some v3, some v4', o5] ∧ AsOk nt bs' ∧ Th (tO H') v4' (.tuple (bs'.map fD)) ∧ KJ.But j H4 H' ∧ JarAt H' j (n + 130), ?_, ?_⟩
      · obtain ⟨a, ps, fs, ss, rfl, ea, _, _, _⟩ := net_parts t24
        have done : ∀ H' c, KJ.But j H4 H' → JarAt H' j c → c ≤ n + 130 → ∃ (o5 : Option V) (v4' : V) (bs' : List Fr), [some (V.ref j), some (V.ref a), some v3, some v4, none] = [some (V.ref j), some (V.ref a), some v3, some v4', o5] ∧ AsOk nt bs' ∧ Th (tO H') v4' (.tuple (bs'.map fD)) ∧ KJ.But j H4 H' ∧ JarAt H' j (n + 130) := fun H' c b jr hc =>
          ⟨none, v4, bs, rfl, ob, t4.tk (Tk.jar j4 b), b, jar_more jr hc⟩
        refine ⟨_, rfl, j, 3, _, rfl, by decide, by decide, j4, by omega, fun r H5 r0 r1 b5 j5 => ⟨_, _, rfl, rfl, _, rfl, iteB (fun c => ?_) (fun c => ?_)⟩⟩
        · have k5 := Tk.jar j4 b5
          refine ⟨_, rfl, a, _, _, _, rfl, rfl, SqT.of (tO_same _ _ _ (k5 _ _ ea)), rfl, _, _, rfl, rfl, _, rfl, iteB (fun c => ?_) (fun c => ?_)⟩
          · have c := of_decide_eq_true c
            have u4 := g.u4
            refine ⟨_, rfl, _, rfl, a, _, _, _, rfl, rfl, SqT.of (tO_same _ _ _ (k5 _ _ ea)), rfl, j, (nt.u : Nat), _, rfl, by omega, by omega, j5, by omega, fun at' H6 q0 q1 b6 j6 => ?_⟩
            obtain ⟨i, rfl⟩ := Int.eq_ofNat_of_zero_le q0
            have hi : i < nt.u := by omega
            have k56 := k5.trans (Tk.jar j5 b6)
            have la := oa.1
            have lb := ob.1
            refine ⟨_, rfl, _, rfl, _, rfl, ?_⟩
            refine sl_any (t34.tk k56) fun v1 H7 s7 t7 => ?_
            rw [cut_a] at t7
            refine ⟨_, rfl, _, rfl, _, rfl, _, rfl, _, _, rfl, rfl, _, rfl, ?_⟩
            refine sl_any (t4.tk (k56.trans (Tk.same s7))) fun v8 H8 s8 t8 => ?_
            rw [cut_c (show i < bs.length by omega)] at t8
            refine cat_any (t7.tk (Tk.same s8)) t8 (by rw [List.length_map, List.length_take]; simp; omega) fun r9 H9 s9 t9 => ?_
            refine ⟨_, rfl, _, rfl, _, _, rfl, rfl, _, rfl, ?_⟩
            refine p_none ?_
            refine sl_any (t34.tk (k56.trans (Tk.same (s7.trans (s8.trans s9))))) fun vA HA sA tA => ?_
            rw [show ((i : Nat) : Int) + 1 = ((i + 1 : Nat) : Int) from rfl, cut_b] at tA
            refine cat_any (t9.tk (Tk.same sA)) tA (by rw [List.length_append, List.length_map, List.length_map, List.length_take, List.length_drop]; simp; omega) fun rB HB sB tB => ?_
            rw [mix_map (show i < bs.length by omega)] at tB
            have sAll := s7.trans (s8.trans (s9.trans (sA.trans sB)))
            exact ⟨_, rB, mixF as bs i, rfl, mix_ok oa ob hi, tB, b5.trans (b6.trans (KJ.But.same sAll)), jar_more (jar_same j6 sAll) (by omega)⟩
          · exact done H5 _ b5 j5 (by omega)
        · exact done H5 _ b5 j5 (by omega)
      · rintro σ' H' ⟨o5, v4', bs', rfl, ob', t4', b4', j4'⟩
        have k4' := Tk.jar j4 b4'
        refine ⟨_, rfl, _, rfl, _, rfl, by show 3 ≤ sizeLine; decide, fun q hq => ?_⟩
        have sq := same_upd (o := .tup [v2, v3, v4']) hq
        have kq := k4'.trans (Tk.same sq)
        exact k _ nt as bs' _ g oa ob' (.tup (tO_of upd_same) (.cons (t24.tk kq) (.cons (t34.tk kq) (.cons (t4'.tk (Tk.same sq)) .nil)))) ⟨q, _, _, _, rfl, by rw [hid_ne (new_ne hq (jar_ne j4'))]; exact upd_same, z2.same (hid_but (b3.trans (b4.trans (b4'.trans (KJ.But.same sq)))))⟩ (b1.trans (b2.trans (b3.trans (b4.trans (b4'.trans (KJ.But.same sq)))))) (jar_more (jar_same j4' sq) (by omega))
end
end KP

set_option Elab.async false
set_option linter.all false
set_option maxRecDepth 100000
set_option maxHeartbeats 4000000
/-! ### a look that parts is shown -/
namespace KP
open PySem PySem.Spec PyProof.Rows L2 KX KT KJ KS FR
abbrev lShows : Stmt := top 70
theorem _root_.KX.FzV.sm {H H' : Hp} {v : V} (h : FzV H v) (s : Sm H H') : FzV H' v := by
  obtain ⟨a, xs, o, e, d, q⟩ := h
  exact ⟨a, xs, o, e, d, s _ _ q fun _ z => by cases z⟩
def spShows (K : PySem.W.Frag) (Ps : List Addr) : Sp := fun vs H Q _ => ∃ (x y z u : V) (n : NetM) (as bs : List Fr) (o : Nat × Nat × Nat), vs = [x, y, z, u] ∧ GoodN n ∧ Th (tO H) x (NetM.d n) ∧ NetZ H x ∧ AsOk n as ∧ Th (tO H) y (.tuple (as.map fD)) ∧ AsOk n bs ∧ Th (tO H) z (.tuple (bs.map fD)) ∧ Tbs Ps H ∧
  PartR n (looksF n as (2 * n.m)) (looksF n bs (2 * n.m)) (2 * n.m) (some o) ∧ Th (tO H) u (ptD (some o)) ∧ ∀ H', Grown Ps H H' → Q (.bl true) H'
abbrev nSh : List Str := ["net", "one", "two", "look", "power", "seen", "filled", "at", "first", "fillings", "told"]
theorem scSh : FnScope nSh ["net", "one", "two", "look"] (defScope lShows) := ⟨rfl, rfl, rfl, by decide +kernel, rfl, by decide +kernel, by decide +kernel⟩
theorem rep_one {K : PySem.W.Frag} {H : Hp} {p : Addr} {x : V} {m : Nat} {Q : VK} (e : H p = some (.tup [x])) (hm : m ≤ 30) (k : ∀ q H', Same H H' → tO H' q = some (.tup (List.replicate m x)) → Q (.ref q) H') : MZ.rRepB K (.ref p) (.int (m : Nat)) H Q := by
  refine ⟨p, (m : Int), [x], rfl, rfl, SqT.of e, by simp, by omega, by omega, by simp, fun z => ?_, fun z q hq => ?_⟩
  · have : m = 1 := by omega
    subst this
    exact k p H (Same.refl H) (tO_of e)
  · have e3 : (List.replicate ((m : Int)).toNat [x]).flatten = List.replicate m x := by
      rw [Int.toNat_natCast]
      exact List.flatten_replicate_singleton
    rw [e3]
    exact k q _ (same_upd hq) (tO_of upd_same)
theorem thAll_rep {H : Hp} {v : V} {d : PyData} (h : Th H v d) : ∀ m, ThAll H (List.replicate m v) (List.replicate m d)
  | 0 => .nil
  | m + 1 => .cons h (thAll_rep h m)
theorem nats_are {H : Hp} : ∀ {vs : List V} {ns : List Nat}, ThAll H vs (natsD ns) → vs = (ns.map fun i => ((i : Nat) : Int)).map V.int
  | [], [], _ => rfl
  | v :: vs, i :: ns, .cons a b => by
    cases a
    rw [nats_are (ns := ns) b]
    rfl
  | [], _ :: _, h => by cases h
  | _ :: _, [], h => by cases h
theorem idx_of : ∀ (l : List Int) (r : Nat) (h : r < l.length), l.Nodup → l.idxOf l[r] = r
  | a :: l, 0, _, _ => by simp
  | a :: l, r + 1, h, nd => by
    have h' : r < l.length := by simpa using h
    have nd' := List.nodup_cons.mp nd
    have ne : a ≠ l[r] := fun e => nd'.1 (e ▸ List.getElem_mem h')
    show (a :: l).idxOf l[r] = r + 1
    rw [List.idxOf_cons, beq_eq_false_iff_ne.mpr ne, idx_of l r h' nd'.2]
    rfl
theorem asc_nodup {ns : List Nat} (h : ns.Pairwise (· < ·)) : (ns.map fun i => ((i : Nat) : Int)).Nodup := by
  unfold List.Nodup
  rw [List.pairwise_map]
  exact h.imp fun {a b} z e => by omega
theorem show_ok {n : NetM} {q p : Nat} (hp : p + 1 ≤ 8) : FlOk n (showF n q p) := by
  refine ⟨by rw [showF_len]; exact hp, fun r hr => ⟨(lo_show r hr).1, fun x hx => ?_⟩⟩
  have t1 : Told ((1, 1) : Fr) := told_of (by decide +kernel)
  have t0 : Told ((0, 1) : Fr) := told_of (by decide +kernel)
  rcases List.mem_cons.mp hr with rfl | hr
  · obtain ⟨i, _, rfl⟩ := List.mem_map.mp hx
    split
    · exact t1
    · exact t0
  · rw [(List.mem_replicate.mp hr).2] at hx
    rw [(List.mem_replicate.mp hx).2]
    exact t0
theorem flD_show (n : NetM) (q p : Nat) : flD (showF n q p) = .tuple (.tuple ((showR n q).map fD) :: List.replicate p (.tuple (List.replicate n.fs.length (fD (0, 1))))) := by
  unfold flD showF
  rw [List.map_cons, List.map_replicate, List.map_replicate]
theorem nodup_at {l : List Nat} (h : l.Pairwise (· < ·)) {i q : Nat} (hi : i < l.length) (hq : q < l.length) : l[i] = l[q] ↔ i = q := by
  constructor
  · intro e
    rcases Nat.lt_trichotomy i q with c | c | c
    · have := List.pairwise_iff_getElem.mp h i q hi hq c
      omega
    · exact c
    · have := List.pairwise_iff_getElem.mp h q i hq hi c
      omega
  · rintro rfl
    rfl
/-- what is seen, by looks -/
theorem seen_at {n : NetM} {as : List Fr} (g : GoodN n) (ok : AsOk n as) {q p : Nat} (hq : q < n.fs.length) (hp : p + 1 ≤ 8) {k r : Nat} (hk : k ≤ p) (hr : r < n.ss.length) : (seenF n.ss (heldI n as (showF n q p) (k + 1)))[r]? = some (cg (looksF n as (k + 1)) k r q) := by
  unfold seenF
  rw [List.getElem?_map, List.getElem?_eq_getElem hr]
  show some _ = some _
  rw [cg_look (by omega) hr hq]
  exact congrArg some (show_look (tab_lo g ok) g.fs.lt hq (fun k hk => (held_ok g ok (show_ok hp) hk).2) hk (g.ss.lt _ (List.getElem_mem hr)))
theorem cg_any {n : NetM} {as : List Fr} {k k' p r q : Nat} (h : p < k) (h' : p < k') (hr : r < n.ss.length) (hq : q < n.fs.length) : cg (looksF n as k) p r q = cg (looksF n as k') p r q := by
  rw [cg_look h hr hq, cg_look h' hr hq]
theorem seen_len (n : NetM) (h : List Fr) : (seenF n.ss h).length = n.ss.length := by unfold seenF; rw [List.length_map]
theorem shows_take {n : NetM} {as bs : List Fr} (g : GoodN n) (oa : AsOk n as) (ob : AsOk n bs) {q p : Nat} (hq : q < n.fs.length) (hp : p < 2 * n.m) (ah : ∀ p' r', r' < n.ss.length → p' < p → cg (looksF n as (2 * n.m)) p' r' q = cg (looksF n bs (2 * n.m)) p' r' q) : (seenAll n as (showF n q p)).take (p + 1) = (seenAll n bs (showF n q p)).take (p + 1) := by
  have m4 := g.m4
  have hp8 : p + 1 ≤ 8 := by omega
  unfold seenAll
  rw [← List.map_take, ← List.map_take, List.take_range, showF_len, Nat.min_eq_left (by omega)]
  refine List.map_congr_left fun k hk => ?_
  have hk := List.mem_range.mp hk
  cases k with
  | zero => rfl
  | succ k =>
    refine List.ext_getElem? fun r => ?_
    by_cases hr : r < n.ss.length
    · rw [seen_at g oa hq hp8 (by omega) hr, seen_at g ob hq hp8 (by omega) hr, cg_any (k' := 2 * n.m) (by omega) (by omega) hr hq, cg_any (as := bs) (k' := 2 * n.m) (by omega) (by omega) hr hq, ah k r hr (by omega)]
    · rw [List.getElem?_eq_none (by rw [seen_len]; omega), List.getElem?_eq_none (by rw [seen_len]; omega)]
section
variable {P : Program} {w : World} {K : PySem.W.Frag} {mg : Str → Option Value} {base : Heap}
/-- an entry of what is seen -/
theorem seen_fr {H : Hp} {v : V} {n : NetM} {as : List Fr} (g : GoodN n) (ok : AsOk n as) {q p r : Nat} (h : TabT K H v (seenAll n as (showF n q p))) (hq : q < n.fs.length) (hp : p < 2 * n.m) (hr : r < n.ss.length) : ∃ a us c ws u, v = .ref a ∧ tO H a = some (.tup us) ∧ us[p + 1]? = some (.ref c) ∧ tO H c = some (.tup ws) ∧ ws[r]? = some u ∧ FrV K H u (cg (looksF n as (2 * n.m)) p r q) := by
  have m4 := g.m4
  obtain ⟨a, us, rfl, e, rw'⟩ := h
  have l : us.length = p + 2 := by rw [rw'.len]; unfold seenAll; rw [List.length_map, List.length_range, showF_len]
  have hu : p + 1 < us.length := by omega
  have er : (seenAll n as (showF n q p))[p + 1]? = some (seenF n.ss (heldI n as (showF n q p) (p + 1))) := by unfold seenAll; rw [List.getElem?_map, List.getElem?_range (by rw [showF_len]; omega)]; rfl
  obtain ⟨c, ws, e1, e2, f⟩ := rw'.get _ _ _ (List.getElem?_eq_getElem hu) er
  have es := seen_at g ok hq (show p + 1 ≤ 8 by omega) (Nat.le_refl p) hr
  have hw : r < ws.length := by rw [f.len, seen_len]; exact hr
  have fr := f.get r _ _ (List.getElem?_eq_getElem hw) es
  rw [cg_any (k' := 2 * n.m) (by omega) (by omega) hr hq] at fr
  exact ⟨a, us, c, ws, ws[r], rfl, e, by rw [List.getElem?_eq_getElem hu, e1], e2, List.getElem?_eq_getElem hw, fr⟩
theorem ok_shows {f fR : Addr} {fd fdR : FuncData} {Ps : List Addr} (F : Fun K "_law_shows" "_law_shows" lShows f fd) (T : TxD mg)
    (FR : FnOk P w K mg base CX0 11 fR fdR ["net", "assignment", "fillings"] (spRuns K Ps)) (mR : mg "seen_in" = some (.ref fR)) (kR : PySem.W.keepIn K (.ref fR) = true) (bR : Binds K fdR ["net", "assignment", "fillings"] []) :
    FnOk P w K mg base CX0 12 f fd ["net", "one", "two", "look"] (spShows K Ps) := by
  refine F.ok scSh (fun vs H Q E h => ?_) (fun cdv A outer s H vs Q E hr h => ?_)
  · obtain ⟨x, y, z, u, n, as, bs, o, rfl, _⟩ := h
    rfl
  · obtain ⟨x, y, z, u, n, as, bs, o, rfl, g, th, nz, oa, ty, ob, tz, tb, pr, tu, k⟩ := h
    have hu : (A.deeper (envOfC "_law_shows" (defScope lShows) s.heap.objs.size f cdv)).units + 64 < cLine := by have := hr.un; omega
    refine ⟨_, pss_cons (ps_asg (pv 3) (pg_tup rfl (pgs_cons (pg_name (i := 4) scSh.nd rfl (Or.inl rfl)) (pgs_cons (pg_name (i := 5) scSh.nd rfl (Or.inl rfl)) (pgs_cons (pg_name (i := 6) scSh.nd rfl (Or.inr rfl)) pgs_nil)))))
      (pss_cons (ps_set (i := 8) scSh.nd rfl (Or.inl rfl) (pe_tupleOf (by rfl) T.tuple (pe_lc (own := [("at", 7)]) (g := gName 7) rfl scSh.nd (pi_tup (pe_ix ix_tup (pv 0) pe_int (fun _ _ => rfl))) (blkOk_by (N := nSh) (sc := defScope lShows) (by decide +kernel))
          (fun _ _ _ _ _ => pg_name (i := 7) scSh.nd rfl (Or.inl rfl)) (fun _ _ _ _ _ => pts_nil)
          (fun _ _ _ _ _ => pe_tup (pa_cons (pe_callTy call_int1 (by rfl) T.int (by decide +kernel) (pa_cons (pe_cmpR op_eq (pv 7) (pv 6) (nomark _)) pa_nil)) (pa_cons pe_int pa_nil))))))
      (pss_cons (ps_set (i := 9) scSh.nd rfl (Or.inl rfl) (pe_op op_catA (pe_tup (pa_cons (pv 8) pa_nil)) (pe_op (r := MZ.rRepB K) (by exact MZ.op_repB) (pe_tup (pa_cons (pe_op (r := MZ.rRepB K) (by exact MZ.op_repB) (pe_tup (pa_cons (pe_tup (pa_cons pe_int (pa_cons pe_int pa_nil))) pa_nil))
          (pe_callB call_len_seq (by rfl) T.len PySem.boot_len (pa_cons (pe_ix ix_tup (pv 0) pe_int (fun _ _ => rfl)) pa_nil))) pa_nil)) (pv 4))))
      (pss_cons (ps_set (i := 10) scSh.nd rfl (Or.inl rfl) (pe_lst (pa_cons (pe_call FR hr rfl mR kR bR .nil pass0 (pa_cons (pv 0) (pa_cons (pv 1) (pa_cons (pv 9) pa_nil)))) (pa_cons (pe_call FR hr rfl mR kR bR .nil pass0 (pa_cons (pv 0) (pa_cons (pv 2) (pa_cons (pv 9) pa_nil)))) pa_nil))))
      (pss_cons (ps_set (i := 7) scSh.nd rfl (Or.inl rfl) (pe_bmF PySem.F.plainAttrs_tuple PySem.F.slot_tuple_index PySem.F.type_tuple_index MZ.mt_tup_indexI (pe_ix ix_tup (pv 0) pe_int (fun _ _ => rfl)) (pa_cons (pv 5) pa_nil)))
      (pss_one (ps_ret (pe_and (pe_cmpR (op_eqD hu) (pe_slice sl_tupA (pe_ix ix_list (pv 10) pe_int (fun _ _ => rfl)) po_none (po_some (pe_op op_add (pv 4) pe_int))) (pe_slice sl_tupA (pe_ix ix_list (pv 10) pe_int (fun _ _ => rfl)) po_none (po_some (pe_op op_add (pv 4) pe_int))) (by rfl))
        (pe_one (pe_cmpR (op_neD hu) (pe_ix ix_tup (pe_ix ix_tup (pe_ix ix_list (pv 10) pe_int (fun _ _ => rfl)) (pe_op op_add (pv 4) pe_int) (fun _ _ => rfl)) (pv 7) (fun _ _ => rfl)) (pe_ix ix_tup (pe_ix ix_tup (pe_ix ix_list (pv 10) pe_int (fun _ _ => rfl)) (pe_op op_add (pv 4) pe_int) (fun _ _ => rfl)) (pv 7) (fun _ _ => rfl)) (by rfl)))))))))), ?_⟩
    obtain ⟨p, r, q, hp, hrs, hq, rfl, ne, ah⟩ := pr
    have m4 := g.m4
    obtain ⟨ua, us, rfl, eu, tus⟩ := tup_parts tu
    cases tus with
    | cons a1 tus => cases tus with
    | cons a2 tus => cases tus with
    | cons a3 tus =>
    cases tus
    cases a1
    cases a2
    cases a3
    refine ⟨_, rfl, ua, _, rfl, SqT.of (tO_same H _ _ eu), rfl, _, _, rfl, _, _, rfl, _, _, rfl, rfl, ?_⟩
    have th0 := th
    obtain ⟨a, ps, fs, ss, rfl, ea, _, tfs, tss⟩ := net_parts th
    obtain ⟨fb, fv, rfl, efb, tf⟩ := tup_parts tfs
    obtain ⟨sb, sv, rfl, esb, ts⟩ := tup_parts tss
    have lf : fv.length = n.fs.length := by rw [all2 tf, natsD, List.length_map]
    have f4 : n.fs.length ≤ 4 := Nat.le_trans g.fs.len g.m4
    have hqf : n.fs.getD q 0 = n.fs[q] := getD_in _ hq
    -- first
    refine ⟨_, rfl, a, _, _, _, rfl, rfl, SqT.of (tO_same H _ _ ea), rfl, fb, rfl, ⟨fv, SqT.of (tO_same H _ _ efb)⟩, fun D hD => ?_⟩
    refine lc_map (walk_tup (K := K) (a := fb) (xs := fv)) (fun H' xs i => ThAll (tO H') xs (((showR n q).take i).map fD) ∧ i ≤ n.fs.length) hD (by omega) (fun _ _ i r => by rw [all2 r.1, List.length_map, List.length_take]; unfold showR; rw [List.length_map, List.length_range]; have := r.2; omega) ⟨by rw [List.take_zero]; exact .nil, Nat.zero_le _⟩
      (fun H' s => SqT.of (s.rd (tO_same H _ _ efb))) (fun _ => rfl) ?_ ?_
    · rintro i x _ H' xs hi s e hl ⟨r', hle⟩ ⟨rfl, hx⟩
      obtain ⟨j, ej, rfl⟩ := nats_at tf hx
      have hif : i < n.fs.length := by omega
      have ej' : n.fs[i] = j := by rw [List.getElem?_eq_getElem hif] at ej; exact Option.some.inj ej
      refine ⟨_, rfl, _, rfl, rfl, .inr ⟨_, rfl, (by show 2 ≤ sizeLine; decide), fun c hc => ?_⟩⟩
      have sc := same_upd (o := .tup [V.int (if decide (V.int (j : Int) = V.int ((n.fs.getD q 0 : Nat) : Int)) = true then 1 else 0), V.int 1]) hc
      refine aft hD (s.trans sc) (sc _ _ e) hl ⟨?_, by omega⟩
      have tk := Tk.put (ys := xs ++ [.ref c]) (sc _ _ e)
      have e2 : (showR n q)[i]? = some (if i = q then (1, 1) else (0, 1)) := by unfold showR; rw [List.getElem?_map, List.getElem?_range hif]; rfl
      rw [List.take_add_one, e2, List.map_append]
      refine ThAll.append (thAll_tk r' ((Tk.same sc).trans tk)) (.cons ?_ .nil)
      have fq : Th (tO (upd H' c (.tup [V.int (if decide (V.int (j : Int) = V.int ((n.fs.getD q 0 : Nat) : Int)) = true then 1 else 0), V.int 1]))) (.ref c) (fD (if i = q then (1, 1) else (0, 1))) := by
        have w := nodup_at g.fs.asc hif hq
        rw [ej'] at w
        by_cases ic : i = q
        · rw [if_pos (decide_eq_true (by rw [hqf, w.mpr ic])), if_pos ic]
          exact th_frnew (1, 1)
        · rw [if_neg (fun z => ic (w.mp (by have := V.int.inj (of_decide_eq_true z); omega))), if_neg ic]
          exact th_frnew (0, 1)
      exact fq.tk tk
    rintro H1 xs1 s1 e1 ⟨r1, _⟩
    rw [lf, List.take_of_length_le (by unfold showR; rw [List.length_map, List.length_range]; omega)] at r1
    refine .inl ⟨D, xs1, rfl, SqL.of e1, fun q1 hq1 => ?_⟩
    have s2 := s1.trans (same_upd (o := .tup xs1) hq1)
    have t1 : Th (tO (upd H1 q1 (.tup xs1))) (.ref q1) (.tuple ((showR n q).map fD)) := .tup (tO_of upd_same) (thAll_tk r1 (Tk.same (same_upd hq1)))
    generalize upd H1 q1 (.tup xs1) = H2 at s2 t1 ⊢
    clear r1 e1 hq1 s1
    -- fillings
    refine ⟨_, rfl, by show 1 ≤ sizeLine; decide, fun q2 hq2 => ⟨by show 2 ≤ sizeLine; decide, fun q3 hq3 => ⟨by show 1 ≤ sizeLine; decide, fun q4 hq4 => ?_⟩⟩⟩
    have s3 := same_upd (o := .tup [V.ref q1]) hq2
    have s4 := same_upd (o := .tup [V.int 0, V.int 1]) hq3
    have s5 := same_upd (o := .tup [V.ref q3]) hq4
    have s05 := s2.trans (s3.trans (s4.trans s5))
    refine ⟨_, rfl, a, _, _, _, rfl, rfl, SqT.of (s05.rd (tO_same H _ _ ea)), rfl, fb, fv, rfl, .inr (SqT.of (s05.rd (tO_same H _ _ efb))), ?_⟩
    refine rep_one (m := fv.length) upd_same (by omega) fun q5 H6 s6 e6 => ?_
    refine ⟨by show 1 ≤ sizeLine; decide, fun q7 hq7 => ?_⟩
    have s7 := same_upd (o := .tup [V.ref q5]) hq7
    refine ⟨_, rfl, ?_⟩
    refine rep_one (m := p) upd_same (by omega) fun q8 H8 s8 e8 => ?_
    have s38 := s3.trans (s4.trans (s5.trans (s6.trans (s7.trans s8))))
    have tz0 : Th (tO H8) (.ref q5) (.tuple (List.replicate n.fs.length (fD (0, 1)))) := by
      rw [← lf]
      refine .tup ((Tk.same (s7.trans s8)) _ _ e6) (thAll_rep ?_ _)
      exact .tup ((Tk.same (s5.trans (s6.trans (s7.trans s8)))) _ _ (tO_of upd_same)) (.cons (.int _) (.cons (.int _) .nil))
    have ta : Th (tO H8) (.ref q2) (.tuple [.tuple ((showR n q).map fD)]) := .tup ((Tk.same (s4.trans (s5.trans (s6.trans (s7.trans s8))))) _ _ (tO_of upd_same)) (.cons (t1.tk (Tk.same s38)) .nil)
    have tbb : Th (tO H8) (.ref q8) (.tuple (List.replicate p (.tuple (List.replicate n.fs.length (fD (0, 1)))))) := .tup e8 (thAll_rep tz0 p)
    refine cat_any ta tbb (by rw [List.length_replicate]; simp; omega) fun v9 H9 s9 t9 => ?_
    have tfl : Th (tO H9) v9 (flD (showF n q p)) := by
      rw [flD_show]
      exact t9
    have s09 := s2.trans (s38.trans s9)
    have hf := show_ok (n := n) (q := q) (p := p) (by omega)
    clear t9 ta tbb tz0 e8 e6 t1 s38 s05 s8 s7 s6 s5 s4 s3 hq2 hq3 hq4 hq7
    -- told
    have k9 := Tk.same s09
    refine ⟨_, rfl, _, rfl, _, rfl, _, y, v9, n, as, _, rfl, g, th0.tk k9, oa, ty.tk k9, hf, tfl, tbs_same tb s09, fun va HA gA dA => ?_⟩
    have kA := Tk.sm gA.sm
    refine ⟨_, rfl, _, rfl, _, rfl, _, z, v9, n, bs, _, rfl, g, th0.tk (k9.trans kA), ob, tz.tk (k9.trans kA), hf, tfl.tk kA, gA.tbs, fun vb HB gB dB => ⟨by show 2 ≤ sizeLine; decide, fun l hl => ?_⟩⟩
    have kB := Tk.sm gB.sm
    have sl := same_upd (o := .lst [va, vb]) hl
    have kl := Tk.same sl
    have gr : Grown Ps H (upd HB l (.lst [va, vb])) := ((Grown.same s09 tb).trans gA).trans (gB.trans (Grown.same sl gB.tbs))
    have dA := dA.tk (kB.trans kl)
    have dB := dB.tk kl
    have el : upd HB l (.lst [va, vb]) l = some (.lst [va, vb]) := upd_same
    generalize upd HB l (.lst [va, vb]) = HC at gr dA dB el ⊢
    have kC := Tk.sm gr.sm
    -- the place
    have esv : sv = (n.ss.map fun i => ((i : Nat) : Int)).map V.int := nats_are ts
    have lss : r < (n.ss.map fun i => ((i : Nat) : Int)).length := by rw [List.length_map]; exact hrs
    have eix : (n.ss.map fun i => ((i : Nat) : Int)).idxOf ((n.ss.getD r 0 : Nat) : Int) = r := by
      have z := idx_of (n.ss.map fun i => ((i : Nat) : Int)) r lss (asc_nodup g.ss.asc)
      rw [List.getElem_map] at z
      rw [getD_in _ hrs]
      exact z
    have fz : FzV H (.ref sb) := by
      obtain ⟨a', p0, p1, p2, p3, u', e1, e2, fz⟩ := nz
      cases e1
      have := (tO_of e2).symm.trans ea
      cases this
      exact fz
    subst esv
    have hmem : ((n.ss.getD r 0 : Nat) : Int) ∈ (n.ss.map fun i => ((i : Nat) : Int)) := by
      rw [getD_in _ hrs]
      exact List.mem_map.mpr ⟨_, List.getElem_mem hrs, rfl⟩
    refine ⟨_, rfl, a, _, _, _, rfl, rfl, SqT.of (tO_same _ _ _ (kC _ _ ea)), rfl, fz.sm gr.sm, _, rfl, sb, _, _, rfl, rfl, SqT.of (tO_same _ _ _ (kC _ _ esb)), hmem, ?_⟩
    rw [eix]
    have sA := seen_fr g oa dA hq hp hrs
    have sB := seen_fr g ob dB hq hp hrs
    have tke := shows_take g oa ob hq hp fun p' r' hr' hp' => ah p' r' q hr' hq (.inl hp')
    obtain ⟨a1, us1, rfl, e1, rows1⟩ := dA
    obtain ⟨a2, us2, rfl, e2, rows2⟩ := dB
    obtain ⟨_, _, c1, ws1, u1, z1, f1, g1, h1, i1, fr1⟩ := sA
    cases z1
    cases e1.symm.trans f1
    obtain ⟨_, _, c2, ws2, u2, z2, f2, g2, h2, i2, fr2⟩ := sB
    cases z2
    cases e2.symm.trans f2
    refine ⟨_, rfl, l, _, 0, _, rfl, rfl, SqL.of el, rfl, _, rfl, _, _, rfl, rfl, _, rfl, ?_⟩
    refine sl_take (K := K) (k := p + 1) e1 fun b1 H1 s1 t1 => ?_
    refine ⟨_, rfl, l, _, 1, _, rfl, rfl, SqL.of (s1 _ _ el), rfl, _, rfl, _, _, rfl, rfl, _, rfl, ?_⟩
    refine sl_take (K := K) (k := p + 1) (Tk.same s1 _ _ e2) fun b2 H2 s2 t2 => ?_
    have s12 := s1.trans s2
    refine ⟨_, _, dp_tab (TabT.take (Tk.same s2 _ _ t1) (rows1.tk (Tk.same s12))), dp_tab (TabT.take t2 (rows2.tk (Tk.same s12))), (lay_tab _).shaped (by decide), (lay_tab _).shaped (by decide), ?_⟩
    refine ⟨_, rfl, ?_⟩
    rw [tke, (lay_tab _).refl, if_pos rfl]
    refine ⟨_, rfl, l, _, 0, _, rfl, rfl, SqL.of (s12 _ _ el), rfl, _, rfl, _, _, rfl, rfl, a1, us1, _, _, rfl, rfl, SqT.of (tO_same _ _ _ (Tk.same s12 _ _ e1)), atI_nat g1, _, rfl, c1, ws1, _, u1, rfl, rfl, SqT.of (tO_same _ _ _ (Tk.same s12 _ _ h1)), atI_nat i1, ?_⟩
    refine ⟨_, rfl, l, _, 1, _, rfl, rfl, SqL.of (s12 _ _ el), rfl, _, rfl, _, _, rfl, rfl, a2, us2, _, _, rfl, rfl, SqT.of (tO_same _ _ _ (Tk.same s12 _ _ e2)), atI_nat g2, _, rfl, c2, ws2, _, u2, rfl, rfl, SqT.of (tO_same _ _ _ (Tk.same s12 _ _ h2)), atI_nat i2, ?_⟩
    refine ⟨_, _, dp_fr (fr1.tk (Tk.same s12)), dp_fr (fr2.tk (Tk.same s12)), (lay_fr _).shaped (by decide), (lay_fr _).shaped (by decide), ?_⟩
    rw [eqv_fD, decide_eq_false ne]
    exact k _ (gr.trans (Grown.same s12 gr.tbs))
end
end KP

set_option Elab.async false
set_option linter.all false
set_option maxRecDepth 100000
set_option maxHeartbeats 4000000
/-! ### the law's check of one jar -/
namespace KP
open PySem PySem.Spec PyProof.Rows L2 KX KT KJ KS FR
abbrev nR5 : List Str := ["jar", "turn", "net", "one", "two", "look", "due", "told", "fillings"]
theorem scR5 : FnScope nR5 ["jar"] (defScope lRight3) := ⟨rfl, rfl, rfl, by decide +kernel, rfl, by decide +kernel, by decide +kernel⟩
theorem sw_bl (b : Bool) : Sw 10 1 (.bool b) := by cases b <;> exact ⟨by decide +kernel, by decide +kernel, by decide +kernel, by decide +kernel⟩
theorem shw_bl3 {K : PySem.W.Frag} {H : Hp} {a : Addr} {x y z : Bool} (e : H a = some (.lst [.bl x, .bl y, .bl z])) : Shw K H (.ref a) (.list [.bool x, .bool y, .bool z]) := by
  have w := sw_lst (k := 3) (L := 10) (n := 1) (ds := [.bool x, .bool y, .bool z]) (fun d hd => by
    simp only [List.mem_cons, List.not_mem_nil, or_false] at hd
    rcases hd with rfl | rfl | rfl <;> exact sw_bl _) (by simp)
  exact ⟨w.ok, Nat.le_trans w.len (by decide), Nat.le_trans w.dep (by decide), .inl ⟨w.nod, .lst (SqL.of e) (.cons (.bl _) (.cons (.bl _) (.cons (.bl _) .nil)))⟩⟩
theorem trio_netZ {H : Hp} {a : Addr} {x y z : V} (h : TrioZ H (.ref a)) (e : tO H a = some (.tup [x, y, z])) : NetZ H x := by
  obtain ⟨a', x', y', z', q, e', n⟩ := h
  cases q
  cases (tO_of e').symm.trans e
  exact n
theorem _root_.KP.NetZ.sm {H H' : Hp} {v : V} (h : NetZ H v) (s : Sm H H') : NetZ H' v := by
  obtain ⟨a, p0, p1, p2, p3, u, e, q, f⟩ := h
  exact ⟨a, p0, p1, p2, p3, u, e, s _ _ q (fun _ z => by cases z), f.sm s⟩
section
variable {P : Program} {w : World} {K : PySem.W.Frag} {mg : Str → Option Value} {base : Heap}
theorem ok_right5 {f fT fL fA fE fS fF fR fP : Addr} {fd fdT fdL fdA fdE fdS fdF fdR fdP : FuncData} {Ps : List Addr} (F : Fun K "_law_right" "_law_right" lRight3 f fd) (T : TxD mg)
    (FT : FnOk P w K mg base CX0 5 fT fdT ["jar"] spPair) (mT : mg "_law_pair" = some (.ref fT)) (kT : PySem.W.keepIn K (.ref fT) = true) (bT : Binds K fdT ["jar"] [])
    (FL : FnOk P w K mg base CX0 6 fL fdL ["net", "one", "two"] (spPartL K)) (mL : mg "_law_parting" = some (.ref fL)) (kL : PySem.W.keepIn K (.ref fL) = true) (bL : Binds K fdL ["net", "one", "two"] [])
    (FA : FnOk P w K mg base CX0 13 fA fdA ["net", "one", "other"] (spAlike K Ps)) (mA : mg "are_alike" = some (.ref fA)) (kA : PySem.W.keepIn K (.ref fA) = true) (bA : Binds K fdA ["net", "one", "other"] []) (bAk : KBinds K fdA ["net", "one", "other"] ["other", "one", "net"] gRev gRevV)
    (FE : FnG P w K mg base 1 fE fdE ["told", "due"] (spSame3 K)) (mE : mg "_law_same" = some (.ref fE)) (kE : PySem.W.keepIn K (.ref fE) = true) (bE : Binds K fdE ["told", "due"] [])
    (FS : FnOk P w K mg base CX0 12 fS fdS ["net", "one", "two", "look"] (spShows K Ps)) (mS : mg "_law_shows" = some (.ref fS)) (kS : PySem.W.keepIn K (.ref fS) = true) (bS : Binds K fdS ["net", "one", "two", "look"] [])
    (FF : FnOk P w K mg base CX0 4 fF fdF ["jar", "net", "most"] spFil) (mF : mg "_law_fillings" = some (.ref fF)) (kF : PySem.W.keepIn K (.ref fF) = true) (bF : Binds K fdF ["jar", "net", "most"] [])
    (FR : FnOk P w K mg base CX0 11 fR fdR ["net", "assignment", "fillings"] (spRuns K Ps)) (mR : mg "seen_in" = some (.ref fR)) (kR : PySem.W.keepIn K (.ref fR) = true) (bR : Binds K fdR ["net", "assignment", "fillings"] [])
    (FP : FnOk P w K mg base CX0 11 fP fdP ["net", "assignment", "many"] (spLooks K Ps)) (mP : mg "looks_in" = some (.ref fP)) (kP : PySem.W.keepIn K (.ref fP) = true) (bP : Binds K fdP ["net", "assignment", "many"] []) :
    FnG P w K mg base 14 f fd ["jar"] (spRight3 Ps) := by
  refine FnG.mk' F scR5 (fun {vs H Q E} h => ?_) (fun cdv A outer s H vs Q E qu hr h => ?_)
  · obtain ⟨j, rfl, _⟩ := h
    rfl
  · obtain ⟨j, rfl, hj, tb, k⟩ := h
    have hr5 : Room 5 _ := hr.mono (by decide)
    have hr6 : Room 6 _ := hr.mono (by decide)
    have hr1 : Room 1 _ := hr.mono (by decide)
    have hr4 : Room 4 _ := hr.mono (by decide)
    have hr11 : Room 11 _ := hr.mono (by decide)
    have hr12 : Room 12 _ := hr.mono (by decide)
    have hu : (A.deeper (envOfC "_law_right" (defScope lRight3) s.heap.objs.size f cdv)).units + 64 < cLine := by have := hr.un; omega
    have qu' : Quiet (A.deeper (envOfC "_law_right" (defScope lRight3) s.heap.objs.size f cdv)) := qu
    refine ⟨_, pss_cons (ps_for PassesOwn.never rfl (pi_range1 rfl T.range (pa_cons pe_int pa_nil)) (pg_name (i := 1) scR5.nd rfl (Or.inl rfl))
        (pss_cons (ps_asg (pe_call FT hr5 rfl mT kT bT .nil pass0 (pa_cons (pv 0) pa_nil)) (pg_tup rfl (pgs_cons (pg_name (i := 2) scR5.nd rfl (Or.inl rfl)) (pgs_cons (pg_name (i := 3) scR5.nd rfl (Or.inl rfl)) (pgs_cons (pg_name (i := 4) scR5.nd rfl (Or.inl rfl)) pgs_nil)))))
        (pss_cons (ps_set (i := 5) scR5.nd rfl (Or.inl rfl) (pe_call FL hr6 rfl mL kL bL .nil pass0 (pa_cons (pv 2) (pa_cons (pv 3) (pa_cons (pv 4) pa_nil)))))
        (pss_cons (ps_set (i := 6) scR5.nd rfl (Or.inl rfl) (pe_cmpR op_isN1 (pv 5) pe_non (nomark _)))
        (pss_cons (ps_set (i := 7) scR5.nd rfl (Or.inl rfl) (pe_lst (pa_cons (pe_call FA hr rfl mA kA bA .nil pass0 (pa_cons (pv 2) (pa_cons (pv 3) (pa_cons (pv 4) pa_nil)))) (pa_cons (pe_callK0 FA hr rfl mA kA bAk pass0 (pk_cons (pv 3) (pk_cons (pv 4) (pk_cons (pv 2) pk_nil))))
            (pa_cons (pe_call FA hr rfl mA kA bA .nil pass0 (pa_cons (pv 2) (pa_cons (pv 3) (pa_cons (pv 3) pa_nil)))) pa_nil)))))
        (pss_cons (ps_if (pt_not (pt_val (pe_quiet FE qu' hr1 rfl mE kE bE (pa_cons (pv 7) (pa_cons (pe_lst (pa_cons (pv 6) (pa_cons (pv 6) (pa_cons pe_bl pa_nil)))) pa_nil))))) (pss_one (ps_ret pe_bl)) pss_nil)
        (pss_cons (ps_if (PW.pt (pw_and (pt_not (pt_val (pv 6))) (pw_and1 (pt_not (pt_val (pe_call FS hr12 rfl mS kS bS .nil pass0 (pa_cons (pv 2) (pa_cons (pv 3) (pa_cons (pv 4) (pa_cons (pv 5) pa_nil)))))))))) (pss_one (ps_ret pe_bl)) pss_nil)
        (pss_cons (ps_set (i := 8) scR5.nd rfl (Or.inl rfl) (pe_call FF hr4 rfl mF kF bF .nil pass0 (pa_cons (pv 0) (pa_cons (pv 2) (pa_cons pe_int pa_nil)))))
        (pss_cons (ps_if (PW.pt (pw_and (pt_val (pv 6)) (pw_and1 (pt_cmpR (op_neD hu) (pe_call FR hr11 rfl mR kR bR .nil pass0 (pa_cons (pv 2) (pa_cons (pv 3) (pa_cons (pv 8) pa_nil)))) (pe_call FR hr11 rfl mR kR bR .nil pass0 (pa_cons (pv 2) (pa_cons (pv 4) (pa_cons (pv 8) pa_nil)))) (by rfl))))) (pss_one (ps_ret pe_bl)) pss_nil)
        (pss_one (ps_if (PW.pt (pw_and (pt_val (pv 6)) (pw_and1 (pt_cmpR (op_neD hu) (pe_call FP hr11 rfl mP kP bP .nil pass0 (pa_cons (pv 2) (pa_cons (pv 3) (pa_cons (pe_op op_add (pe_op op_mul (by exact pe_int) (pe_ix ix_tup (pv 2) pe_int (fun _ _ => rfl))) pe_int) pa_nil))))
            (pe_call FP hr11 rfl mP kP bP .nil pass0 (pa_cons (pv 2) (pa_cons (pv 4) (pa_cons (pe_op op_add (pe_op op_mul (by exact pe_int) (pe_ix ix_tup (pv 2) pe_int (fun _ _ => rfl))) pe_int) pa_nil)))) (by rfl))))) (pss_one (ps_ret pe_bl)) pss_nil)))))))))))
      (pss_one (ps_ret pe_bl)), ?_⟩
    refine ⟨3, rfl, by decide, by decide, ?_⟩
    refine for_range (lo := 0) (n := 3) (fun i σ H' => ∃ o1 o2 o3 o4 o5 o6 o7 o8 : Option V, σ = [some (.ref j), o1, o2, o3, o4, o5, o6, o7, o8] ∧ JarAt H' j (300 * i) ∧ Tbs Ps H' ∧ Bt j H H') ⟨none, none, none, none, none, none, none, none, rfl, hj, tb, fun _ _ _ e _ => e⟩ ?_ ?_
    · rintro i σ H1 hi ⟨o1, o2, o3, o4, o5, o6, o7, o8, rfl, j1, t1, b1⟩
      refine ⟨_, rfl, j, _, rfl, j1, by omega, fun v nt as bs H2 g oa ob tv tz c2 j2 => ?_⟩
      have t2 := tbs_but t1 j1 c2
      have b2 := b1.but c2
      obtain ⟨ta, x, y, z, rfl, et, tx, ty, tzz⟩ := trio_parts tv
      have nz := trio_netZ (tz.same (hid_same j H2)) et
      refine ⟨ta, _, rfl, SqT.of (tO_same _ _ _ et), rfl, _, _, rfl, _, _, rfl, _, _, rfl, rfl, ?_⟩
      -- the law's own
      refine ⟨_, rfl, _, rfl, _, rfl, x, y, z, nt, as, bs, rfl, g, tx, oa, ty, ob, tzz, fun v5 d5 H3 s3 p5 h5 => ?_⟩
      have t3 := tbs_same t2 s3
      have k3 := Tk.same s3
      refine ⟨_, rfl, rfl, ?_⟩
      rw [pt_none h5]
      refine ⟨_, rfl, _, rfl, _, rfl, x, y, z, nt, as, bs, rfl, g, tx.tk k3, oa, ty.tk k3, ob, tzz.tk k3, t3, fun d6 H4 g4 p6 => ?_⟩
      have k4 := k3.trans (Tk.sm g4.sm)
      refine ⟨_, rfl, _, rfl, _, rfl, x, z, y, nt, bs, as, rfl, g, tx.tk k4, ob, tzz.tk k4, oa, ty.tk k4, g4.tbs, fun d7 H5 g5 p7 => ?_⟩
      have k5 := k4.trans (Tk.sm g5.sm)
      refine ⟨_, rfl, _, rfl, _, rfl, x, y, y, nt, as, as, rfl, g, tx.tk k5, oa, ty.tk k5, oa, ty.tk k5, g5.tbs, fun d8 H6 g6 p8 => ⟨by show 3 ≤ sizeLine; decide, fun q1 hq1 => ?_⟩⟩
      have k6 := k5.trans (Tk.sm g6.sm)
      obtain rfl := partR_uniq p5 p6
      obtain rfl := partR_uniq p5 (partR_symm p7)
      obtain rfl := partR_same p8
      have s1 := same_upd (o := .lst [V.bl d5.isNone, V.bl d5.isNone, V.bl (none : Option (Nat × Nat × Nat)).isNone]) hq1
      refine ⟨_, rfl, _, rfl, _, rfl, by show 3 ≤ sizeLine; decide, fun q2 hq2 => ?_⟩
      have s2 := same_upd (o := .lst [V.bl d5.isNone, V.bl d5.isNone, V.bl true]) hq2
      refine ⟨.ref q1, .ref q2, _, rfl, shw_bl3 (s2 _ _ upd_same), shw_bl3 upd_same, _, rfl, iteB (fun z => by cases z) fun _ => ?_⟩
      have t7 := tbs_same g6.tbs (s1.trans s2)
      have sm := (Sm.same s3).trans (g4.sm.trans (g5.sm.trans (g6.sm.trans (Sm.same (s1.trans s2)))))
      have k7 := Tk.sm sm
      have h7 := h5.tk ((Tk.sm g4.sm).trans ((Tk.sm g5.sm).trans ((Tk.sm g6.sm).trans (Tk.same (s1.trans s2)))))
      have j7 := jar_sm j2 sm
      have b7 := b2.sm sm
      have x7 := tx.tk k7
      have y7 := ty.tk k7
      have z7 := tzz.tk k7
      have n7 := nz.sm sm
      clear sm k7 s1 s2 hq1 hq2 k6 k5 k4 k3 h5 s3 t3 p6 p7 p8 g4 g5 g6 tx ty tzz nz et tz tv
      generalize upd (upd H6 q1 (.lst [V.bl d5.isNone, V.bl d5.isNone, V.bl (none : Option (Nat × Nat × Nat)).isNone])) q2 (.lst [V.bl d5.isNone, V.bl d5.isNone, V.bl true]) = H7 at t7 h7 j7 b7 x7 y7 z7 n7 ⊢
      cases d5 with
      | some o =>
        refine ⟨_, rfl, _, rfl, iteB (fun _ => ?_) (fun z => by cases z)⟩
        refine ⟨_, rfl, _, rfl, _, rfl, _, rfl, x, y, z, v5, nt, as, bs, o, rfl, g, x7, n7, oa, y7, ob, z7, t7, p5, h7, fun H8 g8 => ?_⟩
        refine ⟨_, rfl, iteB (fun z => by cases z) fun _ => ?_⟩
        refine ⟨_, rfl, _, rfl, j, _, x, nt, rfl, jar_sm j7 g8.sm, by omega, g, x7.tk (Tk.sm g8.sm), fun v8 fl H9 hf t9 c9 j9 => ?_⟩
        refine ⟨_, rfl, _, rfl, iteB (fun z => by cases z) fun _ => ?_⟩
        refine ⟨_, rfl, _, rfl, iteB (fun z => by cases z) fun _ => ?_⟩
        exact ⟨_, _, _, _, _, _, _, _, rfl, jar_more j9 (by omega), tbs_but g8.tbs (jar_sm j7 g8.sm) c9, (b7.sm g8.sm).but c9⟩
      | none =>
        refine ⟨_, rfl, _, rfl, iteB (fun z => by cases z) fun _ => ?_⟩
        refine ⟨_, rfl, _, rfl, j, _, x, nt, rfl, j7, by omega, g, x7, fun v8 fl H8 hf t8 c8 j8 => ?_⟩
        have k8 := Tk.jar j7 c8
        have tb8 := tbs_but t7 j7 c8
        have x8 := x7.tk k8
        have y8 := y7.tk k8
        have z8 := z7.tk k8
        have es : seenAll nt as fl = seenAll nt bs fl := alike_seen (tab_lo g oa) (tab_lo g ob) g.fs.lt g.ss.lt p5 (fun r hr => ⟨(hf.2 r hr).1, fun x hx => lo_told ((hf.2 r hr).2 x hx)⟩) (fun k hk => (held_ok g oa hf hk).2) (fun k hk => (held_ok g ob hf hk).2)
        have el : looksF nt as (2 * nt.m + 2) = looksF nt bs (2 * nt.m + 2) := alike_looks (tab_lo g oa) (tab_lo g ob) g.ss.lt p5 _
        have m4 := g.m4
        have mo : ManyOk nt (2 * nt.m + 2) := .inl (by omega)
        have ek : ∀ u : V, [x, u, V.int (2 * (nt.m : Int) + 2)] = [x, u, V.int ((2 * nt.m + 2 : Nat) : Int)] := fun u => by rw [show 2 * (nt.m : Int) + 2 = ((2 * nt.m + 2 : Nat) : Int) by omega]
        refine ⟨_, rfl, _, rfl, iteB (fun _ => ?_) (fun z => by cases z)⟩
        refine ⟨_, rfl, _, rfl, _, rfl, x, y, v8, nt, as, fl, rfl, g, x8, oa, y8, hf, t8, tb8, fun va H9 g9 da => ?_⟩
        have k9 := Tk.sm g9.sm
        refine ⟨_, rfl, _, rfl, _, rfl, x, z, v8, nt, bs, fl, rfl, g, x8.tk k9, ob, z8.tk k9, hf, t8.tk k9, g9.tbs, fun vb HA gA db => ?_⟩
        have kA := Tk.sm gA.sm
        refine ⟨_, _, dp_tab (da.tk kA), dp_tab db, (lay_tab _).shaped (by decide), (lay_tab _).shaped (by decide), ?_⟩
        rw [es, (lay_tab _).refl]
        refine ⟨_, rfl, iteB (fun z => by cases z) fun _ => ?_⟩
        have k9A := k9.trans kA
        have xA := x8.tk k9A
        have yA := y8.tk k9A
        have zA := z8.tk k9A
        obtain ⟨a, pv', fv', sv', rfl, ea, _, _, _⟩ := net_parts xA
        refine ⟨_, rfl, _, rfl, iteB (fun _ => ?_) (fun z => by cases z)⟩
        refine ⟨_, rfl, _, rfl, _, rfl, a, _, _, _, rfl, rfl, SqT.of (tO_same _ _ _ ea), rfl, _, _, rfl, rfl, .inl ⟨by omega, by omega⟩, _, _, rfl, rfl, _, _, nt, as, 2 * nt.m + 2, ek y, g, xA, oa, yA, mo, gA.tbs, fun vc HB gB dc => ?_⟩
        have kB := Tk.sm gB.sm
        refine ⟨_, rfl, _, rfl, _, rfl, a, _, _, _, rfl, rfl, SqT.of (tO_same _ _ _ (kB _ _ ea)), rfl, _, _, rfl, rfl, .inl ⟨by omega, by omega⟩, _, _, rfl, rfl, _, _, nt, bs, 2 * nt.m + 2, ek z, g, xA.tk kB, ob, zA.tk kB, mo, gB.tbs, fun vd HC gC dd => ?_⟩
        refine ⟨_, _, dp_cub (dc.tk (Tk.sm gC.sm)), dp_cub dd, (lay_cub _).shaped (by decide), (lay_cub _).shaped (by decide), ?_⟩
        rw [el, (lay_cub _).refl]
        refine ⟨_, rfl, iteB (fun z => by cases z) fun _ => ?_⟩
        have sm := g9.sm.trans (gA.sm.trans (gB.sm.trans gC.sm))
        exact ⟨_, _, _, _, _, _, _, _, rfl, jar_more (jar_sm j8 sm) (by omega), gC.tbs, (b7.but c8).sm sm⟩
    · rintro σ H1 ⟨o1, o2, o3, o4, o5, o6, o7, o8, rfl, j1, t1, b1⟩
      exact k H1 b1 t1
end
end KP

set_option Elab.async false
set_option linter.all false
set_option maxRecDepth 100000
set_option maxHeartbeats 4000000
/-! ### what the top has written -/
namespace KP
open PySem PySem.Spec PyProof.Rows L2 KX KT KJ KS KG FR
theorem binds3 {K : PySem.W.Frag} {fd : FuncData} (h1 : ∀ (s : Shared) (a b c : Value), BindsTo s fd ⟨[], [("other", c), ("one", b), ("net", a)]⟩ [("net", a), ("one", b), ("other", c)]) (h2 : ∀ (s : Shared) (a b c : Value), BindsTo s fd ⟨[a], [("other", c), ("one", b)]⟩ [("net", a), ("one", b), ("other", c)])
    (h3 : ∀ (s : Shared) (a b c : Value), BindsTo s fd ⟨[a, b], [("other", c)]⟩ [("net", a), ("one", b), ("other", c)]) (h4 : ∀ (s : Shared) (a b c : Value), BindsTo s fd ⟨[a, b, c], []⟩ [("net", a), ("one", b), ("other", c)]) :
    KBinds K fd ["net", "one", "other"] ["other", "one", "net"] gRev gRevV := by
  refine ⟨fun s us ws _ hl => ?_, fun r rz => r.append rz.reverse⟩
  have hl : us.length + ws.length = 3 := by
    rw [gRev, List.length_append, List.length_reverse] at hl
    exact hl
  match us, ws with
  | [], [c, b, a] => exact h1 s a b c
  | [a], [c, b] => exact h2 s a b c
  | [a, b], [c] => exact h3 s a b c
  | [a, b, c], [] => exact h4 s a b c
  | [], [] => exact absurd hl (by simp)
  | [], [_] => exact absurd hl (by simp)
  | [], [_, _] => exact absurd hl (by simp)
  | [], _ :: _ :: _ :: _ :: _ => exact absurd hl (by simp only [List.length_cons, List.length_nil]; omega)
  | [_], [] => exact absurd hl (by simp)
  | [_], [_] => exact absurd hl (by simp)
  | [_], _ :: _ :: _ :: _ => exact absurd hl (by simp only [List.length_cons, List.length_nil]; omega)
  | [_, _], [] => exact absurd hl (by simp)
  | [_, _], _ :: _ :: _ => exact absurd hl (by simp only [List.length_cons, List.length_nil]; omega)
  | [_, _, _], _ :: _ => exact absurd hl (by simp only [List.length_cons, List.length_nil]; omega)
  | _ :: _ :: _ :: _ :: _, _ => exact absurd hl (by simp only [List.length_cons, List.length_nil]; omega)
theorem all_mk5 {l : PySem.W.OpenLaw} {w : World} {K : PySem.W.Frag} {h : Heap} {mg : Str → Option Value} {fa : Addr} {f0 f1 f2 f3 f4 f5 f6 f7 f8 f9 f10 f11 f12 f13 f14 f15 f16 f17 f18 f19 f20 f21 f22 f23 f24 f25 f26 f27 f28 f29 f30 f31 f32 f33 f34 f35 f36 f37 f38 f39 f40 f41 f42 f43 f44 f45 f46 f47 f48 f49 f50 f51 f52 f53 : Addr} (X : K.In h) (G : h.Ns mainGlobals mg) (hfa : mg "law" = some (.ref fa)) (tp : TabFact mg h "_are_pipes") (tt : TabFact mg h "_are_tanks") (tf : TabFact mg h "_is_filling")
    (a0 : PySem.W.nsIn K mainGlobals "is_whole" = some (some (.ref f0)))
    {oc0 : Value} {od0 an0 : Option Addr} {sl0 : Array (Option Value)} {kV0 dc0 pm0 cd0 ct0 : Value}
    (l0 : K.lookup f0 = some ⟨oc0, od0, .func (PySem.W.fnOf "is_whole" "is_whole" (defArgs sWhole) (defBody sWhole) (defScope sWhole) .none kV0 dc0 pm0 an0 cd0 ct0), sl0⟩)
    (c0 : PySem.W.codeIn K cd0 "is_whole" = true)
    (k0 : PySem.W.keepIn K (.ref f0) = true)
    (a1 : PySem.W.nsIn K mainGlobals "is_within" = some (some (.ref f1)))
    {oc1 : Value} {od1 an1 : Option Addr} {sl1 : Array (Option Value)} {kV1 dc1 pm1 cd1 ct1 : Value}
    (l1 : K.lookup f1 = some ⟨oc1, od1, .func (PySem.W.fnOf "is_within" "is_within" (defArgs sWithin) (defBody sWithin) (defScope sWithin) .none kV1 dc1 pm1 an1 cd1 ct1), sl1⟩)
    (c1 : PySem.W.codeIn K cd1 "is_within" = true)
    (k1 : PySem.W.keepIn K (.ref f1) = true)
    (a2 : PySem.W.nsIn K mainGlobals "is_ratio" = some (some (.ref f2)))
    {oc2 : Value} {od2 an2 : Option Addr} {sl2 : Array (Option Value)} {kV2 dc2 pm2 cd2 ct2 : Value}
    (l2 : K.lookup f2 = some ⟨oc2, od2, .func (PySem.W.fnOf "is_ratio" "is_ratio" (defArgs sRatio) (defBody sRatio) (defScope sRatio) .none kV2 dc2 pm2 an2 cd2 ct2), sl2⟩)
    (c2 : PySem.W.codeIn K cd2 "is_ratio" = true)
    (k2 : PySem.W.keepIn K (.ref f2) = true)
    (a3 : PySem.W.nsIn K mainGlobals "is_told" = some (some (.ref f3)))
    {oc3 : Value} {od3 an3 : Option Addr} {sl3 : Array (Option Value)} {kV3 dc3 pm3 cd3 ct3 : Value}
    (l3 : K.lookup f3 = some ⟨oc3, od3, .func (PySem.W.fnOf "is_told" "is_told" (defArgs sTold) (defBody sTold) (defScope sTold) .none kV3 dc3 pm3 an3 cd3 ct3), sl3⟩)
    (c3 : PySem.W.codeIn K cd3 "is_told" = true)
    (k3 : PySem.W.keepIn K (.ref f3) = true)
    (a4 : PySem.W.nsIn K mainGlobals "is_net" = some (some (.ref f4)))
    {oc4 : Value} {od4 an4 : Option Addr} {sl4 : Array (Option Value)} {kV4 dc4 pm4 cd4 ct4 : Value}
    (l4 : K.lookup f4 = some ⟨oc4, od4, .func (PySem.W.fnOf "is_net" "is_net" (defArgs sNet) (defBody sNet) (defScope sNet) .none kV4 dc4 pm4 an4 cd4 ct4), sl4⟩)
    (c4 : PySem.W.codeIn K cd4 "is_net" = true)
    (k4 : PySem.W.keepIn K (.ref f4) = true)
    (a5 : PySem.W.nsIn K mainGlobals "_are_pipes" = some (some (.ref f5)))
    {oc5 : Value} {od5 an5 : Option Addr} {sl5 : Array (Option Value)} {kV5 dc5 pm5 cd5 ct5 : Value}
    (l5 : K.lookup f5 = some ⟨oc5, od5, .func (PySem.W.fnOf "_are_pipes" "_are_pipes" (defArgs sPipes) (defBody sPipes) (defScope sPipes) .none kV5 dc5 pm5 an5 cd5 ct5), sl5⟩)
    (c5 : PySem.W.codeIn K cd5 "_are_pipes" = true)
    (k5 : PySem.W.keepIn K (.ref f5) = true)
    (a6 : PySem.W.nsIn K mainGlobals "_is_pipe" = some (some (.ref f6)))
    {oc6 : Value} {od6 an6 : Option Addr} {sl6 : Array (Option Value)} {kV6 dc6 pm6 cd6 ct6 : Value}
    (l6 : K.lookup f6 = some ⟨oc6, od6, .func (PySem.W.fnOf "_is_pipe" "_is_pipe" (defArgs sPipe) (defBody sPipe) (defScope sPipe) .none kV6 dc6 pm6 an6 cd6 ct6), sl6⟩)
    (c6 : PySem.W.codeIn K cd6 "_is_pipe" = true)
    (k6 : PySem.W.keepIn K (.ref f6) = true)
    (a7 : PySem.W.nsIn K mainGlobals "_is_share" = some (some (.ref f7)))
    {oc7 : Value} {od7 an7 : Option Addr} {sl7 : Array (Option Value)} {kV7 dc7 pm7 cd7 ct7 : Value}
    (l7 : K.lookup f7 = some ⟨oc7, od7, .func (PySem.W.fnOf "_is_share" "_is_share" (defArgs sShare) (defBody sShare) (defScope sShare) .none kV7 dc7 pm7 an7 cd7 ct7), sl7⟩)
    (c7 : PySem.W.codeIn K cd7 "_is_share" = true)
    (k7 : PySem.W.keepIn K (.ref f7) = true)
    (a8 : PySem.W.nsIn K mainGlobals "_are_tanks" = some (some (.ref f8)))
    {oc8 : Value} {od8 an8 : Option Addr} {sl8 : Array (Option Value)} {kV8 dc8 pm8 cd8 ct8 : Value}
    (l8 : K.lookup f8 = some ⟨oc8, od8, .func (PySem.W.fnOf "_are_tanks" "_are_tanks" (defArgs sTanks) (defBody sTanks) (defScope sTanks) .none kV8 dc8 pm8 an8 cd8 ct8), sl8⟩)
    (c8 : PySem.W.codeIn K cd8 "_are_tanks" = true)
    (k8 : PySem.W.keepIn K (.ref f8) = true)
    (a9 : PySem.W.nsIn K mainGlobals "lowest" = some (some (.ref f9)))
    {oc9 : Value} {od9 an9 : Option Addr} {sl9 : Array (Option Value)} {kV9 dc9 pm9 cd9 ct9 : Value}
    (l9 : K.lookup f9 = some ⟨oc9, od9, .func (PySem.W.fnOf "lowest" "lowest" (defArgs sLowest) (defBody sLowest) (defScope sLowest) .none kV9 dc9 pm9 an9 cd9 ct9), sl9⟩)
    (c9 : PySem.W.codeIn K cd9 "lowest" = true)
    (k9 : PySem.W.keepIn K (.ref f9) = true)
    (a10 : PySem.W.nsIn K mainGlobals "added" = some (some (.ref f10)))
    {oc10 : Value} {od10 an10 : Option Addr} {sl10 : Array (Option Value)} {kV10 dc10 pm10 cd10 ct10 : Value}
    (l10 : K.lookup f10 = some ⟨oc10, od10, .func (PySem.W.fnOf "added" "added" (defArgs sAdded) (defBody sAdded) (defScope sAdded) .none kV10 dc10 pm10 an10 cd10 ct10), sl10⟩)
    (c10 : PySem.W.codeIn K cd10 "added" = true)
    (k10 : PySem.W.keepIn K (.ref f10) = true)
    (a11 : PySem.W.nsIn K mainGlobals "negative" = some (some (.ref f11)))
    {oc11 : Value} {od11 an11 : Option Addr} {sl11 : Array (Option Value)} {kV11 dc11 pm11 cd11 ct11 : Value}
    (l11 : K.lookup f11 = some ⟨oc11, od11, .func (PySem.W.fnOf "negative" "negative" (defArgs sNeg) (defBody sNeg) (defScope sNeg) .none kV11 dc11 pm11 an11 cd11 ct11), sl11⟩)
    (c11 : PySem.W.codeIn K cd11 "negative" = true)
    (k11 : PySem.W.keepIn K (.ref f11) = true)
    (a12 : PySem.W.nsIn K mainGlobals "lessened" = some (some (.ref f12)))
    {oc12 : Value} {od12 an12 : Option Addr} {sl12 : Array (Option Value)} {kV12 dc12 pm12 cd12 ct12 : Value}
    (l12 : K.lookup f12 = some ⟨oc12, od12, .func (PySem.W.fnOf "lessened" "lessened" (defArgs sLess) (defBody sLess) (defScope sLess) .none kV12 dc12 pm12 an12 cd12 ct12), sl12⟩)
    (c12 : PySem.W.codeIn K cd12 "lessened" = true)
    (k12 : PySem.W.keepIn K (.ref f12) = true)
    (a13 : PySem.W.nsIn K mainGlobals "multiplied" = some (some (.ref f13)))
    {oc13 : Value} {od13 an13 : Option Addr} {sl13 : Array (Option Value)} {kV13 dc13 pm13 cd13 ct13 : Value}
    (l13 : K.lookup f13 = some ⟨oc13, od13, .func (PySem.W.fnOf "multiplied" "multiplied" (defArgs sMul) (defBody sMul) (defScope sMul) .none kV13 dc13 pm13 an13 cd13 ct13), sl13⟩)
    (c13 : PySem.W.codeIn K cd13 "multiplied" = true)
    (k13 : PySem.W.keepIn K (.ref f13) = true)
    (a14 : PySem.W.nsIn K mainGlobals "row_times" = some (some (.ref f14)))
    {oc14 : Value} {od14 an14 : Option Addr} {sl14 : Array (Option Value)} {kV14 dc14 pm14 cd14 ct14 : Value}
    (l14 : K.lookup f14 = some ⟨oc14, od14, .func (PySem.W.fnOf "row_times" "row_times" (defArgs sRowTimes) (defBody sRowTimes) (defScope sRowTimes) .none kV14 dc14 pm14 an14 cd14 ct14), sl14⟩)
    (c14 : PySem.W.codeIn K cd14 "row_times" = true)
    (k14 : PySem.W.keepIn K (.ref f14) = true)
    (a15 : PySem.W.nsIn K mainGlobals "need_net" = some (some (.ref f15)))
    {oc15 : Value} {od15 an15 : Option Addr} {sl15 : Array (Option Value)} {kV15 dc15 pm15 cd15 ct15 : Value}
    (l15 : K.lookup f15 = some ⟨oc15, od15, .func (PySem.W.fnOf "need_net" "need_net" (defArgs sNeedNet) (defBody sNeedNet) (defScope sNeedNet) .none kV15 dc15 pm15 an15 cd15 ct15), sl15⟩)
    (c15 : PySem.W.codeIn K cd15 "need_net" = true)
    (k15 : PySem.W.keepIn K (.ref f15) = true)
    (a16 : PySem.W.nsIn K mainGlobals "need_assignment" = some (some (.ref f16)))
    {oc16 : Value} {od16 an16 : Option Addr} {sl16 : Array (Option Value)} {kV16 dc16 pm16 cd16 ct16 : Value}
    (l16 : K.lookup f16 = some ⟨oc16, od16, .func (PySem.W.fnOf "need_assignment" "need_assignment" (defArgs sNeedAs) (defBody sNeedAs) (defScope sNeedAs) .none kV16 dc16 pm16 an16 cd16 ct16), sl16⟩)
    (c16 : PySem.W.codeIn K cd16 "need_assignment" = true)
    (k16 : PySem.W.keepIn K (.ref f16) = true)
    (a17 : PySem.W.nsIn K mainGlobals "need_fillings" = some (some (.ref f17)))
    {oc17 : Value} {od17 an17 : Option Addr} {sl17 : Array (Option Value)} {kV17 dc17 pm17 cd17 ct17 : Value}
    (l17 : K.lookup f17 = some ⟨oc17, od17, .func (PySem.W.fnOf "need_fillings" "need_fillings" (defArgs sNeedFi) (defBody sNeedFi) (defScope sNeedFi) .none kV17 dc17 pm17 an17 cd17 ct17), sl17⟩)
    (c17 : PySem.W.codeIn K cd17 "need_fillings" = true)
    (k17 : PySem.W.keepIn K (.ref f17) = true)
    (a18 : PySem.W.nsIn K mainGlobals "_is_filling" = some (some (.ref f18)))
    {oc18 : Value} {od18 an18 : Option Addr} {sl18 : Array (Option Value)} {kV18 dc18 pm18 cd18 ct18 : Value}
    (l18 : K.lookup f18 = some ⟨oc18, od18, .func (PySem.W.fnOf "_is_filling" "_is_filling" (defArgs sIsFi) (defBody sIsFi) (defScope sIsFi) .none kV18 dc18 pm18 an18 cd18 ct18), sl18⟩)
    (c18 : PySem.W.codeIn K cd18 "_is_filling" = true)
    (k18 : PySem.W.keepIn K (.ref f18) = true)
    (a19 : PySem.W.nsIn K mainGlobals "table_of" = some (some (.ref f19)))
    {oc19 : Value} {od19 an19 : Option Addr} {sl19 : Array (Option Value)} {kV19 dc19 pm19 cd19 ct19 : Value}
    (l19 : K.lookup f19 = some ⟨oc19, od19, .func (PySem.W.fnOf "table_of" "table_of" (defArgs sTable) (defBody sTable) (defScope sTable) .none kV19 dc19 pm19 an19 cd19 ct19), sl19⟩)
    (c19 : PySem.W.codeIn K cd19 "table_of" = true)
    (k19 : PySem.W.keepIn K (.ref f19) = true)
    (a20 : PySem.W.nsIn K mainGlobals "_share_by" = some (some (.ref f20)))
    {oc20 : Value} {od20 an20 : Option Addr} {sl20 : Array (Option Value)} {kV20 dc20 pm20 cd20 ct20 : Value}
    (l20 : K.lookup f20 = some ⟨oc20, od20, .func (PySem.W.fnOf "_share_by" "_share_by" (defArgs sShareBy) (defBody sShareBy) (defScope sShareBy) .none kV20 dc20 pm20 an20 cd20 ct20), sl20⟩)
    (c20 : PySem.W.codeIn K cd20 "_share_by" = true)
    (k20 : PySem.W.keepIn K (.ref f20) = true)
    (a21 : PySem.W.nsIn K mainGlobals "_unit_rows" = some (some (.ref f21)))
    {oc21 : Value} {od21 an21 : Option Addr} {sl21 : Array (Option Value)} {kV21 dc21 pm21 cd21 ct21 : Value}
    (l21 : K.lookup f21 = some ⟨oc21, od21, .func (PySem.W.fnOf "_unit_rows" "_unit_rows" (defArgs sUnit) (defBody sUnit) (defScope sUnit) .none kV21 dc21 pm21 an21 cd21 ct21), sl21⟩)
    (c21 : PySem.W.codeIn K cd21 "_unit_rows" = true)
    (k21 : PySem.W.keepIn K (.ref f21) = true)
    (a22 : PySem.W.nsIn K mainGlobals "sent" = some (some (.ref f22)))
    {oc22 : Value} {od22 an22 : Option Addr} {sl22 : Array (Option Value)} {kV22 dc22 pm22 cd22 ct22 : Value}
    (l22 : K.lookup f22 = some ⟨oc22, od22, .func (PySem.W.fnOf "sent" "sent" (defArgs sSent) (defBody sSent) (defScope sSent) .none kV22 dc22 pm22 an22 cd22 ct22), sl22⟩)
    (c22 : PySem.W.codeIn K cd22 "sent" = true)
    (k22 : PySem.W.keepIn K (.ref f22) = true)
    (a23 : PySem.W.nsIn K mainGlobals "filled_up" = some (some (.ref f23)))
    {oc23 : Value} {od23 an23 : Option Addr} {sl23 : Array (Option Value)} {kV23 dc23 pm23 cd23 ct23 : Value}
    (l23 : K.lookup f23 = some ⟨oc23, od23, .func (PySem.W.fnOf "filled_up" "filled_up" (defArgs sFilled) (defBody sFilled) (defScope sFilled) .none kV23 dc23 pm23 an23 cd23 ct23), sl23⟩)
    (c23 : PySem.W.codeIn K cd23 "filled_up" = true)
    (k23 : PySem.W.keepIn K (.ref f23) = true)
    (a24 : PySem.W.nsIn K mainGlobals "seen_of" = some (some (.ref f24)))
    {oc24 : Value} {od24 an24 : Option Addr} {sl24 : Array (Option Value)} {kV24 dc24 pm24 cd24 ct24 : Value}
    (l24 : K.lookup f24 = some ⟨oc24, od24, .func (PySem.W.fnOf "seen_of" "seen_of" (defArgs sSeenOf) (defBody sSeenOf) (defScope sSeenOf) .none kV24 dc24 pm24 an24 cd24 ct24), sl24⟩)
    (c24 : PySem.W.codeIn K cd24 "seen_of" = true)
    (k24 : PySem.W.keepIn K (.ref f24) = true)
    (a25 : PySem.W.nsIn K mainGlobals "seen_in" = some (some (.ref f25)))
    {oc25 : Value} {od25 an25 : Option Addr} {sl25 : Array (Option Value)} {kV25 dc25 pm25 cd25 ct25 : Value}
    (l25 : K.lookup f25 = some ⟨oc25, od25, .func (PySem.W.fnOf "seen_in" "seen_in" (defArgs sSeenIn) (defBody sSeenIn) (defScope sSeenIn) .none kV25 dc25 pm25 an25 cd25 ct25), sl25⟩)
    (c25 : PySem.W.codeIn K cd25 "seen_in" = true)
    (k25 : PySem.W.keepIn K (.ref f25) = true)
    (a26 : PySem.W.nsIn K mainGlobals "looks_in" = some (some (.ref f26)))
    {oc26 : Value} {od26 an26 : Option Addr} {sl26 : Array (Option Value)} {kV26 dc26 pm26 cd26 ct26 : Value}
    (l26 : K.lookup f26 = some ⟨oc26, od26, .func (PySem.W.fnOf "looks_in" "looks_in" (defArgs sLooksIn) (defBody sLooksIn) (defScope sLooksIn) .none kV26 dc26 pm26 an26 cd26 ct26), sl26⟩)
    (c26 : PySem.W.codeIn K cd26 "looks_in" = true)
    (k26 : PySem.W.keepIn K (.ref f26) = true)
    (a27 : PySem.W.nsIn K mainGlobals "parting" = some (some (.ref f27)))
    {oc27 : Value} {od27 an27 : Option Addr} {sl27 : Array (Option Value)} {kV27 dc27 pm27 cd27 ct27 : Value}
    (l27 : K.lookup f27 = some ⟨oc27, od27, .func (PySem.W.fnOf "parting" "parting" (defArgs sParting) (defBody sParting) (defScope sParting) .none kV27 dc27 pm27 an27 cd27 ct27), sl27⟩)
    (c27 : PySem.W.codeIn K cd27 "parting" = true)
    (k27 : PySem.W.keepIn K (.ref f27) = true)
    (a28 : PySem.W.nsIn K mainGlobals "are_alike" = some (some (.ref f28)))
    {oc28 : Value} {od28 an28 : Option Addr} {sl28 : Array (Option Value)} {kV28 dc28 pm28 cd28 ct28 : Value}
    (l28 : K.lookup f28 = some ⟨oc28, od28, .func (PySem.W.fnOf "are_alike" "are_alike" (defArgs sAlike) (defBody sAlike) (defScope sAlike) .none kV28 dc28 pm28 an28 cd28 ct28), sl28⟩)
    (c28 : PySem.W.codeIn K cd28 "are_alike" = true)
    (k28 : PySem.W.keepIn K (.ref f28) = true)
    (a29 : PySem.W.nsIn K mainGlobals "_law_jar" = some (some (.ref f29)))
    {oc29 : Value} {od29 an29 : Option Addr} {sl29 : Array (Option Value)} {kV29 dc29 pm29 cd29 ct29 : Value}
    (l29 : K.lookup f29 = some ⟨oc29, od29, .func (PySem.W.fnOf "_law_jar" "_law_jar" (defArgs KJ.sJar) (defBody KJ.sJar) (defScope KJ.sJar) .none kV29 dc29 pm29 an29 cd29 ct29), sl29⟩)
    (c29 : PySem.W.codeIn K cd29 "_law_jar" = true)
    (k29 : PySem.W.keepIn K (.ref f29) = true)
    (a30 : PySem.W.nsIn K mainGlobals "_law_dip" = some (some (.ref f30)))
    {oc30 : Value} {od30 an30 : Option Addr} {sl30 : Array (Option Value)} {kV30 dc30 pm30 cd30 ct30 : Value}
    (l30 : K.lookup f30 = some ⟨oc30, od30, .func (PySem.W.fnOf "_law_dip" "_law_dip" (defArgs KJ.sDip) (defBody KJ.sDip) (defScope KJ.sDip) .none kV30 dc30 pm30 an30 cd30 ct30), sl30⟩)
    (c30 : PySem.W.codeIn K cd30 "_law_dip" = true)
    (k30 : PySem.W.keepIn K (.ref f30) = true)
    (a31 : PySem.W.nsIn K mainGlobals "_law_one_of" = some (some (.ref f31)))
    {oc31 : Value} {od31 an31 : Option Addr} {sl31 : Array (Option Value)} {kV31 dc31 pm31 cd31 ct31 : Value}
    (l31 : K.lookup f31 = some ⟨oc31, od31, .func (PySem.W.fnOf "_law_one_of" "_law_one_of" (defArgs KJ.sOne) (defBody KJ.sOne) (defScope KJ.sOne) .none kV31 dc31 pm31 an31 cd31 ct31), sl31⟩)
    (c31 : PySem.W.codeIn K cd31 "_law_one_of" = true)
    (k31 : PySem.W.keepIn K (.ref f31) = true)
    (a32 : PySem.W.nsIn K mainGlobals "_law_same" = some (some (.ref f32)))
    {oc32 : Value} {od32 an32 : Option Addr} {sl32 : Array (Option Value)} {kV32 dc32 pm32 cd32 ct32 : Value}
    (l32 : K.lookup f32 = some ⟨oc32, od32, .func (PySem.W.fnOf "_law_same" "_law_same" (defArgs lSame3) (defBody lSame3) (defScope lSame3) .none kV32 dc32 pm32 an32 cd32 ct32), sl32⟩)
    (c32 : PySem.W.codeIn K cd32 "_law_same" = true)
    (k32 : PySem.W.keepIn K (.ref f32) = true)
    (a33 : PySem.W.nsIn K mainGlobals "_law_frac" = some (some (.ref f33)))
    {oc33 : Value} {od33 an33 : Option Addr} {sl33 : Array (Option Value)} {kV33 dc33 pm33 cd33 ct33 : Value}
    (l33 : K.lookup f33 = some ⟨oc33, od33, .func (PySem.W.fnOf "_law_frac" "_law_frac" (defArgs lFrac) (defBody lFrac) (defScope lFrac) .none kV33 dc33 pm33 an33 cd33 ct33), sl33⟩)
    (c33 : PySem.W.codeIn K cd33 "_law_frac" = true)
    (k33 : PySem.W.keepIn K (.ref f33) = true)
    (a34 : PySem.W.nsIn K mainGlobals "_law_plus" = some (some (.ref f34)))
    {oc34 : Value} {od34 an34 : Option Addr} {sl34 : Array (Option Value)} {kV34 dc34 pm34 cd34 ct34 : Value}
    (l34 : K.lookup f34 = some ⟨oc34, od34, .func (PySem.W.fnOf "_law_plus" "_law_plus" (defArgs lPlus) (defBody lPlus) (defScope lPlus) .none kV34 dc34 pm34 an34 cd34 ct34), sl34⟩)
    (c34 : PySem.W.codeIn K cd34 "_law_plus" = true)
    (k34 : PySem.W.keepIn K (.ref f34) = true)
    (a35 : PySem.W.nsIn K mainGlobals "_law_less" = some (some (.ref f35)))
    {oc35 : Value} {od35 an35 : Option Addr} {sl35 : Array (Option Value)} {kV35 dc35 pm35 cd35 ct35 : Value}
    (l35 : K.lookup f35 = some ⟨oc35, od35, .func (PySem.W.fnOf "_law_less" "_law_less" (defArgs lLess) (defBody lLess) (defScope lLess) .none kV35 dc35 pm35 an35 cd35 ct35), sl35⟩)
    (c35 : PySem.W.codeIn K cd35 "_law_less" = true)
    (k35 : PySem.W.keepIn K (.ref f35) = true)
    (a36 : PySem.W.nsIn K mainGlobals "_law_by" = some (some (.ref f36)))
    {oc36 : Value} {od36 an36 : Option Addr} {sl36 : Array (Option Value)} {kV36 dc36 pm36 cd36 ct36 : Value}
    (l36 : K.lookup f36 = some ⟨oc36, od36, .func (PySem.W.fnOf "_law_by" "_law_by" (defArgs lBy) (defBody lBy) (defScope lBy) .none kV36 dc36 pm36 an36 cd36 ct36), sl36⟩)
    (c36 : PySem.W.codeIn K cd36 "_law_by" = true)
    (k36 : PySem.W.keepIn K (.ref f36) = true)
    (a37 : PySem.W.nsIn K mainGlobals "_law_told_part" = some (some (.ref f37)))
    {oc37 : Value} {od37 an37 : Option Addr} {sl37 : Array (Option Value)} {kV37 dc37 pm37 cd37 ct37 : Value}
    (l37 : K.lookup f37 = some ⟨oc37, od37, .func (PySem.W.fnOf "_law_told_part" "_law_told_part" (defArgs lToldPart) (defBody lToldPart) (defScope lToldPart) .none kV37 dc37 pm37 an37 cd37 ct37), sl37⟩)
    (c37 : PySem.W.codeIn K cd37 "_law_told_part" = true)
    (k37 : PySem.W.keepIn K (.ref f37) = true)
    (a38 : PySem.W.nsIn K mainGlobals "_law_lot" = some (some (.ref f38)))
    {oc38 : Value} {od38 an38 : Option Addr} {sl38 : Array (Option Value)} {kV38 dc38 pm38 cd38 ct38 : Value}
    (l38 : K.lookup f38 = some ⟨oc38, od38, .func (PySem.W.fnOf "_law_lot" "_law_lot" (defArgs lLot) (defBody lLot) (defScope lLot) .none kV38 dc38 pm38 an38 cd38 ct38), sl38⟩)
    (c38 : PySem.W.codeIn K cd38 "_law_lot" = true)
    (k38 : PySem.W.keepIn K (.ref f38) = true)
    (a39 : PySem.W.nsIn K mainGlobals "_law_net" = some (some (.ref f39)))
    {oc39 : Value} {od39 an39 : Option Addr} {sl39 : Array (Option Value)} {kV39 dc39 pm39 cd39 ct39 : Value}
    (l39 : K.lookup f39 = some ⟨oc39, od39, .func (PySem.W.fnOf "_law_net" "_law_net" (defArgs lNet) (defBody lNet) (defScope lNet) .none kV39 dc39 pm39 an39 cd39 ct39), sl39⟩)
    (c39 : PySem.W.codeIn K cd39 "_law_net" = true)
    (k39 : PySem.W.keepIn K (.ref f39) = true)
    (a40 : PySem.W.nsIn K mainGlobals "_law_assignment" = some (some (.ref f40)))
    {oc40 : Value} {od40 an40 : Option Addr} {sl40 : Array (Option Value)} {kV40 dc40 pm40 cd40 ct40 : Value}
    (l40 : K.lookup f40 = some ⟨oc40, od40, .func (PySem.W.fnOf "_law_assignment" "_law_assignment" (defArgs lAsn) (defBody lAsn) (defScope lAsn) .none kV40 dc40 pm40 an40 cd40 ct40), sl40⟩)
    (c40 : PySem.W.codeIn K cd40 "_law_assignment" = true)
    (k40 : PySem.W.keepIn K (.ref f40) = true)
    (a41 : PySem.W.nsIn K mainGlobals "_law_share" = some (some (.ref f41)))
    {oc41 : Value} {od41 an41 : Option Addr} {sl41 : Array (Option Value)} {kV41 dc41 pm41 cd41 ct41 : Value}
    (l41 : K.lookup f41 = some ⟨oc41, od41, .func (PySem.W.fnOf "_law_share" "_law_share" (defArgs lShare) (defBody lShare) (defScope lShare) .none kV41 dc41 pm41 an41 cd41 ct41), sl41⟩)
    (c41 : PySem.W.codeIn K cd41 "_law_share" = true)
    (k41 : PySem.W.keepIn K (.ref f41) = true)
    (a42 : PySem.W.nsIn K mainGlobals "_law_table" = some (some (.ref f42)))
    {oc42 : Value} {od42 an42 : Option Addr} {sl42 : Array (Option Value)} {kV42 dc42 pm42 cd42 ct42 : Value}
    (l42 : K.lookup f42 = some ⟨oc42, od42, .func (PySem.W.fnOf "_law_table" "_law_table" (defArgs lTable) (defBody lTable) (defScope lTable) .none kV42 dc42 pm42 an42 cd42 ct42), sl42⟩)
    (c42 : PySem.W.codeIn K cd42 "_law_table" = true)
    (k42 : PySem.W.keepIn K (.ref f42) = true)
    (a43 : PySem.W.nsIn K mainGlobals "_law_dot" = some (some (.ref f43)))
    {oc43 : Value} {od43 an43 : Option Addr} {sl43 : Array (Option Value)} {kV43 dc43 pm43 cd43 ct43 : Value}
    (l43 : K.lookup f43 = some ⟨oc43, od43, .func (PySem.W.fnOf "_law_dot" "_law_dot" (defArgs lDot) (defBody lDot) (defScope lDot) .none kV43 dc43 pm43 an43 cd43 ct43), sl43⟩)
    (c43 : PySem.W.codeIn K cd43 "_law_dot" = true)
    (k43 : PySem.W.keepIn K (.ref f43) = true)
    (a44 : PySem.W.nsIn K mainGlobals "_law_sent" = some (some (.ref f44)))
    {oc44 : Value} {od44 an44 : Option Addr} {sl44 : Array (Option Value)} {kV44 dc44 pm44 cd44 ct44 : Value}
    (l44 : K.lookup f44 = some ⟨oc44, od44, .func (PySem.W.fnOf "_law_sent" "_law_sent" (defArgs lSent) (defBody lSent) (defScope lSent) .none kV44 dc44 pm44 an44 cd44 ct44), sl44⟩)
    (c44 : PySem.W.codeIn K cd44 "_law_sent" = true)
    (k44 : PySem.W.keepIn K (.ref f44) = true)
    (a45 : PySem.W.nsIn K mainGlobals "_law_looks" = some (some (.ref f45)))
    {oc45 : Value} {od45 an45 : Option Addr} {sl45 : Array (Option Value)} {kV45 dc45 pm45 cd45 ct45 : Value}
    (l45 : K.lookup f45 = some ⟨oc45, od45, .func (PySem.W.fnOf "_law_looks" "_law_looks" (defArgs lLooks) (defBody lLooks) (defScope lLooks) .none kV45 dc45 pm45 an45 cd45 ct45), sl45⟩)
    (c45 : PySem.W.codeIn K cd45 "_law_looks" = true)
    (k45 : PySem.W.keepIn K (.ref f45) = true)
    (a46 : PySem.W.nsIn K mainGlobals "_law_fillings" = some (some (.ref f46)))
    {oc46 : Value} {od46 an46 : Option Addr} {sl46 : Array (Option Value)} {kV46 dc46 pm46 cd46 ct46 : Value}
    (l46 : K.lookup f46 = some ⟨oc46, od46, .func (PySem.W.fnOf "_law_fillings" "_law_fillings" (defArgs lFil) (defBody lFil) (defScope lFil) .none kV46 dc46 pm46 an46 cd46 ct46), sl46⟩)
    (c46 : PySem.W.codeIn K cd46 "_law_fillings" = true)
    (k46 : PySem.W.keepIn K (.ref f46) = true)
    (a47 : PySem.W.nsIn K mainGlobals "_law_over" = some (some (.ref f47)))
    {oc47 : Value} {od47 an47 : Option Addr} {sl47 : Array (Option Value)} {kV47 dc47 pm47 cd47 ct47 : Value}
    (l47 : K.lookup f47 = some ⟨oc47, od47, .func (PySem.W.fnOf "_law_over" "_law_over" (defArgs lOver) (defBody lOver) (defScope lOver) .none kV47 dc47 pm47 an47 cd47 ct47), sl47⟩)
    (c47 : PySem.W.codeIn K cd47 "_law_over" = true)
    (k47 : PySem.W.keepIn K (.ref f47) = true)
    (a48 : PySem.W.nsIn K mainGlobals "_law_parting" = some (some (.ref f48)))
    {oc48 : Value} {od48 an48 : Option Addr} {sl48 : Array (Option Value)} {kV48 dc48 pm48 cd48 ct48 : Value}
    (l48 : K.lookup f48 = some ⟨oc48, od48, .func (PySem.W.fnOf "_law_parting" "_law_parting" (defArgs lParting) (defBody lParting) (defScope lParting) .none kV48 dc48 pm48 an48 cd48 ct48), sl48⟩)
    (c48 : PySem.W.codeIn K cd48 "_law_parting" = true)
    (k48 : PySem.W.keepIn K (.ref f48) = true)
    (a49 : PySem.W.nsIn K mainGlobals "_law_family" = some (some (.ref f49)))
    {oc49 : Value} {od49 an49 : Option Addr} {sl49 : Array (Option Value)} {kV49 dc49 pm49 cd49 ct49 : Value}
    (l49 : K.lookup f49 = some ⟨oc49, od49, .func (PySem.W.fnOf "_law_family" "_law_family" (defArgs lFam) (defBody lFam) (defScope lFam) .none kV49 dc49 pm49 an49 cd49 ct49), sl49⟩)
    (c49 : PySem.W.codeIn K cd49 "_law_family" = true)
    (k49 : PySem.W.keepIn K (.ref f49) = true)
    (a50 : PySem.W.nsIn K mainGlobals "_law_pair" = some (some (.ref f50)))
    {oc50 : Value} {od50 an50 : Option Addr} {sl50 : Array (Option Value)} {kV50 dc50 pm50 cd50 ct50 : Value}
    (l50 : K.lookup f50 = some ⟨oc50, od50, .func (PySem.W.fnOf "_law_pair" "_law_pair" (defArgs lPair) (defBody lPair) (defScope lPair) .none kV50 dc50 pm50 an50 cd50 ct50), sl50⟩)
    (c50 : PySem.W.codeIn K cd50 "_law_pair" = true)
    (k50 : PySem.W.keepIn K (.ref f50) = true)
    (a51 : PySem.W.nsIn K mainGlobals "_law_shows" = some (some (.ref f51)))
    {oc51 : Value} {od51 an51 : Option Addr} {sl51 : Array (Option Value)} {kV51 dc51 pm51 cd51 ct51 : Value}
    (l51 : K.lookup f51 = some ⟨oc51, od51, .func (PySem.W.fnOf "_law_shows" "_law_shows" (defArgs lShows) (defBody lShows) (defScope lShows) .none kV51 dc51 pm51 an51 cd51 ct51), sl51⟩)
    (c51 : PySem.W.codeIn K cd51 "_law_shows" = true)
    (k51 : PySem.W.keepIn K (.ref f51) = true)
    (a52 : PySem.W.nsIn K mainGlobals "_law_right" = some (some (.ref f52)))
    {oc52 : Value} {od52 an52 : Option Addr} {sl52 : Array (Option Value)} {kV52 dc52 pm52 cd52 ct52 : Value}
    (l52 : K.lookup f52 = some ⟨oc52, od52, .func (PySem.W.fnOf "_law_right" "_law_right" (defArgs lRight3) (defBody lRight3) (defScope lRight3) .none kV52 dc52 pm52 an52 cd52 ct52), sl52⟩)
    (c52 : PySem.W.codeIn K cd52 "_law_right" = true)
    (k52 : PySem.W.keepIn K (.ref f52) = true)
    (a53 : PySem.W.nsIn K mainGlobals "law" = some (some (.ref f53)))
    {oc53 : Value} {od53 an53 : Option Addr} {sl53 : Array (Option Value)} {kV53 dc53 pm53 cd53 ct53 : Value}
    (l53 : K.lookup f53 = some ⟨oc53, od53, .func (PySem.W.fnOf "law" "law" (defArgs lLaw3) (defBody lLaw3) (defScope lLaw3) .none kV53 dc53 pm53 an53 cd53 ct53), sl53⟩)
    (c53 : PySem.W.codeIn K cd53 "law" = true)
    (k53 : PySem.W.keepIn K (.ref f53) = true)
    (ztype : PySem.W.nsIn K mainGlobals "type" = some none)
    (zint : PySem.W.nsIn K mainGlobals "int" = some none)
    (ztuple : PySem.W.nsIn K mainGlobals "tuple" = some none)
    (zstr : PySem.W.nsIn K mainGlobals "str" = some none)
    (zlen : PySem.W.nsIn K mainGlobals "len" = some none)
    (zabs : PySem.W.nsIn K mainGlobals "abs" = some none)
    (zall : PySem.W.nsIn K mainGlobals "all" = some none)
    (zenumerate : PySem.W.nsIn K mainGlobals "enumerate" = some none)
    (zzip : PySem.W.nsIn K mainGlobals "zip" = some none)
    (zisinstance : PySem.W.nsIn K mainGlobals "isinstance" = some none)
    (zbool : PySem.W.nsIn K mainGlobals "bool" = some none)
    (zrange : PySem.W.nsIn K mainGlobals "range" = some none)
    (zany : PySem.W.nsIn K mainGlobals "any" = some none)
    (zset : PySem.W.nsIn K mainGlobals "set" = some none)
    (zsorted : PySem.W.nsIn K mainGlobals "sorted" = some none)
    (zlist : PySem.W.nsIn K mainGlobals "list" = some none)
    (zrepr : PySem.W.nsIn K mainGlobals "repr" = some none)
    (zmax : PySem.W.nsIn K mainGlobals "max" = some none)
    (zmin : PySem.W.nsIn K mainGlobals "min" = some none)
    (zdivmod : PySem.W.nsIn K mainGlobals "divmod" = some none)
    {tk0 : Tok}
    (q0 : PySem.W.nsIn K mainGlobals "TOLD_BOUND" = some (some (.int 999 tk0)))
    {tk1 : Tok}
    (q1 : PySem.W.nsIn K mainGlobals "MOST_TANKS" = some (some (.int 4 tk1)))
    {tk2 : Tok}
    (q2 : PySem.W.nsIn K mainGlobals "MOST_UNKNOWNS" = some (some (.int 4 tk2)))
    {tk3 : Tok}
    (q3 : PySem.W.nsIn K mainGlobals "MOST_TOGETHER" = some (some (.int 7 tk3)))
    {tk4 : Tok}
    (q4 : PySem.W.nsIn K mainGlobals "MOST_PIPES" = some (some (.int 12 tk4)))
    {tk5 : Tok}
    (q5 : PySem.W.nsIn K mainGlobals "MOST_FILLINGS" = some (some (.int 30 tk5)))
    {tk6 : Tok}
    (q6 : PySem.W.nsIn K mainGlobals "MOST_LOOKS" = some (some (.int 20 tk6)))
    {aU : Addr} {odU : Option Addr} {taU tbU : Tok} {nU : Nat} {slU : Array (Option Value)}
    (qU : PySem.W.nsIn K mainGlobals "UNIT" = some (some (.ref aU)))
    (lU : K.lookup aU = some ⟨.type "tuple", odU, .seq #[.int 1 taU, .int 1 tbU] nU, slU⟩)
    {aN : Addr} {odN : Option Addr} {taN tbN : Tok} {nN : Nat} {slN : Array (Option Value)}
    (qN : PySem.W.nsIn K mainGlobals "NOUGHT" = some (some (.ref aN)))
    (lN : K.lookup aN = some ⟨.type "tuple", odN, .seq #[.int 0 taN, .int 1 tbN] nN, slN⟩)
    (qg : PySem.W.nsIn K mainGlobals "gcd" = some (some (.builtin "math.gcd")))
    (nt : PySem.W.noTabs K = true)
    : ∃ (fd : FuncData) (cs : List (Addr × Addr)) (sp : Sp), (∀ p ∈ cs, h.get? p.2 = some { cls := .none, data := .fields #[] }) ∧ (∀ p ∈ cs, K.lookup p.2 = none) ∧ (∀ p ∈ cs, PySem.W.CodeHd h p.1 p.2) ∧ (∀ (s : Shared) (u : Value), BindsTo s fd ⟨[u], []⟩ [("script", u)]) ∧
        (∀ (H : Hp) (a : Addr) (ns : List Int), ns.length ≤ 63 → (∀ p ∈ cs, H p.2 = some (.tbl #[])) → SqL K H a (ns.map V.int) → sp [.ref a] H (fun v _ => v = .bl true) fun _ _ _ => False) ∧
        ∀ base : Heap, K.In base → base.Ns mainGlobals mg → (∀ p ∈ cs, GxR.TabB base mg p.1 p.2) → FnG l.prog w K mg base 15 fa fd ["script"] sp := by
  have e := hfa.symm.trans (PySem.W.mg_of X G a53)
  cases e
  have F0 := fun_mk (st := sWhole) l0 c0 k0
  have m0 := PySem.W.mg_of X G a0
  have b0 := F0.binds (ps := ["value"]) fun _ _ _ _ _ _ us hl => match us, hl with | [_], _ => rfl
  have F1 := fun_mk (st := sWithin) l1 c1 k1
  have m1 := PySem.W.mg_of X G a1
  have b1 := F1.binds (ps := ["value", "least", "most"]) fun _ _ _ _ _ _ us hl => match us, hl with | [_, _, _], _ => rfl
  have F2 := fun_mk (st := sRatio) l2 c2 k2
  have m2 := PySem.W.mg_of X G a2
  have b2 := F2.binds (ps := ["value"]) fun _ _ _ _ _ _ us hl => match us, hl with | [_], _ => rfl
  have F3 := fun_mk (st := sTold) l3 c3 k3
  have m3 := PySem.W.mg_of X G a3
  have b3 := F3.binds (ps := ["value"]) fun _ _ _ _ _ _ us hl => match us, hl with | [_], _ => rfl
  have F4 := fun_mk (st := sNet) l4 c4 k4
  have m4 := PySem.W.mg_of X G a4
  have b4 := F4.binds (ps := ["value"]) fun _ _ _ _ _ _ us hl => match us, hl with | [_], _ => rfl
  have F5 := fun_mk (st := sPipes) l5 c5 k5
  have m5 := PySem.W.mg_of X G a5
  have b5 := F5.binds (ps := ["pipes", "many", "unknowns"]) fun _ _ _ _ _ _ us hl => match us, hl with | [_, _, _], _ => rfl
  have F6 := fun_mk (st := sPipe) l6 c6 k6
  have m6 := PySem.W.mg_of X G a6
  have b6 := F6.binds (ps := ["pipe", "many", "unknowns"]) fun _ _ _ _ _ _ us hl => match us, hl with | [_, _, _], _ => rfl
  have F7 := fun_mk (st := sShare) l7 c7 k7
  have m7 := PySem.W.mg_of X G a7
  have b7 := F7.binds (ps := ["share", "unknowns"]) fun _ _ _ _ _ _ us hl => match us, hl with | [_, _], _ => rfl
  have F8 := fun_mk (st := sTanks) l8 c8 k8
  have m8 := PySem.W.mg_of X G a8
  have b8 := F8.binds (ps := ["tanks", "many"]) fun _ _ _ _ _ _ us hl => match us, hl with | [_, _], _ => rfl
  have F9 := fun_mk (st := sLowest) l9 c9 k9
  have m9 := PySem.W.mg_of X G a9
  have b9 := F9.binds (ps := ["above", "below"]) fun _ _ _ _ _ _ us hl => match us, hl with | [_, _], _ => rfl
  have F10 := fun_mk (st := sAdded) l10 c10 k10
  have m10 := PySem.W.mg_of X G a10
  have b10 := F10.binds (ps := ["one", "two"]) fun _ _ _ _ _ _ us hl => match us, hl with | [_, _], _ => rfl
  have F11 := fun_mk (st := sNeg) l11 c11 k11
  have m11 := PySem.W.mg_of X G a11
  have b11 := F11.binds (ps := ["one"]) fun _ _ _ _ _ _ us hl => match us, hl with | [_], _ => rfl
  have F12 := fun_mk (st := sLess) l12 c12 k12
  have m12 := PySem.W.mg_of X G a12
  have b12 := F12.binds (ps := ["one", "two"]) fun _ _ _ _ _ _ us hl => match us, hl with | [_, _], _ => rfl
  have F13 := fun_mk (st := sMul) l13 c13 k13
  have m13 := PySem.W.mg_of X G a13
  have b13 := F13.binds (ps := ["one", "two"]) fun _ _ _ _ _ _ us hl => match us, hl with | [_, _], _ => rfl
  have F14 := fun_mk (st := sRowTimes) l14 c14 k14
  have m14 := PySem.W.mg_of X G a14
  have b14 := F14.binds (ps := ["row", "other"]) fun _ _ _ _ _ _ us hl => match us, hl with | [_, _], _ => rfl
  have F15 := fun_mk (st := sNeedNet) l15 c15 k15
  have m15 := PySem.W.mg_of X G a15
  have b15 := F15.binds (ps := ["net"]) fun _ _ _ _ _ _ us hl => match us, hl with | [_], _ => rfl
  have F16 := fun_mk (st := sNeedAs) l16 c16 k16
  have m16 := PySem.W.mg_of X G a16
  have b16 := F16.binds (ps := ["net", "assignment"]) fun _ _ _ _ _ _ us hl => match us, hl with | [_, _], _ => rfl
  have F17 := fun_mk (st := sNeedFi) l17 c17 k17
  have m17 := PySem.W.mg_of X G a17
  have b17 := F17.binds (ps := ["net", "fillings"]) fun _ _ _ _ _ _ us hl => match us, hl with | [_, _], _ => rfl
  have F18 := fun_mk (st := sIsFi) l18 c18 k18
  have m18 := PySem.W.mg_of X G a18
  have b18 := F18.binds (ps := ["net", "filling"]) fun _ _ _ _ _ _ us hl => match us, hl with | [_, _], _ => rfl
  have F19 := fun_mk (st := sTable) l19 c19 k19
  have m19 := PySem.W.mg_of X G a19
  have b19 := F19.binds (ps := ["net", "assignment"]) fun _ _ _ _ _ _ us hl => match us, hl with | [_, _], _ => rfl
  have F20 := fun_mk (st := sShareBy) l20 c20 k20
  have m20 := PySem.W.mg_of X G a20
  have b20 := F20.binds (ps := ["share", "assignment"]) fun _ _ _ _ _ _ us hl => match us, hl with | [_, _], _ => rfl
  have F21 := fun_mk (st := sUnit) l21 c21 k21
  have m21 := PySem.W.mg_of X G a21
  have b21 := F21.binds (ps := ["many"]) fun _ _ _ _ _ _ us hl => match us, hl with | [_], _ => rfl
  have F22 := fun_mk (st := sSent) l22 c22 k22
  have m22 := PySem.W.mg_of X G a22
  have b22 := F22.binds (ps := ["table", "held"]) fun _ _ _ _ _ _ us hl => match us, hl with | [_, _], _ => rfl
  have F23 := fun_mk (st := sFilled) l23 c23 k23
  have m23 := PySem.W.mg_of X G a23
  have b23 := F23.binds (ps := ["net", "held", "filling"]) fun _ _ _ _ _ _ us hl => match us, hl with | [_, _, _], _ => rfl
  have F24 := fun_mk (st := sSeenOf) l24 c24 k24
  have m24 := PySem.W.mg_of X G a24
  have b24 := F24.binds (ps := ["net", "held"]) fun _ _ _ _ _ _ us hl => match us, hl with | [_, _], _ => rfl
  have F25 := fun_mk (st := sSeenIn) l25 c25 k25
  have m25 := PySem.W.mg_of X G a25
  have b25 := F25.binds (ps := ["net", "assignment", "fillings"]) fun _ _ _ _ _ _ us hl => match us, hl with | [_, _, _], _ => rfl
  have F26 := fun_mk (st := sLooksIn) l26 c26 k26
  have m26 := PySem.W.mg_of X G a26
  have b26 := F26.binds (ps := ["net", "assignment", "many"]) fun _ _ _ _ _ _ us hl => match us, hl with | [_, _, _], _ => rfl
  have F27 := fun_mk (st := sParting) l27 c27 k27
  have m27 := PySem.W.mg_of X G a27
  have b27 := F27.binds (ps := ["net", "one", "other"]) fun _ _ _ _ _ _ us hl => match us, hl with | [_, _, _], _ => rfl
  have F28 := fun_mk (st := sAlike) l28 c28 k28
  have m28 := PySem.W.mg_of X G a28
  have b28 := F28.binds (ps := ["net", "one", "other"]) fun _ _ _ _ _ _ us hl => match us, hl with | [_, _, _], _ => rfl
  have F29 := fun_mk (st := KJ.sJar) l29 c29 k29
  have m29 := PySem.W.mg_of X G a29
  have b29 := F29.binds (ps := ["script", "turn"]) fun _ _ _ _ _ _ us hl => match us, hl with | [_, _], _ => rfl
  have F30 := fun_mk (st := KJ.sDip) l30 c30 k30
  have m30 := PySem.W.mg_of X G a30
  have b30 := F30.binds (ps := ["jar", "top"]) fun _ _ _ _ _ _ us hl => match us, hl with | [_, _], _ => rfl
  have F31 := fun_mk (st := KJ.sOne) l31 c31 k31
  have m31 := PySem.W.mg_of X G a31
  have b31 := F31.binds (ps := ["jar", "some"]) fun _ _ _ _ _ _ us hl => match us, hl with | [_, _], _ => rfl
  have F32 := fun_mk (st := lSame3) l32 c32 k32
  have m32 := PySem.W.mg_of X G a32
  have b32 := F32.binds (ps := ["told", "due"]) fun _ _ _ _ _ _ us hl => match us, hl with | [_, _], _ => rfl
  have F33 := fun_mk (st := lFrac) l33 c33 k33
  have m33 := PySem.W.mg_of X G a33
  have b33 := F33.binds (ps := ["top", "low"]) fun _ _ _ _ _ _ us hl => match us, hl with | [_, _], _ => rfl
  have F34 := fun_mk (st := lPlus) l34 c34 k34
  have m34 := PySem.W.mg_of X G a34
  have b34 := F34.binds (ps := ["one", "two"]) fun _ _ _ _ _ _ us hl => match us, hl with | [_, _], _ => rfl
  have F35 := fun_mk (st := lLess) l35 c35 k35
  have m35 := PySem.W.mg_of X G a35
  have b35 := F35.binds (ps := ["one", "two"]) fun _ _ _ _ _ _ us hl => match us, hl with | [_, _], _ => rfl
  have F36 := fun_mk (st := lBy) l36 c36 k36
  have m36 := PySem.W.mg_of X G a36
  have b36 := F36.binds (ps := ["one", "two"]) fun _ _ _ _ _ _ us hl => match us, hl with | [_, _], _ => rfl
  have F37 := fun_mk (st := lToldPart) l37 c37 k37
  have m37 := PySem.W.mg_of X G a37
  have b37 := F37.binds (ps := ["jar"]) fun _ _ _ _ _ _ us hl => match us, hl with | [_], _ => rfl
  have F38 := fun_mk (st := lLot) l38 c38 k38
  have m38 := PySem.W.mg_of X G a38
  have b38 := F38.binds (ps := ["jar", "many"]) fun _ _ _ _ _ _ us hl => match us, hl with | [_, _], _ => rfl
  have F39 := fun_mk (st := lNet) l39 c39 k39
  have m39 := PySem.W.mg_of X G a39
  have b39 := F39.binds (ps := ["jar", "most"]) fun _ _ _ _ _ _ us hl => match us, hl with | [_, _], _ => rfl
  have F40 := fun_mk (st := lAsn) l40 c40 k40
  have m40 := PySem.W.mg_of X G a40
  have b40 := F40.binds (ps := ["jar", "net"]) fun _ _ _ _ _ _ us hl => match us, hl with | [_, _], _ => rfl
  have F41 := fun_mk (st := lShare) l41 c41 k41
  have m41 := PySem.W.mg_of X G a41
  have b41 := F41.binds (ps := ["share", "assignment"]) fun _ _ _ _ _ _ us hl => match us, hl with | [_, _], _ => rfl
  have F42 := fun_mk (st := lTable) l42 c42 k42
  have m42 := PySem.W.mg_of X G a42
  have b42 := F42.binds (ps := ["net", "assignment"]) fun _ _ _ _ _ _ us hl => match us, hl with | [_, _], _ => rfl
  have F43 := fun_mk (st := lDot) l43 c43 k43
  have m43 := PySem.W.mg_of X G a43
  have b43 := F43.binds (ps := ["one", "two"]) fun _ _ _ _ _ _ us hl => match us, hl with | [_, _], _ => rfl
  have F44 := fun_mk (st := lSent) l44 c44 k44
  have m44 := PySem.W.mg_of X G a44
  have b44 := F44.binds (ps := ["table", "held"]) fun _ _ _ _ _ _ us hl => match us, hl with | [_, _], _ => rfl
  have F45 := fun_mk (st := lLooks) l45 c45 k45
  have m45 := PySem.W.mg_of X G a45
  have b45 := F45.binds (ps := ["net", "assignment", "many"]) fun _ _ _ _ _ _ us hl => match us, hl with | [_, _, _], _ => rfl
  have F46 := fun_mk (st := lFil) l46 c46 k46
  have m46 := PySem.W.mg_of X G a46
  have b46 := F46.binds (ps := ["jar", "net", "most"]) fun _ _ _ _ _ _ us hl => match us, hl with | [_, _, _], _ => rfl
  have F47 := fun_mk (st := lOver) l47 c47 k47
  have m47 := PySem.W.mg_of X G a47
  have b47 := F47.binds (ps := ["one", "two"]) fun _ _ _ _ _ _ us hl => match us, hl with | [_, _], _ => rfl
  have F48 := fun_mk (st := lParting) l48 c48 k48
  have m48 := PySem.W.mg_of X G a48
  have b48 := F48.binds (ps := ["net", "one", "two"]) fun _ _ _ _ _ _ us hl => match us, hl with | [_, _, _], _ => rfl
  have F49 := fun_mk (st := lFam) l49 c49 k49
  have m49 := PySem.W.mg_of X G a49
  have b49 := F49.binds (ps := ["jar"]) fun _ _ _ _ _ _ us hl => match us, hl with | [_], _ => rfl
  have F50 := fun_mk (st := lPair) l50 c50 k50
  have m50 := PySem.W.mg_of X G a50
  have b50 := F50.binds (ps := ["jar"]) fun _ _ _ _ _ _ us hl => match us, hl with | [_], _ => rfl
  have F51 := fun_mk (st := lShows) l51 c51 k51
  have m51 := PySem.W.mg_of X G a51
  have b51 := F51.binds (ps := ["net", "one", "two", "look"]) fun _ _ _ _ _ _ us hl => match us, hl with | [_, _, _, _], _ => rfl
  have F52 := fun_mk (st := lRight3) l52 c52 k52
  have m52 := PySem.W.mg_of X G a52
  have b52 := F52.binds (ps := ["jar"]) fun _ _ _ _ _ _ us hl => match us, hl with | [_], _ => rfl
  have F53 := fun_mk (st := lLaw3) l53 c53 k53
  have m53 := PySem.W.mg_of X G a53
  have b53 := F53.binds (ps := ["script"]) fun _ _ _ _ _ _ us hl => match us, hl with | [_], _ => rfl
  obtain ⟨cp, Pp, ecp, cdp, gp, nnp⟩ := tab_def X m5 l5 nt tp
  have ecp : cd5 = .ref cp := ecp
  have FCp : FunC K "_are_pipes" "_are_pipes" sPipes f5 _ cp := ⟨_, _, _, _, _, _, _, _, by rw [ecp], l5, by rw [← ecp]; exact c5⟩
  obtain ⟨ct, Pt, ect, cdt, gt, nnt⟩ := tab_def X m8 l8 nt tt
  have ect : cd8 = .ref ct := ect
  have FCt : FunC K "_are_tanks" "_are_tanks" sTanks f8 _ ct := ⟨_, _, _, _, _, _, _, _, by rw [ect], l8, by rw [← ect]; exact c8⟩
  obtain ⟨cf, Pf, ecf, cdf, gf, nnf⟩ := tab_def X m18 l18 nt tf
  have ecf : cd18 = .ref cf := ecf
  have FCf : FunC K "_is_filling" "_is_filling" sIsFi f18 _ cf := ⟨_, _, _, _, _, _, _, _, by rw [ecf], l18, by rw [← ecf]; exact c18⟩
  have TT : TxT mg := ⟨PySem.W.mg_none_of X G ztype, PySem.W.mg_none_of X G zint, PySem.W.mg_none_of X G ztuple, PySem.W.mg_none_of X G zstr, PySem.W.mg_none_of X G zlen, PySem.W.mg_none_of X G zabs, PySem.W.mg_none_of X G zall, PySem.W.mg_none_of X G zenumerate, PySem.W.mg_none_of X G zzip⟩
  have TL : TxL mg := { toTxT := TT, isinstance := PySem.W.mg_none_of X G zisinstance, bool := PySem.W.mg_none_of X G zbool, range := PySem.W.mg_none_of X G zrange, any := PySem.W.mg_none_of X G zany }
  have TD : TxD mg := { toTxL := TL, set := PySem.W.mg_none_of X G zset, sorted := PySem.W.mg_none_of X G zsorted, list := PySem.W.mg_none_of X G zlist, repr := PySem.W.mg_none_of X G zrepr, max := PySem.W.mg_none_of X G zmax, min := PySem.W.mg_none_of X G zmin }
  have TJ : TxJ mg := ⟨PySem.W.mg_none_of X G zint, PySem.W.mg_none_of X G zlen, PySem.W.mg_none_of X G zabs, PySem.W.mg_none_of X G zdivmod⟩
  have mZ : mg "zip" = none := PySem.W.mg_none_of X G zzip
  have mc0 := PySem.W.mg_of X G q0
  have mc1 := PySem.W.mg_of X G q1
  have mc2 := PySem.W.mg_of X G q2
  have mc3 := PySem.W.mg_of X G q3
  have mc4 := PySem.W.mg_of X G q4
  have mc5 := PySem.W.mg_of X G q5
  have mc6 := PySem.W.mg_of X G q6
  have mg1 := PySem.W.mg_of X G qg
  have CU : ∀ H, SqT K H aU [.int 1, .int 1] := fun H => .inr ⟨_, _, _, lU, rfl, rfl, (by show 2 ≤ sizeLine; decide), .cons ⟨_, rfl⟩ (.cons ⟨_, rfl⟩ .nil)⟩
  have CN : ∀ H, SqT K H aN [.int 0, .int 1] := fun H => .inr ⟨_, _, _, lN, rfl, rfl, (by show 2 ≤ sizeLine; decide), .cons ⟨_, rfl⟩ (.cons ⟨_, rfl⟩ .nil)⟩
  have CC : Cst K mg aU aN := ⟨PySem.W.mg_of X G qU, PySem.W.mg_of X G qN, CU, CN⟩
  have bkR : KBinds K (PySem.W.fnOf "are_alike" "are_alike" (defArgs sAlike) (defBody sAlike) (defScope sAlike) .none kV28 dc28 pm28 an28 cd28 ct28) ["net", "one", "other"] ["other", "one", "net"] gRev gRevV := binds3 (fun s a b c => .of_eq rfl) (fun s a b c => .of_eq rfl) (fun s a b c => .of_eq rfl) (fun s a b c => .of_eq rfl)
  refine ⟨PySem.W.fnOf "law" "law" (defArgs lLaw3) (defBody lLaw3) (defScope lLaw3) .none kV53 dc53 pm53 an53 cd53 ct53, [(cp, Pp), (ct, Pt), (cf, Pf)], spLaw3 K [Pp, Pt, Pf], ?_, ?_, ?_, fun s v => .of_eq rfl, fun H a ns hl ht hS => ⟨a, ns, rfl, hS, hl, ?_, fun _ => rfl⟩, fun base _ _ TB => ?_⟩
  · intro p hp
    simp only [List.mem_cons, List.not_mem_nil, or_false] at hp
    rcases hp with rfl | rfl | rfl <;> assumption
  · intro p hp
    simp only [List.mem_cons, List.not_mem_nil, or_false] at hp
    rcases hp with rfl | rfl | rfl <;> assumption
  · intro p hp
    simp only [List.mem_cons, List.not_mem_nil, or_false] at hp
    rcases hp with rfl | rfl | rfl <;> assumption
  · intro p hp
    simp only [List.mem_cons, List.not_mem_nil, or_false] at hp
    rcases hp with rfl | rfl | rfl
    · exact ⟨#[], ht (cp, p) (by simp), trivial⟩
    · exact ⟨#[], ht (ct, p) (by simp), trivial⟩
    · exact ⟨#[], ht (cf, p) (by simp), trivial⟩
  have TBp := TB (cp, Pp) (by simp)
  have TBt := TB (ct, Pt) (by simp)
  have TBf := TB (cf, Pf) (by simp)
  have G0 := ok_whole (P := l.prog) (w := w) (base := base) F0 TT
  have G1 := ok_within F1 G0 m0 k0 b0
  have G2 := ok_ratio F2 TT mg1 G0 m0 k0 b0
  have G3 := ok_told F3 TT mc0 ⟨_, rfl⟩ G2 m2 k2 b2
  have G7 := ok_share F7 TT G1 m1 k1 b1 G3 m3 k3 b3
  have G6 := ok_pipe F6 TT G1 m1 k1 b1 G7 m7 k7 b7
  have G5 := ok_pipes (Ps := [Pp, Pt, Pf]) FCp TT TBp (by simp) mc4 ⟨_, rfl⟩ G6 m6 k6 b6
  have G8 := ok_tanks (Ps := [Pp, Pt, Pf]) FCt TT TBt (by simp) G1 m1 k1 b1
  have G4 := ok_net F4 TT mc1 ⟨_, rfl⟩ mc2 ⟨_, rfl⟩ mc3 ⟨_, rfl⟩ G1 m1 k1 b1 G5 m5 k5 b5 G8 m8 k8 b8
  have G9 := ok_lowest (P := l.prog) (w := w) (base := base) F9 mg1
  have G10 := ok_added F10 G9 m9 k9 b9
  have G11 := ok_negative (P := l.prog) (w := w) (base := base) (mg := mg) F11
  have G12 := ok_lessened F12 G10 m10 k10 b10 G11 m11 k11 b11
  have G13 := ok_multiplied F13 G9 m9 k9 b9
  have G14 := ok_rowtimes F14 TD mZ CC G10 m10 k10 b10 G13 m13 k13 b13
  have G15 := ok_neednet F15 G4 m4 k4 b4
  have G16 := ok_needas F16 TT G3 m3 k3 b3
  have G18 := ok_isfi (Ps := [Pp, Pt, Pf]) FCf TT TBf (by simp) G3 m3 k3 b3
  have G17 := ok_needfi F17 TT mc5 ⟨_, rfl⟩ G18 m18 k18 b18
  have G20 := ok_shareby (P := l.prog) (w := w) (base := base) (mg := mg) F20
  have G21 := ok_unit (P := l.prog) (w := w) (base := base) F21 TD CC
  have G19 := ok_tableof F19 TD G15 m15 k15 b15 G16 m16 k16 b16 G21 m21 k21 b21 G20 m20 k20 b20 G12 m12 k12 b12 G10 m10 k10 b10
  have G22 := ok_sent F22 TD G14 m14 k14 b14
  have G23 := ok_filled F23 TD mZ G10 m10 k10 b10
  have G24 := ok_seenof (P := l.prog) (w := w) (base := base) F24 TD
  have G25 := ok_seenin F25 TD CC G15 m15 k15 b15 G16 m16 k16 b16 G17 m17 k17 b17 G19 m19 k19 b19 G22 m22 k22 b22 G23 m23 k23 b23 G24 m24 k24 b24
  have G29 := ok_jar (P := l.prog) (w := w) (base := base) F29 TJ
  have G30 := ok_dip (P := l.prog) (w := w) (base := base) F30 TJ
  have G31 := ok_one F31 TJ G30 m30 k30 b30
  have G33 := ok_fracW (P := l.prog) (w := w) (base := base) F33 TT
  have G34 := ok_plusL F34 G33 m33 k33 b33
  have G35 := ok_lessL F35 G33 m33 k33 b33
  have G36 := ok_byL F36 G33 m33 k33 b33
  have G37 := ok_part2 F37 G30 m30 k30 b30 G31 m31 k31 b31 G33 m33 k33 b33
  have G38 := ok_lot2 F38 TD G30 m30 k30 b30
  have G39 := ok_make2 F39 TD G30 m30 k30 b30 G31 m31 k31 b31 G37 m37 k37 b37 G38 m38 k38 b38
  have G40 := ok_asn F40 TD G37 m37 k37 b37
  have G46 := ok_fil F46 TD G30 m30 k30 b30 G37 m37 k37 b37
  have G41 := ok_shareL (P := l.prog) (w := w) (base := base) (mg := mg) F41
  have G42 := ok_tableL F42 TD G41 m41 k41 b41 G35 m35 k35 b35 G34 m34 k34 b34
  have G43 := ok_dotL F43 TD mZ G34 m34 k34 b34 G36 m36 k36 b36
  have G44 := ok_sentL F44 TD G43 m43 k43 b43
  have G26 := ok_looksin F26 TD CC mc6 ⟨_, rfl⟩ G15 m15 k15 b15 G16 m16 k16 b16 G1 m1 k1 b1 G19 m19 k19 b19 G21 m21 k21 b21 G22 m22 k22 b22
  have G45 := ok_looksL F45 TD G42 m42 k42 b42 G44 m44 k44 b44
  have G27 := ok_parting F27 TD G15 m15 k15 b15 G16 m16 k16 b16 G26 m26 k26 b26
  have G28 := ok_alike F28 G27 m27 k27 b27
  have G47 := ok_over F47 G33 m33 k33 b33
  have G48 := ok_partL F48 TD G45 m45 k45 b45
  have G36T := ok_byT F36 G33 m33 k33 b33
  have G34T := ok_plusT F34 G33 m33 k33 b33
  have G35T := ok_lessT F35 G33 m33 k33 b33
  have G49 := ok_fam F49 TD G30 m30 k30 b30 G31 m31 k31 b31 G37 m37 k37 b37 G38 m38 k38 b38 G36T m36 k36 b36 G47 m47 k47 b47 G34T m34 k34 b34 G35T m35 k35 b35
  have G50 := ok_pair F50 TD G30 m30 k30 b30 G49 m49 k49 b49 G39 m39 k39 b39 G40 m40 k40 b40
  have G51 := ok_shows F51 TD G25 m25 k25 b25
  have G32 := ok_same3 (P := l.prog) (w := w) (base := base) F32 TD
  have G52 := ok_right5 F52 TD G50 m50 k50 b50 G48 m48 k48 b48 G28 m28 k28 b28 bkR G32 m32 k32 b32 G51 m51 k51 b51 G46 m46 k46 b46 G25 m25 k25 b25 G26 m26 k26 b26
  exact ok_law3 F53 TD G52 m52 k52 b52 G29 m29 k29 b29
end KP

set_option Elab.async false
set_option linter.all false
open PySem PySem.W PyProof.Rows in
set_option maxRecDepth 100000 in
set_option maxHeartbeats 0 in
theorem PySem.Challenge.cw_hiddenrates_k05_whole_alike_exactly_by_f_holds : PySem.Challenge.rw_hiddenrates_k05_whole_alike_exactly_by_f.Holds := by
  w_on; o_law; k_head; (case hw => w_witness2)
  k_fill
  refine KG.walkGT (l := PySem.Challenge.rw_hiddenrates_k05_whole_alike_exactly_by_f) (n := 63) (k := 15) (x := "script") rfl (by decide) rfl ⟨rfl, by decide, by decide⟩ (fun w h Y => PySem.W.kIn_of Y) ?F
  case F =>
    intro w mg fa h inK G hmg tab
    refine' _root_.KP.all_mk5 inK G hmg (tab _ ?tp) (tab _ ?tt) (tab _ ?tf) ?a0 ?l0 ?c0 ?k0 ?a1 ?l1 ?c1 ?k1 ?a2 ?l2 ?c2 ?k2 ?a3 ?l3 ?c3 ?k3 ?a4 ?l4 ?c4 ?k4 ?a5 ?l5 ?c5 ?k5 ?a6 ?l6 ?c6 ?k6 ?a7 ?l7 ?c7 ?k7 ?a8 ?l8 ?c8 ?k8 ?a9 ?l9 ?c9 ?k9 ?a10 ?l10 ?c10 ?k10 ?a11 ?l11 ?c11 ?k11 ?a12 ?l12 ?c12 ?k12 ?a13 ?l13 ?c13 ?k13 ?a14 ?l14 ?c14 ?k14 ?a15 ?l15 ?c15 ?k15 ?a16 ?l16 ?c16 ?k16 ?a17 ?l17 ?c17 ?k17 ?a18 ?l18 ?c18 ?k18 ?a19 ?l19 ?c19 ?k19 ?a20 ?l20 ?c20 ?k20 ?a21 ?l21 ?c21 ?k21 ?a22 ?l22 ?c22 ?k22 ?a23 ?l23 ?c23 ?k23 ?a24 ?l24 ?c24 ?k24 ?a25 ?l25 ?c25 ?k25 ?a26 ?l26 ?c26 ?k26 ?a27 ?l27 ?c27 ?k27 ?a28 ?l28 ?c28 ?k28 ?a29 ?l29 ?c29 ?k29 ?a30 ?l30 ?c30 ?k30 ?a31 ?l31 ?c31 ?k31 ?a32 ?l32 ?c32 ?k32 ?a33 ?l33 ?c33 ?k33 ?a34 ?l34 ?c34 ?k34 ?a35 ?l35 ?c35 ?k35 ?a36 ?l36 ?c36 ?k36 ?a37 ?l37 ?c37 ?k37 ?a38 ?l38 ?c38 ?k38 ?a39 ?l39 ?c39 ?k39 ?a40 ?l40 ?c40 ?k40 ?a41 ?l41 ?c41 ?k41 ?a42 ?l42 ?c42 ?k42 ?a43 ?l43 ?c43 ?k43 ?a44 ?l44 ?c44 ?k44 ?a45 ?l45 ?c45 ?k45 ?a46 ?l46 ?c46 ?k46 ?a47 ?l47 ?c47 ?k47 ?a48 ?l48 ?c48 ?k48 ?a49 ?l49 ?c49 ?k49 ?a50 ?l50 ?c50 ?k50 ?a51 ?l51 ?c51 ?k51 ?a52 ?l52 ?c52 ?k52 ?a53 ?l53 ?c53 ?k53 ?ztype ?zint ?ztuple ?zstr ?zlen ?zabs ?zall ?zenumerate ?zzip ?zisinstance ?zbool ?zrange ?zany ?zset ?zsorted ?zlist ?zrepr ?zmax ?zmin ?zdivmod ?q0 ?q1 ?q2 ?q3 ?q4 ?q5 ?q6 ?qU ?lU ?qN ?lN ?qg ?nt
    (case a0 => k_is)
    (case l0 => k_is)
    (case c0 => k_is)
    (case k0 => k_is)
    (case a1 => k_is)
    (case l1 => k_is)
    (case c1 => k_is)
    (case k1 => k_is)
    (case a2 => k_is)
    (case l2 => k_is)
    (case c2 => k_is)
    (case k2 => k_is)
    (case a3 => k_is)
    (case l3 => k_is)
    (case c3 => k_is)
    (case k3 => k_is)
    (case a4 => k_is)
    (case l4 => k_is)
    (case c4 => k_is)
    (case k4 => k_is)
    (case a5 => k_is)
    (case l5 => k_is)
    (case c5 => k_is)
    (case k5 => k_is)
    (case a6 => k_is)
    (case l6 => k_is)
    (case c6 => k_is)
    (case k6 => k_is)
    (case a7 => k_is)
    (case l7 => k_is)
    (case c7 => k_is)
    (case k7 => k_is)
    (case a8 => k_is)
    (case l8 => k_is)
    (case c8 => k_is)
    (case k8 => k_is)
    (case a9 => k_is)
    (case l9 => k_is)
    (case c9 => k_is)
    (case k9 => k_is)
    (case a10 => k_is)
    (case l10 => k_is)
    (case c10 => k_is)
    (case k10 => k_is)
    (case a11 => k_is)
    (case l11 => k_is)
    (case c11 => k_is)
    (case k11 => k_is)
    (case a12 => k_is)
    (case l12 => k_is)
    (case c12 => k_is)
    (case k12 => k_is)
    (case a13 => k_is)
    (case l13 => k_is)
    (case c13 => k_is)
    (case k13 => k_is)
    (case a14 => k_is)
    (case l14 => k_is)
    (case c14 => k_is)
    (case k14 => k_is)
    (case a15 => k_is)
    (case l15 => k_is)
    (case c15 => k_is)
    (case k15 => k_is)
    (case a16 => k_is)
    (case l16 => k_is)
    (case c16 => k_is)
    (case k16 => k_is)
    (case a17 => k_is)
    (case l17 => k_is)
    (case c17 => k_is)
    (case k17 => k_is)
    (case a18 => k_is)
    (case l18 => k_is)
    (case c18 => k_is)
    (case k18 => k_is)
    (case a19 => k_is)
    (case l19 => k_is)
    (case c19 => k_is)
    (case k19 => k_is)
    (case a20 => k_is)
    (case l20 => k_is)
    (case c20 => k_is)
    (case k20 => k_is)
    (case a21 => k_is)
    (case l21 => k_is)
    (case c21 => k_is)
    (case k21 => k_is)
    (case a22 => k_is)
    (case l22 => k_is)
    (case c22 => k_is)
    (case k22 => k_is)
    (case a23 => k_is)
    (case l23 => k_is)
    (case c23 => k_is)
    (case k23 => k_is)
    (case a24 => k_is)
    (case l24 => k_is)
    (case c24 => k_is)
    (case k24 => k_is)
    (case a25 => k_is)
    (case l25 => k_is)
    (case c25 => k_is)
    (case k25 => k_is)
    (case a26 => k_is)
    (case l26 => k_is)
    (case c26 => k_is)
    (case k26 => k_is)
    (case a27 => k_is)
    (case l27 => k_is)
    (case c27 => k_is)
    (case k27 => k_is)
    (case a28 => k_is)
    (case l28 => k_is)
    (case c28 => k_is)
    (case k28 => k_is)
    (case a29 => k_is)
    (case l29 => k_is)
    (case c29 => k_is)
    (case k29 => k_is)
    (case a30 => k_is)
    (case l30 => k_is)
    (case c30 => k_is)
    (case k30 => k_is)
    (case a31 => k_is)
    (case l31 => k_is)
    (case c31 => k_is)
    (case k31 => k_is)
    (case a32 => k_is)
    (case l32 => k_is)
    (case c32 => k_is)
    (case k32 => k_is)
    (case a33 => k_is)
    (case l33 => k_is)
    (case c33 => k_is)
    (case k33 => k_is)
    (case a34 => k_is)
    (case l34 => k_is)
    (case c34 => k_is)
    (case k34 => k_is)
    (case a35 => k_is)
    (case l35 => k_is)
    (case c35 => k_is)
    (case k35 => k_is)
    (case a36 => k_is)
    (case l36 => k_is)
    (case c36 => k_is)
    (case k36 => k_is)
    (case a37 => k_is)
    (case l37 => k_is)
    (case c37 => k_is)
    (case k37 => k_is)
    (case a38 => k_is)
    (case l38 => k_is)
    (case c38 => k_is)
    (case k38 => k_is)
    (case a39 => k_is)
    (case l39 => k_is)
    (case c39 => k_is)
    (case k39 => k_is)
    (case a40 => k_is)
    (case l40 => k_is)
    (case c40 => k_is)
    (case k40 => k_is)
    (case a41 => k_is)
    (case l41 => k_is)
    (case c41 => k_is)
    (case k41 => k_is)
    (case a42 => k_is)
    (case l42 => k_is)
    (case c42 => k_is)
    (case k42 => k_is)
    (case a43 => k_is)
    (case l43 => k_is)
    (case c43 => k_is)
    (case k43 => k_is)
    (case a44 => k_is)
    (case l44 => k_is)
    (case c44 => k_is)
    (case k44 => k_is)
    (case a45 => k_is)
    (case l45 => k_is)
    (case c45 => k_is)
    (case k45 => k_is)
    (case a46 => k_is)
    (case l46 => k_is)
    (case c46 => k_is)
    (case k46 => k_is)
    (case a47 => k_is)
    (case l47 => k_is)
    (case c47 => k_is)
    (case k47 => k_is)
    (case a48 => k_is)
    (case l48 => k_is)
    (case c48 => k_is)
    (case k48 => k_is)
    (case a49 => k_is)
    (case l49 => k_is)
    (case c49 => k_is)
    (case k49 => k_is)
    (case a50 => k_is)
    (case l50 => k_is)
    (case c50 => k_is)
    (case k50 => k_is)
    (case a51 => k_is)
    (case l51 => k_is)
    (case c51 => k_is)
    (case k51 => k_is)
    (case a52 => k_is)
    (case l52 => k_is)
    (case c52 => k_is)
    (case k52 => k_is)
    (case a53 => k_is)
    (case l53 => k_is)
    (case c53 => k_is)
    (case k53 => k_is)
    (case ztype => k_is)
    (case zint => k_is)
    (case ztuple => k_is)
    (case zstr => k_is)
    (case zlen => k_is)
    (case zabs => k_is)
    (case zall => k_is)
    (case zenumerate => k_is)
    (case zzip => k_is)
    (case zisinstance => k_is)
    (case zbool => k_is)
    (case zrange => k_is)
    (case zany => k_is)
    (case zset => k_is)
    (case zsorted => k_is)
    (case zlist => k_is)
    (case zrepr => k_is)
    (case zmax => k_is)
    (case zmin => k_is)
    (case zdivmod => k_is)
    (case q0 => k_is)
    (case q1 => k_is)
    (case q2 => k_is)
    (case q3 => k_is)
    (case q4 => k_is)
    (case q5 => k_is)
    (case q6 => k_is)
    (case qU => k_is)
    (case lU => k_is)
    (case qN => k_is)
    (case lN => k_is)
    (case qg => k_is)
    (case nt => kernel_rfl)
    (case tp => kernel_rfl)
    (case tt => kernel_rfl)
    (case tf => kernel_rfl)


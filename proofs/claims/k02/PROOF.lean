import PyProof.Rows.All
import Wide.All
import OpenK.AllK
import Wide.FinOn
import HandS.ForMost
import HandS.Evl
import HandS.ExcInit
import HandS.ExcIs
import HandS.ExcField
import HandS.WideBits
import PyProof.ReprRoads
import KE.KExcIs
import HandS.IsInst
import HandS.ExcValue
import HandS.Wide
import HandS.Walk
import HandS.AnyAll
import HandS.GenList
import HandS.EndTab
import PySem.Challenge.RW_hiddenrates_k02_whole_nets_of_anything
import HandS.Gcd
import HandS.More
import HandS.Zip
import KE.GoesEnum
import HandS.Iter
import HandS.Deep
import HandS.TupAny
import HandS.Conv
import HandS.SetFor
import HandS.Strs
import KE.KRevSl
import HandS.Style
import KE.KNest
set_option Elab.async false
set_option linter.all false
set_option maxRecDepth 100000
set_option maxHeartbeats 4000000
/-! ### calls made where no repr is under way: the promise of a def for such callers alone -/
namespace KX
open PySem PySem.Spec PyProof.Rows L2

abbrev Quiet (A : Around) : Prop := A.guards = some []
structure FnG (P : Program) (w : World) (K : PySem.W.Frag) (mg : Str → Option Value) (base : Heap) (k : Nat) (f : Addr) (fd : FuncData) (ps : List Str) (sp : Sp) : Prop where
  arity : ∀ {vs H Q E}, sp vs H Q E → vs.length = ps.length
  goes : ∀ {A outer s H args us vs Q E}, Quiet A → Room k A → Env0 P w K mg base A outer s H → BindsTo s fd args (ps.zip us) → Vals vs us → sp vs H Q E →
    codeAny (model P w) A (.call (.ref f) args) (CR CX0 outer P w H s Q E) s

section
variable {P : Program} {w : World} {K : PySem.W.Frag} {mg : Str → Option Value} {base : Heap} {k : Nat} {f : Addr} {fd : FuncData} {ps : List Str} {sp : Sp}
theorem FnG.of (F : FnOk P w K mg base CX0 k f fd ps sp) : FnG P w K mg base k f fd ps sp := ⟨fun h => F.len _ _ _ _ h, fun _ a b c d e => F.run _ _ _ _ _ _ _ _ _ a b c d e⟩
theorem FnG.lift {j : Nat} (F : FnG P w K mg base j f fd ps sp) (h : j ≤ k) : FnG P w K mg base k f fd ps sp := ⟨F.arity, fun q r => F.goes q (r.mono h)⟩
end

section
variable {X : Cx} {k : Nat} {f : Addr} {fd : FuncData} {ps : List Str} {sp : Sp} {x : Str} {p pos : Pos} {e : Expr} {es : List Expr} {t : TA}
theorem FnG.callee {pins : List (Addr × Obj)} {σ : L2.St} {H : Hp} {s : Shared} {Q : VK} {us : List Value} {vs : List V} (F : FnG X.prog X.w X.K X.mg X.base k f fd ps sp) (qu : Quiet X.A) (hr : Room k X.A) (hb : Binds X.K fd ps [])
    (I : Inv X pins σ H s) (r : Vals vs us) (h : sp vs H Q E0) : wpAny (model X.prog X.w) X.A (call (.ref f) us) (EP X pins σ Q) X.xe s := by
  have bt := hb s us I.kIn (by rw [List.append_nil, ← r.length]; exact F.arity h)
  rw [List.append_nil] at bt
  refine wpAny_call (codeAny_mono (F.goes qu hr I.env0 bt r h) ?_)
  rintro (e | fl) s' z
  · exact z.elim
  · cases fl <;> first | exact I.after z | exact False.elim z
def tQuiet (sp : Sp) (t : TA) : TE := fun σ H Q => t σ H fun vs H1 => sp vs H1 Q E0
theorem pe_quiet (F : FnG X.prog X.w X.K X.mg X.base k f fd ps sp) (qu : Quiet X.A) (hr : Room k X.A) (hg : Gl X x) (hm : X.mg x = some (.ref f)) (hk : PySem.W.keepIn X.K (.ref f) = true) (hb : Binds X.K fd ps [])
    (ha : PA X (e :: es) t) (h1 : (x == ("__debug__" : Str)) = false := by decide) (h2 : starEach (e :: es) X.env = (false, eval e X.env) :: starEach es X.env := by rfl) (h3 : (backTo pos (starEach es X.env)).any (·.1) = false := by rfl) :
    PE X (.Call (.Name x p) (e :: es) [] pos) (tQuiet sp t) :=
  ⟨fun pins s σ H Q I h => wpAny_Call_Name_kw (ld_glob I hg hm (PySem.W.callWith_K (h₀ := X.base) I.ok.mod.kin hk
    (thn (ha.run pos pins s σ H _ I h) fun us s1 ⟨vs, H1, I1, r, q⟩ => ⟨I1.kIn, F.callee qu hr hb I1 r q⟩) h2 h3) h1)⟩
end

/-- a def's body, entered where no repr is under way -/
theorem FnG.mk' {P : Program} {w : World} {K : PySem.W.Frag} {mg : Str → Option Value} {base : Heap} {x qual : Str} {st : Stmt} {f : Addr} {fd : FuncData} {N ps : List Str} {k : Nat} {sp : Sp} (F : Fun K x qual st f fd) (S : FnScope N ps (defScope st)) (len : ∀ {vs H Q E}, sp vs H Q E → vs.length = ps.length)
    (body : ∀ (cdv : Value) (A : Around) (outer : List Env) (s : Shared) (H : Hp) (vs : List V) (Q : VK) (E : XK), Quiet A → Room k (A.deeper (envOfC qual (defScope st) s.heap.objs.size f cdv)) → sp vs H Q E →
      ∃ t, PSs (cxOf CX0 P w K mg base N qual (defScope st) f cdv A outer s H E).nox (defBody st) t ∧ t { nx := fun _ H' => Q .non H', rt := Q } (start N vs) H) : FnG P w K mg base (k + 1) f fd ps sp := by
  obtain ⟨oc, od, kV, doc, pm, an, cdv, ct, osl, rfl, lk, hcd⟩ := F.ex
  refine ⟨len, fun {A outer s H args us vs Q E} qu hr e0 hb r hsp => ?_⟩
  have inK : K.In s.heap := e0.mod.kin.keeps fun b o z => (e0.bs b o z).1
  refine Att.call_fn inK (e0.mod.nolimit.keeps fun b o z => (e0.bs b o z).1) lk hcd hr.depth hb ?_ (fun s1 ic => ?_) S.co S.gen S.kind
  · refine List.all_eq_true.mpr fun ⟨y, v⟩ hy => ?_
    rcases S.par y (List.of_mem_zip hy).1 with z | z <;> simp [z]
  · obtain ⟨t, ht, hq⟩ := body cdv A outer s H vs Q E qu (hr.deeper _) hsp
    have I0 := inv_start (CX := CX0) (N := N) (E := E) S hr.hd e0 (len hsp) r ic
    refine wpAny_mono (ht.nox.run [] s1 _ H _ I0 hq) ?_ fun _ _ z => z
    rintro (_ | _ | _ | u) s' z
    · obtain ⟨_, H', J, q⟩ := z
      exact ⟨.non, H', J.os, J.bare, J.base, J.hok, rfl, q⟩
    · obtain ⟨_, _, _, q⟩ := z
      exact q.elim
    · obtain ⟨_, _, _, q⟩ := z
      exact q.elim
    · obtain ⟨v, _, H', J, rv, q⟩ := z
      exact ⟨v, H', J.os, J.bare, J.base, J.hok, rv, q⟩

/-! ### the end of a law whose def is quiet -/
open Classical in
theorem lawG {P : Program} {w : World} {K : PySem.W.Frag} {mg mb : Str → Option Value} {k : Nat} {fa a : Addr} {fd : FuncData} {x : Str} {sp : Sp} {s₁ : Shared} {vs : List Value} {ns : List Int}
    (inK : K.In s₁.heap) (hns : s₁.heap.Ns mainGlobals mg) (hb : s₁.heap.Ns builtinsNs mb) (hbb : ∀ y : Str, y ≠ "__name__" → mb y = bootBuiltins y) (hlim : s₁.heap.NoLimit) (hg : s₁.gens = #[])
    (ha : s₁.heap.get? a = some { cls := .type "list", data := .seq vs.toArray }) (hi : IntsAre vs ns) (hl : ns.length ≤ sizeLine) (hr : Room k callerA)
    (F : ∀ base : Heap, K.In base → base.Ns mainGlobals mg → FnG P w K mg base k fa fd [x] sp) (hbind : ∀ (s : Shared) (u : Value), BindsTo s fd ⟨[u], []⟩ [(x, u)])
    (hsp : ∀ H : Hp, Only H → SqL K H a (ns.map V.int) → sp [.ref a] H (fun v _ => v = .bl true) fun _ _ _ => False) :
    codeAny (model P w) callerA (.call (.ref fa) ⟨[.ref a], []⟩) (fun r s' => r = .ok (.ret (.bool true)) ∧ OldK s₁.heap s'.heap ∧ s'.os = s₁.os ∧ AllBare s'.gens) s₁ := by
  let scr : Obj := { cls := .type "list", data := .seq vs.toArray }
  let H : Hp := fun b => if K.lookup a = none ∧ b = a then some (.frz scr (.lst (ns.map V.int))) else none
  have rv := vals_ints hi
  have hA : ∀ {b u}, H b = some u → K.lookup a = none ∧ b = a ∧ u = .frz scr (.lst (ns.map V.int)) := fun {b u} z => by
    by_cases c : K.lookup a = none ∧ b = a
    · have z' : some (HO.frz scr (.lst (ns.map V.int))) = some u := (if_pos c).symm.trans z
      exact ⟨c.1, c.2, (Option.some.inj z').symm⟩
    · have z' : none = some u := (if_neg c).symm.trans z
      cases z'
  have nK : ∀ {b o}, K.lookup b = some o → H b = none := fun {b o} e => by
    cases z : H b with
    | none => rfl
    | some u =>
      obtain ⟨z1, z2, _⟩ := hA z
      rw [z2, z1] at e
      cases e
  have nD : ∀ {b m}, s₁.heap.Ns b m → (hidT s₁.heap H).Ns b m := by
    rintro b m ⟨o, es, ep, e, d, r⟩
    refine ⟨o, es, ep, hidT_get e ?_, d, r⟩
    cases z : H b with
    | none => rfl
    | some u =>
      obtain ⟨_, z2, _⟩ := hA z
      rw [z2, ha] at e
      cases e
      cases d
  have inB : K.In (hidT s₁.heap H) := fun b o e => hidT_get (inK b o e) (nK e)
  have hok : HOk P w H s₁.heap := fun b u z => by
    obtain ⟨_, rfl, rfl⟩ := hA z
    exact ⟨ha, by rw [List.length_map]; exact hl, vs, _, rv, ha⟩
  have only : Only H := fun b => by
    cases z : H b with
    | none => exact .inl rfl
    | some u => exact .inr ⟨scr, ns.map V.int, by rw [(hA z).2.2]⟩
  have sq : SqL K H a (ns.map V.int) := by
    cases z : K.lookup a with
    | none => exact .inl (.inr ⟨scr, if_pos ⟨z, rfl⟩⟩)
    | some o =>
      have e := inK a o z
      rw [ha] at e
      cases e
      exact .inr ⟨_, vs.toArray, _, z, rfl, rfl, rfl, by rw [List.size_toArray, hi.length]; exact hl, by simpa using rv⟩
  have e0 : Env0 P w K mg (hidT s₁.heap H) callerA [] s₁ H :=
    ⟨rfl, ⟨inB, nD hns, ⟨mb, nD hb, hbb⟩, let ⟨mc, h1, h2⟩ := hlim; ⟨mc, nD h1, h2⟩⟩, fun b o e => of_hidT e, Nat.le_of_eq (hidT_size _ _), trivial, fun b z => (nomatch z), hok, .of_eq hg⟩
  refine codeAny_mono ((F _ inB (nD hns)).goes (us := [.ref a]) (vs := [.ref a]) rfl hr e0 (hbind s₁ (.ref a)) (.cons rfl .nil) (hsp H only sq)) ?_
  rintro (e | (_ | _ | _ | u)) s' z
  · exact z.elim
  · exact False.elim z
  · exact False.elim z
  · exact False.elim z
  · obtain ⟨v, H', os, bare, un, hok', r', q⟩ := z
    subst q
    obtain rfl : u = Value.bool true := r'
    refine ⟨rfl, OldK.of_keep fun b o e => ?_, os, bare⟩
    cases c : H b with
    | none => exact un.keep b o e c (fun z => nomatch z) (fun z => nomatch z)
    | some y =>
      obtain ⟨_, rfl, rfl⟩ := hA c
      have e1 := (hok _ _ c).1
      have e2 := (hok' _ _ (un.frzs _ _ _ c)).1
      rw [e1] at e
      cases e
      exact e2

theorem walkG {l : PySem.W.OpenLaw} {n k : Nat} {q : Program} {loose : List Str} {XP : (Str → Option Value) → Heap → Prop} {YP : World → Heap → Prop} {d : DefRec} {K : Params → PySem.W.Frag} {sp : PySem.W.Frag → Sp} {x : Str}
    (hn : l.most = some n) (hn2 : n ≤ sizeLine) (hdf : d.params.defaults = []) (hr : Room k callerA) (hY : ∀ (w : World) (h : Heap), YP w h → (K w.params).In h)
    (F : ∀ (w : World) (mg : Str → Option Value) (fa : Addr) (h : Heap), (K w.params).In h → h.Ns mainGlobals mg → mg d.name = some (.ref fa) →
      ∃ fd : FuncData, (∀ (s : Shared) (u : Value), BindsTo s fd ⟨[u], []⟩ [(x, u)]) ∧ ∀ base : Heap, (K w.params).In base → base.Ns mainGlobals mg → FnG l.prog w (K w.params) mg base k fa fd [x] (sp (K w.params)))
    (hsp : ∀ (K : PySem.W.Frag) (H : Hp) (a : Addr) (ns : List Int), ns.length ≤ n → Only H → SqL K H a (ns.map V.int) → sp K [.ref a] H (fun v _ => v = .bl true) fun _ _ _ => False) :
    PySem.W.WalkO q loose XP YP l.row.toRowW d [] (fun f vs => PySem.call f vs) :=
  Att.attach_call hn hdf fun w s₀ s₁ mg mb fa o pm cd doc a vs ns G Y ho hd hcd hmg hobj hints hlen hg => by
    obtain ⟨fd, b, f⟩ := F w mg fa _ (hY w _ Y) G.T.g hmg
    exact lawG (hY w _ Y) G.T.g G.T.b G.T.builtins G.T.nolimit hg hobj hints (Nat.le_trans hlen hn2) hr f b fun H h1 h2 => hsp _ H a ns hlen h1 h2

/-! ### repr of data -/
/-- what x is as data: anything of the data's kinds, or the empty dict -/
def Shw (K : PySem.W.Frag) (H : Hp) (x : V) (d : PyData) : Prop :=
  d.showable = true ∧ d.shown.length ≤ sizeLine ∧ d.depth ≤ 60 ∧ ((d.hasDict = false ∧ Dp K H x d) ∨ (d = .dict [] ∧ ∃ a, x = .ref a ∧ H a = some (.dK [])))
def rRepr (K : PySem.W.Frag) : List V → Hp → VK → Prop := fun xs H Q => ∃ x d, xs = [x] ∧ Shw K H x d ∧ Q (.str d.shown) H
theorem call_repr_none' {P : Program} {w : World} {A : Around} {E : Value → Shared → Prop} {s : Shared} {Q : Value → Shared → Prop} (h : Q (.str "None" s.toks) { s with toks := s.toks + 1 }) : wpAny (model P w) A (call (.builtin "repr") [.none]) Q E s :=
  PySem.P.repr_of_none h
theorem cr_repr {X : Cx} (qu : Quiet X.A) (hu : X.A.units + 64 < cLine) : CallR X (.builtin "repr") (rRepr X.K) := by
  rintro pins s σ H xs us Q I r ⟨x, d, rfl, ⟨hs, hz, hd, hx⟩, q⟩
  obtain ⟨u, rfl, rx⟩ := vals1 r
  have big : ∀ {y : Value} {b : Addr} {as : List Addr}, y = .ref b → Reads s.heap y d as → (d.hasDict = true → sysModules ∉ as) → wpAny (model X.prog X.w) X.A (call (.builtin "repr") [y]) (EP X pins σ Q) X.xe s := by
    rintro y b as rfl rd hm
    refine repr_of_reads' rd hs hm qu (by omega) (fun _ _ z => z) (fun h' u tk k => ?_) hz
    exact ⟨.str d.shown, H, I.kept k, ⟨_, rfl⟩, q⟩
  rcases hx with ⟨hn, hx⟩ | ⟨rfl, a, rfl, ha⟩
  · have nd : d.hasDict = true → ∀ as : List Addr, sysModules ∉ as := fun z => by
      rw [hn] at z
      cases z
    have tx : ∀ (y : Str) (t : Tok) (tk : Nat), Q (.str y) H → EP X pins σ Q (.str y t) { s with toks := tk } := fun y t tk z => ⟨.str y, H, I.tok _, ⟨_, rfl⟩, z⟩
    cases hx with
    | non =>
      obtain rfl : u = Value.none := rx
      exact PySem.P.repr_of_none (tx _ _ _ q)
    | bl b =>
      obtain rfl : u = Value.bool b := rx
      refine PySem.P.repr_of_bool (tx _ _ _ ?_)
      cases b <;> exact q
    | int i =>
      obtain ⟨t, rfl⟩ := rx
      exact PySem.P.repr_of_int (of_decide_eq_true hs) (tx _ _ _ q)
    | str y =>
      obtain ⟨t, rfl⟩ := rx
      exact PySem.P.repr_of_str (tx _ _ _ q) hz
    | lst h1 h2 =>
      obtain ⟨as, rd⟩ := Dp.reads I _ _ u (.lst h1 h2) rx
      exact big rx rd fun z => nd z _
    | tup h1 h2 =>
      obtain ⟨as, rd⟩ := Dp.reads I _ _ u (.tup h1 h2) rx
      exact big rx rd fun z => nd z _
  · obtain ⟨_, hne, vs, kv, o, es, ep, h1, h2, h3, h4⟩ := (show ObjOk X.prog X.w H s.heap a (.dK []) from I.hok a _ ha)
    cases kv
    have h5 : es.toList = [] := by
      have z := h4.2.1
      generalize es.toList = l at z
      cases z
      rfl
    obtain rfl : u = Value.ref a := rx
    refine big rfl (Reads.dict (kvs := []) (as := []) (bs := []) h1 h2.1 h3 (by rw [h5]; exact .nil) (by rw [h5]; exact .nil)) fun _ z => ?_
    have z' : sysModules ∈ [a] := z
    rw [List.mem_singleton] at z'
    rw [z'] at hne
    simp at hne
end KX

set_option Elab.async false
set_option linter.all false
set_option maxRecDepth 100000
set_option maxHeartbeats 1000000
/-! ### a generator expression whose element calls own functions: its body's segments, all(..) over it -/
namespace KG
open PySem PySem.Spec PyProof.Rows L2 GenW
/-- the body's turns: Lp m: at the loop's head, at most m items are left; Yd m: an item is just handed out, at most m are left; Dn: nothing is left -/
structure GWalk (P : Program) (w : World) (B : Around) (tg elt : Expr) (I : Addr) (cenv : Env) (Lp : Nat → Shared → Prop) (Yd : Nat → Value → Shared → Prop) (Dn : Shared → Prop) : Prop where
  turn : ∀ m s, Lp m s → wpAny (model P w) B (pyNext (.ref I)) (fun r s1 => match r with
    | none => Dn s1
    | some v => wpAny (model P w) B (letOwnedTupleGo tg (.ref I) v) (fun _ s2 => wpAny (model P w) B (assign tg cenv v) (fun _ s3 =>
        wpAny (model P w) B (eval elt cenv) (fun y s4 => ∃ m', m = m' + 1 ∧ Yd m' y s4) (fun _ _ => False) s3) (fun _ _ => False) s2) (fun _ _ => False) s1) (fun _ _ => False) s
  self : ∀ (A' : Around) m s (Q : Value → Shared → Prop) (E : Value → Shared → Prop), Lp m s → Q (.ref I) s → wpAny (model P w) A' (pyIter (.ref I)) Q E s
def RG (Dn : Shared → Prop) : GenEnd := fun _ _ r s₁ => ((r = .ok (.ret .none) ∨ r = .ok .next) ∧ Dn s₁) ∨ ∃ e : Value, r = .error e ∧ False
def YG (Lp : Nat → Shared → Prop) (Yd : Nat → Value → Shared → Prop) : Protocol := fun n _ v s kap => ∃ m', m' ≤ n ∧ Yd m' v s ∧ ∀ s'', Lp m' s'' → kap (.send .none) s''
section
variable {P : Program} {w : World} {A B : Around} {tg elt iter : Expr} {scope : Scope} {pos : Pos} {I : Addr} {cenv : Env} {Lp : Nat → Shared → Prop} {Yd : Nat → Value → Shared → Prop} {Dn : Shared → Prop}
theorem seg_loop (hB : A.over (.compLoop (.GeneratorExp elt [⟨tg, iter, [], 0⟩] scope pos) 0 (.ref I) .none cenv) [] = B) (hco : cenv.scope.isCoroutine = false) (W : GWalk P w B tg elt I cenv Lp Yd Dn) :
    ∀ (m n : Nat) (s₀ s : Shared), m ≤ n → Lp m s → Seg (model P w) A (RG Dn) (YG Lp Yd) n s₀ (.compLoop (.GeneratorExp elt [⟨tg, iter, [], 0⟩] scope pos) 0 (.ref I) .none cenv)
      ((model P w).den (.compLoop (.GeneratorExp elt [⟨tg, iter, [], 0⟩] scope pos) 0 (.ref I) .none cenv)) [] s := by
  have hy : ∀ v, yieldOut cenv v = yieldValue v := fun v => by simp only [yieldOut, hco, Bool.false_eq_true, if_false]
  intro m
  induction m using Nat.strongRecOn with
  | ind m ih =>
    intro n s₀ s hmn hL
    show Seg _ A _ _ _ s₀ _ ((compTurn (.GeneratorExp elt [⟨tg, iter, [], 0⟩] scope pos) 0 (.ref I) .none cenv).onRaise (leaving cenv)) [] s
    rw [compTurn_gen, Sem.onRaise_eq_wrap]
    refine seg_bind_wrap (wpAny_standAt ?_)
    refine seg_bind_wrap ?_
    rw [hB]
    refine wpAny_mono (W.turn m s hL) (fun r s1 h1 => ?_) (fun _ _ z => False.elim z)
    cases r with
    | none => exact seg_end (.ok .next) (.inl ⟨.inr rfl, h1⟩)
    | some v =>
      refine seg_bind_wrap ?_
      rw [hB]
      refine wpAny_mono h1 (fun _ s2 h2 => ?_) (fun _ _ z => False.elim z)
      refine seg_bind_wrap ?_
      rw [hB]
      refine wpAny_mono h2 (fun _ s3 h3 => ?_) (fun _ _ z => False.elim z)
      refine seg_bind_wrap (wpAny_tests_nil ?_)
      simp only [if_true]
      simp only [hy]
      rw [Sem.bind_eq_wrap', Sem.bind_eq_wrap', Sem.wrap_wrap, Sem.wrap_wrap]
      refine seg_wrap ?_
      rw [hB]
      refine wpAny_mono h3 (fun y s4 h4 => ?_) (fun _ _ z => False.elim z)
      obtain ⟨m', em, hY⟩ := h4
      obtain ⟨k, rfl⟩ : ∃ k, n = k + 1 := ⟨n - 1, by omega⟩
      refine seg_at (seg_yield rfl rfl rfl ⟨m', by omega, hY, fun s'' hL'' => ?_⟩)
      exact seg_again rfl (ih m' (by omega) k s'' s'' (by omega) hL'')
theorem seg_start (hB : A.over (.compLoop (.GeneratorExp elt [⟨tg, iter, [], 0⟩] scope pos) 0 (.ref I) .none cenv) [] = B) (hco : cenv.scope.isCoroutine = false) (W : GWalk P w B tg elt I cenv Lp Yd Dn)
    {m n : Nat} {s₀ s : Shared} (hmn : m ≤ n) (hL : Lp m s) : Seg (model P w) A (RG Dn) (YG Lp Yd) n s₀ (.compStart (.GeneratorExp elt [⟨tg, iter, [], 0⟩] scope pos) 0 (.ref I) .none cenv)
      ((model P w).den (.compStart (.GeneratorExp elt [⟨tg, iter, [], 0⟩] scope pos) 0 (.ref I) .none cenv)) [] s := by
  have loop := seg_loop (iter := iter) (scope := scope) (pos := pos) hB hco W m n s₀ s hmn hL
  show Seg _ A _ _ _ s₀ _ ((compStart (.GeneratorExp elt [⟨tg, iter, [], 0⟩] scope pos) 0 (.ref I) .none cenv).onRaise (leaving cenv)) [] s
  unfold compStart
  rw [Sem.onRaise_eq_wrap]
  show Seg _ A _ _ _ s₀ _ ((ask >>= _).wrap _ _ _ _) [] s
  refine seg_bind_wrap (wpAny_askSetting ?_)
  split
  · exact seg_again rfl loop
  · first
      | exact seg_bind_wrap (wpAny_rule (seg_bind_wrap (wpAny_standAt (seg_bind_wrap (W.self _ m s _ _ hL (seg_again rfl loop))))))
      | (refine seg_bind_wrap (wpAny_rule ?_); show Seg _ A _ _ _ s₀ _ ((standAt iter.pos >>= _).wrap _ _ _ _) [] s; exact seg_bind_wrap (wpAny_standAt (seg_bind_wrap (W.self _ m s _ _ hL (seg_again rfl loop)))))
/-- but for generators, counters, the same -/
structure Alike (s s' : Shared) : Prop where
  heap : s'.heap = s.heap
  os : s'.os = s.os
  bare : AllBare s'.gens
theorem all_loop {R : Result → Shared → Prop} {a : Addr} {g : Nat} (hh : A.handled = none) (hd : A.depth < recursionLimit)
    (item : ∀ m v s, Yd m v s → s.heap.NoLimit ∧ s.heap.IsGen a g ∧ AllBare s.gens ∧ ∃ b, v = .bool b ∧ ∀ s'', Alike s s'' → if b = true then Lp m s'' else R (.ok (.ret (.bool false))) s'')
    (done : ∀ s s', Dn s → (∀ b o, s.heap.get? b = some o → s'.heap.get? b = some o) → s'.os = s.os → s'.gens = (s.setGen g .finished).gens → R (.ok (.ret (.bool true))) s') :
    ∀ (n : Nat) (s : Shared) (gs : GenState), s.heap.NoLimit → s.heap.IsGen a g → s.gens[g]? = some gs → gs.Goes (model P w) A.in1.in1 (RG Dn) (YG Lp Yd) n (.send .none) (s.setGen g .running) →
      codeAny (model P w) A (.builtin "all.loop" ⟨[.ref a], []⟩) R s := by
  intro n
  induction n with
  | zero =>
    intro s gs hl hg hgs hgo
    refine codeAny_builtin F.entry_all_loop ?_
    rw [Around.under_plainId F.plain_all_loop _]
    show wpAny _ A.in1 (pyNext (.ref a) >>= _) _ _ s
    refine wpAny_bind (next_genG (A := A.in1) (F := fun _ _ s1 => Dn s1) (Er := fun _ _ => False) hh hl hd hg hgs hgo (fun v s₁ gs' hbare hv => ?_) (fun s₁ hp h' hk => ?_) fun e s₁ he => False.elim he)
    · obtain ⟨m', hm, hY, hk⟩ := hv
      obtain ⟨hl1, hg1, hb1, b, rfl, hR⟩ := item m' v s₁ hY
      have hal : Alike s₁ (s₁.setGen g gs') := ⟨rfl, rfl, allBare_setGen hb1 hbare⟩
      have hq := hR _ hal
      refine wpAny_bind (wpAny_holding (wpAny_truthy_bool ?_))
      refine wpAny_bind (wpAny_letGo ?_)
      cases b with
      | true => exact False.elim (hk _ (by simpa using hq))
      | false =>
        simp only [Bool.false_eq_true, if_false] at hq ⊢
        exact wpAny_bind (wpAny_rule (wpAny_pure hq))
    · refine wpAny_bind (wpAny_rule (wpAny_pure ?_))
      exact done s₁ _ hp hk rfl rfl
  | succ n ih =>
    intro s gs hl hg hgs hgo
    have hgl : g < s.gens.size := (Array.getElem?_eq_some_iff.mp hgs).1
    refine codeAny_builtin F.entry_all_loop ?_
    rw [Around.under_plainId F.plain_all_loop _]
    show wpAny _ A.in1 (pyNext (.ref a) >>= _) _ _ s
    refine wpAny_bind (wpAny_gsz (n := g + 1) hgl (next_genG (A := A.in1) (F := fun _ _ s1 => Dn s1) (Er := fun _ _ => False) hh hl hd hg hgs hgo (fun v s₁ gs' hbare hv => ?_) (fun s₁ hp h' hk => ?_) fun e s₁ he => False.elim he))
    · intro hsz
      obtain ⟨m', hm, hY, hk⟩ := hv
      obtain ⟨hl1, hg1, hb1, b, rfl, hR⟩ := item m' v s₁ hY
      have hal : Alike s₁ (s₁.setGen g gs') := ⟨rfl, rfl, allBare_setGen hb1 hbare⟩
      have hsz1 : g < s₁.gens.size := by
        have q : (s₁.setGen g gs').gens.size = s₁.gens.size := setGen_size _ _ _
        have hsz' : g + 1 ≤ (s₁.setGen g gs').gens.size := hsz
        omega
      refine wpAny_bind (wpAny_holding (wpAny_truthy_bool ?_))
      refine wpAny_bind (wpAny_letGo ?_)
      cases b with
      | true =>
        simp only [if_true]
        refine wpAny_pure ⟨plainId_quiet F.plain_all_loop _, ih _ gs' hl1 hg1 (setGen_at hsz1) ?_⟩
        refine hk _ ?_
        have q := hR ((s₁.setGen g gs').setGen g .running) ⟨rfl, rfl, allBare_setGen (s := s₁.setGen g gs') (allBare_setGen hb1 hbare) rfl⟩
        simpa using q
      | false =>
        have hq := hR _ hal
        simp only [Bool.false_eq_true, if_false] at hq ⊢
        exact wpAny_bind (wpAny_rule (wpAny_pure hq))
    · intro hsz
      refine wpAny_bind (wpAny_rule (wpAny_pure ?_))
      exact done s₁ _ hp hk rfl rfl
end
end KG

set_option Elab.async false
set_option linter.all false
set_option maxRecDepth 100000
set_option maxHeartbeats 1000000
/-! ### the context within a generator expression's body -/
namespace KG
open PySem PySem.Spec PyProof.Rows L2 GenW
/-- the generator's names: as a block's; a generator has a frame of its own, no cells of its own -/
structure GOk (N : List Str) (sc scope : Scope) (own : List (Str × Nat)) : Prop where
  blk : BlkOk N sc scope own
  co : scope.isCoroutine = false
  nocell : ∀ y ∈ scope.names, y.2 ≠ .cell
  dot : scope.names.lookup (".0" : Str) = some NameKind.local
abbrev gcx (X : Cx) (B : Around) (s : Shared) (H : Hp) (cenv : Env) (fp : List Addr) (pn : List (Addr × Obj)) : Cx :=
  { X with A := B, s_0 := s, H_0 := H, env := cenv, outer := X.stack, stack := cenv :: X.stack, ex := fp, fn := fun _ => false, pn := pn, xe := fun _ _ => False }
section
variable {X : Cx} {pins : List (Addr × Obj)} {σ : L2.St} {H : Hp} {s : Shared}
theorem Inv.alike {s' : Shared} (I : Inv X pins σ H s) (h : Alike s s') : Inv X pins σ H s' :=
  ⟨I.ok, h.os.trans I.os, h.bare, by rw [h.heap]; exact I.base, by rw [h.heap]; exact I.loc, by rw [h.heap]; exact I.cell, I.free, I.freeC, by rw [h.heap]; exact I.pin, by rw [h.heap]; exact I.hok, I.len⟩
theorem gen_start {B : Around} {scope : Scope} {own : List (Str × Nat)} {code : Value} {fp : List Addr} {pn : List (Addr × Obj)} {s' : Shared} {m : Str → Option Value} (I : Inv X pins σ H s) (ok : GOk X.N X.env.scope scope own) (hN : X.N.Nodup) (hfp : ∀ b ∈ fp, FpOk X pins H b ∧ b < s.heap.objs.size)
    (hB : B.handled = none) (hBf : B.frames = some (genEnv scope (cloFrom X.env.cells scope.names []) s.heap.objs.size code builtinsNs X.env :: X.stack))
    (os : s'.os = s.os) (bare : AllBare s'.gens) (kp : ∀ b o, s.heap.get? b = some o → s'.heap.get? b = some o) (hn : s'.heap.Ns s.heap.objs.size m)
    (hpn : ∀ p ∈ pn, s'.heap.get? p.1 = some p.2 ∧ s.heap.objs.size < p.1 ∧ ∀ v, p.2.data ≠ .cell v) :
    Inv (gcx X B s H (genEnv scope (cloFrom X.env.cells scope.names []) s.heap.objs.size code builtinsNs X.env) fp pn) [] (wipe σ (own.map (·.2))) H s' := by
  have hfree : ∀ y ∈ scope.names, y.2 = .free → ∃ c, X.env.cells.lookup y.1 = some c := fun y hy e => by
    rcases ok.blk.free y hy e with k | k
    · exact I.ok.has _ (.inl k)
    · exact I.ok.has _ (.inr k)
  generalize hcenv : genEnv scope (cloFrom X.env.cells scope.names []) s.heap.objs.size code builtinsNs X.env = cenv at hBf ⊢
  have hL : cenv.locals = s.heap.objs.size := by rw [← hcenv]; rfl
  have hcl : cenv.cells = cloFrom X.env.cells scope.names [] := by rw [← hcenv]; rfl
  have hsc : cenv.scope = scope := by rw [← hcenv]; rfl
  have hfrm : cenv.frame = some cenv.locals := by rw [← hcenv]; rfl
  have cm : ∀ {y c}, cenv.cells.lookup y = some c → X.env.cells.lookup y = some c ∧ c < s.heap.objs.size := fun {y c} e => by
    rw [hcl] at e
    rcases cloFrom_mem (PySem.mem_of_lookup e) with hm | ⟨h1, rfl⟩
    · cases hm
    · obtain ⟨c, hc⟩ := hfree _ h1 rfl
      rw [hc]
      obtain ⟨w, z⟩ := I.cell _ _ hc
      exact ⟨rfl, z.lt⟩
  have look : ∀ {y}, scope.names.lookup y = some .free → ∃ c, cenv.cells.lookup y = some c ∧ X.env.cells.lookup y = some c := fun {y} hl => by
    obtain ⟨c', e'⟩ := L2.mem_lookup (cloFrom_has (cells := X.env.cells) (acc := []) (PySem.mem_of_lookup hl))
    rw [← hcl] at e'
    exact ⟨c', e', (cm e').1⟩
  have okB : (gcx X B s H cenv fp pn).Ok := by
    refine ⟨I.ok.mod, by show cenv.scope.kind = _; rw [hsc]; exact ok.blk.kind, by show cenv.globals = _; rw [← hcenv]; exact I.ok.glob, by show cenv.builtins = _; rw [← hcenv]; rfl, by show s.heap.objs.size ≤ cenv.locals; rw [hL]; exact Nat.le_refl _,
      fun y z c e1 e2 => I.ok.inj y z c (cm e1).1 (cm e2).1, fun y hy => ?_, fun y c z e => absurd (show false = true from z) Bool.false_ne_true, fun _ => hB, hBf, .inr ⟨rfl, hfrm⟩, fun b hb => ⟨?_, fun y c e z => ?_⟩, I.bs, Nat.le_trans I.ok.bsz I.sz, fun b o e hb => ?_, fun b hb z => ?_, I.stack, I.stkFree⟩
    · show ∃ c, cenv.cells.lookup y = some c
      have key : ∀ k, cenv.kindOf y = some k → (k = .cell ∨ k = .free) → ∃ c, cenv.cells.lookup y = some c := fun k hk hk' => by
        unfold Env.kindOf at hk
        rw [hsc] at hk
        rcases hk' with rfl | rfl
        · exact absurd rfl (ok.nocell _ (PySem.mem_of_lookup hk))
        · obtain ⟨c, h1, _⟩ := look hk
          exact ⟨c, h1⟩
      rcases hy with hy | hy
      · exact key _ hy (.inl rfl)
      · exact key _ hy (.inr rfl)
    · show b ≠ cenv.locals
      rw [hL]; exact Nat.ne_of_lt (hfp b hb).2
    · exact (hfp b hb).1.2.2.2.2.1 y c (cm e).1 z
    · rcases (hfp b hb).1.2.2.2.1 with z | z
      · exact I.ok.noex b o e z
      · exact absurd (Nat.lt_of_lt_of_le (Heap.lt_size e) (Nat.le_trans I.ok.bsz z)) (Nat.lt_irrefl _)
    · rcases List.mem_cons.mp (I.stkSub b z) with z | z
      · exact (hfp b hb).1.2.1 z
      · exact (hfp b hb).1.2.2.1 z
  refine ⟨okB, os, bare, Un.kept kp, ⟨m, by show s'.heap.Ns cenv.locals m; rw [hL]; exact hn, fun i y av e1 e2 e3 => ?_⟩, fun y c e => ?_, ?_, fun y c e => ?_, fun p hp => ?_, I.hok.kept kp, by rw [wipe_length]; exact I.len⟩
  · obtain ⟨e2, hne⟩ := wipe_some e2
    have e3 : Vis cenv.scope y := e3
    have hk : scope.names.lookup y = some .free := by
      have no : ∀ k, scope.names.lookup y = some k → ¬ (k = .local ∨ k = .cell) := fun k e hh => by
        rcases ok.blk.own _ (PySem.mem_of_lookup e) hh with e' | e'
        · obtain ⟨p, hp, hpy⟩ := List.mem_map.mp e'
          have e3 := ok.blk.ix p hp
          have : p.1 = y := hpy
          rw [this] at e3
          exact hne (List.mem_map.mpr ⟨p, hp, nodup_ix hN e3 e1⟩)
        · exact e' (List.mem_of_getElem? e1)
      rw [hsc] at e3
      rcases e3 with e3 | e3 | e3
      · exact absurd (.inl rfl) (no _ e3)
      · exact absurd (.inr rfl) (no _ e3)
      · exact e3
    obtain ⟨m0, hn0, hl⟩ := I.loc
    have hvis : Vis X.env.scope y := (ok.blk.free _ (PySem.mem_of_lookup hk) rfl).elim (fun k => .inr (.inl k)) (fun k => .inr (.inr k))
    obtain ⟨w, r, q⟩ := hl i y av e1 e2 hvis
    refine ⟨w, r, .inr ⟨.inr (by show cenv.scope.names.lookup y = _; rw [hsc]; exact hk), ?_⟩⟩
    obtain ⟨c, h1, h2⟩ := look hk
    rcases q with ⟨k, _⟩ | ⟨_, c', e', z⟩
    · have k : X.env.scope.names.lookup y = some .local := k
      rcases ok.blk.free _ (PySem.mem_of_lookup hk) rfl with k' | k' <;> rw [show X.env.scope.names.lookup y = _ from k'] at k <;> cases k
    · rw [h2] at e'; cases e'
      exact ⟨c, h1, z.keeps kp⟩
  · obtain ⟨w, z⟩ := I.cell y c (cm e).1
    exact ⟨w, z.keeps kp⟩
  · show H cenv.locals = none
    rw [hL]; exact I.hok.fresh (Nat.le_refl _)
  · exact I.freeC y c (cm e).1
  · have hp : p ∈ pn ++ [] := hp
    rw [List.append_nil] at hp
    obtain ⟨h1, h2, h3⟩ := hpn p hp
    refine ⟨h1, I.hok.fresh (Nat.le_of_lt h2), by show p.1 ≠ cenv.locals; rw [hL]; exact Nat.ne_of_gt h2, fun hb => ?_, h3⟩
    have hb : p.1 ∈ frs X.stack := hb
    rcases List.mem_cons.mp (I.stkSub _ hb) with z | z
    · exact absurd (Nat.lt_trans I.lt h2) (by rw [z]; exact Nat.lt_irrefl _)
    · exact I.nofs (Nat.le_of_lt h2) z
end
end KG

set_option Elab.async false
set_option linter.all false
set_option maxRecDepth 100000
set_option maxHeartbeats 1000000
/-! ### all(elt for tg in iter), the element may call own functions -/
namespace KG
open PySem PySem.Spec PyProof.Rows L2 GenW
/-- W: by the turn and a measure; behind it the def's table may have grown -/
def tAllG (P : Addr) (wi : TI) (g : TG) (te : TE) (vs : List Nat) : TE := fun σ H Q => wi σ H fun J H1 => GxR.TabG H1 P ∧ ∀ H2, GxR.Tabbed P H1 H2 → ∃ W : Nat → Nat → Hp → Prop, (∃ m, W 0 m H2) ∧ ∀ i m H, W i m H →
  (J.stop i H ∧ Q (.bl true) H) ∨ (J.go i H ∧ ∀ x H', J.yld i H x H' → g x (wipe σ vs) H' fun σ2 H3 => wipe σ2 vs = wipe σ vs ∧ te σ2 H3 fun y H4 =>
    (y = .bl true ∧ ∃ m', m' < m ∧ W (i + 1) m' H4) ∨ (y = .bl false ∧ Q (.bl false) H4))
section
variable {X : Cx}
def LpG (Y : Cx) (σw : L2.St) (fp : List Addr) (tn : Nat → Heap → Prop) (W : Nat → Nat → Hp → Prop) (m : Nat) (s : Shared) : Prop :=
  ∃ i m0 H', m0 + 1 ≤ m ∧ Inv Y [] σw H' s ∧ tn i s.heap ∧ (∀ b ∈ fp, H' b = none) ∧ W i m0 H'
def YdG (Y : Cx) (σw : L2.St) (fp : List Addr) (tn : Nat → Heap → Prop) (W : Nat → Nat → Hp → Prop) (Q : VK) (m : Nat) (y : Value) (s : Shared) : Prop :=
  (y = .bool true ∧ LpG Y σw fp tn W m s) ∨ (y = .bool false ∧ ∃ σ' H', Inv Y [] σ' H' s ∧ Q (.bl false) H')
def DnG (Y : Cx) (σw : L2.St) (Q : VK) (s : Shared) : Prop := ∃ H', Inv Y [] σw H' s ∧ Q (.bl true) H'
theorem gwalk {Y : Cx} {σ : L2.St} {vs : List Nat} {fp : List Addr} {it : Addr} {tn : Nat → Heap → Prop} {J : It} {W : Nat → Nat → Hp → Prop} {Q : VK} {tg elt : Expr} {g : TG} {te : TE} (hc : Y.calm = true) (hex : Y.ex = fp) (hxe : Y.xe = fun _ _ => False)
    (hpn : ∀ p ∈ Y.pn, ∀ b ∈ fp, p.1 ≠ b) (T : Turn Y.prog Y.w Y.K tg J fp it tn) (pg : PG Y tg g) (pe : PE Y elt te)
    (turn : ∀ i m H, W i m H → (J.stop i H ∧ Q (.bl true) H) ∨ (J.go i H ∧ ∀ x H', J.yld i H x H' → g x (wipe σ vs) H' fun σ2 H3 => wipe σ2 vs = wipe σ vs ∧ te σ2 H3 fun y H4 =>
      (y = .bl true ∧ ∃ m', m' < m ∧ W (i + 1) m' H4) ∨ (y = .bl false ∧ Q (.bl false) H4))) :
    GWalk Y.prog Y.w Y.A tg elt it Y.env (LpG Y (wipe σ vs) fp tn W) (YdG Y (wipe σ vs) fp tn W Q) (DnG Y (wipe σ vs) Q) := by
  have stat : ∀ {σ' : L2.St} {H' : Hp} {s' : Shared}, Inv Y [] σ' H' s' → (∀ b ∈ fp, H' b = none) → ∀ b ∈ fp, FpOk Y [] H' b := fun {σ' H' s'} I' hn b hb =>
    ⟨hn b hb, (I'.ok.exf b (hex ▸ hb)).1, I'.ok.exfs b (hex ▸ hb), .inl (hex ▸ hb), fun x c e => (I'.ok.exf b (hex ▸ hb)).2 x c e, fun p hp => hpn p (by simpa using hp) b hb⟩
  have pgr := pg.run
  have per := pe.run
  rw [hxe] at pgr per
  refine ⟨?_, ?_⟩
  · rintro m s ⟨i, m0, H5, hm0, I5, st5, n5, w5⟩
    rcases turn i m0 H5 w5 with ⟨stop, qq⟩ | ⟨go, step⟩
    · refine thn (T.done Y rfl rfl rfl hc i [] s _ H5 (fun _ _ => False) I5 (stat I5 n5) st5 stop) fun r s6 ⟨hr, I6⟩ => ?_
      subst hr
      exact ⟨H5, I6, qq⟩
    · refine thn (T.item Y rfl rfl rfl hc i [] s _ H5 (fun _ _ => False) I5 (stat I5 n5) st5 go) fun r s6 ⟨u, hr, h6⟩ => ?_
      subst hr
      refine thn h6 fun _ s7 ⟨x, H7, I7, r7, y7, st7, n7⟩ => ?_
      have I7' := I7.pinned (stat I7 n7) (T.obj _ _ st7)
      refine thn (pgr _ s7 _ H7 x u _ I7' r7 (step x H7 y7)) fun _ s8 ⟨σ8, H8, I8, hw8, q8⟩ => ?_
      refine thn (per _ s8 σ8 H8 _ I8 q8) fun z s10 ⟨yv, H10, I10, r10, q10⟩ => ?_
      obtain ⟨m, rfl⟩ : ∃ k, m = k + 1 := ⟨m - 1, by omega⟩
      refine ⟨m, rfl, ?_⟩
      rcases q10 with ⟨rfl, m', hm, w'⟩ | ⟨rfl, q10⟩
      · refine .inl ⟨r10, i + 1, m', H10, by omega, ?_, ?_, ?_, w'⟩
        · have hl : (wipe σ vs).length = σ8.length := by rw [← hw8, wipe_length]
          refine (I10.unpinned (pins := [])).weak hl fun j v e => ?_
          rw [← hw8] at e
          exact (wipe_some e).1
        · refine T.keep _ _ _ st7 fun b hb o e => ?_
          exact (I10.pin (b, o) (List.mem_append_right _ (List.mem_append_right _ (mem_pinsAt hb e)))).1
        · intro b hb
          obtain ⟨o, e, _⟩ := T.obj _ _ st7 b hb
          exact (I10.pin (b, o) (List.mem_append_right _ (List.mem_append_right _ (mem_pinsAt hb e)))).2.1
      · exact .inr ⟨r10, _, H10, I10.unpinned (pins := []), q10⟩
  · rintro A' m s Q' E' ⟨i, m0, H5, hm0, I5, st5, n5, w5⟩ h
    exact T.self A' i s Q' E' st5 h
end
end KG

set_option Elab.async false
set_option linter.all false
set_option maxRecDepth 100000
set_option maxHeartbeats 1000000
/-! ### the rule -/
namespace KG
open PySem PySem.Spec PyProof.Rows L2 GenW
section
variable {X : Cx}
theorem pe_allG {c P : Addr} {elt tg iter : Expr} {scope : Scope} {own : List (Str × Nat)} {p pos gpos : Pos} {wi : TI} {g : TG} {te : TE} {k : Nat}
    (hc : X.calm = true) (hN : X.N.Nodup) (hr : Room (k + 1) X.A) (hg : Gl X "all") (hm : X.mg "all" = none) (hb : bootBuiltins "all" = some (.builtin "all")) (TB : GxR.TabB X.base X.mg c P) (hcode : X.env.code = .ref c) (ok : GOk X.N X.env.scope scope own) (hi : PI X tg iter wi)
    (hpg : ∀ (B : Around) (s : Shared) (H : Hp) (cl : List (Str × Addr)) (C : Addr) (code : Value) (fp : List Addr) (pn : List (Addr × Obj)), PG (gcx X B s H (genEnv scope cl C code builtinsNs X.env) fp pn) tg g)
    (hpe : ∀ (B : Around) (s : Shared) (H : Hp) (cl : List (Str × Addr)) (C : Addr) (code : Value) (fp : List Addr) (pn : List (Addr × Obj)), Room k B → PE (gcx X B s H (genEnv scope cl C code builtinsNs X.env) fp pn) elt te)
    (hs : ∀ v, genFold iter X.env v = pure v)
    (he : starEach [.GeneratorExp elt [⟨tg, iter, [], 0⟩] scope gpos] X.env = (false, eval (.GeneratorExp elt [⟨tg, iter, [], 0⟩] scope gpos) X.env) :: starEach [] X.env := by rfl) :
    PE X (.Call (.Name "all" p) [.GeneratorExp elt [⟨tg, iter, [], 0⟩] scope gpos] [] pos) (tAllG P wi g te (own.map (·.2))) := by
  refine ⟨fun pins s σ H Q I h => ?_⟩
  have hfree : ∀ y ∈ scope.names, y.2 = .free → ∃ c, X.env.cells.lookup y.1 = some c := fun y hy e => by
    rcases ok.blk.free y hy e with k | k
    · exact I.ok.has _ (.inl k)
    · exact I.ok.has _ (.inr k)
  refine wpAny_Call_Name_kw (ld_blt I hg hm hb ?_)
  refine PyProof.Rows.callWith_builtin1 ?_ he (by rfl)
  rw [he]
  show wpAny _ _ (spliced ((false, eval (.GeneratorExp elt [⟨tg, iter, [], 0⟩] scope gpos) X.env) :: backTo pos (starEach [] X.env))) _ _ s
  refine Calls.spliced_cons ?_
  refine wpAny_GeneratorExp_make ok.co (closure_ok hfree) ok.nocell ok.dot ok.blk.kind (by have := hr.dp; omega) ?_ hs
  refine wpAny_mono (hi.run pins s σ H _ I h) (fun xv s1 hx => wpAny_mono hx (fun itv s2 h2 => ?_) fun _ _ e => e) fun _ _ e => e
  obtain ⟨it, fp, tn, J, H2, e, I2, T, st2, f2, ⟨ps, hP, ht⟩, q⟩ := h2
  subst e
  refine ⟨I2.nolimit, ?_⟩
  have hPs : s2.heap.get? P = some { cls := .none, data := .fields ps } := I2.hok P _ hP
  have hPlt : P < s2.heap.objs.size := Heap.lt_size hPs
  have cd : PySem.W.CodeHd s2.heap c P := TB.code.keeps fun b u e => I2.bk b u e
  have cont : ∀ (code : Value) (h3 : Heap) (tk : Nat) (ps' : Array Value), Heap.ExtBut P s2.heap h3 → s2.heap.objs.size ≤ h3.objs.size → h3.get? P = some { cls := .none, data := .fields ps' } → (∃ more, ps' = ps ++ more) → TriplesOk ps'.toList →
      wpAny (model X.prog X.w) X.A (builtinsFor X.env.globals X.env.builtins) (fun bi s₄ =>
        ∀ h', h'.Ns s₄.heap.objs.size (fun y => if y = ".0" then some (.ref it) else none) → Heap.SameBut s₄.heap.objs.size (s₄.heap.push { cls := .type "frame", data := .dict #[] }) h' →
          wpAny (model X.prog X.w) X.A (spliced (backTo pos (starEach [] X.env))) (fun r s1 => wpAny (model X.prog X.w) X.A (call (.builtin "all") (.ref h'.objs.size :: r)) (EP X pins σ Q) X.xe s1) X.xe { s₄ with
            gens := s₄.gens.push (.fresh (.compStart (.GeneratorExp elt [⟨tg, iter, [], 0⟩] scope gpos) 0 (.ref it) .none (genEnv scope (cloFrom X.env.cells scope.names []) s₄.heap.objs.size code bi X.env))),
            toks := s₄.toks + 1 + 1 + 1,
            heap := h'.push { cls := .type "generator", data := .fields #[.int s₄.gens.size 0, .str "<genexpr>" (s₄.toks + 1), .str (X.env.qual ++ "<genexpr>") (s₄.toks + 1 + 1)] } }) X.xe { s2 with heap := h3, toks := tk } := by
    intro code h3 tk ps' hx hsz hP3 hmore ht3
    obtain ⟨bm, ob, e1, e2, e3, e4, e5, e6, e7, e8⟩ := TB.bm
    have keep3 : ∀ b u, b ≠ P → s2.heap.get? b = some u → h3.get? b = some u := fun b u hb e => hx b u hb e
    refine wpAny_builtinsFor (m := X.mg) (by rw [I2.ok.glob]; exact (I2.mod.glob.keeps I2.bk).extBut hx TB.gP) e1 e2 (keep3 _ _ e4 (I2.bk _ _ e5)) e6 e7 e8 ?_
    obtain ⟨more, rfl⟩ := hmore
    have I4 := GxR.inv_tab (more := more) (h' := h3) (g' := s2.gens) (d' := s2.drawn) (t' := tk) I2 hP (fun b u hb e => keep3 b u hb e) hP3 I2.bare
    have hT : GxR.Tabbed P H2 (upd H2 P (.tbl (ps ++ more))) := ⟨⟨ps ++ more, upd_same, ht3⟩, fun b hb => upd_ne hb⟩
    obtain ⟨W, ⟨m0, w0⟩, turn⟩ := q _ hT
    generalize upd H2 P (.tbl (ps ++ more)) = H3 at I4 hT w0
    have nP : ∀ b ∈ fp, b ≠ P := fun b hb z => by
      have := (f2 b hb).1
      rw [z, hP] at this
      cases this
    have lt2 : ∀ b ∈ fp, b < s2.heap.objs.size := fun b hb => by
      obtain ⟨o, e, _⟩ := T.obj _ _ st2 b hb
      exact Heap.lt_size e
    have f4 : ∀ b ∈ fp, FpOk X pins H3 b ∧ b < h3.objs.size := fun b hb => by
      refine ⟨⟨?_, (f2 b hb).2⟩, Nat.lt_of_lt_of_le (lt2 b hb) hsz⟩
      rw [hT.2 b (nP b hb)]
      exact (f2 b hb).1
    have st4 : tn 0 h3 := T.keep _ _ _ st2 fun b hb o e => keep3 b o (nP b hb) e
    generalize hs4 : ({ s2 with heap := h3, toks := tk } : Shared) = s4 at I4
    have eh4 : s4.heap = h3 := by rw [← hs4]
    have eg4 : s4.gens = s2.gens := by rw [← hs4]
    have eo4 : s4.os = s2.os := by rw [← hs4]
    rw [← eh4] at f4 st4
    intro h' hn' hs'
    have hsz' : h'.objs.size = s4.heap.objs.size + 1 := by rw [hs'.1, Heap.size_push]
    have keep' : ∀ b o, s4.heap.get? b = some o → h'.get? b = some o := fun b o e => hs'.extBut b o (Nat.ne_of_lt (Heap.lt_size e)) (Heap.get?_push_of_some _ e)
    generalize hgo : ({ cls := .type "generator", data := .fields #[.int s4.gens.size 0, .str "<genexpr>" (s4.toks + 1), .str (X.env.qual ++ "<genexpr>") (s4.toks + 1 + 1)] } : Obj) = go
    have keep5 : ∀ b o, s4.heap.get? b = some o → (h'.push go).get? b = some o := fun b o e => Heap.get?_push_of_some _ (keep' b o e)
    have ga : (h'.push go).get? h'.objs.size = some go := Heap.get?_push_size _ (by rw [← hgo]; rfl)
    generalize hcenv : genEnv scope (cloFrom X.env.cells scope.names []) s4.heap.objs.size code builtinsNs X.env = cenv
    generalize hs5 : ({ s4 with gens := s4.gens.push (.fresh (.compStart (.GeneratorExp elt [⟨tg, iter, [], 0⟩] scope gpos) 0 (.ref it) .none cenv)), toks := s4.toks + 1 + 1 + 1, heap := h'.push go } : Shared) = s5
    have eh5 : s5.heap = h'.push go := by rw [← hs5]
    have eo5 : s5.os = s4.os := by rw [← hs5]
    have eg5 : s5.gens = s4.gens.push (.fresh (.compStart (.GeneratorExp elt [⟨tg, iter, [], 0⟩] scope gpos) 0 (.ref it) .none cenv)) := by rw [← hs5]
    have hgen : ∀ h : Heap, h.get? h'.objs.size = some go → h.IsGen h'.objs.size s4.gens.size := fun h e => ⟨go, _, _, e, by rw [← hgo], by rw [← hgo], by rw [← hgo]⟩
    have gb5 : AllBare s5.gens := by rw [eg5]; exact I4.bare.push rfl
    generalize hB : X.A.in1.in1.over (.compLoop (.GeneratorExp elt [⟨tg, iter, [], 0⟩] scope gpos) 0 (.ref it) .none cenv) [] = B
    have hBh : B.handled = none := by rw [← hB]; exact hr.hd
    have hBf : B.frames = some (cenv :: X.stack) := by
      rw [← hB]
      have q : (X.A.in1.in1.over (.compLoop (.GeneratorExp elt [⟨tg, iter, [], 0⟩] scope gpos) 0 (.ref it) .none cenv) []).frames = pushEnvs (Code.envs (.compLoop (.GeneratorExp elt [⟨tg, iter, [], 0⟩] scope gpos) 0 (.ref it) .none cenv)) (pushEnvs (envsOf []) X.A.in1.in1.frames) := rfl
      rw [q, show X.A.in1.in1.frames = X.A.frames from rfl, I.ok.frames]
      rfl
    have hBr : Room k B := ⟨hBh, by rw [← hB]; have := hr.dp; show X.A.depth + 0 + 1 + 3 * k + 5 < _; omega, by rw [← hB]; have := hr.un; show X.A.units + 1 + 1 + 0 + 3 + 16 * k + 200 < _; omega⟩
    have hn5 : s5.heap.Ns s4.heap.objs.size (fun y => if y = ".0" then some (.ref it) else none) := by rw [eh5]; exact hn'.push _
    have I5 : Inv (gcx X B s4 H3 cenv fp [(h'.objs.size, go)]) [] (wipe σ (own.map (·.2))) H3 s5 := by
      have z := gen_start (B := B) (code := code) (s' := s5) (pn := [(h'.objs.size, go)]) I4 ok hN f4 hBh (by rw [hcenv]; exact hBf) eo5 gb5 (fun b o e => by rw [eh5]; exact keep5 b o e) hn5 (fun p hp => by
        have e := List.mem_singleton.mp hp
        rw [e]
        exact ⟨by rw [eh5]; exact ga, by show _ < h'.objs.size; omega, fun v z => by rw [← hgo] at z; cases z⟩)
      rw [hcenv] at z
      exact z
    have hapart : ∀ p ∈ [(h'.objs.size, go)], ∀ b ∈ fp, p.1 ≠ b := fun p hp b hb => by
      have e := List.mem_singleton.mp hp
      have l := (f4 b hb).2
      rw [e]
      exact Nat.ne_of_gt (Nat.lt_trans l (by rw [hsz']; exact Nat.lt_succ_self _))
    have pg := hpg B s4 H3 (cloFrom X.env.cells scope.names []) s4.heap.objs.size code fp [(h'.objs.size, go)]
    have pe := hpe B s4 H3 (cloFrom X.env.cells scope.names []) s4.heap.objs.size code fp [(h'.objs.size, go)] hBr
    rw [hcenv] at pg pe
    have Wk := gwalk (Y := gcx X B s4 H3 cenv fp [(h'.objs.size, go)]) (σ := σ) (vs := own.map (·.2)) hc rfl rfl hapart T pg pe turn
    have back : ∀ {σ' : L2.St} {H' : Hp} {s' : Shared}, Inv (gcx X B s4 H3 cenv fp [(h'.objs.size, go)]) [] σ' H' s' → Inv X pins σ H' s' := fun {σ' H' s'} I6 =>
      I4.call' (ch := fp) I6.os I6.base I6.hok I6.bare fun b hb => ⟨(f4 b hb).1.2.2.2.1, (f4 b hb).1.2.1, (f4 b hb).1.2.2.2.2.1, (f4 b hb).1.2.2.2.2.2⟩
    have gat : ∀ {σ' : L2.St} {H' : Hp} {s' : Shared}, Inv (gcx X B s4 H3 cenv fp [(h'.objs.size, go)]) [] σ' H' s' → s'.heap.IsGen h'.objs.size s4.gens.size := fun {σ' H' s'} I6 =>
      hgen _ (I6.pin (h'.objs.size, go) (List.mem_append_left _ List.mem_cons_self)).1
    refine Calls.spliced_nil ?_
    refine call_function_tree F.kind_all F.plain_all F.entry_all (F.args_all1 _) ?_
    unfold Builtin.«all»
    refine wpAny_bind (m := oneArg "all" _) (wpAny_pure ?_)
    refine wpAny_bind (wpAny_pyIter_gen (gat I5) ?_)
    refine wpAny_pure ⟨plainId_quiet F.plain_all_loop _, ?_⟩
    refine all_loop (P := X.prog) (w := X.w) (g := s4.gens.size) (Lp := LpG (gcx X B s4 H3 cenv fp [(h'.objs.size, go)]) (wipe σ (own.map (·.2))) fp tn W) (Yd := YdG (gcx X B s4 H3 cenv fp [(h'.objs.size, go)]) (wipe σ (own.map (·.2))) fp tn W Q) (Dn := DnG (gcx X B s4 H3 cenv fp [(h'.objs.size, go)]) (wipe σ (own.map (·.2))) Q)
      hr.hd (by have := hr.dp; omega) (fun m v s hY => ?_) (fun s s' hD hk ho hg => ?_) (m0 + 1) s5 (.fresh (.compStart (.GeneratorExp elt [⟨tg, iter, [], 0⟩] scope gpos) 0 (.ref it) .none cenv)) I5.nolimit (gat I5) (by rw [eg5]; exact Array.getElem?_push_size ..) ⟨rfl, ?_⟩
    · rcases hY with ⟨rfl, i, m1, H', hm1, I6, st6, n6, w6⟩ | ⟨rfl, σ', H', I6, q6⟩
      · refine ⟨I6.nolimit, gat I6, I6.bare, true, rfl, fun s'' hal => ?_⟩
        rw [if_pos rfl]
        exact ⟨i, m1, H', hm1, Inv.alike I6 hal, by rw [hal.heap]; exact st6, n6, w6⟩
      · refine ⟨I6.nolimit, gat I6, I6.bare, false, rfl, fun s'' hal => ?_⟩
        rw [if_neg Bool.false_ne_true]
        exact ⟨.bl false, H', back (Inv.alike I6 hal), rfl, q6⟩
    · obtain ⟨H', I6, q6⟩ := hD
      have I7 := I6.kept (t' := s.toks) hk
      refine ⟨.bl true, H', back (Inv.alike I7 ⟨rfl, ho, ?_⟩), rfl, q6⟩
      rw [hg]
      exact allBare_setGen I6.bare rfl
    · refine seg_start hB (by rw [← hcenv]; exact ok.co) Wk (Nat.le_refl _) ⟨0, m0, H3, Nat.le_refl _, Inv.alike I5 ⟨rfl, rfl, allBare_setGen gb5 rfl⟩, ?_, fun b hb => (f4 b hb).1.1, w0⟩
      show tn 0 s5.heap
      rw [eh5]
      exact T.keep _ _ _ st4 fun b hb o e => keep5 b o e
  cases hf : codeAmong gpos ps.toList with
  | none =>
    refine wpAny_genexprCodeX hcode (cd.code hPs ht) (cd.tab hPs) hf fun c' h' tk hx hge hlt hco' _ htab' _ => ?_
    obtain ⟨o1, vs, f1, tf, fl, tg, inF, tx, tt, op, _, _, _, _, _, _, _, _, _, htr, _⟩ := hco'
    exact cont _ h' tk _ hx (Nat.le_trans hge (Nat.le_of_lt hlt)) htab'.2 ⟨_, rfl⟩ htr
  | some cv =>
    refine wpAny_genexprCode_hit hcode (cd.code hPs ht) hf ?_
    exact cont cv s2.heap s2.toks ps (Heap.ExtBut.refl _ _) (Nat.le_refl _) hPs ⟨#[], by simp⟩ ht
end
end KG

set_option Elab.async false
set_option linter.all false
set_option maxRecDepth 100000
set_option maxHeartbeats 1000000
/-! ### the end of a law whose def is quiet, with tables of code -/
namespace KG
open PySem PySem.Spec PyProof.Rows L2 KX
open Classical in
theorem lawGT {P : Program} {w : World} {K : PySem.W.Frag} {mg mb : Str → Option Value} {k : Nat} {fa a : Addr} {cs : List (Addr × Addr)} {fd : FuncData} {x : Str} {sp : Sp} {s₁ : Shared} {vs : List Value} {ns : List Int}
    (inK : K.In s₁.heap) (hns : s₁.heap.Ns mainGlobals mg) (hb : s₁.heap.Ns builtinsNs mb) (hbb : ∀ y : Str, y ≠ "__name__" → mb y = bootBuiltins y) (hlim : s₁.heap.NoLimit) (hg : s₁.gens = #[])
    (hT : ∀ p ∈ cs, s₁.heap.get? p.2 = some { cls := .none, data := .fields #[] }) (nT : ∀ p ∈ cs, K.lookup p.2 = none) (C : ∀ p ∈ cs, PySem.W.CodeHd s₁.heap p.1 p.2)
    (hbm : ∃ (bm : Addr) (ob : Obj), mg "__builtins__" = some (.ref bm) ∧ bm ≠ builtinsNs ∧ s₁.heap.get? bm = some ob ∧ ob.cls = .type "module" ∧ ob.dict = some builtinsNs ∧ ob.data = .plain)
    (ha : s₁.heap.get? a = some { cls := .type "list", data := .seq vs.toArray }) (hi : IntsAre vs ns) (hl : ns.length ≤ sizeLine) (hr : Room k callerA)
    (F : ∀ base : Heap, K.In base → base.Ns mainGlobals mg → (∀ p ∈ cs, GxR.TabB base mg p.1 p.2) → FnG P w K mg base k fa fd [x] sp) (hbind : ∀ (s : Shared) (u : Value), BindsTo s fd ⟨[u], []⟩ [(x, u)])
    (hsp : ∀ H : Hp, (∀ p ∈ cs, H p.2 = some (.tbl #[])) → SqL K H a (ns.map V.int) → sp [.ref a] H (fun v _ => v = .bl true) fun _ _ _ => False) :
    codeAny (model P w) callerA (.call (.ref fa) ⟨[.ref a], []⟩) (fun r s' => r = .ok (.ret (.bool true)) ∧ OldK s₁.heap s'.heap ∧ s'.os = s₁.os ∧ AllBare s'.gens) s₁ := by
  let scr : Obj := { cls := .type "list", data := .seq vs.toArray }
  let H : Hp := fun b => if K.lookup a = none ∧ b = a then some (.frz scr (.lst (ns.map V.int))) else if b ∈ cs.map (·.2) then some (.tbl #[]) else none
  have rv := vals_ints hi
  have isT : ∀ {b : Addr}, b ∈ cs.map (·.2) → s₁.heap.get? b = some { cls := .none, data := .fields #[] } ∧ K.lookup b = none := fun {b} hb => by
    obtain ⟨p, hp, e⟩ := List.mem_map.mp hb
    rw [← e]
    exact ⟨hT p hp, nT p hp⟩
  have memT : ∀ p ∈ cs, p.2 ∈ cs.map (·.2) := fun p hp => List.mem_map.mpr ⟨p, hp, rfl⟩
  have aT : ∀ {b}, b ∈ cs.map (·.2) → b ≠ a := fun {b} hb z => by
    have q := (isT hb).1
    rw [z, ha] at q
    cases q
  have hA : ∀ {b u}, H b = some u → (K.lookup a = none ∧ b = a ∧ u = .frz scr (.lst (ns.map V.int))) ∨ (b ∈ cs.map (·.2) ∧ u = .tbl #[]) := fun {b u} z => by
    by_cases c : K.lookup a = none ∧ b = a
    · have z' : some (HO.frz scr (.lst (ns.map V.int))) = some u := (if_pos c).symm.trans z
      exact .inl ⟨c.1, c.2, (Option.some.inj z').symm⟩
    · have z1 := (if_neg c).symm.trans z
      by_cases c2 : b ∈ cs.map (·.2)
      · have z' : some (HO.tbl #[]) = some u := (if_pos c2).symm.trans z1
        exact .inr ⟨c2, (Option.some.inj z').symm⟩
      · have z' : none = some u := (if_neg c2).symm.trans z1
        cases z'
  have hTb : ∀ p ∈ cs, H p.2 = some (.tbl #[]) := fun p hp => (if_neg fun z => aT (memT p hp) z.2).trans (if_pos (memT p hp))
  have nK : ∀ {b o}, K.lookup b = some o → H b = none := fun {b o} e => by
    cases z : H b with
    | none => rfl
    | some u =>
      rcases hA z with ⟨z1, z2, _⟩ | ⟨z1, _⟩
      · rw [z2, z1] at e
        cases e
      · rw [(isT z1).2] at e
        cases e
  have noD : ∀ {b : Addr} {o : Obj}, s₁.heap.get? b = some o → (∀ vs n, o.data ≠ .seq vs n) → o.data ≠ .fields #[] → H b = none := fun {b o} e h1 h2 => by
    cases z : H b with
    | none => rfl
    | some u =>
      rcases hA z with ⟨_, z2, _⟩ | ⟨z1, _⟩
      · rw [z2, ha] at e
        cases e
        exact absurd rfl (h1 _ _)
      · rw [(isT z1).1] at e
        cases e
        exact absurd rfl h2
  have nD : ∀ {b m}, s₁.heap.Ns b m → (hidT s₁.heap H).Ns b m := by
    rintro b m ⟨o, es, ep, e, d, r⟩
    refine ⟨o, es, ep, hidT_get e (noD e (fun vs n z => ?_) fun z => ?_), d, r⟩ <;> (rw [d] at z; cases z)
  have inB : K.In (hidT s₁.heap H) := fun b o e => hidT_get (inK b o e) (nK e)
  have hok : HOk P w H s₁.heap := fun b u z => by
    rcases hA z with ⟨_, rfl, rfl⟩ | ⟨z1, rfl⟩
    · exact ⟨ha, by rw [List.length_map]; exact hl, vs, _, rv, ha⟩
    · exact (isT z1).1
  have sq : SqL K H a (ns.map V.int) := by
    cases z : K.lookup a with
    | none => exact .inl (.inr ⟨scr, if_pos ⟨z, rfl⟩⟩)
    | some o =>
      have e := inK a o z
      rw [ha] at e
      cases e
      exact .inr ⟨_, vs.toArray, _, z, rfl, rfl, rfl, by rw [List.size_toArray, hi.length]; exact hl, by simpa using rv⟩
  have TB : ∀ p ∈ cs, GxR.TabB (hidT s₁.heap H) mg p.1 p.2 := fun p hp => by
    have hTp := hT p hp
    refine ⟨?_, ?_, fun z => ?_⟩
    · obtain ⟨o, us, file, tf, flags, tg, inF, text, tt, e1, r1, r2, r3, r4, r5, r6, r7, r8, hne⟩ := C p hp
      refine ⟨o, us, file, tf, flags, tg, inF, text, tt, hidT_get e1 (noD e1 (fun vs n z => ?_) fun z => ?_), r1, r2, r3, r4, r5, r6, r7, r8, hne⟩
      · rw [r2] at z
        cases z
      · rw [r2] at z
        cases z
        simp at r3
    · obtain ⟨bm, ob, b1, b2, b3, b4, b5, b6⟩ := hbm
      have nG : bm ≠ mainGlobals := fun q => by
        obtain ⟨o, es, ep, e, hd, _⟩ := hns
        rw [q, e] at b3
        cases b3
        rw [hd] at b6
        cases b6
      have nP : bm ≠ p.2 := fun q => by
        rw [q, hTp] at b3
        cases b3
        cases b6
      refine ⟨bm, ob, b1, b2, nG, nP, hidT_get b3 (noD b3 (fun vs n z => ?_) fun z => ?_), b4, b5, b6⟩ <;> (rw [b6] at z; cases z)
    · obtain ⟨o, es, ep, e, hd, _⟩ := hns
      rw [z, hTp] at e
      cases e
      cases hd
  have e0 : Env0 P w K mg (hidT s₁.heap H) callerA [] s₁ H :=
    ⟨rfl, ⟨inB, nD hns, ⟨mb, nD hb, hbb⟩, let ⟨mc, h1, h2⟩ := hlim; ⟨mc, nD h1, h2⟩⟩, fun b o e => of_hidT e, Nat.le_of_eq (hidT_size _ _), trivial, fun b z => (nomatch z), hok, .of_eq hg⟩
  refine codeAny_mono ((F _ inB (nD hns) TB).goes (us := [.ref a]) (vs := [.ref a]) rfl hr e0 (hbind s₁ (.ref a)) (.cons rfl .nil) (hsp H hTb sq)) ?_
  rintro (e | (_ | _ | _ | u)) s' z
  · exact z.elim
  · exact False.elim z
  · exact False.elim z
  · exact False.elim z
  · obtain ⟨v, H', os, bare, un, hok', r', q⟩ := z
    subst q
    obtain rfl : u = Value.bool true := r'
    have key : ∀ b o, b ∉ cs.map (·.2) → s₁.heap.get? b = some o → s'.heap.get? b = some o := fun b o nb e => by
      cases c : H b with
      | none => exact un.keep b o e c (fun z => nomatch z) (fun z => nomatch z)
      | some y =>
        rcases hA c with ⟨_, rfl, rfl⟩ | ⟨z1, _⟩
        · have e1 := (hok _ _ c).1
          have e2 := (hok' _ _ (un.frzs _ _ _ c)).1
          rw [e1] at e
          cases e
          exact e2
        · exact absurd z1 nb
    have grown : ∀ p ∈ cs, ∃ more : Array Value, s'.heap.get? p.2 = some { cls := .none, data := .fields more } := fun p hp => by
      obtain ⟨more, z⟩ := un.tbls p.2 #[] (hTb p hp)
      exact ⟨_, hok' p.2 _ z⟩
    refine ⟨rfl, ⟨fun b o e => ?_, fun b o e => ?_⟩, os, bare⟩
    · by_cases hb : b ∈ cs.map (·.2)
      · obtain ⟨p, hp, ep⟩ := List.mem_map.mp hb
        obtain ⟨more, hm⟩ := grown p hp
        rw [← ep] at e ⊢
        rw [hT p hp] at e
        cases e
        exact .inr (.inl ⟨((C p hp).tab (hT p hp)).isCodeTable, rfl, #[], more, rfl, by rw [Array.empty_append]; exact hm⟩)
      · exact .inl (key b o hb e)
    · by_cases hb : b ∈ cs.map (·.2)
      · obtain ⟨p, hp, ep⟩ := List.mem_map.mp hb
        obtain ⟨more, hm⟩ := grown p hp
        rw [← ep]
        exact ⟨_, hm⟩
      · exact ⟨o, key b o hb e⟩
end KG

set_option Elab.async false
set_option linter.all false
set_option maxRecDepth 100000
set_option maxHeartbeats 1000000
/-! ### things as data; whole numbers, fractions -/
namespace KP
open PySem PySem.Spec PyProof.Rows L2 KX
def top (i : Nat) : Stmt := PySem.Challenge.pw_hiddenrates_k02_whole_nets_of_anything.main.body.getD i (.Pass ⟨0, 0, 0, 0⟩)
abbrev sWhole : Stmt := top 3
abbrev sWithin : Stmt := top 4
abbrev sRatio : Stmt := top 5
abbrev sTold : Stmt := top 6
abbrev sNet : Stmt := top 12
abbrev sPipes : Stmt := top 13
abbrev sPipe : Stmt := top 14
abbrev sShare : Stmt := top 15
abbrev sTanks : Stmt := top 16
mutual
/-- what x is as data (tracked lists, tuples, the empty dict) -/
inductive Th (H : Hp) : V → PyData → Prop
  | non : Th H .non .none
  | bl (b : Bool) : Th H (.bl b) (.bool b)
  | int (i : Int) : Th H (.int i) (.int i)
  | str (x : Str) : Th H (.str x) (.str x)
  | lst {a : Addr} {xs : List V} {ds : List PyData} : H a = some (.lst xs) → ThAll H xs ds → Th H (.ref a) (.list ds)
  | tup {a : Addr} {xs : List V} {ds : List PyData} : H a = some (.tup xs) → ThAll H xs ds → Th H (.ref a) (.tuple ds)
  | emp {a : Addr} : H a = some (.dK []) → Th H (.ref a) (.dict [])
inductive ThAll (H : Hp) : List V → List PyData → Prop
  | nil : ThAll H [] []
  | cons {v : V} {vs : List V} {d : PyData} {ds : List PyData} : Th H v d → ThAll H vs ds → ThAll H (v :: vs) (d :: ds)
end
/-- all but tables as it was -/
def Sm (H H' : Hp) : Prop := ∀ b u, H b = some u → (∀ q, u ≠ .tbl q) → H' b = some u
theorem Sm.refl (H : Hp) : Sm H H := fun _ _ e _ => e
theorem Sm.trans {H H1 H2 : Hp} (a : Sm H H1) (b : Sm H1 H2) : Sm H H2 := fun c u e n => b c u (a c u e n) n
theorem Sm.same {H H1 : Hp} (a : Same H H1) : Sm H H1 := fun c u e _ => a c u e
theorem Th.mono {H H' : Hp} (s : Sm H H') {v : V} {d : PyData} (h : Th H v d) : Th H' v d := by
  refine Th.rec (motive_1 := fun v d _ => Th H' v d) (motive_2 := fun vs ds _ => ThAll H' vs ds) .non (fun b => .bl b) (fun i => .int i) (fun x => .str x) (fun q _ ih => .lst (s _ _ q fun _ z => by cases z) ih) (fun q _ ih => .tup (s _ _ q fun _ z => by cases z) ih) (fun q => .emp (s _ _ q fun _ z => by cases z)) .nil (fun _ _ a b => .cons a b) h
def tyN : PyData → String
  | .none => "NoneType"
  | .bool _ => "bool"
  | .int _ => "int"
  | .str _ => "str"
  | .list _ => "list"
  | .tuple _ => "tuple"
  | .dict _ => "dict"
theorem Th.ty {K : PySem.W.Frag} {H : Hp} {v : V} {d : PyData} (h : Th H v d) : TyB K H v (tyN d) := by
  cases h with
  | non => exact .non
  | bl b => exact .bl b
  | int i => exact .int i
  | str x => exact .str x
  | lst e _ => exact .lst (SqL.of e)
  | tup e _ => exact .tup (SqT.of e)
  | emp e => exact .dK e
def isI : PyData → Bool
  | .int _ => true
  | _ => false
def isW : PyData → Int → Int → Bool
  | .int i, lo, hi => decide (lo ≤ i) && decide (i ≤ hi)
  | _, _, _ => false
structure TxT (mg : Str → Option Value) : Prop where
  type : mg "type" = none
  int : mg "int" = none
  tuple : mg "tuple" = none
  str : mg "str" = none
  len : mg "len" = none
  abs : mg "abs" = none
  all : mg "all" = none
  enumerate : mg "enumerate" = none
  zip : mg "zip" = none
theorem isI_ty (d : PyData) : decide (tyN d = "int") = isI d := by cases d <;> simp [tyN, isI]
def spWhole : Sp := fun vs H Q _ => ∃ x d, vs = [x] ∧ Th H x d ∧ Q (.bl (isI d)) H
def spWithin : Sp := fun vs H Q _ => ∃ x d lo hi, vs = [x, .int lo, .int hi] ∧ Th H x d ∧ Q (.bl (isW d lo hi)) H
section
variable {P : Program} {w : World} {K : PySem.W.Frag} {mg : Str → Option Value} {base : Heap}
theorem scWhole : FnScope ["value"] ["value"] (defScope sWhole) := ⟨rfl, rfl, rfl, by decide +kernel, rfl, by decide +kernel, by decide +kernel⟩
theorem ok_whole {f : Addr} {fd : FuncData} (F : Fun K "is_whole" "is_whole" sWhole f fd) (T : TxT mg) : FnOk P w K mg base CX0 1 f fd ["value"] spWhole := by
  refine F.ok scWhole (fun vs H Q E h => ?_) (fun cdv A outer s H vs Q E hr h => ?_)
  · obtain ⟨x, d, rfl, _⟩ := h
    rfl
  · obtain ⟨x, d, rfl, hx, k⟩ := h
    refine ⟨_, pss_one (ps_ret (pe_cmpR op_isTyB (pe_callTy call_type1 (by rfl) T.type (by decide +kernel) (pa_cons (pv 0) pa_nil)) (pe_bltn (v := .ty "int") (by rfl) T.int (by decide +kernel) rfl) (nomark _))), ?_⟩
    refine ⟨_, rfl, _, _, rfl, Th.ty hx, _, _, rfl, rfl, ?_⟩
    show Q (.bl (decide (tyN d = "int"))) H
    rw [isI_ty]
    exact k
theorem scWithin : FnScope ["value", "least", "most"] ["value", "least", "most"] (defScope sWithin) := ⟨rfl, rfl, rfl, by decide +kernel, rfl, by decide +kernel, by decide +kernel⟩
theorem ok_within {f fW : Addr} {fd fdW : FuncData} (F : Fun K "is_within" "is_within" sWithin f fd) (FW : FnOk P w K mg base CX0 1 fW fdW ["value"] spWhole) (mW : mg "is_whole" = some (.ref fW)) (kW : PySem.W.keepIn K (.ref fW) = true) (bW : Binds K fdW ["value"] []) :
    FnOk P w K mg base CX0 2 f fd ["value", "least", "most"] spWithin := by
  refine F.ok scWithin (fun vs H Q E h => ?_) (fun cdv A outer s H vs Q E hr h => ?_)
  · obtain ⟨x, d, lo, hi, rfl, _⟩ := h
    rfl
  · obtain ⟨x, d, lo, hi, rfl, hx, k⟩ := h
    refine ⟨_, pss_one (ps_ret (pe_and (pe_call FW hr rfl mW kW bW .nil pass0 (pa_cons (pv 0) pa_nil)) (pe_one (pe_chain op_le op_le (pv 1) (pv 0) (pv 2))))), ?_⟩
    refine ⟨_, rfl, x, d, rfl, hx, _, rfl, ?_⟩
    cases hx with
    | int i =>
      refine ⟨_, rfl, _, rfl, _, _, rfl, rfl, _, rfl, ?_⟩
      by_cases c : lo ≤ i
      · rw [if_pos (decide_eq_true c)]
        refine ⟨_, rfl, _, _, rfl, rfl, ?_⟩
        have e : isW (.int i) lo hi = decide (i ≤ hi) := by simp [isW, c]
        rw [e] at k
        exact k
      · rw [if_neg (by simpa using c)]
        have e : isW (.int i) lo hi = false := by simp [isW, c]
        rw [e] at k
        exact k
    | _ => exact k
end
end KP

set_option Elab.async false
set_option linter.all false
set_option maxRecDepth 100000
set_option maxHeartbeats 1000000
/-! ### readings that change nothing; fractions, shares, pipes -/
namespace KP
open PySem PySem.Spec PyProof.Rows L2 KX
def Vi (t : TE) (σ : L2.St) (H : Hp) (v : V) : Prop := ∀ Q : VK, Q v H → t σ H Q
def Ti (t : TT) (σ : L2.St) (H : Hp) (b : Bool) : Prop := ∀ Q : Bool → Hp → Prop, Q b H → t σ H Q
def Ai (t : TA) (σ : L2.St) (H : Hp) (vs : List V) : Prop := ∀ Q : List V → Hp → Prop, Q vs H → t σ H Q
section
variable {K : PySem.W.Frag} {σ : L2.St} {H : Hp}
theorem vi_var {i : Nat} {v : V} (h : σ[i]? = some (some v)) : Vi (tVar i) σ H v := fun _ q => ⟨v, h, q⟩
theorem vi_c {v : V} : Vi (tC v) σ H v := fun _ q => q
theorem ai_nil : Ai tNil σ H [] := fun _ q => q
theorem ai_cons {te : TE} {ta : TA} {v : V} {vs : List V} (h : Vi te σ H v) (h2 : Ai ta σ H vs) : Ai (tCons te ta) σ H (v :: vs) := fun _ q => h _ (h2 _ q)
theorem vi_op {r : R2} {ta tb : TE} {x y v : V} (ha : Vi ta σ H x) (hb : Vi tb σ H y) (hr : ∀ Q : VK, Q v H → r x y H Q) : Vi (tOp r ta tb) σ H v := fun Q q => ha _ (hb _ (hr Q q))
theorem vi_cb {r : List V → Hp → VK → Prop} {t : TA} {vs : List V} {v : V} (ha : Ai t σ H vs) (hr : ∀ Q : VK, Q v H → r vs H Q) : Vi (tCB r t) σ H v := fun Q q => ha _ (hr Q q)
theorem vi_call {sp : Sp} {E : XK} {t : TA} {vs : List V} {v : V} (ha : Ai t σ H vs) (hr : ∀ Q : VK, Q v H → sp vs H Q E) : Vi (tCall sp [] E t) σ H v := fun Q q => ha _ (by rw [List.append_nil]; exact hr Q q)
theorem ti_test {te : TE} {b : Bool} (h : Vi te σ H (.bl b)) : Ti (tTest te) σ H b := fun Q q => h _ ⟨b, rfl, q⟩
theorem ti_val {te : TE} {b : Bool} (h : Vi te σ H (.bl b)) : Ti (tB te) σ H b := fun Q q => h _ ⟨b, rfl, q⟩
theorem ti_or {t u : TT} {a b : Bool} (h : Ti t σ H a) (h2 : a = false → Ti u σ H b) : Ti (tOr t u) σ H (a || b) := fun Q q => h _ (by
  cases a with
  | true => rw [if_pos rfl]; simpa using q
  | false => rw [if_neg Bool.false_ne_true]; exact h2 rfl _ (by simpa using q))
theorem ti_not {t : TT} {a : Bool} (h : Ti t σ H a) : Ti (tNot t) σ H (!a) := fun Q q => h _ q
theorem vi_and {ta tb : TE} {a b : Bool} (h : Vi ta σ H (.bl a)) (h2 : a = true → Vi tb σ H (.bl b)) : Vi (tAndV ta tb) σ H (.bl (a && b)) := fun Q q => h _ ⟨a, rfl, by
  cases a with
  | true => rw [if_pos rfl]; exact h2 rfl _ (by simpa using q)
  | false => rw [if_neg Bool.false_ne_true]; simpa using q⟩
theorem vi_or {ta tb : TE} {a b : Bool} (h : Vi ta σ H (.bl a)) (h2 : a = false → Vi tb σ H (.bl b)) : Vi (tOrV ta tb) σ H (.bl (a || b)) := fun Q q => h _ ⟨a, rfl, by
  cases a with
  | true => rw [if_pos rfl]; simpa using q
  | false => rw [if_neg Bool.false_ne_true]; exact h2 rfl _ (by simpa using q)⟩
theorem i_if {t : TT} {tu tw : TS} {b : Bool} {D : Ends} (h : Ti t σ H b) (h1 : b = true → tu D σ H) (h2 : b = false → tw D σ H) : tIfS t tu tw D σ H := h _ (by
  cases b with
  | true => rw [if_pos rfl]; exact h1 rfl
  | false => rw [if_neg Bool.false_ne_true]; exact h2 rfl)
theorem i_ret {te : TE} {v : V} {D : Ends} (h : Vi te σ H v) (k : D.rt v H) : tRet te D σ H := h _ k
/-- if test: return False -/
theorem i_guard {t : TT} {tz : TS} {b : Bool} {D : Ends} (h : Ti t σ H b) (h1 : b = true → D.rt (.bl false) H) (h2 : b = false → tz D σ H) : tSeq (tIfS t (tRet (tC (.bl false))) tNext) tz D σ H :=
  i_if (D := { D with nx := tz D }) h (fun z => i_ret vi_c (h1 z)) h2
theorem vi_type {K : PySem.W.Frag} {t : TA} {x : V} {d : PyData} (ha : Ai t σ H [x]) (h : Th H x d) : Vi (tCB (rTyp K) t) σ H (.ty (tyN d)) := vi_cb ha fun Q q => ⟨x, _, rfl, h.ty, q⟩
theorem ti_notTup {K : PySem.W.Frag} {te : TE} {x : V} {d : PyData} (ha : Vi te σ H x) (h : Th H x d) : Ti (tTest (tOp rNT (tCB (rTyp K) (tCons te tNil)) (tC (.ty "tuple")))) σ H (!decide (tyN d = "tuple")) :=
  ti_test (vi_op (vi_type (ai_cons ha ai_nil) h) vi_c fun Q q => ⟨_, _, rfl, rfl, q⟩)
end
def lenT : PyData → Nat
  | .tuple ds => ds.length
  | _ => 0
theorem all2 {H : Hp} {xs : List V} {ds : List PyData} (h : ThAll H xs ds) : xs.length = ds.length := by
  induction ds generalizing xs with
  | nil => cases h; rfl
  | cons d ds ih => cases h with | cons a b => rw [List.length_cons, List.length_cons, ih b]
def rLen (K : PySem.W.Frag) : List V → Hp → VK → Prop := fun xs H Q => ∃ p ys, xs = [.ref p] ∧ (SqL K H p ys ∨ SqT K H p ys) ∧ Q (.int ys.length) H
section
variable {K : PySem.W.Frag} {σ : L2.St} {H : Hp}
theorem tupOf {x : V} {d : PyData} (h : Th H x d) (z : tyN d = "tuple") : ∃ a xs ds, x = .ref a ∧ d = .tuple ds ∧ H a = some (.tup xs) ∧ ThAll H xs ds := by
  cases h with
  | tup e ha => exact ⟨_, _, _, rfl, rfl, e, ha⟩
  | _ => exact absurd z (by simp [tyN])
theorem vi_lenT {t : TA} {x : V} {d : PyData} (ha : Ai t σ H [x]) (h : Th H x d) (z : tyN d = "tuple") : Vi (tCB (rLen K) t) σ H (.int (lenT d)) := vi_cb ha fun Q q => by
  obtain ⟨a, xs, ds, rfl, rfl, e, hl⟩ := tupOf h z
  exact ⟨a, xs, rfl, .inr (SqT.of e), by rw [all2 hl]; exact q⟩
/-- the shape that is asked first -/
def shp (n : Nat) (d : PyData) : Bool := decide (tyN d = "tuple") && decide (lenT d = n)
theorem int_dec (a b : Nat) : decide ((V.int (a : Int)) = .int (b : Int)) = decide (a = b) := by
  rw [Bool.eq_iff_iff, decide_eq_true_eq, decide_eq_true_eq]
  constructor
  · intro y
    have := V.int.inj y
    omega
  · intro y
    rw [y]
theorem ti_shape {te : TE} {x : V} {d : PyData} {n : Nat} {m : Int} (hm : m = (n : Int)) (ha : Vi te σ H x) (h : Th H x d) :
    Ti (tOr (tTest (tOp rNT (tCB (rTyp K) (tCons te tNil)) (tC (.ty "tuple")))) (tTest (tOp rNe (tCB (rLen K) (tCons te tNil)) (tC (.int m))))) σ H (!shp n d) := by
  subst hm
  have e : (!shp n d) = ((!decide (tyN d = "tuple")) || !decide (lenT d = n)) := by unfold shp; rw [Bool.not_and]
  rw [e]
  refine ti_or (ti_notTup ha h) fun z => ti_test (vi_op (vi_lenT (ai_cons ha ai_nil) h (by simpa using z)) vi_c fun Q q => ⟨rfl, ?_⟩)
  rw [int_dec]
  exact q
theorem shp_of {x : V} {d : PyData} {n : Nat} (h : Th H x d) (z : (!shp n d) = false) : ∃ a xs ds, x = .ref a ∧ d = .tuple ds ∧ H a = some (.tup xs) ∧ ThAll H xs ds ∧ ds.length = n := by
  have z : shp n d = true := by simpa using z
  unfold shp at z
  rw [Bool.and_eq_true, decide_eq_true_eq, decide_eq_true_eq] at z
  obtain ⟨a, xs, ds, e1, rfl, e2, hl⟩ := tupOf h z.1
  exact ⟨a, xs, ds, e1, rfl, e2, hl, z.2⟩
theorem not_shp {d : PyData} {n : Nat} (z : (!shp n d) = true) : ∀ ds, d = .tuple ds → ds.length ≠ n := by
  rintro ds rfl e
  simp [shp, tyN, lenT, e] at z
end
def ith (i : Nat) : PyData → PyData
  | .tuple ds => ds.getD i .none
  | _ => .none
def ratio2 : PyData → PyData → Bool
  | .int a, .int b => decide (0 < b) && decide (Nat.gcd a.natAbs b.natAbs = 1)
  | _, _ => false
def isR (d : PyData) : Bool := shp 2 d && ratio2 (ith 0 d) (ith 1 d)
def small2 : PyData → PyData → Bool
  | .int a, .int b => decide ((if a < 0 then -a else a) ≤ 999) && decide (b ≤ 999)
  | _, _ => false
def isTold (d : PyData) : Bool := isR d && small2 (ith 0 d) (ith 1 d)
def isX : PyData → Bool
  | .str s => decide (s = "x")
  | _ => false
def isShare (u : Int) (d : PyData) : Bool := shp 2 d && (if tyN (ith 0 d) = "str" then isX (ith 0 d) && isW (ith 1 d) 0 (u - 1) else isTold d)
def eqI : PyData → PyData → Bool
  | .int i, .int j => decide (i = j)
  | _, _ => false
def isNon : PyData → Bool
  | .none => true
  | _ => false
def isPipe (m u : Int) (d : PyData) : Bool := shp 3 d && (!(!isW (ith 0 d) 0 (m - 1) || !isShare u (ith 2 d)) && (isNon (ith 1 d) || (isW (ith 1 d) 0 (m - 1) && !eqI (ith 1 d) (ith 0 d))))
theorem len2 {α : Type} {l : List α} (h : l.length = 2) : ∃ a b, l = [a, b] := by
  match l, h with
  | [a, b], _ => exact ⟨a, b, rfl⟩
theorem len3 {α : Type} {l : List α} (h : l.length = 3) : ∃ a b c, l = [a, b, c] := by
  match l, h with
  | [a, b, c], _ => exact ⟨a, b, c, rfl⟩
theorem len5 {α : Type} {l : List α} (h : l.length = 5) : ∃ a b c d e, l = [a, b, c, d, e] := by
  match l, h with
  | [a, b, c, d, e], _ => exact ⟨a, b, c, d, e, rfl⟩
def spIs (p : PyData → Bool) : Sp := fun vs H Q _ => ∃ x d, vs = [x] ∧ Th H x d ∧ Q (.bl (p d)) H
section
variable {P : Program} {w : World} {K : PySem.W.Frag} {mg : Str → Option Value} {base : Heap}
theorem scRatio : FnScope ["value", "above", "below"] ["value"] (defScope sRatio) := ⟨rfl, rfl, rfl, by decide +kernel, rfl, by decide +kernel, by decide +kernel⟩
theorem ok_ratio {f fW : Addr} {fd fdW : FuncData} (F : Fun K "is_ratio" "is_ratio" sRatio f fd) (T : TxT mg) (mG : mg "gcd" = some (.builtin "math.gcd")) (FW : FnOk P w K mg base CX0 1 fW fdW ["value"] spWhole) (mW : mg "is_whole" = some (.ref fW)) (kW : PySem.W.keepIn K (.ref fW) = true) (bW : Binds K fdW ["value"] []) :
    FnOk P w K mg base CX0 2 f fd ["value"] (spIs isR) := by
  refine F.ok scRatio (fun vs H Q E h => ?_) (fun cdv A outer s H vs Q E hr h => ?_)
  · obtain ⟨x, d, rfl, _⟩ := h
    rfl
  · obtain ⟨x, d, rfl, hx, k⟩ := h
    refine ⟨_, pss_cons (ps_if (pw_or (pt_cmpR op_notTyB (pe_callTy call_type1 (by rfl) T.type (by decide +kernel) (pa_cons (pv 0) pa_nil)) (pe_bltn (v := .ty "tuple") (by rfl) T.tuple (by decide +kernel) rfl) (nomark _))
        (pw_or1 (pt_cmpR op_ne (pe_callB call_len_seq (by rfl) T.len PySem.boot_len (pa_cons (pv 0) pa_nil)) pe_int (nomark _)))).pt (pss_one (ps_ret pe_bl)) pss_nil)
      (pss_cons (ps_asg (pv 0) (pg_tup rfl (pgs_cons (pg_name (i := 1) scRatio.nd rfl (Or.inl rfl)) (pgs_cons (pg_name (i := 2) scRatio.nd rfl (Or.inl rfl)) pgs_nil))))
      (pss_one (ps_ret (pe_and (pe_call FW hr rfl mW kW bW .nil pass0 (pa_cons (pv 1) pa_nil)) (pe_and (pe_call FW hr rfl mW kW bW .nil pass0 (pa_cons (pv 2) pa_nil)) (pe_and (pe_cmpR op_gt (pv 2) pe_int (nomark _)) (pe_one (pe_cmpR op_eq (pe_callBfun cr_gcd (by rfl) mG (pa_cons (pv 1) (pa_cons (pv 2) pa_nil))) pe_int (nomark _))))))))), ?_⟩
    refine i_guard (ti_shape rfl (vi_var rfl) hx) (fun z => ?_) (fun z => ?_)
    · have e : isR d = false := by
        have z : shp 2 d = false := by simpa using z
        simp [isR, z]
      rw [e] at k
      exact k
    · obtain ⟨a, xs, ds, rfl, rfl, e, ha, l2⟩ := shp_of hx z
      obtain ⟨d1, d2, rfl⟩ := len2 l2
      cases ha with
      | cons h1 hr1 => cases hr1 with
          | cons h2 hr2 =>
            cases hr2
            refine ⟨_, rfl, a, _, rfl, SqT.of e, rfl, _, _, rfl, _, _, rfl, rfl, ?_⟩
            have e9 : isR (.tuple [d1, d2]) = (isI d1 && (isI d2 && ratio2 d1 d2)) := by cases d1 <;> cases d2 <;> simp [isI, isR, shp, ith, ratio2, tyN, lenT]
            rw [e9] at k
            dsimp only
            refine i_ret (v := .bl (isI d1 && (isI d2 && ratio2 d1 d2))) ?_ k
            refine vi_and (vi_call (ai_cons (vi_var rfl) ai_nil) fun Q q => ⟨_, _, rfl, h1, q⟩) fun c1 => ?_
            refine vi_and (vi_call (ai_cons (vi_var rfl) ai_nil) fun Q q => ⟨_, _, rfl, h2, q⟩) fun c2 => ?_
            cases h1 with
            | int i1 => cases h2 with
              | int i2 =>
                refine vi_and (vi_op (vi_var rfl) vi_c fun Q q => ⟨_, _, rfl, rfl, q⟩) fun c3 => ?_
                refine vi_op (vi_cb (v := .int ((Nat.gcd i1.natAbs i2.natAbs : Nat) : Int)) (ai_cons (vi_var rfl) (ai_cons (vi_var rfl) ai_nil)) fun Q q => ⟨_, _, rfl, q⟩) vi_c (fun Q q => ⟨rfl, ?_⟩)
                rw [show (V.int 1) = V.int ((1 : Nat) : Int) from rfl, int_dec]
                exact q
              | _ => simp [isI] at c2
            | _ => simp [isI] at c1
end
end KP

set_option Elab.async false
set_option linter.all false
set_option maxRecDepth 100000
set_option maxHeartbeats 1000000
/-! ### told fractions, shares, pipes -/
namespace KP
open PySem PySem.Spec PyProof.Rows L2 KX
theorem ratio_of {H : Hp} {x : V} {d : PyData} (h : Th H x d) (z : isR d = true) : ∃ a i j, x = .ref a ∧ d = .tuple [.int i, .int j] ∧ H a = some (.tup [.int i, .int j]) := by
  unfold isR at z
  rw [Bool.and_eq_true] at z
  obtain ⟨a, xs, ds, rfl, rfl, e, ha, l2⟩ := shp_of h (by rw [z.1]; rfl)
  obtain ⟨d1, d2, rfl⟩ := len2 l2
  have z2 : ratio2 d1 d2 = true := z.2
  cases ha with
  | cons h1 hr1 => cases hr1 with
    | cons h2 hr2 =>
      cases hr2
      cases h1 with
      | int i => cases h2 with
        | int j => exact ⟨a, i, j, rfl, rfl, e⟩
        | _ => simp [ratio2] at z2
      | _ => cases h2 <;> simp [ratio2] at z2
theorem isW_int {x : V} {H : Hp} {d : PyData} {lo hi : Int} (h : Th H x d) (z : isW d lo hi = true) : ∃ i, x = .int i ∧ d = .int i := by
  cases h with
  | int i => exact ⟨i, rfl, rfl⟩
  | _ => simp [isW] at z
def spShare : Sp := fun vs H Q _ => ∃ x d u, vs = [x, .int u] ∧ Th H x d ∧ Q (.bl (isShare u d)) H
def spPipe : Sp := fun vs H Q _ => ∃ x d m u, vs = [x, .int m, .int u] ∧ Th H x d ∧ Q (.bl (isPipe m u d)) H
theorem spWithin_at {x : V} {d : PyData} {lo hi : Int} {H : Hp} {Q : VK} {E : XK} (h : Th H x d) (q : Q (.bl (isW d lo hi)) H) : spWithin [x, .int lo, .int hi] H Q E := ⟨x, d, lo, hi, rfl, h, q⟩
section
variable {P : Program} {w : World} {K : PySem.W.Frag} {mg : Str → Option Value} {base : Heap}
theorem scTold : FnScope ["value"] ["value"] (defScope sTold) := ⟨rfl, rfl, rfl, by decide +kernel, rfl, by decide +kernel, by decide +kernel⟩
theorem ok_told {f fR : Addr} {fd fdR : FuncData} {uB : Value} (F : Fun K "is_told" "is_told" sTold f fd) (T : TxT mg) (mB : mg "TOLD_BOUND" = some uB) (rB : RelV (.int 999) uB) (FR : FnOk P w K mg base CX0 2 fR fdR ["value"] (spIs isR)) (mR : mg "is_ratio" = some (.ref fR)) (kR : PySem.W.keepIn K (.ref fR) = true) (bR : Binds K fdR ["value"] []) :
    FnOk P w K mg base CX0 3 f fd ["value"] (spIs isTold) := by
  refine F.ok scTold (fun vs H Q E h => ?_) (fun cdv A outer s H vs Q E hr h => ?_)
  · obtain ⟨x, d, rfl, _⟩ := h
    rfl
  · obtain ⟨x, d, rfl, hx, k⟩ := h
    refine ⟨_, pss_one (ps_ret (pe_and (pe_call FR hr rfl mR kR bR .nil pass0 (pa_cons (pv 0) pa_nil)) (pe_and (pe_cmpR op_le (pe_callB call_abs (by rfl) T.abs (by decide +kernel) (pa_cons (pe_ix ix_seq (pv 0) pe_int (fun _ _ => rfl)) pa_nil)) (pe_glob (by rfl) mB rB) (nomark _))
      (pe_one (pe_cmpR op_le (pe_ix ix_seq (pv 0) pe_int (fun _ _ => rfl)) (pe_glob (by rfl) mB rB) (nomark _)))))), ?_⟩
    refine i_ret (D := { nx := fun _ H' => Q .non H', rt := Q }) (v := .bl (isR d && small2 (ith 0 d) (ith 1 d))) ?_ k
    refine vi_and (vi_call (ai_cons (vi_var rfl) ai_nil) fun Q q => ⟨_, _, rfl, hx, q⟩) fun c1 => ?_
    obtain ⟨a, i, j, rfl, rfl, e⟩ := ratio_of hx c1
    have x0 : ∀ {c : Int} {v : V}, atI [V.int i, V.int j] c = some v → Vi (tOp (rIx K) (tVar 0) (tC (.int c))) (L2.start ["value"] [V.ref a]) H v := fun {c v} h => vi_op (vi_var rfl) vi_c fun Q q => .inr (.inl ⟨a, _, c, v, rfl, rfl, SqT.of e, h, q⟩)
    refine vi_and (vi_op (vi_cb (ai_cons (x0 rfl) ai_nil) fun Q q => ⟨i, rfl, q⟩) vi_c fun Q q => ⟨_, _, rfl, rfl, q⟩) fun c2 => ?_
    exact vi_op (x0 rfl) vi_c fun Q q => ⟨_, _, rfl, rfl, q⟩
theorem scShare : FnScope ["share", "unknowns", "mark", "unknown"] ["share", "unknowns"] (defScope sShare) := ⟨rfl, rfl, rfl, by decide +kernel, rfl, by decide +kernel, by decide +kernel⟩
theorem ok_share {f fI fD : Addr} {fd fdI fdD : FuncData} (F : Fun K "_is_share" "_is_share" sShare f fd) (T : TxT mg) (FI : FnOk P w K mg base CX0 2 fI fdI ["value", "least", "most"] spWithin) (mI : mg "is_within" = some (.ref fI)) (kI : PySem.W.keepIn K (.ref fI) = true) (bI : Binds K fdI ["value", "least", "most"] [])
    (FD : FnOk P w K mg base CX0 3 fD fdD ["value"] (spIs isTold)) (mD : mg "is_told" = some (.ref fD)) (kD : PySem.W.keepIn K (.ref fD) = true) (bD : Binds K fdD ["value"] []) :
    FnOk P w K mg base CX0 4 f fd ["share", "unknowns"] spShare := by
  refine F.ok scShare (fun vs H Q E h => ?_) (fun cdv A outer s H vs Q E hr h => ?_)
  · obtain ⟨x, d, u, rfl, _⟩ := h
    rfl
  · obtain ⟨x, d, u, rfl, hx, k⟩ := h
    have hr2 : Room 2 _ := hr.mono (by decide)
    refine ⟨_, pss_cons (ps_if (pw_or (pt_cmpR op_notTyB (pe_callTy call_type1 (by rfl) T.type (by decide +kernel) (pa_cons (pv 0) pa_nil)) (pe_bltn (v := .ty "tuple") (by rfl) T.tuple (by decide +kernel) rfl) (nomark _))
        (pw_or1 (pt_cmpR op_ne (pe_callB call_len_seq (by rfl) T.len PySem.boot_len (pa_cons (pv 0) pa_nil)) pe_int (nomark _)))).pt (pss_one (ps_ret pe_bl)) pss_nil)
      (pss_cons (ps_asg (pv 0) (pg_tup rfl (pgs_cons (pg_name (i := 2) scShare.nd rfl (Or.inl rfl)) (pgs_cons (pg_name (i := 3) scShare.nd rfl (Or.inl rfl)) pgs_nil))))
      (pss_cons (ps_if (pt_cmpR op_isTyB (pe_callTy call_type1 (by rfl) T.type (by decide +kernel) (pa_cons (pv 2) pa_nil)) (pe_bltn (v := .ty "str") (by rfl) T.str (by decide +kernel) rfl) (nomark _))
        (pss_one (ps_ret (pe_and (pe_cmpR op_eq (pv 2) pe_str (nomark _)) (pe_one (pe_call FI hr2 rfl mI kI bI .nil pass0 (pa_cons (pv 3) (pa_cons pe_int (pa_cons (pe_op op_sub (pv 1) pe_int) pa_nil)))))))) pss_nil)
      (pss_one (ps_ret (pe_call FD hr rfl mD kD bD .nil pass0 (pa_cons (pv 0) pa_nil)))))), ?_⟩
    refine i_guard (ti_shape rfl (vi_var rfl) hx) (fun z => ?_) (fun z => ?_)
    · have z : shp 2 d = false := by simpa using z
      have e : isShare u d = false := by simp [isShare, z]
      rw [e] at k
      exact k
    · have hx0 := hx
      have z0 : shp 2 d = true := by simpa using z
      obtain ⟨a, xs, ds, rfl, rfl, e, ha, l2⟩ := shp_of hx z
      obtain ⟨d1, d2, rfl⟩ := len2 l2
      cases ha with
      | cons h1 hr1 => cases hr1 with
        | cons h2 hr2 =>
          cases hr2
          refine ⟨_, rfl, a, _, rfl, SqT.of e, rfl, _, _, rfl, _, _, rfl, rfl, ?_⟩
          have e8 : isShare u (.tuple [d1, d2]) = if tyN d1 = "str" then isX d1 && isW d2 0 (u - 1) else isTold (.tuple [d1, d2]) := by
            unfold isShare
            rw [z0, Bool.true_and]
            rfl
          rw [e8] at k
          dsimp only
          refine i_if (D := { nx := _, rt := Q }) (ti_test (vi_op (vi_type (ai_cons (vi_var rfl) ai_nil) h1) vi_c fun Q q => ⟨_, _, rfl, rfl, q⟩)) (fun c => ?_) (fun c => ?_)
          · have c : tyN d1 = "str" := of_decide_eq_true c
            rw [if_pos c] at k
            cases h1 with
            | str s =>
              refine i_ret (D := { nx := _, rt := Q }) (v := .bl (isX (.str s) && isW d2 0 (u - 1))) ?_ k
              refine vi_and (vi_op (vi_var rfl) vi_c fun Q q => ⟨rfl, ?_⟩) fun c1 => ?_
              · have e7 : decide (V.str s = V.str "x") = isX (.str s) := by simp [isX]
                rw [e7]
                exact q
              · exact vi_call (ai_cons (vi_var rfl) (ai_cons vi_c (ai_cons (vi_op (vi_var rfl) vi_c fun Q q => ⟨_, _, rfl, rfl, q⟩) ai_nil))) fun Q q => spWithin_at h2 q
            | _ => exact absurd c (by simp [tyN])
          · have c : ¬ tyN d1 = "str" := of_decide_eq_false c
            rw [if_neg c] at k
            refine i_ret (D := { nx := _, rt := Q }) (v := .bl (isTold (.tuple [d1, d2]))) (vi_call (ai_cons (vi_var rfl) ai_nil) fun Q q => ⟨_, _, rfl, hx0, q⟩) k
end
end KP

set_option Elab.async false
set_option linter.all false
set_option maxRecDepth 100000
set_option maxHeartbeats 1000000
/-! ### pipes -/
namespace KP
open PySem PySem.Spec PyProof.Rows L2 KX
section
variable {P : Program} {w : World} {K : PySem.W.Frag} {mg : Str → Option Value} {base : Heap}
theorem isNon_dec {x : V} {H : Hp} {d : PyData} (h : Th H x d) : decide (x = .non) = isNon d := by cases h <;> simp [isNon]
theorem scPipe : FnScope ["pipe", "many", "unknowns", "start", "end", "share"] ["pipe", "many", "unknowns"] (defScope sPipe) := ⟨rfl, rfl, rfl, by decide +kernel, rfl, by decide +kernel, by decide +kernel⟩
theorem ok_pipe {f fI fS : Addr} {fd fdI fdS : FuncData} (F : Fun K "_is_pipe" "_is_pipe" sPipe f fd) (T : TxT mg) (FI : FnOk P w K mg base CX0 2 fI fdI ["value", "least", "most"] spWithin) (mI : mg "is_within" = some (.ref fI)) (kI : PySem.W.keepIn K (.ref fI) = true) (bI : Binds K fdI ["value", "least", "most"] [])
    (FS : FnOk P w K mg base CX0 4 fS fdS ["share", "unknowns"] spShare) (mS : mg "_is_share" = some (.ref fS)) (kS : PySem.W.keepIn K (.ref fS) = true) (bS : Binds K fdS ["share", "unknowns"] []) :
    FnOk P w K mg base CX0 5 f fd ["pipe", "many", "unknowns"] spPipe := by
  refine F.ok scPipe (fun vs H Q E h => ?_) (fun cdv A outer s H vs Q E hr h => ?_)
  · obtain ⟨x, d, m, u, rfl, _⟩ := h
    rfl
  · obtain ⟨x, d, m, u, rfl, hx, k⟩ := h
    have hr2 : Room 2 _ := hr.mono (by decide)
    refine ⟨_, pss_cons (ps_if (pw_or (pt_cmpR op_notTyB (pe_callTy call_type1 (by rfl) T.type (by decide +kernel) (pa_cons (pv 0) pa_nil)) (pe_bltn (v := .ty "tuple") (by rfl) T.tuple (by decide +kernel) rfl) (nomark _))
        (pw_or1 (pt_cmpR op_ne (pe_callB call_len_seq (by rfl) T.len PySem.boot_len (pa_cons (pv 0) pa_nil)) pe_int (nomark _)))).pt (pss_one (ps_ret pe_bl)) pss_nil)
      (pss_cons (ps_asg (pv 0) (pg_tup rfl (pgs_cons (pg_name (i := 3) scPipe.nd rfl (Or.inl rfl)) (pgs_cons (pg_name (i := 4) scPipe.nd rfl (Or.inl rfl)) (pgs_cons (pg_name (i := 5) scPipe.nd rfl (Or.inl rfl)) pgs_nil)))))
      (pss_cons (ps_if (pw_or (pt_not (pt_val (pe_call FI hr2 (by rfl) mI kI bI .nil pass0 (pa_cons (pv 3) (pa_cons pe_int (pa_cons (pe_op op_sub (pv 1) pe_int) pa_nil))))))
          (pw_or1 (pt_not (pt_val (pe_call FS hr (by rfl) mS kS bS .nil pass0 (pa_cons (pv 5) (pa_cons (pv 2) pa_nil))))))).pt (pss_one (ps_ret pe_bl)) pss_nil)
      (pss_one (ps_ret (pe_or (pe_cmpR op_isN (pv 4) pe_non (nomark _)) (pe_one (pe_and (pe_call FI hr2 (by rfl) mI kI bI .nil pass0 (pa_cons (pv 4) (pa_cons pe_int (pa_cons (pe_op op_sub (pv 1) pe_int) pa_nil)))) (pe_one (pe_cmpR op_ne (pv 4) (pv 3) (nomark _)))))))))), ?_⟩
    refine i_guard (ti_shape rfl (vi_var rfl) hx) (fun z => ?_) (fun z => ?_)
    · have z : shp 3 d = false := by simpa using z
      have e : isPipe m u d = false := by simp [isPipe, z]
      rw [e] at k
      exact k
    · have z0 : shp 3 d = true := by simpa using z
      obtain ⟨a, xs, ds, rfl, rfl, e, ha, l2⟩ := shp_of hx z
      obtain ⟨d1, d2, d3, rfl⟩ := len3 l2
      cases ha with
      | cons h1 hr1 => cases hr1 with
        | cons h2 hr2' => cases hr2' with
          | cons h3 hr3 =>
            cases hr3
            refine ⟨_, rfl, a, _, rfl, SqT.of e, rfl, _, _, rfl, _, _, rfl, _, _, rfl, rfl, ?_⟩
            have e8 : isPipe m u (.tuple [d1, d2, d3]) = (!(!isW d1 0 (m - 1) || !isShare u d3) && (isNon d2 || (isW d2 0 (m - 1) && !eqI d2 d1))) := by
              unfold isPipe
              rw [z0, Bool.true_and]
              rfl
            rw [e8] at k
            dsimp only
            refine i_guard (D := { nx := _, rt := Q }) (ti_or (ti_not (ti_val (vi_call (ai_cons (vi_var rfl) (ai_cons vi_c (ai_cons (vi_op (vi_var rfl) vi_c fun Q q => ⟨_, _, rfl, rfl, q⟩) ai_nil))) fun Q q => spWithin_at h1 q)))
              fun _ => ti_not (ti_val (vi_call (ai_cons (vi_var rfl) (ai_cons (vi_var rfl) ai_nil)) fun Q q => ⟨_, _, _, rfl, h3, q⟩))) (fun z => ?_) (fun z => ?_)
            · rw [z] at k
              exact k
            · rw [z] at k
              have zw : isW d1 0 (m - 1) = true := by
                rw [Bool.or_eq_false_iff] at z
                simpa using z.1
              refine i_ret (D := { nx := _, rt := Q }) (v := .bl (isNon d2 || (isW d2 0 (m - 1) && !eqI d2 d1))) ?_ (by simpa using k)
              refine vi_or (vi_op (vi_var rfl) vi_c fun Q q => ⟨rfl, ?_⟩) fun c1 => ?_
              · rw [isNon_dec h2]
                exact q
              · refine vi_and (vi_call (ai_cons (vi_var rfl) (ai_cons vi_c (ai_cons (vi_op (vi_var rfl) vi_c fun Q q => ⟨_, _, rfl, rfl, q⟩) ai_nil))) fun Q q => spWithin_at h2 q) fun c2 => ?_
                obtain ⟨i, rfl, rfl⟩ := isW_int h1 zw
                obtain ⟨j, rfl, rfl⟩ := isW_int h2 c2
                refine vi_op (vi_var rfl) (vi_var rfl) fun Q q => ⟨rfl, ?_⟩
                have e7 : decide (V.int j = V.int i) = eqI (.int j) (.int i) := by simp [eqI]
                rw [e7]
                exact q
end
end KP

set_option Elab.async false
set_option linter.all false
set_option maxRecDepth 100000
set_option maxHeartbeats 1000000
/-! ### defs with generator expressions: the reading of all(..) over a tuple -/
namespace KP
open PySem PySem.Spec PyProof.Rows L2 KX
/-- a def whose code object is known -/
structure FunC (K : PySem.W.Frag) (x qual : Str) (st : Stmt) (f : Addr) (fd : FuncData) (c : Addr) : Prop where
  ex : ∃ (oc : Value) (od : Option Addr) (kV doc pm : Value) (an : Option Addr) (ct : Value) (osl : Array (Option Value)),
    fd = PySem.W.fnOf x qual (defArgs st) (defBody st) (defScope st) .none kV doc pm an (.ref c) ct ∧ K.lookup f = some ⟨oc, od, .func fd, osl⟩ ∧ PySem.W.codeIn K (.ref c) qual = true
theorem FunC.ok {P : Program} {w : World} {K : PySem.W.Frag} {mg : Str → Option Value} {base : Heap} {x qual : Str} {st : Stmt} {f c : Addr} {fd : FuncData} {N ps : List Str} {k : Nat} {sp : Sp} (F : FunC K x qual st f fd c) (S : FnScope N ps (defScope st)) (len : ∀ {vs H Q E}, sp vs H Q E → vs.length = ps.length)
    (body : ∀ (A : Around) (outer : List Env) (s : Shared) (H : Hp) (vs : List V) (Q : VK) (E : XK), Room k (A.deeper (envOfC qual (defScope st) s.heap.objs.size f (.ref c))) → sp vs H Q E →
      ∃ t, PSs (cxOf CX0 P w K mg base N qual (defScope st) f (.ref c) A outer s H E).nox (defBody st) t ∧ t { nx := fun _ H' => Q .non H', rt := Q } (start N vs) H) : FnOk P w K mg base CX0 (k + 1) f fd ps sp := by
  obtain ⟨oc, od, kV, doc, pm, an, ct, osl, rfl, lk, hcd⟩ := F.ex
  exact fn_of lk hcd S (fun _ _ _ _ h => len h) fun A outer s H vs Q E hr hsp => let ⟨t, h, q⟩ := body A outer s H vs Q E hr hsp; ⟨t, h.nox, q⟩
theorem all_get {H : Hp} : ∀ {xs : List V} {ds : List PyData} {i : Nat} {x : V}, ThAll H xs ds → xs[i]? = some x → ∃ d, ds[i]? = some d ∧ Th H x d
  | _, _, 0, _, .cons h _, e => by
    cases e
    exact ⟨_, rfl, h⟩
  | _ :: _, _ :: _, _ + 1, _, .cons _ t, e => by
    obtain ⟨d, h1, h2⟩ := all_get t (show _ = _ from (List.getElem?_cons_succ ▸ e))
    exact ⟨d, by rw [List.getElem?_cons_succ]; exact h1, h2⟩
theorem ThAll.mono {H H' : Hp} (s : Sm H H') : ∀ {xs : List V} {ds : List PyData}, ThAll H xs ds → ThAll H' xs ds
  | _, _, .nil => .nil
  | _, _, .cons a b => .cons (a.mono s) (ThAll.mono s b)
/-- the tables stand -/
def Tbs (Ps : List Addr) (H : Hp) : Prop := ∀ P ∈ Ps, GxR.TabG H P
structure Grown (Ps : List Addr) (H H' : Hp) : Prop where
  sm : Sm H H'
  tbs : Tbs Ps H'
theorem Grown.trans {Ps : List Addr} {H H1 H2 : Hp} (a : Grown Ps H H1) (b : Grown Ps H1 H2) : Grown Ps H H2 := ⟨a.sm.trans b.sm, b.tbs⟩
theorem Grown.same {Ps : List Addr} {H H1 : Hp} (a : Same H H1) (t : Tbs Ps H) : Grown Ps H H1 := ⟨Sm.same a, fun P hP => let ⟨ps, e, k⟩ := t P hP; ⟨ps, a _ _ e, k⟩⟩
theorem Grown.tabbed {Ps : List Addr} {P : Addr} {H H1 : Hp} (a : GxR.Tabbed P H H1) (t : Tbs Ps H) (hP : P ∈ Ps) : Grown Ps H H1 := by
  obtain ⟨ps, e, _⟩ := t P hP
  refine ⟨fun b u eb n => ?_, fun R hR => ?_⟩
  · rw [a.2 b fun z => by rw [z, e] at eb; exact n ps (Option.some.inj eb).symm]
    exact eb
  · by_cases z : R = P
    · rw [z]; exact a.1
    · obtain ⟨qs, e2, k2⟩ := t R hR
      exact ⟨qs, (a.2 R z).trans e2, k2⟩
theorem all_vi {K : PySem.W.Frag} {Ps : List Addr} {P a : Addr} {i0 j : Nat} {te : TE} {vs : List Nat} {σ : L2.St} {H : Hp} {Q : VK} {xs : List V} {ds : List PyData} {pd : PyData → Bool} (h0 : σ[i0]? = some (some (.ref a))) (hx : H a = some (.tup xs)) (hd : ThAll H xs ds) (ht : Tbs Ps H) (hP : P ∈ Ps)
    (hw : ∀ x : V, wipe ((wipe σ vs).set j (some x)) vs = wipe σ vs) (he : ∀ H2 x d, Th H2 x d → Vi te ((wipe σ vs).set j (some x)) H2 (.bl (pd d))) (q : ∀ H2, Grown Ps H H2 → Q (.bl (ds.all pd)) H2) : KG.tAllG P (iTup K (tVar i0)) (gName j) te vs σ H Q := by
  refine ⟨_, h0, a, rfl, ⟨xs, SqT.of hx⟩, ht P hP, fun H2 hT => ?_⟩
  have gr := Grown.tabbed hT ht hP
  have hx2 : H2 a = some (.tup xs) := gr.sm _ _ hx fun _ z => by cases z
  have hl := all2 hd
  refine ⟨fun i m H' => H' = H2 ∧ i ≤ xs.length ∧ m = xs.length - i ∧ (ds.take i).all pd = true, ⟨_, rfl, Nat.zero_le _, rfl, rfl⟩, ?_⟩
  rintro i m H' ⟨rfl, hi, rfl, hall⟩
  by_cases c : i < xs.length
  · refine .inr ⟨⟨xs, xs[i], SqT.of hx2, by simp [c]⟩, fun x H3 ⟨e, hy⟩ => ?_⟩
    subst e
    have hxi := hy xs (SqT.of hx2)
    obtain ⟨d, hdi, hth⟩ := all_get hd hxi
    refine ⟨hw x, he _ x d (hth.mono gr.sm) _ ?_⟩
    cases hp : pd d with
    | true =>
      refine .inl ⟨rfl, xs.length - (i + 1), by omega, rfl, c, rfl, ?_⟩
      rw [List.take_add_one, hdi, List.all_append, hall]
      simp [hp]
    | false =>
      refine .inr ⟨rfl, ?_⟩
      have e : ds.all pd = false := by
        rw [Bool.eq_false_iff]
        intro z
        have := List.all_eq_true.mp z d (List.mem_of_getElem? hdi)
        rw [hp] at this
        cases this
      rw [← e]
      exact q _ gr
  · refine .inl ⟨⟨xs, SqT.of hx2, by omega⟩, ?_⟩
    have e : ds.take i = ds := List.take_of_length_le (by omega)
    rw [e] at hall
    rw [← hall]
    exact q _ gr
end KP

set_option Elab.async false
set_option linter.all false
set_option maxRecDepth 100000
set_option maxHeartbeats 1000000
/-! ### tanks -/
namespace KP
open PySem PySem.Spec PyProof.Rows L2 KX
def itms : PyData → List PyData
  | .tuple ds => ds
  | _ => []
def ltI : PyData → PyData → Bool
  | .int i, .int j => decide (i < j)
  | _, _ => false
def ascB (ds : List PyData) : Bool := (List.range (ds.length - 1)).all fun i => ltI (ds.getD i .none) (ds.getD (i + 1) .none)
def areT (m : Int) (d : PyData) : Bool := decide (tyN d = "tuple") && (decide (1 ≤ (lenT d : Int)) && decide ((lenT d : Int) ≤ m)) && ((itms d).all (fun e => isW e 0 (m - 1)) && ascB (itms d))
def spTanks (Ps : List Addr) : Sp := fun vs H Q _ => ∃ x d m, vs = [x, .int m] ∧ Th H x d ∧ Tbs Ps H ∧ m ≤ 1000 ∧ ∀ H', Grown Ps H H' → Q (.bl (areT m d)) H'
theorem walk_zipT {K : PySem.W.Frag} {a b : Addr} {xs ys : List V} {n : Nat} (hn : n = min xs.length ys.length) : Walk (RZ.ItzT K a b) n (fun H => H a = some (.tup xs) ∧ H b = some (.tup ys)) (YPair (fun i => xs[i]?) (fun i => ys[i]?)) := by
  subst hn
  refine ⟨fun i H hi q => ?_, fun H q => ⟨xs, ys, SqT.of q.1, SqT.of q.2, by omega⟩, fun i H v H' _ q y => ?_⟩
  · exact ⟨xs, ys, xs[i]'(by omega), ys[i]'(by omega), SqT.of q.1, SqT.of q.2, List.getElem?_eq_getElem _, List.getElem?_eq_getElem _⟩
  · obtain ⟨T, x, z, h1, h2, h3, h4, h5⟩ := y
    exact ⟨T, x, z, h1, h2, h3, h4 _ (SqT.of q.1), h5 _ (SqT.of q.2)⟩
theorem i_guardE {te : TE} {tz : TS} {D : Ends} {σ : L2.St} {H : Hp} (h : te σ H (fun x H1 => ∃ c, x = .bl c ∧ (if (!c) = true then D.rt (.bl false) H1 else tz D σ H1))) : tSeq (tIfS (tNot (tB te)) (tRet (tC (.bl false))) tNext) tz D σ H := h
theorem vi_chain {σ : L2.St} {H : Hp} {r r' : R2} {ta tb tc : TE} {x y z : V} {a b : Bool} (ha : Vi ta σ H x) (hb : Vi tb σ H y) (h1 : ∀ Q : VK, Q (.bl a) H → r x y H Q) (hc : a = true → Vi tc σ H z) (h2 : a = true → ∀ Q : VK, Q (.bl b) H → r' y z H Q) : Vi (tChain r r' ta tb tc) σ H (.bl (a && b)) :=
  fun Q q => ha _ (hb _ (h1 _ ⟨a, rfl, by
    cases a with
    | true => rw [if_pos rfl]; exact hc rfl _ (h2 rfl _ (by simpa using q))
    | false => rw [if_neg Bool.false_ne_true]; simpa using q⟩))
theorem same_upd {H : Hp} {p : Addr} {o : HO} (hp : H p = none) : Same H (upd H p o) := fun b u e => by
  rw [upd_ne (ne_of_none e hp)]
  exact e
theorem sIx_one {n : Nat} (h : 1 ≤ n) : HT.sIx n 0 (some 1) = 1 := by
  have := HT.sIx_nat n 0 1
  rw [Nat.min_eq_left h] at this
  exact this
theorem cut_one {xs : List V} (h : 1 ≤ xs.length) : cutV xs (some 1) none = xs.drop 1 := by
  unfold cutV
  rw [sIx_one h]
  exact List.take_of_length_le (by rw [List.length_drop]; exact Nat.le_refl _)
section
variable {P : Program} {w : World} {K : PySem.W.Frag} {mg : Str → Option Value} {base : Heap}
theorem scTanks : FnScope ["tanks", "many", "tank", "one", "two"] ["tanks", "many"] (defScope sTanks) := ⟨rfl, rfl, rfl, by decide +kernel, rfl, by decide +kernel, by decide +kernel⟩
theorem ok_tanks {f fI c PT' : Addr} {fd fdI : FuncData} {Ps : List Addr} (F : FunC K "_are_tanks" "_are_tanks" sTanks f fd c) (T : TxT mg) (TB : GxR.TabB base mg c PT') (hP : PT' ∈ Ps) (FI : FnOk P w K mg base CX0 2 fI fdI ["value", "least", "most"] spWithin) (mI : mg "is_within" = some (.ref fI)) (kI : PySem.W.keepIn K (.ref fI) = true) (bI : Binds K fdI ["value", "least", "most"] []) :
    FnOk P w K mg base CX0 4 f fd ["tanks", "many"] (spTanks Ps) := by
  refine F.ok scTanks (fun {vs H Q E} h => ?_) (fun A outer s H vs Q E hr h => ?_)
  · obtain ⟨x, d, m, rfl, _⟩ := h
    rfl
  · obtain ⟨x, d, m, rfl, hx, ht, hlen, k⟩ := h
    refine ⟨_, pss_cons (ps_if (pw_or (pt_cmpR op_notTyB (pe_callTy call_type1 (by rfl) T.type (by decide +kernel) (pa_cons (pv 0) pa_nil)) (pe_bltn (v := .ty "tuple") (by rfl) T.tuple (by decide +kernel) rfl) (nomark _))
        (pw_or1 (pt_not (pt_chain op_le op_le pe_int (pe_callB call_len_seq (by rfl) T.len PySem.boot_len (pa_cons (pv 0) pa_nil)) (pv 1))))).pt (pss_one (ps_ret pe_bl)) pss_nil)
      (pss_cons (ps_if (pt_not (pt_val (KG.pe_allG (k := 2) (own := [("tank", 2)]) (g := gName 2) rfl scTanks.nd hr (by rfl) T.all (by decide +kernel) TB rfl ⟨blkOk_by (N := ["tanks", "many", "tank", "one", "two"]) (sc := defScope sTanks) (by decide +kernel), rfl, by decide +kernel, by decide +kernel⟩ (pi_tup (pv 0))
          (fun _ _ _ _ _ _ _ _ => pg_name (i := 2) scTanks.nd rfl (Or.inl rfl)) (fun _ _ _ _ _ _ _ _ hB => pe_call FI hB (by rfl) mI kI bI .nil pass0 (pa_cons (pv 2) (pa_cons pe_int (pa_cons (pe_op op_sub (pv 1) pe_int) pa_nil)))) (fun _ => rfl)))) (pss_one (ps_ret pe_bl)) pss_nil)
      (pss_one (ps_ret (pe_callB (cr_all rfl) (by rfl) T.all (by decide +kernel) (pa_cons (pe_lc (own := [("one", 3), ("two", 4)]) (g := gTup K 2 (gCons (gName 3) (gCons (gName 4) gNil))) (tt := tYes) rfl scTanks.nd (RZ.pi_zipA (by rfl) T.zip (pa_cons (pv 0) (pa_cons (pe_slice sl_tup (pv 0) (po_some pe_int) po_none) pa_nil)))
        (blkOk_by (N := ["tanks", "many", "tank", "one", "two"]) (sc := defScope sTanks) (by decide +kernel)) (fun _ _ _ _ _ => by exact pg_tup rfl (pgs_cons (pg_name (i := 3) scTanks.nd rfl (Or.inl rfl)) (pgs_cons (pg_name (i := 4) scTanks.nd rfl (Or.inl rfl)) pgs_nil))) (fun _ _ _ _ _ => pts_nil) (fun _ _ _ _ _ => pe_cmpR op_lt (pv 3) (pv 4) (nomark _))) pa_nil))))), ?_⟩
    have b1 : ∀ {σ : L2.St} {i0 i1 : Nat}, σ[i0]? = some (some x) → σ[i1]? = some (some (.int m)) → Ti (tOr (tTest (tOp rNT (tCB (rTyp K) (tCons (tVar i0) tNil)) (tC (.ty "tuple")))) (tNot (tTest (tChain (rI0 fun i j => .bl (decide (i ≤ j))) (rI0 fun i j => .bl (decide (i ≤ j))) (tC (.int 1)) (tCB (rLen K) (tCons (tVar i0) tNil)) (tVar i1))))) σ H
        (!decide (tyN d = "tuple") || !(decide (1 ≤ (lenT d : Int)) && decide ((lenT d : Int) ≤ m))) := fun e0 e1 =>
      ti_or (ti_notTup (vi_var e0) hx) fun z => ti_not (ti_test (vi_chain vi_c (vi_lenT (ai_cons (vi_var e0) ai_nil) hx (by simpa using z)) (fun Q q => ⟨_, _, rfl, rfl, q⟩) (fun _ => vi_var e1) (fun _ Q q => ⟨_, _, rfl, rfl, q⟩)))
    refine i_guard (b1 rfl rfl) (fun z => ?_) (fun z => ?_)
    · have e : areT m d = false := by
        unfold areT
        rw [Bool.or_eq_true, Bool.not_eq_true', Bool.not_eq_true'] at z
        rcases z with z | z <;> rw [z] <;> simp
      have := k H (Grown.same (Same.refl H) ht)
      rw [e] at this
      exact this
    rw [Bool.or_eq_false_iff, Bool.not_eq_false', Bool.not_eq_false'] at z
    obtain ⟨z1, z2⟩ := z
    obtain ⟨a, xs, ds, rfl, rfl, e, ha⟩ := tupOf hx (of_decide_eq_true z1)
    have e8 : areT m (.tuple ds) = (ds.all (fun e => isW e 0 (m - 1)) && ascB ds) := by
      unfold areT
      rw [z1, z2, Bool.true_and, Bool.true_and]
      rfl
    rw [e8] at k
    refine i_guardE (D := { nx := fun _ H' => Q .non H', rt := Q }) ?_
    refine all_vi (Ps := Ps) (pd := fun d => isW d 0 (m - 1)) rfl e ha ht hP (fun x => rfl) (fun H2 x d h => vi_call (ai_cons (vi_var rfl) (ai_cons vi_c (ai_cons (vi_op (vi_var rfl) vi_c fun Q q => ⟨_, _, rfl, rfl, q⟩) ai_nil))) fun Q q => spWithin_at h q) (fun H2 gr => ⟨_, rfl, ?_⟩)
    cases hall : ds.all (fun e => isW e 0 (m - 1)) with
    | false =>
      rw [hall] at k
      exact k _ gr
    | true =>
      rw [hall, Bool.true_and] at k
      rw [Bool.and_eq_true, decide_eq_true_eq, decide_eq_true_eq] at z2
      have e2 : H2 a = some (.tup xs) := gr.sm _ _ e fun _ z => by cases z
      have hl := all2 ha
      have n1 : 1 ≤ xs.length := by
        have := z2.1
        simp only [lenT] at this
        omega
      have hln : xs.length ≤ 2000 := by
        have := z2.2
        simp only [lenT] at this
        omega
      have isI : ∀ {i : Nat} {x : V}, xs[i]? = some x → ∃ j, x = .int j ∧ ds.getD i .none = .int j := fun {i x} hxi => by
        obtain ⟨d, hdi, hth⟩ := all_get ha hxi
        obtain ⟨j, rfl, rfl⟩ := isW_int hth (List.all_eq_true.mp hall d (List.mem_of_getElem? hdi))
        exact ⟨j, rfl, by rw [List.getD_eq_getElem?_getD, hdi]; rfl⟩
      refine ⟨_, rfl, _, rfl, _, rfl, a, xs, rfl, SqT.of e2, fun z => ?_, fun p hp => ?_⟩
      · have := z.1
        rw [sIx_one n1] at this
        cases this
      rw [cut_one n1]
      have sp := same_upd (o := .tup (xs.drop 1)) hp
      refine ⟨a, p, xs, xs.drop 1, rfl, .inr ⟨SqT.of (sp _ _ e2), SqT.of upd_same, fun D hD => ?_⟩⟩
      refine lc_it (walk_zipT (K := K) (a := a) (b := p) (xs := xs) (ys := xs.drop 1) (n := xs.length - 1) (by rw [List.length_drop]; omega)) (fun n H' => Same (upd H2 p (.tup (xs.drop 1))) H' ∧ H' D = some (.lst ((List.range n).map fun i => V.bl (ltI (ds.getD i .none) (ds.getD (i + 1) .none))))) ⟨same_upd hD, upd_same⟩
        (fun n H' _ z => ⟨z.1 _ _ (sp _ _ e2), z.1 _ _ upd_same⟩) ?_ ?_
      · rintro i x H' H'' hi ⟨s7, hD'⟩ ⟨U, x1, y1, rfl, hU, rfl, hx1, hy1⟩
        have hy2 : xs[i + 1]? = some y1 := by
          rw [← hy1]
          show _ = (xs.drop 1)[i]?
          rw [List.getElem?_drop, Nat.add_comm]
        obtain ⟨i1, rfl, g1⟩ := isI hx1
        obtain ⟨j1, rfl, g2⟩ := isI hy2
        have sU := same_upd (o := .tup [V.int i1, .int j1]) hU
        refine ⟨U, _, rfl, SqT.of upd_same, rfl, _, _, rfl, _, _, rfl, rfl, rfl, ?_⟩
        dsimp only [tYes]
        rw [if_pos rfl]
        refine ⟨_, rfl, _, rfl, _, _, rfl, rfl, _, sU _ _ hD', ?_, fun b o eb => ?_, ?_⟩
        · rw [List.length_map, List.length_range]
          exact Nat.lt_of_le_of_lt (show i ≤ 2000 by omega) (by decide)
        · have nb : b ≠ D := fun z => by
            rw [z, hD] at eb
            cases eb
          rw [upd_ne nb]
          exact sU _ _ (s7 _ _ eb)
        · rw [upd_same, List.range_succ, List.map_append, List.map_cons, List.map_nil, g1, g2]
          rfl
      · rintro H' ⟨s7, hD'⟩
        refine ⟨D, (List.range (xs.length - 1)).map fun i => ltI (ds.getD i .none) (ds.getD (i + 1) .none), rfl, SqL.of ?_, ?_⟩
        · rw [hD', List.map_map]
          rfl
        · have e3 : ((List.range (xs.length - 1)).map fun i => ltI (ds.getD i .none) (ds.getD (i + 1) .none)).all id = ascB ds := by
            rw [List.all_map, hl]
            rfl
          rw [e3]
          exact k _ (gr.trans (Grown.same (sp.trans s7) gr.tbs))
end
end KP

set_option Elab.async false
set_option linter.all false
set_option maxRecDepth 100000
set_option maxHeartbeats 1000000
/-! ### enumerate(tuple); x in tuple of data -/
namespace KT
open PySem PySem.Spec PyProof.Rows L2
theorem meets_enumB {v : Value} {o : Obj} {H : Heap → Prop} (B : Begins v o H) :
    Meets (Builtin.«enumerate.__new__» ⟨[.type "enumerate", v], []⟩) (fun _ R s => H s.heap ∧
      R (.ok (.ret (.ref (s.heap.push o).objs.size))) { s with heap := (s.heap.push o).push { cls := .type "enumerate", data := .fields #[.none, .bool false, .ref s.heap.objs.size, rawInt 0, .none, .none] } }) :=
  .of_wp fun prog w A R s h => by
    obtain ⟨hp, g, d, tk, os⟩ := s
    obtain ⟨h1, h⟩ := h
    have hsub := sub_enumerate
    have q1 : ∀ {A' : Around} {E : Value → Shared → Prop} {Q : Value → Shared → Prop}, Q (.ref hp.objs.size) ⟨hp.push o, g, d, tk, os⟩ → wpAny (model prog w) A' (pyIter v) Q E ⟨hp, g, d, tk, os⟩ :=
      fun q => B.iter prog w _ _ ⟨hp, g, d, tk, os⟩ _ h1 q
    wp_walk using q1
    refine wpAny_stack_any fun st => wpAny_pure ?_
    split
    · rename_i c _ _ _ _ _
      cases (c == Value.type "enumerate")
      · wp_walk using q1
        exact ⟨_, rfl, h⟩
      · wp_walk using q1
        exact ⟨_, rfl, h⟩
    · wp_walk using q1
      exact ⟨_, rfl, h⟩
theorem call_enumB {prog : Program} {w : World} {A : Around} {E : Value → Shared → Prop} {s : Shared} {v : Value} {o : Obj} {H : Heap → Prop} {Q : Value → Shared → Prop} (B : Begins v o H) (h1 : H s.heap)
    (h : ∀ h', IsEnum h' (s.heap.objs.size + 1) s.heap.objs.size 0 .none → h'.get? s.heap.objs.size = some o → (∀ b o, s.heap.get? b = some o → h'.get? b = some o) → Q (.ref (s.heap.objs.size + 1)) { s with heap := h' }) :
    wpAny (model prog w) A (call (.type "enumerate") [v]) Q E s := by
  refine callType_new F.called_enumerate (by decide) (F.typeCall_enumerate_1 _) (F.newCall_enumerate_1 _) (fun obj => F.args_object_init_2 obj _) F.entry_enumerate_new (meets_enumB B) ⟨h1, ?_⟩
  have hz : (s.heap.push o).objs.size = s.heap.objs.size + 1 := Heap.size_push ..
  show _ ∧ _
  rw [hz]
  have he : IsEnum ((s.heap.push o).push { cls := .type "enumerate", data := .fields #[.none, .bool false, .ref s.heap.objs.size, rawInt 0, .none, .none] }) (s.heap.objs.size + 1) s.heap.objs.size 0 .none := by
    have := Heap.get?_push_size (s.heap.push o) (o := { cls := .type "enumerate", data := .fields #[.none, .bool false, .ref s.heap.objs.size, rawInt 0, .none, .none] }) rfl
    rw [hz] at this
    exact this
  exact ⟨⟨_, he, rfl⟩, h _ he (Heap.get?_push_of_some _ (Heap.get?_push_size _ B.free)) fun b o x => Heap.get?_push_of_some _ (Heap.get?_push_of_some _ x)⟩
def IteT (K : PySem.W.Frag) (a : Addr) : It :=
  ⟨fun i H => ∃ (xs : List V) (x : V), SqT K H a xs ∧ xs[i]? = some x, fun i H v H' => ∃ T x, v = .ref T ∧ H T = none ∧ H' = upd H T (.tup [.int (i : Nat), x]) ∧ ∀ xs, SqT K H a xs → xs[i]? = some x, fun i H => ∃ xs : List V, SqT K H a xs ∧ xs.length = i⟩
theorem turn_enumT {P : Program} {w : World} {K : PySem.W.Frag} {elts : List Expr} {kk : Nat} {tpos : Pos} (a e it : Addr) :
    Turn P w K (.Tuple elts kk tpos) (IteT K a) [e, it] e (fun i h => (∃ old, IsEnum h e it ((i : Nat) : Int) old) ∧ h.IsTupleIter it a i ∧ e ≠ it ∧ a ≠ it ∧ a ≠ e) where
  mem := by simp
  obj := fun i h st b hb => by
    obtain ⟨⟨old, he⟩, ⟨o, ho, hc, hd⟩, _⟩ := st
    have e' : b = e ∨ b = it := by simpa using hb
    rcases e' with z | z
    · rw [z]; exact ⟨_, he, fun v q => nomatch q⟩
    · rw [z]; exact ⟨o, ho, fun v q => by rw [hd] at q; cases q⟩
  keep := fun i h h' st k => let ⟨⟨old, he⟩, hi, hne⟩ := st; ⟨⟨old, k e (by simp) _ he⟩, hi.at fun o q => k it (by simp) o q, hne⟩
  item := by
    intro X hP hw hK hc i pins s σ H E I hf st hg
    subst hP hw hK
    obtain ⟨⟨old, he⟩, hit, hne, hai, hae⟩ := st
    obtain ⟨xs, x, hq, hx⟩ := hg
    obtain ⟨its, rv, p, hz⟩ := I.tuple hq
    obtain ⟨u, hu, ru⟩ := rv.get hx
    have hel : e < s.heap.objs.size := Heap.lt_size he
    have hil : it < s.heap.objs.size := by obtain ⟨_, q, _⟩ := hit; exact Heap.lt_size q
    have hi : i < its.toArray.size := by
      have := (List.getElem?_eq_some_iff.mp hu).1
      simpa using this
    refine wpAny_pyNext_enum_itemD (Draws.tuple (A := X.A.in1) (I.ok.hd hc) it a hai its.toArray) he ⟨hit, p⟩ hi hne (by simp [hne, Ne.symm hae]) fun y h' tk hy ho hst hT hsz hk => ?_
    obtain rfl : u = y := by
      have : its[i]? = some y := by simpa using hy
      rw [hu] at this
      exact Option.some.inj this
    refine ⟨_, rfl, wpAny_letOwnedTupleGo_enum (s := { s with heap := h', toks := tk + 1 }) ho fun h'' he' sb => ?_⟩
    have hT2 : h''.get? s.heap.objs.size = some { cls := .type "tuple", data := .seq #[.int i tk, u] } := (sb.2 _ (Nat.ne_of_gt hel)).trans hT
    have new : ObjOk X.prog X.w (upd H s.heap.objs.size (.tup [.int (i : Nat), x])) h'' s.heap.objs.size (.tup [.int (i : Nat), x]) :=
      ⟨by show 2 ≤ sizeLine; decide, [.int i tk, u], .cons ⟨_, rfl⟩ (.cons ru .nil), ⟨_, hT2, rfl, _, rfl⟩⟩
    have I1 : Inv X pins σ (upd H s.heap.objs.size (.tup [.int (i : Nat), x])) { s with heap := h'', toks := tk + 1 } :=
      I.turnedNew (ch := [e, it]) (fun b ob hb q => (sb.2 b (fun z => hb (by simp [z]))).trans (hk b ob (fun z => hb (by simp [z])) (fun z => hb (by simp [z])) q)) hf (Nat.le_refl _) new
    refine ⟨.ref s.heap.objs.size, _, I1, rfl, ⟨_, x, rfl, I.hok.fresh (Nat.le_refl _), rfl, fun ys hy => by rw [I.tuple_inj hy hq]; exact hx⟩, ⟨⟨u, ?_⟩, hst.1.at fun o q => (sb.2 it (Ne.symm hne)).trans q, hne, hai, hae⟩, fun b hb => ?_⟩
    · have e1 : ((i + 1 : Nat) : Int) = (i : Int) + 1 := by omega
      rw [e1]; exact he'
    · have hb' : b < s.heap.objs.size := by
        have e' : b = e ∨ b = it := by simpa using hb
        rcases e' with z | z
        · rw [z]; exact hel
        · rw [z]; exact hil
      rw [upd_ne (Nat.ne_of_lt hb')]
      exact (hf b hb).1
  done := by
    intro X hP hw hK hc i pins s σ H E I hf st hg
    subst hP hw hK
    obtain ⟨⟨old, he⟩, hit, hne, hai, hae⟩ := st
    obtain ⟨xs, hq, hx⟩ := hg
    obtain ⟨its, rv, p, hz⟩ := I.tuple hq
    obtain ⟨f0, f1, f2, f3, f4, f5⟩ := hf it (by simp)
    have hl := rv.length
    have e1 : i = its.toArray.size := by simp; omega
    subst e1
    exact wpAny_pyNext_enum_endD (Draws.tuple (A := X.A.in1) (I.ok.hd hc) it a hai its.toArray) he ⟨hit, p⟩ fun h' eb => ⟨rfl, I.turned (t' := s.toks) (fun b o hb q => eb b o hb q) f0 f1 f3 f4 f5⟩
  self := fun A i s Q E st h => let ⟨⟨_, he⟩, _⟩ := st; wpAny_pyIter_enum he h
def iEnumT (K : PySem.W.Frag) (ta : TA) : TI := fun σ H R => ta σ H fun vs H1 => ∃ a xs, vs = [.ref a] ∧ SqT K H1 a xs ∧ R (IteT K a) H1
theorem pi_enumT {X : Cx} {e : Expr} {ta : TA} {p pos tpos : Pos} {elts : List Expr} {kk : Nat} (hg : Gl X "enumerate") (hm : X.mg "enumerate" = none) (ha : PA X [e] ta) (hs : starEach [e] X.env = [(false, eval e X.env)] := by rfl) :
    PI X (.Tuple elts kk tpos) (.Call (.Name "enumerate" p) [e] [] pos) (iEnumT X.K ta) := by
  refine ⟨fun pins s σ H R I h => ?_⟩
  refine Call_ (ld_blt I hg hm boot_enumerate (PyProof.Rows.callWith_type1 (thn (ha.run pos pins s σ H _ I h) fun us s1 ⟨vs, H1, I1, r1, q1⟩ => ?_) hs rfl))
  obtain ⟨a, xs, ex, hq, q⟩ := q1
  subst ex
  cases r1 with
  | cons r rr =>
    cases rr
    cases r
    obtain ⟨its, rv, p', hz⟩ := I1.tuple hq
    have hp : s1.heap.IsTuple a its.toArray := p'
    have hal : a < s1.heap.objs.size := by
      obtain ⟨o, e, _⟩ := hp
      exact Heap.lt_size e
    refine call_enumB (begins_tuple a its.toArray) hp fun h' he ho hk => wpAny_pyIter_enum he ?_
    have I2 : Inv X pins σ H1 { s1 with heap := h' } := I1.kept (t' := s1.toks) hk
    refine ⟨s1.heap.objs.size + 1, [s1.heap.objs.size + 1, s1.heap.objs.size], _, _, H1, rfl, I2, turn_enumT a (s1.heap.objs.size + 1) s1.heap.objs.size, ⟨⟨.none, he⟩, ⟨_, ho, rfl, rfl⟩, Nat.succ_ne_self _, Nat.ne_of_lt hal, Nat.ne_of_lt (Nat.lt_succ_of_lt hal)⟩, fun b hb => ?_, q⟩
    have e' : b = s1.heap.objs.size + 1 ∨ b = s1.heap.objs.size := by simpa using hb
    have hle : s1.heap.objs.size ≤ b := by
      rcases e' with z | z
      · rw [z]; exact Nat.le_add_right _ _
      · rw [z]; exact Nat.le_refl _
    exact I1.fpOk hle (I1.hok.fresh hle)
theorem walk_enumT {K : PySem.W.Frag} {a : Addr} {xs : List V} : Walk (IteT K a) xs.length (fun H => H a = some (.tup xs)) (YPair (fun i => some (.int (i : Nat))) (fun i => xs[i]?)) := by
  refine ⟨fun i _ hi q => ⟨xs, xs[i], SqT.of q, List.getElem?_eq_getElem _⟩, fun _ q => ⟨xs, SqT.of q, rfl⟩, fun i H v H' _ q y => ?_⟩
  obtain ⟨T, x, h1, h2, h3, h4⟩ := y
  exact ⟨T, .int (i : Nat), x, h1, h2, h3, rfl, h4 xs (SqT.of q)⟩
/-- x in t, x not in t: t a tuple of data -/
def rInT (K : PySem.W.Frag) : R2 := fun x y H Q => ∃ d ds, Dp K H x d ∧ Dp K H y (.tuple ds) ∧ SeqAt.shaped d = true ∧ SeqAt.shaped (.tuple ds) = true ∧ Q (.bl (ds.any fun z => PyData.eqv z d)) H
def rNotInT (K : PySem.W.Frag) : R2 := fun x y H Q => ∃ d ds, Dp K H x d ∧ Dp K H y (.tuple ds) ∧ SeqAt.shaped d = true ∧ SeqAt.shaped (.tuple ds) = true ∧ Q (.bl (!ds.any fun z => PyData.eqv z d)) H
theorem op_inT {X : Cx} (hu : X.A.units + 65 < cLine) : OpR X (compareOp .In) (rInT X.K) := fun pins s σ H x y v u Q I rx ry ⟨d, ds, hd, he, sd, se, q⟩ => by
  obtain ⟨as, r1⟩ := Dp.reads I d x v hd rx
  obtain ⟨bs, r2⟩ := Dp.reads I (.tuple ds) y u he ry
  exact SeqAt.in_tuple_reads r2 r1 (SeqAt.canLay_of_shaped se) (SeqAt.canLay_of_shaped sd) (room_in_shaped sd hu) ⟨.bl _, H, I, rfl, q⟩
theorem op_notInT {X : Cx} (hu : X.A.units + 65 < cLine) : OpR X (compareOp .NotIn) (rNotInT X.K) := fun pins s σ H x y v u Q I rx ry ⟨d, ds, hd, he, sd, se, q⟩ => by
  obtain ⟨as, r1⟩ := Dp.reads I d x v hd rx
  obtain ⟨bs, r2⟩ := Dp.reads I (.tuple ds) y u he ry
  exact SeqAt.notIn_tuple_reads r2 r1 (SeqAt.canLay_of_shaped se) (SeqAt.canLay_of_shaped sd) (room_in_shaped sd hu) ⟨.bl _, H, I, rfl, q⟩
end KT

set_option Elab.async false
set_option linter.all false
set_option maxRecDepth 100000
set_option maxHeartbeats 1000000
/-! ### pipes, all of them -/
namespace KP
open PySem PySem.Spec PyProof.Rows L2 KX KT
def distB (ds : List PyData) : Bool := (List.range ds.length).all fun i => !((ds.take i).any fun z => PyData.eqv z (ds.getD i .none))
def areP (m u : Int) (d : PyData) : Bool := decide (tyN d = "tuple") && !decide ((12 : Int) < (lenT d : Int)) && ((itms d).all (isPipe m u) && distB (itms d))
def spPipes (Ps : List Addr) : Sp := fun vs H Q _ => ∃ x d m u, vs = [x, .int m, .int u] ∧ Th H x d ∧ Tbs Ps H ∧ ∀ H', Grown Ps H H' → Q (.bl (areP m u d)) H'
theorem Th.dp {K : PySem.W.Frag} {H : Hp} {v : V} {d : PyData} (h : Th H v d) : d.hasDict = false → Dp K H v d := by
  refine Th.rec (motive_1 := fun v d _ => d.hasDict = false → Dp K H v d) (motive_2 := fun vs ds _ => PyData.hasDictAll ds = false → DpAll K H vs ds) (fun _ => .non) (fun b _ => .bl b) (fun i _ => .int i) (fun x _ => .str x)
    (fun q _ ih z => .lst (SqL.of q) (ih (by simpa [PyData.hasDict] using z))) (fun q _ ih z => .tup (SqT.of q) (ih (by simpa [PyData.hasDict] using z))) (fun q z => by simp [PyData.hasDict] at z) (fun _ => .nil) (fun _ _ a b z => ?_) h
  simp only [PyData.hasDictAll, Bool.or_eq_false_iff] at z
  exact .cons (a z.1) (b z.2)
theorem shp_data {n : Nat} {d : PyData} (z : shp n d = true) : ∃ ds, d = .tuple ds ∧ ds.length = n := by
  unfold shp at z
  rw [Bool.and_eq_true, decide_eq_true_eq, decide_eq_true_eq] at z
  cases d with
  | tuple ds => exact ⟨ds, rfl, z.2⟩
  | _ => exact absurd z.1 (by simp [tyN])
theorem isW_data {d : PyData} {lo hi : Int} (z : isW d lo hi = true) : ∃ i, d = .int i := by
  cases d with
  | int i => exact ⟨i, rfl⟩
  | _ => simp [isW] at z
/-- flat data: two signs of kinds -/
def Flat (d : PyData) : Prop := d.canLay0 = true ∧ d.depth ≤ 2 ∧ d.hasDict = false
theorem share_flat {u : Int} {d : PyData} (z : isShare u d = true) : (∃ i, d = .tuple [.str "x", .int i]) ∨ ∃ i j, d = .tuple [.int i, .int j] := by
  unfold isShare at z
  rw [Bool.and_eq_true] at z
  obtain ⟨ds, rfl, hl⟩ := shp_data z.1
  obtain ⟨a, b, rfl⟩ := len2 hl
  have z2 := z.2
  have e0 : ith 0 (.tuple [a, b]) = a := rfl
  have e1 : ith 1 (.tuple [a, b]) = b := rfl
  rw [e0, e1] at z2
  by_cases c : tyN a = "str"
  · rw [if_pos c, Bool.and_eq_true] at z2
    obtain ⟨i, rfl⟩ := isW_data z2.2
    cases a with
    | str s =>
      have e : s = "x" := of_decide_eq_true z2.1
      rw [e]
      exact .inl ⟨i, rfl⟩
    | _ => exact absurd c (by simp [tyN])
  · rw [if_neg c] at z2
    unfold isTold isR at z2
    simp only [Bool.and_eq_true] at z2
    have z3 := z2.1.2
    rw [e0, e1] at z3
    cases a with
    | int i =>
      cases b with
      | int j => exact .inr ⟨i, j, rfl⟩
      | _ => simp [ratio2] at z3
    | _ => cases b <;> simp [ratio2] at z3
theorem pipe_flat {m u : Int} {d : PyData} (z : isPipe m u d = true) : Flat d := by
  unfold isPipe at z
  rw [Bool.and_eq_true] at z
  obtain ⟨ds, rfl, hl⟩ := shp_data z.1
  obtain ⟨a, b, c, rfl⟩ := len3 hl
  have z2 := z.2
  rw [show ith 0 (.tuple [a, b, c]) = a from rfl, show ith 1 (.tuple [a, b, c]) = b from rfl, show ith 2 (.tuple [a, b, c]) = c from rfl] at z2
  simp only [Bool.and_eq_true, Bool.not_eq_true', Bool.or_eq_false_iff, Bool.not_eq_false', Bool.or_eq_true] at z2
  obtain ⟨⟨h1, h2⟩, h3⟩ := z2
  obtain ⟨i, rfl⟩ := isW_data h1
  have hb : b = .none ∨ ∃ j, b = .int j := by
    rcases h3 with h3 | h3
    · cases b with
      | none => exact .inl rfl
      | _ => simp [isNon] at h3
    · exact .inr (isW_data h3.1)
  have ok : PyData.strOk "x" = true := by decide +kernel
  rcases share_flat h2 with ⟨j, rfl⟩ | ⟨j, k, rfl⟩ <;> rcases hb with rfl | ⟨l, rfl⟩ <;>
    exact ⟨by simp [PyData.canLay0, PyData.canLayAll0, ok], by simp [PyData.depth, PyData.depthAll], by simp [PyData.hasDict, PyData.hasDictAll]⟩
theorem flat_all : ∀ {ds : List PyData}, (∀ d ∈ ds, Flat d) → PyData.canLayAll0 ds = true ∧ PyData.depthAll ds ≤ 2 ∧ PyData.hasDictAll ds = false
  | [], _ => by simp [PyData.canLayAll0, PyData.depthAll, PyData.hasDictAll]
  | d :: ds, h => by
    obtain ⟨a, b, c⟩ := h d List.mem_cons_self
    obtain ⟨a', b', c'⟩ := flat_all (ds := ds) fun e he => h e (List.mem_cons_of_mem _ he)
    refine ⟨by simp [PyData.canLayAll0, a, a'], ?_, by simp [PyData.hasDictAll, c, c']⟩
    simp only [PyData.depthAll]
    omega
theorem shaped_of {d : PyData} (a : d.canLay0 = true) (b : d.depth ≤ 64) : SeqAt.shaped d = true := by
  show (d.canLay0 && decide (d.depth ≤ 64)) = true
  rw [a, decide_eq_true b]
  rfl
theorem flat_shaped {ds : List PyData} (h : ∀ d ∈ ds, Flat d) : SeqAt.shaped (.tuple ds) = true ∧ (PyData.tuple ds).hasDict = false := by
  obtain ⟨a, b, c⟩ := flat_all h
  refine ⟨shaped_of (by simpa [PyData.canLay0] using a) ?_, by simpa [PyData.hasDict] using c⟩
  simp only [PyData.depth]
  omega
end KP

set_option Elab.async false
set_option linter.all false
set_option maxRecDepth 100000
set_option maxHeartbeats 1000000
namespace KP
open PySem PySem.Spec PyProof.Rows L2 KX KT
theorem sIx_nat0 {n i : Nat} (h : i ≤ n) (d : Nat) : HT.sIx n d (some (i : Int)) = i := by
  rw [HT.sIx_nat, Nat.min_eq_left h]
theorem cut_to {xs : List V} {i : Nat} (h : i ≤ xs.length) : cutV xs none (some (i : Int)) = xs.take i := by
  unfold cutV
  rw [sIx_nat0 h]
  rfl
theorem ThAll.take {H : Hp} : ∀ {xs : List V} {ds : List PyData} (i : Nat), ThAll H xs ds → ThAll H (xs.take i) (ds.take i)
  | _, _, 0, _ => by
    rw [List.take_zero, List.take_zero]
    exact .nil
  | _, _, _ + 1, .nil => .nil
  | _, _, i + 1, .cons a b => by
    rw [List.take_succ_cons, List.take_succ_cons]
    exact .cons a (ThAll.take i b)
section
variable {P : Program} {w : World} {K : PySem.W.Frag} {mg : Str → Option Value} {base : Heap}
theorem scPipes : FnScope ["pipes", "many", "unknowns", "pipe", "index"] ["pipes", "many", "unknowns"] (defScope sPipes) := ⟨rfl, rfl, rfl, by decide +kernel, rfl, by decide +kernel, by decide +kernel⟩
theorem ok_pipes {f fI c PT' : Addr} {fd fdI : FuncData} {Ps : List Addr} {uB : Value} (F : FunC K "_are_pipes" "_are_pipes" sPipes f fd c) (T : TxT mg) (TB : GxR.TabB base mg c PT') (hP : PT' ∈ Ps) (mB : mg "MOST_PIPES" = some uB) (rB : RelV (.int 12) uB)
    (FI : FnOk P w K mg base CX0 5 fI fdI ["pipe", "many", "unknowns"] spPipe) (mI : mg "_is_pipe" = some (.ref fI)) (kI : PySem.W.keepIn K (.ref fI) = true) (bI : Binds K fdI ["pipe", "many", "unknowns"] []) :
    FnOk P w K mg base CX0 7 f fd ["pipes", "many", "unknowns"] (spPipes Ps) := by
  refine F.ok scPipes (fun {vs H Q E} h => ?_) (fun A outer s H vs Q E hr h => ?_)
  · obtain ⟨x, d, m, u, rfl, _⟩ := h
    rfl
  · obtain ⟨x, d, m, u, rfl, hx, ht, k⟩ := h
    have hu : (A.deeper (envOfC "_are_pipes" (defScope sPipes) s.heap.objs.size f (.ref c))).units + 65 < cLine := by have := hr.un; omega
    refine ⟨_, pss_cons (ps_if (pw_or (pt_cmpR op_notTyB (pe_callTy call_type1 (by rfl) T.type (by decide +kernel) (pa_cons (pv 0) pa_nil)) (pe_bltn (v := .ty "tuple") (by rfl) T.tuple (by decide +kernel) rfl) (nomark _))
        (pw_or1 (pt_cmpR op_gt (pe_callB call_len_seq (by rfl) T.len PySem.boot_len (pa_cons (pv 0) pa_nil)) (pe_glob (by rfl) mB rB) (nomark _)))).pt (pss_one (ps_ret pe_bl)) pss_nil)
      (pss_cons (ps_if (pt_not (pt_val (KG.pe_allG (k := 5) (own := [("pipe", 3)]) (g := gName 3) rfl scPipes.nd hr (by rfl) T.all (by decide +kernel) TB rfl ⟨blkOk_by (N := ["pipes", "many", "unknowns", "pipe", "index"]) (sc := defScope sPipes) (by decide +kernel), rfl, by decide +kernel, by decide +kernel⟩ (pi_tup (pv 0))
          (fun _ _ _ _ _ _ _ _ => pg_name (i := 3) scPipes.nd rfl (Or.inl rfl)) (fun _ _ _ _ _ _ _ _ hB => pe_call FI hB (by rfl) mI kI bI .nil pass0 (pa_cons (pv 3) (pa_cons (pv 1) (pa_cons (pv 2) pa_nil)))) (fun _ => rfl)))) (pss_one (ps_ret pe_bl)) pss_nil)
      (pss_one (ps_ret (pe_callB (cr_all rfl) (by rfl) T.all (by decide +kernel) (pa_cons (pe_lc (own := [("index", 4), ("pipe", 3)]) (g := gTup K 2 (gCons (gName 4) (gCons (gName 3) gNil))) (tt := tYes) rfl scPipes.nd (pi_enumT (by rfl) T.enumerate (pa_cons (pv 0) pa_nil))
        (blkOk_by (N := ["pipes", "many", "unknowns", "pipe", "index"]) (sc := defScope sPipes) (by decide +kernel)) (fun _ _ _ _ _ => by exact pg_tup rfl (pgs_cons (pg_name (i := 4) scPipes.nd rfl (Or.inl rfl)) (pgs_cons (pg_name (i := 3) scPipes.nd rfl (Or.inl rfl)) pgs_nil))) (fun _ _ _ _ _ => pts_nil)
        (fun _ _ _ _ _ => pe_cmpR (r := rNotInT K) (by exact op_notInT hu) (pv 3) (pe_slice (r := rSlT K) (by exact sl_tup) (pv 0) po_none (po_some (pv 4))) (by rfl))) pa_nil))))), ?_⟩
    have b1 : ∀ {σ : L2.St} {i0 : Nat}, σ[i0]? = some (some x) → Ti (tOr (tTest (tOp rNT (tCB (rTyp K) (tCons (tVar i0) tNil)) (tC (.ty "tuple")))) (tTest (tOp (rI0 fun i j => .bl (decide (j < i))) (tCB (rLen K) (tCons (tVar i0) tNil)) (tC (.int 12))))) σ H
        (!decide (tyN d = "tuple") || decide ((12 : Int) < (lenT d : Int))) := fun e0 =>
      ti_or (ti_notTup (vi_var e0) hx) fun z => ti_test (vi_op (vi_lenT (ai_cons (vi_var e0) ai_nil) hx (by simpa using z)) vi_c fun Q q => ⟨_, _, rfl, rfl, q⟩)
    refine i_guard (b1 rfl) (fun z => ?_) (fun z => ?_)
    · have e : areP m u d = false := by
        unfold areP
        rw [Bool.or_eq_true, Bool.not_eq_true'] at z
        rcases z with z | z <;> rw [z] <;> simp
      have := k H (Grown.same (Same.refl H) ht)
      rw [e] at this
      exact this
    rw [Bool.or_eq_false_iff, Bool.not_eq_false'] at z
    obtain ⟨z1, z2⟩ := z
    obtain ⟨a, xs, ds, rfl, rfl, e, ha⟩ := tupOf hx (of_decide_eq_true z1)
    have e8 : areP m u (.tuple ds) = (ds.all (isPipe m u) && distB ds) := by
      unfold areP
      rw [z1, z2, Bool.true_and]
      rfl
    rw [e8] at k
    refine i_guardE (D := { nx := fun _ H' => Q .non H', rt := Q }) ?_
    refine all_vi (Ps := Ps) (pd := isPipe m u) rfl e ha ht hP (fun x => rfl) (fun H2 x d h => vi_call (ai_cons (vi_var rfl) (ai_cons (vi_var rfl) (ai_cons (vi_var rfl) ai_nil))) fun Q q => ⟨_, _, _, _, rfl, h, q⟩) (fun H2 gr => ⟨_, rfl, ?_⟩)
    cases hall : ds.all (isPipe m u) with
    | false =>
      rw [hall] at k
      exact k _ gr
    | true =>
      rw [hall, Bool.true_and] at k
      have z2 := of_decide_eq_false z2
      simp only [lenT] at z2
      have e2 : H2 a = some (.tup xs) := gr.sm _ _ e fun _ z => by cases z
      have ha2 := ThAll.mono gr.sm ha
      have hl := all2 ha
      have hfl : ∀ d ∈ ds, Flat d := fun d hd => pipe_flat (List.all_eq_true.mp hall d hd)
      refine ⟨_, rfl, a, xs, rfl, SqT.of e2, fun D hD => ?_⟩
      refine lc_it (walk_enumT (K := K) (a := a) (xs := xs)) (fun n H' => Same H2 H' ∧ H' D = some (.lst ((List.range n).map fun i => V.bl (!((ds.take i).any fun z => PyData.eqv z (ds.getD i .none)))))) ⟨same_upd hD, upd_same⟩
        (fun n H' _ z => z.1 _ _ e2) ?_ ?_
      · rintro i x H' H'' hi ⟨s7, hD'⟩ ⟨U, x1, y1, rfl, hU, rfl, hx1, hy1⟩
        cases hx1
        obtain ⟨d, hdi, hth⟩ := all_get ha2 hy1
        have sU := same_upd (o := .tup [V.int (i : Nat), y1]) hU
        have s8 : Same H2 (upd H' U (.tup [V.int (i : Nat), y1])) := s7.trans sU
        refine ⟨U, _, rfl, SqT.of upd_same, rfl, _, _, rfl, _, _, rfl, rfl, rfl, ?_⟩
        dsimp only [tYes]
        rw [if_pos rfl]
        refine ⟨_, rfl, _, rfl, _, rfl, _, rfl, a, xs, rfl, SqT.of (s8 _ _ e2), fun z => ?_, fun p hp => ?_⟩
        · have := z.2
          rw [sIx_nat0 (Nat.le_of_lt hi)] at this
          omega
        rw [cut_to (Nat.le_of_lt hi)]
        have s9 := s8.trans (same_upd (o := .tup (xs.take i)) hp)
        have ed : ds.getD i .none = d := by rw [List.getD_eq_getElem?_getD, hdi]; rfl
        have hd : Flat d := hfl d (List.mem_of_getElem? hdi)
        have htk : ∀ e ∈ ds.take i, Flat e := fun e he => hfl e (List.mem_of_mem_take he)
        have t1 := flat_shaped htk
        refine ⟨d, ds.take i, Th.dp (hth.mono (Sm.same s9)) hd.2.2, Th.dp (.tup upd_same ((ThAll.mono (Sm.same s9) ha2).take i)) t1.2, shaped_of hd.1 (by have := hd.2.1; omega), t1.1, ?_⟩
        refine ⟨_, (sU.trans (same_upd hp)) _ _ hD', ?_, fun b o eb => ?_, ?_⟩
        · rw [List.length_map, List.length_range]
          exact Nat.lt_of_le_of_lt (show i ≤ 2000 by omega) (by decide)
        · have nb : b ≠ D := fun z => by
            rw [z, hD] at eb
            cases eb
          rw [upd_ne nb]
          exact s9 _ _ eb
        · rw [upd_same, List.range_succ, List.map_append, List.map_cons, List.map_nil, ed]
      · rintro H' ⟨s7, hD'⟩
        refine ⟨D, (List.range xs.length).map fun i => (!((ds.take i).any fun z => PyData.eqv z (ds.getD i .none))), rfl, SqL.of ?_, ?_⟩
        · rw [hD', List.map_map]
          rfl
        · have e3 : ((List.range xs.length).map fun i => (!((ds.take i).any fun z => PyData.eqv z (ds.getD i .none)))).all id = distB ds := by
            rw [List.all_map, hl]
            rfl
          rw [e3]
          exact k _ (gr.trans (Grown.same s7 gr.tbs))
end
end KP

set_option Elab.async false
set_option linter.all false
set_option maxRecDepth 100000
set_option maxHeartbeats 1000000
/-! ### is_net -/
namespace KP
open PySem PySem.Spec PyProof.Rows L2 KX KT
def netAt (a b c d e : PyData) : Bool :=
  match a, b with
  | .int m, .int u => !decide (7 < m + u) && (areP m u c && (areT m d && areT m e))
  | _, _ => false
def isNet (d : PyData) : Bool := shp 5 d && (!(!isW (ith 0 d) 1 4 || !isW (ith 1 d) 0 4) && netAt (ith 0 d) (ith 1 d) (ith 2 d) (ith 3 d) (ith 4 d))
def spNet (Ps : List Addr) : Sp := fun vs H Q _ => ∃ x d, vs = [x] ∧ Th H x d ∧ Tbs Ps H ∧ ∀ H', Grown Ps H H' → Q (.bl (isNet d)) H'
section
variable {P : Program} {w : World} {K : PySem.W.Frag} {mg : Str → Option Value} {base : Heap}
theorem scNet : FnScope ["value", "many", "unknowns", "pipes", "filled", "seen"] ["value"] (defScope sNet) := ⟨rfl, rfl, rfl, by decide +kernel, rfl, by decide +kernel, by decide +kernel⟩
theorem ok_net {f fI fP fT : Addr} {fd fdI fdP fdT : FuncData} {Ps : List Addr} {u1 u2 u3 : Value} (F : Fun K "is_net" "is_net" sNet f fd) (T : TxT mg) (m1 : mg "MOST_TANKS" = some u1) (r1 : RelV (.int 4) u1) (m2 : mg "MOST_UNKNOWNS" = some u2) (r2 : RelV (.int 4) u2) (m3 : mg "MOST_TOGETHER" = some u3) (r3 : RelV (.int 7) u3)
    (FI : FnOk P w K mg base CX0 2 fI fdI ["value", "least", "most"] spWithin) (mI : mg "is_within" = some (.ref fI)) (kI : PySem.W.keepIn K (.ref fI) = true) (bI : Binds K fdI ["value", "least", "most"] [])
    (FP : FnOk P w K mg base CX0 7 fP fdP ["pipes", "many", "unknowns"] (spPipes Ps)) (mP : mg "_are_pipes" = some (.ref fP)) (kP : PySem.W.keepIn K (.ref fP) = true) (bP : Binds K fdP ["pipes", "many", "unknowns"] [])
    (FT : FnOk P w K mg base CX0 4 fT fdT ["tanks", "many"] (spTanks Ps)) (mT : mg "_are_tanks" = some (.ref fT)) (kT : PySem.W.keepIn K (.ref fT) = true) (bT : Binds K fdT ["tanks", "many"] []) :
    FnOk P w K mg base CX0 8 f fd ["value"] (spNet Ps) := by
  refine F.ok scNet (fun vs H Q E h => ?_) (fun cdv A outer s H vs Q E hr h => ?_)
  · obtain ⟨x, d, rfl, _⟩ := h
    rfl
  · obtain ⟨x, d, rfl, hx, ht, k⟩ := h
    have hr2 : Room 2 _ := hr.mono (by decide)
    have hr4 : Room 4 _ := hr.mono (by decide)
    refine ⟨_, pss_cons (ps_if (pw_or (pt_cmpR op_notTyB (pe_callTy call_type1 (by rfl) T.type (by decide +kernel) (pa_cons (pv 0) pa_nil)) (pe_bltn (v := .ty "tuple") (by rfl) T.tuple (by decide +kernel) rfl) (nomark _))
        (pw_or1 (pt_cmpR op_ne (pe_callB call_len_seq (by rfl) T.len PySem.boot_len (pa_cons (pv 0) pa_nil)) pe_int (nomark _)))).pt (pss_one (ps_ret pe_bl)) pss_nil)
      (pss_cons (ps_asg (pv 0) (pg_tup rfl (pgs_cons (pg_name (i := 1) scNet.nd rfl (Or.inl rfl)) (pgs_cons (pg_name (i := 2) scNet.nd rfl (Or.inl rfl)) (pgs_cons (pg_name (i := 3) scNet.nd rfl (Or.inl rfl)) (pgs_cons (pg_name (i := 4) scNet.nd rfl (Or.inl rfl)) (pgs_cons (pg_name (i := 5) scNet.nd rfl (Or.inl rfl)) pgs_nil)))))))
      (pss_cons (ps_if (pw_or (pt_not (pt_val (pe_call FI hr2 (by rfl) mI kI bI .nil pass0 (pa_cons (pv 1) (pa_cons pe_int (pa_cons (pe_glob (by rfl) m1 r1) pa_nil))))))
          (pw_or1 (pt_not (pt_val (pe_call FI hr2 (by rfl) mI kI bI .nil pass0 (pa_cons (pv 2) (pa_cons pe_int (pa_cons (pe_glob (by rfl) m2 r2) pa_nil)))))))).pt (pss_one (ps_ret pe_bl)) pss_nil)
      (pss_cons (ps_if (pw_or (pt_cmpR op_gt (pe_op op_add (pv 1) (pv 2)) (pe_glob (by rfl) m3 r3) (nomark _)) (pw_or1 (pt_not (pt_val (pe_call FP hr (by rfl) mP kP bP .nil pass0 (pa_cons (pv 3) (pa_cons (pv 1) (pa_cons (pv 2) pa_nil)))))))).pt (pss_one (ps_ret pe_bl)) pss_nil)
      (pss_one (ps_ret (pe_and (pe_call FT hr4 rfl mT kT bT .nil pass0 (pa_cons (pv 4) (pa_cons (pv 1) pa_nil))) (pe_one (pe_call FT hr4 rfl mT kT bT .nil pass0 (pa_cons (pv 5) (pa_cons (pv 1) pa_nil)))))))))), ?_⟩
    have g0 : Grown Ps H H := Grown.same (Same.refl H) ht
    refine i_guard (ti_shape rfl (vi_var rfl) hx) (fun z => ?_) (fun z => ?_)
    · have z : shp 5 d = false := by simpa using z
      have e : isNet d = false := by simp [isNet, z]
      have := k H g0
      rw [e] at this
      exact this
    have z0 : shp 5 d = true := by simpa using z
    obtain ⟨a, xs, ds, rfl, rfl, e, ha, l2⟩ := shp_of hx z
    obtain ⟨d1, d2, d3, d4, d5, rfl⟩ := len5 l2
    cases ha with
    | cons h1 hr1 => cases hr1 with
      | cons h2 hr2' => cases hr2' with
        | cons h3 hr3 => cases hr3 with
          | cons h4 hr4' => cases hr4' with
            | cons h5 hr5 =>
              cases hr5
              refine ⟨_, rfl, a, _, rfl, SqT.of e, rfl, _, _, rfl, _, _, rfl, _, _, rfl, _, _, rfl, _, _, rfl, rfl, ?_⟩
              have e8 : isNet (.tuple [d1, d2, d3, d4, d5]) = (!(!isW d1 1 4 || !isW d2 0 4) && netAt d1 d2 d3 d4 d5) := by
                unfold isNet
                rw [z0, Bool.true_and]
                rfl
              rw [e8] at k
              dsimp only
              refine i_guard (D := { nx := _, rt := Q }) (ti_or (ti_not (ti_val (vi_call (ai_cons (vi_var rfl) (ai_cons vi_c (ai_cons vi_c ai_nil))) fun Q q => spWithin_at h1 q)))
                fun _ => ti_not (ti_val (vi_call (ai_cons (vi_var rfl) (ai_cons vi_c (ai_cons vi_c ai_nil))) fun Q q => spWithin_at h2 q))) (fun z => ?_) (fun z => ?_)
              · have := k H g0
                rw [z] at this
                exact this
              rw [z, Bool.not_false, Bool.true_and] at k
              rw [Bool.or_eq_false_iff, Bool.not_eq_false', Bool.not_eq_false'] at z
              have hm4 : ∀ {i}, d1 = .int i → i ≤ 4 := fun {i} e => by
                have := z.1
                rw [e] at this
                simp only [isW, Bool.and_eq_true, decide_eq_true_eq] at this
                exact this.2
              obtain ⟨m, rfl, rfl⟩ := isW_int h1 z.1
              obtain ⟨u, rfl, rfl⟩ := isW_int h2 z.2
              have hm4 := hm4 rfl
              have e9 : netAt (.int m) (.int u) d3 d4 d5 = (!decide (7 < m + u) && (areP m u d3 && (areT m d4 && areT m d5))) := rfl
              rw [e9] at k
              refine ⟨_, rfl, _, rfl, _, _, rfl, rfl, _, _, rfl, rfl, _, rfl, ?_⟩
              cases c7 : decide (7 < m + u) with
              | true =>
                rw [c7] at k
                exact k H g0
              | false =>
                rw [c7, Bool.not_false, Bool.true_and] at k
                dsimp only
                rw [if_neg Bool.false_ne_true]
                refine ⟨_, rfl, _, rfl, _, rfl, _, _, _, _, rfl, h3, ht, fun H1 g1 => ⟨_, rfl, ?_⟩⟩
                cases cp : areP m u d3 with
                | false =>
                  rw [cp] at k
                  exact k H1 g1
                | true =>
                  rw [cp, Bool.true_and] at k
                  refine ⟨_, rfl, _, rfl, _, _, _, rfl, h4.mono g1.sm, g1.tbs, by omega, fun H2 g2 => ⟨_, rfl, ?_⟩⟩
                  cases ct : areT m d4 with
                  | false =>
                    rw [ct] at k
                    exact k H2 (g1.trans g2)
                  | true =>
                    rw [ct, Bool.true_and] at k
                    dsimp only
                    rw [if_pos rfl]
                    exact ⟨_, rfl, _, rfl, _, _, _, rfl, (h5.mono g1.sm).mono g2.sm, g2.tbs, by omega, fun H3 g3 => k H3 ((g1.trans g2).trans g3)⟩
end
end KP

set_option Elab.async false
set_option linter.all false
set_option maxRecDepth 100000
set_option maxHeartbeats 1000000
/-! ### the law's own look: whole numbers -/
namespace KP
open PySem PySem.Spec PyProof.Rows L2 KX KT
abbrev lJar : Stmt := top 18
abbrev lDip : Stmt := top 19
abbrev lOne : Stmt := top 20
abbrev lSame : Stmt := top 21
abbrev lFrac : Stmt := top 22
abbrev lToldPart : Stmt := top 23
abbrev lLot : Stmt := top 24
abbrev lNet : Stmt := top 25
abbrev lIsWhole : Stmt := top 26
abbrev lIsTold : Stmt := top 27
abbrev lIsPipe : Stmt := top 28
abbrev lAreTanks : Stmt := top 29
abbrev lIsNet : Stmt := top 30
abbrev lOdd : Stmt := top 31
abbrev lBent : Stmt := top 32
abbrev lPlanted : Stmt := top 33
abbrev lRight : Stmt := top 34
abbrev lLaw : Stmt := top 35
structure TxL (mg : Str → Option Value) : Prop extends TxT mg where
  isinstance : mg "isinstance" = none
  bool : mg "bool" = none
  range : mg "range" = none
  any : mg "any" = none
theorem Th.tyx {K : PySem.W.Frag} {H : Hp} {v : V} {d : PyData} (h : Th H v d) : TyX K H v (.type (tyN d)) := by
  cases h with
  | non => exact .base .non
  | bl b => exact .base (.bl b)
  | int i => exact .base (.int i)
  | str x => exact .base (.str x)
  | lst e _ => exact .base (.lst e)
  | tup e _ => exact .base (.tup e)
  | emp e => exact .base (.dK e)
def isin (a n : String) : Bool := decide (a = n) || (decide (a = "bool") && decide (n = "int"))
theorem kit_all : ∀ a ∈ ["NoneType", "bool", "int", "str", "list", "tuple", "dict"], ∀ n ∈ ["int", "bool", "tuple", "str"], kitB a n = some (isin a n) := by decide +kernel
theorem tyN_mem (d : PyData) : tyN d ∈ ["NoneType", "bool", "int", "str", "list", "tuple", "dict"] := by cases d <;> simp [tyN]
section
variable {K : PySem.W.Frag} {σ : L2.St} {H : Hp}
theorem vi_isi {te : TE} {x : V} {d : PyData} {n : String} (ha : Vi te σ H x) (h : Th H x d) (hn : n ∈ ["int", "bool", "tuple", "str"]) : Vi (tCB (rIsi K) (tCons te (tCons (tC (.ty n)) tNil))) σ H (.bl (isin (tyN d) n)) :=
  vi_cb (ai_cons ha (ai_cons vi_c ai_nil)) fun Q q => ⟨_, _, _, _, _, rfl, .ty n, h.tyx, kit_ty (kit_all _ (tyN_mem d) _ hn), q⟩
theorem vi_not {ta : TE} {a : Bool} (h : Vi ta σ H (.bl a)) : Vi (tNotV ta) σ H (.bl (!a)) := fun Q q => h _ ⟨a, rfl, q⟩
end
section
variable {P : Program} {w : World} {K : PySem.W.Frag} {mg : Str → Option Value} {base : Heap}
theorem scLWhole : FnScope ["thing", "low", "high"] ["thing", "low", "high"] (defScope lIsWhole) := ⟨rfl, rfl, rfl, by decide +kernel, rfl, by decide +kernel, by decide +kernel⟩
theorem ok_lwhole {f : Addr} {fd : FuncData} (F : Fun K "_law_is_whole" "_law_is_whole" lIsWhole f fd) (T : TxL mg) : FnOk P w K mg base CX0 2 f fd ["thing", "low", "high"] spWithin := by
  refine F.ok scLWhole (fun vs H Q E h => ?_) (fun cdv A outer s H vs Q E hr h => ?_)
  · obtain ⟨x, d, lo, hi, rfl, _⟩ := h
    rfl
  · obtain ⟨x, d, lo, hi, rfl, hx, k⟩ := h
    refine ⟨_, pss_one (ps_ret (pe_and (pe_callB call_isi (by rfl) T.isinstance (by decide +kernel) (pa_cons (pv 0) (pa_cons (pe_bltn (v := .ty "int") (by rfl) T.int (by decide +kernel) rfl) pa_nil)))
      (pe_and (pe_not (pe_callB call_isi (by rfl) T.isinstance (by decide +kernel) (pa_cons (pv 0) (pa_cons (pe_bltn (v := .ty "bool") (by rfl) T.bool (by decide +kernel) rfl) pa_nil)))) (pe_one (pe_chain op_le op_le (pv 1) (pv 0) (pv 2)))))), ?_⟩
    have e9 : isW d lo hi = (isin (tyN d) "int" && (!isin (tyN d) "bool" && isW d lo hi)) := by cases d <;> simp [isW, isin, tyN]
    rw [e9] at k
    refine i_ret (D := { nx := _, rt := Q }) (v := .bl (isin (tyN d) "int" && (!isin (tyN d) "bool" && isW d lo hi))) ?_ k
    refine vi_and (vi_isi (vi_var rfl) hx (by simp)) fun c1 => vi_and (vi_not (vi_isi (vi_var rfl) hx (by simp))) fun c2 => ?_
    cases hx with
    | int i =>
      have e : isW (.int i) lo hi = (decide (lo ≤ i) && decide (i ≤ hi)) := rfl
      rw [e]
      exact vi_chain (vi_var rfl) (vi_var rfl) (fun Q q => ⟨_, _, rfl, rfl, q⟩) (fun _ => vi_var rfl) (fun _ Q q => ⟨_, _, rfl, rfl, q⟩)
    | bl b => simp [isin, tyN] at c2
    | _ => simp [isin, tyN] at c1
end
end KP

set_option Elab.async false
set_option linter.all false
set_option maxRecDepth 100000
set_option maxHeartbeats 1000000
/-! ### the law's fractions -/
namespace KP
open PySem PySem.Spec PyProof.Rows L2 KX KT
def spFrac : Sp := fun vs H Q _ => ∃ t l : Int, vs = [.int t, .int l] ∧ 0 < l ∧ l ≤ 1000 ∧ t.natAbs ≤ 1000 ∧ ∀ p, H p = none → Q (.ref p) (upd H p (.tup [.int (t / (Nat.gcd t.natAbs l.natAbs : Nat)), .int (l / (Nat.gcd t.natAbs l.natAbs : Nat))]))
section
variable {P : Program} {w : World} {K : PySem.W.Frag} {mg : Str → Option Value} {base : Heap}
theorem scFrac : FnScope ["top", "low", "one", "two"] ["top", "low"] (defScope lFrac) := ⟨rfl, rfl, rfl, by decide +kernel, rfl, by decide +kernel, by decide +kernel⟩
theorem ok_frac {f : Addr} {fd : FuncData} (F : Fun K "_law_frac" "_law_frac" lFrac f fd) (T : TxL mg) : FnOk P w K mg base CX0 1 f fd ["top", "low"] spFrac := by
  refine F.ok scFrac (fun vs H Q E h => ?_) (fun cdv A outer s H vs Q E hr h => ?_)
  · obtain ⟨t, l, rfl, _⟩ := h
    rfl
  · obtain ⟨t, l, rfl, l0, l1, t1, k⟩ := h
    refine ⟨_, pss_cons (ps_par (i := 2) (j := 3) (by rfl) scFrac.nd rfl rfl (by decide) rfl rfl (pa_cons (pe_callB call_abs (by rfl) T.abs (by decide +kernel) (pa_cons (pv 0) pa_nil)) (pa_cons (pv 1) pa_nil)) (by rfl))
      (pss_cons (ps_while PassesOwn.never (pt_cmpR op_gt (pv 3) pe_int (nomark _)) (pss_one (ps_par (i := 2) (j := 3) (by rfl) scFrac.nd rfl rfl (by decide) rfl rfl (pa_cons (pv 3) (pa_cons (pe_op op_mod (pe_callTy call_int1 (by rfl) T.int (by decide +kernel) (pa_cons (pv 2) pa_nil)) (pv 3)) pa_nil)) (by rfl))))
      (pss_one (ps_ret (pe_tup (pa_cons (pe_op op_fdiv (pv 0) (pv 2)) (pa_cons (pe_op op_fdiv (pv 1) (pv 2)) pa_nil)))))), ?_⟩
    have hg : 0 < Nat.gcd t.natAbs l.natAbs := Nat.gcd_pos_of_pos_right _ (by omega)
    have hg1 : Nat.gcd t.natAbs l.natAbs ≤ l.natAbs := Nat.le_of_dvd (by omega) (Nat.gcd_dvd_right _ _)
    refine ⟨_, rfl, _, rfl, _, rfl, _, _, rfl, ?_⟩
    refine ⟨fun m σ H' => H' = H ∧ ∃ a b : Nat, σ = [some (.int t), some (.int l), some (.int a), some (.int b)] ∧ Nat.gcd a b = Nat.gcd t.natAbs l.natAbs ∧ m = b ∧ a ≤ 1000 ∧ b ≤ 1000, ⟨_, rfl, t.natAbs, l.natAbs, ?_, rfl, rfl, t1, by omega⟩, ?_⟩
    · have e1 : (if t < 0 then -t else t) = (t.natAbs : Int) := by split <;> omega
      have e2 : l = (l.natAbs : Int) := by omega
      show [some (V.int t), some (V.int l), some (V.int (if t < 0 then -t else t)), some (V.int l)] = _
      rw [e1, ← e2]
    · rintro m σ H' ⟨rfl, a, b, rfl, hgc, hm, a1, b1⟩
      refine ⟨_, rfl, _, _, rfl, rfl, _, rfl, ?_⟩
      dsimp only
      by_cases c : 0 < b
      · rw [if_pos (decide_eq_true (show (0 : Int) < (b : Int) by omega))]
        refine ⟨fun σ' H2 => H2 = H' ∧ σ' = [some (.int t), some (.int l), some (.int b), some (.int ((a % b : Nat) : Int))], ?_, ?_⟩
        · rintro σ' H2 ⟨rfl, rfl⟩
          have lt := Nat.mod_lt a c
          refine ⟨a % b, by omega, rfl, b, a % b, rfl, ?_, rfl, b1, by omega⟩
          rw [← hgc, Nat.gcd_comm a b, Nat.gcd_rec b a, Nat.gcd_comm]
        · refine ⟨_, rfl, _, rfl, .inl ⟨_, rfl, _, rfl, _, _, rfl, rfl, show (0 : Int) < (b : Int) by omega, _, _, rfl, rfl, ?_⟩⟩
          show [some (V.int t), some (V.int l), some (V.int b), some (V.int ((a : Int) % (b : Int)))] = _
          rw [Int.natCast_emod]
      · have b0 : b = 0 := by omega
        subst b0
        rw [if_neg (by decide)]
        rw [Nat.gcd_zero_right] at hgc
        subst hgc
        refine ⟨_, rfl, _, rfl, _, _, rfl, rfl, ⟨by omega, by omega⟩, _, rfl, _, rfl, _, _, rfl, rfl, ⟨by omega, by omega⟩, (by decide : 2 ≤ sizeLine), fun p hp => k p hp⟩
end
end KP

set_option Elab.async false
set_option linter.all false
set_option maxRecDepth 100000
set_option maxHeartbeats 1000000
/-! ### the law's told fractions -/
namespace KP
open PySem PySem.Spec PyProof.Rows L2 KX KT
def spToldL : Sp := fun vs H Q _ => ∃ x d, vs = [x] ∧ Th H x d ∧ ∀ H', Same H H' → Q (.bl (isTold d)) H'
def spPipeL : Sp := fun vs H Q _ => ∃ x d m u, vs = [.int m, .int u, x] ∧ Th H x d ∧ ∀ H', Same H H' → Q (.bl (isPipe m u d)) H'
section
variable {K : PySem.W.Frag} {σ : L2.St} {H : Hp}
theorem isin_tup (d : PyData) : isin (tyN d) "tuple" = decide (tyN d = "tuple") := by cases d <;> simp [isin, tyN]
theorem isin_str (d : PyData) : isin (tyN d) "str" = decide (tyN d = "str") := by cases d <;> simp [isin, tyN]
/-- not isinstance(x, tuple) or len(x) != n -/
theorem ti_shapeL {te : TE} {x : V} {d : PyData} {n : Nat} {m : Int} (hm : m = (n : Int)) (ha : Vi te σ H x) (h : Th H x d) :
    Ti (tOr (tNot (tB (tCB (rIsi K) (tCons te (tCons (tC (.ty "tuple")) tNil))))) (tTest (tOp rNe (tCB (rLen K) (tCons te tNil)) (tC (.int m))))) σ H (!shp n d) := by
  subst hm
  have e : (!shp n d) = ((!isin (tyN d) "tuple") || !decide (lenT d = n)) := by unfold shp; rw [Bool.not_and, isin_tup]
  rw [e]
  refine ti_or (ti_not (ti_val (vi_isi ha h (by simp)))) fun z => ti_test (vi_op (vi_lenT (ai_cons ha ai_nil) h (by rw [isin_tup] at z; simpa using z)) vi_c fun Q q => ⟨rfl, ?_⟩)
  rw [int_dec]
  exact q
theorem i_retCall {t : TA} {tb : TE} {r : R2} {sp : Sp} {E : XK} {vs : List V} {D : Ends} (hA : Ai t σ H vs) (h : sp vs H (fun x H1 => tb σ H1 fun y H2 => r x y H2 D.rt) E) : tRet (tOp r (tCall sp [] E t) tb) D σ H := hA _ (by rw [List.append_nil]; exact h)
theorem vi_at {te : TE} {a : Addr} {xs : List V} {c : Int} {v : V} (ha : Vi te σ H (.ref a)) (e : H a = some (.tup xs)) (h : atI xs c = some v) : Vi (tOp (rIx K) te (tC (.int c))) σ H v :=
  vi_op ha vi_c fun Q q => .inr (.inl ⟨a, _, c, v, rfl, rfl, SqT.of e, h, q⟩)
end
theorem told_gcd {i j : Int} (h1 : isW (.int i) (-999) 999 = true) (h2 : isW (.int j) 1 999 = true) : isTold (.tuple [.int i, .int j]) = PyData.eqv (.tuple [.int (i / (Nat.gcd i.natAbs j.natAbs : Nat)), .int (j / (Nat.gcd i.natAbs j.natAbs : Nat))]) (.tuple [.int i, .int j]) := by
  simp only [isW, Bool.and_eq_true, decide_eq_true_eq] at h1 h2
  have e1 : isTold (.tuple [.int i, .int j]) = decide (Nat.gcd i.natAbs j.natAbs = 1) := by
    have a1 : decide (0 < j) = true := decide_eq_true (by omega)
    have a2 : decide ((if i < 0 then -i else i) ≤ 999) = true := decide_eq_true (by split <;> omega)
    have a3 : decide (j ≤ 999) = true := decide_eq_true h2.2
    simp [isTold, isR, shp, ith, ratio2, small2, tyN, lenT, a1, a2, a3]
  rw [e1]
  simp only [PyData.eqv, PyData.eqvAll, Bool.and_true]
  have hg : 0 < Nat.gcd i.natAbs j.natAbs := Nat.gcd_pos_of_pos_right _ (by omega)
  by_cases c : Nat.gcd i.natAbs j.natAbs = 1
  · rw [decide_eq_true c]
    simp [c]
  · rw [decide_eq_false c]
    have : j / (Nat.gcd i.natAbs j.natAbs : Nat) < j := Int.ediv_lt_of_lt_mul (by omega) (by
      have : (2 : Int) ≤ (Nat.gcd i.natAbs j.natAbs : Nat) := by omega
      have h3 : j * 2 ≤ j * (Nat.gcd i.natAbs j.natAbs : Nat) := Int.mul_le_mul_of_nonneg_left this (by omega)
      omega)
    have e : ((j / (Nat.gcd i.natAbs j.natAbs : Nat)) == j) = false := beq_eq_false_iff_ne.mpr (by omega)
    rw [e, Bool.and_false]
theorem told_bad {a b : PyData} (h : (!isW a (-999) 999 || !isW b 1 999) = true) : isTold (.tuple [a, b]) = false := by
  cases c : isTold (.tuple [a, b]) with
  | false => rfl
  | true =>
    simp only [isTold, isR, Bool.and_eq_true] at c
    obtain ⟨⟨_, c1⟩, c2⟩ := c
    have c1 : ratio2 a b = true := c1
    have c2 : small2 a b = true := c2
    cases a with
    | int i =>
      cases b with
      | int j =>
        simp only [ratio2, small2, Bool.and_eq_true, decide_eq_true_eq] at c1 c2
        have e1 : isW (.int i) (-999) 999 = true := by
          simp only [isW, Bool.and_eq_true, decide_eq_true_eq]
          have := c2.1
          split at this <;> omega
        have e2 : isW (.int j) 1 999 = true := by
          simp only [isW, Bool.and_eq_true, decide_eq_true_eq]
          omega
        rw [e1, e2] at h
        cases h
      | _ => simp [ratio2] at c1
    | _ => cases b <;> simp [ratio2] at c1
theorem pair_shaped (i j : Int) : SeqAt.shaped (.tuple [.int i, .int j]) = true := by simp [SeqAt.shaped, PyData.canLay0, PyData.canLayAll0, PyData.depth, PyData.depthAll]
section
variable {P : Program} {w : World} {K : PySem.W.Frag} {mg : Str → Option Value} {base : Heap}
theorem scLTold : FnScope ["thing"] ["thing"] (defScope lIsTold) := ⟨rfl, rfl, rfl, by decide +kernel, rfl, by decide +kernel, by decide +kernel⟩
theorem ok_ltold {f fI fF : Addr} {fd fdI fdF : FuncData} (F : Fun K "_law_is_told" "_law_is_told" lIsTold f fd) (T : TxL mg) (FI : FnOk P w K mg base CX0 2 fI fdI ["thing", "low", "high"] spWithin) (mI : mg "_law_is_whole" = some (.ref fI)) (kI : PySem.W.keepIn K (.ref fI) = true) (bI : Binds K fdI ["thing", "low", "high"] [])
    (FF : FnOk P w K mg base CX0 1 fF fdF ["top", "low"] spFrac) (mF : mg "_law_frac" = some (.ref fF)) (kF : PySem.W.keepIn K (.ref fF) = true) (bF : Binds K fdF ["top", "low"] []) :
    FnOk P w K mg base CX0 3 f fd ["thing"] spToldL := by
  refine F.ok scLTold (fun vs H Q E h => ?_) (fun cdv A outer s H vs Q E hr h => ?_)
  · obtain ⟨x, d, rfl, _⟩ := h
    rfl
  · obtain ⟨x, d, rfl, hx, k⟩ := h
    have hr1 : Room 1 _ := hr.mono (by decide)
    have hu : (A.deeper (envOfC "_law_is_told" (defScope lIsTold) s.heap.objs.size f cdv)).units + 64 < cLine := by have := hr.un; omega
    refine ⟨_, pss_cons (ps_if (pw_or (pt_not (pt_val (pe_callB call_isi (by rfl) T.isinstance (by decide +kernel) (pa_cons (pv 0) (pa_cons (pe_bltn (v := .ty "tuple") (by rfl) T.tuple (by decide +kernel) rfl) pa_nil)))))
        (pw_or1 (pt_cmpR op_ne (pe_callB call_len_seq (by rfl) T.len PySem.boot_len (pa_cons (pv 0) pa_nil)) pe_int (nomark _)))).pt (pss_one (ps_ret pe_bl)) pss_nil)
      (pss_cons (ps_if (pw_or (pt_not (pt_val (pe_call FI hr (by rfl) mI kI bI .nil pass0 (pa_cons (pe_ix ix_seq (pv 0) pe_int (fun _ _ => rfl)) (pa_cons (pe_un un_neg pe_int) (pa_cons pe_int pa_nil))))))
          (pw_or1 (pt_not (pt_val (pe_call FI hr (by rfl) mI kI bI .nil pass0 (pa_cons (pe_ix ix_seq (pv 0) pe_int (fun _ _ => rfl)) (pa_cons pe_int (pa_cons pe_int pa_nil)))))))).pt (pss_one (ps_ret pe_bl)) pss_nil)
      (pss_one (ps_ret (pe_cmpR (op_eqD hu) (pe_call FF hr1 rfl mF kF bF .nil pass0 (pa_cons (pe_ix ix_seq (pv 0) pe_int (fun _ _ => rfl)) (pa_cons (pe_ix ix_seq (pv 0) pe_int (fun _ _ => rfl)) pa_nil))) (pv 0) (nomark _))))), ?_⟩
    refine i_guard (ti_shapeL rfl (vi_var rfl) hx) (fun z => ?_) (fun z => ?_)
    · have z : shp 2 d = false := by simpa using z
      have e : isTold d = false := by simp [isTold, isR, z]
      have := k H (Same.refl H)
      rw [e] at this
      exact this
    have hx0 := hx
    obtain ⟨a, xs, ds, rfl, rfl, e, ha, l2⟩ := shp_of hx z
    obtain ⟨d1, d2, rfl⟩ := len2 l2
    cases ha with
    | cons h1 hr1' => cases hr1' with
      | cons h2 hr2' =>
        cases hr2'
        refine i_guard (ti_or (ti_not (ti_val (vi_call (ai_cons (vi_at (vi_var rfl) e rfl) (ai_cons (v := .int (-999)) (fun Q q => ?_) (ai_cons vi_c ai_nil))) fun Q q => spWithin_at h1 q)))
          fun _ => ti_not (ti_val (vi_call (ai_cons (vi_at (vi_var rfl) e rfl) (ai_cons vi_c (ai_cons vi_c ai_nil))) fun Q q => spWithin_at h2 q))) (fun z => ?_) (fun z => ?_)
        · exact ⟨_, rfl, q⟩
        · have := k H (Same.refl H)
          rw [told_bad z] at this
          exact this
        rw [Bool.or_eq_false_iff, Bool.not_eq_false', Bool.not_eq_false'] at z
        obtain ⟨i, rfl, rfl⟩ := isW_int h1 z.1
        obtain ⟨j, rfl, rfl⟩ := isW_int h2 z.2
        have eg := told_gcd z.1 z.2
        have zz := z
        simp only [isW, Bool.and_eq_true, decide_eq_true_eq] at zz
        have hA : ∀ {σ : L2.St}, σ[0]? = some (some (.ref a)) → Ai (tCons (tOp (rIx K) (tVar 0) (tC (.int 0))) (tCons (tOp (rIx K) (tVar 0) (tC (.int 1))) tNil)) σ H [.int i, .int j] := fun h0 => ai_cons (vi_at (vi_var h0) e rfl) (ai_cons (vi_at (vi_var h0) e rfl) ai_nil)
        refine i_retCall (D := { nx := _, rt := Q }) (hA rfl) ?_
        refine ⟨i, j, rfl, by omega, by omega, by omega, fun p hp => ⟨_, rfl, ?_⟩⟩
        have s1 := same_upd (o := .tup [V.int (i / (Nat.gcd i.natAbs j.natAbs : Nat)), .int (j / (Nat.gcd i.natAbs j.natAbs : Nat))]) hp
        refine ⟨_, _, .tup (SqT.of upd_same) (.cons (.int _) (.cons (.int _) .nil)), .tup (SqT.of (s1 _ _ e)) (.cons (.int _) (.cons (.int _) .nil)), pair_shaped _ _, pair_shaped _ _, ?_⟩
        rw [← eg]
        exact k _ s1
end
end KP

set_option Elab.async false
set_option linter.all false
set_option maxRecDepth 100000
set_option maxHeartbeats 1000000
/-! ### the law's pipes -/
namespace KP
open PySem PySem.Spec PyProof.Rows L2 KX KT
section
variable {K : PySem.W.Frag} {σ : L2.St} {H : Hp}
theorem ti_and {t u : TT} {a b : Bool} (h : Ti t σ H a) (h2 : a = true → Ti u σ H b) : Ti (tAnd t u) σ H (a && b) := fun Q q => h _ (by
  cases a with
  | true => rw [if_pos rfl]; exact h2 rfl _ (by simpa using q)
  | false => rw [if_neg Bool.false_ne_true]; simpa using q)
theorem eqI_dec {i : Int} {x : V} {d : PyData} (h : Th H x d) {j : Int} (e : d = .int j) : decide (x = V.int i) = eqI d (.int i) := by
  subst e
  cases h
  simp [eqI]
end
section
variable {P : Program} {w : World} {K : PySem.W.Frag} {mg : Str → Option Value} {base : Heap}
theorem scLPipe : FnScope ["many", "unknowns", "thing", "start", "aim", "share"] ["many", "unknowns", "thing"] (defScope lIsPipe) := ⟨rfl, rfl, rfl, by decide +kernel, rfl, by decide +kernel, by decide +kernel⟩
theorem ok_lpipe {f fI fT : Addr} {fd fdI fdT : FuncData} (F : Fun K "_law_is_pipe" "_law_is_pipe" lIsPipe f fd) (T : TxL mg) (FI : FnOk P w K mg base CX0 2 fI fdI ["thing", "low", "high"] spWithin) (mI : mg "_law_is_whole" = some (.ref fI)) (kI : PySem.W.keepIn K (.ref fI) = true) (bI : Binds K fdI ["thing", "low", "high"] [])
    (FT : FnOk P w K mg base CX0 3 fT fdT ["thing"] spToldL) (mT : mg "_law_is_told" = some (.ref fT)) (kT : PySem.W.keepIn K (.ref fT) = true) (bT : Binds K fdT ["thing"] []) :
    FnOk P w K mg base CX0 4 f fd ["many", "unknowns", "thing"] spPipeL := by
  refine F.ok scLPipe (fun vs H Q E h => ?_) (fun cdv A outer s H vs Q E hr h => ?_)
  · obtain ⟨x, d, m, u, rfl, _⟩ := h
    rfl
  · obtain ⟨x, d, m, u, rfl, hx, k⟩ := h
    have hr2 : Room 2 _ := hr.mono (by decide)
    refine ⟨_, pss_cons (ps_if (pw_or (pt_not (pt_val (pe_callB call_isi (by rfl) T.isinstance (by decide +kernel) (pa_cons (pv 2) (pa_cons (pe_bltn (v := .ty "tuple") (by rfl) T.tuple (by decide +kernel) rfl) pa_nil)))))
        (pw_or (pt_cmpR op_ne (pe_callB call_len_seq (by rfl) T.len PySem.boot_len (pa_cons (pv 2) pa_nil)) pe_int (nomark _))
          (pw_or1 (pt_not (pt_val (pe_call FI hr2 (by rfl) mI kI bI .nil pass0 (pa_cons (pe_ix ix_seq (pv 2) pe_int (fun _ _ => rfl)) (pa_cons pe_int (pa_cons (pe_op op_sub (pv 0) pe_int) pa_nil))))))))).pt (pss_one (ps_ret pe_bl)) pss_nil)
      (pss_cons (ps_asg (pv 2) (pg_tup rfl (pgs_cons (pg_name (i := 3) scLPipe.nd rfl (Or.inl rfl)) (pgs_cons (pg_name (i := 4) scLPipe.nd rfl (Or.inl rfl)) (pgs_cons (pg_name (i := 5) scLPipe.nd rfl (Or.inl rfl)) pgs_nil)))))
      (pss_cons (ps_if (pw_and (pt_cmpR op_notN (pv 4) pe_non (nomark _)) (pw_and1 (pw_or (pt_not (pt_val (pe_call FI hr2 (by rfl) mI kI bI .nil pass0 (pa_cons (pv 4) (pa_cons pe_int (pa_cons (pe_op op_sub (pv 0) pe_int) pa_nil))))))
          (pw_or1 (pt_cmpR op_eq (pv 4) (pv 3) (nomark _)))).pt)).pt (pss_one (ps_ret pe_bl)) pss_nil)
      (pss_cons (ps_if (pw_and (pt_val (pe_callB call_isi (by rfl) T.isinstance (by decide +kernel) (pa_cons (pv 5) (pa_cons (pe_bltn (v := .ty "tuple") (by rfl) T.tuple (by decide +kernel) rfl) pa_nil))))
          (pw_and (pt_cmpR op_eq (pe_callB call_len_seq (by rfl) T.len PySem.boot_len (pa_cons (pv 5) pa_nil)) pe_int (nomark _))
            (pw_and1 (pt_val (pe_callB call_isi (by rfl) T.isinstance (by decide +kernel) (pa_cons (pe_ix ix_seq (pv 5) pe_int (fun _ _ => rfl)) (pa_cons (pe_bltn (v := .ty "str") (by rfl) T.str (by decide +kernel) rfl) pa_nil))))))).pt
          (pss_one (ps_ret (pe_and (pe_cmpR op_eq (pe_ix ix_seq (pv 5) pe_int (fun _ _ => rfl)) pe_str (nomark _)) (pe_one (pe_call FI hr2 rfl mI kI bI .nil pass0 (pa_cons (pe_ix ix_seq (pv 5) pe_int (fun _ _ => rfl)) (pa_cons pe_int (pa_cons (pe_op op_sub (pv 1) pe_int) pa_nil)))))))) pss_nil)
      (pss_one (ps_ret (pe_call FT hr rfl mT kT bT .nil pass0 (pa_cons (pv 5) pa_nil))))))), ?_⟩
    have q0 := k H (Same.refl H)
    refine i_guard (b := (!isin (tyN d) "tuple" || (!decide (lenT d = 3) || !isW (ith 0 d) 0 (m - 1)))) (ti_or (ti_not (ti_val (vi_isi (vi_var rfl) hx (by simp)))) fun z => ti_or (ti_test (vi_op (vi_lenT (ai_cons (vi_var rfl) ai_nil) hx (by rw [isin_tup] at z; simpa using z)) vi_c fun Q q => ⟨rfl, ?_⟩)) fun z2 => ?_) (fun z => ?_) (fun z => ?_)
    · rw [show (V.int 3) = V.int ((3 : Nat) : Int) from rfl, int_dec]
      exact q
    · have zs : (!shp 3 d) = false := by
        rw [isin_tup] at z
        unfold shp
        simp at z z2
        simp [z, z2]
      obtain ⟨a, xs, ds, rfl, rfl, e, ha, l2⟩ := shp_of hx zs
      obtain ⟨d1, d2, d3, rfl⟩ := len3 l2
      cases ha with
      | cons h1 hr1 => cases hr1 with
        | cons h2 hr2' => cases hr2' with
          | cons h3 hr3 =>
            cases hr3
            exact ti_not (ti_val (vi_call (ai_cons (vi_at (vi_var rfl) e rfl) (ai_cons vi_c (ai_cons (vi_op (vi_var rfl) vi_c fun Q q => ⟨_, _, rfl, rfl, q⟩) ai_nil))) fun Q q => spWithin_at h1 q))
    · have e : isPipe m u d = false := by
        rw [isin_tup] at z
        unfold isPipe
        cases c : shp 3 d with
        | false => rfl
        | true =>
          unfold shp at c
          rw [Bool.and_eq_true] at c
          rw [c.1, c.2, Bool.not_true, Bool.false_or, Bool.false_or] at z
          rw [z]
          simp
      rw [e] at q0
      exact q0
    have zs : (!shp 3 d) = false ∧ isW (ith 0 d) 0 (m - 1) = true := by
      rw [isin_tup] at z
      unfold shp
      simp only [Bool.or_eq_false_iff, Bool.not_eq_false'] at z
      rw [z.1, z.2.1]
      exact ⟨rfl, z.2.2⟩
    obtain ⟨z0, zw⟩ := zs
    obtain ⟨a, xs, ds, rfl, rfl, e, ha, l2⟩ := shp_of hx z0
    obtain ⟨d1, d2, d3, rfl⟩ := len3 l2
    cases ha with
    | cons h1 hr1 => cases hr1 with
      | cons h2 hr2' => cases hr2' with
        | cons h3 hr3 =>
          cases hr3
          have zw : isW d1 0 (m - 1) = true := zw
          have e8 : isPipe m u (.tuple [d1, d2, d3]) = (isShare u d3 && (isNon d2 || (isW d2 0 (m - 1) && !eqI d2 d1))) := by
            unfold isPipe
            rw [show shp 3 (.tuple [d1, d2, d3]) = true by simpa using z0, Bool.true_and, show ith 0 (.tuple [d1, d2, d3]) = d1 from rfl, zw]
            simp [ith]
          have e7 : isShare u d3 = (if (shp 2 d3 && decide (tyN (ith 0 d3) = "str")) = true then (isX (ith 0 d3) && isW (ith 1 d3) 0 (u - 1)) else isTold d3) := by
            unfold isShare
            cases c : shp 2 d3 with
            | false => simp [isTold, isR, c]
            | true => simp
          refine ⟨_, rfl, a, _, rfl, SqT.of e, rfl, _, _, rfl, _, _, rfl, _, _, rfl, rfl, ?_⟩
          obtain ⟨i, rfl, rfl⟩ := isW_int h1 zw
          dsimp only
          refine i_guard (D := { nx := _, rt := Q }) (b := !isNon d2 && (!isW d2 0 (m - 1) || eqI d2 (.int i))) (ti_and (ti_test (vi_op (vi_var rfl) vi_c fun Q q => ⟨rfl, ?_⟩)) fun z => ti_or (ti_not (ti_val (vi_call (ai_cons (vi_var rfl) (ai_cons vi_c (ai_cons (vi_op (vi_var rfl) vi_c fun Q q => ⟨_, _, rfl, rfl, q⟩) ai_nil))) fun Q q => spWithin_at h2 q))) fun z2 => ti_test ?_) (fun z => ?_) (fun z => ?_)
          · rw [isNon_dec h2]
            exact q
          · obtain ⟨j, rfl, rfl⟩ := isW_int h2 (by simpa using z2)
            refine vi_op (vi_var rfl) (vi_var rfl) fun Q q => ⟨rfl, ?_⟩
            have e6 : decide (V.int j = V.int i) = eqI (.int j) (.int i) := by simp [eqI]
            rw [e6]
            exact q
          · have e : isPipe m u (.tuple [.int i, d2, d3]) = false := by
              rw [e8]
              rw [Bool.and_eq_true, Bool.not_eq_true', Bool.or_eq_true, Bool.not_eq_true'] at z
              rw [z.1]
              rcases z.2 with z2 | z2 <;> rw [z2] <;> simp
            rw [e] at q0
            exact q0
          have e5 : isPipe m u (.tuple [.int i, d2, d3]) = isShare u d3 := by
            rw [e8]
            cases c1 : isNon d2 <;> cases c2 : isW d2 0 (m - 1) <;> cases c3 : eqI d2 (.int i) <;> rw [c1, c2, c3] at z <;> simp at z ⊢
          rw [e5, e7] at q0
          have k' : ∀ H', Same H H' → Q (.bl (if (shp 2 d3 && decide (tyN (ith 0 d3) = "str")) = true then (isX (ith 0 d3) && isW (ith 1 d3) 0 (u - 1)) else isTold d3)) H' := fun H' s => by
            have := k H' s
            rw [e5, e7] at this
            exact this
          have sp2 : isin (tyN d3) "tuple" = true → decide (lenT d3 = 2) = true → (!shp 2 d3) = false := fun c1 c2 => by
            rw [isin_tup] at c1
            unfold shp
            rw [c1, c2]
            rfl
          have e4 : (shp 2 d3 && decide (tyN (ith 0 d3) = "str")) = (isin (tyN d3) "tuple" && (decide (lenT d3 = 2) && isin (tyN (ith 0 d3)) "str")) := by
            rw [isin_tup, isin_str]
            unfold shp
            rw [Bool.and_assoc]
          rw [e4] at k'
          refine i_if (D := { nx := _, rt := Q }) (b := isin (tyN d3) "tuple" && (decide (lenT d3 = 2) && isin (tyN (ith 0 d3)) "str")) (ti_and (ti_val (vi_isi (vi_var rfl) h3 (by simp))) fun c1 => ti_and (ti_test (vi_op (vi_lenT (ai_cons (vi_var rfl) ai_nil) h3 (by rw [isin_tup] at c1; simpa using c1)) vi_c fun Q q => ⟨rfl, ?_⟩)) fun c2 => ti_val ?_) (fun c => ?_) (fun c => ?_)
          · rw [show (V.int 2) = V.int ((2 : Nat) : Int) from rfl, int_dec]
            exact q
          · obtain ⟨b, ys, es, rfl, rfl, e', hb, l3⟩ := shp_of h3 (sp2 c1 c2)
            obtain ⟨g1, g2, rfl⟩ := len2 l3
            cases hb with
            | cons i1 hb2 => cases hb2 with
              | cons i2 hb3 =>
                cases hb3
                exact vi_isi (vi_at (vi_var rfl) e' rfl) i1 (by simp)
          · rw [if_pos c] at k'
            rw [Bool.and_eq_true, Bool.and_eq_true, isin_str, decide_eq_true_eq (p := tyN (ith 0 d3) = "str")] at c
            obtain ⟨b, ys, es, rfl, rfl, e', hb, l3⟩ := shp_of h3 (sp2 c.1 c.2.1)
            obtain ⟨g1, g2, rfl⟩ := len2 l3
            have c3 : tyN g1 = "str" := c.2.2
            cases hb with
            | cons i1 hb2 => cases hb2 with
              | cons i2 hb3 =>
                cases hb3
                cases i1 with
                | str s =>
                  refine i_ret (D := { nx := _, rt := Q }) (v := .bl (isX (.str s) && isW g2 0 (u - 1))) ?_ (k' H (Same.refl H))
                  refine vi_and (vi_op (vi_at (vi_var rfl) e' rfl) vi_c fun Q q => ⟨rfl, ?_⟩) fun c1 => ?_
                  · have e2 : decide (V.str s = V.str "x") = isX (.str s) := by simp [isX]
                    rw [e2]
                    exact q
                  · exact vi_call (ai_cons (vi_at (vi_var rfl) e' rfl) (ai_cons vi_c (ai_cons (vi_op (vi_var rfl) vi_c fun Q q => ⟨_, _, rfl, rfl, q⟩) ai_nil))) fun Q q => spWithin_at i2 q
                | _ => exact absurd c3 (by simp [tyN])
          · rw [if_neg (by simpa using c)] at k'
            exact ⟨_, rfl, _, _, rfl, h3, fun H' s => k' H' s⟩
end
end KP

set_option Elab.async false
set_option linter.all false
set_option maxRecDepth 100000
set_option maxHeartbeats 1000000
/-! ### the law's tanks -/
namespace KP
open PySem PySem.Spec PyProof.Rows L2 KX KT
/-- a tuple beside the empty one -/
def rEq0 : R2 := fun x y H Q => ∃ a b xs, x = .ref a ∧ y = .ref b ∧ H a = some (.tup xs) ∧ H b = some (.tup []) ∧ Q (.bl (decide (xs.length = 0))) H
theorem op_eq0 {X : Cx} (hu : X.A.units < cLine) : OpR X (compareOp .Eq) rEq0 := fun pins s σ H x y v u Q I rx ry ⟨a, b, xs, ex, ey, ha, hb, q⟩ => by
  subst ex ey
  cases (show v = Value.ref a from rx)
  cases (show u = Value.ref b from ry)
  obtain ⟨us, r1, p1, _⟩ := I.tuple (SqT.of ha)
  obtain ⟨ws, r2, p2, _⟩ := I.tuple (SqT.of hb)
  have l1 := r1.length
  have l2 := r2.length
  have l3 : ws.toArray.size = 0 := by
    rw [List.size_toArray, ← l2]
    rfl
  refine SeqAt.eq_tupleAt (e := fun _ => true) (show s.heap.IsTuple a us.toArray from p1) (show s.heap.IsTuple b ws.toArray from p2) hu (fun j h1 h2 => ?_) ⟨.bl _, H, I, ?_, q⟩
  · rw [l3] at h2
    exact absurd h2 (Nat.not_lt_zero _)
  · show Value.bool _ = Value.bool _
    congr 1
    rw [l3, Nat.min_zero, List.range_zero, List.all_nil, Bool.true_and, List.size_toArray, ← l1]
    by_cases c : xs.length = 0
    · rw [c]; rfl
    · rw [decide_eq_false c]
      exact beq_eq_false_iff_ne.mpr c
def areTL (m : Int) (d : PyData) : Bool := decide (tyN d = "tuple") && (!decide (lenT d = 0) && ((itms d).all (fun e => isW e 0 (m - 1)) && ascB (itms d)))
theorem asc_low {m : Int} {ds : List PyData} (h : ds.all (fun e => isW e 0 (m - 1)) = true) (ha : ascB ds = true) : ∀ i : Nat, i < ds.length → ∃ j : Int, ds.getD i .none = .int j ∧ (i : Int) ≤ j ∧ j ≤ m - 1 := by
  intro i
  induction i with
  | zero =>
    intro hi
    have e : ds.getD 0 .none = ds[0] := by rw [List.getD_eq_getElem?_getD, List.getElem?_eq_getElem hi]; rfl
    have z := List.all_eq_true.mp h ds[0] (List.getElem_mem hi)
    obtain ⟨j, hj⟩ := isW_data z
    rw [hj] at z e
    simp only [isW, Bool.and_eq_true, decide_eq_true_eq] at z
    exact ⟨j, e, z.1, z.2⟩
  | succ i ih =>
    intro hi
    obtain ⟨j0, e0, h0, _⟩ := ih (by omega)
    have e : ds.getD (i + 1) .none = ds[i + 1] := by rw [List.getD_eq_getElem?_getD, List.getElem?_eq_getElem hi]; rfl
    have z := List.all_eq_true.mp h ds[i + 1] (List.getElem_mem hi)
    obtain ⟨j, hj⟩ := isW_data z
    rw [hj] at z e
    simp only [isW, Bool.and_eq_true, decide_eq_true_eq] at z
    have q := List.all_eq_true.mp ha i (List.mem_range.mpr (by omega))
    rw [e0, e] at q
    have q : j0 < j := of_decide_eq_true q
    exact ⟨j, e, by omega, z.2⟩
theorem areT_same (m : Int) (d : PyData) : areTL m d = areT m d := by
  cases d with
  | tuple ds =>
    have e1 : areTL m (.tuple ds) = (!decide (ds.length = 0) && (ds.all (fun e => isW e 0 (m - 1)) && ascB ds)) := by
      unfold areTL
      have e0 : decide (tyN (.tuple ds) = "tuple") = true := decide_eq_true rfl
      rw [e0, Bool.true_and]
      rfl
    have e2 : areT m (.tuple ds) = ((decide (1 ≤ (ds.length : Int)) && decide ((ds.length : Int) ≤ m)) && (ds.all (fun e => isW e 0 (m - 1)) && ascB ds)) := by
      unfold areT
      have e0 : decide (tyN (.tuple ds) = "tuple") = true := decide_eq_true rfl
      rw [e0, Bool.true_and]
      rfl
    rw [e1, e2]
    cases h : ds.all (fun e => isW e 0 (m - 1)) with
    | false => simp
    | true =>
      cases ha : ascB ds with
      | false => simp
      | true =>
        simp only [Bool.and_true]
        by_cases c : ds.length = 0
        · rw [decide_eq_true c, decide_eq_false (show ¬ (1 : Int) ≤ (ds.length : Int) by omega)]
          rfl
        · obtain ⟨j, _, h1, h2⟩ := asc_low h ha (ds.length - 1) (by omega)
          rw [decide_eq_false c, decide_eq_true (show (1 : Int) ≤ (ds.length : Int) by omega), decide_eq_true (show (ds.length : Int) ≤ m by omega)]
          rfl
  | _ => simp [areTL, areT, tyN]
def spTanksL : Sp := fun vs H Q _ => ∃ x d m, vs = [.int m, x] ∧ Th H x d ∧ lenT d ≤ 2000 ∧ ∀ H', Same H H' → Q (.bl (areT m d)) H'
end KP

set_option Elab.async false
set_option linter.all false
set_option maxRecDepth 100000
set_option maxHeartbeats 1000000
/-! ### readings behind which the heap has only grown; all([.. for x in tuple]) -/
namespace KP
open PySem PySem.Spec PyProof.Rows L2 KX KT
def Vg (t : TE) (σ : L2.St) (H : Hp) (v : V) : Prop := ∀ Q : VK, (∀ H', Same H H' → Q v H') → t σ H Q
def Tg (t : TT) (σ : L2.St) (H : Hp) (b : Bool) : Prop := ∀ Q : Bool → Hp → Prop, (∀ H', Same H H' → Q b H') → t σ H Q
section
variable {K : PySem.W.Frag} {σ : L2.St} {H : Hp}
theorem tg_of {t : TT} {b : Bool} (h : Ti t σ H b) : Tg t σ H b := fun Q q => h _ (q H (Same.refl H))
theorem vg_of {t : TE} {v : V} (h : Vi t σ H v) : Vg t σ H v := fun Q q => h _ (q H (Same.refl H))
theorem tg_or {t u : TT} {a b : Bool} (h : Tg t σ H a) (h2 : a = false → ∀ H', Same H H' → Tg u σ H' b) : Tg (tOr t u) σ H (a || b) := fun Q q => h _ fun H' s => by
  cases a with
  | true => rw [if_pos rfl]; simpa using q H' s
  | false => rw [if_neg Bool.false_ne_true]; exact h2 rfl H' s _ fun H2 s2 => by simpa using q H2 (s.trans s2)
theorem tg_not {t : TT} {a : Bool} (h : Tg t σ H a) : Tg (tNot t) σ H (!a) := fun Q q => h _ fun H' s => q H' s
theorem tg_val {te : TE} {b : Bool} (h : Vg te σ H (.bl b)) : Tg (tB te) σ H b := fun Q q => h _ fun H' s => ⟨b, rfl, q H' s⟩
theorem tg_test {te : TE} {b : Bool} (h : Vg te σ H (.bl b)) : Tg (tTest te) σ H b := fun Q q => h _ fun H' s => ⟨b, rfl, q H' s⟩
theorem g_guard {t : TT} {tz : TS} {b : Bool} {D : Ends} (h : Tg t σ H b) (h1 : b = true → ∀ H', Same H H' → D.rt (.bl false) H') (h2 : b = false → ∀ H', Same H H' → tz D σ H') : tSeq (tIfS t (tRet (tC (.bl false))) tNext) tz D σ H := h _ fun H' s => by
  cases b with
  | true => rw [if_pos rfl]; exact h1 rfl H' s
  | false => rw [if_neg Bool.false_ne_true]; exact h2 rfl H' s
theorem g_ret {te : TE} {v : V} {D : Ends} (h : Vg te σ H v) (k : ∀ H', Same H H' → D.rt v H') : tRet te D σ H := h _ k
theorem vg_and {ta tb : TE} {a b : Bool} (h : Vg ta σ H (.bl a)) (h2 : a = true → ∀ H', Same H H' → Vg tb σ H' (.bl b)) : Vg (tAndV ta tb) σ H (.bl (a && b)) := fun Q q => h _ fun H' s => ⟨a, rfl, by
  cases a with
  | true => rw [if_pos rfl]; exact h2 rfl H' s _ fun H2 s2 => by simpa using q H2 (s.trans s2)
  | false => rw [if_neg Bool.false_ne_true]; simpa using q H' s⟩
theorem vg_eq0 {te : TE} {a : Addr} {xs : List V} (h : Vi te σ H (.ref a)) (e : H a = some (.tup xs)) : Vg (tOp rEq0 te (tTup tNil)) σ H (.bl (decide (xs.length = 0))) := fun Q q => h _
  ⟨Nat.zero_le _, fun p hp => ⟨a, p, xs, rfl, rfl, (same_upd hp) _ _ e, upd_same, q _ (same_upd hp)⟩⟩
/-- all([elt for x in te]) -/
theorem vg_all {te tel : TE} {a : Addr} {j : Nat} {vs : List Nat} {xs : List V} {ds : List PyData} {pd : PyData → Bool} (h : Vi te σ H (.ref a)) (e : H a = some (.tup xs)) (ha : ThAll H xs ds) (hl : ds.length ≤ 2000) (hw : ∀ x : V, wipe ((wipe σ vs).set j (some x)) vs = wipe σ vs)
    (he : ∀ H2 x d, Same H H2 → Th H2 x d → Vg tel ((wipe σ vs).set j (some x)) H2 (.bl (pd d))) : Vg (tCB (rAll K) (tCons (tLc (iTup K te) (gName j) tYes tel vs) tNil)) σ H (.bl (ds.all pd)) := fun Q q => by
  have hlen := all2 ha
  refine h _ ⟨a, rfl, ⟨xs, SqT.of e⟩, fun D hD => ?_⟩
  refine lc_it (walk_tup (K := K) (a := a) (xs := xs)) (fun n H' => Same H H' ∧ H' D = some (.lst ((ds.take n).map fun d => V.bl (pd d)))) ⟨same_upd hD, upd_same⟩ (fun n H' _ z => SqT.of (z.1 _ _ e)) ?_ ?_
  · rintro i x H' H'' hi ⟨s7, hD'⟩ ⟨rfl, hx⟩
    obtain ⟨d, hdi, hth⟩ := all_get ha hx
    refine ⟨hw x, ?_⟩
    dsimp only [tYes]
    rw [if_pos rfl]
    refine he _ x d s7 (hth.mono (Sm.same s7)) _ fun H2 s2 => ⟨_, s2 _ _ hD', ?_, fun b o eb => ?_, ?_⟩
    · rw [List.length_map, List.length_take]
      exact Nat.lt_of_le_of_lt (show min i ds.length ≤ 2000 by omega) (by decide)
    · have nb : b ≠ D := fun z => by
        rw [z, hD] at eb
        cases eb
      rw [upd_ne nb]
      exact s2 _ _ (s7 _ _ eb)
    · rw [upd_same, List.take_add_one, hdi, List.map_append]
      rfl
  · rintro H' ⟨s7, hD'⟩
    have e1 : ds.take xs.length = ds := List.take_of_length_le (by omega)
    rw [e1] at hD'
    refine ⟨D, ds.map pd, rfl, SqL.of (by rw [hD', List.map_map]; rfl), ?_⟩
    have e2 : (ds.map pd).all id = ds.all pd := by rw [List.all_map]; rfl
    rw [e2]
    exact q _ s7
end
section
variable {P : Program} {w : World} {K : PySem.W.Frag} {mg : Str → Option Value} {base : Heap}
theorem scLTanks : FnScope ["many", "thing", "each", "at"] ["many", "thing"] (defScope lAreTanks) := ⟨rfl, rfl, rfl, by decide +kernel, rfl, by decide +kernel, by decide +kernel⟩
theorem ok_ltanks {f fI : Addr} {fd fdI : FuncData} (F : Fun K "_law_are_tanks" "_law_are_tanks" lAreTanks f fd) (T : TxL mg) (FI : FnOk P w K mg base CX0 2 fI fdI ["thing", "low", "high"] spWithin) (mI : mg "_law_is_whole" = some (.ref fI)) (kI : PySem.W.keepIn K (.ref fI) = true) (bI : Binds K fdI ["thing", "low", "high"] []) :
    FnOk P w K mg base CX0 3 f fd ["many", "thing"] spTanksL := by
  refine F.ok scLTanks (fun vs H Q E h => ?_) (fun cdv A outer s H vs Q E hr h => ?_)
  · obtain ⟨x, d, m, rfl, _⟩ := h
    rfl
  · obtain ⟨x, d, m, rfl, hx, hlen, k⟩ := h
    have hu : (A.deeper (envOfC "_law_are_tanks" (defScope lAreTanks) s.heap.objs.size f cdv)).units < cLine := by have := hr.un; omega
    refine ⟨_, pss_cons (ps_if (pw_or (pt_not (pt_val (pe_callB call_isi (by rfl) T.isinstance (by decide +kernel) (pa_cons (pv 1) (pa_cons (pe_bltn (v := .ty "tuple") (by rfl) T.tuple (by decide +kernel) rfl) pa_nil)))))
        (pw_or (pt_cmpR (op_eq0 hu) (pv 1) (pe_tup pa_nil) (nomark _))
          (pw_or1 (pt_not (pt_val (pe_callB (cr_all rfl) (by rfl) T.all (by decide +kernel) (pa_cons (pe_lc (own := [("each", 2)]) (g := gName 2) (tt := tYes) rfl scLTanks.nd (pi_tup (pv 1)) (blkOk_by (N := ["many", "thing", "each", "at"]) (sc := defScope lAreTanks) (by decide +kernel))
            (fun _ _ _ _ _ => pg_name (i := 2) scLTanks.nd rfl (Or.inl rfl)) (fun _ _ _ _ _ => pts_nil) (fun _ _ _ _ _ => pe_call FI hr (by rfl) mI kI bI .nil pass0 (pa_cons (pv 2) (pa_cons pe_int (pa_cons (pe_op op_sub (pv 0) pe_int) pa_nil))))) pa_nil))))))).pt (pss_one (ps_ret pe_bl)) pss_nil)
      (pss_one (ps_ret (pe_callB (cr_all rfl) (by rfl) T.all (by decide +kernel) (pa_cons (pe_lc (own := [("at", 3)]) (g := gName 3) (tt := tYes) rfl scLTanks.nd (pi_range1 rfl T.range (pa_cons (pe_op op_sub (pe_callB call_len_seq (by rfl) T.len PySem.boot_len (pa_cons (pv 1) pa_nil)) pe_int) pa_nil))
        (blkOk_by (N := ["many", "thing", "each", "at"]) (sc := defScope lAreTanks) (by decide +kernel)) (fun _ _ _ _ _ => pg_name (i := 3) scLTanks.nd rfl (Or.inl rfl)) (fun _ _ _ _ _ => pts_nil)
        (fun _ _ _ _ _ => pe_cmpR op_lt (pe_ix (r := rIx K) (by exact ix_seq) (pv 1) (pv 3) (fun _ _ => rfl)) (pe_ix (r := rIx K) (by exact ix_seq) (pv 1) (pe_op op_add (pv 3) pe_int) (fun _ _ => rfl)) (nomark _))) pa_nil)))), ?_⟩
    simp only [← areT_same] at k
    by_cases ct : tyN d = "tuple"
    rotate_left
    · have z1 : isin (tyN d) "tuple" = false := by rw [isin_tup]; exact decide_eq_false ct
      refine g_guard (b := (!isin (tyN d) "tuple" || false)) (tg_or (tg_of (ti_not (ti_val (vi_isi (vi_var rfl) hx (by simp))))) fun z => by rw [z1] at z; cases z) (fun _ H' s => ?_) (fun z => by rw [z1] at z; cases z)
      have e : areTL m d = false := by unfold areTL; rw [decide_eq_false ct]; rfl
      have := k H' s
      rw [e] at this
      exact this
    obtain ⟨a, xs, ds, rfl, rfl, e, ha⟩ := tupOf hx ct
    have hl := all2 ha
    have hd2 : ds.length ≤ 2000 := hlen
    have e8 : areTL m (.tuple ds) = (!decide (ds.length = 0) && (ds.all (fun e => isW e 0 (m - 1)) && ascB ds)) := by
      unfold areTL
      rw [show decide (tyN (.tuple ds) = "tuple") = true from decide_eq_true rfl, Bool.true_and]
      rfl
    rw [e8] at k
    refine g_guard (b := (!isin (tyN (.tuple ds)) "tuple" || (decide (xs.length = 0) || !(ds.all (fun e => isW e 0 (m - 1)))))) (tg_or (tg_of (ti_not (ti_val (vi_isi (vi_var rfl) hx (by simp))))) fun _ H1 s1 => tg_or (tg_test (vg_eq0 (vi_var rfl) (s1 _ _ e))) fun _ H2 s2 =>
      tg_not (tg_val (vg_all (pd := fun e => isW e 0 (m - 1)) (vi_var rfl) (s2 _ _ (s1 _ _ e)) (ThAll.mono (Sm.same (s1.trans s2)) ha) hd2 (fun x => rfl) fun H3 x d s3 hd => vg_of (vi_call (ai_cons (vi_var rfl) (ai_cons vi_c (ai_cons (vi_op (vi_var rfl) vi_c fun Q q => ⟨_, _, rfl, rfl, q⟩) ai_nil))) fun Q q => spWithin_at hd q)))) (fun z H1 s1 => ?_) (fun z H1 s1 => ?_)
    · have z1 : isin (tyN (.tuple ds)) "tuple" = true := by rw [isin_tup]; rfl
      rw [z1, Bool.not_true, Bool.false_or, hl] at z
      have e7 : (!decide (ds.length = 0) && (ds.all (fun e => isW e 0 (m - 1)) && ascB ds)) = false := by
        rw [Bool.or_eq_true] at z
        rcases z with z | z
        · rw [z]; rfl
        · rw [Bool.not_eq_true'] at z
          rw [z]; simp
      have := k H1 s1
      rw [e7] at this
      exact this
    have z1 : isin (tyN (.tuple ds)) "tuple" = true := by rw [isin_tup]; rfl
    rw [z1, Bool.not_true, Bool.false_or, hl, Bool.or_eq_false_iff, Bool.not_eq_false'] at z
    obtain ⟨z2, hall⟩ := z
    rw [z2, hall, Bool.not_false, Bool.true_and, Bool.true_and] at k
    have n1 : 0 < xs.length := by
      have := of_decide_eq_false z2
      omega
    have isI : ∀ {i : Nat} {x : V}, xs[i]? = some x → ∃ j, x = .int j ∧ ds.getD i .none = .int j := fun {i x} hxi => by
      obtain ⟨d, hdi, hth⟩ := all_get ha hxi
      obtain ⟨j, rfl, rfl⟩ := isW_int hth (List.all_eq_true.mp hall d (List.mem_of_getElem? hdi))
      exact ⟨j, rfl, by rw [List.getD_eq_getElem?_getD, hdi]; rfl⟩
    have e2 := s1 _ _ e
    have hln : xs.length ≤ 2000 := by omega
    refine ⟨_, rfl, _, _, rfl, .inr (SqT.of e2), _, _, rfl, rfl, _, rfl, ?_, ?_, fun D hD => ?_⟩
    · omega
    · omega
    have hN : ((xs.length : Int) - 1).toNat = xs.length - 1 := by omega
    rw [hN]
    refine lc_range (lo := 0) (n := xs.length - 1) (fun n H' => Same H1 H' ∧ H' D = some (.lst ((List.range n).map fun i => V.bl (ltI (ds.getD i .none) (ds.getD (i + 1) .none))))) ⟨same_upd hD, upd_same⟩ ?_ ?_
    · rintro i H' hi ⟨s7, hD'⟩
      refine ⟨rfl, ?_⟩
      dsimp only [tYes]
      rw [if_pos rfl, Int.zero_add]
      obtain ⟨i1, e3, g1⟩ := isI (List.getElem?_eq_getElem (show i < xs.length by omega))
      obtain ⟨j1, e4, g2⟩ := isI (List.getElem?_eq_getElem (show i + 1 < xs.length by omega))
      have a1 : atI xs (i : Int) = some (.int i1) := by rw [← e3]; exact atI_nat (List.getElem?_eq_getElem (show i < xs.length by omega))
      have a2 : atI xs ((i : Int) + 1) = some (.int j1) := by
        rw [← e4]
        have := atI_nat (List.getElem?_eq_getElem (show i + 1 < xs.length by omega))
        rw [Int.natCast_add] at this
        exact this
      have e5 := s7 _ _ e2
      refine ⟨_, rfl, _, rfl, .inr (.inl ⟨a, _, _, _, rfl, rfl, SqT.of e5, a1, ?_⟩)⟩
      refine ⟨_, rfl, _, rfl, _, _, rfl, rfl, .inr (.inl ⟨a, _, _, _, rfl, rfl, SqT.of e5, a2, ?_⟩)⟩
      refine ⟨_, _, rfl, rfl, _, hD', ?_, fun b o eb => ?_, ?_⟩
      · rw [List.length_map, List.length_range]
        exact Nat.lt_of_le_of_lt (show i ≤ 2000 by omega) (by decide)
      · have nb : b ≠ D := fun z => by
          rw [z, hD] at eb
          cases eb
        rw [upd_ne nb]
        exact s7 _ _ eb
      · rw [upd_same, List.range_succ, List.map_append, List.map_cons, List.map_nil, g1, g2]
        rfl
    · rintro H' ⟨s7, hD'⟩
      refine ⟨D, (List.range (xs.length - 1)).map fun i => ltI (ds.getD i .none) (ds.getD (i + 1) .none), rfl, SqL.of ?_, ?_⟩
      · rw [hD', List.map_map]
        rfl
      · have e3 : ((List.range (xs.length - 1)).map fun i => ltI (ds.getD i .none) (ds.getD (i + 1) .none)).all id = ascB ds := by
          rw [List.all_map, hl]
          rfl
        rw [e3]
        exact k _ (s1.trans s7)
end
end KP

set_option Elab.async false
set_option linter.all false
set_option maxRecDepth 100000
set_option maxHeartbeats 1000000
/-! ### the law's own look at nets -/
namespace KP
open PySem PySem.Spec PyProof.Rows L2 KX KT
def spNetL : Sp := fun vs H Q _ => ∃ x d, vs = [x] ∧ Th H x d ∧ lenT (ith 3 d) ≤ 2000 ∧ lenT (ith 4 d) ≤ 2000 ∧ ∀ H', Same H H' → Q (.bl (isNet d)) H'
theorem any_not {l : List Nat} {p : Nat → Bool} : l.any p = !(l.all fun i => !p i) := by
  induction l with
  | nil => rfl
  | cons a l ih => rw [List.any_cons, List.all_cons, ih, Bool.not_and, Bool.not_not]
section
variable {P : Program} {w : World} {K : PySem.W.Frag} {mg : Str → Option Value} {base : Heap}
abbrev nNet : List Str := ["thing", "many", "unknowns", "pipes", "filled", "seen", "pipe", "at"]
theorem scLNet : FnScope nNet ["thing"] (defScope lIsNet) := ⟨rfl, rfl, rfl, by decide +kernel, rfl, by decide +kernel, by decide +kernel⟩
theorem ok_lnet {f fI fP fT : Addr} {fd fdI fdP fdT : FuncData} (F : Fun K "_law_is_net" "_law_is_net" lIsNet f fd) (T : TxL mg)
    (FI : FnOk P w K mg base CX0 2 fI fdI ["thing", "low", "high"] spWithin) (mI : mg "_law_is_whole" = some (.ref fI)) (kI : PySem.W.keepIn K (.ref fI) = true) (bI : Binds K fdI ["thing", "low", "high"] [])
    (FP : FnOk P w K mg base CX0 4 fP fdP ["many", "unknowns", "thing"] spPipeL) (mP : mg "_law_is_pipe" = some (.ref fP)) (kP : PySem.W.keepIn K (.ref fP) = true) (bP : Binds K fdP ["many", "unknowns", "thing"] [])
    (FT : FnOk P w K mg base CX0 3 fT fdT ["many", "thing"] spTanksL) (mT : mg "_law_are_tanks" = some (.ref fT)) (kT : PySem.W.keepIn K (.ref fT) = true) (bT : Binds K fdT ["many", "thing"] []) :
    FnOk P w K mg base CX0 5 f fd ["thing"] spNetL := by
  refine F.ok scLNet (fun vs H Q E h => ?_) (fun cdv A outer s H vs Q E hr h => ?_)
  · obtain ⟨x, d, rfl, _⟩ := h
    rfl
  · obtain ⟨x, d, rfl, hx, hl3, hl4, k⟩ := h
    have hr2 : Room 2 _ := hr.mono (by decide)
    have hr3 : Room 3 _ := hr.mono (by decide)
    have hu : (A.deeper (envOfC "_law_is_net" (defScope lIsNet) s.heap.objs.size f cdv)).units + 65 < cLine := by have := hr.un; omega
    refine ⟨_, pss_cons (ps_if (pw_or (pt_not (pt_val (pe_callB call_isi (by rfl) T.isinstance (by decide +kernel) (pa_cons (pv 0) (pa_cons (pe_bltn (v := .ty "tuple") (by rfl) T.tuple (by decide +kernel) rfl) pa_nil)))))
        (pw_or1 (pt_cmpR op_ne (pe_callB call_len_seq (by rfl) T.len PySem.boot_len (pa_cons (pv 0) pa_nil)) pe_int (nomark _)))).pt (pss_one (ps_ret pe_bl)) pss_nil)
      (pss_cons (ps_asg (pv 0) (pg_tup rfl (pgs_cons (pg_name (i := 1) scLNet.nd rfl (by first | exact Or.inl rfl | exact Or.inr rfl)) (pgs_cons (pg_name (i := 2) scLNet.nd rfl (by first | exact Or.inl rfl | exact Or.inr rfl)) (pgs_cons (pg_name (i := 3) scLNet.nd rfl (by first | exact Or.inl rfl | exact Or.inr rfl)) (pgs_cons (pg_name (i := 4) scLNet.nd rfl (Or.inl rfl)) (pgs_cons (pg_name (i := 5) scLNet.nd rfl (Or.inl rfl)) pgs_nil)))))))
      (pss_cons (ps_if (pw_or (pt_not (pt_val (pe_call FI hr2 (by rfl) mI kI bI .nil pass0 (pa_cons (pv 1) (pa_cons pe_int (pa_cons pe_int pa_nil))))))
          (pw_or (pt_not (pt_val (pe_call FI hr2 (by rfl) mI kI bI .nil pass0 (pa_cons (pv 2) (pa_cons pe_int (pa_cons pe_int pa_nil)))))) (pw_or1 (pt_cmpR op_gt (pe_op op_add (pv 1) (pv 2)) pe_int (nomark _))))).pt (pss_one (ps_ret pe_bl)) pss_nil)
      (pss_cons (ps_if (pw_or (pt_not (pt_val (pe_callB call_isi (by rfl) T.isinstance (by decide +kernel) (pa_cons (pv 3) (pa_cons (pe_bltn (v := .ty "tuple") (by rfl) T.tuple (by decide +kernel) rfl) pa_nil)))))
          (pw_or1 (pt_cmpR op_gt (pe_callB call_len_seq (by rfl) T.len PySem.boot_len (pa_cons (pv 3) pa_nil)) pe_int (nomark _)))).pt (pss_one (ps_ret pe_bl)) pss_nil)
      (pss_cons (ps_if (pt_not (pt_val (pe_callB (cr_all rfl) (by rfl) T.all (by decide +kernel) (pa_cons (pe_lc (own := [("pipe", 6)]) (g := gName 6) (tt := tYes) rfl scLNet.nd (pi_tup (pv 3)) (blkOk_by (N := nNet) (sc := defScope lIsNet) (by decide +kernel))
          (fun _ _ _ _ _ => pg_name (i := 6) scLNet.nd rfl (Or.inl rfl)) (fun _ _ _ _ _ => pts_nil) (fun _ _ _ _ _ => pe_call FP hr (by rfl) mP kP bP .nil pass0 (pa_cons (pv 1) (pa_cons (pv 2) (pa_cons (pv 6) pa_nil))))) pa_nil)))) (pss_one (ps_ret pe_bl)) pss_nil)
      (pss_cons (ps_if (pt_val (pe_callB (cr_any rfl) (by rfl) T.any (by decide +kernel) (pa_cons (pe_lc (own := [("at", 7), ("pipe", 6)]) (g := gTup K 2 (gCons (gName 7) (gCons (gName 6) gNil))) (tt := tYes) rfl scLNet.nd (pi_enumT (by rfl) T.enumerate (pa_cons (pv 3) pa_nil)) (blkOk_by (N := nNet) (sc := defScope lIsNet) (by decide +kernel))
          (fun _ _ _ _ _ => by exact pg_tup rfl (pgs_cons (pg_name (i := 7) scLNet.nd rfl (Or.inl rfl)) (pgs_cons (pg_name (i := 6) scLNet.nd rfl (Or.inl rfl)) pgs_nil))) (fun _ _ _ _ _ => pts_nil)
          (fun _ _ _ _ _ => pe_cmpR (r := rInT K) (by exact op_inT hu) (pv 6) (pe_slice (r := rSlT K) (by exact sl_tup) (pv 3) po_none (po_some (pv 7))) (by rfl))) pa_nil))) (pss_one (ps_ret pe_bl)) pss_nil)
      (pss_one (ps_ret (pe_and (pe_call FT hr3 rfl mT kT bT .nil pass0 (pa_cons (pv 1) (pa_cons (pv 4) pa_nil))) (pe_one (pe_call FT hr3 rfl mT kT bT .nil pass0 (pa_cons (pv 1) (pa_cons (pv 5) pa_nil)))))))))))), ?_⟩
    have q0 := k H (Same.refl H)
    refine i_guard (ti_shapeL rfl (vi_var rfl) hx) (fun z => ?_) (fun z => ?_)
    · have z : shp 5 d = false := by simpa using z
      have e : isNet d = false := by simp [isNet, z]
      rw [e] at q0
      exact q0
    have z0 : shp 5 d = true := by simpa using z
    obtain ⟨a, xs, ds, rfl, rfl, e, ha, l2⟩ := shp_of hx z
    obtain ⟨d1, d2, d3, d4, d5, rfl⟩ := len5 l2
    have hl3 : lenT d4 ≤ 2000 := hl3
    have hl4 : lenT d5 ≤ 2000 := hl4
    cases ha with
    | cons h1 hr1 => cases hr1 with
      | cons h2 hr2' => cases hr2' with
        | cons h3 hr3' => cases hr3' with
          | cons h4 hr4' => cases hr4' with
            | cons h5 hr5 =>
              cases hr5
              refine ⟨_, rfl, a, _, rfl, SqT.of e, rfl, _, _, rfl, _, _, rfl, _, _, rfl, _, _, rfl, _, _, rfl, rfl, ?_⟩
              have e8 : isNet (.tuple [d1, d2, d3, d4, d5]) = (!(!isW d1 1 4 || !isW d2 0 4) && netAt d1 d2 d3 d4 d5) := by
                unfold isNet
                rw [z0, Bool.true_and]
                rfl
              rw [e8] at k q0
              dsimp only
              refine i_guard (D := { nx := _, rt := Q }) (b := (!isW d1 1 4 || (!isW d2 0 4 || (match d1, d2 with | .int m, .int u => decide (7 < m + u) | _, _ => false)))) (ti_or (ti_not (ti_val (vi_call (ai_cons (vi_var rfl) (ai_cons vi_c (ai_cons vi_c ai_nil))) fun Q q => spWithin_at h1 q)))
                fun c1 => ti_or (ti_not (ti_val (vi_call (ai_cons (vi_var rfl) (ai_cons vi_c (ai_cons vi_c ai_nil))) fun Q q => spWithin_at h2 q))) fun c2 => ti_test ?_) (fun z => ?_) (fun z => ?_)
              · obtain ⟨m, rfl, rfl⟩ := isW_int h1 (by simpa using c1)
                obtain ⟨u, rfl, rfl⟩ := isW_int h2 (by simpa using c2)
                exact vi_op (vi_op (vi_var rfl) (vi_var rfl) fun Q q => ⟨_, _, rfl, rfl, q⟩) vi_c fun Q q => ⟨_, _, rfl, rfl, q⟩
              · have e7 : (!(!isW d1 1 4 || !isW d2 0 4) && netAt d1 d2 d3 d4 d5) = false := by
                  cases c1 : isW d1 1 4 with
                  | false => rfl
                  | true =>
                    cases c2 : isW d2 0 4 with
                    | false => rfl
                    | true =>
                      obtain ⟨m, rfl⟩ := isW_data c1
                      obtain ⟨u, rfl⟩ := isW_data c2
                      rw [c1, c2] at z
                      have z : decide (7 < m + u) = true := z
                      simp [netAt, z]
                rw [e7] at q0
                exact q0
              rw [Bool.or_eq_false_iff, Bool.or_eq_false_iff, Bool.not_eq_false', Bool.not_eq_false'] at z
              obtain ⟨w1, w2, w3⟩ := z
              obtain ⟨m, rfl, rfl⟩ := isW_int h1 w1
              obtain ⟨u, rfl, rfl⟩ := isW_int h2 w2
              have w3 : decide (7 < m + u) = false := w3
              have e9 : (!(!isW (.int m) 1 4 || !isW (.int u) 0 4) && netAt (.int m) (.int u) d3 d4 d5) = (areP m u d3 && (areT m d4 && areT m d5)) := by
                rw [w1, w2]
                show (!decide (7 < m + u) && (areP m u d3 && (areT m d4 && areT m d5))) = _
                rw [w3]
                rfl
              rw [e9] at k q0
              refine i_guard (D := { nx := _, rt := Q }) (b := (!isin (tyN d3) "tuple" || decide ((12 : Int) < (lenT d3 : Int)))) (ti_or (ti_not (ti_val (vi_isi (vi_var rfl) h3 (by simp)))) fun z => ti_test (vi_op (vi_lenT (ai_cons (vi_var rfl) ai_nil) h3 (by rw [isin_tup] at z; simpa using z)) vi_c fun Q q => ⟨_, _, rfl, rfl, q⟩)) (fun z => ?_) (fun z => ?_)
              · have e7 : areP m u d3 = false := by
                  rw [isin_tup] at z
                  unfold areP
                  rw [Bool.or_eq_true, Bool.not_eq_true'] at z
                  rcases z with z | z <;> rw [z] <;> simp
                rw [e7] at q0
                exact q0
              rw [isin_tup, Bool.or_eq_false_iff, Bool.not_eq_false'] at z
              obtain ⟨z1, z2⟩ := z
              obtain ⟨b, ys, es, rfl, rfl, e', hb⟩ := tupOf h3 (of_decide_eq_true z1)
              have ep : areP m u (.tuple es) = (es.all (isPipe m u) && distB es) := by
                unfold areP
                rw [z1, z2, Bool.true_and]
                rfl
              rw [ep] at k q0
              have z2 := of_decide_eq_false z2
              simp only [lenT] at z2
              have hly := all2 hb
              refine g_guard (D := { nx := _, rt := Q }) (b := !(es.all (isPipe m u))) (tg_not (tg_val (vg_all (pd := isPipe m u) (vi_var rfl) e' hb (by omega) (fun x => rfl) fun H2 x d s2 hd Q q => ?_))) (fun z H1 s1 => ?_) (fun z H1 s1 => ?_)
              · exact ⟨_, rfl, _, rfl, _, rfl, _, _, _, _, rfl, hd, q⟩
              · rw [Bool.not_eq_true'] at z
                have := k H1 s1
                rw [z] at this
                exact this
              rw [Bool.not_eq_false'] at z
              rw [z, Bool.true_and] at k
              have hfl : ∀ d ∈ es, Flat d := fun d hd => pipe_flat (List.all_eq_true.mp z d hd)
              refine g_guard (D := { nx := _, rt := Q }) (b := !(distB es)) (tg_val fun Q q => ?_) (fun z H2 s2 => ?_) (fun z H2 s2 => ?_)
              · refine ⟨_, rfl, b, ys, rfl, SqT.of (s1 _ _ e'), fun D hD => ?_⟩
                have e2 := s1 _ _ e'
                have hb2 := ThAll.mono (Sm.same s1) hb
                refine lc_it (walk_enumT (K := K) (a := b) (xs := ys)) (fun n H' => Same H1 H' ∧ H' D = some (.lst ((List.range n).map fun i => V.bl ((es.take i).any fun z => PyData.eqv z (es.getD i .none))))) ⟨same_upd hD, upd_same⟩
                  (fun n H' _ z => z.1 _ _ e2) ?_ ?_
                · rintro i x H' H'' hi ⟨s7, hD'⟩ ⟨U, x1, y1, rfl, hU, rfl, hx1, hy1⟩
                  cases hx1
                  obtain ⟨d, hdi, hth⟩ := all_get hb2 hy1
                  have sU := same_upd (o := .tup [V.int (i : Nat), y1]) hU
                  have s8 : Same H1 (upd H' U (.tup [V.int (i : Nat), y1])) := s7.trans sU
                  refine ⟨U, _, rfl, SqT.of upd_same, rfl, _, _, rfl, _, _, rfl, rfl, rfl, ?_⟩
                  dsimp only [tYes]
                  rw [if_pos rfl]
                  refine ⟨_, rfl, _, rfl, _, rfl, _, rfl, b, ys, rfl, SqT.of (s8 _ _ e2), fun z => ?_, fun p hp => ?_⟩
                  · have := z.2
                    rw [sIx_nat0 (Nat.le_of_lt hi)] at this
                    omega
                  rw [cut_to (Nat.le_of_lt hi)]
                  have s9 := s8.trans (same_upd (o := .tup (ys.take i)) hp)
                  have ed : es.getD i .none = d := by rw [List.getD_eq_getElem?_getD, hdi]; rfl
                  have hd : Flat d := hfl d (List.mem_of_getElem? hdi)
                  have htk : ∀ e ∈ es.take i, Flat e := fun e he => hfl e (List.mem_of_mem_take he)
                  have t1 := flat_shaped htk
                  refine ⟨d, es.take i, Th.dp (hth.mono (Sm.same s9)) hd.2.2, Th.dp (.tup upd_same ((ThAll.mono (Sm.same s9) hb2).take i)) t1.2, shaped_of hd.1 (by have := hd.2.1; omega), t1.1, ?_⟩
                  refine ⟨_, (sU.trans (same_upd hp)) _ _ hD', ?_, fun c o eb => ?_, ?_⟩
                  · rw [List.length_map, List.length_range]
                    exact Nat.lt_of_le_of_lt (show i ≤ 2000 by omega) (by decide)
                  · have nb : c ≠ D := fun z => by
                      rw [z, hD] at eb
                      cases eb
                    rw [upd_ne nb]
                    exact s9 _ _ eb
                  · rw [upd_same, List.range_succ, List.map_append, List.map_cons, List.map_nil, ed]
                · rintro H' ⟨s7, hD'⟩
                  refine ⟨D, (List.range ys.length).map fun i => ((es.take i).any fun z => PyData.eqv z (es.getD i .none)), rfl, SqL.of ?_, ?_⟩
                  · rw [hD', List.map_map]
                    rfl
                  · have e3 : ((List.range ys.length).map fun i => ((es.take i).any fun z => PyData.eqv z (es.getD i .none))).any id = !(distB es) := by
                      rw [List.any_map, hly]
                      exact any_not
                    rw [e3]
                    exact q _ s7
              · rw [Bool.not_eq_true'] at z
                have := k H2 (s1.trans s2)
                rw [z] at this
                exact this
              rw [Bool.not_eq_false'] at z
              rw [z, Bool.true_and] at k
              have sm := s1.trans s2
              refine g_ret (D := { nx := _, rt := Q }) (v := .bl (areT m d4 && areT m d5)) (vg_and (fun Q q => ?_) fun _ H3 s3 Q q => ?_) (fun H3 s3 => k H3 (sm.trans s3))
              · exact ⟨_, rfl, _, rfl, _, _, _, rfl, h4.mono (Sm.same sm), hl3, q⟩
              · exact ⟨_, rfl, _, rfl, _, _, _, rfl, h5.mono (Sm.same (sm.trans s3)), hl4, q⟩
end
end KP

set_option Elab.async false
set_option linter.all false
set_option maxRecDepth 100000
set_option maxHeartbeats 4000000
/-! ### the law's draws -/
namespace KJ
open PySem PySem.Spec PyProof.Rows L2 KX KP
abbrev sJar : Stmt := top 18
abbrev sDip : Stmt := top 19
abbrev sOne : Stmt := top 20

/-- a jar at j: a number to be parted, a mixed one, how often it was dipped (at most n) -/
def JarAt (H : Hp) (j : Addr) (n : Nat) : Prop := ∃ a b c : Int, H j = some (.lst [.int a, .int b, .int c]) ∧ 0 ≤ a ∧ 0 ≤ b ∧ b < 2147483399 ∧ 0 ≤ c ∧ c ≤ n
/-- all but j as it was -/
def But (j : Addr) (H H' : Hp) : Prop := ∀ b o, b ≠ j → H b = some o → H' b = some o
theorem But.trans {j : Addr} {H H1 H2 : Hp} (a : But j H H1) (b : But j H1 H2) : But j H H2 := fun c o n h => b c o n (a c o n h)
theorem But.same {j : Addr} {H H1 : Hp} (a : Same H H1) : But j H H1 := fun c o _ h => a c o h
def spJar (K : PySem.W.Frag) : Sp := fun vs H Q _ => ∃ (a : Addr) (ns : List Int) (t : Nat), vs = [.ref a, .int t] ∧ SqL K H a (ns.map V.int) ∧ ns.length ≤ 63 ∧ t ≤ 100 ∧ ∀ j H', H j = none → Same H H' → JarAt H' j 0 → Q (.ref j) H'
def spDip : Sp := fun vs H Q _ => ∃ (j : Addr) (top : Int) (n : Nat), vs = [.ref j, .int top] ∧ 0 < top ∧ top < 1000000 ∧ JarAt H j n ∧ n < 1000000 ∧ ∀ r H', 0 ≤ r → r < top → But j H H' → JarAt H' j (n + 1) → Q (.int r) H'
/-- one of some things: a list or a tuple -/
def spOne (K : PySem.W.Frag) : Sp := fun vs H Q _ => ∃ (j p : Addr) (xs : List V) (n : Nat), vs = [.ref j, .ref p] ∧ p ≠ j ∧ (H p = some (.lst xs) ∨ H p = some (.tup xs)) ∧ xs ≠ [] ∧ xs.length < 1000000 ∧ JarAt H j n ∧ n < 1000000 ∧
  ∀ x H', x ∈ xs → But j H H' → JarAt H' j (n + 1) → Q x H'
structure TxJ (mg : Str → Option Value) : Prop where
  int : mg "int" = none
  len : mg "len" = none
  abs : mg "abs" = none
  dvm : mg "divmod" = none
section
variable {P : Program} {w : World} {K : PySem.W.Frag} {mg : Str → Option Value} {base : Heap}
theorem scJar : FnScope ["script", "turn", "mixed", "cell", "own"] ["script", "turn"] (defScope sJar) := ⟨rfl, rfl, rfl, by decide +kernel, rfl, by decide +kernel, by decide +kernel⟩
theorem ok_jar {f : Addr} {fd : FuncData} (F : Fun K "_law_jar" "_law_jar" sJar f fd) (T : TxJ mg) : FnOk P w K mg base CX0 1 f fd ["script", "turn"] (spJar K) := by
  refine F.ok scJar (fun vs H Q E h => ?_) (fun cdv A outer s H vs Q E hr h => ?_)
  · obtain ⟨a, ns, t, rfl, _⟩ := h
    rfl
  · obtain ⟨a, ns, t, rfl, hS, hn, ht, k⟩ := h
    refine ⟨_, pss_cons (ps_set (i := 2) scJar.nd rfl (Or.inl rfl) (pe_op op_add pe_int (pe_op op_mul pe_int (pv 1))))
      (pss_cons (ps_for PassesOwn.never rfl (pi_list (pe_slice sl_list (pv 0) po_none (po_some pe_int))) (pg_name (i := 3) scJar.nd rfl (Or.inl rfl))
        (pss_one (ps_set (i := 2) scJar.nd rfl (Or.inl rfl) (pe_op op_mod (pe_callTy call_int1 (by rfl) T.int (by decide +kernel) (pa_cons
          (pe_op op_add (pe_op op_add (pe_op op_mul (pv 2) pe_int) (pe_op op_mul (pe_op op_mod (pe_callTy call_int1 (by rfl) T.int (by decide +kernel) (pa_cons (pv 3) pa_nil)) pe_int) pe_int)) pe_int) pa_nil)) pe_int))))
      (Evl.pss_cut (ps_set (i := 4) scJar.nd rfl (Or.inl rfl) (pe_ifExp (pt_cmpR op_lt (pv 1) (pe_callB call_len_seq (by rfl) T.len PySem.boot_len (pa_cons (pv 0) pa_nil)) (nomark _))
          (pe_callTy call_int1 (by rfl) T.int (by decide +kernel) (pa_cons (pe_ix ix_list (pv 0) (pv 1) (fun _ _ => rfl)) pa_nil)) pe_int))
      (pss_one (ps_ret (pe_lst (pa_cons (pe_ifExp (PW.pt (pw_or (pt_cmpR op_lt (pv 4) pe_int (nomark _)) (pw_or1 (pt_cmpR op_ge (pv 4) (pe_op op_pow pe_int pe_int) (nomark _)))))
          (pe_callB call_abs (by rfl) T.abs (by decide +kernel) (pa_cons (pv 4) pa_nil)) pe_int) (pa_cons (pv 2) (pa_cons pe_int pa_nil)))))))), ?_⟩
    refine ⟨_, rfl, _, _, rfl, rfl, .inl ⟨by decide, by decide⟩, _, _, rfl, rfl, ?_⟩
    refine ⟨_, rfl, _, rfl, a, _, rfl, hS, fun p hp => ⟨p, rfl, ⟨_, SqL.of upd_same⟩, ?_⟩⟩
    have allI : ∀ x ∈ cutV (ns.map V.int) none (some 10), ∃ i, x = V.int i := fun x hx => by
      have h1 := List.mem_of_mem_drop (List.mem_of_mem_take hx)
      obtain ⟨i, _, rfl⟩ := List.mem_map.mp h1
      exact ⟨i, rfl⟩
    refine for_list (xs := cutV (ns.map V.int) none (some 10)) (fun i σ H' => ∃ (m : Int) (v : Option V), σ = [some (.ref a), some (.int t), some (.int m), v, none] ∧ 0 ≤ m ∧ m < 2147483399 ∧ Same (upd H p (.lst (cutV (ns.map V.int) none (some 10)))) H')
      ⟨_, none, rfl, by omega, by omega, Same.refl _⟩ (fun i σ H' _ ⟨_, _, _, _, _, z⟩ => SqL.of (z _ _ upd_same)) ?_ ?_
    · rintro i x σ H' hi ⟨m, v, rfl, m0, m1, sm⟩
      obtain ⟨c, rfl⟩ := allI x (List.mem_of_getElem? hi)
      have hc0 := Int.emod_nonneg c (show (2147483399 : Int) ≠ 0 by decide)
      have hc1 := Int.emod_lt_of_pos c (show (0 : Int) < 2147483399 by decide)
      refine ⟨_, rfl, _, _, rfl, rfl, .inl ⟨by omega, by omega⟩, _, rfl, .inl ⟨_, rfl, _, _, rfl, rfl, (by decide : (0 : Int) < 2147483399), _, _, rfl, rfl, .inl ⟨by omega, by omega⟩, _, _, rfl, rfl, _, _, rfl, rfl, .inl ⟨_, rfl, _, _, rfl, rfl, (by decide : (0 : Int) < 2147483399), ?_⟩⟩⟩
      exact ⟨_, _, rfl, Int.emod_nonneg _ (by decide), Int.emod_lt_of_pos _ (by decide), sm⟩
    · rintro σ H' ⟨m, v, rfl, m0, m1, sm⟩
      have sm0 : Same H H' := fun b o e => sm b o (by rw [upd_ne (ne_of_none e hp)]; exact e)
      refine ⟨fun σ' H2 => ∃ own : Int, σ' = [some (.ref a), some (.int t), some (.int m), v, some (.int own)] ∧ Same H H2, ?_, ?_⟩
      · refine ⟨_, rfl, _, rfl, a, _, rfl, .inl (sm0.seq hS), _, _, rfl, rfl, _, rfl, ?_⟩
        refine ite2 (fun c => ?_) (fun c => ⟨_, rfl, sm0⟩)
        have c' := of_decide_eq_true c
        rw [List.length_map] at c'
        have ht' : t < ns.length := by omega
        exact ⟨_, rfl, _, rfl, a, _, _, .int ns[t], rfl, rfl, sm0.seq hS, atI_nat (by rw [List.getElem?_map, List.getElem?_eq_getElem ht']; rfl), .inl ⟨_, rfl, _, rfl, sm0⟩⟩
      · rintro σ' H2 ⟨own, rfl, sm2⟩
        have fin : ∀ x : Int, 0 ≤ x → ∀ j, H2 j = none → Q (.ref j) (upd H2 j (.lst [.int x, .int m, .int 0])) := fun x hx j hj =>
          k j _ (sm2.free hj) (fun b o e => by rw [upd_ne (ne_of_none (sm2 b o e) hj)]; exact sm2 b o e) ⟨x, m, 0, upd_same, hx, m0, m1, by decide, by decide⟩
        have l3 : ([V.int 0, .int 0, .int 0] : List V).length ≤ sizeLine := by decide
        refine ⟨_, rfl, _, _, rfl, rfl, _, rfl, ?_⟩
        refine ite2 (fun c => iteT ⟨_, rfl, _, rfl, _, rfl, l3, fin _ ?_⟩) (fun c => ⟨_, rfl, _, _, rfl, rfl, ⟨by decide, by decide, by decide⟩, _, _, rfl, rfl, _, rfl, ?_⟩)
        · split <;> omega
        · refine ite2 (fun c => ⟨_, rfl, _, rfl, _, rfl, l3, fin _ ?_⟩) (fun c => ⟨_, rfl, l3, fin _ (by decide)⟩)
          split <;> omega
theorem scDip : FnScope ["jar", "top", "figure", "stirred"] ["jar", "top"] (defScope sDip) := ⟨rfl, rfl, rfl, by decide +kernel, rfl, by decide +kernel, by decide +kernel⟩
theorem ok_dip {f : Addr} {fd : FuncData} (F : Fun K "_law_dip" "_law_dip" sDip f fd) (T : TxJ mg) : FnOk P w K mg base CX0 1 f fd ["jar", "top"] spDip := by
  refine F.ok scDip (fun vs H Q E h => ?_) (fun cdv A outer s H vs Q E hr h => ?_)
  · obtain ⟨j, t, n, rfl, _⟩ := h
    rfl
  · obtain ⟨j, t, n, rfl, t0, t1, ⟨a, b, c, hj, a0, b0, b1, c0, c1⟩, hn, k⟩ := h
    refine ⟨_, pss_cons (ps_if (pt_cmpR op_gt (pe_ix ix_list (pv 0) pe_int (fun _ _ => rfl)) pe_int (nomark _))
        (pss_cons (ps_asg (pe_callB call_divmodW (by rfl) T.dvm (by decide +kernel) (pa_cons (pe_ix ix_list (pv 0) pe_int (fun _ _ => rfl)) (pa_cons (pv 1) pa_nil)))
            (pg_tup rfl (pgs_cons (pg_sub (pv 0) pe_int set_list) (pgs_cons (pg_name (i := 2) scDip.nd rfl (Or.inl rfl)) pgs_nil))))
          (pss_one (ps_ret (pv 2)))) pss_nil)
      (pss_cons (ps_asg (pe_op op_add (pe_ix ix_list (pv 0) pe_int (fun _ _ => rfl)) pe_int) (pg_sub (pv 0) pe_int set_list))
      (pss_cons (ps_set (i := 3) scDip.nd rfl (Or.inl rfl) (pe_op op_mod (pe_callTy call_int1 (by rfl) T.int (by decide +kernel) (pa_cons
          (pe_op op_add (pe_ix ix_list (pv 0) pe_int (fun _ _ => rfl)) (pe_op op_mul pe_int (pe_ix ix_list (pv 0) pe_int (fun _ _ => rfl)))) pa_nil)) pe_int))
      (pss_cons (ps_asg (pe_op op_mod (pe_callTy call_int1 (by rfl) T.int (by decide +kernel) (pa_cons
          (pe_op op_add (pe_op op_mul (pv 3) (pe_op op_add (pe_op op_mod (pe_callTy call_int1 (by rfl) T.int (by decide +kernel) (pa_cons (pv 3) pa_nil)) pe_int) pe_int))
            (pe_op op_mul pe_int (pe_ix ix_list (pv 0) pe_int (fun _ _ => rfl)))) pa_nil)) pe_int) (pg_sub (pv 0) pe_int set_list))
      (pss_one (ps_ret (pe_op op_mod (pe_callTy call_int1 (by rfl) T.int (by decide +kernel) (pa_cons (pe_op op_fdiv (pe_ix ix_list (pv 0) pe_int (fun _ _ => rfl)) pe_int) pa_nil)) (pv 1))))))), ?_⟩
    have at0 : ∀ x y z : Int, atI [V.int x, .int y, .int z] 0 = some (.int x) := fun _ _ _ => rfl
    have at1 : ∀ x y z : Int, atI [V.int x, .int y, .int z] 1 = some (.int y) := fun _ _ _ => rfl
    have at2 : ∀ x y z : Int, atI [V.int x, .int y, .int z] 2 = some (.int z) := fun _ _ _ => rfl
    refine ⟨_, rfl, _, _, _, _, rfl, rfl, SqL.of hj, at0 _ _ _, _, _, rfl, rfl, _, rfl, ?_⟩
    refine ite2 (fun ca => ?_) (fun ca => ?_)
    · have ha := of_decide_eq_true ca
      refine ⟨_, rfl, _, _, _, _, rfl, rfl, SqL.of hj, at0 _ _ _, _, rfl, _, _, rfl, ⟨t0, PyProof.noPylong_of_log2 ?_⟩, fun p hp => ?_⟩
      · refine PySem.Flt.log2_lt_of (by decide) (Nat.lt_of_lt_of_le (show t.natAbs < 1000000 by omega) ?_)
        exact Nat.le_trans (by decide : 1000000 ≤ 2 ^ 20) (Nat.pow_le_pow_right (by decide) (by decide))
      · have npj : j ≠ p := ne_of_none hj hp
        refine ⟨p, _, rfl, SqT.of upd_same, rfl, _, _, rfl, ⟨_, rfl, j, _, 0, 0, rfl, rfl, Eq.trans (upd_ne npj) hj, rfl, ?_⟩⟩
        refine ⟨_, _, rfl, rfl, _, rfl, k _ _ (Int.emod_nonneg _ (by omega)) (Int.emod_lt_of_pos _ t0) (fun x o nx e => ?_) ⟨a / t, b, c, upd_same, Int.ediv_nonneg a0 (by omega), b0, b1, c0, by omega⟩⟩
        rw [upd_ne nx, upd_ne (ne_of_none e hp)]
        exact e
    · have c2 : (28657 : Int) * (c + 1) = (c + 1) * 28657 := Int.mul_comm _ _
      refine ⟨_, rfl, _, _, _, _, rfl, rfl, SqL.of hj, at2 _ _ _, _, _, rfl, rfl, _, rfl, j, _, 2, 2, rfl, rfl, hj, rfl, ?_⟩
      have h1 : (upd H j (.lst ([V.int a, .int b, .int c].set 2 (.int (c + 1))))) j = some (.lst [.int a, .int b, .int (c + 1)]) := upd_same
      refine ⟨_, rfl, _, _, _, _, rfl, rfl, SqL.of h1, at1 _ _ _, _, rfl, _, _, _, _, rfl, rfl, SqL.of h1, at2 _ _ _, _, _, rfl, rfl, .inl ⟨by decide, by decide⟩, _, _, rfl, rfl, .inl ⟨_, rfl, _, _, rfl, rfl, (by decide : (0 : Int) < 2147483399), ?_⟩⟩
      have s0 := Int.emod_nonneg (b + 28657 * (c + 1)) (show (2147483399 : Int) ≠ 0 by decide)
      have s1 := Int.emod_lt_of_pos (b + 28657 * (c + 1)) (show (0 : Int) < 2147483399 by decide)
      refine ⟨_, rfl, _, rfl, .inl ⟨_, rfl, _, _, rfl, rfl, (by decide : (0 : Int) < 5003), _, _, rfl, rfl, _, _, rfl, rfl, .inl ⟨by omega, by omega⟩, _, rfl, _, _, _, _, rfl, rfl, SqL.of h1, at2 _ _ _, _, _, rfl, rfl, .inl ⟨by decide, by decide⟩, _, _, rfl, rfl,
        .inl ⟨_, rfl, _, _, rfl, rfl, (by decide : (0 : Int) < 2147483399), _, rfl, j, _, 1, 1, rfl, rfl, h1, rfl, ?_⟩⟩⟩
      refine ⟨_, rfl, _, _, _, _, rfl, rfl, SqL.of upd_same, at1 _ _ _, _, _, rfl, rfl, ⟨by decide, by decide⟩, .inl ⟨_, rfl, _, rfl, _, _, rfl, rfl, t0, ?_⟩⟩
      refine k _ _ (Int.emod_nonneg _ (by omega)) (Int.emod_lt_of_pos _ t0) (fun x o nx e => ?_) ⟨a, _, c + 1, upd_same, a0, Int.emod_nonneg _ (by decide), Int.emod_lt_of_pos _ (by decide), by omega, by omega⟩
      rw [upd_ne nx, upd_ne nx]
      exact e
theorem scOne : FnScope ["jar", "some"] ["jar", "some"] (defScope sOne) := ⟨rfl, rfl, rfl, by decide +kernel, rfl, by decide +kernel, by decide +kernel⟩
theorem ok_one {f fD : Addr} {fd fdD : FuncData} (F : Fun K "_law_one_of" "_law_one_of" sOne f fd) (T : TxJ mg) (FD : FnOk P w K mg base CX0 1 fD fdD ["jar", "top"] spDip) (mD : mg "_law_dip" = some (.ref fD)) (kD : PySem.W.keepIn K (.ref fD) = true) (bD : Binds K fdD ["jar", "top"] []) :
    FnOk P w K mg base CX0 2 f fd ["jar", "some"] (spOne K) := by
  refine F.ok scOne (fun vs H Q E h => ?_) (fun cdv A outer s H vs Q E hr h => ?_)
  · obtain ⟨j, p, xs, n, rfl, _⟩ := h
    rfl
  · obtain ⟨j, p, xs, n, rfl, npj, hp, hx, hl, hj, hn, k⟩ := h
    have sq : SqL K H p xs ∨ SqT K H p xs := hp.elim (fun z => .inl (SqL.of z)) (fun z => .inr (SqT.of z))
    refine ⟨_, pss_one (ps_ret (pe_ix ix_seq (pv 1) (pe_call FD hr rfl mD kD bD .nil pass0 (pa_cons (pv 0) (pa_cons (pe_callB call_len_seq (by rfl) T.len PySem.boot_len (pa_cons (pv 1) pa_nil)) pa_nil))) (fun _ _ => rfl))), ?_⟩
    refine ⟨_, rfl, _, rfl, _, rfl, p, xs, rfl, sq, j, _, n, rfl, ?_, ?_, hj, hn, fun r H' r0 r1 bt hj' => ?_⟩
    · have := List.length_pos_iff.mpr hx
      omega
    · omega
    · obtain ⟨i, rfl⟩ := Int.eq_ofNat_of_zero_le r0
      have hi : i < xs.length := by omega
      have ha : atI xs ((i : Nat) : Int) = some xs[i] := atI_nat (List.getElem?_eq_getElem hi)
      have kk := k xs[i] H' (List.getElem_mem hi) bt hj'
      rcases hp with z | z
      · exact .inl ⟨p, _, _, _, rfl, rfl, SqL.of (bt _ _ npj z), ha, kk⟩
      · exact .inr (.inl ⟨p, _, _, _, rfl, rfl, SqT.of (bt _ _ npj z), ha, kk⟩)
end
end KJ

set_option Elab.async false
set_option linter.all false
set_option maxRecDepth 100000
set_option maxHeartbeats 1000000
/-! ### written data, beside a jar; drawn told fractions -/
namespace KP
open PySem PySem.Spec PyProof.Rows L2 KX KT KJ
/-- the heap without the jar -/
def hid (j : Addr) (H : Hp) : Hp := fun b => if b = j then none else H b
theorem hid_ne {j b : Addr} {H : Hp} (h : b ≠ j) : hid j H b = H b := if_neg h
theorem hid_same (j : Addr) (H : Hp) : Same (hid j H) H := fun b o e => by
  by_cases c : b = j
  · rw [c] at e
    have : hid j H j = none := if_pos rfl
    rw [this] at e
    cases e
  · rw [hid_ne c] at e
    exact e
theorem hid_but {j : Addr} {H H' : Hp} (h : KJ.But j H H') : Same (hid j H) (hid j H') := fun b o e => by
  by_cases c : b = j
  · rw [c] at e
    have : hid j H j = none := if_pos rfl
    rw [this] at e
    cases e
  · rw [hid_ne c] at e ⊢
    exact h b o c e
theorem Thj.but {j : Addr} {H H' : Hp} {v : V} {d : PyData} (h : Th (hid j H) v d) (b : KJ.But j H H') : Th (hid j H') v d := h.mono (Sm.same (hid_but b))
theorem Thj.same {j : Addr} {H H' : Hp} {v : V} {d : PyData} (h : Th (hid j H) v d) (b : Same H H') : Th (hid j H') v d := Thj.but h (KJ.But.same b)
theorem ThAllj.same {j : Addr} {H H' : Hp} {v : List V} {d : List PyData} (h : ThAll (hid j H) v d) (b : Same H H') : ThAll (hid j H') v d := ThAll.mono (Sm.same (hid_but (KJ.But.same b))) h
theorem Thj.th {j : Addr} {H : Hp} {v : V} {d : PyData} (h : Th (hid j H) v d) : Th H v d := h.mono (Sm.same (hid_same j H))
/-- a written datum -/
def Lit (j : Addr) (t : TE) (σ : L2.St) (d : PyData) : Prop := ∀ H Q, H j ≠ none → (∀ v H', Same H H' → Th (hid j H') v d → Q v H') → t σ H Q
def LitA (j : Addr) (t : TA) (σ : L2.St) (ds : List PyData) : Prop := ∀ (H : Hp) (Q : List V → Hp → Prop), H j ≠ none → (∀ vs H', Same H H' → ThAll (hid j H') vs ds → Q vs H') → t σ H Q
section
variable {j : Addr} {σ : L2.St}
theorem same_ne {H H' : Hp} (h : Same H H') (e : H j ≠ none) : H' j ≠ none := by
  cases c : H j with
  | none => exact absurd c e
  | some o =>
    rw [h j o c]
    simp
theorem lit_int {i : Int} : Lit j (tC (.int i)) σ (.int i) := fun H Q _ q => q _ _ (Same.refl H) (.int i)
theorem lit_str {x : Str} : Lit j (tC (.str x)) σ (.str x) := fun H Q _ q => q _ _ (Same.refl H) (.str x)
theorem lit_bl {b : Bool} : Lit j (tC (.bl b)) σ (.bool b) := fun H Q _ q => q _ _ (Same.refl H) (.bl b)
theorem lit_non : Lit j (tC .non) σ .none := fun H Q _ q => q _ _ (Same.refl H) .non
theorem lit_neg {i : Int} : Lit j (tUn (rU fun i => .int (-i)) (tC (.int i))) σ (.int (-i)) := fun H Q _ q => ⟨i, rfl, q _ _ (Same.refl H) (.int (-i))⟩
theorem litA_nil : LitA j tNil σ [] := fun H Q _ q => q _ _ (Same.refl H) .nil
theorem litA_cons {te : TE} {ta : TA} {d : PyData} {ds : List PyData} (h : Lit j te σ d) (h2 : LitA j ta σ ds) : LitA j (tCons te ta) σ (d :: ds) := fun H Q n q =>
  h H _ n fun v H1 s1 t1 => h2 H1 _ (same_ne s1 n) fun vs H2 s2 t2 => q _ _ (s1.trans s2) (.cons (Thj.same t1 s2) t2)
theorem new_ne {H : Hp} {p : Addr} (hp : H p = none) (n : H j ≠ none) : p ≠ j := fun z => n (by rw [← z]; exact hp)
theorem lit_tup {ta : TA} {ds : List PyData} (h : LitA j ta σ ds) (hl : ds.length ≤ 1000) : Lit j (tTup ta) σ (.tuple ds) := fun H Q n q =>
  h H _ n fun vs H1 s1 t1 => ⟨Nat.le_trans (by rw [all2 t1]; exact hl) (by decide), fun p hp => by
    have sp := same_upd (o := .tup vs) hp
    have np := new_ne hp (same_ne s1 n)
    exact q _ _ (s1.trans sp) (.tup (by rw [hid_ne np]; exact upd_same) (ThAllj.same t1 sp))⟩
theorem lit_lst {ta : TA} {ds : List PyData} (h : LitA j ta σ ds) (hl : ds.length ≤ 1000) : Lit j (tLst ta) σ (.list ds) := fun H Q n q =>
  h H _ n fun vs H1 s1 t1 => ⟨Nat.le_trans (by rw [all2 t1]; exact hl) (by decide), fun p hp => by
    have sp := same_upd (o := .lst vs) hp
    have np := new_ne hp (same_ne s1 n)
    exact q _ _ (s1.trans sp) (.lst (by rw [hid_ne np]; exact upd_same) (ThAllj.same t1 sp))⟩
theorem lit_emp : Lit j tDNewK σ (.dict []) := fun H Q n q p hp => by
  have sp := same_upd (o := .dK []) hp
  have np := new_ne hp n
  exact q _ _ sp (.emp (by rw [hid_ne np]; exact upd_same))
theorem all_mem {H : Hp} : ∀ {xs : List V} {ds : List PyData} {x : V}, ThAll H xs ds → x ∈ xs → ∃ d ∈ ds, Th H x d
  | _ :: _, _ :: _, x, .cons a b, h => by
    rcases List.mem_cons.mp h with e | h
    · rw [e]
      exact ⟨_, List.mem_cons_self, a⟩
    · obtain ⟨d, hd, t⟩ := all_mem b h
      exact ⟨d, List.mem_cons_of_mem _ hd, t⟩
/-- one of a written list (or tuple) -/
theorem one_of {H : Hp} {Q : VK} {E : XK} {p : Addr} {d : PyData} {ds : List PyData} {n : Nat} {K : PySem.W.Frag} (t : Th (hid j H) (.ref p) d) (hd : d = .list ds ∨ d = .tuple ds) (h0 : ds ≠ []) (hl : ds.length ≤ 1000) (hj : JarAt H j n) (hn : n < 1000000)
    (k : ∀ x e H', e ∈ ds → Th (hid j H') x e → KJ.But j H H' → JarAt H' j (n + 1) → Q x H') : spOne K [.ref j, .ref p] H Q E := by
  have fin : ∀ xs : List V, ThAll (hid j H) xs ds → (H p = some (.lst xs) ∨ H p = some (.tup xs)) → p ≠ j → spOne K [.ref j, .ref p] H Q E := fun xs ta hp np =>
    ⟨j, p, xs, n, rfl, np, hp, fun z => by
      have := all2 ta
      rw [z] at this
      exact h0 (List.length_eq_zero_iff.mp this.symm), by rw [all2 ta]; exact Nat.lt_of_le_of_lt hl (by decide), hj, hn, fun x H' hx b jr => by
      obtain ⟨e, he, te⟩ := all_mem ta hx
      exact k x e H' he (Thj.but te b) b jr⟩
  have np : ∀ {u : HO}, hid j H p = some u → p ≠ j ∧ H p = some u := fun {u} e => by
    refine ⟨fun z => ?_, hid_same j H _ _ e⟩
    rw [z, show hid j H j = none from if_pos rfl] at e
    cases e
  rcases hd with rfl | rfl
  · cases t with
    | lst e ta => exact fin _ ta (.inl (np e).2) (np e).1
  · cases t with
    | tup e ta => exact fin _ ta (.inr (np e).2) (np e).1
end
theorem jar_ne {H : Hp} {j : Addr} {n : Nat} (h : JarAt H j n) : H j ≠ none := by
  obtain ⟨a, b, c, e, _⟩ := h
  rw [e]
  simp
theorem jar_same {H H' : Hp} {j : Addr} {n : Nat} (h : JarAt H j n) (s : Same H H') : JarAt H' j n := by
  obtain ⟨a, b, c, e, r⟩ := h
  exact ⟨a, b, c, s _ _ e, r⟩
theorem jar_more {H : Hp} {j : Addr} {n m : Nat} (h : JarAt H j n) (hm : n ≤ m) : JarAt H j m := by
  obtain ⟨a, b, c, e, r0, r1, r2, r3, r4⟩ := h
  exact ⟨a, b, c, e, r0, r1, r2, r3, by omega⟩
end KP

set_option Elab.async false
set_option linter.all false
set_option maxRecDepth 100000
set_option maxHeartbeats 1000000
/-! ### drawn told fractions; odd things -/
namespace KP
open PySem PySem.Spec PyProof.Rows L2 KX KT KJ
def isPair (d : PyData) : Prop := ∃ a b, d = .tuple [.int a, .int b]
def spPart : Sp := fun vs H Q _ => ∃ j n, vs = [.ref j] ∧ JarAt H j n ∧ n ≤ 900000 ∧ ∀ v d H', isPair d → Th (hid j H') v d → KJ.But j H H' → JarAt H' j (n + 3) → Q v H'
section
variable {P : Program} {w : World} {K : PySem.W.Frag} {mg : Str → Option Value} {base : Heap}
theorem scPart : FnScope ["jar", "way"] ["jar"] (defScope lToldPart) := ⟨rfl, rfl, rfl, by decide +kernel, rfl, by decide +kernel, by decide +kernel⟩
theorem lit_pair {j : Addr} {σ : L2.St} {a b : Int} : Lit j (tTup (tCons (tC (.int a)) (tCons (tC (.int b)) tNil))) σ (.tuple [.int a, .int b]) := lit_tup (litA_cons lit_int (litA_cons lit_int litA_nil)) (by simp)
theorem ok_part {f fD fO fF : Addr} {fd fdD fdO fdF : FuncData} (F : Fun K "_law_told_part" "_law_told_part" lToldPart f fd)
    (FD : FnOk P w K mg base CX0 1 fD fdD ["jar", "top"] spDip) (mD : mg "_law_dip" = some (.ref fD)) (kD : PySem.W.keepIn K (.ref fD) = true) (bD : Binds K fdD ["jar", "top"] [])
    (FO : FnOk P w K mg base CX0 2 fO fdO ["jar", "some"] (spOne K)) (mO : mg "_law_one_of" = some (.ref fO)) (kO : PySem.W.keepIn K (.ref fO) = true) (bO : Binds K fdO ["jar", "some"] [])
    (FF : FnOk P w K mg base CX0 1 fF fdF ["top", "low"] spFrac) (mF : mg "_law_frac" = some (.ref fF)) (kF : PySem.W.keepIn K (.ref fF) = true) (bF : Binds K fdF ["top", "low"] []) :
    FnOk P w K mg base CX0 3 f fd ["jar"] spPart := by
  refine F.ok scPart (fun vs H Q E h => ?_) (fun cdv A outer s H vs Q E hr h => ?_)
  · obtain ⟨j, n, rfl, _⟩ := h
    rfl
  · obtain ⟨j, n, rfl, hj, hn, k⟩ := h
    have hr1 : Room 1 _ := hr.mono (by decide)
    refine ⟨_, pss_cons (ps_set (i := 1) scPart.nd rfl (Or.inl rfl) (pe_call FD hr1 rfl mD kD bD .nil pass0 (pa_cons (pv 0) (pa_cons pe_int pa_nil))))
      (pss_cons (ps_if (pt_cmpR op_lt (pv 1) pe_int (nomark _)) (pss_one (ps_ret (pe_call FO hr rfl mO kO bO .nil pass0 (pa_cons (pv 0) (pa_cons (pe_lst (pa_cons (pe_tup (pa_cons pe_int (pa_cons pe_int pa_nil))) (pa_cons (pe_tup (pa_cons pe_int (pa_cons pe_int pa_nil))) (pa_cons (pe_tup (pa_cons pe_int (pa_cons pe_int pa_nil))) (pa_cons (pe_tup (pa_cons pe_int (pa_cons pe_int pa_nil)))
          (pa_cons (pe_tup (pa_cons pe_int (pa_cons pe_int pa_nil))) (pa_cons (pe_tup (pa_cons pe_int (pa_cons pe_int pa_nil))) (pa_cons (pe_tup (pa_cons (pe_un un_neg pe_int) (pa_cons pe_int pa_nil))) (pa_cons (pe_tup (pa_cons pe_int (pa_cons pe_int pa_nil))) (pa_cons (pe_tup (pa_cons pe_int (pa_cons pe_int pa_nil))) (pa_cons (pe_tup (pa_cons pe_int (pa_cons pe_int pa_nil))) pa_nil))))))))))) pa_nil))))) pss_nil)
      (pss_cons (ps_if (pt_cmpR op_lt (pv 1) pe_int (nomark _)) (pss_one (ps_ret (pe_call FF hr1 rfl mF kF bF .nil pass0 (pa_cons (pe_op op_sub (pe_call FD hr1 rfl mD kD bD .nil pass0 (pa_cons (pv 0) (pa_cons pe_int pa_nil))) pe_int) (pa_cons (pe_op op_add pe_int (pe_call FD hr1 rfl mD kD bD .nil pass0 (pa_cons (pv 0) (pa_cons pe_int pa_nil)))) pa_nil))))) pss_nil)
      (pss_one (ps_ret (pe_call FF hr1 rfl mF kF bF .nil pass0 (pa_cons (pe_op op_sub (pe_call FD hr1 rfl mD kD bD .nil pass0 (pa_cons (pv 0) (pa_cons pe_int pa_nil))) pe_int) (pa_cons (pe_op op_add pe_int (pe_call FD hr1 rfl mD kD bD .nil pass0 (pa_cons (pv 0) (pa_cons pe_int pa_nil)))) pa_nil))))))), ?_⟩
    -- the last two ways
    have two : ∀ (H1 : Hp) (a1 a2 : Int) (p : Addr), KJ.But j H H1 → JarAt H1 j (n + 3) → H1 p = none → Q (.ref p) (upd H1 p (.tup [.int a1, .int a2])) := fun H1 a1 a2 p b jr hp => by
      have sp := same_upd (o := .tup [V.int a1, .int a2]) hp
      exact k _ _ _ ⟨a1, a2, rfl⟩ (.tup (by rw [hid_ne (new_ne hp (jar_ne jr))]; exact upd_same) (.cons (.int _) (.cons (.int _) .nil))) (b.trans (KJ.But.same sp)) (jar_same jr sp)
    refine ⟨_, rfl, j, _, n, rfl, by decide, by decide, hj, by omega, fun way H1 w0 w1 b1 j1 => ?_⟩
    refine ⟨_, rfl, _, _, rfl, rfl, _, rfl, ite2 (fun c => ?_) (fun c => ?_)⟩
    · refine ⟨_, rfl, ?_⟩
      have L : Lit j (tLst (tCons (tTup (tCons (tC (.int 0)) (tCons (tC (.int 1)) tNil))) (tCons (tTup (tCons (tC (.int 1)) (tCons (tC (.int 1)) tNil))) (tCons (tTup (tCons (tC (.int 1)) (tCons (tC (.int 2)) tNil))) (tCons (tTup (tCons (tC (.int 1)) (tCons (tC (.int 3)) tNil))) (tCons (tTup (tCons (tC (.int 1)) (tCons (tC (.int 4)) tNil)))
        (tCons (tTup (tCons (tC (.int 2)) (tCons (tC (.int 3)) tNil))) (tCons (tTup (tCons (tUn (rU fun i => .int (-i)) (tC (.int 1))) (tCons (tC (.int 2)) tNil))) (tCons (tTup (tCons (tC (.int 3)) (tCons (tC (.int 2)) tNil))) (tCons (tTup (tCons (tC (.int 1)) (tCons (tC (.int 5)) tNil))) (tCons (tTup (tCons (tC (.int 2)) (tCons (tC (.int 1)) tNil))) tNil))))))))))) ((L2.start ["jar", "way"] [V.ref j]).set 1 (some (.int way))) _ :=
        lit_lst (litA_cons lit_pair (litA_cons lit_pair (litA_cons lit_pair (litA_cons lit_pair (litA_cons lit_pair (litA_cons lit_pair (litA_cons (lit_tup (litA_cons lit_neg (litA_cons lit_int litA_nil)) (by simp)) (litA_cons lit_pair (litA_cons lit_pair (litA_cons lit_pair litA_nil)))))))))) (by simp)
      refine L H1 _ (jar_ne j1) fun v H2 s2 t2 => ?_
      have tv := t2
      cases t2 with
      | lst e2 ta =>
        refine one_of (K := K) (E := L2.E0) tv (.inl rfl) (by simp) (by simp) (jar_same j1 s2) (by omega) fun x e H3 he te b3 j3 => ?_
        refine k x e H3 ?_ te (b1.trans ((KJ.But.same s2).trans b3)) (jar_more j3 (by omega))
        simp only [List.mem_cons, List.not_mem_nil, or_false] at he
        rcases he with rfl | rfl | rfl | rfl | rfl | rfl | rfl | rfl | rfl | rfl <;> exact ⟨_, _, rfl⟩
    refine ⟨_, rfl, _, _, rfl, rfl, _, rfl, ite2 (fun c2 => ?_) (fun c2 => ?_)⟩
    · refine ⟨_, rfl, j, _, _, rfl, by decide, by decide, j1, by omega, fun r1 H2 r10 r11 b2 j2 => ⟨_, _, rfl, rfl, ?_⟩⟩
      refine ⟨_, rfl, j, _, _, rfl, by decide, by decide, j2, by omega, fun r2 H3 r20 r21 b3 j3 => ⟨_, _, rfl, rfl, ?_⟩⟩
      exact ⟨_, _, rfl, by omega, by omega, by omega, fun p hp => two H3 _ _ p (b1.trans (b2.trans b3)) j3 hp⟩
    · refine ⟨_, rfl, j, _, _, rfl, by decide, by decide, j1, by omega, fun r1 H2 r10 r11 b2 j2 => ⟨_, _, rfl, rfl, ?_⟩⟩
      refine ⟨_, rfl, j, _, _, rfl, by decide, by decide, j2, by omega, fun r2 H3 r20 r21 b3 j3 => ⟨_, _, rfl, rfl, ?_⟩⟩
      exact ⟨_, _, rfl, by omega, by omega, by omega, fun p hp => two H3 _ _ p (b1.trans (b2.trans b3)) j3 hp⟩
end
end KP

set_option Elab.async false
set_option linter.all false
set_option maxRecDepth 100000
set_option maxHeartbeats 1000000
/-! ### odd things -/
namespace KP
open PySem PySem.Spec PyProof.Rows L2 KX KT KJ
def oddA : List PyData := [.none, .bool true, .bool false, .int 0, .int 1, .int 2, .int (-1), .int 5, .int 8, .int 1000, .int (10 ^ (40 : Int).toNat), .str "", .str "x", .str "x0", .str "out", .tuple [], .tuple [.int 0], .tuple [.int 1], .tuple [.int 0, .int 1]]
def oddB : List PyData := [.tuple [.int 2, .int 4], .tuple [.int 1, .int 0], .tuple [.str "x", .int 0], .tuple [.str "x", .int 9], .tuple [.str "y", .int 0], .tuple [.str "x"], .tuple [.int 1000, .int 1], .tuple [.int 1, .int 1000], .tuple [.bool true, .int 1], .list [], .dict [], .tuple [.none]]
def spOdd : Sp := fun vs H Q _ => ∃ j n, vs = [.ref j] ∧ JarAt H j n ∧ n ≤ 900000 ∧ ∀ v d H', d ∈ oddA ++ oddB → Th (hid j H') v d → KJ.But j H H' → JarAt H' j (n + 1) → Q v H'
theorem ThAll.append {H : Hp} : ∀ {xs ys : List V} {ds es : List PyData}, ThAll H xs ds → ThAll H ys es → ThAll H (xs ++ ys) (ds ++ es)
  | _, _, _, _, .nil, b => b
  | _, _, _, _, .cons a t, b => .cons a (ThAll.append t b)
section
variable {j : Addr} {σ : L2.St}
theorem i_setLit {te : TE} {tz : TS} {D : Ends} {i : Nat} {d : PyData} {H : Hp} (h : Lit j te σ d) (hj : H j ≠ none) (k : ∀ v H', Same H H' → Th (hid j H') v d → tz D (σ.set i (some v)) H') : tSeq (tAsg te (gName i)) tz D σ H := h H _ hj k
theorem lit_pow {a b : Int} (h : CPow a b) : Lit j (tOp (rI CPow fun i j => .int (i ^ j.toNat)) (tC (.int a)) (tC (.int b))) σ (.int (a ^ b.toNat)) := fun H Q _ q => ⟨a, b, rfl, rfl, h, q _ _ (Same.refl H) (.int _)⟩
end
section
variable {P : Program} {w : World} {K : PySem.W.Frag} {mg : Str → Option Value} {base : Heap}
theorem scOdd : FnScope ["jar", "some", "more"] ["jar"] (defScope lOdd) := ⟨rfl, rfl, rfl, by decide +kernel, rfl, by decide +kernel, by decide +kernel⟩
theorem ok_odd {f fO : Addr} {fd fdO : FuncData} (F : Fun K "_law_odd" "_law_odd" lOdd f fd)
    (FO : FnOk P w K mg base CX0 2 fO fdO ["jar", "some"] (spOne K)) (mO : mg "_law_one_of" = some (.ref fO)) (kO : PySem.W.keepIn K (.ref fO) = true) (bO : Binds K fdO ["jar", "some"] []) :
    FnOk P w K mg base CX0 3 f fd ["jar"] spOdd := by
  refine F.ok scOdd (fun vs H Q E h => ?_) (fun cdv A outer s H vs Q E hr h => ?_)
  · obtain ⟨j, n, rfl, _⟩ := h
    rfl
  · obtain ⟨j, n, rfl, hj, hn, k⟩ := h
    refine ⟨_, pss_cons (ps_set (i := 1) scOdd.nd rfl (Or.inl rfl) (pe_tup (pa_cons pe_non (pa_cons pe_bl (pa_cons pe_bl (pa_cons pe_int (pa_cons pe_int (pa_cons pe_int (pa_cons (pe_un un_neg pe_int) (pa_cons pe_int (pa_cons pe_int (pa_cons pe_int (pa_cons (pe_op op_pow pe_int pe_int) (pa_cons pe_str (pa_cons pe_str (pa_cons pe_str (pa_cons pe_str
        (pa_cons (pe_tup pa_nil) (pa_cons (pe_tup (pa_cons pe_int pa_nil)) (pa_cons (pe_tup (pa_cons pe_int pa_nil)) (pa_cons (pe_tup (pa_cons pe_int (pa_cons pe_int pa_nil))) pa_nil)))))))))))))))))))))
      (pss_cons (ps_set (i := 2) scOdd.nd rfl (Or.inl rfl) (pe_tup (pa_cons (pe_tup (pa_cons pe_int (pa_cons pe_int pa_nil))) (pa_cons (pe_tup (pa_cons pe_int (pa_cons pe_int pa_nil))) (pa_cons (pe_tup (pa_cons pe_str (pa_cons pe_int pa_nil))) (pa_cons (pe_tup (pa_cons pe_str (pa_cons pe_int pa_nil))) (pa_cons (pe_tup (pa_cons pe_str (pa_cons pe_int pa_nil)))
        (pa_cons (pe_tup (pa_cons pe_str pa_nil)) (pa_cons (pe_tup (pa_cons pe_int (pa_cons pe_int pa_nil))) (pa_cons (pe_tup (pa_cons pe_int (pa_cons pe_int pa_nil))) (pa_cons (pe_tup (pa_cons pe_bl (pa_cons pe_int pa_nil))) (pa_cons (pe_lst pa_nil) (pa_cons pe_dnewK (pa_cons (pe_tup (pa_cons pe_non pa_nil)) pa_nil))))))))))))))
      (pss_one (ps_ret (pe_call FO hr rfl mO kO bO .nil pass0 (pa_cons (pv 0) (pa_cons (pe_op op_catA (pv 1) (pv 2)) pa_nil)))))), ?_⟩
    have lp : ∀ {σ : L2.St} {a b : Int}, Lit j (tTup (tCons (tC (.int a)) (tCons (tC (.int b)) tNil))) σ (.tuple [.int a, .int b]) := lit_pair
    have l1 : ∀ {σ : L2.St} {a : Int}, Lit j (tTup (tCons (tC (.int a)) tNil)) σ (.tuple [.int a]) := lit_tup (litA_cons lit_int litA_nil) (by simp)
    have ls : ∀ {σ : L2.St} {a : Str} {b : Int}, Lit j (tTup (tCons (tC (.str a)) (tCons (tC (.int b)) tNil))) σ (.tuple [.str a, .int b]) := lit_tup (litA_cons lit_str (litA_cons lit_int litA_nil)) (by simp)
    refine i_setLit (j := j) (d := .tuple oddA) (lit_tup (litA_cons lit_non (litA_cons lit_bl (litA_cons lit_bl (litA_cons lit_int (litA_cons lit_int (litA_cons lit_int (litA_cons lit_neg (litA_cons lit_int (litA_cons lit_int (litA_cons lit_int (litA_cons (lit_pow ⟨by decide, by decide, by decide⟩) (litA_cons lit_str (litA_cons lit_str (litA_cons lit_str (litA_cons lit_str
      (litA_cons (lit_tup litA_nil (by simp)) (litA_cons l1 (litA_cons l1 (litA_cons lp litA_nil))))))))))))))))))) (by decide)) (jar_ne hj) fun v1 H1 s1 t1 => ?_
    have hj1 := jar_same hj s1
    refine i_setLit (j := j) (d := .tuple oddB) (lit_tup (litA_cons lp (litA_cons lp (litA_cons ls (litA_cons ls (litA_cons ls (litA_cons (lit_tup (litA_cons lit_str litA_nil) (by simp)) (litA_cons lp (litA_cons lp (litA_cons (lit_tup (litA_cons lit_bl (litA_cons lit_int litA_nil)) (by simp)) (litA_cons (lit_lst litA_nil (by simp)) (litA_cons lit_emp
      (litA_cons (lit_tup (litA_cons lit_non litA_nil) (by simp)) litA_nil)))))))))))) (by decide)) (jar_ne hj1) fun v2 H2 s2 t2 => ?_
    have hj2 := jar_same hj1 s2
    have t1' := Thj.same t1 s2
    cases t1' with
    | @tup a1 xs1 _ e1 ta1 =>
      cases t2 with
      | @tup a2 xs2 _ e2 ta2 =>
        have n1 : xs1.length = 19 := all2 ta1
        have n2 : xs2.length = 12 := all2 ta2
        refine ⟨_, rfl, _, rfl, _, rfl, a1, a2, xs1, xs2, rfl, rfl, SqT.of (hid_same j H2 _ _ e1), SqT.of (hid_same j H2 _ _ e2), ?_, fun z => ?_, fun _ z => ?_, fun _ _ p hp => ?_⟩
        · rw [n1, n2]
          decide
        · rw [z] at n1
          cases n1
        · rw [z] at n2
          cases n2
        · have sp := same_upd (o := .tup (xs1 ++ xs2)) hp
          have np := new_ne hp (jar_ne hj2)
          have tt : Th (hid j (upd H2 p (.tup (xs1 ++ xs2)))) (.ref p) (.tuple (oddA ++ oddB)) := .tup (by rw [hid_ne np]; exact upd_same) (ThAllj.same (ThAll.append ta1 ta2) sp)
          refine one_of (K := K) (E := L2.E0) tt (.inr rfl) (by simp [oddA]) (by decide) (jar_same hj2 sp) (by omega) fun x e H3 he te b3 j3 => ?_
          exact k x e H3 he te ((KJ.But.same (s1.trans (s2.trans sp))).trans b3) j3
end
end KP

set_option Elab.async false
set_option linter.all false
set_option maxRecDepth 100000
set_option maxHeartbeats 1000000
/-! ### readings that make data out of names; how wide data are -/
namespace KP
open PySem PySem.Spec PyProof.Rows L2 KX KT KJ
mutual
/-- the greatest length of a tuple or list within -/
def wid : PyData → Nat
  | .tuple ds => max ds.length (widAll ds)
  | .list ds => max ds.length (widAll ds)
  | _ => 0
def widAll : List PyData → Nat
  | [] => 0
  | d :: ds => max (wid d) (widAll ds)
end
theorem widAll_le {n : Nat} : ∀ {ds : List PyData}, (∀ d ∈ ds, wid d ≤ n) → widAll ds ≤ n
  | [], _ => by simp [widAll]
  | d :: ds, h => by
    simp only [widAll]
    have h1 := h d List.mem_cons_self
    have h2 := widAll_le (ds := ds) fun e he => h e (List.mem_cons_of_mem _ he)
    omega
theorem le_widAll : ∀ {ds : List PyData} {d : PyData}, d ∈ ds → wid d ≤ widAll ds
  | e :: ds, d, h => by
    simp only [widAll]
    rcases List.mem_cons.mp h with rfl | h
    · omega
    · have := le_widAll h
      omega
theorem wid_tup {n : Nat} {ds : List PyData} (hl : ds.length ≤ n) (h : ∀ d ∈ ds, wid d ≤ n) : wid (.tuple ds) ≤ n := by
  simp only [wid]
  have := widAll_le h
  omega
theorem wid_lst {n : Nat} {ds : List PyData} (hl : ds.length ≤ n) (h : ∀ d ∈ ds, wid d ≤ n) : wid (.list ds) ≤ n := by
  simp only [wid]
  have := widAll_le h
  omega
theorem wid_mem {ds : List PyData} {d : PyData} (h : d ∈ ds) : wid d ≤ wid (.tuple ds) := by
  simp only [wid]
  have := le_widAll h
  omega
theorem wid_len {ds : List PyData} : ds.length ≤ wid (.tuple ds) := by
  simp only [wid]
  omega
theorem wid_ith {d : PyData} {i : Nat} : wid (ith i d) ≤ wid d := by
  cases d with
  | tuple ds =>
    show wid (ds.getD i .none) ≤ _
    rw [List.getD_eq_getElem?_getD]
    cases e : ds[i]? with
    | none => simp [wid]
    | some a => exact wid_mem (List.mem_of_getElem? e)
  | _ => simp [ith, wid]
theorem lenT_wid {d : PyData} : lenT d ≤ wid d := by
  cases d with
  | tuple ds => exact wid_len
  | _ => simp [lenT]
/-- e makes the datum d, in heaps that have grown from H -/
def Mk (j : Addr) (t : TE) (σ : L2.St) (H : Hp) (d : PyData) : Prop := ∀ H1, Same H H1 → ∀ Q : VK, (∀ v H', Same H1 H' → Th (hid j H') v d → Q v H') → t σ H1 Q
def MkA (j : Addr) (t : TA) (σ : L2.St) (H : Hp) (ds : List PyData) : Prop := ∀ H1, Same H H1 → ∀ Q : List V → Hp → Prop, (∀ vs H', Same H1 H' → ThAll (hid j H') vs ds → Q vs H') → t σ H1 Q
section
variable {j : Addr} {σ : L2.St} {H : Hp}
theorem mk_lit {t : TE} {d : PyData} (hj : H j ≠ none) (h : Lit j t σ d) : Mk j t σ H d := fun H1 s Q q => h H1 Q (same_ne s hj) q
theorem mk_var {i : Nat} {v : V} {d : PyData} (h : σ[i]? = some (some v)) (t : Th (hid j H) v d) : Mk j (tVar i) σ H d := fun H1 s Q q => ⟨v, h, q v H1 (Same.refl H1) (Thj.same t s)⟩
theorem mkA_nil : MkA j tNil σ H [] := fun H1 s Q q => q _ _ (Same.refl H1) .nil
theorem mkA_cons {te : TE} {ta : TA} {d : PyData} {ds : List PyData} (h : Mk j te σ H d) (h2 : MkA j ta σ H ds) : MkA j (tCons te ta) σ H (d :: ds) := fun H1 s Q q =>
  h H1 s _ fun v H2 s2 t2 => h2 H2 (s.trans s2) _ fun vs H3 s3 t3 => q _ _ (s2.trans s3) (.cons (Thj.same t2 s3) t3)
theorem mk_tup {ta : TA} {ds : List PyData} (hj : H j ≠ none) (h : MkA j ta σ H ds) (hl : ds.length ≤ 1000) : Mk j (tTup ta) σ H (.tuple ds) := fun H1 s Q q =>
  h H1 s _ fun vs H2 s2 t2 => ⟨Nat.le_trans (by rw [all2 t2]; exact hl) (by decide), fun p hp => by
    have sp := same_upd (o := .tup vs) hp
    have np := new_ne hp (same_ne (s.trans s2) hj)
    exact q _ _ (s2.trans sp) (.tup (by rw [hid_ne np]; exact upd_same) (ThAllj.same t2 sp))⟩
theorem mk_catA {K : PySem.W.Frag} {ta tb : TE} {ds es : List PyData} (hj : H j ≠ none) (h1 : Mk j ta σ H (.tuple ds)) (h2 : Mk j tb σ H (.tuple es)) (hl : ds.length + es.length ≤ 1000) : Mk j (tOp (rCatA K) ta tb) σ H (.tuple (ds ++ es)) := fun H1 s Q q =>
  h1 H1 s _ fun v H2 s2 t2 => h2 H2 (s.trans s2) _ fun u H3 s3 t3 => by
    have t2' := Thj.same t2 s3
    have s23 := s2.trans s3
    cases t2' with
    | @tup a xs _ e1 ta1 =>
      have t3' := t3
      cases t3 with
      | @tup b ys _ e2 ta2 =>
        refine ⟨a, b, xs, ys, rfl, rfl, SqT.of (hid_same j H3 _ _ e1), SqT.of (hid_same j H3 _ _ e2), Nat.le_trans (by rw [all2 ta1, all2 ta2]; exact hl) (by decide), fun z => ?_, fun _ z => ?_, fun _ _ p hp => ?_⟩
        · subst z
          cases ta1
          exact q _ _ s23 t3'
        · subst z
          cases ta2
          rw [List.append_nil] at q
          exact q _ _ s23 (.tup e1 ta1)
        · have sp := same_upd (o := .tup (xs ++ ys)) hp
          have np := new_ne hp (same_ne (s.trans s23) hj)
          exact q _ _ (s23.trans sp) (.tup (by rw [hid_ne np]; exact upd_same) (ThAllj.same (ThAll.append ta1 ta2) sp))
theorem mk_ret {te : TE} {D : Ends} {d : PyData} (h : Mk j te σ H d) (k : ∀ v H', Same H H' → Th (hid j H') v d → D.rt v H') : tRet te D σ H := h H (Same.refl H) _ k
end
end KP

set_option Elab.async false
set_option linter.all false
set_option maxRecDepth 100000
set_option maxHeartbeats 1000000
/-! ### slices -/
namespace KP
open PySem PySem.Spec PyProof.Rows L2 KX KT KJ
def cutD (ds : List PyData) (lo hi : Option Int) : List PyData := (ds.drop (HT.sIx ds.length 0 lo)).take (HT.sIx ds.length ds.length hi - HT.sIx ds.length 0 lo)
theorem ThAll.drop {H : Hp} : ∀ {xs : List V} {ds : List PyData} (i : Nat), ThAll H xs ds → ThAll H (xs.drop i) (ds.drop i)
  | _, _, 0, h => h
  | _, _, _ + 1, .nil => .nil
  | _, _, i + 1, .cons a b => ThAll.drop i b
theorem ThAll.cut {H : Hp} {xs : List V} {ds : List PyData} (h : ThAll H xs ds) (lo hi : Option Int) : ThAll H (cutV xs lo hi) (cutD ds lo hi) := by
  unfold cutV cutD
  rw [all2 h]
  exact (h.drop _).take _
theorem cutD_mem {ds : List PyData} {lo hi : Option Int} {d : PyData} (h : d ∈ cutD ds lo hi) : d ∈ ds := List.mem_of_mem_drop (List.mem_of_mem_take h)
theorem cutD_len {ds : List PyData} {lo hi : Option Int} : (cutD ds lo hi).length ≤ ds.length := by
  unfold cutD
  rw [List.length_take, List.length_drop]
  omega
theorem cutD_to {ds : List PyData} {k : Nat} : (cutD ds none (some (k : Int))).length ≤ k := by
  unfold cutD
  rw [HT.sIx_nat, List.length_take]
  omega
section
variable {j : Addr} {σ : L2.St} {H : Hp}
theorem mk_slice {K : PySem.W.Frag} {te : TE} {tl th : TO} {lo hi : Option Int} {ds : List PyData} (hj : H j ≠ none) (h : Mk j te σ H (.tuple ds)) (hl : ∀ H1 Q, Q lo H1 → tl σ H1 Q) (hh : ∀ H1 Q, Q hi H1 → th σ H1 Q) : Mk j (tSl (rSlA K) te tl th) σ H (.tuple (cutD ds lo hi)) := fun H1 s Q q =>
  h H1 s _ fun v H2 s2 t2 => hl _ _ (hh _ _ (by
    have t2' := t2
    cases t2 with
    | @tup a xs _ e1 ta1 =>
      refine ⟨a, xs, rfl, SqT.of (hid_same j H2 _ _ e1), fun z => ?_, fun _ p hp => ?_⟩
      · have e : cutD ds lo hi = ds := by
          unfold cutD
          rw [all2 ta1] at z
          rw [z.1, z.2]
          simp
        rw [e] at q
        exact q _ _ s2 t2'
      · have sp := same_upd (o := .tup (cutV xs lo hi)) hp
        have np := new_ne hp (same_ne (s.trans s2) hj)
        exact q _ _ (s2.trans sp) (.tup (by rw [hid_ne np]; exact upd_same) (ThAllj.same (ta1.cut lo hi) sp))))
theorem p_none {H1 : Hp} {Q : Option Int → Hp → Prop} (q : Q none H1) : tNoPart σ H1 Q := q
theorem p_int {te : TE} {i : Int} (h : ∀ H1, Vi te σ H1 (.int i)) {H1 : Hp} {Q : Option Int → Hp → Prop} (q : Q (some i) H1) : tPart te σ H1 Q := h H1 _ ⟨i, rfl, q⟩
end
end KP

set_option Elab.async false
set_option linter.all false
set_option maxRecDepth 100000
set_option maxHeartbeats 2000000
/-! ### planted faults -/
namespace KP
open PySem PySem.Spec PyProof.Rows L2 KX KT KJ
/-- a net's form -/
structure NetForm (d : PyData) (m u : Int) (ps fs ss : List PyData) : Prop where
  eq : d = .tuple [.int m, .int u, .tuple ps, .tuple fs, .tuple ss]
  wd : wid d ≤ 13
  m1 : 1 ≤ m
  m4 : m ≤ 4
  u0 : 0 ≤ u
  u4 : u ≤ 4
def spPlanted : Sp := fun vs H Q _ => ∃ j n x d m u ps fs ss, vs = [.ref j, x] ∧ JarAt H j n ∧ n ≤ 900000 ∧ NetForm d m u ps fs ss ∧ Th (hid j H) x d ∧ ∀ v e H', wid e ≤ 14 → Th (hid j H') v e → KJ.But j H H' → JarAt H' j (n + 3) → Q v H'
abbrev nPl : List Str := ["jar", "net", "many", "unknowns", "pipes", "filled", "seen", "way", "more", "some", "part", "at"]
theorem w5 {a b c d e : PyData} (ha : wid a ≤ 14) (hb : wid b ≤ 14) (hc : wid c ≤ 14) (hd : wid d ≤ 14) (he : wid e ≤ 14) : wid (.tuple [a, b, c, d, e]) ≤ 14 := by
  simp only [wid, widAll, List.length_cons, List.length_nil]
  omega
theorem w_cat {n : Nat} {ds es : List PyData} (hl : ds.length + es.length ≤ n) (h1 : ∀ d ∈ ds, wid d ≤ n) (h2 : ∀ d ∈ es, wid d ≤ n) : wid (.tuple (ds ++ es)) ≤ n :=
  wid_tup (by rw [List.length_append]; exact hl) fun d hd => (List.mem_append.mp hd).elim (h1 d) (h2 d)
section
variable {j : Addr} {σ : L2.St} {H : Hp}
theorem mk_vi {t : TE} {i : Int} (h : ∀ H1, Vi t σ H1 (.int i)) : Mk j t σ H (.int i) := fun H1 s Q q => h H1 _ (q _ _ (Same.refl H1) (.int i))
theorem thAll_ints {H : Hp} : ∀ l : List Int, ThAll H (l.map V.int) (l.map PyData.int)
  | [] => .nil
  | i :: l => .cons (.int i) (thAll_ints l)
theorem mk_rg {ta : TE} {n : Int} (hj : H j ≠ none) (h : ∀ H1, Vi ta σ H1 (.int n)) (h0 : 0 ≤ n) (h1 : n ≤ 1000) : Mk j (tTupRg (tRg1 ta)) σ H (.tuple (((List.range (n - 0).toNat).map fun i => (0 : Int) + (i : Nat)).map PyData.int)) := fun H1 s Q q => h H1 _
  ⟨n, rfl, RgOk.of_le (by decide) (by omega) (by decide) h0, fun p hp => by
    have sp := same_upd (o := .tup (rgV 0 n)) hp
    have np := new_ne hp (same_ne s hj)
    refine q _ _ sp (.tup (by rw [hid_ne np]; exact upd_same) ?_)
    have e : rgV 0 n = ((List.range (n - 0).toNat).map fun i => (0 : Int) + (i : Nat)).map V.int := by
      unfold rgV
      rw [List.map_map]
      rfl
    rw [e]
    exact thAll_ints _⟩
def plD (i : Nat) : PyData := .tuple [.int 0, .none, .tuple [.int (1 + (i : Nat)), .int 997]]
theorem plD_wid (i : Nat) : wid (plD i) ≤ 14 := by simp [plD, wid, widAll]
/-- no list within: so the jar is none of its parts -/
theorem plD_hid {i : Nat} {v : V} {H1 : Hp} {D : Addr} {o : HO} (h : Th (hid D H1) v (plD i)) (hj : H1 j = some o) (ho : ∀ xs, o ≠ .tup xs) : Th (hid j H1) v (plD i) := by
  have nt : ∀ {a xs}, hid D H1 a = some (.tup xs) → hid j H1 a = some (.tup xs) := fun {a xs} e => by
    have e' := hid_same D H1 _ _ e
    have na : a ≠ j := fun z => by
      rw [z, hj] at e'
      exact ho _ (Option.some.inj e')
    rw [hid_ne na]
    exact e'
  cases h with
  | tup e1 a1 => cases a1 with
    | cons x1 a2 => cases a2 with
      | cons x2 a3 => cases a3 with
        | cons x3 a4 =>
          cases a4
          cases x1
          cases x2
          cases x3 with
          | tup e2 b1 => cases b1 with
            | cons y1 b2 => cases b2 with
              | cons y2 b3 =>
                cases b3
                cases y1
                cases y2
                exact .tup (nt e1) (.cons (.int _) (.cons .non (.cons (.tup (nt e2) (.cons (.int _) (.cons (.int _) .nil))) .nil)))
theorem plD_all {H1 : Hp} {D : Addr} {o : HO} (hj : H1 j = some o) (ho : ∀ xs, o ≠ .tup xs) : ∀ {l : List Nat} {vs : List V}, ThAll (hid D H1) vs (l.map plD) → ThAll (hid j H1) vs (l.map plD)
  | [], _, h => by
    cases h
    exact .nil
  | i :: l, _, h => by
    rw [List.map_cons] at h ⊢
    cases h with
    | cons a b => exact .cons (plD_hid a hj ho) (plD_all hj ho b)
theorem mk_if {c : TT} {ta tb : TE} {b : Bool} {d e : PyData} (h : ∀ H1, Ti c σ H1 b) (h1 : Mk j ta σ H d) (h2 : Mk j tb σ H e) : Mk j (tIf c ta tb) σ H (if b = true then d else e) := fun H1 s Q q => h H1 _ (by
  cases b with
  | true => exact h1 H1 s Q q
  | false => exact h2 H1 s Q q)
end
section
variable {P : Program} {w : World} {K : PySem.W.Frag} {mg : Str → Option Value} {base : Heap}
theorem scPl : FnScope nPl ["jar", "net"] (defScope lPlanted) := ⟨rfl, rfl, rfl, by decide +kernel, rfl, by decide +kernel, by decide +kernel⟩
theorem ok_planted {f fD fO : Addr} {fd fdD fdO : FuncData} (F : Fun K "_law_planted" "_law_planted" lPlanted f fd) (T : TxL mg)
    (FD : FnOk P w K mg base CX0 1 fD fdD ["jar", "top"] spDip) (mD : mg "_law_dip" = some (.ref fD)) (kD : PySem.W.keepIn K (.ref fD) = true) (bD : Binds K fdD ["jar", "top"] [])
    (FO : FnOk P w K mg base CX0 2 fO fdO ["jar", "some"] (spOne K)) (mO : mg "_law_one_of" = some (.ref fO)) (kO : PySem.W.keepIn K (.ref fO) = true) (bO : Binds K fdO ["jar", "some"] []) :
    FnOk P w K mg base CX0 3 f fd ["jar", "net"] spPlanted := by
  refine F.ok scPl (fun vs H Q E h => ?_) (fun cdv A outer s H vs Q E hr h => ?_)
  · obtain ⟨j, n, x, d, m, u, ps, fs, ss, rfl, _⟩ := h
    rfl
  · obtain ⟨j, n, x, d, m, u, ps, fs, ss, rfl, hj, hn, nf, hx, k⟩ := h
    have hr1 : Room 1 _ := hr.mono (by decide)
    refine ⟨_, pss_cons (ps_asg (pv 1) (pg_tup rfl (pgs_cons (pg_name (i := 2) scPl.nd rfl (Or.inl rfl)) (pgs_cons (pg_name (i := 3) scPl.nd rfl (Or.inl rfl)) (pgs_cons (pg_name (i := 4) scPl.nd rfl (Or.inl rfl)) (pgs_cons (pg_name (i := 5) scPl.nd rfl (Or.inl rfl)) (pgs_cons (pg_name (i := 6) scPl.nd rfl (Or.inl rfl)) pgs_nil)))))))
      (pss_cons (ps_par (i := 7) (j := 8) (by rfl) scPl.nd rfl rfl (by decide) rfl rfl (pa_cons (pe_call FD hr1 rfl mD kD bD .nil pass0 (pa_cons (pv 0) (pa_cons pe_int pa_nil))) (pa_cons (pe_call FD hr1 rfl mD kD bD .nil pass0 (pa_cons (pv 0) (pa_cons pe_int pa_nil))) pa_nil)) (by rfl))
      (pss_cons (ps_if (pt_cmpR op_eq (pv 7) pe_int (nomark _)) (pss_one (ps_ret (pe_tup (pa_cons (pv 2) (pa_cons (pv 3) (pa_cons (pe_op op_catA (pv 4) (pe_slice sl_tupA (pv 4) po_none (po_some pe_int))) (pa_cons (pv 5) (pa_cons (pv 6) pa_nil)))))))) pss_nil)
      (pss_cons (ps_if (pt_cmpR op_eq (pv 7) pe_int (nomark _)) (pss_one (ps_ret (pe_tup (pa_cons (pv 2) (pa_cons (pv 3) (pa_cons (pe_op op_catA (pe_slice sl_tupA (pv 4) po_none (po_some pe_int)) (pe_tup (pa_cons (pe_tup (pa_cons pe_int (pa_cons (pe_ifExp (pt_cmpR op_eq (pv 8) pe_int (nomark _)) pe_int pe_non) (pa_cons (pe_tup (pa_cons pe_int (pa_cons pe_int pa_nil))) pa_nil)))) pa_nil))) (pa_cons (pv 5) (pa_cons (pv 6) pa_nil)))))))) pss_nil)
      (pss_cons (ps_if (pt_cmpR op_eq (pv 7) pe_int (nomark _)) (pss_one (ps_ret (pe_tup (pa_cons (pv 2) (pa_cons (pv 3) (pa_cons (pe_op op_catA (pe_slice sl_tupA (pv 4) po_none (po_some pe_int)) (pe_tup (pa_cons (pe_tup (pa_cons (pe_op op_sub (pv 2) pe_int) (pa_cons pe_non (pa_cons (pe_tup (pa_cons pe_str (pa_cons (pe_op op_add (pe_op op_sub (pv 3) pe_int) (pv 8)) pa_nil))) pa_nil)))) pa_nil))) (pa_cons (pv 5) (pa_cons (pv 6) pa_nil)))))))) pss_nil)
      (pss_cons (ps_if (pt_cmpR op_eq (pv 7) pe_int (nomark _)) (pss_cons (ps_set (i := 9) scPl.nd rfl (Or.inl rfl) (pe_tupleOf (by rfl) T.tuple (pe_lc (own := [("at", 11)]) (g := gName 11) (tt := tYes) rfl scPl.nd (pi_range1 rfl T.range (pa_cons (pe_op op_add pe_int (pv 8)) pa_nil)) (blkOk_by (N := nPl) (sc := defScope lPlanted) (by decide +kernel))
          (fun _ _ _ _ _ => pg_name (i := 11) scPl.nd rfl (Or.inl rfl)) (fun _ _ _ _ _ => pts_nil) (fun _ _ _ _ _ => pe_tup (pa_cons pe_int (pa_cons pe_non (pa_cons (pe_tup (pa_cons (pe_op op_add pe_int (pv 11)) (pa_cons pe_int pa_nil))) pa_nil)))))))
          (pss_one (ps_ret (pe_tup (pa_cons (pv 2) (pa_cons (pv 3) (pa_cons (pv 9) (pa_cons (pv 5) (pa_cons (pv 6) pa_nil))))))))) pss_nil)
      (pss_cons (ps_if (pt_cmpR op_eq (pv 7) pe_int (nomark _)) (pss_one (ps_ret (pe_tup (pa_cons (pe_op op_add pe_int (pv 8)) (pa_cons pe_int (pa_cons (pe_tup pa_nil) (pa_cons (pe_tup (pa_cons pe_int pa_nil)) (pa_cons (pe_tup (pa_cons pe_int (pa_cons pe_int pa_nil))) pa_nil)))))))) pss_nil)
      (pss_cons (ps_if (pt_cmpR op_eq (pv 7) pe_int (nomark _)) (pss_one (ps_ret (pe_tup (pa_cons (pv 2) (pa_cons (pv 3) (pa_cons (pv 4) (pa_cons (pe_op op_catA (pv 5) (pe_slice sl_tupA (pv 5) po_none (po_some (pv 8)))) (pa_cons (pv 6) pa_nil)))))))) pss_nil)
      (pss_cons (ps_if (pt_cmpR op_eq (pv 7) pe_int (nomark _)) (pss_one (ps_ret (pe_tup (pa_cons (pv 2) (pa_cons (pv 3) (pa_cons (pv 4) (pa_cons (pv 5) (pa_cons (pe_tupRg rfl (by rfl) T.tuple (prg_1 (by rfl) T.range (pe_op op_add (pv 2) (pv 8)))) pa_nil)))))))) pss_nil)
      (pss_cons (ps_set (i := 10) scPl.nd rfl (Or.inl rfl) (pe_call FO hr rfl mO kO bO .nil pass0 (pa_cons (pv 0) (pa_cons (pe_lst (pa_cons (pe_tup (pa_cons pe_int (pa_cons pe_int pa_nil))) (pa_cons (pe_tup (pa_cons pe_int (pa_cons pe_int pa_nil))) (pa_cons (pe_tup (pa_cons pe_int (pa_cons pe_int pa_nil))) (pa_cons (pe_tup (pa_cons pe_int (pa_cons pe_int pa_nil)))
          (pa_cons (pe_tup (pa_cons (pe_un un_neg pe_int) (pa_cons pe_int pa_nil))) (pa_cons (pe_tup (pa_cons (pe_un un_neg pe_int) (pa_cons pe_int pa_nil))) (pa_cons (pe_tup (pa_cons pe_int (pa_cons pe_int pa_nil))) pa_nil)))))))) pa_nil))))
      (pss_one (ps_ret (pe_tup (pa_cons (pv 2) (pa_cons (pv 3) (pa_cons (pe_tup (pa_cons (pe_tup (pa_cons pe_int (pa_cons pe_non (pa_cons (pv 10) pa_nil)))) pa_nil)) (pa_cons (pv 5) (pa_cons (pv 6) pa_nil))))))))))))))))), ?_⟩
    obtain ⟨rfl, hw, m1, m4, u0, u4⟩ := nf
    have hps : ps.length ≤ 13 ∧ ∀ d ∈ ps, wid d ≤ 13 := ⟨Nat.le_trans wid_len (Nat.le_trans (wid_mem (ds := [.int m, .int u, .tuple ps, .tuple fs, .tuple ss]) (by simp)) hw), fun d hd => Nat.le_trans (wid_mem hd) (Nat.le_trans (wid_mem (ds := [.int m, .int u, .tuple ps, .tuple fs, .tuple ss]) (by simp)) hw)⟩
    have hfs : fs.length ≤ 13 ∧ ∀ d ∈ fs, wid d ≤ 13 := ⟨Nat.le_trans wid_len (Nat.le_trans (wid_mem (ds := [.int m, .int u, .tuple ps, .tuple fs, .tuple ss]) (by simp)) hw), fun d hd => Nat.le_trans (wid_mem hd) (Nat.le_trans (wid_mem (ds := [.int m, .int u, .tuple ps, .tuple fs, .tuple ss]) (by simp)) hw)⟩
    have hwp : wid (.tuple ps) ≤ 14 := Nat.le_trans (Nat.le_trans (wid_mem (ds := [.int m, .int u, .tuple ps, .tuple fs, .tuple ss]) (by simp)) hw) (by decide)
    have hwf : wid (.tuple fs) ≤ 14 := Nat.le_trans (Nat.le_trans (wid_mem (ds := [.int m, .int u, .tuple ps, .tuple fs, .tuple ss]) (by simp)) hw) (by decide)
    have hws : wid (.tuple ss) ≤ 14 := Nat.le_trans (Nat.le_trans (wid_mem (ds := [.int m, .int u, .tuple ps, .tuple fs, .tuple ss]) (by simp)) hw) (by decide)
    have wi : ∀ i, wid (.int i) ≤ 14 := fun i => by simp [wid]
    cases hx with
    | @tup a xs _ e ha => cases ha with
      | cons h1 r1 => cases r1 with
        | cons h2 r2 => cases r2 with
          | cons h3 r3 => cases r3 with
            | cons h4 r4 => cases r4 with
              | cons h5 r5 =>
                cases r5
                cases h1
                cases h2
                refine ⟨_, rfl, a, _, rfl, SqT.of (hid_same j H _ _ e), rfl, _, _, rfl, _, _, rfl, _, _, rfl, _, _, rfl, _, _, rfl, rfl, ?_⟩
                refine ⟨_, rfl, j, _, n, rfl, by decide, by decide, hj, by omega, fun way H1 w0 w1 b1 j1 => ?_⟩
                refine ⟨_, rfl, j, _, _, rfl, by decide, by decide, j1, by omega, fun more H2 p0 p1 b2 j2 => ⟨_, _, rfl, ?_⟩⟩
                have b12 := b1.trans b2
                have hj2 := jar_ne j2
                have t3 := Thj.but h3 b12
                have t4 := Thj.but h4 b12
                have t5 := Thj.but h5 b12
                have fin : ∀ v e H3, Same H2 H3 → wid e ≤ 14 → Th (hid j H3) v e → Q v H3 := fun v e H3 s hw t => k v e H3 hw t (b12.trans (KJ.But.same s)) (jar_more (jar_same j2 s) (by omega))
                refine ⟨_, rfl, rfl, _, rfl, ite2 (fun c => ?_) (fun c => ?_)⟩
                · refine mk_ret (D := { nx := _, rt := Q }) (mk_tup hj2 (mkA_cons (mk_var rfl (.int m)) (mkA_cons (mk_var rfl (.int u)) (mkA_cons (mk_catA hj2 (mk_var rfl t3) (mk_slice (lo := none) (hi := some ((1 : Nat) : Int)) hj2 (mk_var rfl t3) (fun _ _ q => q) (fun _ _ q => p_int (fun _ => vi_c) q)) (by have := @cutD_len ps none (some ((1 : Nat) : Int)); omega)) (mkA_cons (mk_var rfl t4) (mkA_cons (mk_var rfl t5) mkA_nil))))) (by simp)) fun v H3 s3 tt => fin v _ H3 s3 (w5 (wi _) (wi _) ?_ hwf hws) tt
                  exact w_cat (by have := @cutD_to ps 1; have := hps.1; omega) (fun d hd => Nat.le_trans (hps.2 d hd) (by decide)) fun d hd => Nat.le_trans (hps.2 d (cutD_mem hd)) (by decide)
                -- way 1
                have cut11 : ∀ (p : PyData), wid p ≤ 14 → wid (.tuple (cutD ps none (some ((11 : Nat) : Int)) ++ [p])) ≤ 14 := fun p hp =>
                  w_cat (by have := @cutD_to ps 11; simp only [List.length_cons, List.length_nil]; omega) (fun d hd => Nat.le_trans (hps.2 d (cutD_mem hd)) (by decide)) fun d hd => by rw [List.mem_singleton.mp hd]; exact hp
                refine ⟨_, rfl, rfl, _, rfl, ite2 (fun c => ?_) (fun c => ?_)⟩
                · refine mk_ret (D := { nx := _, rt := Q }) (mk_tup hj2 (mkA_cons (mk_var rfl (.int m)) (mkA_cons (mk_var rfl (.int u)) (mkA_cons (mk_catA hj2 (mk_slice (lo := none) (hi := some ((11 : Nat) : Int)) hj2 (mk_var rfl t3) (fun _ _ q => q) (fun _ _ q => p_int (fun _ => vi_c) q))
                    (mk_tup hj2 (mkA_cons (mk_tup hj2 (mkA_cons (mk_lit hj2 lit_int) (mkA_cons (mk_if (b := decide (V.int more = V.int 1)) (fun H1 => ti_test (vi_op (vi_var rfl) vi_c fun Q q => ⟨rfl, q⟩)) (mk_lit hj2 lit_int) (mk_lit hj2 lit_non)) (mkA_cons (mk_lit hj2 lit_pair) mkA_nil))) (by simp)) mkA_nil) (by simp))
                    (by have := @cutD_len ps none (some ((11 : Nat) : Int)); simp only [List.length_cons, List.length_nil]; omega)) (mkA_cons (mk_var rfl t4) (mkA_cons (mk_var rfl t5) mkA_nil))))) (by simp)) fun v H3 s3 tt => fin v _ H3 s3 (w5 (wi _) (wi _) (cut11 _ ?_) hwf hws) tt
                  refine wid_tup (by simp) fun d hd => ?_
                  simp only [List.mem_cons, List.not_mem_nil, or_false] at hd
                  rcases hd with rfl | rfl | rfl
                  · simp [wid]
                  · split <;> simp [wid]
                  · simp [wid, widAll]
                -- way 2
                refine ⟨_, rfl, rfl, _, rfl, ite2 (fun c => ?_) (fun c => ?_)⟩
                · refine mk_ret (D := { nx := _, rt := Q }) (mk_tup hj2 (mkA_cons (mk_var rfl (.int m)) (mkA_cons (mk_var rfl (.int u)) (mkA_cons (mk_catA hj2 (mk_slice (lo := none) (hi := some ((11 : Nat) : Int)) hj2 (mk_var rfl t3) (fun _ _ q => q) (fun _ _ q => p_int (fun _ => vi_c) q))
                    (mk_tup hj2 (mkA_cons (mk_tup hj2 (mkA_cons (mk_vi (i := m - 1) fun H1 => vi_op (vi_var rfl) vi_c fun Q q => ⟨_, _, rfl, rfl, q⟩) (mkA_cons (mk_lit hj2 lit_non) (mkA_cons (mk_tup hj2 (mkA_cons (mk_lit hj2 lit_str) (mkA_cons (mk_vi (i := u - 1 + more) fun H1 => vi_op (vi_op (vi_var rfl) vi_c fun Q q => ⟨_, _, rfl, rfl, q⟩) (vi_var rfl) fun Q q => ⟨_, _, rfl, rfl, q⟩) mkA_nil)) (by simp)) mkA_nil))) (by simp)) mkA_nil) (by simp))
                    (by have := @cutD_len ps none (some ((11 : Nat) : Int)); simp only [List.length_cons, List.length_nil]; omega)) (mkA_cons (mk_var rfl t4) (mkA_cons (mk_var rfl t5) mkA_nil))))) (by simp)) fun v H3 s3 tt => fin v _ H3 s3 (w5 (wi _) (wi _) (cut11 _ (by simp [wid, widAll])) hwf hws) tt
                -- way 3
                refine ⟨_, rfl, rfl, _, rfl, ite2 (fun c => ?_) (fun c => ?_)⟩
                · refine ⟨_, rfl, _, _, rfl, rfl, _, rfl, by omega, by omega, fun D hD => ?_⟩
                  have hjl : ∃ l, H2 j = some (.lst l) := by
                    obtain ⟨_, _, _, e, _⟩ := j2
                    exact ⟨_, e⟩
                  obtain ⟨jl, ejl⟩ := hjl
                  refine lc_range (lo := 0) (n := (12 + more).toNat) (fun n H' => Same H2 H' ∧ ∃ vs, H' D = some (.lst vs) ∧ ThAll (hid D H') vs ((List.range n).map plD)) ⟨same_upd hD, [], upd_same, .nil⟩ ?_ ?_
                  · rintro i H' hi ⟨s7, vs, eD, tvs⟩
                    refine ⟨rfl, ?_⟩
                    dsimp only [tYes]
                    rw [if_pos rfl]
                    have hDn : H' D ≠ none := by rw [eD]; simp
                    have M : ∀ {σ : L2.St}, σ[11]? = some (some (.int (0 + (i : Nat)))) → Mk D (tTup (tCons (tC (.int 0)) (tCons (tC .non) (tCons (tTup (tCons (tOp (rI0 fun i j => .int (i + j)) (tC (.int 1)) (tVar 11)) (tCons (tC (.int 997)) tNil))) tNil)))) σ H' (.tuple [.int 0, .none, .tuple [.int (1 + (0 + (i : Nat))), .int 997]]) := fun h11 =>
                      mk_tup hDn (mkA_cons (mk_lit hDn lit_int) (mkA_cons (mk_lit hDn lit_non) (mkA_cons (mk_tup hDn (mkA_cons (mk_vi fun H1 => vi_op vi_c (vi_var h11) fun Q q => ⟨_, _, rfl, rfl, q⟩) (mkA_cons (mk_lit hDn lit_int) mkA_nil)) (by simp)) mkA_nil))) (by simp)
                    refine M rfl H' (Same.refl H') _ fun v H4 s4 t4 => ?_
                    have lv : vs.length = i := by rw [all2 tvs, List.length_map, List.length_range]
                    refine ⟨vs, s4 _ _ eD, by rw [lv]; exact Nat.lt_of_lt_of_le hi (Nat.le_trans (show (12 + more).toNat ≤ 20 by omega) (by decide)), fun b o eb => ?_, vs ++ [v], upd_same, ?_⟩
                    · have nb : b ≠ D := fun z => by
                        rw [z, hD] at eb
                        cases eb
                      rw [upd_ne nb]
                      exact s4 _ _ (s7 _ _ eb)
                    · have sb : Same (hid D H4) (hid D (upd H4 D (.lst (vs ++ [v])))) := hid_but fun b o nb eb => by rw [upd_ne nb]; exact eb
                      rw [List.range_succ, List.map_append]
                      rw [Int.zero_add] at t4
                      exact ThAll.append (ThAll.mono (Sm.same sb) (ThAllj.same tvs s4)) (.cons (t4.mono (Sm.same sb)) .nil)
                  · rintro H' ⟨s7, vs, eD, tvs⟩
                    refine .inl ⟨D, vs, rfl, SqL.of eD, fun q hq => ?_⟩
                    have sq := same_upd (o := .tup vs) hq
                    have s8 := s7.trans sq
                    have tq : Th (hid j (upd H' q (.tup vs))) (.ref q) (.tuple ((List.range (12 + more).toNat).map plD)) := .tup (by rw [hid_ne (new_ne hq (same_ne s7 hj2))]; exact upd_same) (ThAllj.same (plD_all (s7 _ _ ejl) (fun _ z => by cases z) tvs) sq)
                    have hj8 := same_ne s8 hj2
                    refine mk_ret (D := { nx := _, rt := Q }) (mk_tup hj8 (mkA_cons (mk_var rfl (.int m)) (mkA_cons (mk_var rfl (.int u)) (mkA_cons (mk_var rfl tq) (mkA_cons (mk_var rfl (Thj.same t4 s8)) (mkA_cons (mk_var rfl (Thj.same t5 s8)) mkA_nil))))) (by simp)) fun v H5 s5 tt => fin v _ H5 (s8.trans s5) (w5 (wi _) (wi _) ?_ hwf hws) tt
                    refine wid_tup (by rw [List.length_map, List.length_range]; omega) fun d hd => ?_
                    obtain ⟨i, _, rfl⟩ := List.mem_map.mp hd
                    exact plD_wid i
                -- way 4
                refine ⟨_, rfl, rfl, _, rfl, ite2 (fun c => ?_) (fun c => ?_)⟩
                · refine mk_ret (D := { nx := _, rt := Q }) (mk_tup hj2 (mkA_cons (mk_vi (i := 3 + more) fun H1 => vi_op vi_c (vi_var rfl) fun Q q => ⟨_, _, rfl, rfl, q⟩) (mkA_cons (mk_lit hj2 lit_int) (mkA_cons (mk_lit hj2 (lit_tup litA_nil (by simp))) (mkA_cons (mk_lit hj2 (lit_tup (litA_cons lit_int litA_nil) (by simp))) (mkA_cons (mk_lit hj2 lit_pair) mkA_nil))))) (by simp)) fun v H3 s3 tt => fin v _ H3 s3 (by simp [wid, widAll]) tt
                -- way 5
                refine ⟨_, rfl, rfl, _, rfl, ite2 (fun c => ?_) (fun c => ?_)⟩
                · have em : more = ((more.toNat : Nat) : Int) := by omega
                  refine mk_ret (D := { nx := _, rt := Q }) (mk_tup hj2 (mkA_cons (mk_var rfl (.int m)) (mkA_cons (mk_var rfl (.int u)) (mkA_cons (mk_var rfl t3) (mkA_cons (mk_catA hj2 (mk_var rfl t4) (mk_slice (lo := none) (hi := some more) hj2 (mk_var rfl t4) (fun _ _ q => q) (fun _ _ q => p_int (fun _ => vi_var rfl) q)) (by have := @cutD_len fs none (some more); omega)) (mkA_cons (mk_var rfl t5) mkA_nil))))) (by simp)) fun v H3 s3 tt => fin v _ H3 s3 (w5 (wi _) (wi _) hwp ?_ hws) tt
                  refine w_cat ?_ (fun d hd => Nat.le_trans (hfs.2 d hd) (by decide)) fun d hd => Nat.le_trans (hfs.2 d (cutD_mem hd)) (by decide)
                  rw [em]
                  have := @cutD_to fs more.toNat
                  have := hfs.1
                  omega
                -- way 6
                refine ⟨_, rfl, rfl, _, rfl, ite2 (fun c => ?_) (fun c => ?_)⟩
                · refine mk_ret (D := { nx := _, rt := Q }) (mk_tup hj2 (mkA_cons (mk_var rfl (.int m)) (mkA_cons (mk_var rfl (.int u)) (mkA_cons (mk_var rfl t3) (mkA_cons (mk_var rfl t4) (mkA_cons (mk_rg (n := m + more) hj2 (fun H1 => vi_op (vi_var rfl) (vi_var rfl) fun Q q => ⟨_, _, rfl, rfl, q⟩) (by omega) (by omega)) mkA_nil))))) (by simp)) fun v H3 s3 tt => fin v _ H3 s3 (w5 (wi _) (wi _) hwp hwf ?_) tt
                  refine wid_tup (by rw [List.length_map, List.length_map, List.length_range]; omega) fun d hd => ?_
                  obtain ⟨i, _, rfl⟩ := List.mem_map.mp hd
                  exact wi _
                -- way 7
                have L : ∀ {σ : L2.St}, Lit j (tLst (tCons (tTup (tCons (tC (.int 999)) (tCons (tC (.int 1)) tNil))) (tCons (tTup (tCons (tC (.int 1000)) (tCons (tC (.int 1)) tNil))) (tCons (tTup (tCons (tC (.int 1)) (tCons (tC (.int 999)) tNil))) (tCons (tTup (tCons (tC (.int 1)) (tCons (tC (.int 1000)) tNil)))
                    (tCons (tTup (tCons (tUn (rU fun i => .int (-i)) (tC (.int 999))) (tCons (tC (.int 998)) tNil))) (tCons (tTup (tCons (tUn (rU fun i => .int (-i)) (tC (.int 1000))) (tCons (tC (.int 999)) tNil))) (tCons (tTup (tCons (tC (.int 2)) (tCons (tC (.int 4)) tNil))) tNil)))))))) σ _ :=
                  lit_lst (litA_cons lit_pair (litA_cons lit_pair (litA_cons lit_pair (litA_cons lit_pair (litA_cons (lit_tup (litA_cons lit_neg (litA_cons lit_int litA_nil)) (by simp)) (litA_cons (lit_tup (litA_cons lit_neg (litA_cons lit_int litA_nil)) (by simp)) (litA_cons lit_pair litA_nil))))))) (by simp)
                refine ⟨_, rfl, L H2 _ hj2 fun v H3 s3 tv => ?_⟩
                have tv' := tv
                cases tv with
                | lst e3 ta3 =>
                  refine one_of (K := K) (E := L2.E0) tv' (.inl rfl) (by simp) (by simp) (jar_same j2 s3) (by omega) fun x e H4 he te b4 j4 => ?_
                  have fin4 : ∀ v e H5, Same H4 H5 → wid e ≤ 14 → Th (hid j H5) v e → Q v H5 := fun v e H5 s hw t => k v e H5 hw t (b12.trans ((KJ.But.same s3).trans (b4.trans (KJ.But.same s)))) (jar_more (jar_same j4 s) (by omega))
                  have hj4 := jar_ne j4
                  have b34 := (KJ.But.same s3).trans b4
                  have we : wid e ≤ 2 := by
                    simp only [List.mem_cons, List.not_mem_nil, or_false] at he
                    rcases he with rfl | rfl | rfl | rfl | rfl | rfl | rfl <;> simp [wid, widAll]
                  refine mk_ret (D := { nx := _, rt := Q }) (mk_tup hj4 (mkA_cons (mk_var rfl (.int m)) (mkA_cons (mk_var rfl (.int u)) (mkA_cons (mk_tup hj4 (mkA_cons (mk_tup hj4 (mkA_cons (mk_lit hj4 lit_int) (mkA_cons (mk_lit hj4 lit_non) (mkA_cons (mk_var rfl te) mkA_nil))) (by simp)) mkA_nil) (by simp)) (mkA_cons (mk_var rfl (Thj.but t4 b34)) (mkA_cons (mk_var rfl (Thj.but t5 b34)) mkA_nil))))) (by simp)) fun v H5 s5 tt => fin4 v _ H5 s5 (w5 (wi _) (wi _) ?_ hwf hws) tt
                  simp only [wid, widAll, List.length_cons, List.length_nil]
                  omega
end
end KP

set_option Elab.async false
set_option linter.all false
set_option maxRecDepth 100000
set_option maxHeartbeats 4000000
/-! ### set(a list of ints); t[::-1] of a tuple -/
namespace KS
open PySem PySem.Spec PyProof.Rows L2
section
variable {P : Program} {w : World} {A : Around} {E : Value → Shared → Prop} {s : Shared}
/-- a set object with nothing in it -/
abbrev eSet (w : World) : Obj := { cls := .type "set", dict := none, data := .set #[] 0 (.fresh 0 0 (!w.params.followText "set-order")) }
abbrev Grew (h h' : Heap) : Prop := ∀ b o, h.get? b = some o → h'.get? b = some o
/-- what set.__init__ leaves -/
abbrev Made (w : World) (ns : List Int) (s : Shared) (r : Value) (z : Shared) : Prop :=
  r = .none ∧ ∃ g t n, z = { s with heap := g, toks := t } ∧ SetR w g s.heap.objs.size (fun j => decide (j ∈ ns)) n ∧ n ≤ ns.length ∧ Grew s.heap g
set_option maxHeartbeats 8000000 in
theorem set_of_list {a : Addr} {us : Array Value} (ns : List Int) {Q : Value → Shared → Prop} (hn : A.handled = none) (la : s.heap.IsList a us) (iu : IntsAre us.toList ns) (few : ns.length + 1 < scanBound)
    (q : ∀ (g : Heap) (t n : Nat), SetR w g s.heap.objs.size (fun j => decide (j ∈ ns)) n → n ≤ ns.length → Grew s.heap g → Q (.ref s.heap.objs.size) { s with heap := g, toks := t }) :
    wpAny (model P w) A (call (.type "set") [.ref a]) Q E s := by
  have us_len : us.size = ns.length := (Array.length_toList (xs := us)).symm.trans iu.length
  obtain ⟨_, _, hmro⟩ := F.called_set.mro
  have m0 := F.called_set.made
  have m1 := F.called_set.sub
  refine wpAny_call (codeAny_of_tree ?_)
  show wpAny _ _ (callAny (.type "set") _) _ _ _
  refine wpAny_pure ⟨Code.quiet_builtin _ (by decide +kernel), codeAny_builtin F.entry_type_call ?_⟩
  rw [Around.under_plain (weight_type_call_type "set" [.ref a] []) rfl]
  have m2 := F.called_set.notType
  have m3 := F.called_set.canCreate
  have m4 := F.typeCall_set_1 (.ref a)
  repeat (any_goals (first | assumption | wp_step))
  refine codeAny_mono (code_set_led1 (.ref a) (E := E) (Q₁ := fun x z => x = .ref s.heap.objs.size ∧ z = { s with heap := s.heap.push (eSet w) }) ⟨rfl, rfl⟩) fun r s₁ hr => ?_
  rcases r with e | (_ | _ | _ | x)
  · exact hr
  · exact hr.elim
  · exact hr.elim
  · exact hr.elim
  obtain ⟨rfl, rfl⟩ := hr
  have gS : (s.heap.push (eSet w)).get? s.heap.objs.size = some (eSet w) := Heap.get?_push_size _ rfl
  have tS : Shared.TypeIs { s with heap := s.heap.push (eSet w) } (.ref s.heap.objs.size) "set" := ⟨_, gS, rfl⟩
  have m5 := F.called_set.init.lookup
  have m6 := F.called_set.init.bind (.ref s.heap.objs.size)
  repeat (any_goals (first | assumption | wp_step))
  refine codeAny_mono (codeAny_call_builtin (R := wants (Made w ns s) E) F.called_set.init.plain F.entry_set_init (check_set_init_1 tS ?_)) fun r2 s2 hr2 => ?_
  · obtain ⟨⟨lc, ld, lda, lsl⟩, gl, lcls, nl, ldat⟩ := la
    simp only at lcls ldat
    subst lcls; subst ldat
    have gl1 : (s.heap.push (eSet w)).get? a = some { cls := .type "list", dict := ld, data := .seq us nl, slots := lsl } := Heap.get?_push_of_some _ gl
    have f1 := F.sub_list_set
    have f2 := F.sub_list_frozenset
    have f3 : (Value.type "list" == Value.type "dict") = false := by decide
    have la1 : (s.heap.push (eSet w)).IsList a us := ⟨_, gl1, rfl, nl, rfl⟩
    unfold Builtin.«set.__init__» noKeywords Builtin.Frozenset.updateFrom
    generalize kept : pyIter = it
    wp_walk
    subst kept
    refine wpAny_pyIter_list la1 (wpAny_bind (wpAny_runValue ?_))
    have lt : a < s.heap.objs.size := Heap.lt_size gl
    have sz : (s.heap.push (eSet w)).objs.size = s.heap.objs.size + 1 := Heap.size_push ..
    have n1 : a ≠ (s.heap.push (eSet w)).objs.size := by rw [sz]; exact Nat.ne_of_lt (Nat.lt_succ_of_lt lt)
    have n2 : s.heap.objs.size ∉ [(s.heap.push (eSet w)).objs.size, a] := by
      rw [sz]
      simp only [List.mem_cons, List.not_mem_nil, or_false, not_or]
      exact ⟨Nat.ne_of_lt (Nat.lt_succ_self _), Nat.ne_of_gt lt⟩
    have at' : ∀ (i : Nat) (v : Value), us[i]? = some v → ∃ k t, ns[i]? = some k ∧ v = .int k t := fun i v hv => by
      have hi : i < ns.length := by rw [← us_len]; exact (Array.getElem?_eq_some_iff.mp hv).1
      obtain ⟨t, e⟩ := IntsAre.int_at iu i v (by rw [Array.getElem?_toList]; exact hv)
      refine ⟨ns[i], t, List.getElem?_eq_getElem hi, e.trans ?_⟩
      rw [List.getD_eq_getElem?_getD, List.getElem?_eq_getElem hi] <;> rfl
    refine set_update_ints ((Walks.list (by simp [hn]) _ a n1 us).toS) s.heap.objs.size n2 ns us_len few at' (us.size - 0) 0 _ (by omega) (Nat.zero_le _)
      ⟨⟨_, Heap.get?_push_size _ rfl, rfl, rfl⟩, (la1.push _)⟩ ⟨0, Nat.le_refl 0, setR_new_at (Heap.get?_push_of_some _ gS)⟩ fun z n mv hz hR => ?_
    obtain ⟨g, gg, dd, tk, oo⟩ := z
    obtain rfl : gg = s.gens := mv.gens
    obtain rfl : dd = s.drawn := mv.drawn
    obtain rfl : oo = s.os := mv.os
    refine wpAny_pure ?_
    show wpAny _ _ (ret Value.none) _ _ _
    rw [us_len] at hz
    refine wpAny_pure ⟨rfl, g, tk, n, rfl, hR, hz, fun b o e => mv.heap b o ?_ (Heap.get?_push_of_some _ (Heap.get?_push_of_some _ e))⟩
    have hb : b < s.heap.objs.size := Heap.lt_size e
    simp only [List.mem_cons, List.not_mem_nil, or_false, not_or]
    exact ⟨Nat.ne_of_lt hb, by rw [sz]; exact Nat.ne_of_lt (Nat.lt_succ_of_lt hb)⟩
  · rcases r2 with e | (_ | _ | _ | x)
    · exact hr2
    · exact hr2.elim
    · exact hr2.elim
    · exact hr2.elim
    obtain ⟨rfl, g, tk, n, rfl, hR, hz, gr⟩ := hr2
    repeat (any_goals (first | assumption | wp_step))
    exact q _ _ _ hR hz gr
end
section
variable {X : Cx}
/-- set(xs), xs a list of ints -/
def rSetL (K : PySem.W.Frag) (w : World) : List V → Hp → VK → Prop := fun vs H Q => ∃ (a : Addr) (ns : List Int), vs = [.ref a] ∧ SqL K H a (ns.map V.int) ∧ ns.length ≤ 1000 ∧
  ∀ p n, H p = none → n ≤ ns.length → Q (.ref p) (upd H p (SetO w p (fun j => decide (j ∈ ns)) n))
theorem cr_setL (hc : X.calm = true) : CallR X (.type "set") (rSetL X.K X.w) := by
  intro pins s σ H vs us Q I r h
  obtain ⟨a, ns, rfl, hs, hl, q⟩ := h
  rw [Vals.ref1 r]
  obtain ⟨its, rv, pl, hz⟩ := I.list hs
  refine set_of_list ns (I.ok.hd hc) pl.isList (by simpa using intsAre_of rv) (by unfold scanBound; omega) fun g t n R hn gr => ?_
  exact ⟨.ref _, upd H s.heap.objs.size (SetO X.w s.heap.objs.size (fun j => decide (j ∈ ns)) n), I.laid (t' := t) (fun b u e => gr b u e) (Nat.le_refl _) (setO_new R), rfl, q _ _ (I.hok.fresh (Nat.le_refl _)) hn⟩
end

/-! ### t[::-1] -/
section
variable {prog : Program} {w : World} {A : Around} {E : Value → Shared → Prop} {s : Shared}
open HT
theorem adj_rev (n : Nat) : Builtin.Slice.sliceAdjust none none (-1) (n : Int) = ((n : Int) - 1, -1) := by
  unfold Builtin.Slice.sliceAdjust
  simp
theorem places_rev (n : Nat) : Builtin.Slice.slicePlaces ((n : Int) - 1) (-1) (-1) = n := by
  unfold Builtin.Slice.slicePlaces
  have h1 : ¬ ((-1 : Int) > 0) := by omega
  rw [if_neg h1]
  split
  · rw [show (- -1 : Int) = 1 by decide, Int.ediv_one]
    omega
  · omega
theorem applied_rev {sl : Addr} {n : Nat} {u : Tok} {Q : Int × Int × Nat → Shared → Prop} (hs : s.heap.IsSliceOf sl .none .none (.int (-1) u)) (h : Q ((n : Int) - 1, -1, n) s) :
    wpAny (model prog w) A (Builtin.Slice.sliceApplied (.ref sl) (pure (n : Int))) Q E s := by
  obtain ⟨so, hso, _, hf⟩ := id hs
  unfold Builtin.Slice.sliceApplied Builtin.Slice.sliceFields
  refine wpAny_bind (wpAny_bind (wpAny_field hso hf (x := .none) rfl (wpAny_bind (wpAny_field hso hf (x := .none) rfl (wpAny_bind (wpAny_field hso hf (x := .int (-1) u) rfl (wpAny_pure ?_)))))))
  refine wpAny_bind (slicePart_int ?_)
  show wpAny _ _ (if ((-1 : Int) == 0) = true then _ else _) _ _ s
  rw [if_neg (by decide)]
  refine wpAny_bind (slicePart_none (wpAny_bind (slicePart_none (wpAny_bind (wpAny_pure ?_)))))
  show wpAny _ _ (match Builtin.Slice.sliceAdjust none none (-1) (n : Int) with | (lo, hi) => pure (lo, (-1 : Int), Builtin.Slice.slicePlaces lo hi (-1))) _ _ s
  rw [adj_rev n]
  show wpAny _ _ (pure ((n : Int) - 1, (-1 : Int), Builtin.Slice.slicePlaces ((n : Int) - 1) (-1) (-1))) _ _ s
  rw [places_rev]
  exact wpAny_pure h
theorem fm_congr {α β : Type} {f g : α → Option β} : ∀ {l : List α}, (∀ x ∈ l, f x = g x) → l.filterMap f = l.filterMap g
  | [], _ => rfl
  | x :: l, h => by rw [List.filterMap_cons, List.filterMap_cons, h x List.mem_cons_self, fm_congr (l := l) fun y hy => h y (List.mem_cons_of_mem _ hy)]
theorem pick_rev (xs : Array Value) : ((List.range xs.size).filterMap fun (k : Nat) => xs[((xs.size : Int) - 1 + (k : Int) * (-1)).toNat]?).toArray = xs.toList.reverse.toArray := by
  have e : (List.range xs.size).filterMap (fun (k : Nat) => xs[((xs.size : Int) - 1 + (k : Int) * (-1)).toNat]?) = ((List.range xs.size).map fun k => xs.size - 1 - k).filterMap (xs[·]?) := by
    rw [List.filterMap_map]
    refine fm_congr fun k hk => ?_
    have := List.mem_range.mp hk
    show xs[((xs.size : Int) - 1 + (k : Int) * (-1)).toNat]? = xs[xs.size - 1 - k]?
    congr 1
    omega
  rw [e, PySem.W.krv_range, List.filterMap_reverse, PySem.W.krv_all]
theorem rev_tup {t sl : Addr} {us : Array Value} {u : Tok} {Q : Value → Shared → Prop} (ht : IsTup s.heap t us) (hs : s.heap.IsSliceOf sl .none .none (.int (-1) u)) (hz : us.size ≤ sizeLine)
    (h : Q (.ref s.heap.objs.size) { s with heap := s.heap.push { cls := .type "tuple", data := .seq us.toList.reverse.toArray } }) : wpAny (model prog w) A (getItem (.ref t) (.ref sl)) Q E s := by
  have ok : sizeOk (.seq us.toList.reverse.toArray) := by
    show us.toList.reverse.toArray.size ≤ sizeLine
    rw [List.size_toArray, List.length_reverse, Array.length_toList]
    exact hz
  obtain ⟨so, hso, hsc, _⟩ := id hs
  have tS : s.TypeIs (.ref sl) "slice" := ⟨so, hso, hsc⟩
  unfold getItem
  try with_reducible refine wpAny_holding ?_
  first | refine wpAny_bind (wpAny_pure ?_) | skip
  refine wpAny_bind (wpAny_sequenceKey ht.typeIs (by decide) ?_)
  refine wpAny_bind (wpAny_callSpecial?_slot (name := Str.ofString "__getitem__") ht.typeIs PyProof.Rows.slot_tuple_getitem (wpAny_call_entry PyProof.Rows.slot_tuple_getitem ht.typeIs entry_tuple_getitem ?_ (args_tuple_getitem _ _)))
  show wpAny _ _ (Builtin.Tuple.tupleItemsOf (.ref t) >>= _) _ _ s
  refine wpAny_bind (tupleItemsOf_ ht (wpAny_bind (wpAny_typeOf tS ?_)))
  rw [if_pos (by decide)]
  refine wpAny_bind (applied_rev hs ?_)
  have no : ¬ (((us.size : Int) - 1 == 0 && (-1 : Int) == 1 && us.size == us.size) = true) := by
    rw [show ((-1 : Int) == 1) = false by decide, Bool.and_false, Bool.false_and]
    exact Bool.false_ne_true
  show wpAny _ _ (if ((us.size : Int) - 1 == 0 && (-1 : Int) == 1 && us.size == us.size) = true then _ else _) _ _ s
  rw [if_neg no, pick_rev]
  first
    | exact wpAny_bind (m := Builtin.Tuple.tupleExact _) (wpAny_newObj_type (wpAny_pure ⟨_, rfl, wpAny_pure h⟩) ok)
    | exact wpAny_bind (m := Builtin.Tuple.tupleExact _) (wpAny_newObj_type (wpAny_bind (wpAny_pure (wpAny_pure ⟨_, rfl, wpAny_pure h⟩))) ok)
    | exact wpAny_bind (wpAny_bind (m := Builtin.Tuple.tupleExact _) (wpAny_newObj_type (wpAny_pure (wpAny_pure ⟨_, rfl, wpAny_pure h⟩)) ok))
    | exact wpAny_bind (wpAny_bind (m := Builtin.Tuple.tupleExact _) (wpAny_newObj_type (wpAny_pure ⟨_, rfl, wpAny_pure h⟩) ok))
end
section
variable {X : Cx}
def tRevT (K : PySem.W.Frag) (te : TE) : TE := fun σ H Q => te σ H fun x H1 => ∃ a xs, x = .ref a ∧ SqT K H1 a xs ∧ ∀ p, H1 p = none → Q (.ref p) (upd H1 p (.tup xs.reverse))
theorem pe_revT {e : Expr} {te : TE} {k : Nat} {p1 p2 p3 pos : Pos} (he : PE X e te) : PE X (.Subscript e (.Slice none none (some (.UnaryOp .USub (.Constant (.int 1) k p1) p2)) p3) pos) (tRevT X.K te) := by
  refine ⟨fun pins s σ H Q I h => Subscript_ (thn (he.run pins s σ H _ I h) fun v s1 ⟨x, H1, I1, r1, q1⟩ => ?_)⟩
  obtain ⟨a, xs, rfl, hx, q⟩ := q1
  cases r1
  have st : PO X (some (.UnaryOp .USub (.Constant (.int 1) k p1) p2)) (tPart (tUn (rU fun i => .int (-i)) (tC (.int 1)))) := po_some (pe_un un_neg pe_int)
  refine wpAny_Slice (thn (po_none.run pins s1 σ H1 (fun o G => o = none ∧ G = H1) I1 ⟨rfl, rfl⟩) fun vl s2 ⟨l, H2, I2, pl, el, e2⟩ => ?_)
  subst el e2
  refine thn (po_none.run pins s2 σ H2 (fun o G => o = none ∧ G = H2) I2 ⟨rfl, rfl⟩) fun vu s3 ⟨u, H3, I3, pu, eu, e3⟩ => ?_
  subst eu e3
  refine thn (st.run pins s3 σ H3 (fun o G => o = some (-1) ∧ G = H3) I3 ⟨1, rfl, -1, rfl, rfl, rfl⟩) fun vs s4 ⟨o, H4, I4, ps, eo, e4⟩ => ?_
  subst eo e4
  cases pl
  cases pu
  cases ps with
  | int _ tk =>
    have I5 : Inv X pins σ H4 { s4 with heap := s4.heap.push { cls := .type "slice", data := .fields #[.none, .none, .int (-1) tk] } } := I4.kept (t' := s4.toks) fun b ob q => Heap.get?_push_of_some _ q
    obtain ⟨its, r, ht, hz⟩ := I5.tuple hx
    have hlen := r.length
    show wpAny (model X.prog X.w) X.A (subscriptTail e (.Slice none none (some (.UnaryOp .USub (.Constant (.int 1) k p1) p2)) p3) (.ref a) (.ref s4.heap.objs.size)) (EP X pins σ Q) X.xe { s4 with heap := s4.heap.push { cls := .type "slice", data := .fields #[.none, .none, .int (-1) tk] } }
    refine tail_any (ops := [.ref a, .ref s4.heap.objs.size]) ht.typeIs PyProof.Rows.slot_tuple_getitem.lookup ?_ (by with_unfolding_all rfl)
    refine rev_tup ht (Heap.IsSliceOf.new _ .none .none (.int (-1) tk)) (by rw [List.size_toArray, ← hlen]; exact hz) ?_
    refine ⟨.ref _, _, I5.laid (t' := s4.toks) (o := .tup xs.reverse) (fun b ob q => Heap.get?_push_of_some _ q) (Nat.le_refl _) ?_, rfl, q _ (I5.hok.fresh (Nat.le_refl _))⟩
    exact ⟨by rw [List.length_reverse]; exact hz, _, r.reverse, IsTup.new _ _⟩
end
end KS

set_option Elab.async false
set_option linter.all false
set_option maxRecDepth 100000
set_option maxHeartbeats 2000000
/-! ### drawn ascending tuples of indexes -/
namespace KP
open PySem PySem.Spec PyProof.Rows L2 KX KT KJ KS
structure TxD (mg : Str → Option Value) : Prop extends TxL mg where
  set : mg "set" = none
  sorted : mg "sorted" = none
  list : mg "list" = none
  repr : mg "repr" = none
/-- a tuple of a few ints -/
def spLot : Sp := fun vs H Q _ => ∃ j m n, vs = [.ref j, .int m] ∧ 1 ≤ m ∧ m ≤ 4 ∧ JarAt H j n ∧ n ≤ 900000 ∧ ∀ v ds H', ds.length ≤ 5 → (∀ d ∈ ds, ∃ i, d = .int i) → Th (hid j H') v (.tuple ds) → KJ.But j H H' → JarAt H' j (n + 2) → Q v H'
abbrev nLot : List Str := ["jar", "many", "found", "keep", "at"]
section
variable {P : Program} {w : World} {K : PySem.W.Frag} {mg : Str → Option Value} {base : Heap}
theorem scLot : FnScope nLot ["jar", "many"] (defScope lLot) := ⟨rfl, rfl, rfl, by decide +kernel, rfl, by decide +kernel, by decide +kernel⟩
theorem ok_lot {f fD : Addr} {fd fdD : FuncData} (F : Fun K "_law_lot" "_law_lot" lLot f fd) (T : TxD mg)
    (FD : FnOk P w K mg base CX0 1 fD fdD ["jar", "top"] spDip) (mD : mg "_law_dip" = some (.ref fD)) (kD : PySem.W.keepIn K (.ref fD) = true) (bD : Binds K fdD ["jar", "top"] []) :
    FnOk P w K mg base CX0 2 f fd ["jar", "many"] spLot := by
  refine F.ok scLot (fun vs H Q E h => ?_) (fun cdv A outer s H vs Q E hr h => ?_)
  · obtain ⟨j, m, n, rfl, _⟩ := h
    rfl
  · obtain ⟨j, m, n, rfl, m1, m4, hj, hn, k⟩ := h
    refine ⟨_, pss_cons (ps_setLc (i := 2) (own := [("at", 4)]) (g := gName 4) rfl scLot.nd rfl rfl (sw_true rfl rfl rfl (by decide +kernel)) (pi_range1 rfl T.range (pa_cons (pv 1) pa_nil)) (blkOk_by (N := nLot) (sc := defScope lLot) (by decide +kernel))
          (fun _ _ _ _ _ => pg_name (i := 4) scLot.nd rfl (Or.inl rfl))
          (fun _ _ _ _ _ => pts_one (pt_cmpR op_eq (pe_op op_and (pe_op op_shr (pe_ix (r := rIx K) (by exact ix_seq) (pv 0) pe_int (fun _ _ => rfl)) (pv 4)) pe_int) pe_int (nomark _)))
          (fun _ _ _ _ _ => pv 4))
      (pss_cons (ps_set (i := 3) scLot.nd rfl (Or.inl rfl) (pe_call FD hr rfl mD kD bD .nil pass0 (pa_cons (pv 0) (pa_cons (pv 1) pa_nil))))
      (pss_one (ps_ret (pe_slice sl_tupA (pe_tupleOf (by rfl) T.tuple (pe_callB (cr_sortedSet rfl) (by rfl) T.sorted (by decide +kernel) (pa_cons (pe_callTy (cr_setL rfl) (by rfl) T.set (by decide +kernel)
          (pa_cons (pe_op op_cat (pv 2) (pe_lst (pa_cons (pv 3) pa_nil))) pa_nil)) pa_nil))) po_none (po_some (pe_op op_add pe_int (pe_call FD hr rfl mD kD bD .nil pass0 (pa_cons (pv 0) (pa_cons (pv 1) pa_nil))))))))), ?_⟩
    refine ⟨_, rfl, _, rfl, by omega, by omega, fun D hD => ?_⟩
    obtain ⟨ja, jb, jc, ej, _⟩ := id hj
    refine lc_range (lo := 0) (n := m.toNat) (fun i H' => Same H H' ∧ ∃ ns : List Int, ns.length ≤ i ∧ H' D = some (.lst (ns.map V.int))) ⟨same_upd hD, [], Nat.le_refl _, upd_same⟩ ?_ ?_
    · rintro i H' hi ⟨s7, ns, ln, eD⟩
      refine ⟨rfl, ?_⟩
      refine ⟨_, rfl, .inl ⟨j, _, _, .int jb, rfl, rfl, SqL.of (s7 _ _ ej), rfl, ?_⟩⟩
      refine ⟨_, rfl, _, _, rfl, rfl, (by show (0 : Int) ≤ 0 + (i : Int); omega), _, _, rfl, rfl, rfl, _, rfl, ?_⟩
      refine ite2 (fun c => ?_) (fun c => ?_)
      · refine ⟨_, rfl, _, eD, ?_, fun b o eb => ?_, ns ++ [0 + (i : Int)], ?_, ?_⟩
        · rw [List.length_map]
          exact Nat.lt_of_le_of_lt (show ns.length ≤ 4 by omega) (by decide)
        · have nb : b ≠ D := fun z => by
            rw [z, hD] at eb
            cases eb
          rw [upd_ne nb]
          exact s7 _ _ eb
        · rw [List.length_append, List.length_singleton]
          omega
        · rw [upd_same, List.map_append]
          rfl
      · exact ⟨s7, ns, Nat.le_succ_of_le ln, eD⟩
    · rintro H1 ⟨s1, ns, ln, eD⟩
      have nD : D ≠ j := fun z => by
        rw [z, ej] at hD
        cases hD
      refine ⟨_, rfl, _, rfl, j, m, n, rfl, by omega, by omega, jar_same hj s1, by omega, fun kp H2 k0 k1 b2 j2 => ?_⟩
      have eD2 : H2 D = some (.lst (ns.map V.int)) := b2 _ _ nD eD
      obtain ⟨ja2, jb2, jc2, ej2, _⟩ := id j2
      refine ⟨_, rfl, _, rfl, (by show 1 ≤ sizeLine; decide), fun l hl => ?_⟩
      have sl := same_upd (o := .lst [V.int kp]) hl
      refine ⟨D, l, _, _, rfl, rfl, sl _ _ eD2, upd_same, ?_, fun p hp => ?_⟩
      · rw [List.length_map]
        exact Nat.le_trans (show ns.length + 1 ≤ 10 by omega) (by decide)
      have sp := same_upd (o := .lst (ns.map V.int ++ [V.int kp])) hp
      have em : ns.map V.int ++ [V.int kp] = (ns ++ [kp]).map V.int := by rw [List.map_append]; rfl
      have ln5 : (ns ++ [kp]).length ≤ 5 := by rw [List.length_append, List.length_singleton]; omega
      refine ⟨p, ns ++ [kp], rfl, SqL.of (by rw [upd_same, em]), by omega, fun q c hq hc => ?_⟩
      have sq := same_upd (o := SetO w q (fun j => decide (j ∈ ns ++ [kp])) c) hq
      refine ⟨q, _, c, rfl, upd_same, by omega, fun ms r _ _ lm hr' => ?_⟩
      have sr := same_upd (o := .lst (ms.map V.int)) hr'
      refine .inl ⟨r, _, rfl, SqL.of upd_same, fun t ht => ?_⟩
      have st := same_upd (o := .tup (ms.map V.int)) ht
      have s3 := ((sl.trans sp).trans sq).trans (sr.trans st)
      have nT : t ≠ j := new_ne ht (jar_ne (jar_same j2 (((sl.trans sp).trans sq).trans sr)))
      have j3 := jar_same j2 s3
      refine ⟨_, rfl, _, rfl, j, m, _, rfl, by omega, by omega, j3, by omega, fun r2 H3 r0 r1 b3 j4 => ⟨_, _, rfl, rfl, _, rfl, ?_⟩⟩
      have eT3 : H3 t = some (.tup (ms.map V.int)) := b3 _ _ nT upd_same
      have bb : KJ.But j H H3 := (KJ.But.same s1).trans (b2.trans ((KJ.But.same s3).trans b3))
      have ml : (ms.map PyData.int).length ≤ 5 := by rw [List.length_map]; omega
      have mi : ∀ d ∈ ms.map PyData.int, ∃ i, d = .int i := fun d hd => by
        obtain ⟨i, _, e⟩ := List.mem_map.mp hd
        exact ⟨i, e.symm⟩
      have ta := thAll_ints (H := hid j H3) ms
      refine ⟨t, _, rfl, SqT.of eT3, fun z => ?_, fun _ p2 hp2 => ?_⟩
      · exact k _ _ H3 ml mi (.tup (by rw [hid_ne nT]; exact eT3) ta) bb j4
      · have s4 := same_upd (o := .tup (cutV (ms.map V.int) none (some (1 + r2)))) hp2
        refine k _ (cutD (ms.map PyData.int) none (some (1 + r2))) _ (Nat.le_trans cutD_len ml) (fun d hd => mi d (cutD_mem hd)) (.tup (by rw [hid_ne (new_ne hp2 (jar_ne j4))]; exact upd_same) (ThAllj.same (ta.cut _ _) s4)) (bb.trans (KJ.But.same s4)) (jar_same j4 s4)
end
end KP

set_option Elab.async false
set_option linter.all false
set_option maxRecDepth 100000
set_option maxHeartbeats 4000000
/-! ### drawn nets -/
namespace KP
open PySem PySem.Spec PyProof.Rows L2 KX KT KJ KS
theorem iteB {b : Bool} {A B : Prop} (h1 : b = true → A) (h2 : b = false → B) : if b = true then A else B := by
  cases b with
  | true => rw [if_pos rfl]; exact h1 rfl
  | false => rw [if_neg Bool.false_ne_true]; exact h2 rfl
theorem mk_lst {j : Addr} {σ : L2.St} {H : Hp} {ta : TA} {ds : List PyData} (hj : H j ≠ none) (h : MkA j ta σ H ds) (hl : ds.length ≤ 1000) : Mk j (tLst ta) σ H (.list ds) := fun H1 s Q q =>
  h H1 s _ fun vs H2 s2 t2 => ⟨Nat.le_trans (by rw [all2 t2]; exact hl) (by decide), fun p hp => by
    have sp := same_upd (o := .lst vs) hp
    have np := new_ne hp (same_ne (s.trans s2) hj)
    exact q _ _ (s2.trans sp) (.lst (by rw [hid_ne np]; exact upd_same) (ThAllj.same t2 sp))⟩
theorem mk_i {j : Addr} {σ : L2.St} {H : Hp} {i : Int} : Mk j (tC (.int i)) σ H (.int i) := mk_vi fun _ => vi_c
theorem pl_flat {i : Int} {a s : PyData} (ha : a = .none ∨ ∃ k, a = .int k) (hs : (∃ k, s = .tuple [.str "x", .int k]) ∨ isPair s) : Flat (.tuple [.int i, a, s]) ∧ wid (.tuple [.int i, a, s]) ≤ 3 := by
  have ok : PyData.strOk "x" = true := by decide +kernel
  rcases hs with ⟨k, rfl⟩ | ⟨x, y, rfl⟩ <;> rcases ha with rfl | ⟨l, rfl⟩ <;>
    exact ⟨⟨by simp [PyData.canLay0, PyData.canLayAll0, ok], by simp [PyData.depth, PyData.depthAll], by simp [PyData.hasDict, PyData.hasDictAll]⟩, by simp [wid, widAll]⟩
theorem flat_shapedL {ds : List PyData} (h : ∀ d ∈ ds, Flat d) : SeqAt.shaped (.list ds) = true ∧ (PyData.list ds).hasDict = false := by
  obtain ⟨a, b, c⟩ := flat_all h
  refine ⟨shaped_of (by simpa [PyData.canLay0] using a) ?_, by simpa [PyData.hasDict] using c⟩
  simp only [PyData.depth]
  omega
def spMakeNet : Sp := fun vs H Q _ => ∃ j n, vs = [.ref j, .int 4] ∧ JarAt H j n ∧ n ≤ 800000 ∧ ∀ v d m u ps fs ss H', NetForm d m u ps fs ss → Th (hid j H') v d → KJ.But j H H' → JarAt H' j (n + 100) → Q v H'
abbrev nMk : List Str := ["jar", "most", "many", "unknowns", "pipes", "turn", "start", "aims", "share", "pipe", "at"]
section
variable {P : Program} {w : World} {K : PySem.W.Frag} {mg : Str → Option Value} {base : Heap}
theorem scMk : FnScope nMk ["jar", "most"] (defScope lNet) := ⟨rfl, rfl, rfl, by decide +kernel, rfl, by decide +kernel, by decide +kernel⟩
theorem ok_make {f fD fO fP fL : Addr} {fd fdD fdO fdP fdL : FuncData} (F : Fun K "_law_net" "_law_net" lNet f fd) (T : TxD mg)
    (FD : FnOk P w K mg base CX0 1 fD fdD ["jar", "top"] spDip) (mD : mg "_law_dip" = some (.ref fD)) (kD : PySem.W.keepIn K (.ref fD) = true) (bD : Binds K fdD ["jar", "top"] [])
    (FO : FnOk P w K mg base CX0 2 fO fdO ["jar", "some"] (spOne K)) (mO : mg "_law_one_of" = some (.ref fO)) (kO : PySem.W.keepIn K (.ref fO) = true) (bO : Binds K fdO ["jar", "some"] [])
    (FP : FnOk P w K mg base CX0 3 fP fdP ["jar"] spPart) (mP : mg "_law_told_part" = some (.ref fP)) (kP : PySem.W.keepIn K (.ref fP) = true) (bP : Binds K fdP ["jar"] [])
    (FL : FnOk P w K mg base CX0 2 fL fdL ["jar", "many"] spLot) (mL : mg "_law_lot" = some (.ref fL)) (kL : PySem.W.keepIn K (.ref fL) = true) (bL : Binds K fdL ["jar", "many"] []) :
    FnOk P w K mg base CX0 4 f fd ["jar", "most"] spMakeNet := by
  refine F.ok scMk (fun vs H Q E h => ?_) (fun cdv A outer s H vs Q E hr h => ?_)
  · obtain ⟨j, n, rfl, _⟩ := h
    rfl
  · obtain ⟨j, n, rfl, hj, hn, k⟩ := h
    have hr1 : Room 1 _ := hr.mono (by decide)
    have hr2 : Room 2 _ := hr.mono (by decide)
    have hu : (A.deeper (envOfC "_law_net" (defScope lNet) s.heap.objs.size f cdv)).units + 65 < cLine := by have := hr.un; omega
    refine ⟨_, pss_cons (ps_set (i := 2) scMk.nd rfl (Or.inl rfl) (pe_call FO hr2 rfl mO kO bO .nil pass0 (pa_cons (pv 0) (pa_cons (pe_slice sl_list (pe_lst (pa_cons pe_int (pa_cons pe_int (pa_cons pe_int (pa_cons pe_int (pa_cons pe_int (pa_cons pe_int pa_nil))))))) po_none (po_some (pe_op op_add (pv 1) pe_int))) pa_nil))))
      (pss_cons (ps_par (i := 3) (j := 4) (by rfl) scMk.nd rfl rfl (by decide) rfl rfl (pa_cons (pe_call FO hr2 rfl mO kO bO .nil pass0 (pa_cons (pv 0) (pa_cons (pe_lst (pa_cons pe_int (pa_cons pe_int (pa_cons pe_int (pa_cons pe_int (pa_cons pe_int (pa_cons pe_int
          (pa_cons (pe_ifExp (pt_cmpR op_eq (pv 2) pe_int (nomark _)) pe_int pe_int) pa_nil)))))))) pa_nil))) (pa_cons (pe_lst pa_nil) pa_nil)) (by rfl))
      (pss_cons (ps_for PassesOwn.never rfl (pi_range1 rfl T.range (pa_cons (pe_call FO hr2 rfl mO kO bO .nil pass0 (pa_cons (pv 0) (pa_cons (pe_lst (pa_cons pe_int (pa_cons pe_int (pa_cons pe_int (pa_cons pe_int (pa_cons pe_int (pa_cons pe_int (pa_cons pe_int (pa_cons pe_int (pa_cons pe_int pa_nil)))))))))) pa_nil))) pa_nil)) (pg_name (i := 5) scMk.nd rfl (Or.inl rfl))
        (pss_cons (ps_set (i := 6) scMk.nd rfl (by first | exact Or.inl rfl | exact Or.inr rfl) (pe_call FD hr1 rfl mD kD bD .nil pass0 (pa_cons (pv 0) (pa_cons (pv 2) pa_nil))))
        (pss_cons (ps_set (i := 7) scMk.nd rfl (Or.inl rfl) (pe_op op_cat (pe_lc (own := [("at", 10)]) (g := gName 10) rfl scMk.nd (pi_range1 rfl T.range (pa_cons (pv 2) pa_nil)) (blkOk_by (N := nMk) (sc := defScope lNet) (by decide +kernel))
            (fun _ _ _ _ _ => pg_name (i := 10) scMk.nd rfl (Or.inl rfl)) (fun _ _ _ _ _ => pts_one (pt_cmpR op_ne (pv 10) (pv 6) (nomark _))) (fun _ _ _ _ _ => pv 10)) (pe_lst (pa_cons pe_non pa_nil))))
        (Evl.pss_cut (ps_set (i := 8) scMk.nd rfl (Or.inl rfl) (pe_ifExp (PW.pt (pw_and (pt_cmpR op_gt (pv 3) pe_int (nomark _)) (pw_and1 (pt_cmpR op_gt (pe_call FD hr1 rfl mD kD bD .nil pass0 (pa_cons (pv 0) (pa_cons pe_int pa_nil))) pe_int (nomark _)))))
            (pe_tup (pa_cons pe_str (pa_cons (pe_call FD hr1 rfl mD kD bD .nil pass0 (pa_cons (pv 0) (pa_cons (pv 3) pa_nil))) pa_nil))) (pe_call FP hr rfl mP kP bP .nil pass0 (pa_cons (pv 0) pa_nil))))
        (pss_cons (ps_set (i := 9) scMk.nd rfl (Or.inl rfl) (pe_tup (pa_cons (pv 6) (pa_cons (pe_call FO hr2 rfl mO kO bO .nil pass0 (pa_cons (pv 0) (pa_cons (pv 7) pa_nil))) (pa_cons (pv 8) pa_nil)))))
        (pss_one (ps_set (i := 4) scMk.nd rfl (Or.inl rfl) (pe_op op_cat (pv 4) (pe_ifExp (pt_cmpR (op_notInD hu) (pv 9) (pv 4) (by rfl)) (pe_lst (pa_cons (pv 9) pa_nil)) (pe_lst pa_nil))))))))))
      (pss_one (ps_ret (pe_tup (pa_cons (pv 2) (pa_cons (pv 3) (pa_cons (pe_tupleOf (by rfl) T.tuple (pv 4)) (pa_cons (pe_call FL hr2 rfl mL kL bL .nil pass0 (pa_cons (pv 0) (pa_cons (pv 2) pa_nil))) (pa_cons (pe_call FL hr2 rfl mL kL bL .nil pass0 (pa_cons (pv 0) (pa_cons (pv 2) pa_nil))) pa_nil)))))))))), ?_⟩
    -- many
    have hjn := jar_ne hj
    refine ⟨_, rfl, by decide, fun l0 hl0 => ⟨_, rfl, _, _, rfl, rfl, _, rfl, l0, _, rfl, SqL.of upd_same, fun p0 hp0 => ?_⟩⟩
    have sl0 := same_upd (o := .lst [V.int 1, .int 2, .int 2, .int 3, .int 3, .int 4]) hl0
    have sp0 := same_upd (o := .lst (cutV [V.int 1, .int 2, .int 2, .int 3, .int 3, .int 4] none (some (4 + 2)))) hp0
    have s0 := sl0.trans sp0
    have hj0 := jar_same hj s0
    have np0 := new_ne hp0 (jar_ne (jar_same hj sl0))
    refine one_of (K := K) (E := L2.E0) (ds := cutD [.int 1, .int 2, .int 2, .int 3, .int 3, .int 4] none (some (4 + 2))) (.lst (by rw [hid_ne np0]; exact upd_same) (ThAll.cut (thAll_ints [1, 2, 2, 3, 3, 4]) none (some (4 + 2)))) (.inl rfl)
      (fun z => by have z' : (6 : Nat) = 0 := congrArg List.length z; omega) (Nat.le_trans cutD_len (by decide)) hj0 (by omega) fun x e H1 he te b1 j1 => ?_
    obtain ⟨m, rfl, m1, m4⟩ : ∃ m, e = .int m ∧ 1 ≤ m ∧ m ≤ 4 := by
      have := cutD_mem he
      simp only [List.mem_cons, List.not_mem_nil, or_false] at this
      rcases this with rfl | rfl | rfl | rfl | rfl | rfl <;> exact ⟨_, rfl, by decide, by decide⟩
    cases te
    have b1 := (KJ.But.same s0).trans b1
    clear hj0 s0 sp0 np0
    -- unknowns, pipes
    have hj1 := jar_ne j1
    have M : Mk j (tLst (tCons (tC (.int 0)) (tCons (tC (.int 1)) (tCons (tC (.int 1)) (tCons (tC (.int 2)) (tCons (tC (.int 2)) (tCons (tC (.int 3)) (tCons (tIf (tTest (tOp rEq (tVar 2) (tC (.int 4)))) (tC (.int 3)) (tC (.int 4))) tNil)))))))) ((L2.start nMk [V.ref j, .int 4]).set 2 (some (.int m))) H1
        (.list [.int 0, .int 1, .int 1, .int 2, .int 2, .int 3, if decide (V.int m = V.int 4) = true then .int 3 else .int 4]) :=
      mk_lst hj1 (mkA_cons mk_i (mkA_cons mk_i (mkA_cons mk_i (mkA_cons mk_i (mkA_cons mk_i (mkA_cons mk_i (mkA_cons (mk_if (fun H1 => ti_test (vi_op (vi_var rfl) vi_c fun Q q => ⟨rfl, q⟩)) mk_i mk_i) mkA_nil))))))) (by simp)
    refine ⟨_, rfl, M H1 (Same.refl H1) _ fun v2 H2 s2 tv2 => ?_⟩
    have tv2' := tv2
    cases tv2 with
    | lst e2 ta2 =>
    refine one_of (K := K) (E := L2.E0) tv2' (.inl rfl) (by simp) (by simp) (jar_same j1 s2) (by omega) fun x e H3 he te b3 j3 => ?_
    obtain ⟨u, rfl, u0, u4⟩ : ∃ u, e = .int u ∧ 0 ≤ u ∧ u ≤ 4 := by
      simp only [List.mem_cons, List.not_mem_nil, or_false] at he
      rcases he with rfl | rfl | rfl | rfl | rfl | rfl | rfl
      iterate 6 exact ⟨_, rfl, by decide, by decide⟩
      split <;> exact ⟨_, rfl, by decide, by decide⟩
    cases te
    refine ⟨by decide, fun pp hpp => ⟨_, _, rfl, ?_⟩⟩
    have spp := same_upd (o := .lst []) hpp
    have npp : pp ≠ j := new_ne hpp (jar_ne j3)
    have bA := b1.trans ((KJ.But.same s2).trans (b3.trans (KJ.But.same spp)))
    have jA := jar_same j3 spp
    have eA : upd H3 pp (.lst []) pp = some (.lst []) := upd_same
    generalize upd H3 pp (.lst []) = HA at bA jA eA ⊢
    clear spp hpp b3 j3 s2 ta2 tv2' e2 j1 b1
    -- the loop
    have L : ∀ {σ : L2.St}, Lit j (tLst (tCons (tC (.int 0)) (tCons (tC (.int 1)) (tCons (tC (.int 2)) (tCons (tC (.int 3)) (tCons (tC (.int 4)) (tCons (tC (.int 5)) (tCons (tC (.int 6)) (tCons (tC (.int 8)) (tCons (tC (.int 12)) tNil)))))))))) σ (.list [.int 0, .int 1, .int 2, .int 3, .int 4, .int 5, .int 6, .int 8, .int 12]) :=
      lit_lst (litA_cons lit_int (litA_cons lit_int (litA_cons lit_int (litA_cons lit_int (litA_cons lit_int (litA_cons lit_int (litA_cons lit_int (litA_cons lit_int (litA_cons lit_int litA_nil))))))))) (by simp)
    refine ⟨_, rfl, L HA _ (jar_ne jA) fun v2 H2 s2 tv2 => ?_⟩
    have tv2' := tv2
    cases tv2 with
    | lst e2 ta2 =>
    refine one_of (K := K) (E := L2.E0) tv2' (.inl rfl) (by simp) (by simp) (jar_same jA s2) (by omega) fun x e H3 he te b3 j3 => ?_
    obtain ⟨t, rfl, t0, t12⟩ : ∃ t, e = .int t ∧ 0 ≤ t ∧ t ≤ 12 := by
      simp only [List.mem_cons, List.not_mem_nil, or_false] at he
      rcases he with rfl | rfl | rfl | rfl | rfl | rfl | rfl | rfl | rfl <;> exact ⟨_, rfl, by decide, by decide⟩
    cases te
    have bB := bA.trans ((KJ.But.same s2).trans b3)
    have eB : H3 pp = some (.lst []) := b3 _ _ npp (s2 _ _ eA)
    refine ⟨_, rfl, by omega, by omega, ?_⟩
    refine for_range (lo := 0) (n := t.toNat) (fun i σ H' => ∃ (o5 o6 o7 o8 o9 : Option V) (p : Addr) (xs : List V) (ds : List PyData), σ = [some (.ref j), some (.int 4), some (.int m), some (.int u), some (.ref p), o5, o6, o7, o8, o9, none] ∧ KJ.But j H H' ∧
      JarAt H' j (n + 3 + 6 * i) ∧ p ≠ j ∧ H' p = some (.lst xs) ∧ ThAll (hid j H') xs ds ∧ ds.length ≤ i ∧ ∀ d ∈ ds, Flat d ∧ wid d ≤ 3) ⟨none, none, none, none, none, pp, [], [], rfl, bB, jar_more j3 (by omega), npp, eB, .nil, Nat.le_refl _, fun d hd => by cases hd⟩ ?_ ?_
    · rintro i σ H' hi ⟨o5, o6, o7, o8, o9, p, xs, ds, rfl, b0, j0, np, ep, ta, ln, hf⟩
      have i12 : i < 12 := by omega
      refine ⟨_, rfl, _, rfl, j, m, _, rfl, by omega, by omega, j0, by omega, fun st H4 st0 st1 b4 j4 => ?_⟩
      refine ⟨_, rfl, _, rfl, by omega, by omega, fun D hD => ?_⟩
      refine lc_range (lo := 0) (n := m.toNat) (fun i H' => Same H4 H' ∧ ∃ ns : List Int, ns.length ≤ i ∧ H' D = some (.lst (ns.map V.int))) ⟨same_upd hD, [], Nat.le_refl _, upd_same⟩ ?_ ?_
      · rintro i5 H5 hi5 ⟨s7, ns, lnn, eD⟩
        refine ⟨rfl, ?_⟩
        refine ⟨_, rfl, _, rfl, rfl, _, rfl, iteB (fun c => ?_) (fun c => ?_)⟩
        · refine ⟨_, rfl, _, eD, ?_, fun b o eb => ?_, ns ++ [0 + (i5 : Int)], ?_, ?_⟩
          · rw [List.length_map]
            exact Nat.lt_of_le_of_lt (show ns.length ≤ 4 by omega) (by decide)
          · have nb : b ≠ D := fun z => by
              rw [z, hD] at eb
              cases eb
            rw [upd_ne nb]
            exact s7 _ _ eb
          · rw [List.length_append, List.length_singleton]
            omega
          · rw [upd_same, List.map_append]
            rfl
        · exact ⟨s7, ns, Nat.le_succ_of_le lnn, eD⟩
      · rintro H5 ⟨s5, ns, lnn, eD⟩
        refine ⟨by decide, fun l hl => ?_⟩
        have sl := same_upd (o := .lst [V.non]) hl
        refine ⟨D, l, _, _, rfl, rfl, sl _ _ eD, upd_same, ?_, fun q hq => ?_⟩
        · rw [List.length_map]
          exact Nat.le_trans (show ns.length + 1 ≤ 10 by omega) (by decide)
        have sq := same_upd (o := .lst (ns.map V.int ++ [V.non])) hq
        have nq : q ≠ j := new_ne hq (jar_ne (jar_same j4 (s5.trans sl)))
        have s6 := s5.trans (sl.trans sq)
        have eq6 : upd (upd H5 l (.lst [V.non])) q (.lst (ns.map V.int ++ [V.non])) q = some (.lst (ns.map V.int ++ [V.non])) := upd_same
        generalize upd (upd H5 l (.lst [V.non])) q (.lst (ns.map V.int ++ [V.non])) = H6 at s6 eq6 ⊢
        have j6 := jar_same j4 s6
        have b6 := b4.trans (KJ.But.same s6)
        -- the share
        refine ⟨fun σ' H7 => ∃ v d, σ' = [some (.ref j), some (.int 4), some (.int m), some (.int u), some (.ref p), some (.int (0 + (i : Int))), some (.int st), some (.ref q), some v, o9, none] ∧ KJ.But j H6 H7 ∧ JarAt H7 j (n + 3 + 6 * i + 1 + 4) ∧
          Th (hid j H7) v d ∧ ((∃ k, d = .tuple [.str "x", .int k]) ∨ isPair d), ?_, ?_⟩
        · have part : ∀ (H7 : Hp) (c : Nat), c ≤ n + 3 + 6 * i + 1 + 1 → KJ.But j H6 H7 → JarAt H7 j c → spPart [.ref j] H7 (fun v H8 => ∃ v' d, [some (V.ref j), some (.int 4), some (.int m), some (.int u), some (.ref p), some (.int (0 + (i : Int))), some (.int st), some (.ref q), some v, o9, none] = [some (.ref j), some (.int 4), some (.int m), some (.int u), some (.ref p), some (.int (0 + (i : Int))), some (.int st), some (.ref q), some v', o9, none] ∧ KJ.But j H6 H8 ∧ JarAt H8 j (n + 3 + 6 * i + 1 + 4) ∧
              Th (hid j H8) v' d ∧ ((∃ k, d = .tuple [.str "x", .int k]) ∨ isPair d)) L2.E0 := fun H7 c hc b7 j7 =>
            ⟨j, c, rfl, j7, by omega, fun v d H8 hp th b8 j8 => ⟨v, d, rfl, b7.trans b8, jar_more j8 (by omega), th, .inr hp⟩⟩
          refine ⟨_, rfl, _, _, rfl, rfl, _, rfl, iteB (fun c => ?_) (fun c => ?_)⟩
          · have c' := of_decide_eq_true c
            refine ⟨_, rfl, j, _, _, rfl, by decide, by decide, j6, by omega, fun r H7 r0 r1 b7 j7 => ⟨_, _, rfl, rfl, _, rfl, iteB (fun c2 => ?_) (fun c2 => ?_)⟩⟩
            · refine ⟨_, rfl, _, rfl, j, u, _, rfl, by omega, by omega, j7, by omega, fun r2 H8 _ _ b8 j8 => ⟨(by show 2 ≤ sizeLine; decide), fun z hz => ?_⟩⟩
              have sz := same_upd (o := .tup [V.str "x", .int r2]) hz
              exact ⟨_, _, rfl, b7.trans (b8.trans (KJ.But.same sz)), jar_more (jar_same j8 sz) (by omega), .tup (by rw [hid_ne (new_ne hz (jar_ne j8))]; exact upd_same) (.cons (.str _) (.cons (.int _) .nil)), .inl ⟨r2, rfl⟩⟩
            · exact ⟨_, rfl, part H7 _ (by omega) b7 j7⟩
          · exact ⟨_, rfl, part H6 _ (by omega) (fun _ _ _ e => e) j6⟩
        · rintro σ' H7 ⟨v, d, rfl, b7, j7, th, hd⟩
          refine ⟨_, rfl, _, rfl, _, rfl, j, q, _, _, rfl, nq, .inl (b7 _ _ nq eq6), by simp, ?_, j7, by omega, fun x H8 hx b8 j8 => ⟨_, rfl, by show 3 ≤ sizeLine; decide, fun z hz => ?_⟩⟩
          · rw [List.length_append, List.length_map]
            exact Nat.lt_of_le_of_lt (show ns.length + 1 ≤ 10 by omega) (by decide)
          obtain ⟨a, hxa, haa⟩ : ∃ a, Th (hid j H8) x a ∧ (a = .none ∨ ∃ k, a = .int k) := by
            rcases List.mem_append.mp hx with h | h
            · obtain ⟨y, _, rfl⟩ := List.mem_map.mp h
              exact ⟨_, .int y, .inr ⟨y, rfl⟩⟩
            · rw [List.mem_singleton.mp h]
              exact ⟨_, .non, .inl rfl⟩
          have sz := same_upd (o := .tup [V.int st, x, v]) hz
          have thp : Th (hid j (upd H8 z (.tup [V.int st, x, v]))) (.ref z) (.tuple [.int st, a, d]) := .tup (by rw [hid_ne (new_ne hz (jar_ne j8))]; exact upd_same) (.cons (.int _) (.cons (Thj.same hxa sz) (.cons (Thj.same (Thj.but th b8) sz) .nil)))
          obtain ⟨fl, wd⟩ := pl_flat (i := st) haa hd
          generalize upd H8 z (.tup [V.int st, x, v]) = H9 at sz thp ⊢
          have b9 := b6.trans (b7.trans (b8.trans (KJ.But.same sz)))
          have ep9 : H9 p = some (.lst xs) := b9 _ _ np ep
          have ta9 : ThAll (hid j H9) xs ds := ThAll.mono (Sm.same (hid_but b9)) ta
          have j9 := jar_same j8 sz
          have sL := flat_shapedL fun e he => (hf e he).1
          have lx : xs.length ≤ 12 := by rw [all2 ta9]; omega
          refine ⟨_, rfl, _, rfl, _, rfl, .tuple [.int st, a, d], ds, Th.dp (Thj.th thp) fl.2.2, Th.dp (.lst ep9 (ThAll.mono (Sm.same (hid_same j H9)) ta9)) sL.2, shaped_of fl.1 (by have := fl.2.1; omega), sL.1, _, rfl, iteB (fun c => ?_) (fun c => ?_)⟩
          · refine ⟨_, rfl, (by show 1 ≤ sizeLine; decide), fun l hl => ⟨p, l, xs, [.ref z], rfl, rfl, (same_upd hl) _ _ ep9, upd_same, Nat.le_trans (show xs.length + 1 ≤ 13 by omega) (by decide), fun r hr' => ?_⟩⟩
            have sr := (same_upd (o := .lst [V.ref z]) hl).trans (same_upd (o := .lst (xs ++ [V.ref z])) hr')
            refine ⟨_, _, _, _, _, r, xs ++ [.ref z], ds ++ [.tuple [.int st, a, d]], rfl, b0.trans (b9.trans (KJ.But.same sr)), jar_more (jar_same j9 sr) (by omega), new_ne hr' (jar_ne (jar_same j9 (same_upd hl))), upd_same, ThAllj.same (ThAll.append ta9 (.cons thp .nil)) sr, by rw [List.length_append, List.length_singleton]; omega, fun e he => ?_⟩
            rcases List.mem_append.mp he with h | h
            · exact hf e h
            · rw [List.mem_singleton.mp h]
              exact ⟨fl, wd⟩
          · refine ⟨by decide, fun l hl => ⟨p, l, xs, [], rfl, rfl, (same_upd hl) _ _ ep9, upd_same, Nat.le_trans (show xs.length + 0 ≤ 13 by omega) (by decide), fun r hr' => ?_⟩⟩
            have sr := (same_upd (o := .lst ([] : List V)) hl).trans (same_upd (o := .lst (xs ++ [])) hr')
            exact ⟨_, _, _, _, _, r, xs ++ [], ds, rfl, b0.trans (b9.trans (KJ.But.same sr)), jar_more (jar_same j9 sr) (by omega), new_ne hr' (jar_ne (jar_same j9 (same_upd hl))), upd_same, (by have z := ThAllj.same ta9 sr; rw [List.append_nil] at z ⊢; exact z), by omega, hf⟩
    · rintro σ H' ⟨o5, o6, o7, o8, o9, p, xs, ds, rfl, b0, j0, np, ep, ta, ln, hf⟩
      refine ⟨_, rfl, _, rfl, _, rfl, .inl ⟨p, xs, rfl, SqL.of ep, fun q hq => ?_⟩⟩
      have sq := same_upd (o := .tup xs) hq
      have tq : Th (hid j (upd H' q (.tup xs))) (.ref q) (.tuple ds) := .tup (by rw [hid_ne (new_ne hq (jar_ne j0))]; exact upd_same) (ThAllj.same ta sq)
      generalize upd H' q (.tup xs) = H4 at sq tq ⊢
      refine ⟨_, rfl, _, rfl, j, m, _, rfl, m1, m4, jar_same j0 sq, by omega, fun v5 d5 H5 l5 i5 t5 b5 j5 => ?_⟩
      refine ⟨_, rfl, _, rfl, j, m, _, rfl, m1, m4, j5, by omega, fun v6 d6 H6 l6 i6 t6 b6 j6 => ⟨by show 5 ≤ sizeLine; decide, fun z hz => ?_⟩⟩
      have sz := same_upd (o := .tup [V.int m, .int u, .ref q, v5, v6]) hz
      have wi : ∀ {l : List PyData}, l.length ≤ 5 → (∀ d ∈ l, ∃ i, d = .int i) → wid (.tuple l) ≤ 13 := fun hl hi => wid_tup (by omega) fun d hd => by
        obtain ⟨i, rfl⟩ := hi d hd
        simp [wid]
      refine k _ (.tuple [.int m, .int u, .tuple ds, .tuple d5, .tuple d6]) m u ds d5 d6 _ ⟨rfl, ?_, m1, m4, u0, u4⟩ (.tup (by rw [hid_ne (new_ne hz (jar_ne j6))]; exact upd_same) (.cons (.int _) (.cons (.int _) (.cons (Thj.same (Thj.but (Thj.but tq b5) b6) sz) (.cons (Thj.same (Thj.but t5 b6) sz) (.cons (Thj.same t6 sz) .nil))))))
        (b0.trans ((KJ.But.same sq).trans (b5.trans (b6.trans (KJ.But.same sz))))) (jar_more (jar_same j6 sz) (by omega))
      refine wid_tup (by simp) fun d hd => ?_
      simp only [List.mem_cons, List.not_mem_nil, or_false] at hd
      rcases hd with rfl | rfl | rfl | rfl | rfl
      · simp [wid]
      · simp [wid]
      · exact wid_tup (by omega) fun d hd => Nat.le_trans (hf d hd).2 (by decide)
      · exact wi l5 i5
      · exact wi l6 i6
end
end KP

set_option Elab.async false
set_option linter.all false
set_option maxRecDepth 100000
set_option maxHeartbeats 4000000
/-! ### bent things -/
namespace KP
open PySem PySem.Spec PyProof.Rows L2 KX KT KJ KS
theorem hh_same {p : Addr} {A B : Hp} (h : Same A B) : Same (hid p A) (hid p B) := fun b o e => by
  by_cases c : b = p
  · rw [c, show hid p A p = none from if_pos rfl] at e
    cases e
  · rw [hid_ne c] at e ⊢
    exact h b o e
theorem hh_new {p j : Addr} {H : Hp} {o : HO} (hp : H p = none) : Same (hid j H) (hid p (hid j (upd H p o))) := fun b u e => by
  have e2 := hid_same j H _ _ e
  have nb : b ≠ p := ne_of_none e2 hp
  rw [hid_ne nb]
  by_cases c : b = j
  · rw [c, show hid j H j = none from if_pos rfl] at e
    cases e
  · rw [hid_ne c, upd_ne nb]
    exact e2
theorem hh_put {p j : Addr} {H : Hp} {o : HO} : Same (hid p (hid j H)) (hid p (hid j (upd H p o))) := fun b u e => by
  by_cases c : b = p
  · rw [c, show hid p (hid j H) p = none from if_pos rfl] at e
    cases e
  · rw [hid_ne c] at e ⊢
    by_cases d : b = j
    · rw [d, show hid j H j = none from if_pos rfl] at e
      cases e
    · rw [hid_ne d] at e ⊢
      rw [upd_ne c]
      exact e
theorem hh_at {p j : Addr} {H : Hp} {b : Addr} {o : HO} (e : H b = some o) (n1 : b ≠ p) (n2 : b ≠ j) : hid p (hid j H) b = some o := by
  rw [hid_ne n1, hid_ne n2]
  exact e
theorem hh_of {p j : Addr} {H : Hp} {b : Addr} {o : HO} (e : hid p (hid j H) b = some o) : H b = some o := hid_same j H _ _ (hid_same p _ _ _ e)
theorem ThAll.rev {H : Hp} : ∀ {xs : List V} {ds : List PyData}, ThAll H xs ds → ThAll H xs.reverse ds.reverse
  | _, _, .nil => .nil
  | _, _, .cons a t => by
    rw [List.reverse_cons, List.reverse_cons]
    exact ThAll.append (ThAll.rev t) (.cons a .nil)
theorem odd_wid : ∀ d ∈ oddA ++ oddB, wid d ≤ 2 := by
  intro d hd
  simp only [oddA, oddB, List.cons_append, List.nil_append, List.mem_cons, List.not_mem_nil, or_false] at hd
  rcases hd with rfl | rfl | rfl | rfl | rfl | rfl | rfl | rfl | rfl | rfl | rfl | rfl | rfl | rfl | rfl | rfl | rfl | rfl | rfl | rfl | rfl | rfl | rfl | rfl | rfl | rfl | rfl | rfl | rfl | rfl | rfl <;> simp [wid, widAll]
section
variable {j : Addr} {σ : L2.St} {H : Hp} {D : Ends} {tz : TS}
theorem g_brk {t : TT} {b : Bool} (h : Tg t σ H b) (h1 : b = true → ∀ H', Same H H' → D.bk σ H') (h2 : b = false → ∀ H', Same H H' → tz D σ H') : tSeq (tIfS t tBreak tNext) tz D σ H := h _ fun H' s => by
  cases b with
  | true => rw [if_pos rfl]; exact h1 rfl H' s
  | false => rw [if_neg Bool.false_ne_true]; exact h2 rfl H' s
theorem i_set {te : TE} {i : Nat} {v : V} (h : Vi te σ H v) (k : tz D (σ.set i (some v)) H) : tSeq (tAsg te (gName i)) tz D σ H := h _ k
def rListOf (K : PySem.W.Frag) : List V → Hp → VK → Prop := fun xs H Q => ∃ p ys, xs = [.ref p] ∧ (SqL K H p ys ∨ SqT K H p ys) ∧ ∀ l, H l = none → Q (.ref l) (upd H l (.lst ys))
theorem mk_listOf {K : PySem.W.Frag} {te : TE} {ds : List PyData} (hj : H j ≠ none) (h : Mk j te σ H (.tuple ds)) : Mk j (tCB (rListOf K) (tCons te tNil)) σ H (.list ds) := fun H1 s Q q => h H1 s _ fun v H2 s2 t2 => by
  cases t2 with
  | @tup a xs _ e1 ta1 =>
    refine ⟨a, xs, rfl, .inr (SqT.of (hid_same j H2 _ _ e1)), fun l hl => ?_⟩
    have sl := same_upd (o := .lst xs) hl
    exact q _ _ (s2.trans sl) (.lst (by rw [hid_ne (new_ne hl (same_ne (s.trans s2) hj))]; exact upd_same) (ThAllj.same ta1 sl))
/-- i = (.., ..)[k] -/
theorem mk_ixset {K : PySem.W.Frag} {te : TE} {ds : List PyData} {n m c : Nat} {D : Ends} (h : Mk j te σ H (.tuple ds)) (hi : σ[n]? = some (some (.int (c : Nat)))) (hc : c < ds.length)
    (k : ∀ v d H', d ∈ ds → Same H H' → Th (hid j H') v d → D.nx (σ.set m (some v)) H') : tAsg (tOp (rIxT K) te (tVar n)) (gName m) D σ H := h H (Same.refl H) _ fun v H1 s1 t1 => by
  cases t1 with
  | @tup b zs _ eb tb =>
    have hz : c < zs.length := by rw [all2 tb]; exact hc
    obtain ⟨d, hd, td⟩ := all_get tb (List.getElem?_eq_getElem hz)
    exact ⟨_, hi, b, zs, _, zs[c], rfl, rfl, SqT.of (hid_same j H1 _ _ eb), atI_nat (List.getElem?_eq_getElem hz), k _ d H1 (List.mem_of_getElem? hd) s1 td⟩
theorem mk_revT {K : PySem.W.Frag} {te : TE} {ds : List PyData} (hj : H j ≠ none) (h : Mk j te σ H (.tuple ds)) : Mk j (tRevT K te) σ H (.tuple ds.reverse) := fun H1 s Q q => h H1 s _ fun v H2 s2 t2 => by
  cases t2 with
  | @tup a xs _ e1 ta1 =>
    refine ⟨a, xs, rfl, SqT.of (hid_same j H2 _ _ e1), fun l hl => ?_⟩
    have sl := same_upd (o := .tup xs.reverse) hl
    exact q _ _ (s2.trans sl) (.tup (by rw [hid_ne (new_ne hl (same_ne (s.trans s2) hj))]; exact upd_same) (ThAllj.same ta1.rev sl))
end
theorem cutD_from {ds : List PyData} {k : Nat} : (cutD ds (some (k : Int)) none).length ≤ ds.length - k := by
  unfold cutD
  rw [HT.sIx_nat, List.length_take, List.length_drop, HT.sIx_none]
  omega
abbrev nBt : List Str := ["jar", "thing", "path", "here", "turn", "at", "way", "is_small", "whole"]
def pathD (q : List PyData × Nat) : PyData := .tuple [.tuple q.1, .int q.2]
structure PathOk (W : Nat) (q : List PyData × Nat) : Prop where
  len : q.1.length ≤ W
  wd : ∀ d ∈ q.1, wid d ≤ W
  lt : q.2 < q.1.length
def spBent : Sp := fun vs H Q _ => ∃ j n W x d, vs = [.ref j, x] ∧ JarAt H j n ∧ n ≤ 800000 ∧ 2 ≤ W ∧ W ≤ 100 ∧ wid d ≤ W ∧ Th (hid j H) x d ∧ ∀ v e H', wid e ≤ W + 1 → Th (hid j H') v e → KJ.But j H H' → JarAt H' j (n + 10) → Q v H'
section
variable {P : Program} {w : World} {K : PySem.W.Frag} {mg : Str → Option Value} {base : Heap}
theorem scBt : FnScope nBt ["jar", "thing"] (defScope lBent) := ⟨rfl, rfl, rfl, by decide +kernel, rfl, by decide +kernel, by decide +kernel⟩
theorem ok_bent {f fD fI fO : Addr} {fd fdD fdI fdO : FuncData} (F : Fun K "_law_bent" "_law_bent" lBent f fd) (T : TxD mg)
    (FD : FnOk P w K mg base CX0 1 fD fdD ["jar", "top"] spDip) (mD : mg "_law_dip" = some (.ref fD)) (kD : PySem.W.keepIn K (.ref fD) = true) (bD : Binds K fdD ["jar", "top"] [])
    (FI : FnOk P w K mg base CX0 2 fI fdI ["thing", "low", "high"] spWithin) (mI : mg "_law_is_whole" = some (.ref fI)) (kI : PySem.W.keepIn K (.ref fI) = true) (bI : Binds K fdI ["thing", "low", "high"] [])
    (FO : FnOk P w K mg base CX0 3 fO fdO ["jar"] spOdd) (mO : mg "_law_odd" = some (.ref fO)) (kO : PySem.W.keepIn K (.ref fO) = true) (bO : Binds K fdO ["jar"] []) :
    FnOk P w K mg base CX0 4 f fd ["jar", "thing"] spBent := by
  refine F.ok scBt (fun vs H Q E h => ?_) (fun cdv A outer s H vs Q E hr h => ?_)
  · obtain ⟨j, n, W, x, d, rfl, _⟩ := h
    rfl
  · obtain ⟨j, n, W, x, d, rfl, hj, hn, w2, w100, hwd, hx, k⟩ := h
    have hr1 : Room 1 _ := hr.mono (by decide)
    have hr2 : Room 2 _ := hr.mono (by decide)
    have hu : (A.deeper (envOfC "_law_bent" (defScope lBent) s.heap.objs.size f cdv)).units < cLine := by have := hr.un; omega
    refine ⟨_, pss_cons (ps_par (i := 2) (j := 3) (by rfl) scBt.nd rfl rfl (by decide) rfl rfl (pa_cons (pe_lst pa_nil) (pa_cons (pv 1) pa_nil)) (by rfl))
      (Evl.pss_cut (ps_for PassesOwn.never rfl (pi_range1 rfl T.range (pa_cons (pe_call FD hr1 rfl mD kD bD .nil pass0 (pa_cons (pv 0) (pa_cons pe_int pa_nil))) pa_nil)) (pg_name (i := 4) scBt.nd rfl (Or.inl rfl))
        (pss_cons (ps_if (pw_or (pt_not (pt_val (pe_callB call_isi (by rfl) T.isinstance (by decide +kernel) (pa_cons (pv 3) (pa_cons (pe_bltn (v := .ty "tuple") (by rfl) T.tuple (by decide +kernel) rfl) pa_nil)))))
            (pw_or1 (pt_cmpR (op_eq0 hu) (pv 3) (pe_tup pa_nil) (nomark _)))).pt (pss_one ps_break) pss_nil)
        (pss_cons (ps_set (i := 5) scBt.nd rfl (Or.inl rfl) (pe_call FD hr1 rfl mD kD bD .nil pass0 (pa_cons (pv 0) (pa_cons (pe_callB call_len_seq (by rfl) T.len PySem.boot_len (pa_cons (pv 3) pa_nil)) pa_nil))))
        (pss_cons (ps_expr (pe_bm PySem.F.plainAttrs_list PySem.F.slot_list_append PySem.F.type_list_append mt_append (pv 2) (pa_cons (pe_tup (pa_cons (pv 3) (pa_cons (pv 5) pa_nil))) pa_nil)))
        (pss_one (ps_set (i := 3) scBt.nd rfl (Or.inl rfl) (pe_ix ix_tup (pv 3) (pv 5) (fun _ _ => rfl))))))))
      (pss_cons (ps_set (i := 6) scBt.nd rfl (Or.inl rfl) (pe_call FD hr1 rfl mD kD bD .nil pass0 (pa_cons (pv 0) (pa_cons pe_int pa_nil))))
      (Evl.pss_cut (ps_if (pw_and (pt_val (pe_callB call_isi (by rfl) T.isinstance (by decide +kernel) (pa_cons (pv 3) (pa_cons (pe_bltn (v := .ty "tuple") (by rfl) T.tuple (by decide +kernel) rfl) pa_nil)))) (pw_and1 (pt_cmpR op_lt (pv 6) pe_int (nomark _)))).pt
          (pss_one (ps_set (i := 3) scBt.nd rfl (Or.inl rfl) (pe_ix ix_tup (pe_tup (pa_cons (pe_callTy (r := rListOf K) (by exact call_list_of) (by rfl) T.list (by decide +kernel) (pa_cons (pv 3) pa_nil)) (pa_cons (pe_slice sl_tupA (pv 3) po_none (po_some (pe_un un_neg pe_int)))
            (pa_cons (pe_op op_catA (pv 3) (pe_slice sl_tupA (pv 3) po_none (po_some pe_int))) (pa_cons (pe_slice sl_tupA (pv 3) (po_some pe_int) po_none) (pa_cons (pe_revT (pv 3)) pa_nil)))))) (pv 6) (fun _ _ => rfl))))
          (pss_cons (ps_set (i := 7) scBt.nd rfl (Or.inl rfl) (pe_and (pe_call FI hr2 rfl mI kI bI .nil pass0 (pa_cons (pv 3) (pa_cons (pe_un un_neg (pe_op op_pow pe_int pe_int)) (pa_cons (pe_op op_pow pe_int pe_int) pa_nil)))) (pe_one (pe_cmpR op_lt (pv 6) pe_int (nomark _)))))
          (pss_one (ps_set (i := 3) scBt.nd rfl (Or.inl rfl) (pe_ifExp (pt_val (pv 7)) (pe_op op_sub (pe_op op_add (pv 3) pe_int) (pe_op op_mul pe_int (pe_call FD hr1 rfl mD kD bD .nil pass0 (pa_cons (pv 0) (pa_cons pe_int pa_nil))))) (pe_call FO hr rfl mO kO bO .nil pass0 (pa_cons (pv 0) pa_nil)))))))
      (pss_cons (ps_for PassesOwn.never rfl (pi_list (pe_revL (pv 2))) (pg_tup rfl (pgs_cons (pg_name (i := 8) scBt.nd rfl (Or.inl rfl)) (pgs_cons (pg_name (i := 5) scBt.nd rfl (Or.inl rfl)) pgs_nil)))
        (pss_one (ps_set (i := 3) scBt.nd rfl (Or.inl rfl) (pe_op op_catA (pe_op op_catA (pe_slice sl_tupA (pv 8) po_none (po_some (pv 5))) (pe_tup (pa_cons (pv 3) pa_nil))) (pe_slice sl_tupA (pv 8) (po_some (pe_op op_add (pv 5) pe_int)) po_none)))))
      (pss_one (ps_ret (pv 3))))))), ?_⟩
    refine ⟨by decide, fun p hp => ⟨_, rfl, _, _, rfl, ?_⟩⟩
    have sp := same_upd (o := .lst []) hp
    have np : p ≠ j := new_ne hp (jar_ne hj)
    have hx1 : Th (hid p (hid j (upd H p (.lst [])))) x d := hx.mono (Sm.same (hh_new hp))
    have j1 := jar_same hj sp
    have e1 : upd H p (.lst []) p = some (.lst []) := upd_same
    have b1 : KJ.But j H (upd H p (.lst [])) := KJ.But.same sp
    generalize upd H p (.lst []) = H1 at hx1 j1 e1 b1 ⊢
    refine ⟨fun σ' H' => ∃ (o4 o5 : Option V) (v : V) (e : PyData) (xs : List V) (es : List (List PyData × Nat)), σ' = [some (.ref j), some x, some (.ref p), some v, o4, o5, none, none, none] ∧ KJ.But j H H' ∧ JarAt H' j (n + 6) ∧ H' p = some (.lst xs) ∧
      ThAll (hid p (hid j H')) xs (es.map pathD) ∧ (∀ q ∈ es, PathOk W q) ∧ Th (hid p (hid j H')) v e ∧ wid e ≤ W ∧ es.length ≤ 10, ?_, ?_⟩
    · refine ⟨_, rfl, j, _, _, rfl, by decide, by decide, j1, by omega, fun r H2 r0 r1 b2 j2 => ⟨_, rfl, by omega, by omega, ?_⟩⟩
      have hx2 : Th (hid p (hid j H2)) x d := hx1.mono (Sm.same (hh_same (hid_but b2)))
      refine for_range (lo := 0) (n := r.toNat) (fun i σ H' => ∃ (o4 o5 : Option V) (v : V) (e : PyData) (xs : List V) (es : List (List PyData × Nat)), σ = [some (.ref j), some x, some (.ref p), some v, o4, o5, none, none, none] ∧ KJ.But j H H' ∧ JarAt H' j (n + 1 + i) ∧ H' p = some (.lst xs) ∧
        ThAll (hid p (hid j H')) xs (es.map pathD) ∧ (∀ q ∈ es, PathOk W q) ∧ Th (hid p (hid j H')) v e ∧ wid e ≤ W ∧ es.length ≤ i) ⟨none, none, x, d, [], [], rfl, b1.trans b2, j2, b2 _ _ np e1, .nil, (fun q hq => by cases hq), hx2, hwd, Nat.le_refl _⟩ ?_ ?_
      · rintro i σ H' hi ⟨o4, o5, v, e, xs, es, rfl, b0, j0, ep, ta, ok, th, we, le⟩
        have thH : Th H' v e := (th.mono (Sm.same (hid_same p _))).mono (Sm.same (hid_same j _))
        refine g_brk (b := (!isin (tyN e) "tuple" || decide (lenT e = 0))) (tg_or (tg_of (ti_not (ti_val (vi_isi (vi_var rfl) thH (by simp))))) fun z G sG => ?_) (fun z G sG => ?_) (fun z G sG => ?_)
        · rw [Bool.not_eq_false', isin_tup] at z
          obtain ⟨a, ys, ds, rfl, rfl, ea, ta'⟩ := tupOf thH (of_decide_eq_true z)
          have l2 := all2 ta'
          have e9 : decide (lenT (.tuple ds) = 0) = decide (ys.length = 0) := by rw [show lenT (.tuple ds) = ds.length from rfl, l2]
          rw [e9]
          exact tg_test (vg_eq0 (vi_var rfl) (sG _ _ ea))
        · exact ⟨_, o5, v, e, xs, es, rfl, b0.trans (KJ.But.same sG), jar_more (jar_same j0 sG) (by omega), sG _ _ ep, ThAll.mono (Sm.same (hh_same (hid_but (KJ.But.same sG)))) ta, ok, th.mono (Sm.same (hh_same (hid_but (KJ.But.same sG)))), we, by omega⟩
        · rw [Bool.or_eq_false_iff, Bool.not_eq_false', isin_tup] at z
          obtain ⟨z1, z2⟩ := z
          have b3 := b0.trans (KJ.But.same sG)
          have j3 := jar_same j0 sG
          have ep3 := sG _ _ ep
          have ta3 := ThAll.mono (Sm.same (hh_same (p := p) (hid_but (KJ.But.same (j := j) sG)))) ta
          have th3 := th.mono (Sm.same (hh_same (p := p) (hid_but (KJ.But.same (j := j) sG))))
          obtain ⟨a, ys, ds, rfl, rfl, ea, tas⟩ := tupOf th3 (of_decide_eq_true z1)
          have l2 := all2 tas
          have z2 := of_decide_eq_false z2
          have z2 : ds.length ≠ 0 := z2
          have wl : ds.length ≤ W := Nat.le_trans wid_len we
          refine ⟨_, rfl, _, rfl, a, ys, rfl, .inr (SqT.of (hh_of ea)), j, _, _, rfl, by omega, by omega, j3, by omega, fun r2 H4 q0 q1 b4 j4 => ?_⟩
          obtain ⟨c, rfl⟩ := Int.eq_ofNat_of_zero_le q0
          have hc : c < ys.length := by omega
          have ep4 : H4 p = some (.lst xs) := b4 _ _ np ep3
          have s34 := hh_same (p := p) (hid_but b4)
          have ea4 := s34 _ _ ea
          have ta4 := ThAll.mono (Sm.same s34) ta3
          have tas4 := ThAll.mono (Sm.same s34) tas
          have lx : xs.length ≤ 10 := by rw [all2 ta4, List.length_map]; omega
          refine ⟨_, rfl, .inl ⟨rfl, _, SqL.of ep4⟩, ⟨_, rfl, _, rfl, (by show 2 ≤ sizeLine; decide), fun t ht => ⟨p, _, _, rfl, rfl, (same_upd ht) _ _ ep4, Nat.lt_of_le_of_lt lx (by decide), ?_⟩⟩⟩
          have st := same_upd (o := .tup [V.ref a, .int (c : Nat)]) ht
          have nt : t ≠ p := fun z => by rw [z, ep4] at ht; cases ht
          have ntj : t ≠ j := new_ne ht (jar_ne j4)
          have et : upd H4 t (.tup [V.ref a, .int (c : Nat)]) t = some (.tup [V.ref a, .int (c : Nat)]) := upd_same
          have s5 := (hh_same (p := p) (hid_but (KJ.But.same (j := j) st))).trans (hh_put (p := p) (j := j) (o := .lst (xs ++ [.ref t])))
          have j5 := jar_same j4 st
          have b5 := b3.trans (b4.trans (KJ.But.same st))
          generalize upd H4 t (.tup [V.ref a, .int (c : Nat)]) = H5 at st et s5 j5 b5 ⊢
          have et6 : hid p (hid j (upd H5 p (.lst (xs ++ [.ref t])))) t = some (.tup [V.ref a, .int (c : Nat)]) := hh_at (by rw [upd_ne nt]; exact et) nt ntj
          have j6 : JarAt (upd H5 p (.lst (xs ++ [.ref t]))) j (n + 1 + i + 1) := by
            obtain ⟨x1, x2, x3, ej, r⟩ := j5
            exact ⟨x1, x2, x3, by rw [upd_ne (Ne.symm np)]; exact ej, r⟩
          have b6 : KJ.But j H (upd H5 p (.lst (xs ++ [.ref t]))) := fun b o nb eb => by
            rw [upd_ne (ne_of_none eb hp)]
            exact b5 b o nb eb
          have ea6 := s5 _ _ ea4
          have ta6 := ThAll.mono (Sm.same s5) ta4
          have tas6 := ThAll.mono (Sm.same s5) tas4
          obtain ⟨d', hd', td'⟩ := all_get tas6 (List.getElem?_eq_getElem hc)
          refine ⟨_, rfl, _, rfl, a, ys, _, ys[c], rfl, rfl, SqT.of (hh_of ea6), atI_nat (List.getElem?_eq_getElem hc), ?_⟩
          refine ⟨_, _, ys[c], d', xs ++ [.ref t], es ++ [(ds, c)], rfl, b6, j6, upd_same, ?_, fun q hq => ?_, td', Nat.le_trans (wid_mem (List.mem_of_getElem? hd')) we, by rw [List.length_append, List.length_singleton]; omega⟩
          · rw [List.map_append]
            exact ThAll.append ta6 (.cons (.tup et6 (.cons (.tup ea6 tas6) (.cons (.int _) .nil))) .nil)
          · rcases List.mem_append.mp hq with h | h
            · exact ok q h
            · rw [List.mem_singleton.mp h]
              exact ⟨wl, fun d hd => Nat.le_trans (wid_mem hd) we, by show c < ds.length; omega⟩
      · rintro σ H' ⟨o4, o5, v, e, xs, es, rfl, b0, j0, ep, ta, ok, th, we, le⟩
        exact ⟨o4, o5, v, e, xs, es, rfl, b0, jar_more j0 (by omega), ep, ta, ok, th, we, by omega⟩
    · rintro σ' H' ⟨o4, o5, v, e, xs, es, rfl, b0, j0, ep, ta, ok, th, we, le⟩
      have ta := ThAll.mono (Sm.same (hid_same p _)) ta
      have th := th.mono (Sm.same (hid_same p _))
      refine ⟨_, rfl, j, _, _, rfl, by decide, by decide, j0, by omega, fun way H2 q0 q1 b2 j2 => ?_⟩
      have ep2 : H2 p = some (.lst xs) := b2 _ _ np ep
      have ta2 := ThAll.mono (Sm.same (hid_but b2)) ta
      have th2 := Thj.but th b2
      have hj2 := jar_ne j2
      refine ⟨fun σ' H3 => ∃ (o7 : Option V) (v' : V) (e' : PyData), σ' = [some (.ref j), some x, some (.ref p), some v', o4, o5, some (.int way), o7, none] ∧ KJ.But j H2 H3 ∧ JarAt H3 j (n + 10) ∧ Th (hid j H3) v' e' ∧ wid e' ≤ W + 1, ?_, ?_⟩
      · refine i_if (b := isin (tyN e) "tuple" && decide (way < 5)) (ti_and (ti_val (vi_isi (vi_var rfl) (Thj.th th2) (by simp))) fun _ => ti_test (vi_op (vi_var rfl) vi_c fun Q q => ⟨_, _, rfl, rfl, q⟩)) (fun c => ?_) (fun c => ?_)
        · rw [Bool.and_eq_true, isin_tup] at c
          obtain ⟨a, ys, ds, rfl, rfl, ea, tas⟩ := tupOf th2 (of_decide_eq_true c.1)
          have wl : ds.length ≤ W := Nat.le_trans wid_len we
          have wm : ∀ d ∈ ds, wid d ≤ W := fun d hd => Nat.le_trans (wid_mem hd) we
          have c2 := of_decide_eq_true c.2
          have mv : ∀ {σ : L2.St}, σ[3]? = some (some (.ref a)) → Mk j (tVar 3) σ H2 (.tuple ds) := fun h => mk_var h th2
          have M : ∀ {σ : L2.St}, σ[3]? = some (some (.ref a)) → Mk j (tTup (tCons (tCB (rListOf K) (tCons (tVar 3) tNil)) (tCons (tSl (rSlA K) (tVar 3) tNoPart (tPart (tUn (rU fun i => .int (-i)) (tC (.int 1))))) (tCons (tOp (rCatA K) (tVar 3) (tSl (rSlA K) (tVar 3) tNoPart (tPart (tC (.int 1)))))
              (tCons (tSl (rSlA K) (tVar 3) (tPart (tC (.int 1))) tNoPart) (tCons (tRevT K (tVar 3)) tNil)))))) σ H2
              (.tuple [.list ds, .tuple (cutD ds none (some (-1))), .tuple (ds ++ cutD ds none (some ((1 : Nat) : Int))), .tuple (cutD ds (some 1) none), .tuple ds.reverse]) := fun h =>
            mk_tup hj2 (mkA_cons (mk_listOf hj2 (mv h)) (mkA_cons (mk_slice hj2 (mv h) (fun _ _ q => q) (fun _ _ q => p_int (i := -1) (fun _ Q q => ⟨1, rfl, q⟩) q)) (mkA_cons (mk_catA hj2 (mv h) (mk_slice hj2 (mv h) (fun _ _ q => q) (fun _ _ q => p_int (fun _ => vi_c) q)) (by have := @cutD_len ds none (some ((1 : Nat) : Int)); omega))
              (mkA_cons (mk_slice hj2 (mv h) (fun _ _ q => p_int (fun _ => vi_c) q) (fun _ _ q => q)) (mkA_cons (mk_revT hj2 (mv h)) mkA_nil))))) (by simp)
          obtain ⟨c5, rfl⟩ := Int.eq_ofNat_of_zero_le q0
          refine mk_ixset (c := c5) (M rfl) rfl (by show c5 < 5; omega) fun v3 d' H3 hm s3 td' => ?_
          refine ⟨none, _, d', rfl, KJ.But.same s3, jar_more (jar_same j2 s3) (by omega), td', ?_⟩
          have wm1 : ∀ d ∈ ds, wid d ≤ W + 1 := fun d hd => Nat.le_succ_of_le (wm d hd)
          simp only [List.mem_cons, List.not_mem_nil, or_false] at hm
          rcases hm with rfl | rfl | rfl | rfl | rfl
          · exact wid_lst (by omega) wm1
          · exact wid_tup (Nat.le_trans cutD_len (by omega)) fun d hd => wm1 d (cutD_mem hd)
          · exact w_cat (by have := @cutD_to ds 1; omega) wm1 fun d hd => wm1 d (cutD_mem hd)
          · exact wid_tup (Nat.le_trans cutD_len (by omega)) fun d hd => wm1 d (cutD_mem hd)
          · exact wid_tup (by rw [List.length_reverse]; omega) fun d hd => wm1 d (List.mem_reverse.mp hd)
        · refine i_set (v := .bl (isW e (-(10 ^ (9 : Int).toNat)) (10 ^ (9 : Int).toNat) && decide (way < 4))) (vi_and (vi_call (ai_cons (vi_var rfl) (ai_cons (fun Q q => ⟨_, _, rfl, rfl, ⟨by decide, by decide, by decide⟩, _, rfl, q⟩) (ai_cons (fun Q q => ⟨_, _, rfl, rfl, ⟨by decide, by decide, by decide⟩, q⟩) ai_nil))) fun Q q => ⟨_, _, _, _, rfl, Thj.th th2, q⟩) fun c => vi_op (vi_var rfl) vi_c fun Q q => ⟨_, _, rfl, rfl, q⟩) ?_
          refine ⟨_, rfl, _, rfl, iteB (fun c => ?_) (fun c => ?_)⟩
          · rw [Bool.and_eq_true] at c
            obtain ⟨i, rfl, rfl⟩ := isW_int th2 c.1
            refine ⟨_, rfl, _, _, rfl, rfl, _, rfl, j, _, _, rfl, by decide, by decide, j2, by omega, fun r H3 r0 r1 b3 j3 => ⟨_, _, rfl, rfl, .inl ⟨by decide, by decide⟩, _, _, rfl, rfl, ?_⟩⟩
            exact ⟨_, _, _, rfl, b3, jar_more j3 (by omega), .int _, by simp [wid]⟩
          · refine ⟨_, rfl, j, _, rfl, j2, by omega, fun v3 d3 H3 hd3 t3 b3 j3 => ?_⟩
            exact ⟨_, _, _, rfl, b3, jar_more j3 (by omega), t3, Nat.le_trans (odd_wid _ hd3) (by omega)⟩
      · rintro σ' H3 ⟨o7, v', e', rfl, b3, j3, t3, w3⟩
        have ep3 : H3 p = some (.lst xs) := b3 _ _ np ep2
        have ta3 := ThAll.mono (Sm.same (hid_but b3)) ta2
        refine ⟨_, rfl, p, xs, rfl, SqL.of ep3, fun q hq => ⟨q, rfl, ⟨_, SqL.of upd_same⟩, ?_⟩⟩
        have sq := same_upd (o := .lst xs.reverse) hq
        have eq4 : upd H3 q (.lst xs.reverse) q = some (.lst xs.reverse) := upd_same
        generalize upd H3 q (.lst xs.reverse) = H4 at sq eq4 ⊢
        have ta4 := ThAllj.same ta3 sq
        have j4 := jar_same j3 sq
        refine for_list (xs := xs.reverse) (fun i σ H' => ∃ (o5' o8 : Option V) (v : V) (e : PyData), σ = [some (.ref j), some x, some (.ref p), some v, o4, o5', some (.int way), o7, o8] ∧ Same H4 H' ∧ Th (hid j H') v e ∧ wid e ≤ W + 1)
          ⟨o5, none, v', e', rfl, Same.refl _, Thj.same t3 sq, w3⟩ (fun i σ H' _ ⟨_, _, _, _, _, z, _⟩ => SqL.of (z _ _ eq4)) ?_ ?_
        · rintro i y σ H' hi ⟨o5', o8, v, e, rfl, s5, te, we'⟩
          have hy : y ∈ xs := List.mem_reverse.mp (List.mem_of_getElem? hi)
          obtain ⟨dy, hdy, ty⟩ := all_mem ta4 hy
          obtain ⟨⟨ds, c⟩, hq5, rfl⟩ := List.mem_map.mp hdy
          obtain ⟨wl, wm, lt⟩ := ok _ hq5
          have wl : ds.length ≤ W := wl
          have wm : ∀ d ∈ ds, wid d ≤ W := wm
          have lt : c < ds.length := lt
          have ty5 := Thj.same ty s5
          have hj5 := jar_ne (jar_same j4 s5)
          cases ty5 with
          | @tup t zs _ et tz => cases tz with
            | @cons z1 _ _ _ h1 r1 => cases r1 with
              | cons h2 r2 =>
                cases r2
                cases h2
                refine ⟨t, _, rfl, SqT.of (hid_same j H' _ _ et), rfl, _, _, rfl, _, _, rfl, rfl, ?_⟩
                have M : ∀ {σ : L2.St}, σ[3]? = some (some v) → σ[8]? = some (some z1) → σ[5]? = some (some (.int (c : Nat))) → Mk j (tOp (rCatA K) (tOp (rCatA K) (tSl (rSlA K) (tVar 8) tNoPart (tPart (tVar 5))) (tTup (tCons (tVar 3) tNil))) (tSl (rSlA K) (tVar 8) (tPart (tOp (rI0 fun i j => .int (i + j)) (tVar 5) (tC (.int 1)))) tNoPart)) σ H'
                    (.tuple ((cutD ds none (some (c : Int)) ++ [e]) ++ cutD ds (some (((c + 1 : Nat)) : Int)) none)) := fun h3 h8 h5 =>
                  mk_catA hj5 (mk_catA hj5 (mk_slice hj5 (mk_var h8 h1) (fun _ _ q => q) (fun _ _ q => p_int (fun _ => vi_var h5) q)) (mk_tup hj5 (mkA_cons (mk_var h3 te) mkA_nil) (by simp)) (by have := @cutD_to ds c; simp only [List.length_cons, List.length_nil]; omega))
                    (mk_slice hj5 (mk_var h8 h1) (fun _ _ q => p_int (fun _ => vi_op (vi_var h5) vi_c fun Q q => ⟨_, _, rfl, rfl, q⟩) q) (fun _ _ q => q)) (by have := @cutD_to ds c; have := @cutD_from ds (c + 1); rw [List.length_append, List.length_singleton]; omega)
                refine M rfl rfl rfl H' (Same.refl H') _ fun v6 H6 s6 t6 => ?_
                refine ⟨_, _, v6, _, rfl, s5.trans s6, t6, w_cat ?_ (fun d hd => ?_) fun d hd => Nat.le_succ_of_le (wm d (cutD_mem hd))⟩
                · have := @cutD_to ds c
                  have := @cutD_from ds (c + 1)
                  rw [List.length_append, List.length_singleton]
                  omega
                · rcases List.mem_append.mp hd with h | h
                  · exact Nat.le_succ_of_le (wm d (cutD_mem h))
                  · rw [List.mem_singleton.mp h]
                    exact we'
        · rintro σ H' ⟨o5', o8, v, e, rfl, s5, te, we'⟩
          exact ⟨_, rfl, k v e H' we' te (b0.trans (b2.trans (b3.trans (KJ.But.same (sq.trans s5))))) (jar_same j4 s5)⟩
end
end KP

set_option Elab.async false
set_option linter.all false
set_option maxRecDepth 100000
set_option maxHeartbeats 4000000
/-! ### the law's check of one jar, and the law -/
namespace KP
open PySem PySem.Spec PyProof.Rows L2 KX KT KJ KS
/-- f(k = v, ..) -/
theorem pe_callK0 {X : Cx} {CX : CXT} {k : Nat} {f : Addr} {fd : FuncData} {ps ks : List Str} {sp : Sp} {E : XK} {x : Str} {p pos : Pos} {kws : List Keyword} {tk : TA} {g : List Value → List Value → List Value} {gV : List V → List V → List V}
    (F : FnOk X.prog X.w X.K X.mg X.base CX k f fd ps sp) (hr : Room k X.A) (hg : Gl X x) (hm : X.mg x = some (.ref f)) (hk : PySem.W.keepIn X.K (.ref f) = true) (hb : KBinds X.K fd ps ks g gV) (hx : Passes CX X E) (hkw : PK X kws tk)
    (hall : (backToKw pos (keywordEach kws X.env)).all (·.1.isSome) = true := by rfl) (hks : (backToKw pos (keywordEach kws X.env)).filterMap (·.1) = ks := by rfl) (hdb : (x == ("__debug__" : Str)) = false := by decide)
    (hpl : ((backTo pos (starEach [] X.env)).any (·.1) || (backToKw pos (keywordEach kws X.env)).any (·.1.isNone)) = false := by rfl) : PE X (.Call (.Name x p) [] kws pos) (tCallK sp gV E tNil tk) :=
  ⟨fun pins s σ H Q I h => wpAny_Call_Name_kw (ld_glob I hg hm (PySem.W.callWith_KW0 (h₀ := X.base) I.ok.mod.kin hk hall (thn (hkw.run pos pins s σ H _ I h) fun ws s2 ⟨zs, H2, I2, rz, q2⟩ => ⟨I2.kIn, by
    rw [hks]
    exact run_fnk F hr hb hx I2 .nil rz q2⟩) hpl) hdb)⟩
def Bt (j : Addr) (H H' : Hp) : Prop := ∀ b u, b ≠ j → H b = some u → (∀ q, u ≠ .tbl q) → H' b = some u
theorem Bt.but {j : Addr} {H H1 H2 : Hp} (a : Bt j H H1) (b : KJ.But j H1 H2) : Bt j H H2 := fun c u n e t => b c u n (a c u n e t)
theorem Bt.sm {j : Addr} {H H1 H2 : Hp} (a : Bt j H H1) (b : Sm H1 H2) : Bt j H H2 := fun c u n e t => b c u (a c u n e t) t
theorem jar_sm {H H' : Hp} {j : Addr} {n : Nat} (h : JarAt H j n) (s : Sm H H') : JarAt H' j n := by
  obtain ⟨a, b, c, e, r⟩ := h
  exact ⟨a, b, c, s _ _ e (fun _ z => by cases z), r⟩
theorem tbs_but {Ps : List Addr} {H H' : Hp} {j : Addr} {n : Nat} (t : Tbs Ps H) (jr : JarAt H j n) (b : KJ.But j H H') : Tbs Ps H' := fun P hP => by
  obtain ⟨ps, e, k⟩ := t P hP
  obtain ⟨_, _, _, ej, _⟩ := jr
  exact ⟨ps, b _ _ (fun z => by rw [z, ej] at e; cases e) e, k⟩
theorem tbs_same {Ps : List Addr} {H H' : Hp} (t : Tbs Ps H) (b : Same H H') : Tbs Ps H' := fun P hP => by
  obtain ⟨ps, e, k⟩ := t P hP
  exact ⟨ps, b _ _ e, k⟩
theorem sq_sm {K : PySem.W.Frag} {H H' : Hp} {a : Addr} {xs : List V} (s : Sm H H') (h : SqL K H a xs) : SqL K H' a xs := by
  rcases h with (h | ⟨o, h⟩) | h
  · exact .inl (.inl (s _ _ h fun _ z => by cases z))
  · exact .inl (.inr ⟨o, s _ _ h fun _ z => by cases z⟩)
  · exact .inr h
theorem wid_lens {d : PyData} {n : Nat} (h : wid d ≤ n) (hn : n ≤ 2000) : lenT (ith 3 d) ≤ 2000 ∧ lenT (ith 4 d) ≤ 2000 :=
  ⟨Nat.le_trans lenT_wid (Nat.le_trans wid_ith (Nat.le_trans h hn)), Nat.le_trans lenT_wid (Nat.le_trans wid_ith (Nat.le_trans h hn))⟩
def spSame2 : Sp := fun vs H Q _ => ∃ (a b : Addr) (x : Bool), vs = [.ref a, .ref b] ∧ H a = some (.lst [.bl x, .bl x]) ∧ H b = some (.lst [.bl x, .bl x]) ∧ Q (.bl true) H
def spRight2 (Ps : List Addr) : Sp := fun vs H Q _ => ∃ j, vs = [.ref j] ∧ JarAt H j 0 ∧ Tbs Ps H ∧ ∀ H', Bt j H H' → Tbs Ps H' → Q (.bl true) H'
def spLaw2 (K : PySem.W.Frag) (Ps : List Addr) : Sp := fun vs H Q _ => ∃ (a : Addr) (ns : List Int), vs = [.ref a] ∧ SqL K H a (ns.map V.int) ∧ ns.length ≤ 63 ∧ Tbs Ps H ∧ ∀ H', Q (.bl true) H'
structure TxM (mg : Str → Option Value) : Prop extends TxD mg where
  max : mg "max" = none
  min : mg "min" = none
abbrev nRt : List Str := ["jar", "turn", "net", "bent", "some", "each", "due"]
section
variable {P : Program} {w : World} {K : PySem.W.Frag} {mg : Str → Option Value} {base : Heap}
theorem scSm : FnScope ["told", "due"] ["told", "due"] (defScope lSame) := ⟨rfl, rfl, rfl, by decide +kernel, rfl, by decide +kernel, by decide +kernel⟩
theorem shw2 {H : Hp} {a : Addr} {x : Bool} (e : H a = some (.lst [.bl x, .bl x])) : Shw K H (.ref a) (.list [.bool x, .bool x]) := by
  refine ⟨?_, ?_, ?_, .inl ⟨by simp [PyData.hasDict, PyData.hasDictAll], .lst (SqL.of e) (.cons (.bl x) (.cons (.bl x) .nil))⟩⟩
  · cases x <;> decide +kernel
  · cases x <;> (simp only [PyData.shown, PyData.shownAll]; decide +kernel)
  · cases x <;> decide +kernel
theorem ok_same2 {f : Addr} {fd : FuncData} (F : Fun K "_law_same" "_law_same" lSame f fd) (T : TxD mg) : FnG P w K mg base 1 f fd ["told", "due"] spSame2 := by
  refine FnG.mk' F scSm (fun {vs H Q E} h => ?_) (fun cdv A outer s H vs Q E qu hr h => ?_)
  · obtain ⟨a, b, x, rfl, _⟩ := h
    rfl
  · obtain ⟨a, b, x, rfl, ea, eb, k⟩ := h
    have qu' : Quiet (A.deeper (envOfC "_law_same" (defScope lSame) s.heap.objs.size f cdv)) := qu
    have hu : (A.deeper (envOfC "_law_same" (defScope lSame) s.heap.objs.size f cdv)).units + 64 < cLine := by have := hr.un; omega
    refine ⟨_, pss_one (ps_ret (pe_cmpR op_eq (pe_callB (cr_repr qu' hu) (by rfl) T.repr (by decide +kernel) (pa_cons (pv 0) pa_nil)) (pe_callB (cr_repr qu' hu) (by rfl) T.repr (by decide +kernel) (pa_cons (pv 1) pa_nil)) (nomark _))), ?_⟩
    refine ⟨_, rfl, _, _, rfl, shw2 ea, _, rfl, _, _, rfl, shw2 eb, rfl, ?_⟩
    rw [decide_eq_true rfl]
    exact k
theorem scRt : FnScope nRt ["jar"] (defScope lRight) := ⟨rfl, rfl, rfl, by decide +kernel, rfl, by decide +kernel, by decide +kernel⟩
theorem ok_right2 {f fM fB fO fP fN fT fS : Addr} {fd fdM fdB fdO fdP fdN fdT fdS : FuncData} {Ps : List Addr} (F : Fun K "_law_right" "_law_right" lRight f fd) (T : TxD mg)
    (FM : FnOk P w K mg base CX0 4 fM fdM ["jar", "most"] spMakeNet) (mM : mg "_law_net" = some (.ref fM)) (kM : PySem.W.keepIn K (.ref fM) = true) (bM : Binds K fdM ["jar", "most"] [])
    (FB : FnOk P w K mg base CX0 4 fB fdB ["jar", "thing"] spBent) (mB : mg "_law_bent" = some (.ref fB)) (kB : PySem.W.keepIn K (.ref fB) = true) (bB : Binds K fdB ["jar", "thing"] [])
    (FO : FnOk P w K mg base CX0 3 fO fdO ["jar"] spOdd) (mO : mg "_law_odd" = some (.ref fO)) (kO : PySem.W.keepIn K (.ref fO) = true) (bO : Binds K fdO ["jar"] [])
    (FP : FnOk P w K mg base CX0 3 fP fdP ["jar", "net"] spPlanted) (mP : mg "_law_planted" = some (.ref fP)) (kP : PySem.W.keepIn K (.ref fP) = true) (bP : Binds K fdP ["jar", "net"] [])
    (FN : FnOk P w K mg base CX0 5 fN fdN ["thing"] spNetL) (mN : mg "_law_is_net" = some (.ref fN)) (kN : PySem.W.keepIn K (.ref fN) = true) (bN : Binds K fdN ["thing"] [])
    (FT : FnOk P w K mg base CX0 8 fT fdT ["value"] (spNet Ps)) (mT : mg "is_net" = some (.ref fT)) (kT : PySem.W.keepIn K (.ref fT) = true) (bT : Binds K fdT ["value"] []) (bTk : KBinds K fdT ["value"] ["value"] (fun us ws => us ++ ws) (fun us ws => us ++ ws))
    (FS : FnG P w K mg base 1 fS fdS ["told", "due"] spSame2) (mS : mg "_law_same" = some (.ref fS)) (kS : PySem.W.keepIn K (.ref fS) = true) (bS : Binds K fdS ["told", "due"] []) :
    FnG P w K mg base 9 f fd ["jar"] (spRight2 Ps) := by
  refine FnG.mk' F scRt (fun {vs H Q E} h => ?_) (fun cdv A outer s H vs Q E qu hr h => ?_)
  · obtain ⟨j, rfl, _⟩ := h
    rfl
  · obtain ⟨j, rfl, hj, tb, k⟩ := h
    have hr4 : Room 4 _ := hr.mono (by decide)
    have hr3 : Room 3 _ := hr.mono (by decide)
    have hr5 : Room 5 _ := hr.mono (by decide)
    have hr1 : Room 1 _ := hr.mono (by decide)
    have qu' : Quiet (A.deeper (envOfC "_law_right" (defScope lRight) s.heap.objs.size f cdv)) := qu
    refine ⟨_, pss_cons (ps_for PassesOwn.never rfl (pi_range1 rfl T.range (pa_cons pe_int pa_nil)) (pg_name (i := 1) scRt.nd rfl (Or.inl rfl))
        (pss_cons (ps_set (i := 2) scRt.nd rfl (Or.inl rfl) (pe_call FM hr4 rfl mM kM bM .nil pass0 (pa_cons (pv 0) (pa_cons pe_int pa_nil))))
        (pss_cons (ps_set (i := 3) scRt.nd rfl (Or.inl rfl) (pe_call FB hr4 rfl mB kB bB .nil pass0 (pa_cons (pv 0) (pa_cons (pv 2) pa_nil))))
        (pss_cons (ps_set (i := 4) scRt.nd rfl (Or.inl rfl) (pe_lst (pa_cons (pv 2) (pa_cons (pv 3) (pa_cons (pe_call FB hr4 rfl mB kB bB .nil pass0 (pa_cons (pv 0) (pa_cons (pv 3) pa_nil))) (pa_cons (pe_call FO hr3 rfl mO kO bO .nil pass0 (pa_cons (pv 0) pa_nil))
            (pa_cons (pe_call FP hr3 rfl mP kP bP .nil pass0 (pa_cons (pv 0) (pa_cons (pv 2) pa_nil))) (pa_cons (pe_call FP hr3 rfl mP kP bP .nil pass0 (pa_cons (pv 0) (pa_cons (pv 2) pa_nil))) pa_nil))))))))
        (pss_one (ps_for PassesOwn.never rfl (pi_list (pe_op op_cat (pv 4) (pe_lst (pa_cons (pe_call FB hr4 rfl mB kB bB .nil pass0 (pa_cons (pv 0) (pa_cons (pe_call FP hr3 rfl mP kP bP .nil pass0 (pa_cons (pv 0) (pa_cons (pv 2) pa_nil))) pa_nil))) pa_nil)))) (pg_name (i := 5) scRt.nd rfl (Or.inl rfl))
          (pss_cons (ps_set (i := 6) scRt.nd rfl (Or.inl rfl) (pe_call FN hr5 rfl mN kN bN .nil pass0 (pa_cons (pv 5) pa_nil)))
          (pss_one (ps_if (pt_not (pt_val (pe_quiet FS qu' hr1 rfl mS kS bS (pa_cons (pe_lst (pa_cons (pe_call FT hr rfl mT kT bT .nil pass0 (pa_cons (pv 5) pa_nil)) (pa_cons (pe_callK0 FT hr rfl mT kT bTk pass0 (pk_cons (pv 5) pk_nil)) pa_nil)))
              (pa_cons (pe_lst (pa_cons (pv 6) (pa_cons (pv 6) pa_nil))) pa_nil))))) (pss_one (ps_ret pe_bl)) pss_nil)))))))))
      (pss_one (ps_ret pe_bl)), ?_⟩
    refine ⟨4, rfl, by decide, by decide, ?_⟩
    refine for_range (lo := 0) (n := 4) (fun i σ H' => ∃ o1 o2 o3 o4 o5 o6 : Option V, σ = [some (.ref j), o1, o2, o3, o4, o5, o6] ∧ JarAt H' j (200 * i) ∧ Tbs Ps H' ∧ Bt j H H') ⟨none, none, none, none, none, none, rfl, hj, tb, fun _ _ _ e _ => e⟩ ?_ ?_
    · rintro i σ H1 hi ⟨o1, o2, o3, o4, o5, o6, rfl, j1, t1, b1⟩
      -- net, bent
      refine ⟨_, rfl, j, _, rfl, j1, by omega, fun v2 d2 m u ps fs ss H2 nf th2 c2 j2 => ?_⟩
      have t2 := tbs_but t1 j1 c2
      refine ⟨_, rfl, _, rfl, j, _, 13, v2, d2, rfl, j2, by omega, by decide, by decide, nf.wd, th2, fun v3 d3 H3 w3 th3 c3 j3 => ?_⟩
      have t3 := tbs_but t2 j2 c3
      -- the six
      refine ⟨_, rfl, _, rfl, _, rfl, _, rfl, j, _, 14, v3, d3, rfl, j3, by omega, by decide, by decide, w3, th3, fun v4 d4 H4 w4 th4 c4 j4 => ?_⟩
      have t4 := tbs_but t3 j3 c4
      refine ⟨_, rfl, j, _, rfl, j4, by omega, fun v5 d5 H5 w5 th5 c5 j5 => ?_⟩
      have t5 := tbs_but t4 j4 c5
      have n5 := Thj.but (Thj.but (Thj.but th2 c3) c4) c5
      refine ⟨_, rfl, _, rfl, j, _, v2, d2, m, u, ps, fs, ss, rfl, j5, by omega, nf, n5, fun v6 d6 H6 w6 th6 c6 j6 => ?_⟩
      have t6 := tbs_but t5 j5 c6
      have n6 := Thj.but n5 c6
      refine ⟨_, rfl, _, rfl, j, _, v2, d2, m, u, ps, fs, ss, rfl, j6, by omega, nf, n6, fun v7 d7 H7 w7 th7 c7 j7 => ⟨by show 6 ≤ sizeLine; decide, fun l hl => ?_⟩⟩
      have t7 := tbs_but t6 j6 c7
      have n7 := Thj.but n6 c7
      have sl := same_upd (o := .lst [v2, v3, v4, v5, v6, v7]) hl
      have A6 : ThAll (hid j (upd H7 l (.lst [v2, v3, v4, v5, v6, v7]))) [v2, v3, v4, v5, v6, v7] [d2, d3, d4, d5, d6, d7] := ThAllj.same (.cons n7 (.cons (Thj.but (Thj.but (Thj.but (Thj.but th3 c4) c5) c6) c7) (.cons (Thj.but (Thj.but (Thj.but th4 c5) c6) c7)
        (.cons (Thj.but (Thj.but th5 c6) c7) (.cons (Thj.but th6 c7) (.cons th7 .nil)))))) sl
      have el : upd H7 l (.lst [v2, v3, v4, v5, v6, v7]) l = some (.lst [v2, v3, v4, v5, v6, v7]) := upd_same
      have nl : l ≠ j := new_ne hl (jar_ne j7)
      have b8 := ((((((b1.but c2).but c3).but c4).but c5).but c6).but c7).sm (Sm.same sl)
      have t8 := tbs_same t7 sl
      have j8 := jar_same j7 sl
      have n8 := Thj.same n7 sl
      generalize upd H7 l (.lst [v2, v3, v4, v5, v6, v7]) = H8 at A6 el b8 t8 j8 n8 ⊢
      -- one more
      refine ⟨_, rfl, _, rfl, _, rfl, _, rfl, j, _, v2, d2, m, u, ps, fs, ss, rfl, j8, by omega, nf, n8, fun v9 d9 H9 w9 th9 c9 j9 => ?_⟩
      have t9 := tbs_but t8 j8 c9
      refine ⟨j, _, 14, v9, d9, rfl, j9, by omega, by decide, by decide, w9, th9, fun v10 d10 HA wA thA cA jA => ⟨by show 1 ≤ sizeLine; decide, fun l2 hl2 => ?_⟩⟩
      have tA := tbs_but t9 j9 cA
      have s2 := same_upd (o := .lst [v10]) hl2
      have elA : HA l = some (.lst [v2, v3, v4, v5, v6, v7]) := cA _ _ nl (c9 _ _ nl el)
      refine ⟨l, l2, _, _, rfl, rfl, s2 _ _ elA, upd_same, by show 7 ≤ sizeLine; decide, fun q hq => ?_⟩
      have sq := s2.trans (same_upd (o := .lst ([v2, v3, v4, v5, v6, v7] ++ [v10])) hq)
      have A7 : ThAll (hid j (upd (upd HA l2 (.lst [v10])) q (.lst ([v2, v3, v4, v5, v6, v7] ++ [v10])))) ([v2, v3, v4, v5, v6, v7] ++ [v10]) ([d2, d3, d4, d5, d6, d7] ++ [d10]) := ThAllj.same (ThAll.append (ThAll.mono (Sm.same (hid_but (c9.trans cA))) A6) (.cons thA .nil)) sq
      have eq : upd (upd HA l2 (.lst [v10])) q (.lst ([v2, v3, v4, v5, v6, v7] ++ [v10])) q = some (.lst ([v2, v3, v4, v5, v6, v7] ++ [v10])) := upd_same
      have bB := ((b8.but c9).but cA).sm (Sm.same sq)
      have tB := tbs_same tA sq
      have jB := jar_same jA sq
      generalize upd (upd HA l2 (.lst [v10])) q (.lst ([v2, v3, v4, v5, v6, v7] ++ [v10])) = HB at A7 eq bB tB jB ⊢
      have wd : ∀ d ∈ [d2, d3, d4, d5, d6, d7] ++ [d10], wid d ≤ 20 := fun d hd => by
        have w5' := odd_wid _ w5
        have w2' := nf.wd
        simp only [List.cons_append, List.nil_append, List.mem_cons, List.not_mem_nil, or_false] at hd
        rcases hd with rfl | rfl | rfl | rfl | rfl | rfl | rfl <;> omega
      refine ⟨q, rfl, ⟨_, SqL.of eq⟩, ?_⟩
      refine for_list (xs := [v2, v3, v4, v5, v6, v7] ++ [v10]) (fun _ σ H' => ∃ o5 o6 : Option V, σ = [some (.ref j), some (.int (0 + (i : Int))), some v2, some v3, some (.ref l), o5, o6] ∧ Sm HB H' ∧ Tbs Ps H') ⟨o5, o6, rfl, Sm.refl _, tB⟩
        (fun i σ H' _ ⟨_, _, _, z, _⟩ => SqL.of (z _ _ eq fun _ y => by cases y)) ?_ ?_
      · rintro i7 x σ HC hx ⟨o5', o6', rfl, sC, tC⟩
        obtain ⟨d, hd, thd⟩ := all_mem A7 (List.mem_of_getElem? hx)
        have th : Th HC x d := (Thj.th thd).mono sC
        obtain ⟨l3, l4⟩ := wid_lens (wd d hd) (by decide)
        refine ⟨_, rfl, x, d, rfl, th, l3, l4, fun HD sD => ?_⟩
        have tD := tbs_same tC sD
        have thD := th.mono (Sm.same sD)
        refine ⟨_, rfl, x, d, rfl, thD, tD, fun HE gE => ?_⟩
        refine ⟨_, rfl, x, d, rfl, thD.mono gE.sm, gE.tbs, fun HF gF => ⟨by show 2 ≤ sizeLine; decide, fun p1 hp1 => ?_⟩⟩
        refine ⟨_, rfl, _, rfl, by show 2 ≤ sizeLine; decide, fun p2 hp2 => ?_⟩
        have s1 := same_upd (o := .lst [V.bl (isNet d), .bl (isNet d)]) hp1
        have s2 := same_upd (o := .lst [V.bl (isNet d), .bl (isNet d)]) hp2
        refine ⟨p1, p2, isNet d, rfl, s2 _ _ upd_same, upd_same, _, rfl, iteB (fun z => by cases z) fun _ => ?_⟩
        exact ⟨_, _, rfl, ((sC.trans (Sm.same sD)).trans (gE.sm.trans gF.sm)).trans (Sm.same (s1.trans s2)), tbs_same gF.tbs (s1.trans s2)⟩
      · rintro σ HC ⟨o5', o6', rfl, sC, tC⟩
        exact ⟨_, _, _, _, _, _, rfl, jar_more (jar_sm jB sC) (by omega), tC, bB.sm sC⟩
    · rintro σ H1 ⟨o1, o2, o3, o4, o5, o6, rfl, j1, t1, b1⟩
      exact k H1 b1 t1
theorem scLw : FnScope ["script", "turn"] ["script"] (defScope lLaw) := ⟨rfl, rfl, rfl, by decide +kernel, rfl, by decide +kernel, by decide +kernel⟩
theorem ok_law2 {f fR fJ : Addr} {fd fdR fdJ : FuncData} {Ps : List Addr} (F : Fun K "law" "law" lLaw f fd) (T : TxM mg)
    (FR : FnG P w K mg base 9 fR fdR ["jar"] (spRight2 Ps)) (mR : mg "_law_right" = some (.ref fR)) (kR : PySem.W.keepIn K (.ref fR) = true) (bR : Binds K fdR ["jar"] [])
    (FJ : FnOk P w K mg base CX0 1 fJ fdJ ["script", "turn"] (spJar K)) (mJ : mg "_law_jar" = some (.ref fJ)) (kJ : PySem.W.keepIn K (.ref fJ) = true) (bJ : Binds K fdJ ["script", "turn"] []) :
    FnG P w K mg base 10 f fd ["script"] (spLaw2 K Ps) := by
  refine FnG.mk' F scLw (fun {vs H Q E} h => ?_) (fun cdv A outer s H vs Q E qu hr h => ?_)
  · obtain ⟨j, _, rfl, _⟩ := h
    rfl
  · obtain ⟨a, ns, rfl, hS, hn, tb, k⟩ := h
    have hr1 : Room 1 _ := hr.mono (by decide)
    have qu' : Quiet (A.deeper (envOfC "law" (defScope lLaw) s.heap.objs.size f cdv)) := qu
    refine ⟨_, pss_one (ps_ret (pe_callB (cr_all rfl) (by rfl) T.all (by decide +kernel) (pa_cons (pe_lc (own := [("turn", 1)]) (g := gName 1) (tt := tYes) rfl scLw.nd
      (pi_range1 rfl T.range (pa_cons (pe_callB (call_max2 rfl) (by rfl) T.max (by decide +kernel) (pa_cons pe_int (pa_cons (pe_callB (call_min2 rfl) (by rfl) T.min (by decide +kernel) (pa_cons (pe_callB call_len_seq (by rfl) T.len PySem.boot_len (pa_cons (pv 0) pa_nil)) (pa_cons pe_int pa_nil))) pa_nil))) pa_nil))
      (blkOk_by (N := ["script", "turn"]) (sc := defScope lLaw) (by decide +kernel)) (fun _ _ _ _ _ => pg_name (i := 1) scLw.nd rfl (Or.inl rfl)) (fun _ _ _ _ _ => pts_nil)
      (fun _ _ _ _ _ => pe_quiet FR qu' hr rfl mR kR bR (pa_cons (pe_call FJ hr1 rfl mJ kJ bJ .nil pass0 (pa_cons (pv 0) (pa_cons (pv 1) pa_nil))) pa_nil))) pa_nil))), ?_⟩
    refine ⟨_, rfl, a, _, rfl, .inl hS, _, _, rfl, _, _, rfl, _, rfl, ?_, ?_, fun D hD => ?_⟩
    · split <;> split <;> omega
    · rw [List.length_map]
      split <;> split <;> omega
    · rw [List.length_map]
      generalize hN : (if (if (4 : Int) < (ns.length : Nat) then (4 : Int) else (ns.length : Nat)) > 2 then (if (4 : Int) < (ns.length : Nat) then (4 : Int) else (ns.length : Nat)) else (2 : Int)).toNat = N
      have hN4 : N ≤ 4 := by
        rw [← hN]
        split <;> split <;> omega
      refine lc_range (lo := 0) (n := N) (fun n H' => Sm H H' ∧ Tbs Ps H' ∧ H' D = some (.lst ((List.replicate n true).map V.bl))) ⟨Sm.same (same_upd hD), tbs_same tb (same_upd hD), upd_same⟩ ?_ ?_
      · rintro i H1 hi ⟨s1, t1, hD1⟩
        refine ⟨rfl, ?_⟩
        refine ⟨_, rfl, _, rfl, a, ns, i, by rw [Int.zero_add]; rfl, sq_sm s1 hS, hn, by omega, fun j H2 hj s2 jr => ?_⟩
        refine ⟨j, rfl, jr, tbs_same t1 s2, fun H3 b3 t3 => ?_⟩
        have nD : D ≠ j := ne_of_none hD1 hj
        refine ⟨_, b3 _ _ nD (s2 _ _ hD1) (fun _ z => by cases z), ?_, fun b o e nt => ?_, fun p hp => ?_, ?_⟩
        · rw [List.length_map, List.length_replicate]
          exact Nat.lt_of_lt_of_le hi (Nat.le_trans hN4 (by decide))
        · have nb : b ≠ D := fun z => by
            rw [z, hD] at e
            cases e
          rw [upd_ne nb]
          have e1 := s1 _ _ e nt
          exact b3 _ _ (ne_of_none e1 hj) (s2 _ _ e1) nt
        · obtain ⟨ps, e, c⟩ := t3 p hp
          have e3 := b3 _ _ nD (s2 _ _ hD1) (fun _ z => by cases z)
          exact ⟨ps, by rw [upd_ne (fun z => by rw [z, e3] at e; cases e)]; exact e, c⟩
        · rw [upd_same, List.replicate_succ', List.map_append]
          rfl
      · rintro H1 ⟨s1, t1, hD1⟩
        refine ⟨D, _, rfl, SqL.of hD1, ?_⟩
        have al : (List.replicate N true).all id = true := by
          rw [List.all_eq_true]
          intro x hx
          rw [List.eq_of_mem_replicate hx]
          rfl
        rw [al]
        exact k H1
end
end KP

set_option Elab.async false
set_option linter.all false
set_option maxRecDepth 100000
set_option maxHeartbeats 4000000
/-! ### the end of a quiet law with tables -/
namespace KG
open PySem PySem.Spec PyProof.Rows L2 KX
/-- what is known of the table of a top def -/
abbrev TabFact (mg : Str → Option Value) (h : Heap) (y : Str) : Prop := ∃ (a : Addr) (o : Obj) (fd : FuncData) (c P : Addr), mg y = some (.ref a) ∧ h.get? a = some o ∧ o.data = .func fd ∧ fd.code = .ref c ∧ PySem.W.CodeHd h c P ∧ h.get? P = some { cls := .none, data := .fields #[] }
theorem walkGT {l : PySem.W.OpenLaw} {n k : Nat} {q : Program} {loose : List Str} {XP : (Str → Option Value) → Heap → Prop} {YP : World → Heap → Prop} {d : DefRec} {K : Params → PySem.W.Frag} {x : Str}
    (hn : l.most = some n) (hn2 : n ≤ sizeLine) (hdf : d.params.defaults = []) (hr : Room k callerA) (hY : ∀ (w : World) (h : Heap), YP w h → (K w.params).In h)
    (F : ∀ (w : World) (mg : Str → Option Value) (fa : Addr) (h : Heap), (K w.params).In h → h.Ns mainGlobals mg → mg d.name = some (.ref fa) → (∀ y : Str, ((recsOf q).any fun e => e.name == y) = true → TabFact mg h y) →
      ∃ (fd : FuncData) (cs : List (Addr × Addr)) (sp : Sp), (∀ p ∈ cs, h.get? p.2 = some { cls := .none, data := .fields #[] }) ∧ (∀ p ∈ cs, (K w.params).lookup p.2 = none) ∧ (∀ p ∈ cs, PySem.W.CodeHd h p.1 p.2) ∧ (∀ (s : Shared) (u : Value), BindsTo s fd ⟨[u], []⟩ [(x, u)]) ∧
        (∀ (H : Hp) (a : Addr) (ns : List Int), ns.length ≤ n → (∀ p ∈ cs, H p.2 = some (.tbl #[])) → SqL (K w.params) H a (ns.map V.int) → sp [.ref a] H (fun v _ => v = .bl true) fun _ _ _ => False) ∧
        ∀ base : Heap, (K w.params).In base → base.Ns mainGlobals mg → (∀ p ∈ cs, GxR.TabB base mg p.1 p.2) → FnG l.prog w (K w.params) mg base k fa fd [x] sp) :
    PySem.W.WalkO q loose XP YP l.row.toRowW d [] (fun f vs => PySem.call f vs) :=
  Att.attach_call hn hdf fun w s₀ s₁ mg mb fa o pm cd doc a vs ns G Y ho hd hcd hmg hobj hints hlen hg => by
    obtain ⟨fd, cs, sp, hT, nT, C, b, hsp, f⟩ := F w mg fa _ (hY w _ Y) G.T.g hmg fun y hy => by
      obtain ⟨e, he, en⟩ := List.any_eq_true.mp hy
      have en : e.name = y := beq_iff_eq.mp en
      obtain ⟨a1, o1, fd1, c1, P1, h1, h2, h3, h4, h5, h6⟩ := G.T.tab e he
      rw [en] at h1
      exact ⟨a1, o1, fd1, c1, P1, h1, h2, h3, h4, PySem.W.CodeHd.of h5 h6, h6.2⟩
    exact lawGT (hY w _ Y) G.T.g G.T.b G.T.builtins G.T.nolimit hg hT nT C G.T.bmain hobj hints (Nat.le_trans hlen hn2) hr f b fun H h1 h2 => hsp H a ns hlen h1 h2
/-- a def whose table is known -/
theorem tab_def {K : PySem.W.Frag} {h : Heap} {mg : Str → Option Value} {y : Str} {f : Addr} {oc : Value} {od : Option Addr} {fd : FuncData} {sl : Array (Option Value)} (X : K.In h) (m : mg y = some (.ref f)) (l : K.lookup f = some ⟨oc, od, .func fd, sl⟩) (nt : PySem.W.noTabs K = true) (t : TabFact mg h y) :
    ∃ c P, fd.code = .ref c ∧ PySem.W.CodeHd h c P ∧ h.get? P = some { cls := .none, data := .fields #[] } ∧ K.lookup P = none := by
  obtain ⟨a, o, fd', c, P, h1, h2, h3, h4, h5, h6⟩ := t
  rw [m] at h1
  cases h1
  have e := X _ _ l
  rw [e] at h2
  cases h2
  cases h3
  refine ⟨c, P, h4, h5, h6, ?_⟩
  cases z : K.lookup P with
  | none => rfl
  | some u =>
    have e := X _ _ z
    rw [h6] at e
    cases e
    have := List.all_eq_true.mp nt _ (PySem.W.mem_of_lookupK z)
    cases this
end KG

set_option Elab.async false
set_option linter.all false
set_option maxRecDepth 100000
set_option maxHeartbeats 4000000
/-! ### what the top has written -/
namespace KP
open PySem PySem.Spec PyProof.Rows L2 KX KT KJ KS KG
theorem all_mk2 {l : PySem.W.OpenLaw} {w : World} {K : PySem.W.Frag} {h : Heap} {mg : Str → Option Value} {fa : Addr} {f0 f1 f2 f3 f4 f5 f6 f7 f8 f9 f10 f11 f12 f13 f14 f15 f16 f17 f18 f19 f20 f21 f22 f23 f24 f25 f26 : Addr} (X : K.In h) (G : h.Ns mainGlobals mg) (hfa : mg "law" = some (.ref fa)) (tp : TabFact mg h "_are_pipes") (tt : TabFact mg h "_are_tanks")
    (a0 : PySem.W.nsIn K mainGlobals "is_whole" = some (some (.ref f0)))
    {oc0 : Value} {od0 an0 : Option Addr} {sl0 : Array (Option Value)} {kV0 dc0 pm0 cd0 ct0 : Value}
    (l0 : K.lookup f0 = some ⟨oc0, od0, .func (PySem.W.fnOf "is_whole" "is_whole" (defArgs sWhole) (defBody sWhole) (defScope sWhole) .none kV0 dc0 pm0 an0 cd0 ct0), sl0⟩)
    (c0 : PySem.W.codeIn K cd0 "is_whole" = true)
    (k0 : PySem.W.keepIn K (.ref f0) = true)
    (a1 : PySem.W.nsIn K mainGlobals "is_within" = some (some (.ref f1)))
    {oc1 : Value} {od1 an1 : Option Addr} {sl1 : Array (Option Value)} {kV1 dc1 pm1 cd1 ct1 : Value}
    (l1 : K.lookup f1 = some ⟨oc1, od1, .func (PySem.W.fnOf "is_within" "is_within" (defArgs sWithin) (defBody sWithin) (defScope sWithin) .none kV1 dc1 pm1 an1 cd1 ct1), sl1⟩)
    (c1 : PySem.W.codeIn K cd1 "is_within" = true)
    (k1 : PySem.W.keepIn K (.ref f1) = true)
    (a2 : PySem.W.nsIn K mainGlobals "is_ratio" = some (some (.ref f2)))
    {oc2 : Value} {od2 an2 : Option Addr} {sl2 : Array (Option Value)} {kV2 dc2 pm2 cd2 ct2 : Value}
    (l2 : K.lookup f2 = some ⟨oc2, od2, .func (PySem.W.fnOf "is_ratio" "is_ratio" (defArgs sRatio) (defBody sRatio) (defScope sRatio) .none kV2 dc2 pm2 an2 cd2 ct2), sl2⟩)
    (c2 : PySem.W.codeIn K cd2 "is_ratio" = true)
    (k2 : PySem.W.keepIn K (.ref f2) = true)
    (a3 : PySem.W.nsIn K mainGlobals "is_told" = some (some (.ref f3)))
    {oc3 : Value} {od3 an3 : Option Addr} {sl3 : Array (Option Value)} {kV3 dc3 pm3 cd3 ct3 : Value}
    (l3 : K.lookup f3 = some ⟨oc3, od3, .func (PySem.W.fnOf "is_told" "is_told" (defArgs sTold) (defBody sTold) (defScope sTold) .none kV3 dc3 pm3 an3 cd3 ct3), sl3⟩)
    (c3 : PySem.W.codeIn K cd3 "is_told" = true)
    (k3 : PySem.W.keepIn K (.ref f3) = true)
    (a4 : PySem.W.nsIn K mainGlobals "is_net" = some (some (.ref f4)))
    {oc4 : Value} {od4 an4 : Option Addr} {sl4 : Array (Option Value)} {kV4 dc4 pm4 cd4 ct4 : Value}
    (l4 : K.lookup f4 = some ⟨oc4, od4, .func (PySem.W.fnOf "is_net" "is_net" (defArgs sNet) (defBody sNet) (defScope sNet) .none kV4 dc4 pm4 an4 cd4 ct4), sl4⟩)
    (c4 : PySem.W.codeIn K cd4 "is_net" = true)
    (k4 : PySem.W.keepIn K (.ref f4) = true)
    (a5 : PySem.W.nsIn K mainGlobals "_are_pipes" = some (some (.ref f5)))
    {oc5 : Value} {od5 an5 : Option Addr} {sl5 : Array (Option Value)} {kV5 dc5 pm5 cd5 ct5 : Value}
    (l5 : K.lookup f5 = some ⟨oc5, od5, .func (PySem.W.fnOf "_are_pipes" "_are_pipes" (defArgs sPipes) (defBody sPipes) (defScope sPipes) .none kV5 dc5 pm5 an5 cd5 ct5), sl5⟩)
    (c5 : PySem.W.codeIn K cd5 "_are_pipes" = true)
    (k5 : PySem.W.keepIn K (.ref f5) = true)
    (a6 : PySem.W.nsIn K mainGlobals "_is_pipe" = some (some (.ref f6)))
    {oc6 : Value} {od6 an6 : Option Addr} {sl6 : Array (Option Value)} {kV6 dc6 pm6 cd6 ct6 : Value}
    (l6 : K.lookup f6 = some ⟨oc6, od6, .func (PySem.W.fnOf "_is_pipe" "_is_pipe" (defArgs sPipe) (defBody sPipe) (defScope sPipe) .none kV6 dc6 pm6 an6 cd6 ct6), sl6⟩)
    (c6 : PySem.W.codeIn K cd6 "_is_pipe" = true)
    (k6 : PySem.W.keepIn K (.ref f6) = true)
    (a7 : PySem.W.nsIn K mainGlobals "_is_share" = some (some (.ref f7)))
    {oc7 : Value} {od7 an7 : Option Addr} {sl7 : Array (Option Value)} {kV7 dc7 pm7 cd7 ct7 : Value}
    (l7 : K.lookup f7 = some ⟨oc7, od7, .func (PySem.W.fnOf "_is_share" "_is_share" (defArgs sShare) (defBody sShare) (defScope sShare) .none kV7 dc7 pm7 an7 cd7 ct7), sl7⟩)
    (c7 : PySem.W.codeIn K cd7 "_is_share" = true)
    (k7 : PySem.W.keepIn K (.ref f7) = true)
    (a8 : PySem.W.nsIn K mainGlobals "_are_tanks" = some (some (.ref f8)))
    {oc8 : Value} {od8 an8 : Option Addr} {sl8 : Array (Option Value)} {kV8 dc8 pm8 cd8 ct8 : Value}
    (l8 : K.lookup f8 = some ⟨oc8, od8, .func (PySem.W.fnOf "_are_tanks" "_are_tanks" (defArgs sTanks) (defBody sTanks) (defScope sTanks) .none kV8 dc8 pm8 an8 cd8 ct8), sl8⟩)
    (c8 : PySem.W.codeIn K cd8 "_are_tanks" = true)
    (k8 : PySem.W.keepIn K (.ref f8) = true)
    (a9 : PySem.W.nsIn K mainGlobals "_law_jar" = some (some (.ref f9)))
    {oc9 : Value} {od9 an9 : Option Addr} {sl9 : Array (Option Value)} {kV9 dc9 pm9 cd9 ct9 : Value}
    (l9 : K.lookup f9 = some ⟨oc9, od9, .func (PySem.W.fnOf "_law_jar" "_law_jar" (defArgs KJ.sJar) (defBody KJ.sJar) (defScope KJ.sJar) .none kV9 dc9 pm9 an9 cd9 ct9), sl9⟩)
    (c9 : PySem.W.codeIn K cd9 "_law_jar" = true)
    (k9 : PySem.W.keepIn K (.ref f9) = true)
    (a10 : PySem.W.nsIn K mainGlobals "_law_dip" = some (some (.ref f10)))
    {oc10 : Value} {od10 an10 : Option Addr} {sl10 : Array (Option Value)} {kV10 dc10 pm10 cd10 ct10 : Value}
    (l10 : K.lookup f10 = some ⟨oc10, od10, .func (PySem.W.fnOf "_law_dip" "_law_dip" (defArgs KJ.sDip) (defBody KJ.sDip) (defScope KJ.sDip) .none kV10 dc10 pm10 an10 cd10 ct10), sl10⟩)
    (c10 : PySem.W.codeIn K cd10 "_law_dip" = true)
    (k10 : PySem.W.keepIn K (.ref f10) = true)
    (a11 : PySem.W.nsIn K mainGlobals "_law_one_of" = some (some (.ref f11)))
    {oc11 : Value} {od11 an11 : Option Addr} {sl11 : Array (Option Value)} {kV11 dc11 pm11 cd11 ct11 : Value}
    (l11 : K.lookup f11 = some ⟨oc11, od11, .func (PySem.W.fnOf "_law_one_of" "_law_one_of" (defArgs KJ.sOne) (defBody KJ.sOne) (defScope KJ.sOne) .none kV11 dc11 pm11 an11 cd11 ct11), sl11⟩)
    (c11 : PySem.W.codeIn K cd11 "_law_one_of" = true)
    (k11 : PySem.W.keepIn K (.ref f11) = true)
    (a12 : PySem.W.nsIn K mainGlobals "_law_same" = some (some (.ref f12)))
    {oc12 : Value} {od12 an12 : Option Addr} {sl12 : Array (Option Value)} {kV12 dc12 pm12 cd12 ct12 : Value}
    (l12 : K.lookup f12 = some ⟨oc12, od12, .func (PySem.W.fnOf "_law_same" "_law_same" (defArgs lSame) (defBody lSame) (defScope lSame) .none kV12 dc12 pm12 an12 cd12 ct12), sl12⟩)
    (c12 : PySem.W.codeIn K cd12 "_law_same" = true)
    (k12 : PySem.W.keepIn K (.ref f12) = true)
    (a13 : PySem.W.nsIn K mainGlobals "_law_frac" = some (some (.ref f13)))
    {oc13 : Value} {od13 an13 : Option Addr} {sl13 : Array (Option Value)} {kV13 dc13 pm13 cd13 ct13 : Value}
    (l13 : K.lookup f13 = some ⟨oc13, od13, .func (PySem.W.fnOf "_law_frac" "_law_frac" (defArgs lFrac) (defBody lFrac) (defScope lFrac) .none kV13 dc13 pm13 an13 cd13 ct13), sl13⟩)
    (c13 : PySem.W.codeIn K cd13 "_law_frac" = true)
    (k13 : PySem.W.keepIn K (.ref f13) = true)
    (a14 : PySem.W.nsIn K mainGlobals "_law_told_part" = some (some (.ref f14)))
    {oc14 : Value} {od14 an14 : Option Addr} {sl14 : Array (Option Value)} {kV14 dc14 pm14 cd14 ct14 : Value}
    (l14 : K.lookup f14 = some ⟨oc14, od14, .func (PySem.W.fnOf "_law_told_part" "_law_told_part" (defArgs lToldPart) (defBody lToldPart) (defScope lToldPart) .none kV14 dc14 pm14 an14 cd14 ct14), sl14⟩)
    (c14 : PySem.W.codeIn K cd14 "_law_told_part" = true)
    (k14 : PySem.W.keepIn K (.ref f14) = true)
    (a15 : PySem.W.nsIn K mainGlobals "_law_lot" = some (some (.ref f15)))
    {oc15 : Value} {od15 an15 : Option Addr} {sl15 : Array (Option Value)} {kV15 dc15 pm15 cd15 ct15 : Value}
    (l15 : K.lookup f15 = some ⟨oc15, od15, .func (PySem.W.fnOf "_law_lot" "_law_lot" (defArgs lLot) (defBody lLot) (defScope lLot) .none kV15 dc15 pm15 an15 cd15 ct15), sl15⟩)
    (c15 : PySem.W.codeIn K cd15 "_law_lot" = true)
    (k15 : PySem.W.keepIn K (.ref f15) = true)
    (a16 : PySem.W.nsIn K mainGlobals "_law_net" = some (some (.ref f16)))
    {oc16 : Value} {od16 an16 : Option Addr} {sl16 : Array (Option Value)} {kV16 dc16 pm16 cd16 ct16 : Value}
    (l16 : K.lookup f16 = some ⟨oc16, od16, .func (PySem.W.fnOf "_law_net" "_law_net" (defArgs lNet) (defBody lNet) (defScope lNet) .none kV16 dc16 pm16 an16 cd16 ct16), sl16⟩)
    (c16 : PySem.W.codeIn K cd16 "_law_net" = true)
    (k16 : PySem.W.keepIn K (.ref f16) = true)
    (a17 : PySem.W.nsIn K mainGlobals "_law_is_whole" = some (some (.ref f17)))
    {oc17 : Value} {od17 an17 : Option Addr} {sl17 : Array (Option Value)} {kV17 dc17 pm17 cd17 ct17 : Value}
    (l17 : K.lookup f17 = some ⟨oc17, od17, .func (PySem.W.fnOf "_law_is_whole" "_law_is_whole" (defArgs lIsWhole) (defBody lIsWhole) (defScope lIsWhole) .none kV17 dc17 pm17 an17 cd17 ct17), sl17⟩)
    (c17 : PySem.W.codeIn K cd17 "_law_is_whole" = true)
    (k17 : PySem.W.keepIn K (.ref f17) = true)
    (a18 : PySem.W.nsIn K mainGlobals "_law_is_told" = some (some (.ref f18)))
    {oc18 : Value} {od18 an18 : Option Addr} {sl18 : Array (Option Value)} {kV18 dc18 pm18 cd18 ct18 : Value}
    (l18 : K.lookup f18 = some ⟨oc18, od18, .func (PySem.W.fnOf "_law_is_told" "_law_is_told" (defArgs lIsTold) (defBody lIsTold) (defScope lIsTold) .none kV18 dc18 pm18 an18 cd18 ct18), sl18⟩)
    (c18 : PySem.W.codeIn K cd18 "_law_is_told" = true)
    (k18 : PySem.W.keepIn K (.ref f18) = true)
    (a19 : PySem.W.nsIn K mainGlobals "_law_is_pipe" = some (some (.ref f19)))
    {oc19 : Value} {od19 an19 : Option Addr} {sl19 : Array (Option Value)} {kV19 dc19 pm19 cd19 ct19 : Value}
    (l19 : K.lookup f19 = some ⟨oc19, od19, .func (PySem.W.fnOf "_law_is_pipe" "_law_is_pipe" (defArgs lIsPipe) (defBody lIsPipe) (defScope lIsPipe) .none kV19 dc19 pm19 an19 cd19 ct19), sl19⟩)
    (c19 : PySem.W.codeIn K cd19 "_law_is_pipe" = true)
    (k19 : PySem.W.keepIn K (.ref f19) = true)
    (a20 : PySem.W.nsIn K mainGlobals "_law_are_tanks" = some (some (.ref f20)))
    {oc20 : Value} {od20 an20 : Option Addr} {sl20 : Array (Option Value)} {kV20 dc20 pm20 cd20 ct20 : Value}
    (l20 : K.lookup f20 = some ⟨oc20, od20, .func (PySem.W.fnOf "_law_are_tanks" "_law_are_tanks" (defArgs lAreTanks) (defBody lAreTanks) (defScope lAreTanks) .none kV20 dc20 pm20 an20 cd20 ct20), sl20⟩)
    (c20 : PySem.W.codeIn K cd20 "_law_are_tanks" = true)
    (k20 : PySem.W.keepIn K (.ref f20) = true)
    (a21 : PySem.W.nsIn K mainGlobals "_law_is_net" = some (some (.ref f21)))
    {oc21 : Value} {od21 an21 : Option Addr} {sl21 : Array (Option Value)} {kV21 dc21 pm21 cd21 ct21 : Value}
    (l21 : K.lookup f21 = some ⟨oc21, od21, .func (PySem.W.fnOf "_law_is_net" "_law_is_net" (defArgs lIsNet) (defBody lIsNet) (defScope lIsNet) .none kV21 dc21 pm21 an21 cd21 ct21), sl21⟩)
    (c21 : PySem.W.codeIn K cd21 "_law_is_net" = true)
    (k21 : PySem.W.keepIn K (.ref f21) = true)
    (a22 : PySem.W.nsIn K mainGlobals "_law_odd" = some (some (.ref f22)))
    {oc22 : Value} {od22 an22 : Option Addr} {sl22 : Array (Option Value)} {kV22 dc22 pm22 cd22 ct22 : Value}
    (l22 : K.lookup f22 = some ⟨oc22, od22, .func (PySem.W.fnOf "_law_odd" "_law_odd" (defArgs lOdd) (defBody lOdd) (defScope lOdd) .none kV22 dc22 pm22 an22 cd22 ct22), sl22⟩)
    (c22 : PySem.W.codeIn K cd22 "_law_odd" = true)
    (k22 : PySem.W.keepIn K (.ref f22) = true)
    (a23 : PySem.W.nsIn K mainGlobals "_law_bent" = some (some (.ref f23)))
    {oc23 : Value} {od23 an23 : Option Addr} {sl23 : Array (Option Value)} {kV23 dc23 pm23 cd23 ct23 : Value}
    (l23 : K.lookup f23 = some ⟨oc23, od23, .func (PySem.W.fnOf "_law_bent" "_law_bent" (defArgs lBent) (defBody lBent) (defScope lBent) .none kV23 dc23 pm23 an23 cd23 ct23), sl23⟩)
    (c23 : PySem.W.codeIn K cd23 "_law_bent" = true)
    (k23 : PySem.W.keepIn K (.ref f23) = true)
    (a24 : PySem.W.nsIn K mainGlobals "_law_planted" = some (some (.ref f24)))
    {oc24 : Value} {od24 an24 : Option Addr} {sl24 : Array (Option Value)} {kV24 dc24 pm24 cd24 ct24 : Value}
    (l24 : K.lookup f24 = some ⟨oc24, od24, .func (PySem.W.fnOf "_law_planted" "_law_planted" (defArgs lPlanted) (defBody lPlanted) (defScope lPlanted) .none kV24 dc24 pm24 an24 cd24 ct24), sl24⟩)
    (c24 : PySem.W.codeIn K cd24 "_law_planted" = true)
    (k24 : PySem.W.keepIn K (.ref f24) = true)
    (a25 : PySem.W.nsIn K mainGlobals "_law_right" = some (some (.ref f25)))
    {oc25 : Value} {od25 an25 : Option Addr} {sl25 : Array (Option Value)} {kV25 dc25 pm25 cd25 ct25 : Value}
    (l25 : K.lookup f25 = some ⟨oc25, od25, .func (PySem.W.fnOf "_law_right" "_law_right" (defArgs lRight) (defBody lRight) (defScope lRight) .none kV25 dc25 pm25 an25 cd25 ct25), sl25⟩)
    (c25 : PySem.W.codeIn K cd25 "_law_right" = true)
    (k25 : PySem.W.keepIn K (.ref f25) = true)
    (a26 : PySem.W.nsIn K mainGlobals "law" = some (some (.ref f26)))
    {oc26 : Value} {od26 an26 : Option Addr} {sl26 : Array (Option Value)} {kV26 dc26 pm26 cd26 ct26 : Value}
    (l26 : K.lookup f26 = some ⟨oc26, od26, .func (PySem.W.fnOf "law" "law" (defArgs lLaw) (defBody lLaw) (defScope lLaw) .none kV26 dc26 pm26 an26 cd26 ct26), sl26⟩)
    (c26 : PySem.W.codeIn K cd26 "law" = true)
    (k26 : PySem.W.keepIn K (.ref f26) = true)
    (ztype : PySem.W.nsIn K mainGlobals "type" = some none)
    (zint : PySem.W.nsIn K mainGlobals "int" = some none)
    (ztuple : PySem.W.nsIn K mainGlobals "tuple" = some none)
    (zstr : PySem.W.nsIn K mainGlobals "str" = some none)
    (zlen : PySem.W.nsIn K mainGlobals "len" = some none)
    (zabs : PySem.W.nsIn K mainGlobals "abs" = some none)
    (zall : PySem.W.nsIn K mainGlobals "all" = some none)
    (zenumerate : PySem.W.nsIn K mainGlobals "enumerate" = some none)
    (zzip : PySem.W.nsIn K mainGlobals "zip" = some none)
    (zisinstance : PySem.W.nsIn K mainGlobals "isinstance" = some none)
    (zbool : PySem.W.nsIn K mainGlobals "bool" = some none)
    (zrange : PySem.W.nsIn K mainGlobals "range" = some none)
    (zany : PySem.W.nsIn K mainGlobals "any" = some none)
    (zset : PySem.W.nsIn K mainGlobals "set" = some none)
    (zsorted : PySem.W.nsIn K mainGlobals "sorted" = some none)
    (zlist : PySem.W.nsIn K mainGlobals "list" = some none)
    (zrepr : PySem.W.nsIn K mainGlobals "repr" = some none)
    (zmax : PySem.W.nsIn K mainGlobals "max" = some none)
    (zmin : PySem.W.nsIn K mainGlobals "min" = some none)
    (zdivmod : PySem.W.nsIn K mainGlobals "divmod" = some none)
    {tk0 : Tok}
    (q0 : PySem.W.nsIn K mainGlobals "TOLD_BOUND" = some (some (.int 999 tk0)))
    {tk1 : Tok}
    (q1 : PySem.W.nsIn K mainGlobals "MOST_TANKS" = some (some (.int 4 tk1)))
    {tk2 : Tok}
    (q2 : PySem.W.nsIn K mainGlobals "MOST_UNKNOWNS" = some (some (.int 4 tk2)))
    {tk3 : Tok}
    (q3 : PySem.W.nsIn K mainGlobals "MOST_TOGETHER" = some (some (.int 7 tk3)))
    {tk4 : Tok}
    (q4 : PySem.W.nsIn K mainGlobals "MOST_PIPES" = some (some (.int 12 tk4)))
    (qg : PySem.W.nsIn K mainGlobals "gcd" = some (some (.builtin "math.gcd")))
    (nt : PySem.W.noTabs K = true)
    : ∃ (fd : FuncData) (cs : List (Addr × Addr)) (sp : Sp), (∀ p ∈ cs, h.get? p.2 = some { cls := .none, data := .fields #[] }) ∧ (∀ p ∈ cs, K.lookup p.2 = none) ∧ (∀ p ∈ cs, PySem.W.CodeHd h p.1 p.2) ∧ (∀ (s : Shared) (u : Value), BindsTo s fd ⟨[u], []⟩ [("script", u)]) ∧
        (∀ (H : Hp) (a : Addr) (ns : List Int), ns.length ≤ 63 → (∀ p ∈ cs, H p.2 = some (.tbl #[])) → SqL K H a (ns.map V.int) → sp [.ref a] H (fun v _ => v = .bl true) fun _ _ _ => False) ∧
        ∀ base : Heap, K.In base → base.Ns mainGlobals mg → (∀ p ∈ cs, GxR.TabB base mg p.1 p.2) → FnG l.prog w K mg base 10 fa fd ["script"] sp := by
  have e := hfa.symm.trans (PySem.W.mg_of X G a26)
  cases e
  have F0 := fun_mk (st := sWhole) l0 c0 k0
  have m0 := PySem.W.mg_of X G a0
  have b0 := F0.binds (ps := ["value"]) fun _ _ _ _ _ _ us hl => match us, hl with | [_], _ => rfl
  have F1 := fun_mk (st := sWithin) l1 c1 k1
  have m1 := PySem.W.mg_of X G a1
  have b1 := F1.binds (ps := ["value", "least", "most"]) fun _ _ _ _ _ _ us hl => match us, hl with | [_, _, _], _ => rfl
  have F2 := fun_mk (st := sRatio) l2 c2 k2
  have m2 := PySem.W.mg_of X G a2
  have b2 := F2.binds (ps := ["value"]) fun _ _ _ _ _ _ us hl => match us, hl with | [_], _ => rfl
  have F3 := fun_mk (st := sTold) l3 c3 k3
  have m3 := PySem.W.mg_of X G a3
  have b3 := F3.binds (ps := ["value"]) fun _ _ _ _ _ _ us hl => match us, hl with | [_], _ => rfl
  have F4 := fun_mk (st := sNet) l4 c4 k4
  have m4 := PySem.W.mg_of X G a4
  have b4 := F4.binds (ps := ["value"]) fun _ _ _ _ _ _ us hl => match us, hl with | [_], _ => rfl
  have F5 := fun_mk (st := sPipes) l5 c5 k5
  have m5 := PySem.W.mg_of X G a5
  have b5 := F5.binds (ps := ["pipes", "many", "unknowns"]) fun _ _ _ _ _ _ us hl => match us, hl with | [_, _, _], _ => rfl
  have F6 := fun_mk (st := sPipe) l6 c6 k6
  have m6 := PySem.W.mg_of X G a6
  have b6 := F6.binds (ps := ["pipe", "many", "unknowns"]) fun _ _ _ _ _ _ us hl => match us, hl with | [_, _, _], _ => rfl
  have F7 := fun_mk (st := sShare) l7 c7 k7
  have m7 := PySem.W.mg_of X G a7
  have b7 := F7.binds (ps := ["share", "unknowns"]) fun _ _ _ _ _ _ us hl => match us, hl with | [_, _], _ => rfl
  have F8 := fun_mk (st := sTanks) l8 c8 k8
  have m8 := PySem.W.mg_of X G a8
  have b8 := F8.binds (ps := ["tanks", "many"]) fun _ _ _ _ _ _ us hl => match us, hl with | [_, _], _ => rfl
  have F9 := fun_mk (st := KJ.sJar) l9 c9 k9
  have m9 := PySem.W.mg_of X G a9
  have b9 := F9.binds (ps := ["script", "turn"]) fun _ _ _ _ _ _ us hl => match us, hl with | [_, _], _ => rfl
  have F10 := fun_mk (st := KJ.sDip) l10 c10 k10
  have m10 := PySem.W.mg_of X G a10
  have b10 := F10.binds (ps := ["jar", "top"]) fun _ _ _ _ _ _ us hl => match us, hl with | [_, _], _ => rfl
  have F11 := fun_mk (st := KJ.sOne) l11 c11 k11
  have m11 := PySem.W.mg_of X G a11
  have b11 := F11.binds (ps := ["jar", "some"]) fun _ _ _ _ _ _ us hl => match us, hl with | [_, _], _ => rfl
  have F12 := fun_mk (st := lSame) l12 c12 k12
  have m12 := PySem.W.mg_of X G a12
  have b12 := F12.binds (ps := ["told", "due"]) fun _ _ _ _ _ _ us hl => match us, hl with | [_, _], _ => rfl
  have F13 := fun_mk (st := lFrac) l13 c13 k13
  have m13 := PySem.W.mg_of X G a13
  have b13 := F13.binds (ps := ["top", "low"]) fun _ _ _ _ _ _ us hl => match us, hl with | [_, _], _ => rfl
  have F14 := fun_mk (st := lToldPart) l14 c14 k14
  have m14 := PySem.W.mg_of X G a14
  have b14 := F14.binds (ps := ["jar"]) fun _ _ _ _ _ _ us hl => match us, hl with | [_], _ => rfl
  have F15 := fun_mk (st := lLot) l15 c15 k15
  have m15 := PySem.W.mg_of X G a15
  have b15 := F15.binds (ps := ["jar", "many"]) fun _ _ _ _ _ _ us hl => match us, hl with | [_, _], _ => rfl
  have F16 := fun_mk (st := lNet) l16 c16 k16
  have m16 := PySem.W.mg_of X G a16
  have b16 := F16.binds (ps := ["jar", "most"]) fun _ _ _ _ _ _ us hl => match us, hl with | [_, _], _ => rfl
  have F17 := fun_mk (st := lIsWhole) l17 c17 k17
  have m17 := PySem.W.mg_of X G a17
  have b17 := F17.binds (ps := ["thing", "low", "high"]) fun _ _ _ _ _ _ us hl => match us, hl with | [_, _, _], _ => rfl
  have F18 := fun_mk (st := lIsTold) l18 c18 k18
  have m18 := PySem.W.mg_of X G a18
  have b18 := F18.binds (ps := ["thing"]) fun _ _ _ _ _ _ us hl => match us, hl with | [_], _ => rfl
  have F19 := fun_mk (st := lIsPipe) l19 c19 k19
  have m19 := PySem.W.mg_of X G a19
  have b19 := F19.binds (ps := ["many", "unknowns", "thing"]) fun _ _ _ _ _ _ us hl => match us, hl with | [_, _, _], _ => rfl
  have F20 := fun_mk (st := lAreTanks) l20 c20 k20
  have m20 := PySem.W.mg_of X G a20
  have b20 := F20.binds (ps := ["many", "thing"]) fun _ _ _ _ _ _ us hl => match us, hl with | [_, _], _ => rfl
  have F21 := fun_mk (st := lIsNet) l21 c21 k21
  have m21 := PySem.W.mg_of X G a21
  have b21 := F21.binds (ps := ["thing"]) fun _ _ _ _ _ _ us hl => match us, hl with | [_], _ => rfl
  have F22 := fun_mk (st := lOdd) l22 c22 k22
  have m22 := PySem.W.mg_of X G a22
  have b22 := F22.binds (ps := ["jar"]) fun _ _ _ _ _ _ us hl => match us, hl with | [_], _ => rfl
  have F23 := fun_mk (st := lBent) l23 c23 k23
  have m23 := PySem.W.mg_of X G a23
  have b23 := F23.binds (ps := ["jar", "thing"]) fun _ _ _ _ _ _ us hl => match us, hl with | [_, _], _ => rfl
  have F24 := fun_mk (st := lPlanted) l24 c24 k24
  have m24 := PySem.W.mg_of X G a24
  have b24 := F24.binds (ps := ["jar", "net"]) fun _ _ _ _ _ _ us hl => match us, hl with | [_, _], _ => rfl
  have F25 := fun_mk (st := lRight) l25 c25 k25
  have m25 := PySem.W.mg_of X G a25
  have b25 := F25.binds (ps := ["jar"]) fun _ _ _ _ _ _ us hl => match us, hl with | [_], _ => rfl
  have F26 := fun_mk (st := lLaw) l26 c26 k26
  have m26 := PySem.W.mg_of X G a26
  have b26 := F26.binds (ps := ["script"]) fun _ _ _ _ _ _ us hl => match us, hl with | [_], _ => rfl
  obtain ⟨cp, Pp, ecp, cdp, gp, np⟩ := tab_def X m5 l5 nt tp
  obtain ⟨ct, Pt, ect, cdt, gt, nt2⟩ := tab_def X m8 l8 nt tt
  have ecp : cd5 = .ref cp := ecp
  have ect : cd8 = .ref ct := ect
  have FCp : FunC K "_are_pipes" "_are_pipes" sPipes f5 _ cp := ⟨_, _, _, _, _, _, _, _, by rw [ecp], l5, by rw [← ecp]; exact c5⟩
  have FCt : FunC K "_are_tanks" "_are_tanks" sTanks f8 _ ct := ⟨_, _, _, _, _, _, _, _, by rw [ect], l8, by rw [← ect]; exact c8⟩
  have TT : TxT mg := ⟨PySem.W.mg_none_of X G ztype, PySem.W.mg_none_of X G zint, PySem.W.mg_none_of X G ztuple, PySem.W.mg_none_of X G zstr, PySem.W.mg_none_of X G zlen, PySem.W.mg_none_of X G zabs, PySem.W.mg_none_of X G zall, PySem.W.mg_none_of X G zenumerate, PySem.W.mg_none_of X G zzip⟩
  have TL : TxL mg := { toTxT := TT, isinstance := PySem.W.mg_none_of X G zisinstance, bool := PySem.W.mg_none_of X G zbool, range := PySem.W.mg_none_of X G zrange, any := PySem.W.mg_none_of X G zany }
  have TD : TxD mg := { toTxL := TL, set := PySem.W.mg_none_of X G zset, sorted := PySem.W.mg_none_of X G zsorted, list := PySem.W.mg_none_of X G zlist, repr := PySem.W.mg_none_of X G zrepr }
  have TM : TxM mg := { toTxD := TD, max := PySem.W.mg_none_of X G zmax, min := PySem.W.mg_none_of X G zmin }
  have TJ : TxJ mg := ⟨PySem.W.mg_none_of X G zint, PySem.W.mg_none_of X G zlen, PySem.W.mg_none_of X G zabs, PySem.W.mg_none_of X G zdivmod⟩
  have mc0 := PySem.W.mg_of X G q0
  have mc1 := PySem.W.mg_of X G q1
  have mc2 := PySem.W.mg_of X G q2
  have mc3 := PySem.W.mg_of X G q3
  have mc4 := PySem.W.mg_of X G q4
  have mg1 := PySem.W.mg_of X G qg
  have bk : KBinds K (PySem.W.fnOf "is_net" "is_net" (defArgs sNet) (defBody sNet) (defScope sNet) .none kV4 dc4 pm4 an4 cd4 ct4) ["value"] ["value"] (fun us ws => us ++ ws) (fun us ws => us ++ ws) :=
    ⟨fun s us ws _ hl => match us, ws, hl with | [], [_], _ => .of_eq rfl | [_], [], _ => .of_eq rfl, fun r rz => r.append rz⟩
  refine ⟨PySem.W.fnOf "law" "law" (defArgs lLaw) (defBody lLaw) (defScope lLaw) .none kV26 dc26 pm26 an26 cd26 ct26, [(cp, Pp), (ct, Pt)], spLaw2 K [Pp, Pt], ?_, ?_, ?_, fun s v => .of_eq rfl, fun H a ns hl ht hS => ⟨a, ns, rfl, hS, hl, ?_, fun _ => rfl⟩, fun base _ _ TB => ?_⟩
  · intro p hp
    simp only [List.mem_cons, List.not_mem_nil, or_false] at hp
    rcases hp with rfl | rfl <;> assumption
  · intro p hp
    simp only [List.mem_cons, List.not_mem_nil, or_false] at hp
    rcases hp with rfl | rfl <;> assumption
  · intro p hp
    simp only [List.mem_cons, List.not_mem_nil, or_false] at hp
    rcases hp with rfl | rfl <;> assumption
  · intro p hp
    simp only [List.mem_cons, List.not_mem_nil, or_false] at hp
    rcases hp with rfl | rfl
    · exact ⟨#[], ht (cp, p) (by simp), trivial⟩
    · exact ⟨#[], ht (ct, p) (by simp), trivial⟩
  have TBp := TB (cp, Pp) (by simp)
  have TBt := TB (ct, Pt) (by simp)
  have G0 := ok_whole (P := l.prog) (w := w) (base := base) F0 TT
  have G1 := ok_within F1 G0 m0 k0 b0
  have G2 := ok_ratio F2 TT mg1 G0 m0 k0 b0
  have G3 := ok_told F3 TT mc0 ⟨_, rfl⟩ G2 m2 k2 b2
  have G7 := ok_share F7 TT G1 m1 k1 b1 G3 m3 k3 b3
  have G6 := ok_pipe F6 TT G1 m1 k1 b1 G7 m7 k7 b7
  have G5 := ok_pipes (Ps := [Pp, Pt]) FCp TT TBp (by simp) mc4 ⟨_, rfl⟩ G6 m6 k6 b6
  have G8 := ok_tanks (Ps := [Pp, Pt]) FCt TT TBt (by simp) G1 m1 k1 b1
  have G4 := ok_net F4 TT mc1 ⟨_, rfl⟩ mc2 ⟨_, rfl⟩ mc3 ⟨_, rfl⟩ G1 m1 k1 b1 G5 m5 k5 b5 G8 m8 k8 b8
  have G17 := ok_lwhole (P := l.prog) (w := w) (base := base) F17 TL
  have G13 := ok_frac (P := l.prog) (w := w) (base := base) F13 TL
  have G18 := ok_ltold F18 TL G17 m17 k17 b17 G13 m13 k13 b13
  have G19 := ok_lpipe F19 TL G17 m17 k17 b17 G18 m18 k18 b18
  have G20 := ok_ltanks F20 TL G17 m17 k17 b17
  have G21 := ok_lnet F21 TL G17 m17 k17 b17 G19 m19 k19 b19 G20 m20 k20 b20
  have G9 := ok_jar (P := l.prog) (w := w) (base := base) F9 TJ
  have G10 := ok_dip (P := l.prog) (w := w) (base := base) F10 TJ
  have G11 := ok_one F11 TJ G10 m10 k10 b10
  have G14 := ok_part F14 G10 m10 k10 b10 G11 m11 k11 b11 G13 m13 k13 b13
  have G15 := ok_lot F15 TD G10 m10 k10 b10
  have G16 := ok_make F16 TD G10 m10 k10 b10 G11 m11 k11 b11 G14 m14 k14 b14 G15 m15 k15 b15
  have G22 := ok_odd F22 G11 m11 k11 b11
  have G24 := ok_planted F24 TL G10 m10 k10 b10 G11 m11 k11 b11
  have G23 := ok_bent F23 TD G10 m10 k10 b10 G17 m17 k17 b17 G22 m22 k22 b22
  have G12 := ok_same2 (P := l.prog) (w := w) (base := base) F12 TD
  have G25 := ok_right2 F25 TD G16 m16 k16 b16 G23 m23 k23 b23 G22 m22 k22 b22 G24 m24 k24 b24 G21 m21 k21 b21 G4 m4 k4 b4 bk G12 m12 k12 b12
  exact ok_law2 F26 TM G25 m25 k25 b25 G9 m9 k9 b9
end KP

set_option Elab.async false
set_option linter.all false
open PySem PySem.W PyProof.Rows in
set_option maxRecDepth 100000 in
set_option maxHeartbeats 0 in
theorem PySem.Challenge.cw_hiddenrates_k02_whole_nets_of_anything_holds : PySem.Challenge.rw_hiddenrates_k02_whole_nets_of_anything.Holds := by
  w_on; o_law; k_head; (case hw => w_witness2)
  k_fill
  refine KG.walkGT (l := PySem.Challenge.rw_hiddenrates_k02_whole_nets_of_anything) (n := 63) (k := 10) (x := "script") rfl (by decide) rfl ⟨rfl, by decide, by decide⟩ (fun w h Y => PySem.W.kIn_of Y) ?F
  case F =>
    intro w mg fa h inK G hmg tab
    refine' _root_.KP.all_mk2 inK G hmg (tab _ ?tp) (tab _ ?tt) ?a0 ?l0 ?c0 ?k0 ?a1 ?l1 ?c1 ?k1 ?a2 ?l2 ?c2 ?k2 ?a3 ?l3 ?c3 ?k3 ?a4 ?l4 ?c4 ?k4 ?a5 ?l5 ?c5 ?k5 ?a6 ?l6 ?c6 ?k6 ?a7 ?l7 ?c7 ?k7 ?a8 ?l8 ?c8 ?k8 ?a9 ?l9 ?c9 ?k9 ?a10 ?l10 ?c10 ?k10 ?a11 ?l11 ?c11 ?k11 ?a12 ?l12 ?c12 ?k12 ?a13 ?l13 ?c13 ?k13 ?a14 ?l14 ?c14 ?k14 ?a15 ?l15 ?c15 ?k15 ?a16 ?l16 ?c16 ?k16 ?a17 ?l17 ?c17 ?k17 ?a18 ?l18 ?c18 ?k18 ?a19 ?l19 ?c19 ?k19 ?a20 ?l20 ?c20 ?k20 ?a21 ?l21 ?c21 ?k21 ?a22 ?l22 ?c22 ?k22 ?a23 ?l23 ?c23 ?k23 ?a24 ?l24 ?c24 ?k24 ?a25 ?l25 ?c25 ?k25 ?a26 ?l26 ?c26 ?k26 ?ztype ?zint ?ztuple ?zstr ?zlen ?zabs ?zall ?zenumerate ?zzip ?zisinstance ?zbool ?zrange ?zany ?zset ?zsorted ?zlist ?zrepr ?zmax ?zmin ?zdivmod ?q0 ?q1 ?q2 ?q3 ?q4 ?qg ?nt
    (case a0 => k_is)
    (case l0 => k_is)
    (case c0 => k_is)
    (case k0 => k_is)
    (case a1 => k_is)
    (case l1 => k_is)
    (case c1 => k_is)
    (case k1 => k_is)
    (case a2 => k_is)
    (case l2 => k_is)
    (case c2 => k_is)
    (case k2 => k_is)
    (case a3 => k_is)
    (case l3 => k_is)
    (case c3 => k_is)
    (case k3 => k_is)
    (case a4 => k_is)
    (case l4 => k_is)
    (case c4 => k_is)
    (case k4 => k_is)
    (case a5 => k_is)
    (case l5 => k_is)
    (case c5 => k_is)
    (case k5 => k_is)
    (case a6 => k_is)
    (case l6 => k_is)
    (case c6 => k_is)
    (case k6 => k_is)
    (case a7 => k_is)
    (case l7 => k_is)
    (case c7 => k_is)
    (case k7 => k_is)
    (case a8 => k_is)
    (case l8 => k_is)
    (case c8 => k_is)
    (case k8 => k_is)
    (case a9 => k_is)
    (case l9 => k_is)
    (case c9 => k_is)
    (case k9 => k_is)
    (case a10 => k_is)
    (case l10 => k_is)
    (case c10 => k_is)
    (case k10 => k_is)
    (case a11 => k_is)
    (case l11 => k_is)
    (case c11 => k_is)
    (case k11 => k_is)
    (case a12 => k_is)
    (case l12 => k_is)
    (case c12 => k_is)
    (case k12 => k_is)
    (case a13 => k_is)
    (case l13 => k_is)
    (case c13 => k_is)
    (case k13 => k_is)
    (case a14 => k_is)
    (case l14 => k_is)
    (case c14 => k_is)
    (case k14 => k_is)
    (case a15 => k_is)
    (case l15 => k_is)
    (case c15 => k_is)
    (case k15 => k_is)
    (case a16 => k_is)
    (case l16 => k_is)
    (case c16 => k_is)
    (case k16 => k_is)
    (case a17 => k_is)
    (case l17 => k_is)
    (case c17 => k_is)
    (case k17 => k_is)
    (case a18 => k_is)
    (case l18 => k_is)
    (case c18 => k_is)
    (case k18 => k_is)
    (case a19 => k_is)
    (case l19 => k_is)
    (case c19 => k_is)
    (case k19 => k_is)
    (case a20 => k_is)
    (case l20 => k_is)
    (case c20 => k_is)
    (case k20 => k_is)
    (case a21 => k_is)
    (case l21 => k_is)
    (case c21 => k_is)
    (case k21 => k_is)
    (case a22 => k_is)
    (case l22 => k_is)
    (case c22 => k_is)
    (case k22 => k_is)
    (case a23 => k_is)
    (case l23 => k_is)
    (case c23 => k_is)
    (case k23 => k_is)
    (case a24 => k_is)
    (case l24 => k_is)
    (case c24 => k_is)
    (case k24 => k_is)
    (case a25 => k_is)
    (case l25 => k_is)
    (case c25 => k_is)
    (case k25 => k_is)
    (case a26 => k_is)
    (case l26 => k_is)
    (case c26 => k_is)
    (case k26 => k_is)
    (case ztype => k_is)
    (case zint => k_is)
    (case ztuple => k_is)
    (case zstr => k_is)
    (case zlen => k_is)
    (case zabs => k_is)
    (case zall => k_is)
    (case zenumerate => k_is)
    (case zzip => k_is)
    (case zisinstance => k_is)
    (case zbool => k_is)
    (case zrange => k_is)
    (case zany => k_is)
    (case zset => k_is)
    (case zsorted => k_is)
    (case zlist => k_is)
    (case zrepr => k_is)
    (case zmax => k_is)
    (case zmin => k_is)
    (case zdivmod => k_is)
    (case q0 => k_is)
    (case q1 => k_is)
    (case q2 => k_is)
    (case q3 => k_is)
    (case q4 => k_is)
    (case qg => k_is)
    (case nt => kernel_rfl)
    (case tp => kernel_rfl)
    (case tt => kernel_rfl)


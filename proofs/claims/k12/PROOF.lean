import PyProof.Rows.All
import Wide.All
import OpenK.AllK
import Wide.FinOn
import HandS.ForMost
import HandS.Evl
import HandS.ExcInit
import HandS.ExcIs
import HandS.ExcField
import HandS.WideBits
import PyProof.ReprRoads
import KE.KExcIs
import HandS.IsInst
import HandS.ExcValue
import HandS.Wide
import HandS.Walk
import PySem.Challenge.RW_hiddenrates_k12_whole_sums_products_and
import HandS.Gcd
import HandS.More
import HandS.AnyAll
import HandS.GenList
import HandS.Zip
import KE.GoesEnum
import HandS.Iter
import HandS.Deep
import HandS.TupAny
import HandS.Conv
import HandS.SetFor
import HandS.Strs
import KE.KRevSl
import KE.GoesZip
import KE.GoesMore
import HandS.TupMul
import HandS.Steps
import PyProof.ReprLen
import HandS.EndTab
import KE.KNest
import KE.KTupSum
import KE.SortKeyHeap
import KE.SortData
import HandS.SortKw
import HandS.TupLe
import KE.KDictDisplayH
import HandS.Codes
import HandS.Text
import KE.IntTextText
import HandS.StrMore
import HandS.Style
import HandS.ExcOwn
import HandS.WordsExc
import HandS.TryMany
import KE.KDictKeyed
import KE.KDictCopyH
set_option Elab.async false
set_option linter.all false
set_option maxRecDepth 100000
set_option maxHeartbeats 4000000
/-! ### calls made where no repr is under way: the promise of a def for such callers alone -/
namespace KX
open PySem PySem.Spec PyProof.Rows L2

abbrev Quiet (A : Around) : Prop := A.guards = some []
structure FnG (P : Program) (w : World) (K : PySem.W.Frag) (mg : Str → Option Value) (base : Heap) (k : Nat) (f : Addr) (fd : FuncData) (ps : List Str) (sp : Sp) : Prop where
  arity : ∀ {vs H Q E}, sp vs H Q E → vs.length = ps.length
  goes : ∀ {A outer s H args us vs Q E}, Quiet A → Room k A → Env0 P w K mg base A outer s H → BindsTo s fd args (ps.zip us) → Vals vs us → sp vs H Q E →
    codeAny (model P w) A (.call (.ref f) args) (CR CX0 outer P w H s Q E) s

section
variable {P : Program} {w : World} {K : PySem.W.Frag} {mg : Str → Option Value} {base : Heap} {k : Nat} {f : Addr} {fd : FuncData} {ps : List Str} {sp : Sp}
theorem FnG.of (F : FnOk P w K mg base CX0 k f fd ps sp) : FnG P w K mg base k f fd ps sp := ⟨fun h => F.len _ _ _ _ h, fun _ a b c d e => F.run _ _ _ _ _ _ _ _ _ a b c d e⟩
theorem FnG.lift {j : Nat} (F : FnG P w K mg base j f fd ps sp) (h : j ≤ k) : FnG P w K mg base k f fd ps sp := ⟨F.arity, fun q r => F.goes q (r.mono h)⟩
end

section
variable {X : Cx} {k : Nat} {f : Addr} {fd : FuncData} {ps : List Str} {sp : Sp} {x : Str} {p pos : Pos} {e : Expr} {es : List Expr} {t : TA}
theorem FnG.callee {pins : List (Addr × Obj)} {σ : L2.St} {H : Hp} {s : Shared} {Q : VK} {us : List Value} {vs : List V} (F : FnG X.prog X.w X.K X.mg X.base k f fd ps sp) (qu : Quiet X.A) (hr : Room k X.A) (hb : Binds X.K fd ps [])
    (I : Inv X pins σ H s) (r : Vals vs us) (h : sp vs H Q E0) : wpAny (model X.prog X.w) X.A (call (.ref f) us) (EP X pins σ Q) X.xe s := by
  have bt := hb s us I.kIn (by rw [List.append_nil, ← r.length]; exact F.arity h)
  rw [List.append_nil] at bt
  refine wpAny_call (codeAny_mono (F.goes qu hr I.env0 bt r h) ?_)
  rintro (e | fl) s' z
  · exact z.elim
  · cases fl <;> first | exact I.after z | exact False.elim z
def tQuiet (sp : Sp) (t : TA) : TE := fun σ H Q => t σ H fun vs H1 => sp vs H1 Q E0
theorem pe_quiet (F : FnG X.prog X.w X.K X.mg X.base k f fd ps sp) (qu : Quiet X.A) (hr : Room k X.A) (hg : Gl X x) (hm : X.mg x = some (.ref f)) (hk : PySem.W.keepIn X.K (.ref f) = true) (hb : Binds X.K fd ps [])
    (ha : PA X (e :: es) t) (h1 : (x == ("__debug__" : Str)) = false := by decide) (h2 : starEach (e :: es) X.env = (false, eval e X.env) :: starEach es X.env := by rfl) (h3 : (backTo pos (starEach es X.env)).any (·.1) = false := by rfl) :
    PE X (.Call (.Name x p) (e :: es) [] pos) (tQuiet sp t) :=
  ⟨fun pins s σ H Q I h => wpAny_Call_Name_kw (ld_glob I hg hm (PySem.W.callWith_K (h₀ := X.base) I.ok.mod.kin hk
    (thn (ha.run pos pins s σ H _ I h) fun us s1 ⟨vs, H1, I1, r, q⟩ => ⟨I1.kIn, F.callee qu hr hb I1 r q⟩) h2 h3) h1)⟩
end

/-- a def's body, entered where no repr is under way -/
theorem FnG.mk' {P : Program} {w : World} {K : PySem.W.Frag} {mg : Str → Option Value} {base : Heap} {x qual : Str} {st : Stmt} {f : Addr} {fd : FuncData} {N ps : List Str} {k : Nat} {sp : Sp} (F : Fun K x qual st f fd) (S : FnScope N ps (defScope st)) (len : ∀ {vs H Q E}, sp vs H Q E → vs.length = ps.length)
    (body : ∀ (cdv : Value) (A : Around) (outer : List Env) (s : Shared) (H : Hp) (vs : List V) (Q : VK) (E : XK), Quiet A → Room k (A.deeper (envOfC qual (defScope st) s.heap.objs.size f cdv)) → sp vs H Q E →
      ∃ t, PSs (cxOf CX0 P w K mg base N qual (defScope st) f cdv A outer s H E).nox (defBody st) t ∧ t { nx := fun _ H' => Q .non H', rt := Q } (start N vs) H) : FnG P w K mg base (k + 1) f fd ps sp := by
  obtain ⟨oc, od, kV, doc, pm, an, cdv, ct, osl, rfl, lk, hcd⟩ := F.ex
  refine ⟨len, fun {A outer s H args us vs Q E} qu hr e0 hb r hsp => ?_⟩
  have inK : K.In s.heap := e0.mod.kin.keeps fun b o z => (e0.bs b o z).1
  refine Att.call_fn inK (e0.mod.nolimit.keeps fun b o z => (e0.bs b o z).1) lk hcd hr.depth hb ?_ (fun s1 ic => ?_) S.co S.gen S.kind
  · refine List.all_eq_true.mpr fun ⟨y, v⟩ hy => ?_
    rcases S.par y (List.of_mem_zip hy).1 with z | z <;> simp [z]
  · obtain ⟨t, ht, hq⟩ := body cdv A outer s H vs Q E qu (hr.deeper _) hsp
    have I0 := inv_start (CX := CX0) (N := N) (E := E) S hr.hd e0 (len hsp) r ic
    refine wpAny_mono (ht.nox.run [] s1 _ H _ I0 hq) ?_ fun _ _ z => z
    rintro (_ | _ | _ | u) s' z
    · obtain ⟨_, H', J, q⟩ := z
      exact ⟨.non, H', J.os, J.bare, J.base, J.hok, rfl, q⟩
    · obtain ⟨_, _, _, q⟩ := z
      exact q.elim
    · obtain ⟨_, _, _, q⟩ := z
      exact q.elim
    · obtain ⟨v, _, H', J, rv, q⟩ := z
      exact ⟨v, H', J.os, J.bare, J.base, J.hok, rv, q⟩

/-! ### the end of a law whose def is quiet -/
open Classical in
theorem lawG {P : Program} {w : World} {K : PySem.W.Frag} {mg mb : Str → Option Value} {k : Nat} {fa a : Addr} {fd : FuncData} {x : Str} {sp : Sp} {s₁ : Shared} {vs : List Value} {ns : List Int}
    (inK : K.In s₁.heap) (hns : s₁.heap.Ns mainGlobals mg) (hb : s₁.heap.Ns builtinsNs mb) (hbb : ∀ y : Str, y ≠ "__name__" → mb y = bootBuiltins y) (hlim : s₁.heap.NoLimit) (hg : s₁.gens = #[])
    (ha : s₁.heap.get? a = some { cls := .type "list", data := .seq vs.toArray }) (hi : IntsAre vs ns) (hl : ns.length ≤ sizeLine) (hr : Room k callerA)
    (F : ∀ base : Heap, K.In base → base.Ns mainGlobals mg → FnG P w K mg base k fa fd [x] sp) (hbind : ∀ (s : Shared) (u : Value), BindsTo s fd ⟨[u], []⟩ [(x, u)])
    (hsp : ∀ H : Hp, Only H → SqL K H a (ns.map V.int) → sp [.ref a] H (fun v _ => v = .bl true) fun _ _ _ => False) :
    codeAny (model P w) callerA (.call (.ref fa) ⟨[.ref a], []⟩) (fun r s' => r = .ok (.ret (.bool true)) ∧ OldK s₁.heap s'.heap ∧ s'.os = s₁.os ∧ AllBare s'.gens) s₁ := by
  let scr : Obj := { cls := .type "list", data := .seq vs.toArray }
  let H : Hp := fun b => if K.lookup a = none ∧ b = a then some (.frz scr (.lst (ns.map V.int))) else none
  have rv := vals_ints hi
  have hA : ∀ {b u}, H b = some u → K.lookup a = none ∧ b = a ∧ u = .frz scr (.lst (ns.map V.int)) := fun {b u} z => by
    by_cases c : K.lookup a = none ∧ b = a
    · have z' : some (HO.frz scr (.lst (ns.map V.int))) = some u := (if_pos c).symm.trans z
      exact ⟨c.1, c.2, (Option.some.inj z').symm⟩
    · have z' : none = some u := (if_neg c).symm.trans z
      cases z'
  have nK : ∀ {b o}, K.lookup b = some o → H b = none := fun {b o} e => by
    cases z : H b with
    | none => rfl
    | some u =>
      obtain ⟨z1, z2, _⟩ := hA z
      rw [z2, z1] at e
      cases e
  have nD : ∀ {b m}, s₁.heap.Ns b m → (hidT s₁.heap H).Ns b m := by
    rintro b m ⟨o, es, ep, e, d, r⟩
    refine ⟨o, es, ep, hidT_get e ?_, d, r⟩
    cases z : H b with
    | none => rfl
    | some u =>
      obtain ⟨_, z2, _⟩ := hA z
      rw [z2, ha] at e
      cases e
      cases d
  have inB : K.In (hidT s₁.heap H) := fun b o e => hidT_get (inK b o e) (nK e)
  have hok : HOk P w H s₁.heap := fun b u z => by
    obtain ⟨_, rfl, rfl⟩ := hA z
    exact ⟨ha, by rw [List.length_map]; exact hl, vs, _, rv, ha⟩
  have only : Only H := fun b => by
    cases z : H b with
    | none => exact .inl rfl
    | some u => exact .inr ⟨scr, ns.map V.int, by rw [(hA z).2.2]⟩
  have sq : SqL K H a (ns.map V.int) := by
    cases z : K.lookup a with
    | none => exact .inl (.inr ⟨scr, if_pos ⟨z, rfl⟩⟩)
    | some o =>
      have e := inK a o z
      rw [ha] at e
      cases e
      exact .inr ⟨_, vs.toArray, _, z, rfl, rfl, rfl, by rw [List.size_toArray, hi.length]; exact hl, by simpa using rv⟩
  have e0 : Env0 P w K mg (hidT s₁.heap H) callerA [] s₁ H :=
    ⟨rfl, ⟨inB, nD hns, ⟨mb, nD hb, hbb⟩, let ⟨mc, h1, h2⟩ := hlim; ⟨mc, nD h1, h2⟩⟩, fun b o e => of_hidT e, Nat.le_of_eq (hidT_size _ _), trivial, fun b z => (nomatch z), hok, .of_eq hg⟩
  refine codeAny_mono ((F _ inB (nD hns)).goes (us := [.ref a]) (vs := [.ref a]) rfl hr e0 (hbind s₁ (.ref a)) (.cons rfl .nil) (hsp H only sq)) ?_
  rintro (e | (_ | _ | _ | u)) s' z
  · exact z.elim
  · exact False.elim z
  · exact False.elim z
  · exact False.elim z
  · obtain ⟨v, H', os, bare, un, hok', r', q⟩ := z
    subst q
    obtain rfl : u = Value.bool true := r'
    refine ⟨rfl, OldK.of_keep fun b o e => ?_, os, bare⟩
    cases c : H b with
    | none => exact un.keep b o e c (fun z => nomatch z) (fun z => nomatch z)
    | some y =>
      obtain ⟨_, rfl, rfl⟩ := hA c
      have e1 := (hok _ _ c).1
      have e2 := (hok' _ _ (un.frzs _ _ _ c)).1
      rw [e1] at e
      cases e
      exact e2

theorem walkG {l : PySem.W.OpenLaw} {n k : Nat} {q : Program} {loose : List Str} {XP : (Str → Option Value) → Heap → Prop} {YP : World → Heap → Prop} {d : DefRec} {K : Params → PySem.W.Frag} {sp : PySem.W.Frag → Sp} {x : Str}
    (hn : l.most = some n) (hn2 : n ≤ sizeLine) (hdf : d.params.defaults = []) (hr : Room k callerA) (hY : ∀ (w : World) (h : Heap), YP w h → (K w.params).In h)
    (F : ∀ (w : World) (mg : Str → Option Value) (fa : Addr) (h : Heap), (K w.params).In h → h.Ns mainGlobals mg → mg d.name = some (.ref fa) →
      ∃ fd : FuncData, (∀ (s : Shared) (u : Value), BindsTo s fd ⟨[u], []⟩ [(x, u)]) ∧ ∀ base : Heap, (K w.params).In base → base.Ns mainGlobals mg → FnG l.prog w (K w.params) mg base k fa fd [x] (sp (K w.params)))
    (hsp : ∀ (K : PySem.W.Frag) (H : Hp) (a : Addr) (ns : List Int), ns.length ≤ n → Only H → SqL K H a (ns.map V.int) → sp K [.ref a] H (fun v _ => v = .bl true) fun _ _ _ => False) :
    PySem.W.WalkO q loose XP YP l.row.toRowW d [] (fun f vs => PySem.call f vs) :=
  Att.attach_call hn hdf fun w s₀ s₁ mg mb fa o pm cd doc a vs ns G Y ho hd hcd hmg hobj hints hlen hg => by
    obtain ⟨fd, b, f⟩ := F w mg fa _ (hY w _ Y) G.T.g hmg
    exact lawG (hY w _ Y) G.T.g G.T.b G.T.builtins G.T.nolimit hg hobj hints (Nat.le_trans hlen hn2) hr f b fun H h1 h2 => hsp _ H a ns hlen h1 h2

/-! ### repr of data -/
/-- what x is as data: anything of the data's kinds, or the empty dict -/
def Shw (K : PySem.W.Frag) (H : Hp) (x : V) (d : PyData) : Prop :=
  d.showable = true ∧ d.shown.length ≤ sizeLine ∧ d.depth ≤ 60 ∧ ((d.hasDict = false ∧ Dp K H x d) ∨ (d = .dict [] ∧ ∃ a, x = .ref a ∧ H a = some (.dK [])))
def rRepr (K : PySem.W.Frag) : List V → Hp → VK → Prop := fun xs H Q => ∃ x d, xs = [x] ∧ Shw K H x d ∧ Q (.str d.shown) H
theorem call_repr_none' {P : Program} {w : World} {A : Around} {E : Value → Shared → Prop} {s : Shared} {Q : Value → Shared → Prop} (h : Q (.str "None" s.toks) { s with toks := s.toks + 1 }) : wpAny (model P w) A (call (.builtin "repr") [.none]) Q E s :=
  PySem.P.repr_of_none h
theorem cr_repr {X : Cx} (qu : Quiet X.A) (hu : X.A.units + 64 < cLine) : CallR X (.builtin "repr") (rRepr X.K) := by
  rintro pins s σ H xs us Q I r ⟨x, d, rfl, ⟨hs, hz, hd, hx⟩, q⟩
  obtain ⟨u, rfl, rx⟩ := vals1 r
  have big : ∀ {y : Value} {b : Addr} {as : List Addr}, y = .ref b → Reads s.heap y d as → (d.hasDict = true → sysModules ∉ as) → wpAny (model X.prog X.w) X.A (call (.builtin "repr") [y]) (EP X pins σ Q) X.xe s := by
    rintro y b as rfl rd hm
    refine repr_of_reads' rd hs hm qu (by omega) (fun _ _ z => z) (fun h' u tk k => ?_) hz
    exact ⟨.str d.shown, H, I.kept k, ⟨_, rfl⟩, q⟩
  rcases hx with ⟨hn, hx⟩ | ⟨rfl, a, rfl, ha⟩
  · have nd : d.hasDict = true → ∀ as : List Addr, sysModules ∉ as := fun z => by
      rw [hn] at z
      cases z
    have tx : ∀ (y : Str) (t : Tok) (tk : Nat), Q (.str y) H → EP X pins σ Q (.str y t) { s with toks := tk } := fun y t tk z => ⟨.str y, H, I.tok _, ⟨_, rfl⟩, z⟩
    cases hx with
    | non =>
      obtain rfl : u = Value.none := rx
      exact PySem.P.repr_of_none (tx _ _ _ q)
    | bl b =>
      obtain rfl : u = Value.bool b := rx
      refine PySem.P.repr_of_bool (tx _ _ _ ?_)
      cases b <;> exact q
    | int i =>
      obtain ⟨t, rfl⟩ := rx
      exact PySem.P.repr_of_int (of_decide_eq_true hs) (tx _ _ _ q)
    | str y =>
      obtain ⟨t, rfl⟩ := rx
      exact PySem.P.repr_of_str (tx _ _ _ q) hz
    | lst h1 h2 =>
      obtain ⟨as, rd⟩ := Dp.reads I _ _ u (.lst h1 h2) rx
      exact big rx rd fun z => nd z _
    | tup h1 h2 =>
      obtain ⟨as, rd⟩ := Dp.reads I _ _ u (.tup h1 h2) rx
      exact big rx rd fun z => nd z _
  · obtain ⟨_, hne, vs, kv, o, es, ep, h1, h2, h3, h4⟩ := (show ObjOk X.prog X.w H s.heap a (.dK []) from I.hok a _ ha)
    cases kv
    have h5 : es.toList = [] := by
      have z := h4.2.1
      generalize es.toList = l at z
      cases z
      rfl
    obtain rfl : u = Value.ref a := rx
    refine big rfl (Reads.dict (kvs := []) (as := []) (bs := []) h1 h2.1 h3 (by rw [h5]; exact .nil) (by rw [h5]; exact .nil)) fun _ z => ?_
    have z' : sysModules ∈ [a] := z
    rw [List.mem_singleton] at z'
    rw [z'] at hne
    simp at hne
end KX

set_option Elab.async false
set_option linter.all false
set_option maxRecDepth 100000
set_option maxHeartbeats 1000000
/-! ### things as data; whole numbers, fractions -/
namespace KP
open PySem PySem.Spec PyProof.Rows L2 KX
def top (i : Nat) : Stmt := PySem.Challenge.pw_hiddenrates_k12_whole_sums_products_and.main.body.getD i (.Pass ⟨0, 0, 0, 0⟩)
abbrev sWhole : Stmt := top 10
abbrev sWithin : Stmt := top 11
abbrev sRatio : Stmt := top 12
end KP
namespace KX
open PySem PySem.Spec PyProof.Rows L2
theorem SqT.of {K : PySem.W.Frag} {H : Hp} {a : Addr} {xs : List V} (h : Rd H a (.tup xs)) : L2.SqT K H a xs := .inl h
end KX
namespace L2
open PySem PySem.Spec PyProof.Rows
theorem Same.rd {H H' : Hp} (s : Same H H') {a : Addr} {u : HO} (h : Rd H a u) : Rd H' a u := h.elim (fun e => .inl (s _ _ e)) fun ⟨o, e⟩ => .inr ⟨o, s _ _ e⟩
end L2
namespace KP
open PySem PySem.Spec PyProof.Rows L2 KX
mutual
/-- what x is as data (tracked lists, tuples, the empty dict) -/
inductive Th (H : Hp) : V → PyData → Prop
  | non : Th H .non .none
  | bl (b : Bool) : Th H (.bl b) (.bool b)
  | int (i : Int) : Th H (.int i) (.int i)
  | str (x : Str) : Th H (.str x) (.str x)
  | lst {a : Addr} {xs : List V} {ds : List PyData} : H a = some (.lst xs) → ThAll H xs ds → Th H (.ref a) (.list ds)
  | tup' {a : Addr} {xs : List V} {ds : List PyData} : Rd H a (.tup xs) → ThAll H xs ds → Th H (.ref a) (.tuple ds)
  | emp {a : Addr} : H a = some (.dK []) → Th H (.ref a) (.dict [])
inductive ThAll (H : Hp) : List V → List PyData → Prop
  | nil : ThAll H [] []
  | cons {v : V} {vs : List V} {d : PyData} {ds : List PyData} : Th H v d → ThAll H vs ds → ThAll H (v :: vs) (d :: ds)
end
theorem Th.tup {H : Hp} {a : Addr} {xs : List V} {ds : List PyData} (e : H a = some (.tup xs)) (h : ThAll H xs ds) : Th H (.ref a) (.tuple ds) := .tup' (.inl e) h
/-- all but tables as it was -/
def Sm (H H' : Hp) : Prop := ∀ b u, H b = some u → (∀ q, u ≠ .tbl q) → H' b = some u
theorem Sm.refl (H : Hp) : Sm H H := fun _ _ e _ => e
theorem Sm.trans {H H1 H2 : Hp} (a : Sm H H1) (b : Sm H1 H2) : Sm H H2 := fun c u e n => b c u (a c u e n) n
theorem Sm.same {H H1 : Hp} (a : Same H H1) : Sm H H1 := fun c u e _ => a c u e
theorem Sm.rd {H H' : Hp} (s : Sm H H') {a : Addr} {xs : List V} (h : Rd H a (.tup xs)) : Rd H' a (.tup xs) := h.elim (fun e => .inl (s _ _ e fun _ z => by cases z)) fun ⟨o, e⟩ => .inr ⟨o, s _ _ e fun _ z => by cases z⟩
theorem Th.mono {H H' : Hp} (s : Sm H H') {v : V} {d : PyData} (h : Th H v d) : Th H' v d := by
  refine Th.rec (motive_1 := fun v d _ => Th H' v d) (motive_2 := fun vs ds _ => ThAll H' vs ds) .non (fun b => .bl b) (fun i => .int i) (fun x => .str x) (fun q _ ih => .lst (s _ _ q fun _ z => by cases z) ih) (fun q _ ih => .tup' (s.rd q) ih) (fun q => .emp (s _ _ q fun _ z => by cases z)) .nil (fun _ _ a b => .cons a b) h
def tyN : PyData → String
  | .none => "NoneType"
  | .bool _ => "bool"
  | .int _ => "int"
  | .str _ => "str"
  | .list _ => "list"
  | .tuple _ => "tuple"
  | .dict _ => "dict"
theorem Th.ty {K : PySem.W.Frag} {H : Hp} {v : V} {d : PyData} (h : Th H v d) : TyB K H v (tyN d) := by
  cases h with
  | non => exact .non
  | bl b => exact .bl b
  | int i => exact .int i
  | str x => exact .str x
  | lst e _ => exact .lst (SqL.of e)
  | tup' e _ => exact .tup (SqT.of e)
  | emp e => exact .dK e
def isI : PyData → Bool
  | .int _ => true
  | _ => false
def isW : PyData → Int → Int → Bool
  | .int i, lo, hi => decide (lo ≤ i) && decide (i ≤ hi)
  | _, _, _ => false
structure TxT (mg : Str → Option Value) : Prop where
  type : mg "type" = none
  int : mg "int" = none
  tuple : mg "tuple" = none
  str : mg "str" = none
  len : mg "len" = none
  abs : mg "abs" = none
  all : mg "all" = none
  enumerate : mg "enumerate" = none
  zip : mg "zip" = none
theorem isI_ty (d : PyData) : decide (tyN d = "int") = isI d := by cases d <;> simp [tyN, isI]
def spWhole : Sp := fun vs H Q _ => ∃ x d, vs = [x] ∧ Th H x d ∧ Q (.bl (isI d)) H
def spWithin : Sp := fun vs H Q _ => ∃ x d lo hi, vs = [x, .int lo, .int hi] ∧ Th H x d ∧ Q (.bl (isW d lo hi)) H
section
variable {P : Program} {w : World} {K : PySem.W.Frag} {mg : Str → Option Value} {base : Heap}
theorem scWhole : FnScope ["value"] ["value"] (defScope sWhole) := ⟨rfl, rfl, rfl, by decide +kernel, rfl, by decide +kernel, by decide +kernel⟩
theorem ok_whole {f : Addr} {fd : FuncData} (F : Fun K "is_whole" "is_whole" sWhole f fd) (T : TxT mg) : FnOk P w K mg base CX0 1 f fd ["value"] spWhole := by
  refine F.ok scWhole (fun vs H Q E h => ?_) (fun cdv A outer s H vs Q E hr h => ?_)
  · obtain ⟨x, d, rfl, _⟩ := h
    rfl
  · obtain ⟨x, d, rfl, hx, k⟩ := h
    refine ⟨_, pss_one (ps_ret (pe_cmpR op_isTyB (pe_callTy call_type1 (by rfl) T.type (by decide +kernel) (pa_cons (pv 0) pa_nil)) (pe_bltn (v := .ty "int") (by rfl) T.int (by decide +kernel) rfl) (nomark _))), ?_⟩
    refine ⟨_, rfl, _, _, rfl, Th.ty hx, _, _, rfl, rfl, ?_⟩
    show Q (.bl (decide (tyN d = "int"))) H
    rw [isI_ty]
    exact k
theorem scWithin : FnScope ["value", "least", "most"] ["value", "least", "most"] (defScope sWithin) := ⟨rfl, rfl, rfl, by decide +kernel, rfl, by decide +kernel, by decide +kernel⟩
theorem ok_within {f fW : Addr} {fd fdW : FuncData} (F : Fun K "is_within" "is_within" sWithin f fd) (FW : FnOk P w K mg base CX0 1 fW fdW ["value"] spWhole) (mW : mg "is_whole" = some (.ref fW)) (kW : PySem.W.keepIn K (.ref fW) = true) (bW : Binds K fdW ["value"] []) :
    FnOk P w K mg base CX0 2 f fd ["value", "least", "most"] spWithin := by
  refine F.ok scWithin (fun vs H Q E h => ?_) (fun cdv A outer s H vs Q E hr h => ?_)
  · obtain ⟨x, d, lo, hi, rfl, _⟩ := h
    rfl
  · obtain ⟨x, d, lo, hi, rfl, hx, k⟩ := h
    refine ⟨_, pss_one (ps_ret (pe_and (pe_call FW hr rfl mW kW bW .nil pass0 (pa_cons (pv 0) pa_nil)) (pe_one (pe_chain op_le op_le (pv 1) (pv 0) (pv 2))))), ?_⟩
    refine ⟨_, rfl, x, d, rfl, hx, _, rfl, ?_⟩
    cases hx with
    | int i =>
      refine ⟨_, rfl, _, rfl, _, _, rfl, rfl, _, rfl, ?_⟩
      by_cases c : lo ≤ i
      · rw [if_pos (decide_eq_true c)]
        refine ⟨_, rfl, _, _, rfl, rfl, ?_⟩
        have e : isW (.int i) lo hi = decide (i ≤ hi) := by simp [isW, c]
        rw [e] at k
        exact k
      · rw [if_neg (by simpa using c)]
        have e : isW (.int i) lo hi = false := by simp [isW, c]
        rw [e] at k
        exact k
    | _ => exact k
end
end KP

set_option Elab.async false
set_option linter.all false
set_option maxRecDepth 100000
set_option maxHeartbeats 1000000
/-! ### readings that change nothing; fractions, shares, pipes -/
namespace KP
open PySem PySem.Spec PyProof.Rows L2 KX
def Vi (t : TE) (σ : L2.St) (H : Hp) (v : V) : Prop := ∀ Q : VK, Q v H → t σ H Q
def Ti (t : TT) (σ : L2.St) (H : Hp) (b : Bool) : Prop := ∀ Q : Bool → Hp → Prop, Q b H → t σ H Q
def Ai (t : TA) (σ : L2.St) (H : Hp) (vs : List V) : Prop := ∀ Q : List V → Hp → Prop, Q vs H → t σ H Q
section
variable {K : PySem.W.Frag} {σ : L2.St} {H : Hp}
theorem vi_var {i : Nat} {v : V} (h : σ[i]? = some (some v)) : Vi (tVar i) σ H v := fun _ q => ⟨v, h, q⟩
theorem vi_c {v : V} : Vi (tC v) σ H v := fun _ q => q
theorem ai_nil : Ai tNil σ H [] := fun _ q => q
theorem ai_cons {te : TE} {ta : TA} {v : V} {vs : List V} (h : Vi te σ H v) (h2 : Ai ta σ H vs) : Ai (tCons te ta) σ H (v :: vs) := fun _ q => h _ (h2 _ q)
theorem vi_op {r : R2} {ta tb : TE} {x y v : V} (ha : Vi ta σ H x) (hb : Vi tb σ H y) (hr : ∀ Q : VK, Q v H → r x y H Q) : Vi (tOp r ta tb) σ H v := fun Q q => ha _ (hb _ (hr Q q))
theorem vi_cb {r : List V → Hp → VK → Prop} {t : TA} {vs : List V} {v : V} (ha : Ai t σ H vs) (hr : ∀ Q : VK, Q v H → r vs H Q) : Vi (tCB r t) σ H v := fun Q q => ha _ (hr Q q)
theorem vi_call {sp : Sp} {E : XK} {t : TA} {vs : List V} {v : V} (ha : Ai t σ H vs) (hr : ∀ Q : VK, Q v H → sp vs H Q E) : Vi (tCall sp [] E t) σ H v := fun Q q => ha _ (by rw [List.append_nil]; exact hr Q q)
theorem ti_test {te : TE} {b : Bool} (h : Vi te σ H (.bl b)) : Ti (tTest te) σ H b := fun Q q => h _ ⟨b, rfl, q⟩
theorem ti_val {te : TE} {b : Bool} (h : Vi te σ H (.bl b)) : Ti (tB te) σ H b := fun Q q => h _ ⟨b, rfl, q⟩
theorem ti_or {t u : TT} {a b : Bool} (h : Ti t σ H a) (h2 : a = false → Ti u σ H b) : Ti (tOr t u) σ H (a || b) := fun Q q => h _ (by
  cases a with
  | true => rw [if_pos rfl]; simpa using q
  | false => rw [if_neg Bool.false_ne_true]; exact h2 rfl _ (by simpa using q))
theorem ti_not {t : TT} {a : Bool} (h : Ti t σ H a) : Ti (tNot t) σ H (!a) := fun Q q => h _ q
theorem vi_and {ta tb : TE} {a b : Bool} (h : Vi ta σ H (.bl a)) (h2 : a = true → Vi tb σ H (.bl b)) : Vi (tAndV ta tb) σ H (.bl (a && b)) := fun Q q => h _ ⟨a, rfl, by
  cases a with
  | true => rw [if_pos rfl]; exact h2 rfl _ (by simpa using q)
  | false => rw [if_neg Bool.false_ne_true]; simpa using q⟩
theorem vi_or {ta tb : TE} {a b : Bool} (h : Vi ta σ H (.bl a)) (h2 : a = false → Vi tb σ H (.bl b)) : Vi (tOrV ta tb) σ H (.bl (a || b)) := fun Q q => h _ ⟨a, rfl, by
  cases a with
  | true => rw [if_pos rfl]; simpa using q
  | false => rw [if_neg Bool.false_ne_true]; exact h2 rfl _ (by simpa using q)⟩
theorem i_if {t : TT} {tu tw : TS} {b : Bool} {D : Ends} (h : Ti t σ H b) (h1 : b = true → tu D σ H) (h2 : b = false → tw D σ H) : tIfS t tu tw D σ H := h _ (by
  cases b with
  | true => rw [if_pos rfl]; exact h1 rfl
  | false => rw [if_neg Bool.false_ne_true]; exact h2 rfl)
theorem i_ret {te : TE} {v : V} {D : Ends} (h : Vi te σ H v) (k : D.rt v H) : tRet te D σ H := h _ k
/-- if test: return False -/
theorem i_guard {t : TT} {tz : TS} {b : Bool} {D : Ends} (h : Ti t σ H b) (h1 : b = true → D.rt (.bl false) H) (h2 : b = false → tz D σ H) : tSeq (tIfS t (tRet (tC (.bl false))) tNext) tz D σ H :=
  i_if (D := { D with nx := tz D }) h (fun z => i_ret vi_c (h1 z)) h2
theorem vi_type {K : PySem.W.Frag} {t : TA} {x : V} {d : PyData} (ha : Ai t σ H [x]) (h : Th H x d) : Vi (tCB (rTyp K) t) σ H (.ty (tyN d)) := vi_cb ha fun Q q => ⟨x, _, rfl, h.ty, q⟩
theorem ti_notTup {K : PySem.W.Frag} {te : TE} {x : V} {d : PyData} (ha : Vi te σ H x) (h : Th H x d) : Ti (tTest (tOp rNT (tCB (rTyp K) (tCons te tNil)) (tC (.ty "tuple")))) σ H (!decide (tyN d = "tuple")) :=
  ti_test (vi_op (vi_type (ai_cons ha ai_nil) h) vi_c fun Q q => ⟨_, _, rfl, rfl, q⟩)
end
def lenT : PyData → Nat
  | .tuple ds => ds.length
  | _ => 0
theorem all2 {H : Hp} {xs : List V} {ds : List PyData} (h : ThAll H xs ds) : xs.length = ds.length := by
  induction ds generalizing xs with
  | nil => cases h; rfl
  | cons d ds ih => cases h with | cons a b => rw [List.length_cons, List.length_cons, ih b]
def rLen (K : PySem.W.Frag) : List V → Hp → VK → Prop := fun xs H Q => ∃ p ys, xs = [.ref p] ∧ (SqL K H p ys ∨ SqT K H p ys) ∧ Q (.int ys.length) H
section
variable {K : PySem.W.Frag} {σ : L2.St} {H : Hp}
theorem tupOf {x : V} {d : PyData} (h : Th H x d) (z : tyN d = "tuple") : ∃ a xs ds, x = .ref a ∧ d = .tuple ds ∧ Rd H a (.tup xs) ∧ ThAll H xs ds := by
  cases h with
  | tup' e ha => exact ⟨_, _, _, rfl, rfl, e, ha⟩
  | _ => exact absurd z (by simp [tyN])
theorem vi_lenT {t : TA} {x : V} {d : PyData} (ha : Ai t σ H [x]) (h : Th H x d) (z : tyN d = "tuple") : Vi (tCB (rLen K) t) σ H (.int (lenT d)) := vi_cb ha fun Q q => by
  obtain ⟨a, xs, ds, rfl, rfl, e, hl⟩ := tupOf h z
  exact ⟨a, xs, rfl, .inr (SqT.of e), by rw [all2 hl]; exact q⟩
/-- the shape that is asked first -/
def shp (n : Nat) (d : PyData) : Bool := decide (tyN d = "tuple") && decide (lenT d = n)
theorem int_dec (a b : Nat) : decide ((V.int (a : Int)) = .int (b : Int)) = decide (a = b) := by
  rw [Bool.eq_iff_iff, decide_eq_true_eq, decide_eq_true_eq]
  constructor
  · intro y
    have := V.int.inj y
    omega
  · intro y
    rw [y]
theorem ti_shape {te : TE} {x : V} {d : PyData} {n : Nat} {m : Int} (hm : m = (n : Int)) (ha : Vi te σ H x) (h : Th H x d) :
    Ti (tOr (tTest (tOp rNT (tCB (rTyp K) (tCons te tNil)) (tC (.ty "tuple")))) (tTest (tOp rNe (tCB (rLen K) (tCons te tNil)) (tC (.int m))))) σ H (!shp n d) := by
  subst hm
  have e : (!shp n d) = ((!decide (tyN d = "tuple")) || !decide (lenT d = n)) := by unfold shp; rw [Bool.not_and]
  rw [e]
  refine ti_or (ti_notTup ha h) fun z => ti_test (vi_op (vi_lenT (ai_cons ha ai_nil) h (by simpa using z)) vi_c fun Q q => ⟨rfl, ?_⟩)
  rw [int_dec]
  exact q
theorem shp_of {x : V} {d : PyData} {n : Nat} (h : Th H x d) (z : (!shp n d) = false) : ∃ a xs ds, x = .ref a ∧ d = .tuple ds ∧ Rd H a (.tup xs) ∧ ThAll H xs ds ∧ ds.length = n := by
  have z : shp n d = true := by simpa using z
  unfold shp at z
  rw [Bool.and_eq_true, decide_eq_true_eq, decide_eq_true_eq] at z
  obtain ⟨a, xs, ds, e1, rfl, e2, hl⟩ := tupOf h z.1
  exact ⟨a, xs, ds, e1, rfl, e2, hl, z.2⟩
theorem not_shp {d : PyData} {n : Nat} (z : (!shp n d) = true) : ∀ ds, d = .tuple ds → ds.length ≠ n := by
  rintro ds rfl e
  simp [shp, tyN, lenT, e] at z
end
def ith (i : Nat) : PyData → PyData
  | .tuple ds => ds.getD i .none
  | _ => .none
def ratio2 : PyData → PyData → Bool
  | .int a, .int b => decide (0 < b) && decide (Nat.gcd a.natAbs b.natAbs = 1)
  | _, _ => false
def isR (d : PyData) : Bool := shp 2 d && ratio2 (ith 0 d) (ith 1 d)
def small2 : PyData → PyData → Bool
  | .int a, .int b => decide ((if a < 0 then -a else a) ≤ 999) && decide (b ≤ 999)
  | _, _ => false
def isTold (d : PyData) : Bool := isR d && small2 (ith 0 d) (ith 1 d)
def isX : PyData → Bool
  | .str s => decide (s = "x")
  | _ => false
def isShare (u : Int) (d : PyData) : Bool := shp 2 d && (if tyN (ith 0 d) = "str" then isX (ith 0 d) && isW (ith 1 d) 0 (u - 1) else isTold d)
def eqI : PyData → PyData → Bool
  | .int i, .int j => decide (i = j)
  | _, _ => false
def isNon : PyData → Bool
  | .none => true
  | _ => false
def isPipe (m u : Int) (d : PyData) : Bool := shp 3 d && (!(!isW (ith 0 d) 0 (m - 1) || !isShare u (ith 2 d)) && (isNon (ith 1 d) || (isW (ith 1 d) 0 (m - 1) && !eqI (ith 1 d) (ith 0 d))))
theorem len2 {α : Type} {l : List α} (h : l.length = 2) : ∃ a b, l = [a, b] := by
  match l, h with
  | [a, b], _ => exact ⟨a, b, rfl⟩
theorem len3 {α : Type} {l : List α} (h : l.length = 3) : ∃ a b c, l = [a, b, c] := by
  match l, h with
  | [a, b, c], _ => exact ⟨a, b, c, rfl⟩
theorem len5 {α : Type} {l : List α} (h : l.length = 5) : ∃ a b c d e, l = [a, b, c, d, e] := by
  match l, h with
  | [a, b, c, d, e], _ => exact ⟨a, b, c, d, e, rfl⟩
def spIs (p : PyData → Bool) : Sp := fun vs H Q _ => ∃ x d, vs = [x] ∧ Th H x d ∧ Q (.bl (p d)) H
section
variable {P : Program} {w : World} {K : PySem.W.Frag} {mg : Str → Option Value} {base : Heap}
theorem scRatio : FnScope ["value", "above", "below"] ["value"] (defScope sRatio) := ⟨rfl, rfl, rfl, by decide +kernel, rfl, by decide +kernel, by decide +kernel⟩
theorem ok_ratio {f fW : Addr} {fd fdW : FuncData} (F : Fun K "is_ratio" "is_ratio" sRatio f fd) (T : TxT mg) (mG : mg "gcd" = some (.builtin "math.gcd")) (FW : FnOk P w K mg base CX0 1 fW fdW ["value"] spWhole) (mW : mg "is_whole" = some (.ref fW)) (kW : PySem.W.keepIn K (.ref fW) = true) (bW : Binds K fdW ["value"] []) :
    FnOk P w K mg base CX0 2 f fd ["value"] (spIs isR) := by
  refine F.ok scRatio (fun vs H Q E h => ?_) (fun cdv A outer s H vs Q E hr h => ?_)
  · obtain ⟨x, d, rfl, _⟩ := h
    rfl
  · obtain ⟨x, d, rfl, hx, k⟩ := h
    refine ⟨_, pss_cons (ps_if (pw_or (pt_cmpR op_notTyB (pe_callTy call_type1 (by rfl) T.type (by decide +kernel) (pa_cons (pv 0) pa_nil)) (pe_bltn (v := .ty "tuple") (by rfl) T.tuple (by decide +kernel) rfl) (nomark _))
        (pw_or1 (pt_cmpR op_ne (pe_callB call_len_seq (by rfl) T.len PySem.boot_len (pa_cons (pv 0) pa_nil)) pe_int (nomark _)))).pt (pss_one (ps_ret pe_bl)) pss_nil)
      (pss_cons (ps_asg (pv 0) (pg_tup rfl (pgs_cons (pg_name (i := 1) scRatio.nd rfl (Or.inl rfl)) (pgs_cons (pg_name (i := 2) scRatio.nd rfl (Or.inl rfl)) pgs_nil))))
      (pss_one (ps_ret (pe_and (pe_call FW hr rfl mW kW bW .nil pass0 (pa_cons (pv 1) pa_nil)) (pe_and (pe_call FW hr rfl mW kW bW .nil pass0 (pa_cons (pv 2) pa_nil)) (pe_and (pe_cmpR op_gt (pv 2) pe_int (nomark _)) (pe_one (pe_cmpR op_eq (pe_callBfun cr_gcd (by rfl) mG (pa_cons (pv 1) (pa_cons (pv 2) pa_nil))) pe_int (nomark _))))))))), ?_⟩
    refine i_guard (ti_shape rfl (vi_var rfl) hx) (fun z => ?_) (fun z => ?_)
    · have e : isR d = false := by
        have z : shp 2 d = false := by simpa using z
        simp [isR, z]
      rw [e] at k
      exact k
    · obtain ⟨a, xs, ds, rfl, rfl, e, ha, l2⟩ := shp_of hx z
      obtain ⟨d1, d2, rfl⟩ := len2 l2
      cases ha with
      | cons h1 hr1 => cases hr1 with
          | cons h2 hr2 =>
            cases hr2
            refine ⟨_, rfl, a, _, rfl, SqT.of e, rfl, _, _, rfl, _, _, rfl, rfl, ?_⟩
            have e9 : isR (.tuple [d1, d2]) = (isI d1 && (isI d2 && ratio2 d1 d2)) := by cases d1 <;> cases d2 <;> simp [isI, isR, shp, ith, ratio2, tyN, lenT]
            rw [e9] at k
            dsimp only
            refine i_ret (v := .bl (isI d1 && (isI d2 && ratio2 d1 d2))) ?_ k
            refine vi_and (vi_call (ai_cons (vi_var rfl) ai_nil) fun Q q => ⟨_, _, rfl, h1, q⟩) fun c1 => ?_
            refine vi_and (vi_call (ai_cons (vi_var rfl) ai_nil) fun Q q => ⟨_, _, rfl, h2, q⟩) fun c2 => ?_
            cases h1 with
            | int i1 => cases h2 with
              | int i2 =>
                refine vi_and (vi_op (vi_var rfl) vi_c fun Q q => ⟨_, _, rfl, rfl, q⟩) fun c3 => ?_
                refine vi_op (vi_cb (v := .int ((Nat.gcd i1.natAbs i2.natAbs : Nat) : Int)) (ai_cons (vi_var rfl) (ai_cons (vi_var rfl) ai_nil)) fun Q q => ⟨_, _, rfl, q⟩) vi_c (fun Q q => ⟨rfl, ?_⟩)
                rw [show (V.int 1) = V.int ((1 : Nat) : Int) from rfl, int_dec]
                exact q
              | _ => simp [isI] at c2
            | _ => simp [isI] at c1
end
end KP

set_option Elab.async false
set_option linter.all false
set_option maxRecDepth 100000
set_option maxHeartbeats 1000000
/-! ### told fractions, shares, pipes -/
namespace KP
open PySem PySem.Spec PyProof.Rows L2 KX
theorem ratio_of {H : Hp} {x : V} {d : PyData} (h : Th H x d) (z : isR d = true) : ∃ a i j, x = .ref a ∧ d = .tuple [.int i, .int j] ∧ Rd H a (.tup [.int i, .int j]) := by
  unfold isR at z
  rw [Bool.and_eq_true] at z
  obtain ⟨a, xs, ds, rfl, rfl, e, ha, l2⟩ := shp_of h (by rw [z.1]; rfl)
  obtain ⟨d1, d2, rfl⟩ := len2 l2
  have z2 : ratio2 d1 d2 = true := z.2
  cases ha with
  | cons h1 hr1 => cases hr1 with
    | cons h2 hr2 =>
      cases hr2
      cases h1 with
      | int i => cases h2 with
        | int j => exact ⟨a, i, j, rfl, rfl, e⟩
        | _ => simp [ratio2] at z2
      | _ => cases h2 <;> simp [ratio2] at z2
theorem isW_int {x : V} {H : Hp} {d : PyData} {lo hi : Int} (h : Th H x d) (z : isW d lo hi = true) : ∃ i, x = .int i ∧ d = .int i := by
  cases h with
  | int i => exact ⟨i, rfl, rfl⟩
  | _ => simp [isW] at z
def spShare : Sp := fun vs H Q _ => ∃ x d u, vs = [x, .int u] ∧ Th H x d ∧ Q (.bl (isShare u d)) H
def spPipe : Sp := fun vs H Q _ => ∃ x d m u, vs = [x, .int m, .int u] ∧ Th H x d ∧ Q (.bl (isPipe m u d)) H
theorem spWithin_at {x : V} {d : PyData} {lo hi : Int} {H : Hp} {Q : VK} {E : XK} (h : Th H x d) (q : Q (.bl (isW d lo hi)) H) : spWithin [x, .int lo, .int hi] H Q E := ⟨x, d, lo, hi, rfl, h, q⟩
section
variable {P : Program} {w : World} {K : PySem.W.Frag} {mg : Str → Option Value} {base : Heap}
end
end KP

set_option Elab.async false
set_option linter.all false
set_option maxRecDepth 100000
set_option maxHeartbeats 1000000
/-! ### pipes -/
namespace KP
open PySem PySem.Spec PyProof.Rows L2 KX
section
variable {P : Program} {w : World} {K : PySem.W.Frag} {mg : Str → Option Value} {base : Heap}
theorem isNon_dec {x : V} {H : Hp} {d : PyData} (h : Th H x d) : decide (x = .non) = isNon d := by cases h <;> simp [isNon]
end
end KP

set_option Elab.async false
set_option linter.all false
set_option maxRecDepth 100000
set_option maxHeartbeats 1000000
/-! ### a generator expression whose element calls own functions: its body's segments, all(..) over it -/
namespace KG
open PySem PySem.Spec PyProof.Rows L2 GenW
/-- the body's turns: Lp m: at the loop's head, at most m items are left; Yd m: an item is just handed out, at most m are left; Dn: nothing is left -/
structure GWalk (P : Program) (w : World) (B : Around) (tg elt : Expr) (I : Addr) (cenv : Env) (Lp : Nat → Shared → Prop) (Yd : Nat → Value → Shared → Prop) (Dn : Shared → Prop) : Prop where
  turn : ∀ m s, Lp m s → wpAny (model P w) B (pyNext (.ref I)) (fun r s1 => match r with
    | none => Dn s1
    | some v => wpAny (model P w) B (letOwnedTupleGo tg (.ref I) v) (fun _ s2 => wpAny (model P w) B (assign tg cenv v) (fun _ s3 =>
        wpAny (model P w) B (eval elt cenv) (fun y s4 => ∃ m', m = m' + 1 ∧ Yd m' y s4) (fun _ _ => False) s3) (fun _ _ => False) s2) (fun _ _ => False) s1) (fun _ _ => False) s
  self : ∀ (A' : Around) m s (Q : Value → Shared → Prop) (E : Value → Shared → Prop), Lp m s → Q (.ref I) s → wpAny (model P w) A' (pyIter (.ref I)) Q E s
def RG (Dn : Shared → Prop) : GenEnd := fun _ _ r s₁ => ((r = .ok (.ret .none) ∨ r = .ok .next) ∧ Dn s₁) ∨ ∃ e : Value, r = .error e ∧ False
def YG (Lp : Nat → Shared → Prop) (Yd : Nat → Value → Shared → Prop) : Protocol := fun n _ v s kap => ∃ m', m' ≤ n ∧ Yd m' v s ∧ ∀ s'', Lp m' s'' → kap (.send .none) s''
section
variable {P : Program} {w : World} {A B : Around} {tg elt iter : Expr} {scope : Scope} {pos : Pos} {I : Addr} {cenv : Env} {Lp : Nat → Shared → Prop} {Yd : Nat → Value → Shared → Prop} {Dn : Shared → Prop}
theorem seg_loop (hB : A.over (.compLoop (.GeneratorExp elt [⟨tg, iter, [], 0⟩] scope pos) 0 (.ref I) .none cenv) [] = B) (hco : cenv.scope.isCoroutine = false) (W : GWalk P w B tg elt I cenv Lp Yd Dn) :
    ∀ (m n : Nat) (s₀ s : Shared), m ≤ n → Lp m s → Seg (model P w) A (RG Dn) (YG Lp Yd) n s₀ (.compLoop (.GeneratorExp elt [⟨tg, iter, [], 0⟩] scope pos) 0 (.ref I) .none cenv)
      ((model P w).den (.compLoop (.GeneratorExp elt [⟨tg, iter, [], 0⟩] scope pos) 0 (.ref I) .none cenv)) [] s := by
  have hy : ∀ v, yieldOut cenv v = yieldValue v := fun v => by simp only [yieldOut, hco, Bool.false_eq_true, if_false]
  intro m
  induction m using Nat.strongRecOn with
  | ind m ih =>
    intro n s₀ s hmn hL
    show Seg _ A _ _ _ s₀ _ ((compTurn (.GeneratorExp elt [⟨tg, iter, [], 0⟩] scope pos) 0 (.ref I) .none cenv).onRaise (leaving cenv)) [] s
    rw [compTurn_gen, Sem.onRaise_eq_wrap]
    refine seg_bind_wrap (wpAny_standAt ?_)
    refine seg_bind_wrap ?_
    rw [hB]
    refine wpAny_mono (W.turn m s hL) (fun r s1 h1 => ?_) (fun _ _ z => False.elim z)
    cases r with
    | none => exact seg_end (.ok .next) (.inl ⟨.inr rfl, h1⟩)
    | some v =>
      refine seg_bind_wrap ?_
      rw [hB]
      refine wpAny_mono h1 (fun _ s2 h2 => ?_) (fun _ _ z => False.elim z)
      refine seg_bind_wrap ?_
      rw [hB]
      refine wpAny_mono h2 (fun _ s3 h3 => ?_) (fun _ _ z => False.elim z)
      refine seg_bind_wrap (wpAny_tests_nil ?_)
      simp only [if_true]
      simp only [hy]
      rw [Sem.bind_eq_wrap', Sem.bind_eq_wrap', Sem.wrap_wrap, Sem.wrap_wrap]
      refine seg_wrap ?_
      rw [hB]
      refine wpAny_mono h3 (fun y s4 h4 => ?_) (fun _ _ z => False.elim z)
      obtain ⟨m', em, hY⟩ := h4
      obtain ⟨k, rfl⟩ : ∃ k, n = k + 1 := ⟨n - 1, by omega⟩
      refine seg_at (seg_yield rfl rfl rfl ⟨m', by omega, hY, fun s'' hL'' => ?_⟩)
      exact seg_again rfl (ih m' (by omega) k s'' s'' (by omega) hL'')
theorem seg_start (hB : A.over (.compLoop (.GeneratorExp elt [⟨tg, iter, [], 0⟩] scope pos) 0 (.ref I) .none cenv) [] = B) (hco : cenv.scope.isCoroutine = false) (W : GWalk P w B tg elt I cenv Lp Yd Dn)
    {m n : Nat} {s₀ s : Shared} (hmn : m ≤ n) (hL : Lp m s) : Seg (model P w) A (RG Dn) (YG Lp Yd) n s₀ (.compStart (.GeneratorExp elt [⟨tg, iter, [], 0⟩] scope pos) 0 (.ref I) .none cenv)
      ((model P w).den (.compStart (.GeneratorExp elt [⟨tg, iter, [], 0⟩] scope pos) 0 (.ref I) .none cenv)) [] s := by
  have loop := seg_loop (iter := iter) (scope := scope) (pos := pos) hB hco W m n s₀ s hmn hL
  show Seg _ A _ _ _ s₀ _ ((compStart (.GeneratorExp elt [⟨tg, iter, [], 0⟩] scope pos) 0 (.ref I) .none cenv).onRaise (leaving cenv)) [] s
  unfold compStart
  rw [Sem.onRaise_eq_wrap]
  show Seg _ A _ _ _ s₀ _ ((ask >>= _).wrap _ _ _ _) [] s
  refine seg_bind_wrap (wpAny_askSetting ?_)
  split
  · exact seg_again rfl loop
  · first
      | exact seg_bind_wrap (wpAny_rule (seg_bind_wrap (wpAny_standAt (seg_bind_wrap (W.self _ m s _ _ hL (seg_again rfl loop))))))
      | (refine seg_bind_wrap (wpAny_rule ?_); show Seg _ A _ _ _ s₀ _ ((standAt iter.pos >>= _).wrap _ _ _ _) [] s; exact seg_bind_wrap (wpAny_standAt (seg_bind_wrap (W.self _ m s _ _ hL (seg_again rfl loop)))))
/-- but for generators, counters, the same -/
structure Alike (s s' : Shared) : Prop where
  heap : s'.heap = s.heap
  os : s'.os = s.os
  bare : AllBare s'.gens
theorem all_loop {R : Result → Shared → Prop} {a : Addr} {g : Nat} (hh : A.handled = none) (hd : A.depth < recursionLimit)
    (item : ∀ m v s, Yd m v s → s.heap.NoLimit ∧ s.heap.IsGen a g ∧ AllBare s.gens ∧ ∃ b, v = .bool b ∧ ∀ s'', Alike s s'' → if b = true then Lp m s'' else R (.ok (.ret (.bool false))) s'')
    (done : ∀ s s', Dn s → (∀ b o, s.heap.get? b = some o → s'.heap.get? b = some o) → s'.os = s.os → s'.gens = (s.setGen g .finished).gens → R (.ok (.ret (.bool true))) s') :
    ∀ (n : Nat) (s : Shared) (gs : GenState), s.heap.NoLimit → s.heap.IsGen a g → s.gens[g]? = some gs → gs.Goes (model P w) A.in1.in1 (RG Dn) (YG Lp Yd) n (.send .none) (s.setGen g .running) →
      codeAny (model P w) A (.builtin "all.loop" ⟨[.ref a], []⟩) R s := by
  intro n
  induction n with
  | zero =>
    intro s gs hl hg hgs hgo
    refine codeAny_builtin F.entry_all_loop ?_
    rw [Around.under_plainId F.plain_all_loop _]
    show wpAny _ A.in1 (pyNext (.ref a) >>= _) _ _ s
    refine wpAny_bind (next_genG (A := A.in1) (F := fun _ _ s1 => Dn s1) (Er := fun _ _ => False) hh hl hd hg hgs hgo (fun v s₁ gs' hbare hv => ?_) (fun s₁ hp h' hk => ?_) fun e s₁ he => False.elim he)
    · obtain ⟨m', hm, hY, hk⟩ := hv
      obtain ⟨hl1, hg1, hb1, b, rfl, hR⟩ := item m' v s₁ hY
      have hal : Alike s₁ (s₁.setGen g gs') := ⟨rfl, rfl, allBare_setGen hb1 hbare⟩
      have hq := hR _ hal
      refine wpAny_bind (wpAny_holding (wpAny_truthy_bool ?_))
      refine wpAny_bind (wpAny_letGo ?_)
      cases b with
      | true => exact False.elim (hk _ (by simpa using hq))
      | false =>
        simp only [Bool.false_eq_true, if_false] at hq ⊢
        exact wpAny_bind (wpAny_rule (wpAny_pure hq))
    · refine wpAny_bind (wpAny_rule (wpAny_pure ?_))
      exact done s₁ _ hp hk rfl rfl
  | succ n ih =>
    intro s gs hl hg hgs hgo
    have hgl : g < s.gens.size := (Array.getElem?_eq_some_iff.mp hgs).1
    refine codeAny_builtin F.entry_all_loop ?_
    rw [Around.under_plainId F.plain_all_loop _]
    show wpAny _ A.in1 (pyNext (.ref a) >>= _) _ _ s
    refine wpAny_bind (wpAny_gsz (n := g + 1) hgl (next_genG (A := A.in1) (F := fun _ _ s1 => Dn s1) (Er := fun _ _ => False) hh hl hd hg hgs hgo (fun v s₁ gs' hbare hv => ?_) (fun s₁ hp h' hk => ?_) fun e s₁ he => False.elim he))
    · intro hsz
      obtain ⟨m', hm, hY, hk⟩ := hv
      obtain ⟨hl1, hg1, hb1, b, rfl, hR⟩ := item m' v s₁ hY
      have hal : Alike s₁ (s₁.setGen g gs') := ⟨rfl, rfl, allBare_setGen hb1 hbare⟩
      have hsz1 : g < s₁.gens.size := by
        have q : (s₁.setGen g gs').gens.size = s₁.gens.size := setGen_size _ _ _
        have hsz' : g + 1 ≤ (s₁.setGen g gs').gens.size := hsz
        omega
      refine wpAny_bind (wpAny_holding (wpAny_truthy_bool ?_))
      refine wpAny_bind (wpAny_letGo ?_)
      cases b with
      | true =>
        simp only [if_true]
        refine wpAny_pure ⟨plainId_quiet F.plain_all_loop _, ih _ gs' hl1 hg1 (setGen_at hsz1) ?_⟩
        refine hk _ ?_
        have q := hR ((s₁.setGen g gs').setGen g .running) ⟨rfl, rfl, allBare_setGen (s := s₁.setGen g gs') (allBare_setGen hb1 hbare) rfl⟩
        simpa using q
      | false =>
        have hq := hR _ hal
        simp only [Bool.false_eq_true, if_false] at hq ⊢
        exact wpAny_bind (wpAny_rule (wpAny_pure hq))
    · intro hsz
      refine wpAny_bind (wpAny_rule (wpAny_pure ?_))
      exact done s₁ _ hp hk rfl rfl
end
end KG

set_option Elab.async false
set_option linter.all false
set_option maxRecDepth 100000
set_option maxHeartbeats 1000000
/-! ### the context within a generator expression's body -/
namespace KG
open PySem PySem.Spec PyProof.Rows L2 GenW
/-- the generator's names: as a block's; a generator has a frame of its own, no cells of its own -/
structure GOk (N : List Str) (sc scope : Scope) (own : List (Str × Nat)) : Prop where
  blk : BlkOk N sc scope own
  co : scope.isCoroutine = false
  nocell : ∀ y ∈ scope.names, y.2 ≠ .cell
  dot : scope.names.lookup (".0" : Str) = some NameKind.local
abbrev gcx (X : Cx) (B : Around) (s : Shared) (H : Hp) (cenv : Env) (fp : List Addr) (pn : List (Addr × Obj)) : Cx :=
  { X with A := B, s_0 := s, H_0 := H, env := cenv, outer := X.stack, stack := cenv :: X.stack, ex := fp, fn := fun _ => false, pn := pn, xe := fun _ _ => False }
section
variable {X : Cx} {pins : List (Addr × Obj)} {σ : L2.St} {H : Hp} {s : Shared}
theorem Inv.alike {s' : Shared} (I : Inv X pins σ H s) (h : Alike s s') : Inv X pins σ H s' :=
  ⟨I.ok, h.os.trans I.os, h.bare, by rw [h.heap]; exact I.base, by rw [h.heap]; exact I.loc, by rw [h.heap]; exact I.cell, I.free, I.freeC, by rw [h.heap]; exact I.pin, by rw [h.heap]; exact I.hok, I.len⟩
theorem gen_start {B : Around} {scope : Scope} {own : List (Str × Nat)} {code : Value} {fp : List Addr} {pn : List (Addr × Obj)} {s' : Shared} {m : Str → Option Value} (I : Inv X pins σ H s) (ok : GOk X.N X.env.scope scope own) (hN : X.N.Nodup) (hfp : ∀ b ∈ fp, FpOk X pins H b ∧ b < s.heap.objs.size)
    (hB : B.handled = none) (hBf : B.frames = some (genEnv scope (cloFrom X.env.cells scope.names []) s.heap.objs.size code builtinsNs X.env :: X.stack))
    (os : s'.os = s.os) (bare : AllBare s'.gens) (kp : ∀ b o, s.heap.get? b = some o → s'.heap.get? b = some o) (hn : s'.heap.Ns s.heap.objs.size m)
    (hpn : ∀ p ∈ pn, s'.heap.get? p.1 = some p.2 ∧ s.heap.objs.size < p.1 ∧ ∀ v, p.2.data ≠ .cell v) :
    Inv (gcx X B s H (genEnv scope (cloFrom X.env.cells scope.names []) s.heap.objs.size code builtinsNs X.env) fp pn) [] (wipe σ (own.map (·.2))) H s' := by
  have hfree : ∀ y ∈ scope.names, y.2 = .free → ∃ c, X.env.cells.lookup y.1 = some c := fun y hy e => by
    rcases ok.blk.free y hy e with k | k
    · exact I.ok.has _ (.inl k)
    · exact I.ok.has _ (.inr k)
  generalize hcenv : genEnv scope (cloFrom X.env.cells scope.names []) s.heap.objs.size code builtinsNs X.env = cenv at hBf ⊢
  have hL : cenv.locals = s.heap.objs.size := by rw [← hcenv]; rfl
  have hcl : cenv.cells = cloFrom X.env.cells scope.names [] := by rw [← hcenv]; rfl
  have hsc : cenv.scope = scope := by rw [← hcenv]; rfl
  have hfrm : cenv.frame = some cenv.locals := by rw [← hcenv]; rfl
  have cm : ∀ {y c}, cenv.cells.lookup y = some c → X.env.cells.lookup y = some c ∧ c < s.heap.objs.size := fun {y c} e => by
    rw [hcl] at e
    rcases cloFrom_mem (PySem.mem_of_lookup e) with hm | ⟨h1, rfl⟩
    · cases hm
    · obtain ⟨c, hc⟩ := hfree _ h1 rfl
      rw [hc]
      obtain ⟨w, z⟩ := I.cell _ _ hc
      exact ⟨rfl, z.lt⟩
  have look : ∀ {y}, scope.names.lookup y = some .free → ∃ c, cenv.cells.lookup y = some c ∧ X.env.cells.lookup y = some c := fun {y} hl => by
    obtain ⟨c', e'⟩ := L2.mem_lookup (cloFrom_has (cells := X.env.cells) (acc := []) (PySem.mem_of_lookup hl))
    rw [← hcl] at e'
    exact ⟨c', e', (cm e').1⟩
  have okB : (gcx X B s H cenv fp pn).Ok := by
    refine ⟨I.ok.mod, by show cenv.scope.kind = _; rw [hsc]; exact ok.blk.kind, by show cenv.globals = _; rw [← hcenv]; exact I.ok.glob, by show cenv.builtins = _; rw [← hcenv]; rfl, by show s.heap.objs.size ≤ cenv.locals; rw [hL]; exact Nat.le_refl _,
      fun y z c e1 e2 => I.ok.inj y z c (cm e1).1 (cm e2).1, fun y hy => ?_, fun y c z e => absurd (show false = true from z) Bool.false_ne_true, fun _ => hB, hBf, .inr ⟨rfl, hfrm⟩, fun b hb => ⟨?_, fun y c e z => ?_⟩, I.bs, Nat.le_trans I.ok.bsz I.sz, fun b o e hb => ?_, fun b hb z => ?_, I.stack, I.stkFree⟩
    · show ∃ c, cenv.cells.lookup y = some c
      have key : ∀ k, cenv.kindOf y = some k → (k = .cell ∨ k = .free) → ∃ c, cenv.cells.lookup y = some c := fun k hk hk' => by
        unfold Env.kindOf at hk
        rw [hsc] at hk
        rcases hk' with rfl | rfl
        · exact absurd rfl (ok.nocell _ (PySem.mem_of_lookup hk))
        · obtain ⟨c, h1, _⟩ := look hk
          exact ⟨c, h1⟩
      rcases hy with hy | hy
      · exact key _ hy (.inl rfl)
      · exact key _ hy (.inr rfl)
    · show b ≠ cenv.locals
      rw [hL]; exact Nat.ne_of_lt (hfp b hb).2
    · exact (hfp b hb).1.2.2.2.2.1 y c (cm e).1 z
    · rcases (hfp b hb).1.2.2.2.1 with z | z
      · exact I.ok.noex b o e z
      · exact absurd (Nat.lt_of_lt_of_le (Heap.lt_size e) (Nat.le_trans I.ok.bsz z)) (Nat.lt_irrefl _)
    · rcases List.mem_cons.mp (I.stkSub b z) with z | z
      · exact (hfp b hb).1.2.1 z
      · exact (hfp b hb).1.2.2.1 z
  refine ⟨okB, os, bare, Un.kept kp, ⟨m, by show s'.heap.Ns cenv.locals m; rw [hL]; exact hn, fun i y av e1 e2 e3 => ?_⟩, fun y c e => ?_, ?_, fun y c e => ?_, fun p hp => ?_, I.hok.kept kp, by rw [wipe_length]; exact I.len⟩
  · obtain ⟨e2, hne⟩ := wipe_some e2
    have e3 : Vis cenv.scope y := e3
    have hk : scope.names.lookup y = some .free := by
      have no : ∀ k, scope.names.lookup y = some k → ¬ (k = .local ∨ k = .cell) := fun k e hh => by
        rcases ok.blk.own _ (PySem.mem_of_lookup e) hh with e' | e'
        · obtain ⟨p, hp, hpy⟩ := List.mem_map.mp e'
          have e3 := ok.blk.ix p hp
          have : p.1 = y := hpy
          rw [this] at e3
          exact hne (List.mem_map.mpr ⟨p, hp, nodup_ix hN e3 e1⟩)
        · exact e' (List.mem_of_getElem? e1)
      rw [hsc] at e3
      rcases e3 with e3 | e3 | e3
      · exact absurd (.inl rfl) (no _ e3)
      · exact absurd (.inr rfl) (no _ e3)
      · exact e3
    obtain ⟨m0, hn0, hl⟩ := I.loc
    have hvis : Vis X.env.scope y := (ok.blk.free _ (PySem.mem_of_lookup hk) rfl).elim (fun k => .inr (.inl k)) (fun k => .inr (.inr k))
    obtain ⟨w, r, q⟩ := hl i y av e1 e2 hvis
    refine ⟨w, r, .inr ⟨.inr (by show cenv.scope.names.lookup y = _; rw [hsc]; exact hk), ?_⟩⟩
    obtain ⟨c, h1, h2⟩ := look hk
    rcases q with ⟨k, _⟩ | ⟨_, c', e', z⟩
    · have k : X.env.scope.names.lookup y = some .local := k
      rcases ok.blk.free _ (PySem.mem_of_lookup hk) rfl with k' | k' <;> rw [show X.env.scope.names.lookup y = _ from k'] at k <;> cases k
    · rw [h2] at e'; cases e'
      exact ⟨c, h1, z.keeps kp⟩
  · obtain ⟨w, z⟩ := I.cell y c (cm e).1
    exact ⟨w, z.keeps kp⟩
  · show H cenv.locals = none
    rw [hL]; exact I.hok.fresh (Nat.le_refl _)
  · exact I.freeC y c (cm e).1
  · have hp : p ∈ pn ++ [] := hp
    rw [List.append_nil] at hp
    obtain ⟨h1, h2, h3⟩ := hpn p hp
    refine ⟨h1, I.hok.fresh (Nat.le_of_lt h2), by show p.1 ≠ cenv.locals; rw [hL]; exact Nat.ne_of_gt h2, fun hb => ?_, h3⟩
    have hb : p.1 ∈ frs X.stack := hb
    rcases List.mem_cons.mp (I.stkSub _ hb) with z | z
    · exact absurd (Nat.lt_trans I.lt h2) (by rw [z]; exact Nat.lt_irrefl _)
    · exact I.nofs (Nat.le_of_lt h2) z
end
end KG

set_option Elab.async false
set_option linter.all false
set_option maxRecDepth 100000
set_option maxHeartbeats 1000000
/-! ### all(elt for tg in iter), the element may call own functions -/
namespace KG
open PySem PySem.Spec PyProof.Rows L2 GenW
/-- W: by the turn and a measure; behind it the def's table may have grown -/
def tAllG (P : Addr) (wi : TI) (g : TG) (te : TE) (vs : List Nat) : TE := fun σ H Q => wi σ H fun J H1 => GxR.TabG H1 P ∧ ∀ H2, GxR.Tabbed P H1 H2 → ∃ W : Nat → Nat → Hp → Prop, (∃ m, W 0 m H2) ∧ ∀ i m H, W i m H →
  (J.stop i H ∧ Q (.bl true) H) ∨ (J.go i H ∧ ∀ x H', J.yld i H x H' → g x (wipe σ vs) H' fun σ2 H3 => wipe σ2 vs = wipe σ vs ∧ te σ2 H3 fun y H4 =>
    (y = .bl true ∧ ∃ m', m' < m ∧ W (i + 1) m' H4) ∨ (y = .bl false ∧ Q (.bl false) H4))
section
variable {X : Cx}
def LpG (Y : Cx) (σw : L2.St) (fp : List Addr) (tn : Nat → Heap → Prop) (W : Nat → Nat → Hp → Prop) (m : Nat) (s : Shared) : Prop :=
  ∃ i m0 H', m0 + 1 ≤ m ∧ Inv Y [] σw H' s ∧ tn i s.heap ∧ (∀ b ∈ fp, H' b = none) ∧ W i m0 H'
def YdG (Y : Cx) (σw : L2.St) (fp : List Addr) (tn : Nat → Heap → Prop) (W : Nat → Nat → Hp → Prop) (Q : VK) (m : Nat) (y : Value) (s : Shared) : Prop :=
  (y = .bool true ∧ LpG Y σw fp tn W m s) ∨ (y = .bool false ∧ ∃ σ' H', Inv Y [] σ' H' s ∧ Q (.bl false) H')
def DnG (Y : Cx) (σw : L2.St) (Q : VK) (s : Shared) : Prop := ∃ H', Inv Y [] σw H' s ∧ Q (.bl true) H'
theorem gwalk {Y : Cx} {σ : L2.St} {vs : List Nat} {fp : List Addr} {it : Addr} {tn : Nat → Heap → Prop} {J : It} {W : Nat → Nat → Hp → Prop} {Q : VK} {tg elt : Expr} {g : TG} {te : TE} (hc : Y.calm = true) (hex : Y.ex = fp) (hxe : Y.xe = fun _ _ => False)
    (hpn : ∀ p ∈ Y.pn, ∀ b ∈ fp, p.1 ≠ b) (T : Turn Y.prog Y.w Y.K tg J fp it tn) (pg : PG Y tg g) (pe : PE Y elt te)
    (turn : ∀ i m H, W i m H → (J.stop i H ∧ Q (.bl true) H) ∨ (J.go i H ∧ ∀ x H', J.yld i H x H' → g x (wipe σ vs) H' fun σ2 H3 => wipe σ2 vs = wipe σ vs ∧ te σ2 H3 fun y H4 =>
      (y = .bl true ∧ ∃ m', m' < m ∧ W (i + 1) m' H4) ∨ (y = .bl false ∧ Q (.bl false) H4))) :
    GWalk Y.prog Y.w Y.A tg elt it Y.env (LpG Y (wipe σ vs) fp tn W) (YdG Y (wipe σ vs) fp tn W Q) (DnG Y (wipe σ vs) Q) := by
  have stat : ∀ {σ' : L2.St} {H' : Hp} {s' : Shared}, Inv Y [] σ' H' s' → (∀ b ∈ fp, H' b = none) → ∀ b ∈ fp, FpOk Y [] H' b := fun {σ' H' s'} I' hn b hb =>
    ⟨hn b hb, (I'.ok.exf b (hex ▸ hb)).1, I'.ok.exfs b (hex ▸ hb), .inl (hex ▸ hb), fun x c e => (I'.ok.exf b (hex ▸ hb)).2 x c e, fun p hp => hpn p (by simpa using hp) b hb⟩
  have pgr := pg.run
  have per := pe.run
  rw [hxe] at pgr per
  refine ⟨?_, ?_⟩
  · rintro m s ⟨i, m0, H5, hm0, I5, st5, n5, w5⟩
    rcases turn i m0 H5 w5 with ⟨stop, qq⟩ | ⟨go, step⟩
    · refine thn (T.done Y rfl rfl rfl hc i [] s _ H5 (fun _ _ => False) I5 (stat I5 n5) st5 stop) fun r s6 ⟨hr, I6⟩ => ?_
      subst hr
      exact ⟨H5, I6, qq⟩
    · refine thn (T.item Y rfl rfl rfl hc i [] s _ H5 (fun _ _ => False) I5 (stat I5 n5) st5 go) fun r s6 ⟨u, hr, h6⟩ => ?_
      subst hr
      refine thn h6 fun _ s7 ⟨x, H7, I7, r7, y7, st7, n7⟩ => ?_
      have I7' := I7.pinned (stat I7 n7) (T.obj _ _ st7)
      refine thn (pgr _ s7 _ H7 x u _ I7' r7 (step x H7 y7)) fun _ s8 ⟨σ8, H8, I8, hw8, q8⟩ => ?_
      refine thn (per _ s8 σ8 H8 _ I8 q8) fun z s10 ⟨yv, H10, I10, r10, q10⟩ => ?_
      obtain ⟨m, rfl⟩ : ∃ k, m = k + 1 := ⟨m - 1, by omega⟩
      refine ⟨m, rfl, ?_⟩
      rcases q10 with ⟨rfl, m', hm, w'⟩ | ⟨rfl, q10⟩
      · refine .inl ⟨r10, i + 1, m', H10, by omega, ?_, ?_, ?_, w'⟩
        · have hl : (wipe σ vs).length = σ8.length := by rw [← hw8, wipe_length]
          refine (I10.unpinned (pins := [])).weak hl fun j v e => ?_
          rw [← hw8] at e
          exact (wipe_some e).1
        · refine T.keep _ _ _ st7 fun b hb o e => ?_
          exact (I10.pin (b, o) (List.mem_append_right _ (List.mem_append_right _ (mem_pinsAt hb e)))).1
        · intro b hb
          obtain ⟨o, e, _⟩ := T.obj _ _ st7 b hb
          exact (I10.pin (b, o) (List.mem_append_right _ (List.mem_append_right _ (mem_pinsAt hb e)))).2.1
      · exact .inr ⟨r10, _, H10, I10.unpinned (pins := []), q10⟩
  · rintro A' m s Q' E' ⟨i, m0, H5, hm0, I5, st5, n5, w5⟩ h
    exact T.self A' i s Q' E' st5 h
end
end KG

set_option Elab.async false
set_option linter.all false
set_option maxRecDepth 100000
set_option maxHeartbeats 1000000
/-! ### the rule -/
namespace KG
open PySem PySem.Spec PyProof.Rows L2 GenW
section
variable {X : Cx}
theorem pe_allG {c P : Addr} {elt tg iter : Expr} {scope : Scope} {own : List (Str × Nat)} {p pos gpos : Pos} {wi : TI} {g : TG} {te : TE} {k : Nat}
    (hc : X.calm = true) (hN : X.N.Nodup) (hr : Room (k + 1) X.A) (hg : Gl X "all") (hm : X.mg "all" = none) (hb : bootBuiltins "all" = some (.builtin "all")) (TB : GxR.TabB X.base X.mg c P) (hcode : X.env.code = .ref c) (ok : GOk X.N X.env.scope scope own) (hi : PI X tg iter wi)
    (hpg : ∀ (B : Around) (s : Shared) (H : Hp) (cl : List (Str × Addr)) (C : Addr) (code : Value) (fp : List Addr) (pn : List (Addr × Obj)), PG (gcx X B s H (genEnv scope cl C code builtinsNs X.env) fp pn) tg g)
    (hpe : ∀ (B : Around) (s : Shared) (H : Hp) (cl : List (Str × Addr)) (C : Addr) (code : Value) (fp : List Addr) (pn : List (Addr × Obj)), Room k B → PE (gcx X B s H (genEnv scope cl C code builtinsNs X.env) fp pn) elt te)
    (hs : ∀ v, genFold iter X.env v = pure v)
    (he : starEach [.GeneratorExp elt [⟨tg, iter, [], 0⟩] scope gpos] X.env = (false, eval (.GeneratorExp elt [⟨tg, iter, [], 0⟩] scope gpos) X.env) :: starEach [] X.env := by rfl) :
    PE X (.Call (.Name "all" p) [.GeneratorExp elt [⟨tg, iter, [], 0⟩] scope gpos] [] pos) (tAllG P wi g te (own.map (·.2))) := by
  refine ⟨fun pins s σ H Q I h => ?_⟩
  have hfree : ∀ y ∈ scope.names, y.2 = .free → ∃ c, X.env.cells.lookup y.1 = some c := fun y hy e => by
    rcases ok.blk.free y hy e with k | k
    · exact I.ok.has _ (.inl k)
    · exact I.ok.has _ (.inr k)
  refine wpAny_Call_Name_kw (ld_blt I hg hm hb ?_)
  refine PyProof.Rows.callWith_builtin1 ?_ he (by rfl)
  rw [he]
  show wpAny _ _ (spliced ((false, eval (.GeneratorExp elt [⟨tg, iter, [], 0⟩] scope gpos) X.env) :: backTo pos (starEach [] X.env))) _ _ s
  refine Calls.spliced_cons ?_
  refine wpAny_GeneratorExp_make ok.co (closure_ok hfree) ok.nocell ok.dot ok.blk.kind (by have := hr.dp; omega) ?_ hs
  refine wpAny_mono (hi.run pins s σ H _ I h) (fun xv s1 hx => wpAny_mono hx (fun itv s2 h2 => ?_) fun _ _ e => e) fun _ _ e => e
  obtain ⟨it, fp, tn, J, H2, e, I2, T, st2, f2, ⟨ps, hP, ht⟩, q⟩ := h2
  subst e
  refine ⟨I2.nolimit, ?_⟩
  have hPs : s2.heap.get? P = some { cls := .none, data := .fields ps } := I2.hok P _ hP
  have hPlt : P < s2.heap.objs.size := Heap.lt_size hPs
  have cd : PySem.W.CodeHd s2.heap c P := TB.code.keeps fun b u e => I2.bk b u e
  have cont : ∀ (code : Value) (h3 : Heap) (tk : Nat) (ps' : Array Value), Heap.ExtBut P s2.heap h3 → s2.heap.objs.size ≤ h3.objs.size → h3.get? P = some { cls := .none, data := .fields ps' } → (∃ more, ps' = ps ++ more) → TriplesOk ps'.toList →
      wpAny (model X.prog X.w) X.A (builtinsFor X.env.globals X.env.builtins) (fun bi s₄ =>
        ∀ h', h'.Ns s₄.heap.objs.size (fun y => if y = ".0" then some (.ref it) else none) → Heap.SameBut s₄.heap.objs.size (s₄.heap.push { cls := .type "frame", data := .dict #[] }) h' →
          wpAny (model X.prog X.w) X.A (spliced (backTo pos (starEach [] X.env))) (fun r s1 => wpAny (model X.prog X.w) X.A (call (.builtin "all") (.ref h'.objs.size :: r)) (EP X pins σ Q) X.xe s1) X.xe { s₄ with
            gens := s₄.gens.push (.fresh (.compStart (.GeneratorExp elt [⟨tg, iter, [], 0⟩] scope gpos) 0 (.ref it) .none (genEnv scope (cloFrom X.env.cells scope.names []) s₄.heap.objs.size code bi X.env))),
            toks := s₄.toks + 1 + 1 + 1,
            heap := h'.push { cls := .type "generator", data := .fields #[.int s₄.gens.size 0, .str "<genexpr>" (s₄.toks + 1), .str (X.env.qual ++ "<genexpr>") (s₄.toks + 1 + 1)] } }) X.xe { s2 with heap := h3, toks := tk } := by
    intro code h3 tk ps' hx hsz hP3 hmore ht3
    obtain ⟨bm, ob, e1, e2, e3, e4, e5, e6, e7, e8⟩ := TB.bm
    have keep3 : ∀ b u, b ≠ P → s2.heap.get? b = some u → h3.get? b = some u := fun b u hb e => hx b u hb e
    refine wpAny_builtinsFor (m := X.mg) (by rw [I2.ok.glob]; exact (I2.mod.glob.keeps I2.bk).extBut hx TB.gP) e1 e2 (keep3 _ _ e4 (I2.bk _ _ e5)) e6 e7 e8 ?_
    obtain ⟨more, rfl⟩ := hmore
    have I4 := GxR.inv_tab (more := more) (h' := h3) (g' := s2.gens) (d' := s2.drawn) (t' := tk) I2 hP (fun b u hb e => keep3 b u hb e) hP3 I2.bare
    have hT : GxR.Tabbed P H2 (upd H2 P (.tbl (ps ++ more))) := ⟨⟨ps ++ more, upd_same, ht3⟩, fun b hb => upd_ne hb⟩
    obtain ⟨W, ⟨m0, w0⟩, turn⟩ := q _ hT
    generalize upd H2 P (.tbl (ps ++ more)) = H3 at I4 hT w0
    have nP : ∀ b ∈ fp, b ≠ P := fun b hb z => by
      have := (f2 b hb).1
      rw [z, hP] at this
      cases this
    have lt2 : ∀ b ∈ fp, b < s2.heap.objs.size := fun b hb => by
      obtain ⟨o, e, _⟩ := T.obj _ _ st2 b hb
      exact Heap.lt_size e
    have f4 : ∀ b ∈ fp, FpOk X pins H3 b ∧ b < h3.objs.size := fun b hb => by
      refine ⟨⟨?_, (f2 b hb).2⟩, Nat.lt_of_lt_of_le (lt2 b hb) hsz⟩
      rw [hT.2 b (nP b hb)]
      exact (f2 b hb).1
    have st4 : tn 0 h3 := T.keep _ _ _ st2 fun b hb o e => keep3 b o (nP b hb) e
    generalize hs4 : ({ s2 with heap := h3, toks := tk } : Shared) = s4 at I4
    have eh4 : s4.heap = h3 := by rw [← hs4]
    have eg4 : s4.gens = s2.gens := by rw [← hs4]
    have eo4 : s4.os = s2.os := by rw [← hs4]
    rw [← eh4] at f4 st4
    intro h' hn' hs'
    have hsz' : h'.objs.size = s4.heap.objs.size + 1 := by rw [hs'.1, Heap.size_push]
    have keep' : ∀ b o, s4.heap.get? b = some o → h'.get? b = some o := fun b o e => hs'.extBut b o (Nat.ne_of_lt (Heap.lt_size e)) (Heap.get?_push_of_some _ e)
    generalize hgo : ({ cls := .type "generator", data := .fields #[.int s4.gens.size 0, .str "<genexpr>" (s4.toks + 1), .str (X.env.qual ++ "<genexpr>") (s4.toks + 1 + 1)] } : Obj) = go
    have keep5 : ∀ b o, s4.heap.get? b = some o → (h'.push go).get? b = some o := fun b o e => Heap.get?_push_of_some _ (keep' b o e)
    have ga : (h'.push go).get? h'.objs.size = some go := Heap.get?_push_size _ (by rw [← hgo]; rfl)
    generalize hcenv : genEnv scope (cloFrom X.env.cells scope.names []) s4.heap.objs.size code builtinsNs X.env = cenv
    generalize hs5 : ({ s4 with gens := s4.gens.push (.fresh (.compStart (.GeneratorExp elt [⟨tg, iter, [], 0⟩] scope gpos) 0 (.ref it) .none cenv)), toks := s4.toks + 1 + 1 + 1, heap := h'.push go } : Shared) = s5
    have eh5 : s5.heap = h'.push go := by rw [← hs5]
    have eo5 : s5.os = s4.os := by rw [← hs5]
    have eg5 : s5.gens = s4.gens.push (.fresh (.compStart (.GeneratorExp elt [⟨tg, iter, [], 0⟩] scope gpos) 0 (.ref it) .none cenv)) := by rw [← hs5]
    have hgen : ∀ h : Heap, h.get? h'.objs.size = some go → h.IsGen h'.objs.size s4.gens.size := fun h e => ⟨go, _, _, e, by rw [← hgo], by rw [← hgo], by rw [← hgo]⟩
    have gb5 : AllBare s5.gens := by rw [eg5]; exact I4.bare.push rfl
    generalize hB : X.A.in1.in1.over (.compLoop (.GeneratorExp elt [⟨tg, iter, [], 0⟩] scope gpos) 0 (.ref it) .none cenv) [] = B
    have hBh : B.handled = none := by rw [← hB]; exact hr.hd
    have hBf : B.frames = some (cenv :: X.stack) := by
      rw [← hB]
      have q : (X.A.in1.in1.over (.compLoop (.GeneratorExp elt [⟨tg, iter, [], 0⟩] scope gpos) 0 (.ref it) .none cenv) []).frames = pushEnvs (Code.envs (.compLoop (.GeneratorExp elt [⟨tg, iter, [], 0⟩] scope gpos) 0 (.ref it) .none cenv)) (pushEnvs (envsOf []) X.A.in1.in1.frames) := rfl
      rw [q, show X.A.in1.in1.frames = X.A.frames from rfl, I.ok.frames]
      rfl
    have hBr : Room k B := ⟨hBh, by rw [← hB]; have := hr.dp; show X.A.depth + 0 + 1 + 3 * k + 5 < _; omega, by rw [← hB]; have := hr.un; show X.A.units + 1 + 1 + 0 + 3 + 16 * k + 200 < _; omega⟩
    have hn5 : s5.heap.Ns s4.heap.objs.size (fun y => if y = ".0" then some (.ref it) else none) := by rw [eh5]; exact hn'.push _
    have I5 : Inv (gcx X B s4 H3 cenv fp [(h'.objs.size, go)]) [] (wipe σ (own.map (·.2))) H3 s5 := by
      have z := gen_start (B := B) (code := code) (s' := s5) (pn := [(h'.objs.size, go)]) I4 ok hN f4 hBh (by rw [hcenv]; exact hBf) eo5 gb5 (fun b o e => by rw [eh5]; exact keep5 b o e) hn5 (fun p hp => by
        have e := List.mem_singleton.mp hp
        rw [e]
        exact ⟨by rw [eh5]; exact ga, by show _ < h'.objs.size; omega, fun v z => by rw [← hgo] at z; cases z⟩)
      rw [hcenv] at z
      exact z
    have hapart : ∀ p ∈ [(h'.objs.size, go)], ∀ b ∈ fp, p.1 ≠ b := fun p hp b hb => by
      have e := List.mem_singleton.mp hp
      have l := (f4 b hb).2
      rw [e]
      exact Nat.ne_of_gt (Nat.lt_trans l (by rw [hsz']; exact Nat.lt_succ_self _))
    have pg := hpg B s4 H3 (cloFrom X.env.cells scope.names []) s4.heap.objs.size code fp [(h'.objs.size, go)]
    have pe := hpe B s4 H3 (cloFrom X.env.cells scope.names []) s4.heap.objs.size code fp [(h'.objs.size, go)] hBr
    rw [hcenv] at pg pe
    have Wk := gwalk (Y := gcx X B s4 H3 cenv fp [(h'.objs.size, go)]) (σ := σ) (vs := own.map (·.2)) hc rfl rfl hapart T pg pe turn
    have back : ∀ {σ' : L2.St} {H' : Hp} {s' : Shared}, Inv (gcx X B s4 H3 cenv fp [(h'.objs.size, go)]) [] σ' H' s' → Inv X pins σ H' s' := fun {σ' H' s'} I6 =>
      I4.call' (ch := fp) I6.os I6.base I6.hok I6.bare fun b hb => ⟨(f4 b hb).1.2.2.2.1, (f4 b hb).1.2.1, (f4 b hb).1.2.2.2.2.1, (f4 b hb).1.2.2.2.2.2⟩
    have gat : ∀ {σ' : L2.St} {H' : Hp} {s' : Shared}, Inv (gcx X B s4 H3 cenv fp [(h'.objs.size, go)]) [] σ' H' s' → s'.heap.IsGen h'.objs.size s4.gens.size := fun {σ' H' s'} I6 =>
      hgen _ (I6.pin (h'.objs.size, go) (List.mem_append_left _ List.mem_cons_self)).1
    refine Calls.spliced_nil ?_
    refine call_function_tree F.kind_all F.plain_all F.entry_all (F.args_all1 _) ?_
    unfold Builtin.«all»
    refine wpAny_bind (m := oneArg "all" _) (wpAny_pure ?_)
    refine wpAny_bind (wpAny_pyIter_gen (gat I5) ?_)
    refine wpAny_pure ⟨plainId_quiet F.plain_all_loop _, ?_⟩
    refine all_loop (P := X.prog) (w := X.w) (g := s4.gens.size) (Lp := LpG (gcx X B s4 H3 cenv fp [(h'.objs.size, go)]) (wipe σ (own.map (·.2))) fp tn W) (Yd := YdG (gcx X B s4 H3 cenv fp [(h'.objs.size, go)]) (wipe σ (own.map (·.2))) fp tn W Q) (Dn := DnG (gcx X B s4 H3 cenv fp [(h'.objs.size, go)]) (wipe σ (own.map (·.2))) Q)
      hr.hd (by have := hr.dp; omega) (fun m v s hY => ?_) (fun s s' hD hk ho hg => ?_) (m0 + 1) s5 (.fresh (.compStart (.GeneratorExp elt [⟨tg, iter, [], 0⟩] scope gpos) 0 (.ref it) .none cenv)) I5.nolimit (gat I5) (by rw [eg5]; exact Array.getElem?_push_size ..) ⟨rfl, ?_⟩
    · rcases hY with ⟨rfl, i, m1, H', hm1, I6, st6, n6, w6⟩ | ⟨rfl, σ', H', I6, q6⟩
      · refine ⟨I6.nolimit, gat I6, I6.bare, true, rfl, fun s'' hal => ?_⟩
        rw [if_pos rfl]
        exact ⟨i, m1, H', hm1, Inv.alike I6 hal, by rw [hal.heap]; exact st6, n6, w6⟩
      · refine ⟨I6.nolimit, gat I6, I6.bare, false, rfl, fun s'' hal => ?_⟩
        rw [if_neg Bool.false_ne_true]
        exact ⟨.bl false, H', back (Inv.alike I6 hal), rfl, q6⟩
    · obtain ⟨H', I6, q6⟩ := hD
      have I7 := I6.kept (t' := s.toks) hk
      refine ⟨.bl true, H', back (Inv.alike I7 ⟨rfl, ho, ?_⟩), rfl, q6⟩
      rw [hg]
      exact allBare_setGen I6.bare rfl
    · refine seg_start hB (by rw [← hcenv]; exact ok.co) Wk (Nat.le_refl _) ⟨0, m0, H3, Nat.le_refl _, Inv.alike I5 ⟨rfl, rfl, allBare_setGen gb5 rfl⟩, ?_, fun b hb => (f4 b hb).1.1, w0⟩
      show tn 0 s5.heap
      rw [eh5]
      exact T.keep _ _ _ st4 fun b hb o e => keep5 b o e
  cases hf : codeAmong gpos ps.toList with
  | none =>
    refine wpAny_genexprCodeX hcode (cd.code hPs ht) (cd.tab hPs) hf fun c' h' tk hx hge hlt hco' _ htab' _ => ?_
    obtain ⟨o1, vs, f1, tf, fl, tg, inF, tx, tt, op, _, _, _, _, _, _, _, _, _, htr, _⟩ := hco'
    exact cont _ h' tk _ hx (Nat.le_trans hge (Nat.le_of_lt hlt)) htab'.2 ⟨_, rfl⟩ htr
  | some cv =>
    refine wpAny_genexprCode_hit hcode (cd.code hPs ht) hf ?_
    exact cont cv s2.heap s2.toks ps (Heap.ExtBut.refl _ _) (Nat.le_refl _) hPs ⟨#[], by simp⟩ ht
end
end KG

set_option Elab.async false
set_option linter.all false
set_option maxRecDepth 100000
set_option maxHeartbeats 1000000
/-! ### defs with generator expressions: the reading of all(..) over a tuple -/
namespace KP
open PySem PySem.Spec PyProof.Rows L2 KX
/-- a def whose code object is known -/
structure FunC (K : PySem.W.Frag) (x qual : Str) (st : Stmt) (f : Addr) (fd : FuncData) (c : Addr) : Prop where
  ex : ∃ (oc : Value) (od : Option Addr) (kV doc pm : Value) (an : Option Addr) (ct : Value) (osl : Array (Option Value)),
    fd = PySem.W.fnOf x qual (defArgs st) (defBody st) (defScope st) .none kV doc pm an (.ref c) ct ∧ K.lookup f = some ⟨oc, od, .func fd, osl⟩ ∧ PySem.W.codeIn K (.ref c) qual = true
theorem FunC.ok {P : Program} {w : World} {K : PySem.W.Frag} {mg : Str → Option Value} {base : Heap} {x qual : Str} {st : Stmt} {f c : Addr} {fd : FuncData} {N ps : List Str} {k : Nat} {sp : Sp} (F : FunC K x qual st f fd c) (S : FnScope N ps (defScope st)) (len : ∀ {vs H Q E}, sp vs H Q E → vs.length = ps.length)
    (body : ∀ (A : Around) (outer : List Env) (s : Shared) (H : Hp) (vs : List V) (Q : VK) (E : XK), Room k (A.deeper (envOfC qual (defScope st) s.heap.objs.size f (.ref c))) → sp vs H Q E →
      ∃ t, PSs (cxOf CX0 P w K mg base N qual (defScope st) f (.ref c) A outer s H E).nox (defBody st) t ∧ t { nx := fun _ H' => Q .non H', rt := Q } (start N vs) H) : FnOk P w K mg base CX0 (k + 1) f fd ps sp := by
  obtain ⟨oc, od, kV, doc, pm, an, ct, osl, rfl, lk, hcd⟩ := F.ex
  exact fn_of lk hcd S (fun _ _ _ _ h => len h) fun A outer s H vs Q E hr hsp => let ⟨t, h, q⟩ := body A outer s H vs Q E hr hsp; ⟨t, h.nox, q⟩
theorem all_get {H : Hp} : ∀ {xs : List V} {ds : List PyData} {i : Nat} {x : V}, ThAll H xs ds → xs[i]? = some x → ∃ d, ds[i]? = some d ∧ Th H x d
  | _, _, 0, _, .cons h _, e => by
    cases e
    exact ⟨_, rfl, h⟩
  | _ :: _, _ :: _, _ + 1, _, .cons _ t, e => by
    obtain ⟨d, h1, h2⟩ := all_get t (show _ = _ from (List.getElem?_cons_succ ▸ e))
    exact ⟨d, by rw [List.getElem?_cons_succ]; exact h1, h2⟩
theorem ThAll.mono {H H' : Hp} (s : Sm H H') : ∀ {xs : List V} {ds : List PyData}, ThAll H xs ds → ThAll H' xs ds
  | _, _, .nil => .nil
  | _, _, .cons a b => .cons (a.mono s) (ThAll.mono s b)
/-- the tables stand -/
def Tbs (Ps : List Addr) (H : Hp) : Prop := ∀ P ∈ Ps, GxR.TabG H P
structure Grown (Ps : List Addr) (H H' : Hp) : Prop where
  sm : Sm H H'
  tbs : Tbs Ps H'
theorem Grown.trans {Ps : List Addr} {H H1 H2 : Hp} (a : Grown Ps H H1) (b : Grown Ps H1 H2) : Grown Ps H H2 := ⟨a.sm.trans b.sm, b.tbs⟩
theorem Grown.same {Ps : List Addr} {H H1 : Hp} (a : Same H H1) (t : Tbs Ps H) : Grown Ps H H1 := ⟨Sm.same a, fun P hP => let ⟨ps, e, k⟩ := t P hP; ⟨ps, a _ _ e, k⟩⟩
theorem Grown.tabbed {Ps : List Addr} {P : Addr} {H H1 : Hp} (a : GxR.Tabbed P H H1) (t : Tbs Ps H) (hP : P ∈ Ps) : Grown Ps H H1 := by
  obtain ⟨ps, e, _⟩ := t P hP
  refine ⟨fun b u eb n => ?_, fun R hR => ?_⟩
  · rw [a.2 b fun z => by rw [z, e] at eb; exact n ps (Option.some.inj eb).symm]
    exact eb
  · by_cases z : R = P
    · rw [z]; exact a.1
    · obtain ⟨qs, e2, k2⟩ := t R hR
      exact ⟨qs, (a.2 R z).trans e2, k2⟩
theorem all_vi {K : PySem.W.Frag} {Ps : List Addr} {P a : Addr} {i0 j : Nat} {te : TE} {vs : List Nat} {σ : L2.St} {H : Hp} {Q : VK} {xs : List V} {ds : List PyData} {pd : PyData → Bool} (h0 : σ[i0]? = some (some (.ref a))) (hx : Rd H a (.tup xs)) (hd : ThAll H xs ds) (ht : Tbs Ps H) (hP : P ∈ Ps)
    (hw : ∀ x : V, wipe ((wipe σ vs).set j (some x)) vs = wipe σ vs) (he : ∀ H2 x d, Th H2 x d → Vi te ((wipe σ vs).set j (some x)) H2 (.bl (pd d))) (q : ∀ H2, Grown Ps H H2 → Q (.bl (ds.all pd)) H2) : KG.tAllG P (iTup K (tVar i0)) (gName j) te vs σ H Q := by
  refine ⟨_, h0, a, rfl, ⟨xs, SqT.of hx⟩, ht P hP, fun H2 hT => ?_⟩
  have gr := Grown.tabbed hT ht hP
  have hx2 : Rd H2 a (.tup xs) := gr.sm.rd hx
  have hl := all2 hd
  refine ⟨fun i m H' => H' = H2 ∧ i ≤ xs.length ∧ m = xs.length - i ∧ (ds.take i).all pd = true, ⟨_, rfl, Nat.zero_le _, rfl, rfl⟩, ?_⟩
  rintro i m H' ⟨rfl, hi, rfl, hall⟩
  by_cases c : i < xs.length
  · refine .inr ⟨⟨xs, xs[i], SqT.of hx2, by simp [c]⟩, fun x H3 ⟨e, hy⟩ => ?_⟩
    subst e
    have hxi := hy xs (SqT.of hx2)
    obtain ⟨d, hdi, hth⟩ := all_get hd hxi
    refine ⟨hw x, he _ x d (hth.mono gr.sm) _ ?_⟩
    cases hp : pd d with
    | true =>
      refine .inl ⟨rfl, xs.length - (i + 1), by omega, rfl, c, rfl, ?_⟩
      rw [List.take_add_one, hdi, List.all_append, hall]
      simp [hp]
    | false =>
      refine .inr ⟨rfl, ?_⟩
      have e : ds.all pd = false := by
        rw [Bool.eq_false_iff]
        intro z
        have := List.all_eq_true.mp z d (List.mem_of_getElem? hdi)
        rw [hp] at this
        cases this
      rw [← e]
      exact q _ gr
  · refine .inl ⟨⟨xs, SqT.of hx2, by omega⟩, ?_⟩
    have e : ds.take i = ds := List.take_of_length_le (by omega)
    rw [e] at hall
    rw [← hall]
    exact q _ gr
end KP

set_option Elab.async false
set_option linter.all false
set_option maxRecDepth 100000
set_option maxHeartbeats 1000000
/-! ### tanks -/
namespace KP
open PySem PySem.Spec PyProof.Rows L2 KX
def itms : PyData → List PyData
  | .tuple ds => ds
  | _ => []
def ltI : PyData → PyData → Bool
  | .int i, .int j => decide (i < j)
  | _, _ => false
def ascB (ds : List PyData) : Bool := (List.range (ds.length - 1)).all fun i => ltI (ds.getD i .none) (ds.getD (i + 1) .none)
def areT (m : Int) (d : PyData) : Bool := decide (tyN d = "tuple") && (decide (1 ≤ (lenT d : Int)) && decide ((lenT d : Int) ≤ m)) && ((itms d).all (fun e => isW e 0 (m - 1)) && ascB (itms d))
def spTanks (Ps : List Addr) : Sp := fun vs H Q _ => ∃ x d m, vs = [x, .int m] ∧ Th H x d ∧ Tbs Ps H ∧ m ≤ 1000 ∧ ∀ H', Grown Ps H H' → Q (.bl (areT m d)) H'
theorem walk_zipT {K : PySem.W.Frag} {a b : Addr} {xs ys : List V} {n : Nat} (hn : n = min xs.length ys.length) : Walk (RZ.ItzT K a b) n (fun H => SqT K H a xs ∧ SqT K H b ys) (YPair (fun i => xs[i]?) (fun i => ys[i]?)) := by
  subst hn
  refine ⟨fun i H hi q => ?_, fun H q => ⟨xs, ys, q.1, q.2, by omega⟩, fun i H v H' _ q y => ?_⟩
  · exact ⟨xs, ys, xs[i]'(by omega), ys[i]'(by omega), q.1, q.2, List.getElem?_eq_getElem _, List.getElem?_eq_getElem _⟩
  · obtain ⟨T, x, z, h1, h2, h3, h4, h5⟩ := y
    exact ⟨T, x, z, h1, h2, h3, h4 _ (q.1), h5 _ (q.2)⟩
theorem i_guardE {te : TE} {tz : TS} {D : Ends} {σ : L2.St} {H : Hp} (h : te σ H (fun x H1 => ∃ c, x = .bl c ∧ (if (!c) = true then D.rt (.bl false) H1 else tz D σ H1))) : tSeq (tIfS (tNot (tB te)) (tRet (tC (.bl false))) tNext) tz D σ H := h
theorem vi_chain {σ : L2.St} {H : Hp} {r r' : R2} {ta tb tc : TE} {x y z : V} {a b : Bool} (ha : Vi ta σ H x) (hb : Vi tb σ H y) (h1 : ∀ Q : VK, Q (.bl a) H → r x y H Q) (hc : a = true → Vi tc σ H z) (h2 : a = true → ∀ Q : VK, Q (.bl b) H → r' y z H Q) : Vi (tChain r r' ta tb tc) σ H (.bl (a && b)) :=
  fun Q q => ha _ (hb _ (h1 _ ⟨a, rfl, by
    cases a with
    | true => rw [if_pos rfl]; exact hc rfl _ (h2 rfl _ (by simpa using q))
    | false => rw [if_neg Bool.false_ne_true]; simpa using q⟩))
theorem same_upd {H : Hp} {p : Addr} {o : HO} (hp : H p = none) : Same H (upd H p o) := fun b u e => by
  rw [upd_ne (ne_of_none e hp)]
  exact e
theorem sIx_one {n : Nat} (h : 1 ≤ n) : HT.sIx n 0 (some 1) = 1 := by
  have := HT.sIx_nat n 0 1
  rw [Nat.min_eq_left h] at this
  exact this
theorem cut_one {xs : List V} (h : 1 ≤ xs.length) : cutV xs (some 1) none = xs.drop 1 := by
  unfold cutV
  rw [sIx_one h]
  exact List.take_of_length_le (by rw [List.length_drop]; exact Nat.le_refl _)
section
variable {P : Program} {w : World} {K : PySem.W.Frag} {mg : Str → Option Value} {base : Heap}
end
end KP

set_option Elab.async false
set_option linter.all false
set_option maxRecDepth 100000
set_option maxHeartbeats 1000000
/-! ### enumerate(tuple); x in tuple of data -/
namespace KT
open PySem PySem.Spec PyProof.Rows L2
theorem meets_enumB {v : Value} {o : Obj} {H : Heap → Prop} (B : Begins v o H) :
    Meets (Builtin.«enumerate.__new__» ⟨[.type "enumerate", v], []⟩) (fun _ R s => H s.heap ∧
      R (.ok (.ret (.ref (s.heap.push o).objs.size))) { s with heap := (s.heap.push o).push { cls := .type "enumerate", data := .fields #[.none, .bool false, .ref s.heap.objs.size, rawInt 0, .none, .none] } }) :=
  .of_wp fun prog w A R s h => by
    obtain ⟨hp, g, d, tk, os⟩ := s
    obtain ⟨h1, h⟩ := h
    have hsub := sub_enumerate
    have q1 : ∀ {A' : Around} {E : Value → Shared → Prop} {Q : Value → Shared → Prop}, Q (.ref hp.objs.size) ⟨hp.push o, g, d, tk, os⟩ → wpAny (model prog w) A' (pyIter v) Q E ⟨hp, g, d, tk, os⟩ :=
      fun q => B.iter prog w _ _ ⟨hp, g, d, tk, os⟩ _ h1 q
    wp_walk using q1
    refine wpAny_stack_any fun st => wpAny_pure ?_
    split
    · rename_i c _ _ _ _ _
      cases (c == Value.type "enumerate")
      · wp_walk using q1
        exact ⟨_, rfl, h⟩
      · wp_walk using q1
        exact ⟨_, rfl, h⟩
    · wp_walk using q1
      exact ⟨_, rfl, h⟩
theorem call_enumB {prog : Program} {w : World} {A : Around} {E : Value → Shared → Prop} {s : Shared} {v : Value} {o : Obj} {H : Heap → Prop} {Q : Value → Shared → Prop} (B : Begins v o H) (h1 : H s.heap)
    (h : ∀ h', IsEnum h' (s.heap.objs.size + 1) s.heap.objs.size 0 .none → h'.get? s.heap.objs.size = some o → (∀ b o, s.heap.get? b = some o → h'.get? b = some o) → Q (.ref (s.heap.objs.size + 1)) { s with heap := h' }) :
    wpAny (model prog w) A (call (.type "enumerate") [v]) Q E s := by
  refine callType_new F.called_enumerate (by decide) (F.typeCall_enumerate_1 _) (F.newCall_enumerate_1 _) (fun obj => F.args_object_init_2 obj _) F.entry_enumerate_new (meets_enumB B) ⟨h1, ?_⟩
  have hz : (s.heap.push o).objs.size = s.heap.objs.size + 1 := Heap.size_push ..
  show _ ∧ _
  rw [hz]
  have he : IsEnum ((s.heap.push o).push { cls := .type "enumerate", data := .fields #[.none, .bool false, .ref s.heap.objs.size, rawInt 0, .none, .none] }) (s.heap.objs.size + 1) s.heap.objs.size 0 .none := by
    have := Heap.get?_push_size (s.heap.push o) (o := { cls := .type "enumerate", data := .fields #[.none, .bool false, .ref s.heap.objs.size, rawInt 0, .none, .none] }) rfl
    rw [hz] at this
    exact this
  exact ⟨⟨_, he, rfl⟩, h _ he (Heap.get?_push_of_some _ (Heap.get?_push_size _ B.free)) fun b o x => Heap.get?_push_of_some _ (Heap.get?_push_of_some _ x)⟩
def IteT (K : PySem.W.Frag) (a : Addr) : It :=
  ⟨fun i H => ∃ (xs : List V) (x : V), SqT K H a xs ∧ xs[i]? = some x, fun i H v H' => ∃ T x, v = .ref T ∧ H T = none ∧ H' = upd H T (.tup [.int (i : Nat), x]) ∧ ∀ xs, SqT K H a xs → xs[i]? = some x, fun i H => ∃ xs : List V, SqT K H a xs ∧ xs.length = i⟩
theorem turn_enumT {P : Program} {w : World} {K : PySem.W.Frag} {elts : List Expr} {kk : Nat} {tpos : Pos} (a e it : Addr) :
    Turn P w K (.Tuple elts kk tpos) (IteT K a) [e, it] e (fun i h => (∃ old, IsEnum h e it ((i : Nat) : Int) old) ∧ h.IsTupleIter it a i ∧ e ≠ it ∧ a ≠ it ∧ a ≠ e) where
  mem := by simp
  obj := fun i h st b hb => by
    obtain ⟨⟨old, he⟩, ⟨o, ho, hc, hd⟩, _⟩ := st
    have e' : b = e ∨ b = it := by simpa using hb
    rcases e' with z | z
    · rw [z]; exact ⟨_, he, fun v q => nomatch q⟩
    · rw [z]; exact ⟨o, ho, fun v q => by rw [hd] at q; cases q⟩
  keep := fun i h h' st k => let ⟨⟨old, he⟩, hi, hne⟩ := st; ⟨⟨old, k e (by simp) _ he⟩, hi.at fun o q => k it (by simp) o q, hne⟩
  item := by
    intro X hP hw hK hc i pins s σ H E I hf st hg
    subst hP hw hK
    obtain ⟨⟨old, he⟩, hit, hne, hai, hae⟩ := st
    obtain ⟨xs, x, hq, hx⟩ := hg
    obtain ⟨its, rv, p, hz⟩ := I.tuple hq
    obtain ⟨u, hu, ru⟩ := rv.get hx
    have hel : e < s.heap.objs.size := Heap.lt_size he
    have hil : it < s.heap.objs.size := by obtain ⟨_, q, _⟩ := hit; exact Heap.lt_size q
    have hi : i < its.toArray.size := by
      have := (List.getElem?_eq_some_iff.mp hu).1
      simpa using this
    refine wpAny_pyNext_enum_itemD (Draws.tuple (A := X.A.in1) (I.ok.hd hc) it a hai its.toArray) he ⟨hit, p⟩ hi hne (by simp [hne, Ne.symm hae]) fun y h' tk hy ho hst hT hsz hk => ?_
    obtain rfl : u = y := by
      have : its[i]? = some y := by simpa using hy
      rw [hu] at this
      exact Option.some.inj this
    refine ⟨_, rfl, wpAny_letOwnedTupleGo_enum (s := { s with heap := h', toks := tk + 1 }) ho fun h'' he' sb => ?_⟩
    have hT2 : h''.get? s.heap.objs.size = some { cls := .type "tuple", data := .seq #[.int i tk, u] } := (sb.2 _ (Nat.ne_of_gt hel)).trans hT
    have new : ObjOk X.prog X.w (upd H s.heap.objs.size (.tup [.int (i : Nat), x])) h'' s.heap.objs.size (.tup [.int (i : Nat), x]) :=
      ⟨by show 2 ≤ sizeLine; decide, [.int i tk, u], .cons ⟨_, rfl⟩ (.cons ru .nil), ⟨_, hT2, rfl, _, rfl⟩⟩
    have I1 : Inv X pins σ (upd H s.heap.objs.size (.tup [.int (i : Nat), x])) { s with heap := h'', toks := tk + 1 } :=
      I.turnedNew (ch := [e, it]) (fun b ob hb q => (sb.2 b (fun z => hb (by simp [z]))).trans (hk b ob (fun z => hb (by simp [z])) (fun z => hb (by simp [z])) q)) hf (Nat.le_refl _) new
    refine ⟨.ref s.heap.objs.size, _, I1, rfl, ⟨_, x, rfl, I.hok.fresh (Nat.le_refl _), rfl, fun ys hy => by rw [I.tuple_inj hy hq]; exact hx⟩, ⟨⟨u, ?_⟩, hst.1.at fun o q => (sb.2 it (Ne.symm hne)).trans q, hne, hai, hae⟩, fun b hb => ?_⟩
    · have e1 : ((i + 1 : Nat) : Int) = (i : Int) + 1 := by omega
      rw [e1]; exact he'
    · have hb' : b < s.heap.objs.size := by
        have e' : b = e ∨ b = it := by simpa using hb
        rcases e' with z | z
        · rw [z]; exact hel
        · rw [z]; exact hil
      rw [upd_ne (Nat.ne_of_lt hb')]
      exact (hf b hb).1
  done := by
    intro X hP hw hK hc i pins s σ H E I hf st hg
    subst hP hw hK
    obtain ⟨⟨old, he⟩, hit, hne, hai, hae⟩ := st
    obtain ⟨xs, hq, hx⟩ := hg
    obtain ⟨its, rv, p, hz⟩ := I.tuple hq
    obtain ⟨f0, f1, f2, f3, f4, f5⟩ := hf it (by simp)
    have hl := rv.length
    have e1 : i = its.toArray.size := by simp; omega
    subst e1
    exact wpAny_pyNext_enum_endD (Draws.tuple (A := X.A.in1) (I.ok.hd hc) it a hai its.toArray) he ⟨hit, p⟩ fun h' eb => ⟨rfl, I.turned (t' := s.toks) (fun b o hb q => eb b o hb q) f0 f1 f3 f4 f5⟩
  self := fun A i s Q E st h => let ⟨⟨_, he⟩, _⟩ := st; wpAny_pyIter_enum he h
def iEnumT (K : PySem.W.Frag) (ta : TA) : TI := fun σ H R => ta σ H fun vs H1 => ∃ a xs, vs = [.ref a] ∧ SqT K H1 a xs ∧ R (IteT K a) H1
theorem pi_enumT {X : Cx} {e : Expr} {ta : TA} {p pos tpos : Pos} {elts : List Expr} {kk : Nat} (hg : Gl X "enumerate") (hm : X.mg "enumerate" = none) (ha : PA X [e] ta) (hs : starEach [e] X.env = [(false, eval e X.env)] := by rfl) :
    PI X (.Tuple elts kk tpos) (.Call (.Name "enumerate" p) [e] [] pos) (iEnumT X.K ta) := by
  refine ⟨fun pins s σ H R I h => ?_⟩
  refine Call_ (ld_blt I hg hm boot_enumerate (PyProof.Rows.callWith_type1 (thn (ha.run pos pins s σ H _ I h) fun us s1 ⟨vs, H1, I1, r1, q1⟩ => ?_) hs rfl))
  obtain ⟨a, xs, ex, hq, q⟩ := q1
  subst ex
  cases r1 with
  | cons r rr =>
    cases rr
    cases r
    obtain ⟨its, rv, p', hz⟩ := I1.tuple hq
    have hp : s1.heap.IsTuple a its.toArray := p'
    have hal : a < s1.heap.objs.size := by
      obtain ⟨o, e, _⟩ := hp
      exact Heap.lt_size e
    refine call_enumB (begins_tuple a its.toArray) hp fun h' he ho hk => wpAny_pyIter_enum he ?_
    have I2 : Inv X pins σ H1 { s1 with heap := h' } := I1.kept (t' := s1.toks) hk
    refine ⟨s1.heap.objs.size + 1, [s1.heap.objs.size + 1, s1.heap.objs.size], _, _, H1, rfl, I2, turn_enumT a (s1.heap.objs.size + 1) s1.heap.objs.size, ⟨⟨.none, he⟩, ⟨_, ho, rfl, rfl⟩, Nat.succ_ne_self _, Nat.ne_of_lt hal, Nat.ne_of_lt (Nat.lt_succ_of_lt hal)⟩, fun b hb => ?_, q⟩
    have e' : b = s1.heap.objs.size + 1 ∨ b = s1.heap.objs.size := by simpa using hb
    have hle : s1.heap.objs.size ≤ b := by
      rcases e' with z | z
      · rw [z]; exact Nat.le_add_right _ _
      · rw [z]; exact Nat.le_refl _
    exact I1.fpOk hle (I1.hok.fresh hle)
theorem walk_enumT {K : PySem.W.Frag} {a : Addr} {xs : List V} : Walk (IteT K a) xs.length (fun H => SqT K H a xs) (YPair (fun i => some (.int (i : Nat))) (fun i => xs[i]?)) := by
  refine ⟨fun i _ hi q => ⟨xs, xs[i], q, List.getElem?_eq_getElem _⟩, fun _ q => ⟨xs, q, rfl⟩, fun i H v H' _ q y => ?_⟩
  obtain ⟨T, x, h1, h2, h3, h4⟩ := y
  exact ⟨T, .int (i : Nat), x, h1, h2, h3, rfl, h4 xs q⟩
/-- x in t, x not in t: t a tuple of data -/
def rInT (K : PySem.W.Frag) : R2 := fun x y H Q => ∃ d ds, Dp K H x d ∧ Dp K H y (.tuple ds) ∧ SeqAt.shaped d = true ∧ SeqAt.shaped (.tuple ds) = true ∧ Q (.bl (ds.any fun z => PyData.eqv z d)) H
def rNotInT (K : PySem.W.Frag) : R2 := fun x y H Q => ∃ d ds, Dp K H x d ∧ Dp K H y (.tuple ds) ∧ SeqAt.shaped d = true ∧ SeqAt.shaped (.tuple ds) = true ∧ Q (.bl (!ds.any fun z => PyData.eqv z d)) H
theorem op_inT {X : Cx} (hu : X.A.units + 65 < cLine) : OpR X (compareOp .In) (rInT X.K) := fun pins s σ H x y v u Q I rx ry ⟨d, ds, hd, he, sd, se, q⟩ => by
  obtain ⟨as, r1⟩ := Dp.reads I d x v hd rx
  obtain ⟨bs, r2⟩ := Dp.reads I (.tuple ds) y u he ry
  exact SeqAt.in_tuple_reads r2 r1 (SeqAt.canLay_of_shaped se) (SeqAt.canLay_of_shaped sd) (room_in_shaped sd hu) ⟨.bl _, H, I, rfl, q⟩
theorem op_notInT {X : Cx} (hu : X.A.units + 65 < cLine) : OpR X (compareOp .NotIn) (rNotInT X.K) := fun pins s σ H x y v u Q I rx ry ⟨d, ds, hd, he, sd, se, q⟩ => by
  obtain ⟨as, r1⟩ := Dp.reads I d x v hd rx
  obtain ⟨bs, r2⟩ := Dp.reads I (.tuple ds) y u he ry
  exact SeqAt.notIn_tuple_reads r2 r1 (SeqAt.canLay_of_shaped se) (SeqAt.canLay_of_shaped sd) (room_in_shaped sd hu) ⟨.bl _, H, I, rfl, q⟩
end KT

set_option Elab.async false
set_option linter.all false
set_option maxRecDepth 100000
set_option maxHeartbeats 1000000
/-! ### pipes, all of them -/
namespace KP
open PySem PySem.Spec PyProof.Rows L2 KX KT
def distB (ds : List PyData) : Bool := (List.range ds.length).all fun i => !((ds.take i).any fun z => PyData.eqv z (ds.getD i .none))
def areP (m u : Int) (d : PyData) : Bool := decide (tyN d = "tuple") && !decide ((12 : Int) < (lenT d : Int)) && ((itms d).all (isPipe m u) && distB (itms d))
def spPipes (Ps : List Addr) : Sp := fun vs H Q _ => ∃ x d m u, vs = [x, .int m, .int u] ∧ Th H x d ∧ Tbs Ps H ∧ ∀ H', Grown Ps H H' → Q (.bl (areP m u d)) H'
theorem Th.dp {K : PySem.W.Frag} {H : Hp} {v : V} {d : PyData} (h : Th H v d) : d.hasDict = false → Dp K H v d := by
  refine Th.rec (motive_1 := fun v d _ => d.hasDict = false → Dp K H v d) (motive_2 := fun vs ds _ => PyData.hasDictAll ds = false → DpAll K H vs ds) (fun _ => .non) (fun b _ => .bl b) (fun i _ => .int i) (fun x _ => .str x)
    (fun q _ ih z => .lst (SqL.of q) (ih (by simpa [PyData.hasDict] using z))) (fun q _ ih z => .tup (SqT.of q) (ih (by simpa [PyData.hasDict] using z))) (fun q z => by simp [PyData.hasDict] at z) (fun _ => .nil) (fun _ _ a b z => ?_) h
  simp only [PyData.hasDictAll, Bool.or_eq_false_iff] at z
  exact .cons (a z.1) (b z.2)
theorem shp_data {n : Nat} {d : PyData} (z : shp n d = true) : ∃ ds, d = .tuple ds ∧ ds.length = n := by
  unfold shp at z
  rw [Bool.and_eq_true, decide_eq_true_eq, decide_eq_true_eq] at z
  cases d with
  | tuple ds => exact ⟨ds, rfl, z.2⟩
  | _ => exact absurd z.1 (by simp [tyN])
theorem isW_data {d : PyData} {lo hi : Int} (z : isW d lo hi = true) : ∃ i, d = .int i := by
  cases d with
  | int i => exact ⟨i, rfl⟩
  | _ => simp [isW] at z
/-- flat data: two signs of kinds -/
def Flat (d : PyData) : Prop := d.canLay0 = true ∧ d.depth ≤ 2 ∧ d.hasDict = false
theorem share_flat {u : Int} {d : PyData} (z : isShare u d = true) : (∃ i, d = .tuple [.str "x", .int i]) ∨ ∃ i j, d = .tuple [.int i, .int j] := by
  unfold isShare at z
  rw [Bool.and_eq_true] at z
  obtain ⟨ds, rfl, hl⟩ := shp_data z.1
  obtain ⟨a, b, rfl⟩ := len2 hl
  have z2 := z.2
  have e0 : ith 0 (.tuple [a, b]) = a := rfl
  have e1 : ith 1 (.tuple [a, b]) = b := rfl
  rw [e0, e1] at z2
  by_cases c : tyN a = "str"
  · rw [if_pos c, Bool.and_eq_true] at z2
    obtain ⟨i, rfl⟩ := isW_data z2.2
    cases a with
    | str s =>
      have e : s = "x" := of_decide_eq_true z2.1
      rw [e]
      exact .inl ⟨i, rfl⟩
    | _ => exact absurd c (by simp [tyN])
  · rw [if_neg c] at z2
    unfold isTold isR at z2
    simp only [Bool.and_eq_true] at z2
    have z3 := z2.1.2
    rw [e0, e1] at z3
    cases a with
    | int i =>
      cases b with
      | int j => exact .inr ⟨i, j, rfl⟩
      | _ => simp [ratio2] at z3
    | _ => cases b <;> simp [ratio2] at z3
theorem pipe_flat {m u : Int} {d : PyData} (z : isPipe m u d = true) : Flat d := by
  unfold isPipe at z
  rw [Bool.and_eq_true] at z
  obtain ⟨ds, rfl, hl⟩ := shp_data z.1
  obtain ⟨a, b, c, rfl⟩ := len3 hl
  have z2 := z.2
  rw [show ith 0 (.tuple [a, b, c]) = a from rfl, show ith 1 (.tuple [a, b, c]) = b from rfl, show ith 2 (.tuple [a, b, c]) = c from rfl] at z2
  simp only [Bool.and_eq_true, Bool.not_eq_true', Bool.or_eq_false_iff, Bool.not_eq_false', Bool.or_eq_true] at z2
  obtain ⟨⟨h1, h2⟩, h3⟩ := z2
  obtain ⟨i, rfl⟩ := isW_data h1
  have hb : b = .none ∨ ∃ j, b = .int j := by
    rcases h3 with h3 | h3
    · cases b with
      | none => exact .inl rfl
      | _ => simp [isNon] at h3
    · exact .inr (isW_data h3.1)
  have ok : PyData.strOk "x" = true := by decide +kernel
  rcases share_flat h2 with ⟨j, rfl⟩ | ⟨j, k, rfl⟩ <;> rcases hb with rfl | ⟨l, rfl⟩ <;>
    exact ⟨by simp [PyData.canLay0, PyData.canLayAll0, ok], by simp [PyData.depth, PyData.depthAll], by simp [PyData.hasDict, PyData.hasDictAll]⟩
theorem flat_all : ∀ {ds : List PyData}, (∀ d ∈ ds, Flat d) → PyData.canLayAll0 ds = true ∧ PyData.depthAll ds ≤ 2 ∧ PyData.hasDictAll ds = false
  | [], _ => by simp [PyData.canLayAll0, PyData.depthAll, PyData.hasDictAll]
  | d :: ds, h => by
    obtain ⟨a, b, c⟩ := h d List.mem_cons_self
    obtain ⟨a', b', c'⟩ := flat_all (ds := ds) fun e he => h e (List.mem_cons_of_mem _ he)
    refine ⟨by simp [PyData.canLayAll0, a, a'], ?_, by simp [PyData.hasDictAll, c, c']⟩
    simp only [PyData.depthAll]
    omega
theorem shaped_of {d : PyData} (a : d.canLay0 = true) (b : d.depth ≤ 64) : SeqAt.shaped d = true := by
  show (d.canLay0 && decide (d.depth ≤ 64)) = true
  rw [a, decide_eq_true b]
  rfl
theorem flat_shaped {ds : List PyData} (h : ∀ d ∈ ds, Flat d) : SeqAt.shaped (.tuple ds) = true ∧ (PyData.tuple ds).hasDict = false := by
  obtain ⟨a, b, c⟩ := flat_all h
  refine ⟨shaped_of (by simpa [PyData.canLay0] using a) ?_, by simpa [PyData.hasDict] using c⟩
  simp only [PyData.depth]
  omega
end KP

set_option Elab.async false
set_option linter.all false
set_option maxRecDepth 100000
set_option maxHeartbeats 1000000
namespace KP
open PySem PySem.Spec PyProof.Rows L2 KX KT
theorem sIx_nat0 {n i : Nat} (h : i ≤ n) (d : Nat) : HT.sIx n d (some (i : Int)) = i := by
  rw [HT.sIx_nat, Nat.min_eq_left h]
theorem cut_to {xs : List V} {i : Nat} (h : i ≤ xs.length) : cutV xs none (some (i : Int)) = xs.take i := by
  unfold cutV
  rw [sIx_nat0 h]
  rfl
theorem ThAll.take {H : Hp} : ∀ {xs : List V} {ds : List PyData} (i : Nat), ThAll H xs ds → ThAll H (xs.take i) (ds.take i)
  | _, _, 0, _ => by
    rw [List.take_zero, List.take_zero]
    exact .nil
  | _, _, _ + 1, .nil => .nil
  | _, _, i + 1, .cons a b => by
    rw [List.take_succ_cons, List.take_succ_cons]
    exact .cons a (ThAll.take i b)
section
variable {P : Program} {w : World} {K : PySem.W.Frag} {mg : Str → Option Value} {base : Heap}
end
end KP

set_option Elab.async false
set_option linter.all false
set_option maxRecDepth 100000
set_option maxHeartbeats 1000000
/-! ### is_net -/
namespace KP
open PySem PySem.Spec PyProof.Rows L2 KX KT
def netAt (a b c d e : PyData) : Bool :=
  match a, b with
  | .int m, .int u => !decide (7 < m + u) && (areP m u c && (areT m d && areT m e))
  | _, _ => false
def isNet (d : PyData) : Bool := shp 5 d && (!(!isW (ith 0 d) 1 4 || !isW (ith 1 d) 0 4) && netAt (ith 0 d) (ith 1 d) (ith 2 d) (ith 3 d) (ith 4 d))
def spNet (Ps : List Addr) : Sp := fun vs H Q _ => ∃ x d, vs = [x] ∧ Th H x d ∧ Tbs Ps H ∧ ∀ H', Grown Ps H H' → Q (.bl (isNet d)) H'
section
variable {P : Program} {w : World} {K : PySem.W.Frag} {mg : Str → Option Value} {base : Heap}
end
end KP

set_option Elab.async false
set_option linter.all false
set_option maxRecDepth 100000
set_option maxHeartbeats 1000000
/-! ### the law's own look: whole numbers -/
namespace KP
open PySem PySem.Spec PyProof.Rows L2 KX KT
abbrev lJar : Stmt := top 42
abbrev lSame : Stmt := top 41
abbrev lRight : Stmt := top 60
abbrev lLaw : Stmt := top 61
structure TxL (mg : Str → Option Value) : Prop extends TxT mg where
  isinstance : mg "isinstance" = none
  bool : mg "bool" = none
  range : mg "range" = none
  any : mg "any" = none
theorem Th.tyx {K : PySem.W.Frag} {H : Hp} {v : V} {d : PyData} (h : Th H v d) : TyX K H v (.type (tyN d)) := by
  cases h with
  | non => exact .base .non
  | bl b => exact .base (.bl b)
  | int i => exact .base (.int i)
  | str x => exact .base (.str x)
  | lst e _ => exact .base (.lst e)
  | tup' e _ => exact e.elim (fun e => .base (.tup e)) fun ⟨_, e⟩ => .fTuple e
  | emp e => exact .base (.dK e)
def isin (a n : String) : Bool := decide (a = n) || (decide (a = "bool") && decide (n = "int"))
theorem kit_all : ∀ a ∈ ["NoneType", "bool", "int", "str", "list", "tuple", "dict"], ∀ n ∈ ["int", "bool", "tuple", "str"], kitB a n = some (isin a n) := by decide +kernel
theorem tyN_mem (d : PyData) : tyN d ∈ ["NoneType", "bool", "int", "str", "list", "tuple", "dict"] := by cases d <;> simp [tyN]
section
variable {K : PySem.W.Frag} {σ : L2.St} {H : Hp}
theorem vi_isi {te : TE} {x : V} {d : PyData} {n : String} (ha : Vi te σ H x) (h : Th H x d) (hn : n ∈ ["int", "bool", "tuple", "str"]) : Vi (tCB (rIsi K) (tCons te (tCons (tC (.ty n)) tNil))) σ H (.bl (isin (tyN d) n)) :=
  vi_cb (ai_cons ha (ai_cons vi_c ai_nil)) fun Q q => ⟨_, _, _, _, _, rfl, .ty n, h.tyx, kit_ty (kit_all _ (tyN_mem d) _ hn), q⟩
theorem vi_not {ta : TE} {a : Bool} (h : Vi ta σ H (.bl a)) : Vi (tNotV ta) σ H (.bl (!a)) := fun Q q => h _ ⟨a, rfl, q⟩
end
section
variable {P : Program} {w : World} {K : PySem.W.Frag} {mg : Str → Option Value} {base : Heap}
end
end KP

set_option Elab.async false
set_option linter.all false
set_option maxRecDepth 100000
set_option maxHeartbeats 1000000
/-! ### readings behind which the heap has only grown; all([.. for x in tuple]) -/
namespace KP
open PySem PySem.Spec PyProof.Rows L2 KX KT
def Vg (t : TE) (σ : L2.St) (H : Hp) (v : V) : Prop := ∀ Q : VK, (∀ H', Same H H' → Q v H') → t σ H Q
def Tg (t : TT) (σ : L2.St) (H : Hp) (b : Bool) : Prop := ∀ Q : Bool → Hp → Prop, (∀ H', Same H H' → Q b H') → t σ H Q
section
variable {K : PySem.W.Frag} {σ : L2.St} {H : Hp}
theorem tg_of {t : TT} {b : Bool} (h : Ti t σ H b) : Tg t σ H b := fun Q q => h _ (q H (Same.refl H))
theorem vg_of {t : TE} {v : V} (h : Vi t σ H v) : Vg t σ H v := fun Q q => h _ (q H (Same.refl H))
theorem tg_or {t u : TT} {a b : Bool} (h : Tg t σ H a) (h2 : a = false → ∀ H', Same H H' → Tg u σ H' b) : Tg (tOr t u) σ H (a || b) := fun Q q => h _ fun H' s => by
  cases a with
  | true => rw [if_pos rfl]; simpa using q H' s
  | false => rw [if_neg Bool.false_ne_true]; exact h2 rfl H' s _ fun H2 s2 => by simpa using q H2 (s.trans s2)
theorem tg_not {t : TT} {a : Bool} (h : Tg t σ H a) : Tg (tNot t) σ H (!a) := fun Q q => h _ fun H' s => q H' s
theorem tg_val {te : TE} {b : Bool} (h : Vg te σ H (.bl b)) : Tg (tB te) σ H b := fun Q q => h _ fun H' s => ⟨b, rfl, q H' s⟩
theorem tg_test {te : TE} {b : Bool} (h : Vg te σ H (.bl b)) : Tg (tTest te) σ H b := fun Q q => h _ fun H' s => ⟨b, rfl, q H' s⟩
theorem g_guard {t : TT} {tz : TS} {b : Bool} {D : Ends} (h : Tg t σ H b) (h1 : b = true → ∀ H', Same H H' → D.rt (.bl false) H') (h2 : b = false → ∀ H', Same H H' → tz D σ H') : tSeq (tIfS t (tRet (tC (.bl false))) tNext) tz D σ H := h _ fun H' s => by
  cases b with
  | true => rw [if_pos rfl]; exact h1 rfl H' s
  | false => rw [if_neg Bool.false_ne_true]; exact h2 rfl H' s
theorem g_ret {te : TE} {v : V} {D : Ends} (h : Vg te σ H v) (k : ∀ H', Same H H' → D.rt v H') : tRet te D σ H := h _ k
theorem vg_and {ta tb : TE} {a b : Bool} (h : Vg ta σ H (.bl a)) (h2 : a = true → ∀ H', Same H H' → Vg tb σ H' (.bl b)) : Vg (tAndV ta tb) σ H (.bl (a && b)) := fun Q q => h _ fun H' s => ⟨a, rfl, by
  cases a with
  | true => rw [if_pos rfl]; exact h2 rfl H' s _ fun H2 s2 => by simpa using q H2 (s.trans s2)
  | false => rw [if_neg Bool.false_ne_true]; simpa using q H' s⟩
/-- all([elt for x in te]) -/
theorem vg_all {te tel : TE} {a : Addr} {j : Nat} {vs : List Nat} {xs : List V} {ds : List PyData} {pd : PyData → Bool} (h : Vi te σ H (.ref a)) (e : Rd H a (.tup xs)) (ha : ThAll H xs ds) (hl : ds.length ≤ 2000) (hw : ∀ x : V, wipe ((wipe σ vs).set j (some x)) vs = wipe σ vs)
    (he : ∀ H2 x d, Same H H2 → Th H2 x d → Vg tel ((wipe σ vs).set j (some x)) H2 (.bl (pd d))) : Vg (tCB (rAll K) (tCons (tLc (iTup K te) (gName j) tYes tel vs) tNil)) σ H (.bl (ds.all pd)) := fun Q q => by
  have hlen := all2 ha
  refine h _ ⟨a, rfl, ⟨xs, SqT.of e⟩, fun D hD => ?_⟩
  refine lc_it (walk_tup (K := K) (a := a) (xs := xs)) (fun n H' => Same H H' ∧ H' D = some (.lst ((ds.take n).map fun d => V.bl (pd d)))) ⟨same_upd hD, upd_same⟩ (fun n H' _ z => SqT.of (z.1.rd e)) ?_ ?_
  · rintro i x H' H'' hi ⟨s7, hD'⟩ ⟨rfl, hx⟩
    obtain ⟨d, hdi, hth⟩ := all_get ha hx
    refine ⟨hw x, ?_⟩
    dsimp only [tYes]
    rw [if_pos rfl]
    refine he _ x d s7 (hth.mono (Sm.same s7)) _ fun H2 s2 => ⟨_, s2 _ _ hD', ?_, fun b o eb => ?_, ?_⟩
    · rw [List.length_map, List.length_take]
      exact Nat.lt_of_le_of_lt (show min i ds.length ≤ 2000 by omega) (by decide)
    · have nb : b ≠ D := fun z => by
        rw [z, hD] at eb
        cases eb
      rw [upd_ne nb]
      exact s2 _ _ (s7 _ _ eb)
    · rw [upd_same, List.take_add_one, hdi, List.map_append]
      rfl
  · rintro H' ⟨s7, hD'⟩
    have e1 : ds.take xs.length = ds := List.take_of_length_le (by omega)
    rw [e1] at hD'
    refine ⟨D, ds.map pd, rfl, SqL.of (by rw [hD', List.map_map]; rfl), ?_⟩
    have e2 : (ds.map pd).all id = ds.all pd := by rw [List.all_map]; rfl
    rw [e2]
    exact q _ s7
end
end KP

set_option Elab.async false
set_option linter.all false
set_option maxRecDepth 100000
set_option maxHeartbeats 4000000
/-! ### the law's draws -/
namespace KJ
open PySem PySem.Spec PyProof.Rows L2 KX KP
abbrev sJar : Stmt := top 42
abbrev sDip : Stmt := top 39
abbrev sOne : Stmt := top 40

/-- a jar at j: a number to be parted, a mixed one, how often it was dipped (at most n) -/
def JarAt (H : Hp) (j : Addr) (n : Nat) : Prop := ∃ a b c : Int, H j = some (.lst [.int a, .int b, .int c]) ∧ 0 ≤ a ∧ 0 ≤ b ∧ b < 2147483477 ∧ 0 ≤ c ∧ c ≤ n
/-- all but j as it was -/
def But (j : Addr) (H H' : Hp) : Prop := ∀ b o, b ≠ j → H b = some o → H' b = some o
theorem But.trans {j : Addr} {H H1 H2 : Hp} (a : But j H H1) (b : But j H1 H2) : But j H H2 := fun c o n h => b c o n (a c o n h)
theorem But.same {j : Addr} {H H1 : Hp} (a : Same H H1) : But j H H1 := fun c o _ h => a c o h
def spJar (K : PySem.W.Frag) : Sp := fun vs H Q _ => ∃ (a : Addr) (ns : List Int) (t : Nat), vs = [.ref a, .int t] ∧ SqL K H a (ns.map V.int) ∧ ns.length ≤ 63 ∧ t ≤ 100 ∧ ∀ j H', H j = none → Same H H' → JarAt H' j 0 → Q (.ref j) H'
def spDip : Sp := fun vs H Q _ => ∃ (j : Addr) (top : Int) (n : Nat), vs = [.ref j, .int top] ∧ 0 < top ∧ top < 1000000 ∧ JarAt H j n ∧ n < 1000000 ∧ ∀ r H', 0 ≤ r → r < top → But j H H' → JarAt H' j (n + 1) → Q (.int r) H'
/-- one of some things: a list or a tuple -/
def spOne (K : PySem.W.Frag) : Sp := fun vs H Q _ => ∃ (j p : Addr) (xs : List V) (n : Nat), vs = [.ref j, .ref p] ∧ p ≠ j ∧ (H p = some (.lst xs) ∨ Rd H p (.tup xs)) ∧ xs ≠ [] ∧ xs.length < 1000000 ∧ JarAt H j n ∧ n < 1000000 ∧
  ∀ x H', x ∈ xs → But j H H' → JarAt H' j (n + 1) → Q x H'
structure TxJ (mg : Str → Option Value) : Prop where
  int : mg "int" = none
  len : mg "len" = none
  abs : mg "abs" = none
  dvm : mg "divmod" = none
section
variable {P : Program} {w : World} {K : PySem.W.Frag} {mg : Str → Option Value} {base : Heap}
theorem scJar : FnScope ["script", "turn", "mixed", "cell", "own"] ["script", "turn"] (defScope sJar) := ⟨rfl, rfl, rfl, by decide +kernel, rfl, by decide +kernel, by decide +kernel⟩
theorem ok_jar {f : Addr} {fd : FuncData} (F : Fun K "_law_jar" "_law_jar" sJar f fd) (T : TxJ mg) : FnOk P w K mg base CX0 1 f fd ["script", "turn"] (spJar K) := by
  refine F.ok scJar (fun vs H Q E h => ?_) (fun cdv A outer s H vs Q E hr h => ?_)
  · obtain ⟨a, ns, t, rfl, _⟩ := h
    rfl
  · obtain ⟨a, ns, t, rfl, hS, hn, ht, k⟩ := h
    refine ⟨_, pss_cons (ps_set (i := 2) scJar.nd rfl (Or.inl rfl) (pe_op op_add pe_int (pe_op op_mul pe_int (pv 1))))
      (pss_cons (ps_for PassesOwn.never rfl (pi_list (pe_slice sl_list (pv 0) po_none (po_some pe_int))) (pg_name (i := 3) scJar.nd rfl (Or.inl rfl))
        (pss_one (ps_set (i := 2) scJar.nd rfl (Or.inl rfl) (pe_op op_mod (pe_callTy call_int1 (by rfl) T.int (by decide +kernel) (pa_cons
          (pe_op op_add (pe_op op_add (pe_op op_mul (pv 2) pe_int) (pe_op op_mul (pe_op op_mod (pe_callTy call_int1 (by rfl) T.int (by decide +kernel) (pa_cons (pv 3) pa_nil)) pe_int) pe_int)) pe_int) pa_nil)) pe_int))))
      (Evl.pss_cut (ps_set (i := 4) scJar.nd rfl (Or.inl rfl) (pe_ifExp (pt_cmpR op_lt (pv 1) (pe_callB call_len_seq (by rfl) T.len PySem.boot_len (pa_cons (pv 0) pa_nil)) (nomark _))
          (pe_callTy call_int1 (by rfl) T.int (by decide +kernel) (pa_cons (pe_ix ix_list (pv 0) (pv 1) (fun _ _ => rfl)) pa_nil)) pe_int))
      (pss_cons (ps_set (i := 2) scJar.nd rfl (Or.inl rfl) (pe_op op_mod (pe_callTy call_int1 (by rfl) T.int (by decide +kernel) (pa_cons
          (pe_op op_add (pe_op op_add (pe_op op_mul (pv 2) pe_int) (pe_op op_mul (pe_op op_mod (pe_callTy call_int1 (by rfl) T.int (by decide +kernel) (pa_cons (pv 4) pa_nil)) pe_int) pe_int)) pe_int) pa_nil)) pe_int))
      (pss_one (ps_ret (pe_lst (pa_cons (pe_ifExp (PW.pt (pw_or (pt_cmpR op_lt (pv 4) pe_int (nomark _)) (pw_or1 (pt_cmpR op_ge (pv 4) (pe_op op_pow pe_int pe_int) (nomark _)))))
          (pe_callB call_abs (by rfl) T.abs (by decide +kernel) (pa_cons (pv 4) pa_nil)) pe_int) (pa_cons (pv 2) (pa_cons pe_int pa_nil))))))))), ?_⟩
    refine ⟨_, rfl, _, _, rfl, rfl, .inl ⟨by decide, by decide⟩, _, _, rfl, rfl, ?_⟩
    refine ⟨_, rfl, _, rfl, a, _, rfl, hS, fun p hp => ⟨p, rfl, ⟨_, SqL.of upd_same⟩, ?_⟩⟩
    have allI : ∀ x ∈ cutV (ns.map V.int) none (some 9), ∃ i, x = V.int i := fun x hx => by
      have h1 := List.mem_of_mem_drop (List.mem_of_mem_take hx)
      obtain ⟨i, _, rfl⟩ := List.mem_map.mp h1
      exact ⟨i, rfl⟩
    refine for_list (xs := cutV (ns.map V.int) none (some 9)) (fun i σ H' => ∃ (m : Int) (v : Option V), σ = [some (.ref a), some (.int t), some (.int m), v, none] ∧ 0 ≤ m ∧ m < 2147483477 ∧ Same (upd H p (.lst (cutV (ns.map V.int) none (some 9)))) H')
      ⟨_, none, rfl, by omega, by omega, Same.refl _⟩ (fun i σ H' _ ⟨_, _, _, _, _, z⟩ => SqL.of (z _ _ upd_same)) ?_ ?_
    · rintro i x σ H' hi ⟨m, v, rfl, m0, m1, sm⟩
      obtain ⟨c, rfl⟩ := allI x (List.mem_of_getElem? hi)
      have hc0 := Int.emod_nonneg c (show (2147483477 : Int) ≠ 0 by decide)
      have hc1 := Int.emod_lt_of_pos c (show (0 : Int) < 2147483477 by decide)
      refine ⟨_, rfl, _, _, rfl, rfl, .inl ⟨by omega, by omega⟩, _, rfl, .inl ⟨_, rfl, _, _, rfl, rfl, (by decide : (0 : Int) < 2147483477), _, _, rfl, rfl, .inl ⟨by omega, by omega⟩, _, _, rfl, rfl, _, _, rfl, rfl, .inl ⟨_, rfl, _, _, rfl, rfl, (by decide : (0 : Int) < 2147483477), ?_⟩⟩⟩
      exact ⟨_, _, rfl, Int.emod_nonneg _ (by decide), Int.emod_lt_of_pos _ (by decide), sm⟩
    · rintro σ H' ⟨m, v, rfl, m0, m1, sm⟩
      have sm0 : Same H H' := fun b o e => sm b o (by rw [upd_ne (ne_of_none e hp)]; exact e)
      refine ⟨fun σ' H2 => ∃ own : Int, σ' = [some (.ref a), some (.int t), some (.int m), v, some (.int own)] ∧ Same H H2, ?_, ?_⟩
      · refine ⟨_, rfl, _, rfl, a, _, rfl, .inl (sm0.seq hS), _, _, rfl, rfl, _, rfl, ?_⟩
        refine ite2 (fun c => ?_) (fun c => ⟨_, rfl, sm0⟩)
        have c' := of_decide_eq_true c
        rw [List.length_map] at c'
        have ht' : t < ns.length := by omega
        exact ⟨_, rfl, _, rfl, a, _, _, .int ns[t], rfl, rfl, sm0.seq hS, atI_nat (by rw [List.getElem?_map, List.getElem?_eq_getElem ht']; rfl), .inl ⟨_, rfl, _, rfl, sm0⟩⟩
      · rintro σ' H2 ⟨own, rfl, sm2⟩
        have o0 := Int.emod_nonneg own (show (2147483477 : Int) ≠ 0 by decide)
        have o1 := Int.emod_lt_of_pos own (show (0 : Int) < 2147483477 by decide)
        refine ⟨_, rfl, _, _, rfl, rfl, .inl ⟨by omega, by omega⟩, _, rfl, .inl ⟨_, rfl, _, _, rfl, rfl, (by decide : (0 : Int) < 2147483477), _, _, rfl, rfl, .inl ⟨by omega, by omega⟩, _, _, rfl, rfl, _, _, rfl, rfl, .inl ⟨_, rfl, _, _, rfl, rfl, (by decide : (0 : Int) < 2147483477), ?_⟩⟩⟩
        have e0 := Int.emod_nonneg (m * 43 + own % 2147483477 * 30011 + 5) (show (2147483477 : Int) ≠ 0 by decide)
        have e1 := Int.emod_lt_of_pos (m * 43 + own % 2147483477 * 30011 + 5) (show (0 : Int) < 2147483477 by decide)
        dsimp only
        generalize (m * 43 + own % 2147483477 * 30011 + 5) % 2147483477 = m2 at *
        have fin : ∀ x : Int, 0 ≤ x → ∀ j, H2 j = none → Q (.ref j) (upd H2 j (.lst [.int x, .int m2, .int 0])) := fun x hx j hj =>
          k j _ (sm2.free hj) (fun b o e => by rw [upd_ne (ne_of_none (sm2 b o e) hj)]; exact sm2 b o e) ⟨x, m2, 0, upd_same, hx, e0, e1, by decide, by decide⟩
        have l3 : ([V.int 0, .int 0, .int 0] : List V).length ≤ sizeLine := by decide
        refine ⟨_, rfl, _, _, rfl, rfl, _, rfl, ?_⟩
        refine ite2 (fun c => iteT ⟨_, rfl, _, rfl, _, rfl, l3, fin _ ?_⟩) (fun c => ⟨_, rfl, _, _, rfl, rfl, ⟨by decide, by decide, by decide⟩, _, _, rfl, rfl, _, rfl, ?_⟩)
        · split <;> omega
        · refine ite2 (fun c => ⟨_, rfl, _, rfl, _, rfl, l3, fin _ ?_⟩) (fun c => ⟨_, rfl, l3, fin _ (by decide)⟩)
          split <;> omega
theorem scDip : FnScope ["jar", "many", "figure", "stirred"] ["jar", "many"] (defScope sDip) := ⟨rfl, rfl, rfl, by decide +kernel, rfl, by decide +kernel, by decide +kernel⟩
theorem ok_dip {f : Addr} {fd : FuncData} (F : Fun K "_law_draw" "_law_draw" sDip f fd) (T : TxJ mg) : FnOk P w K mg base CX0 1 f fd ["jar", "many"] spDip := by
  refine F.ok scDip (fun vs H Q E h => ?_) (fun cdv A outer s H vs Q E hr h => ?_)
  · obtain ⟨j, t, n, rfl, _⟩ := h
    rfl
  · obtain ⟨j, t, n, rfl, t0, t1, ⟨a, b, c, hj, a0, b0, b1, c0, c1⟩, hn, k⟩ := h
    refine ⟨_, pss_cons (ps_if (pt_cmpR op_gt (pe_ix ix_list (pv 0) pe_int (fun _ _ => rfl)) pe_int (nomark _))
        (pss_cons (ps_asg (pe_callB call_divmodW (by rfl) T.dvm (by decide +kernel) (pa_cons (pe_ix ix_list (pv 0) pe_int (fun _ _ => rfl)) (pa_cons (pv 1) pa_nil)))
            (pg_tup rfl (pgs_cons (pg_sub (pv 0) pe_int set_list) (pgs_cons (pg_name (i := 2) scDip.nd rfl (Or.inl rfl)) pgs_nil))))
          (pss_one (ps_ret (pv 2)))) pss_nil)
      (pss_cons (ps_asg (pe_op op_add (pe_ix ix_list (pv 0) pe_int (fun _ _ => rfl)) pe_int) (pg_sub (pv 0) pe_int set_list))
      (pss_cons (ps_set (i := 3) scDip.nd rfl (Or.inl rfl) (pe_op op_mod (pe_callTy call_int1 (by rfl) T.int (by decide +kernel) (pa_cons
          (pe_op op_add (pe_op op_add (pe_op op_mul (pe_ix ix_list (pv 0) pe_int (fun _ _ => rfl)) pe_int) (pe_op op_mul (pe_ix ix_list (pv 0) pe_int (fun _ _ => rfl)) pe_int)) pe_int) pa_nil)) pe_int))
      (pss_cons (ps_asg (pv 3) (pg_sub (pv 0) pe_int set_list))
      (pss_one (ps_ret (pe_op op_mod (pe_callTy call_int1 (by rfl) T.int (by decide +kernel) (pa_cons (pe_op op_fdiv (pe_op op_mod (pe_callTy call_int1 (by rfl) T.int (by decide +kernel) (pa_cons
          (pe_op op_mul (pv 3) (pe_op op_add (pe_op op_mod (pe_callTy call_int1 (by rfl) T.int (by decide +kernel) (pa_cons (pv 3) pa_nil)) pe_int) pe_int)) pa_nil)) pe_int) pe_int) pa_nil)) (pv 1))))))), ?_⟩
    have at0 : ∀ x y z : Int, atI [V.int x, .int y, .int z] 0 = some (.int x) := fun _ _ _ => rfl
    have at1 : ∀ x y z : Int, atI [V.int x, .int y, .int z] 1 = some (.int y) := fun _ _ _ => rfl
    have at2 : ∀ x y z : Int, atI [V.int x, .int y, .int z] 2 = some (.int z) := fun _ _ _ => rfl
    refine ⟨_, rfl, _, _, _, _, rfl, rfl, SqL.of hj, at0 _ _ _, _, _, rfl, rfl, _, rfl, ?_⟩
    refine ite2 (fun ca => ?_) (fun ca => ?_)
    · have ha := of_decide_eq_true ca
      refine ⟨_, rfl, _, _, _, _, rfl, rfl, SqL.of hj, at0 _ _ _, _, rfl, _, _, rfl, ⟨t0, PyProof.noPylong_of_log2 ?_⟩, fun p hp => ?_⟩
      · refine PySem.Flt.log2_lt_of (by decide) (Nat.lt_of_lt_of_le (show t.natAbs < 1000000 by omega) ?_)
        exact Nat.le_trans (by decide : 1000000 ≤ 2 ^ 20) (Nat.pow_le_pow_right (by decide) (by decide))
      · have npj : j ≠ p := ne_of_none hj hp
        refine ⟨p, _, rfl, SqT.of upd_same, rfl, _, _, rfl, ⟨_, rfl, j, _, 0, 0, rfl, rfl, Eq.trans (upd_ne npj) hj, rfl, ?_⟩⟩
        refine ⟨_, _, rfl, rfl, _, rfl, k _ _ (Int.emod_nonneg _ (by omega)) (Int.emod_lt_of_pos _ t0) (fun x o nx e => ?_) ⟨a / t, b, c, upd_same, Int.ediv_nonneg a0 (by omega), b0, b1, c0, by omega⟩⟩
        rw [upd_ne nx, upd_ne (ne_of_none e hp)]
        exact e
    · refine ⟨_, rfl, _, _, _, _, rfl, rfl, SqL.of hj, at2 _ _ _, _, _, rfl, rfl, _, rfl, j, _, 2, 2, rfl, rfl, hj, rfl, ?_⟩
      have h1 : (upd H j (.lst ([V.int a, .int b, .int c].set 2 (.int (c + 1))))) j = some (.lst [.int a, .int b, .int (c + 1)]) := upd_same
      refine ⟨_, rfl, _, _, _, _, rfl, rfl, SqL.of h1, at1 _ _ _, _, _, rfl, rfl, .inl ⟨by omega, by omega⟩, _, rfl, _, _, _, _, rfl, rfl, SqL.of h1, at2 _ _ _, _, _, rfl, rfl, .inl ⟨by omega, by omega⟩, _, _, rfl, rfl, _, _, rfl, rfl, .inl ⟨_, rfl, _, _, rfl, rfl, (by decide : (0 : Int) < 2147483477), ?_⟩⟩
      have s0 := Int.emod_nonneg (b * 48271 + (c + 1) * 40009 + 3) (show (2147483477 : Int) ≠ 0 by decide)
      have s1 := Int.emod_lt_of_pos (b * 48271 + (c + 1) * 40009 + 3) (show (0 : Int) < 2147483477 by decide)
      refine ⟨_, rfl, _, rfl, j, _, 1, 1, rfl, rfl, h1, rfl, ?_⟩
      refine ⟨_, rfl, _, rfl, .inl ⟨_, rfl, _, _, rfl, rfl, (by decide : (0 : Int) < 6007), _, _, rfl, rfl, _, _, rfl, rfl, .inl ⟨by omega, by omega⟩, .inl ⟨_, rfl, _, _, rfl, rfl, (by decide : (0 : Int) < 2147483477), _, _, rfl, rfl, ⟨by decide, by decide⟩, .inl ⟨_, rfl, _, rfl, _, _, rfl, rfl, t0, ?_⟩⟩⟩⟩
      refine k _ _ (Int.emod_nonneg _ (by omega)) (Int.emod_lt_of_pos _ t0) (fun x o nx e => ?_) ⟨a, _, c + 1, upd_same, a0, s0, s1, by omega, by omega⟩
      rw [upd_ne nx, upd_ne nx]
      exact e
theorem scOne : FnScope ["jar", "some"] ["jar", "some"] (defScope sOne) := ⟨rfl, rfl, rfl, by decide +kernel, rfl, by decide +kernel, by decide +kernel⟩
theorem ok_one {f fD : Addr} {fd fdD : FuncData} (F : Fun K "_law_of" "_law_of" sOne f fd) (T : TxJ mg) (FD : FnOk P w K mg base CX0 1 fD fdD ["jar", "many"] spDip) (mD : mg "_law_draw" = some (.ref fD)) (kD : PySem.W.keepIn K (.ref fD) = true) (bD : Binds K fdD ["jar", "many"] []) :
    FnOk P w K mg base CX0 2 f fd ["jar", "some"] (spOne K) := by
  refine F.ok scOne (fun vs H Q E h => ?_) (fun cdv A outer s H vs Q E hr h => ?_)
  · obtain ⟨j, p, xs, n, rfl, _⟩ := h
    rfl
  · obtain ⟨j, p, xs, n, rfl, npj, hp, hx, hl, hj, hn, k⟩ := h
    have sq : SqL K H p xs ∨ SqT K H p xs := hp.elim (fun z => .inl (SqL.of z)) (fun z => .inr (.inl z))
    refine ⟨_, pss_one (ps_ret (pe_ix ix_seq (pv 1) (pe_call FD hr rfl mD kD bD .nil pass0 (pa_cons (pv 0) (pa_cons (pe_callB call_len_seq (by rfl) T.len PySem.boot_len (pa_cons (pv 1) pa_nil)) pa_nil))) (fun _ _ => rfl))), ?_⟩
    refine ⟨_, rfl, _, rfl, _, rfl, p, xs, rfl, sq, j, _, n, rfl, ?_, ?_, hj, hn, fun r H' r0 r1 bt hj' => ?_⟩
    · have := List.length_pos_iff.mpr hx
      omega
    · omega
    · obtain ⟨i, rfl⟩ := Int.eq_ofNat_of_zero_le r0
      have hi : i < xs.length := by omega
      have ha : atI xs ((i : Nat) : Int) = some xs[i] := atI_nat (List.getElem?_eq_getElem hi)
      have kk := k xs[i] H' (List.getElem_mem hi) bt hj'
      rcases hp with z | z
      · exact .inl ⟨p, _, _, _, rfl, rfl, SqL.of (bt _ _ npj z), ha, kk⟩
      · exact .inr (.inl ⟨p, _, _, _, rfl, rfl, z.elim (fun z => .inl (.inl (bt _ _ npj z))) (fun ⟨o, z⟩ => .inl (.inr ⟨o, bt _ _ npj z⟩)), ha, kk⟩)
end
end KJ

set_option Elab.async false
set_option linter.all false
set_option maxRecDepth 100000
set_option maxHeartbeats 1000000
/-! ### written data, beside a jar; drawn told fractions -/
namespace KP
open PySem PySem.Spec PyProof.Rows L2 KX KT KJ
/-- the heap without the jar -/
def hid (j : Addr) (H : Hp) : Hp := fun b => if b = j then none else H b
theorem hid_ne {j b : Addr} {H : Hp} (h : b ≠ j) : hid j H b = H b := if_neg h
theorem hid_same (j : Addr) (H : Hp) : Same (hid j H) H := fun b o e => by
  by_cases c : b = j
  · rw [c] at e
    have : hid j H j = none := if_pos rfl
    rw [this] at e
    cases e
  · rw [hid_ne c] at e
    exact e
theorem hid_but {j : Addr} {H H' : Hp} (h : KJ.But j H H') : Same (hid j H) (hid j H') := fun b o e => by
  by_cases c : b = j
  · rw [c] at e
    have : hid j H j = none := if_pos rfl
    rw [this] at e
    cases e
  · rw [hid_ne c] at e ⊢
    exact h b o c e
theorem Thj.but {j : Addr} {H H' : Hp} {v : V} {d : PyData} (h : Th (hid j H) v d) (b : KJ.But j H H') : Th (hid j H') v d := h.mono (Sm.same (hid_but b))
theorem Thj.same {j : Addr} {H H' : Hp} {v : V} {d : PyData} (h : Th (hid j H) v d) (b : Same H H') : Th (hid j H') v d := Thj.but h (KJ.But.same b)
theorem ThAllj.same {j : Addr} {H H' : Hp} {v : List V} {d : List PyData} (h : ThAll (hid j H) v d) (b : Same H H') : ThAll (hid j H') v d := ThAll.mono (Sm.same (hid_but (KJ.But.same b))) h
theorem Thj.th {j : Addr} {H : Hp} {v : V} {d : PyData} (h : Th (hid j H) v d) : Th H v d := h.mono (Sm.same (hid_same j H))
/-- a written datum -/
def Lit (j : Addr) (t : TE) (σ : L2.St) (d : PyData) : Prop := ∀ H Q, H j ≠ none → (∀ v H', Same H H' → Th (hid j H') v d → Q v H') → t σ H Q
def LitA (j : Addr) (t : TA) (σ : L2.St) (ds : List PyData) : Prop := ∀ (H : Hp) (Q : List V → Hp → Prop), H j ≠ none → (∀ vs H', Same H H' → ThAll (hid j H') vs ds → Q vs H') → t σ H Q
section
variable {j : Addr} {σ : L2.St}
theorem same_ne {H H' : Hp} (h : Same H H') (e : H j ≠ none) : H' j ≠ none := by
  cases c : H j with
  | none => exact absurd c e
  | some o =>
    rw [h j o c]
    simp
theorem lit_int {i : Int} : Lit j (tC (.int i)) σ (.int i) := fun H Q _ q => q _ _ (Same.refl H) (.int i)
theorem lit_str {x : Str} : Lit j (tC (.str x)) σ (.str x) := fun H Q _ q => q _ _ (Same.refl H) (.str x)
theorem lit_bl {b : Bool} : Lit j (tC (.bl b)) σ (.bool b) := fun H Q _ q => q _ _ (Same.refl H) (.bl b)
theorem lit_non : Lit j (tC .non) σ .none := fun H Q _ q => q _ _ (Same.refl H) .non
theorem lit_neg {i : Int} : Lit j (tUn (rU fun i => .int (-i)) (tC (.int i))) σ (.int (-i)) := fun H Q _ q => ⟨i, rfl, q _ _ (Same.refl H) (.int (-i))⟩
theorem litA_nil : LitA j tNil σ [] := fun H Q _ q => q _ _ (Same.refl H) .nil
theorem litA_cons {te : TE} {ta : TA} {d : PyData} {ds : List PyData} (h : Lit j te σ d) (h2 : LitA j ta σ ds) : LitA j (tCons te ta) σ (d :: ds) := fun H Q n q =>
  h H _ n fun v H1 s1 t1 => h2 H1 _ (same_ne s1 n) fun vs H2 s2 t2 => q _ _ (s1.trans s2) (.cons (Thj.same t1 s2) t2)
theorem new_ne {H : Hp} {p : Addr} (hp : H p = none) (n : H j ≠ none) : p ≠ j := fun z => n (by rw [← z]; exact hp)
theorem lit_tup {ta : TA} {ds : List PyData} (h : LitA j ta σ ds) (hl : ds.length ≤ 1000) : Lit j (tTup ta) σ (.tuple ds) := fun H Q n q =>
  h H _ n fun vs H1 s1 t1 => ⟨Nat.le_trans (by rw [all2 t1]; exact hl) (by decide), fun p hp => by
    have sp := same_upd (o := .tup vs) hp
    have np := new_ne hp (same_ne s1 n)
    exact q _ _ (s1.trans sp) (.tup (by rw [hid_ne np]; exact upd_same) (ThAllj.same t1 sp))⟩
theorem lit_lst {ta : TA} {ds : List PyData} (h : LitA j ta σ ds) (hl : ds.length ≤ 1000) : Lit j (tLst ta) σ (.list ds) := fun H Q n q =>
  h H _ n fun vs H1 s1 t1 => ⟨Nat.le_trans (by rw [all2 t1]; exact hl) (by decide), fun p hp => by
    have sp := same_upd (o := .lst vs) hp
    have np := new_ne hp (same_ne s1 n)
    exact q _ _ (s1.trans sp) (.lst (by rw [hid_ne np]; exact upd_same) (ThAllj.same t1 sp))⟩
theorem lit_emp : Lit j tDNewK σ (.dict []) := fun H Q n q p hp => by
  have sp := same_upd (o := .dK []) hp
  have np := new_ne hp n
  exact q _ _ sp (.emp (by rw [hid_ne np]; exact upd_same))
theorem all_mem {H : Hp} : ∀ {xs : List V} {ds : List PyData} {x : V}, ThAll H xs ds → x ∈ xs → ∃ d ∈ ds, Th H x d
  | _ :: _, _ :: _, x, .cons a b, h => by
    rcases List.mem_cons.mp h with e | h
    · rw [e]
      exact ⟨_, List.mem_cons_self, a⟩
    · obtain ⟨d, hd, t⟩ := all_mem b h
      exact ⟨d, List.mem_cons_of_mem _ hd, t⟩
/-- one of a written list (or tuple) -/
theorem one_of {H : Hp} {Q : VK} {E : XK} {p : Addr} {d : PyData} {ds : List PyData} {n : Nat} {K : PySem.W.Frag} (t : Th (hid j H) (.ref p) d) (hd : d = .list ds ∨ d = .tuple ds) (h0 : ds ≠ []) (hl : ds.length ≤ 1000) (hj : JarAt H j n) (hn : n < 1000000)
    (k : ∀ x e H', e ∈ ds → Th (hid j H') x e → KJ.But j H H' → JarAt H' j (n + 1) → Q x H') : spOne K [.ref j, .ref p] H Q E := by
  have fin : ∀ xs : List V, ThAll (hid j H) xs ds → (H p = some (.lst xs) ∨ Rd H p (.tup xs)) → p ≠ j → spOne K [.ref j, .ref p] H Q E := fun xs ta hp np =>
    ⟨j, p, xs, n, rfl, np, hp, fun z => by
      have := all2 ta
      rw [z] at this
      exact h0 (List.length_eq_zero_iff.mp this.symm), by rw [all2 ta]; exact Nat.lt_of_le_of_lt hl (by decide), hj, hn, fun x H' hx b jr => by
      obtain ⟨e, he, te⟩ := all_mem ta hx
      exact k x e H' he (Thj.but te b) b jr⟩
  have np : ∀ {u : HO}, hid j H p = some u → p ≠ j ∧ H p = some u := fun {u} e => by
    refine ⟨fun z => ?_, hid_same j H _ _ e⟩
    rw [z, show hid j H j = none from if_pos rfl] at e
    cases e
  rcases hd with rfl | rfl
  · cases t with
    | lst e ta => exact fin _ ta (.inl (np e).2) (np e).1
  · cases t with
    | tup' e ta => exact fin _ ta (.inr ((hid_same j H).rd e)) (e.elim (fun e => (np e).1) fun ⟨_, e⟩ => (np e).1)
end
theorem jar_ne {H : Hp} {j : Addr} {n : Nat} (h : JarAt H j n) : H j ≠ none := by
  obtain ⟨a, b, c, e, _⟩ := h
  rw [e]
  simp
theorem jar_same {H H' : Hp} {j : Addr} {n : Nat} (h : JarAt H j n) (s : Same H H') : JarAt H' j n := by
  obtain ⟨a, b, c, e, r⟩ := h
  exact ⟨a, b, c, s _ _ e, r⟩
theorem jar_more {H : Hp} {j : Addr} {n m : Nat} (h : JarAt H j n) (hm : n ≤ m) : JarAt H j m := by
  obtain ⟨a, b, c, e, r0, r1, r2, r3, r4⟩ := h
  exact ⟨a, b, c, e, r0, r1, r2, r3, by omega⟩
end KP

set_option Elab.async false
set_option linter.all false
set_option maxRecDepth 100000
set_option maxHeartbeats 1000000
/-! ### readings that make data out of names; how wide data are -/
namespace KP
open PySem PySem.Spec PyProof.Rows L2 KX KT KJ
theorem ThAll.append {H : Hp} : ∀ {xs ys : List V} {ds es : List PyData}, ThAll H xs ds → ThAll H ys es → ThAll H (xs ++ ys) (ds ++ es)
  | _, _, _, _, .nil, b => b
  | _, _, _, _, .cons a t, b => .cons a (ThAll.append t b)
mutual
/-- the greatest length of a tuple or list within -/
def wid : PyData → Nat
  | .tuple ds => max ds.length (widAll ds)
  | .list ds => max ds.length (widAll ds)
  | _ => 0
def widAll : List PyData → Nat
  | [] => 0
  | d :: ds => max (wid d) (widAll ds)
end
theorem widAll_le {n : Nat} : ∀ {ds : List PyData}, (∀ d ∈ ds, wid d ≤ n) → widAll ds ≤ n
  | [], _ => by simp [widAll]
  | d :: ds, h => by
    simp only [widAll]
    have h1 := h d List.mem_cons_self
    have h2 := widAll_le (ds := ds) fun e he => h e (List.mem_cons_of_mem _ he)
    omega
theorem le_widAll : ∀ {ds : List PyData} {d : PyData}, d ∈ ds → wid d ≤ widAll ds
  | e :: ds, d, h => by
    simp only [widAll]
    rcases List.mem_cons.mp h with rfl | h
    · omega
    · have := le_widAll h
      omega
theorem wid_tup {n : Nat} {ds : List PyData} (hl : ds.length ≤ n) (h : ∀ d ∈ ds, wid d ≤ n) : wid (.tuple ds) ≤ n := by
  simp only [wid]
  have := widAll_le h
  omega
theorem wid_lst {n : Nat} {ds : List PyData} (hl : ds.length ≤ n) (h : ∀ d ∈ ds, wid d ≤ n) : wid (.list ds) ≤ n := by
  simp only [wid]
  have := widAll_le h
  omega
theorem wid_mem {ds : List PyData} {d : PyData} (h : d ∈ ds) : wid d ≤ wid (.tuple ds) := by
  simp only [wid]
  have := le_widAll h
  omega
theorem wid_len {ds : List PyData} : ds.length ≤ wid (.tuple ds) := by
  simp only [wid]
  omega
theorem wid_ith {d : PyData} {i : Nat} : wid (ith i d) ≤ wid d := by
  cases d with
  | tuple ds =>
    show wid (ds.getD i .none) ≤ _
    rw [List.getD_eq_getElem?_getD]
    cases e : ds[i]? with
    | none => simp [wid]
    | some a => exact wid_mem (List.mem_of_getElem? e)
  | _ => simp [ith, wid]
theorem lenT_wid {d : PyData} : lenT d ≤ wid d := by
  cases d with
  | tuple ds => exact wid_len
  | _ => simp [lenT]
/-- e makes the datum d, in heaps that have grown from H -/
def Mk (j : Addr) (t : TE) (σ : L2.St) (H : Hp) (d : PyData) : Prop := ∀ H1, Same H H1 → ∀ Q : VK, (∀ v H', Same H1 H' → Th (hid j H') v d → Q v H') → t σ H1 Q
def MkA (j : Addr) (t : TA) (σ : L2.St) (H : Hp) (ds : List PyData) : Prop := ∀ H1, Same H H1 → ∀ Q : List V → Hp → Prop, (∀ vs H', Same H1 H' → ThAll (hid j H') vs ds → Q vs H') → t σ H1 Q
section
variable {j : Addr} {σ : L2.St} {H : Hp}
theorem mk_lit {t : TE} {d : PyData} (hj : H j ≠ none) (h : Lit j t σ d) : Mk j t σ H d := fun H1 s Q q => h H1 Q (same_ne s hj) q
theorem mk_var {i : Nat} {v : V} {d : PyData} (h : σ[i]? = some (some v)) (t : Th (hid j H) v d) : Mk j (tVar i) σ H d := fun H1 s Q q => ⟨v, h, q v H1 (Same.refl H1) (Thj.same t s)⟩
theorem mkA_nil : MkA j tNil σ H [] := fun H1 s Q q => q _ _ (Same.refl H1) .nil
theorem mkA_cons {te : TE} {ta : TA} {d : PyData} {ds : List PyData} (h : Mk j te σ H d) (h2 : MkA j ta σ H ds) : MkA j (tCons te ta) σ H (d :: ds) := fun H1 s Q q =>
  h H1 s _ fun v H2 s2 t2 => h2 H2 (s.trans s2) _ fun vs H3 s3 t3 => q _ _ (s2.trans s3) (.cons (Thj.same t2 s3) t3)
theorem mk_tup {ta : TA} {ds : List PyData} (hj : H j ≠ none) (h : MkA j ta σ H ds) (hl : ds.length ≤ 1000) : Mk j (tTup ta) σ H (.tuple ds) := fun H1 s Q q =>
  h H1 s _ fun vs H2 s2 t2 => ⟨Nat.le_trans (by rw [all2 t2]; exact hl) (by decide), fun p hp => by
    have sp := same_upd (o := .tup vs) hp
    have np := new_ne hp (same_ne (s.trans s2) hj)
    exact q _ _ (s2.trans sp) (.tup (by rw [hid_ne np]; exact upd_same) (ThAllj.same t2 sp))⟩
theorem mk_catA {K : PySem.W.Frag} {ta tb : TE} {ds es : List PyData} (hj : H j ≠ none) (h1 : Mk j ta σ H (.tuple ds)) (h2 : Mk j tb σ H (.tuple es)) (hl : ds.length + es.length ≤ 1000) : Mk j (tOp (rCatA K) ta tb) σ H (.tuple (ds ++ es)) := fun H1 s Q q =>
  h1 H1 s _ fun v H2 s2 t2 => h2 H2 (s.trans s2) _ fun u H3 s3 t3 => by
    have t2' := Thj.same t2 s3
    have s23 := s2.trans s3
    cases t2' with
    | @tup' a xs _ e1 ta1 =>
      have t3' := t3
      cases t3 with
      | @tup' b ys _ e2 ta2 =>
        refine ⟨a, b, xs, ys, rfl, rfl, SqT.of ((hid_same j H3).rd e1), SqT.of ((hid_same j H3).rd e2), Nat.le_trans (by rw [all2 ta1, all2 ta2]; exact hl) (by decide), fun z => ?_, fun _ z => ?_, fun _ _ p hp => ?_⟩
        · subst z
          cases ta1
          exact q _ _ s23 t3'
        · subst z
          cases ta2
          rw [List.append_nil] at q
          exact q _ _ s23 (.tup' e1 ta1)
        · have sp := same_upd (o := .tup (xs ++ ys)) hp
          have np := new_ne hp (same_ne (s.trans s23) hj)
          exact q _ _ (s23.trans sp) (.tup (by rw [hid_ne np]; exact upd_same) (ThAllj.same (ThAll.append ta1 ta2) sp))
theorem mk_ret {te : TE} {D : Ends} {d : PyData} (h : Mk j te σ H d) (k : ∀ v H', Same H H' → Th (hid j H') v d → D.rt v H') : tRet te D σ H := h H (Same.refl H) _ k
end
end KP

set_option Elab.async false
set_option linter.all false
set_option maxRecDepth 100000
set_option maxHeartbeats 1000000
/-! ### slices -/
namespace KP
open PySem PySem.Spec PyProof.Rows L2 KX KT KJ
def cutD (ds : List PyData) (lo hi : Option Int) : List PyData := (ds.drop (HT.sIx ds.length 0 lo)).take (HT.sIx ds.length ds.length hi - HT.sIx ds.length 0 lo)
theorem ThAll.drop {H : Hp} : ∀ {xs : List V} {ds : List PyData} (i : Nat), ThAll H xs ds → ThAll H (xs.drop i) (ds.drop i)
  | _, _, 0, h => h
  | _, _, _ + 1, .nil => .nil
  | _, _, i + 1, .cons a b => ThAll.drop i b
theorem ThAll.cut {H : Hp} {xs : List V} {ds : List PyData} (h : ThAll H xs ds) (lo hi : Option Int) : ThAll H (cutV xs lo hi) (cutD ds lo hi) := by
  unfold cutV cutD
  rw [all2 h]
  exact (h.drop _).take _
theorem cutD_mem {ds : List PyData} {lo hi : Option Int} {d : PyData} (h : d ∈ cutD ds lo hi) : d ∈ ds := List.mem_of_mem_drop (List.mem_of_mem_take h)
theorem cutD_len {ds : List PyData} {lo hi : Option Int} : (cutD ds lo hi).length ≤ ds.length := by
  unfold cutD
  rw [List.length_take, List.length_drop]
  omega
theorem cutD_to {ds : List PyData} {k : Nat} : (cutD ds none (some (k : Int))).length ≤ k := by
  unfold cutD
  rw [HT.sIx_nat, List.length_take]
  omega
section
variable {j : Addr} {σ : L2.St} {H : Hp}
theorem mk_slice {K : PySem.W.Frag} {te : TE} {tl th : TO} {lo hi : Option Int} {ds : List PyData} (hj : H j ≠ none) (h : Mk j te σ H (.tuple ds)) (hl : ∀ H1 Q, Q lo H1 → tl σ H1 Q) (hh : ∀ H1 Q, Q hi H1 → th σ H1 Q) : Mk j (tSl (rSlA K) te tl th) σ H (.tuple (cutD ds lo hi)) := fun H1 s Q q =>
  h H1 s _ fun v H2 s2 t2 => hl _ _ (hh _ _ (by
    have t2' := t2
    cases t2 with
    | @tup' a xs _ e1 ta1 =>
      refine ⟨a, xs, rfl, SqT.of ((hid_same j H2).rd e1), fun z => ?_, fun _ p hp => ?_⟩
      · have e : cutD ds lo hi = ds := by
          unfold cutD
          rw [all2 ta1] at z
          rw [z.1, z.2]
          simp
        rw [e] at q
        exact q _ _ s2 t2'
      · have sp := same_upd (o := .tup (cutV xs lo hi)) hp
        have np := new_ne hp (same_ne (s.trans s2) hj)
        exact q _ _ (s2.trans sp) (.tup (by rw [hid_ne np]; exact upd_same) (ThAllj.same (ta1.cut lo hi) sp))))
theorem p_none {H1 : Hp} {Q : Option Int → Hp → Prop} (q : Q none H1) : tNoPart σ H1 Q := q
theorem p_int {te : TE} {i : Int} (h : ∀ H1, Vi te σ H1 (.int i)) {H1 : Hp} {Q : Option Int → Hp → Prop} (q : Q (some i) H1) : tPart te σ H1 Q := h H1 _ ⟨i, rfl, q⟩
end
end KP

set_option Elab.async false
set_option linter.all false
set_option maxRecDepth 100000
set_option maxHeartbeats 2000000
/-! ### more that makes data -/
namespace KP
open PySem PySem.Spec PyProof.Rows L2 KX KT KJ
section
variable {j : Addr} {σ : L2.St} {H : Hp}
theorem mk_vi {t : TE} {i : Int} (h : ∀ H1, Vi t σ H1 (.int i)) : Mk j t σ H (.int i) := fun H1 s Q q => h H1 _ (q _ _ (Same.refl H1) (.int i))
theorem thAll_ints {H : Hp} : ∀ l : List Int, ThAll H (l.map V.int) (l.map PyData.int)
  | [] => .nil
  | i :: l => .cons (.int i) (thAll_ints l)
theorem mk_rg {ta : TE} {n : Int} (hj : H j ≠ none) (h : ∀ H1, Vi ta σ H1 (.int n)) (h0 : 0 ≤ n) (h1 : n ≤ 1000) : Mk j (tTupRg (tRg1 ta)) σ H (.tuple (((List.range (n - 0).toNat).map fun i => (0 : Int) + (i : Nat)).map PyData.int)) := fun H1 s Q q => h H1 _
  ⟨n, rfl, RgOk.of_le (by decide) (by omega) (by decide) h0, fun p hp => by
    have sp := same_upd (o := .tup (rgV 0 n)) hp
    have np := new_ne hp (same_ne s hj)
    refine q _ _ sp (.tup (by rw [hid_ne np]; exact upd_same) ?_)
    have e : rgV 0 n = ((List.range (n - 0).toNat).map fun i => (0 : Int) + (i : Nat)).map V.int := by
      unfold rgV
      rw [List.map_map]
      rfl
    rw [e]
    exact thAll_ints _⟩
theorem mk_if {c : TT} {ta tb : TE} {b : Bool} {d e : PyData} (h : ∀ H1, Ti c σ H1 b) (h1 : Mk j ta σ H d) (h2 : Mk j tb σ H e) : Mk j (tIf c ta tb) σ H (if b = true then d else e) := fun H1 s Q q => h H1 _ (by
  cases b with
  | true => exact h1 H1 s Q q
  | false => exact h2 H1 s Q q)
end
end KP

set_option Elab.async false
set_option linter.all false
set_option maxRecDepth 100000
set_option maxHeartbeats 4000000
/-! ### set(a list of ints); t[::-1] of a tuple -/
namespace KS
open PySem PySem.Spec PyProof.Rows L2
section
variable {P : Program} {w : World} {A : Around} {E : Value → Shared → Prop} {s : Shared}
/-- a set object with nothing in it -/
abbrev eSet (w : World) : Obj := { cls := .type "set", dict := none, data := .set #[] 0 (.fresh 0 0 (!w.params.followText "set-order")) }
abbrev Grew (h h' : Heap) : Prop := ∀ b o, h.get? b = some o → h'.get? b = some o
/-- what set.__init__ leaves -/
abbrev Made (w : World) (ns : List Int) (s : Shared) (r : Value) (z : Shared) : Prop :=
  r = .none ∧ ∃ g t n, z = { s with heap := g, toks := t } ∧ SetR w g s.heap.objs.size (fun j => decide (j ∈ ns)) n ∧ n ≤ ns.length ∧ Grew s.heap g
set_option maxHeartbeats 8000000 in
theorem set_of_list {a : Addr} {us : Array Value} (ns : List Int) {Q : Value → Shared → Prop} (hn : A.handled = none) (la : s.heap.IsList a us) (iu : IntsAre us.toList ns) (few : ns.length + 1 < scanBound)
    (q : ∀ (g : Heap) (t n : Nat), SetR w g s.heap.objs.size (fun j => decide (j ∈ ns)) n → n ≤ ns.length → Grew s.heap g → Q (.ref s.heap.objs.size) { s with heap := g, toks := t }) :
    wpAny (model P w) A (call (.type "set") [.ref a]) Q E s := by
  have us_len : us.size = ns.length := (Array.length_toList (xs := us)).symm.trans iu.length
  obtain ⟨_, _, hmro⟩ := F.called_set.mro
  have m0 := F.called_set.made
  have m1 := F.called_set.sub
  refine wpAny_call (codeAny_of_tree ?_)
  show wpAny _ _ (callAny (.type "set") _) _ _ _
  refine wpAny_pure ⟨Code.quiet_builtin _ (by decide +kernel), codeAny_builtin F.entry_type_call ?_⟩
  rw [Around.under_plain (weight_type_call_type "set" [.ref a] []) rfl]
  have m2 := F.called_set.notType
  have m3 := F.called_set.canCreate
  have m4 := F.typeCall_set_1 (.ref a)
  repeat (any_goals (first | assumption | wp_step))
  refine codeAny_mono (code_set_led1 (.ref a) (E := E) (Q₁ := fun x z => x = .ref s.heap.objs.size ∧ z = { s with heap := s.heap.push (eSet w) }) ⟨rfl, rfl⟩) fun r s₁ hr => ?_
  rcases r with e | (_ | _ | _ | x)
  · exact hr
  · exact hr.elim
  · exact hr.elim
  · exact hr.elim
  obtain ⟨rfl, rfl⟩ := hr
  have gS : (s.heap.push (eSet w)).get? s.heap.objs.size = some (eSet w) := Heap.get?_push_size _ rfl
  have tS : Shared.TypeIs { s with heap := s.heap.push (eSet w) } (.ref s.heap.objs.size) "set" := ⟨_, gS, rfl⟩
  have m5 := F.called_set.init.lookup
  have m6 := F.called_set.init.bind (.ref s.heap.objs.size)
  repeat (any_goals (first | assumption | wp_step))
  refine codeAny_mono (codeAny_call_builtin (R := wants (Made w ns s) E) F.called_set.init.plain F.entry_set_init (check_set_init_1 tS ?_)) fun r2 s2 hr2 => ?_
  · obtain ⟨⟨lc, ld, lda, lsl⟩, gl, lcls, nl, ldat⟩ := la
    simp only at lcls ldat
    subst lcls; subst ldat
    have gl1 : (s.heap.push (eSet w)).get? a = some { cls := .type "list", dict := ld, data := .seq us nl, slots := lsl } := Heap.get?_push_of_some _ gl
    have f1 := F.sub_list_set
    have f2 := F.sub_list_frozenset
    have f3 : (Value.type "list" == Value.type "dict") = false := by decide
    have la1 : (s.heap.push (eSet w)).IsList a us := ⟨_, gl1, rfl, nl, rfl⟩
    unfold Builtin.«set.__init__» noKeywords Builtin.Frozenset.updateFrom
    generalize kept : pyIter = it
    wp_walk
    subst kept
    refine wpAny_pyIter_list la1 (wpAny_bind (wpAny_runValue ?_))
    have lt : a < s.heap.objs.size := Heap.lt_size gl
    have sz : (s.heap.push (eSet w)).objs.size = s.heap.objs.size + 1 := Heap.size_push ..
    have n1 : a ≠ (s.heap.push (eSet w)).objs.size := by rw [sz]; exact Nat.ne_of_lt (Nat.lt_succ_of_lt lt)
    have n2 : s.heap.objs.size ∉ [(s.heap.push (eSet w)).objs.size, a] := by
      rw [sz]
      simp only [List.mem_cons, List.not_mem_nil, or_false, not_or]
      exact ⟨Nat.ne_of_lt (Nat.lt_succ_self _), Nat.ne_of_gt lt⟩
    have at' : ∀ (i : Nat) (v : Value), us[i]? = some v → ∃ k t, ns[i]? = some k ∧ v = .int k t := fun i v hv => by
      have hi : i < ns.length := by rw [← us_len]; exact (Array.getElem?_eq_some_iff.mp hv).1
      obtain ⟨t, e⟩ := IntsAre.int_at iu i v (by rw [Array.getElem?_toList]; exact hv)
      refine ⟨ns[i], t, List.getElem?_eq_getElem hi, e.trans ?_⟩
      rw [List.getD_eq_getElem?_getD, List.getElem?_eq_getElem hi] <;> rfl
    refine set_update_ints ((Walks.list (by simp [hn]) _ a n1 us).toS) s.heap.objs.size n2 ns us_len few at' (us.size - 0) 0 _ (by omega) (Nat.zero_le _)
      ⟨⟨_, Heap.get?_push_size _ rfl, rfl, rfl⟩, (la1.push _)⟩ ⟨0, Nat.le_refl 0, setR_new_at (Heap.get?_push_of_some _ gS)⟩ fun z n mv hz hR => ?_
    obtain ⟨g, gg, dd, tk, oo⟩ := z
    obtain rfl : gg = s.gens := mv.gens
    obtain rfl : dd = s.drawn := mv.drawn
    obtain rfl : oo = s.os := mv.os
    refine wpAny_pure ?_
    show wpAny _ _ (ret Value.none) _ _ _
    rw [us_len] at hz
    refine wpAny_pure ⟨rfl, g, tk, n, rfl, hR, hz, fun b o e => mv.heap b o ?_ (Heap.get?_push_of_some _ (Heap.get?_push_of_some _ e))⟩
    have hb : b < s.heap.objs.size := Heap.lt_size e
    simp only [List.mem_cons, List.not_mem_nil, or_false, not_or]
    exact ⟨Nat.ne_of_lt hb, by rw [sz]; exact Nat.ne_of_lt (Nat.lt_succ_of_lt hb)⟩
  · rcases r2 with e | (_ | _ | _ | x)
    · exact hr2
    · exact hr2.elim
    · exact hr2.elim
    · exact hr2.elim
    obtain ⟨rfl, g, tk, n, rfl, hR, hz, gr⟩ := hr2
    repeat (any_goals (first | assumption | wp_step))
    exact q _ _ _ hR hz gr
end
section
variable {X : Cx}
/-- set(xs), xs a list of ints -/
def rSetL (K : PySem.W.Frag) (w : World) : List V → Hp → VK → Prop := fun vs H Q => ∃ (a : Addr) (ns : List Int), vs = [.ref a] ∧ SqL K H a (ns.map V.int) ∧ ns.length ≤ 1000 ∧
  ∀ p n, H p = none → n ≤ ns.length → Q (.ref p) (upd H p (SetO w p (fun j => decide (j ∈ ns)) n))
theorem cr_setL (hc : X.calm = true) : CallR X (.type "set") (rSetL X.K X.w) := by
  intro pins s σ H vs us Q I r h
  obtain ⟨a, ns, rfl, hs, hl, q⟩ := h
  rw [Vals.ref1 r]
  obtain ⟨its, rv, pl, hz⟩ := I.list hs
  refine set_of_list ns (I.ok.hd hc) pl.isList (by simpa using intsAre_of rv) (by unfold scanBound; omega) fun g t n R hn gr => ?_
  exact ⟨.ref _, upd H s.heap.objs.size (SetO X.w s.heap.objs.size (fun j => decide (j ∈ ns)) n), I.laid (t' := t) (fun b u e => gr b u e) (Nat.le_refl _) (setO_new R), rfl, q _ _ (I.hok.fresh (Nat.le_refl _)) hn⟩
end

/-! ### t[::-1] -/
section
variable {prog : Program} {w : World} {A : Around} {E : Value → Shared → Prop} {s : Shared}
open HT
theorem adj_rev (n : Nat) : Builtin.Slice.sliceAdjust none none (-1) (n : Int) = ((n : Int) - 1, -1) := by
  unfold Builtin.Slice.sliceAdjust
  simp
theorem places_rev (n : Nat) : Builtin.Slice.slicePlaces ((n : Int) - 1) (-1) (-1) = n := by
  unfold Builtin.Slice.slicePlaces
  have h1 : ¬ ((-1 : Int) > 0) := by omega
  rw [if_neg h1]
  split
  · rw [show (- -1 : Int) = 1 by decide, Int.ediv_one]
    omega
  · omega
theorem applied_rev {sl : Addr} {n : Nat} {u : Tok} {Q : Int × Int × Nat → Shared → Prop} (hs : s.heap.IsSliceOf sl .none .none (.int (-1) u)) (h : Q ((n : Int) - 1, -1, n) s) :
    wpAny (model prog w) A (Builtin.Slice.sliceApplied (.ref sl) (pure (n : Int))) Q E s := by
  obtain ⟨so, hso, _, hf⟩ := id hs
  unfold Builtin.Slice.sliceApplied Builtin.Slice.sliceFields
  refine wpAny_bind (wpAny_bind (wpAny_field hso hf (x := .none) rfl (wpAny_bind (wpAny_field hso hf (x := .none) rfl (wpAny_bind (wpAny_field hso hf (x := .int (-1) u) rfl (wpAny_pure ?_)))))))
  refine wpAny_bind (slicePart_int ?_)
  show wpAny _ _ (if ((-1 : Int) == 0) = true then _ else _) _ _ s
  rw [if_neg (by decide)]
  refine wpAny_bind (slicePart_none (wpAny_bind (slicePart_none (wpAny_bind (wpAny_pure ?_)))))
  show wpAny _ _ (match Builtin.Slice.sliceAdjust none none (-1) (n : Int) with | (lo, hi) => pure (lo, (-1 : Int), Builtin.Slice.slicePlaces lo hi (-1))) _ _ s
  rw [adj_rev n]
  show wpAny _ _ (pure ((n : Int) - 1, (-1 : Int), Builtin.Slice.slicePlaces ((n : Int) - 1) (-1) (-1))) _ _ s
  rw [places_rev]
  exact wpAny_pure h
theorem fm_congr {α β : Type} {f g : α → Option β} : ∀ {l : List α}, (∀ x ∈ l, f x = g x) → l.filterMap f = l.filterMap g
  | [], _ => rfl
  | x :: l, h => by rw [List.filterMap_cons, List.filterMap_cons, h x List.mem_cons_self, fm_congr (l := l) fun y hy => h y (List.mem_cons_of_mem _ hy)]
theorem pick_rev (xs : Array Value) : ((List.range xs.size).filterMap fun (k : Nat) => xs[((xs.size : Int) - 1 + (k : Int) * (-1)).toNat]?).toArray = xs.toList.reverse.toArray := by
  have e : (List.range xs.size).filterMap (fun (k : Nat) => xs[((xs.size : Int) - 1 + (k : Int) * (-1)).toNat]?) = ((List.range xs.size).map fun k => xs.size - 1 - k).filterMap (xs[·]?) := by
    rw [List.filterMap_map]
    refine fm_congr fun k hk => ?_
    have := List.mem_range.mp hk
    show xs[((xs.size : Int) - 1 + (k : Int) * (-1)).toNat]? = xs[xs.size - 1 - k]?
    congr 1
    omega
  rw [e, PySem.W.krv_range, List.filterMap_reverse, PySem.W.krv_all]
theorem rev_tup {t sl : Addr} {us : Array Value} {u : Tok} {Q : Value → Shared → Prop} (ht : IsTup s.heap t us) (hs : s.heap.IsSliceOf sl .none .none (.int (-1) u)) (hz : us.size ≤ sizeLine)
    (h : Q (.ref s.heap.objs.size) { s with heap := s.heap.push { cls := .type "tuple", data := .seq us.toList.reverse.toArray } }) : wpAny (model prog w) A (getItem (.ref t) (.ref sl)) Q E s := by
  have ok : sizeOk (.seq us.toList.reverse.toArray) := by
    show us.toList.reverse.toArray.size ≤ sizeLine
    rw [List.size_toArray, List.length_reverse, Array.length_toList]
    exact hz
  obtain ⟨so, hso, hsc, _⟩ := id hs
  have tS : s.TypeIs (.ref sl) "slice" := ⟨so, hso, hsc⟩
  unfold getItem
  try with_reducible refine wpAny_holding ?_
  first | refine wpAny_bind (wpAny_pure ?_) | skip
  refine wpAny_bind (wpAny_sequenceKey ht.typeIs (by decide) ?_)
  refine wpAny_bind (wpAny_callSpecial?_slot (name := Str.ofString "__getitem__") ht.typeIs PyProof.Rows.slot_tuple_getitem (wpAny_call_entry PyProof.Rows.slot_tuple_getitem ht.typeIs entry_tuple_getitem ?_ (args_tuple_getitem _ _)))
  show wpAny _ _ (Builtin.Tuple.tupleItemsOf (.ref t) >>= _) _ _ s
  refine wpAny_bind (tupleItemsOf_ ht (wpAny_bind (wpAny_typeOf tS ?_)))
  rw [if_pos (by decide)]
  refine wpAny_bind (applied_rev hs ?_)
  have no : ¬ (((us.size : Int) - 1 == 0 && (-1 : Int) == 1 && us.size == us.size) = true) := by
    rw [show ((-1 : Int) == 1) = false by decide, Bool.and_false, Bool.false_and]
    exact Bool.false_ne_true
  show wpAny _ _ (if ((us.size : Int) - 1 == 0 && (-1 : Int) == 1 && us.size == us.size) = true then _ else _) _ _ s
  rw [if_neg no, pick_rev]
  first
    | exact wpAny_bind (m := Builtin.Tuple.tupleExact _) (wpAny_newObj_type (wpAny_pure ⟨_, rfl, wpAny_pure h⟩) ok)
    | exact wpAny_bind (m := Builtin.Tuple.tupleExact _) (wpAny_newObj_type (wpAny_bind (wpAny_pure (wpAny_pure ⟨_, rfl, wpAny_pure h⟩))) ok)
    | exact wpAny_bind (wpAny_bind (m := Builtin.Tuple.tupleExact _) (wpAny_newObj_type (wpAny_pure (wpAny_pure ⟨_, rfl, wpAny_pure h⟩)) ok))
    | exact wpAny_bind (wpAny_bind (m := Builtin.Tuple.tupleExact _) (wpAny_newObj_type (wpAny_pure ⟨_, rfl, wpAny_pure h⟩) ok))
end
section
variable {X : Cx}
def tRevT (K : PySem.W.Frag) (te : TE) : TE := fun σ H Q => te σ H fun x H1 => ∃ a xs, x = .ref a ∧ SqT K H1 a xs ∧ ∀ p, H1 p = none → Q (.ref p) (upd H1 p (.tup xs.reverse))
theorem pe_revT {e : Expr} {te : TE} {k : Nat} {p1 p2 p3 pos : Pos} (he : PE X e te) : PE X (.Subscript e (.Slice none none (some (.UnaryOp .USub (.Constant (.int 1) k p1) p2)) p3) pos) (tRevT X.K te) := by
  refine ⟨fun pins s σ H Q I h => Subscript_ (thn (he.run pins s σ H _ I h) fun v s1 ⟨x, H1, I1, r1, q1⟩ => ?_)⟩
  obtain ⟨a, xs, rfl, hx, q⟩ := q1
  cases r1
  have st : PO X (some (.UnaryOp .USub (.Constant (.int 1) k p1) p2)) (tPart (tUn (rU fun i => .int (-i)) (tC (.int 1)))) := po_some (pe_un un_neg pe_int)
  refine wpAny_Slice (thn (po_none.run pins s1 σ H1 (fun o G => o = none ∧ G = H1) I1 ⟨rfl, rfl⟩) fun vl s2 ⟨l, H2, I2, pl, el, e2⟩ => ?_)
  subst el e2
  refine thn (po_none.run pins s2 σ H2 (fun o G => o = none ∧ G = H2) I2 ⟨rfl, rfl⟩) fun vu s3 ⟨u, H3, I3, pu, eu, e3⟩ => ?_
  subst eu e3
  refine thn (st.run pins s3 σ H3 (fun o G => o = some (-1) ∧ G = H3) I3 ⟨1, rfl, -1, rfl, rfl, rfl⟩) fun vs s4 ⟨o, H4, I4, ps, eo, e4⟩ => ?_
  subst eo e4
  cases pl
  cases pu
  cases ps with
  | int _ tk =>
    have I5 : Inv X pins σ H4 { s4 with heap := s4.heap.push { cls := .type "slice", data := .fields #[.none, .none, .int (-1) tk] } } := I4.kept (t' := s4.toks) fun b ob q => Heap.get?_push_of_some _ q
    obtain ⟨its, r, ht, hz⟩ := I5.tuple hx
    have hlen := r.length
    show wpAny (model X.prog X.w) X.A (subscriptTail e (.Slice none none (some (.UnaryOp .USub (.Constant (.int 1) k p1) p2)) p3) (.ref a) (.ref s4.heap.objs.size)) (EP X pins σ Q) X.xe { s4 with heap := s4.heap.push { cls := .type "slice", data := .fields #[.none, .none, .int (-1) tk] } }
    refine tail_any (ops := [.ref a, .ref s4.heap.objs.size]) ht.typeIs PyProof.Rows.slot_tuple_getitem.lookup ?_ (by with_unfolding_all rfl)
    refine rev_tup ht (Heap.IsSliceOf.new _ .none .none (.int (-1) tk)) (by rw [List.size_toArray, ← hlen]; exact hz) ?_
    refine ⟨.ref _, _, I5.laid (t' := s4.toks) (o := .tup xs.reverse) (fun b ob q => Heap.get?_push_of_some _ q) (Nat.le_refl _) ?_, rfl, q _ (I5.hok.fresh (Nat.le_refl _))⟩
    exact ⟨by rw [List.length_reverse]; exact hz, _, r.reverse, IsTup.new _ _⟩
end
end KS

set_option Elab.async false
set_option linter.all false
set_option maxRecDepth 100000
set_option maxHeartbeats 2000000
/-! ### zip(tuple, list); t * 1 -/
namespace MZ
open PySem PySem.Spec PyProof.Rows L2
abbrev G1 (h : Heap) (o1 : Obj) : Heap := h.push o1
abbrev G2 (h : Heap) (o1 o2 : Obj) : Heap := (G1 h o1).push o2
abbrev G3 (h : Heap) (o1 o2 : Obj) : Heap := (G2 h o1 o2).push { cls := .type "tuple", data := .seq #[.ref h.objs.size, .ref (G1 h o1).objs.size] }
abbrev G4 (h : Heap) (o1 o2 : Obj) : Heap := (G3 h o1 o2).push { cls := .type "tuple", data := .seq #[.none, .none] }
abbrev G5 (h : Heap) (o1 o2 : Obj) : Heap := (G4 h o1 o2).push { cls := .type "zip", data := .fields #[.none, .bool false, .bool false, .ref (G2 h o1 o2).objs.size, .ref (G3 h o1 o2).objs.size] }
theorem meets_zipB {v1 v2 : Value} {o1 o2 : Obj} {H1 H2 : Heap → Prop} (B1 : Begins v1 o1 H1) (B2 : Begins v2 o2 H2) :
    Meets (Builtin.«zip.__new__» ⟨[.type "zip", v1, v2], []⟩) (fun _ R s => H1 s.heap ∧ H2 s.heap ∧ R (.ok (.ret (.ref (G4 s.heap o1 o2).objs.size))) { s with heap := G5 s.heap o1 o2 }) :=
  .of_wp fun prog w A R s h => by
    obtain ⟨hp, g, d, tk, os⟩ := s
    obtain ⟨h1, h2, h⟩ := h
    have hsub := sub_zip
    have p1 : ∀ {A' : Around} {E : Value → Shared → Prop} {Q : Value → Shared → Prop}, Q (.ref hp.objs.size) ⟨hp.push o1, g, d, tk, os⟩ → wpAny (model prog w) A' (pyIter v1) Q E ⟨hp, g, d, tk, os⟩ := fun q => B1.iter prog w _ _ ⟨hp, g, d, tk, os⟩ _ h1 q
    have p2 : ∀ {A' : Around} {E : Value → Shared → Prop} {Q : Value → Shared → Prop}, Q (.ref (hp.push o1).objs.size) ⟨(hp.push o1).push o2, g, d, tk, os⟩ → wpAny (model prog w) A' (pyIter v2) Q E ⟨hp.push o1, g, d, tk, os⟩ := fun q =>
      B2.iter prog w _ _ ⟨hp.push o1, g, d, tk, os⟩ _ (B2.keeps _ _ h2 fun b o' e => Heap.get?_push_of_some _ e) q
    wp_walk using p1, p2
    exact ⟨_, rfl, h⟩
section
variable {prog : Program} {w : World} {A : Around} {E : Value → Shared → Prop} {s : Shared}
theorem call_zipB {v1 v2 : Value} {o1 o2 : Obj} {H1 H2 : Heap → Prop} {Q : Value → Shared → Prop} (B1 : Begins v1 o1 H1) (B2 : Begins v2 o2 H2) (q1 : H1 s.heap) (q2 : H2 s.heap)
    (h : ∀ h', IsZip h' (s.heap.objs.size + 4) (s.heap.objs.size + 2) (s.heap.objs.size + 3) .none → IsTupOf2 h' (s.heap.objs.size + 2) (.ref s.heap.objs.size) (.ref (s.heap.objs.size + 1)) → IsTupOf2 h' (s.heap.objs.size + 3) .none .none →
      h'.get? s.heap.objs.size = some o1 → h'.get? (s.heap.objs.size + 1) = some o2 → (∀ c o, s.heap.get? c = some o → h'.get? c = some o) → Q (.ref (s.heap.objs.size + 4)) { s with heap := h' }) :
    wpAny (model prog w) A (call (.type "zip") [v1, v2]) Q E s := by
  refine callType_new F.called_zip (by decide) (F.typeCall_zip_2 _ _) (F.newCall_zip_2 _ _) (fun obj => F.args_object_init_3 obj _ _) F.entry_zip_new (meets_zipB B1 B2) ⟨q1, q2, ?_⟩
  have s1 : (G1 s.heap o1).objs.size = s.heap.objs.size + 1 := Heap.size_push ..
  have s2 : (G2 s.heap o1 o2).objs.size = s.heap.objs.size + 2 := by rw [Heap.size_push, s1]
  have s3 : (G3 s.heap o1 o2).objs.size = s.heap.objs.size + 3 := by rw [Heap.size_push, s2]
  have s4 : (G4 s.heap o1 o2).objs.size = s.heap.objs.size + 4 := by rw [Heap.size_push, s3]
  have r5 : (G5 s.heap o1 o2).get? (G4 s.heap o1 o2).objs.size = some _ := Heap.get?_push_size _ rfl
  have r4 : (G5 s.heap o1 o2).get? (G3 s.heap o1 o2).objs.size = some _ := Heap.get?_push_of_some _ (Heap.get?_push_size _ rfl)
  have r3 : (G5 s.heap o1 o2).get? (G2 s.heap o1 o2).objs.size = some _ := Heap.get?_push_of_some _ (Heap.get?_push_of_some _ (Heap.get?_push_size _ rfl))
  have r2 : (G5 s.heap o1 o2).get? (G1 s.heap o1).objs.size = some _ := Heap.get?_push_of_some _ (Heap.get?_push_of_some _ (Heap.get?_push_of_some _ (Heap.get?_push_size _ B2.free)))
  have r1 : (G5 s.heap o1 o2).get? s.heap.objs.size = some _ := Heap.get?_push_of_some _ (Heap.get?_push_of_some _ (Heap.get?_push_of_some _ (Heap.get?_push_of_some _ (Heap.get?_push_size _ B1.free))))
  show _ ∧ _
  rw [s2, s3, s4] at r5
  rw [s1, s2] at r3
  rw [s3] at r4
  rw [s1] at r2
  rw [s4]
  exact ⟨⟨_, r5, rfl⟩, h _ r5 r3 r4 r1 r2 fun c o x => Heap.get?_push_of_some _ (Heap.get?_push_of_some _ (Heap.get?_push_of_some _ (Heap.get?_push_of_some _ (Heap.get?_push_of_some _ x))))⟩
end
/-- a tuple and a list, in new pairs -/
def ItzM (K : PySem.W.Frag) (a b : Addr) : It :=
  ⟨fun i H => ∃ (xs ys : List V) (x y : V), SqT K H a xs ∧ SqL K H b ys ∧ xs[i]? = some x ∧ ys[i]? = some y,
    fun i H v H' => ∃ T x y, v = .ref T ∧ H T = none ∧ H' = upd H T (.tup [x, y]) ∧ (∀ xs, SqT K H a xs → xs[i]? = some x) ∧ ∀ ys, SqL K H b ys → ys[i]? = some y,
    fun i H => ∃ xs ys : List V, SqT K H a xs ∧ SqL K H b ys ∧ i ≤ xs.length ∧ i ≤ ys.length ∧ (i = xs.length ∨ i = ys.length)⟩
structure Ap (z TI TO i1 i2 a b : Addr) : Prop where
  sep : ZipSep2 z TI TO i1 i2 [i1, a] [i2, b]
  n1 : a ≠ i1
  n2 : b ≠ i2
theorem turn_zipM {P : Program} {w : World} {K : PySem.W.Frag} {elts : List Expr} {kk : Nat} {tpos : Pos} {a b z TI TO i1 i2 : Addr} (D : Ap z TI TO i1 i2 a b) :
    Turn P w K (.Tuple elts kk tpos) (ItzM K a b) [z, TI, TO, i1, i2] z (fun i h => IsZip h z TI TO .none ∧ IsTupOf2 h TI (.ref i1) (.ref i2) ∧ (∃ x y, IsTupOf2 h TO x y) ∧ h.IsTupleIter i1 a i ∧ h.IsListIter i2 b i) where
  mem := by simp
  obj := fun i h st c hc => by
    obtain ⟨hz, hI, ⟨x, y, hO⟩, ⟨o1, e1, _, d1⟩, ⟨o2, e2, _, d2⟩⟩ := st
    simp only [List.mem_cons, List.not_mem_nil, or_false] at hc
    rcases hc with rfl | rfl | rfl | rfl | rfl
    · exact ⟨_, hz, fun v q => nomatch q⟩
    · exact ⟨_, hI, fun v q => nomatch q⟩
    · exact ⟨_, hO, fun v q => nomatch q⟩
    · exact ⟨o1, e1, fun v q => by rw [d1] at q; cases q⟩
    · exact ⟨o2, e2, fun v q => by rw [d2] at q; cases q⟩
  keep := fun i h h' st k => by
    obtain ⟨hz, hI, ⟨x, y, hO⟩, h1, h2⟩ := st
    exact ⟨k z (by simp) _ hz, k TI (by simp) _ hI, ⟨x, y, k TO (by simp) _ hO⟩, h1.at fun o q => k i1 (by simp) o q, h2.at fun o q => k i2 (by simp) o q⟩
  item := by
    intro X hP hw hK hc i pins s σ H E I hf st hg
    subst hP hw hK
    obtain ⟨hz, hI, ⟨x0, y0, hO⟩, h1, h2⟩ := st
    obtain ⟨xs, ys, x, y, hqx, hqy, hx, hy⟩ := hg
    obtain ⟨its, rv, p, _⟩ := I.tuple hqx
    obtain ⟨its2, rv2, p2, _⟩ := I.list hqy
    obtain ⟨u, hu, ru⟩ := rv.get hx
    obtain ⟨u2, hu2, ru2⟩ := rv2.get hy
    have hzl : z < s.heap.objs.size := Heap.lt_size hz
    have hi1 : i < its.toArray.size := by simpa using (List.getElem?_eq_some_iff.mp hu).1
    have hi2 : i < its2.toArray.size := by simpa using (List.getElem?_eq_some_iff.mp hu2).1
    have pt : s.heap.IsTuple a its.toArray := p
    refine wpAny_pyNext_zipD2_item D.sep (Draws.tuple (A := X.A.in1) (I.ok.hd hc) i1 a D.n1 its.toArray) (Draws.list (A := X.A.in1) (I.ok.hd hc) i2 b D.n2 its2.toArray) hz hI hO ⟨h1, pt⟩ ⟨h2, p2.isList⟩ hi1 hi2 fun w1 w2 h' tk y1 y2 z' O' st1 st2 hT hsz hk => ?_
    obtain rfl : u = w1 := by
      have e : its[i]? = some w1 := by simpa using y1
      rw [hu] at e
      exact Option.some.inj e
    obtain rfl : u2 = w2 := by
      have e : its2[i]? = some w2 := by simpa using y2
      rw [hu2] at e
      exact Option.some.inj e
    refine ⟨_, rfl, wpAny_letOwnedTupleGo_zip (s := { s with heap := h', toks := tk }) z' fun h'' z'' sb => ?_⟩
    have hT2 : h''.get? s.heap.objs.size = some { cls := .type "tuple", data := .seq #[u, u2] } := (sb.2 _ (Nat.ne_of_gt hzl)).trans hT
    have new : ObjOk X.prog X.w (upd H s.heap.objs.size (.tup [x, y])) h'' s.heap.objs.size (.tup [x, y]) := ⟨by show 2 ≤ sizeLine; decide, [u, u2], .cons ru (.cons ru2 .nil), ⟨_, hT2, rfl, _, rfl⟩⟩
    have I1 : Inv X pins σ (upd H s.heap.objs.size (.tup [x, y])) { s with heap := h'', toks := tk } :=
      I.turnedNew (ch := [z, TI, TO, i1, i2]) (fun c o hb q => (sb.2 c (fun q' => hb (by simp [q']))).trans (hk c o (fun q' => hb (by simp [q'])) (fun q' => hb (by simp [q'])) (fun q' => hb (by simp [q'])) (fun q' => hb (by simp [q'])) q)) hf (Nat.le_refl _) new
    have m1 : i1 ≠ z := fun e => D.sep.zf1 (by simp [e])
    have m2 : i2 ≠ z := fun e => D.sep.zf2 (by simp [e])
    refine ⟨.ref s.heap.objs.size, _, I1, rfl, ⟨_, x, y, rfl, I.hok.fresh (Nat.le_refl _), rfl, fun l hl => by rw [I.tuple_inj hl hqx]; exact hx, fun l hl => by rw [I.list_inj hl hqy]; exact hy⟩, ⟨z'', ?_, ⟨u, u2, ?_⟩, ?_, ?_⟩, fun c hcm => ?_⟩
    · exact (sb.2 _ D.sep.TIz).trans (hk _ _ D.sep.TIz D.sep.TITO D.sep.TIi1 D.sep.TIi2 hI)
    · exact (sb.2 _ D.sep.TOz).trans O'
    · exact st1.1.at fun o q => (sb.2 _ m1).trans q
    · exact st2.1.at fun o q => (sb.2 _ m2).trans q
    · have hlt : c < s.heap.objs.size := by
        simp only [List.mem_cons, List.not_mem_nil, or_false] at hcm
        rcases hcm with rfl | rfl | rfl | rfl | rfl
        · exact hzl
        · exact Heap.lt_size hI
        · exact Heap.lt_size hO
        · obtain ⟨_, e1, _⟩ := h1; exact Heap.lt_size e1
        · obtain ⟨_, e2, _⟩ := h2; exact Heap.lt_size e2
      rw [upd_ne (Nat.ne_of_lt hlt)]
      exact (hf c hcm).1
  done := by
    intro X hP hw hK hc i pins s σ H E I hf st hg
    subst hP hw hK
    obtain ⟨hz, hI, ⟨x0, y0, hO⟩, h1, h2⟩ := st
    obtain ⟨xs, ys, hqx, hqy, hl1, hl2, hend⟩ := hg
    obtain ⟨its, rv, p, _⟩ := I.tuple hqx
    obtain ⟨its2, rv2, p2, _⟩ := I.list hqy
    have l1 := rv.length
    have l2 := rv2.length
    have pt : s.heap.IsTuple a its.toArray := p
    refine wpAny_pyNext_zipD2_end D.sep (Draws.tuple (A := X.A.in1) (I.ok.hd hc) i1 a D.n1 its.toArray) (Draws.list (A := X.A.in1) (I.ok.hd hc) i2 b D.n2 its2.toArray) hz hI hO ⟨h1, pt⟩ ⟨h2, p2.isList⟩ (by simp; omega) (by simp; omega) (by simp; omega) fun h' tk hk => ?_
    exact ⟨rfl, I.turnedL (t' := tk) (ch := [z, TI, TO, i1, i2]) (fun c o hb q => hk c o (fun q' => hb (by simp [q'])) (fun q' => hb (by simp [q'])) (fun q' => hb (by simp [q'])) (fun q' => hb (by simp [q'])) q) hf⟩
  self := fun A i s Q E st h => wpAny_pyIter_zip st.1 h
def iZipM (K : PySem.W.Frag) (ta : TA) : TI := fun σ H R => ta σ H fun vs H1 => ∃ a b xs ys, vs = [.ref a, .ref b] ∧ SqT K H1 a xs ∧ SqL K H1 b ys ∧ R (ItzM K a b) H1
theorem pi_zipM {X : Cx} {e e2 : Expr} {ta : TA} {p pos tpos : Pos} {elts : List Expr} {kk : Nat} (hg : Gl X "zip") (hm : X.mg "zip" = none) (ha : PA X [e, e2] ta)
    (hs : starEach [e, e2] X.env = (false, eval e X.env) :: starEach [e2] X.env := by rfl) (hpl : (backTo pos (starEach [e2] X.env)).any (·.1) = false := by rfl) : PI X (.Tuple elts kk tpos) (.Call (.Name "zip" p) [e, e2] [] pos) (iZipM X.K ta) := by
  refine ⟨fun pins s σ H R I h => Call_ (ld_blt I hg hm PyProof.Rows.boot_zip (PyProof.Rows.callWith_type1 (thn (ha.run pos pins s σ H _ I h) fun us s1 ⟨vs, H1, I1, r1, q1⟩ => ?_) hs hpl))⟩
  obtain ⟨a, b, xs, ys, rfl, hqx, hqy, q⟩ := q1
  cases r1 with
  | cons r rr => cases rr with
    | cons r' rr =>
      cases rr
      cases r
      cases r'
      obtain ⟨its, rv, p1, _⟩ := I1.tuple hqx
      obtain ⟨its2, rv2, p2, _⟩ := I1.list hqy
      have pt : s1.heap.IsTuple a its.toArray := p1
      obtain ⟨oa, ea, _⟩ := id pt
      obtain ⟨ob, eb, _⟩ := id p2.isList
      have la := Heap.lt_size ea
      have lb := Heap.lt_size eb
      refine call_zipB (begins_tuple a its.toArray) (begins_list b its2.toArray) pt p2.isList fun h' hz hI hO h1 h2 hk => wpAny_pyIter_zip hz ?_
      have I2 : Inv X pins σ H1 { s1 with heap := h' } := I1.kept (t' := s1.toks) hk
      have ad : ∀ {m n : Nat}, m ≠ n → s1.heap.objs.size + m ≠ s1.heap.objs.size + n := fun h e => h (Nat.add_left_cancel e)
      have ap : Ap (s1.heap.objs.size + 4) (s1.heap.objs.size + 2) (s1.heap.objs.size + 3) s1.heap.objs.size (s1.heap.objs.size + 1) a b := by
        have lt : ∀ {c : Addr} {n : Nat}, c < s1.heap.objs.size → s1.heap.objs.size + n ≠ c := fun h e => Nat.not_lt.mpr (Nat.le_add_right _ _) (e ▸ h)
        have z0 : ∀ {n : Nat}, n ≠ 0 → s1.heap.objs.size + n ≠ s1.heap.objs.size := fun h => ad (n := 0) h
        refine ⟨⟨ad (by decide), ad (by decide), ad (by decide), z0 (by decide), by simp, ?_, ?_, ad (by decide), by simp, ?_, ?_, ?_, ?_⟩, Nat.ne_of_lt la, (lt lb).symm⟩
        · simp only [List.mem_cons, List.not_mem_nil, or_false, not_or]; exact ⟨z0 (by decide), lt la⟩
        · simp only [List.mem_cons, List.not_mem_nil, or_false, not_or]; exact ⟨z0 (by decide), lt la⟩
        · simp only [List.mem_cons, List.not_mem_nil, or_false, not_or]; exact ⟨ad (by decide), lt lb⟩
        · simp only [List.mem_cons, List.not_mem_nil, or_false, not_or]; exact ⟨ad (by decide), lt lb⟩
        · simp only [List.mem_cons, List.not_mem_nil, or_false, not_or]; exact ⟨(z0 (by decide)).symm, Nat.ne_of_gt lb⟩
        · simp only [List.mem_cons, List.not_mem_nil, or_false, not_or]; exact ⟨z0 (by decide), lt la⟩
      refine ⟨s1.heap.objs.size + 4, [s1.heap.objs.size + 4, s1.heap.objs.size + 2, s1.heap.objs.size + 3, s1.heap.objs.size, s1.heap.objs.size + 1], _, _, H1, rfl, I2, turn_zipM ap, ⟨hz, hI, ⟨_, _, hO⟩, ⟨_, h1, rfl, rfl⟩, ⟨_, h2, rfl, rfl⟩⟩, fun c hc => ?_, q⟩
      have hle : s1.heap.objs.size ≤ c := by
        simp only [List.mem_cons, List.not_mem_nil, or_false] at hc
        rcases hc with rfl | rfl | rfl | rfl | rfl
        · exact Nat.le_add_right _ _
        · exact Nat.le_add_right _ _
        · exact Nat.le_add_right _ _
        · exact Nat.le_refl _
        · exact Nat.le_add_right _ _
      exact I1.fpOk hle (I1.hok.fresh hle)
theorem walk_zipM {K : PySem.W.Frag} {a b : Addr} {xs ys : List V} {n : Nat} (hn : n = min xs.length ys.length) : Walk (ItzM K a b) n (fun H => SqT K H a xs ∧ SqL K H b ys) (YPair (fun i => xs[i]?) (fun i => ys[i]?)) := by
  subst hn
  refine ⟨fun i H hi q => ⟨xs, ys, xs[i]'(by omega), ys[i]'(by omega), q.1, q.2, List.getElem?_eq_getElem _, List.getElem?_eq_getElem _⟩, fun H q => ⟨xs, ys, q.1, q.2, by omega, by omega, by omega⟩, fun i H v H' _ q y => ?_⟩
  obtain ⟨T, x, z, h1, h2, h3, h4, h5⟩ := y
  exact ⟨T, x, z, h1, h2, h3, h4 _ q.1, h5 _ q.2⟩
theorem walk_zipTT {K : PySem.W.Frag} {a b : Addr} {xs ys : List V} {n : Nat} (hn : n = min xs.length ys.length) : Walk (RZ.ItzT K a b) n (fun H => SqT K H a xs ∧ SqT K H b ys) (YPair (fun i => xs[i]?) (fun i => ys[i]?)) := by
  subst hn
  refine ⟨fun i H hi q => ⟨xs, ys, xs[i]'(by omega), ys[i]'(by omega), q.1, q.2, List.getElem?_eq_getElem _, List.getElem?_eq_getElem _⟩, fun H q => ⟨xs, ys, q.1, q.2, by omega⟩, fun i H v H' _ q y => ?_⟩
  obtain ⟨T, x, z, h1, h2, h3, h4, h5⟩ := y
  exact ⟨T, x, z, h1, h2, h3, h4 _ q.1, h5 _ q.2⟩
end MZ

set_option Elab.async false
set_option linter.all false
set_option maxRecDepth 100000
set_option maxHeartbeats 2000000
/-! ### t * k, k from 1 on -/
namespace MZ
open PySem PySem.Spec PyProof.Rows L2
theorem tuple_once (l : Addr) (items : Array Value) (n : Nat) (dd : Option Addr) (sl : Array (Option Value)) (u : Tok) :
    Meets (Builtin.«tuple.__mul__» ⟨[.ref l, .int 1 u], []⟩) (fun _ R s => s.heap.get? l = some { cls := .type "tuple", dict := dd, data := .seq items n, slots := sl } ∧ R (.ok (.ret (Value.ref l))) s) :=
  .of_wp fun prog w A R s h => by
    obtain ⟨hp, g, d, tk, os⟩ := s
    obtain ⟨hl, h⟩ := h
    have f1 := AutoSeq1.idx_int
    wp_walk using wpAny_loadPart' hl
    repeat (first
      | (refine wpAny_ite_true (by simp) ?_; wp_walk using wpAny_loadPart' hl)
      | (refine wpAny_ite_false (by simp) ?_; wp_walk using wpAny_loadPart' hl))
    first
      | exact ⟨_, rfl, h⟩
      | exact h
def rRepA (K : PySem.W.Frag) : R2 := fun x y H Q => ∃ l k xs, x = .ref l ∧ y = .int k ∧ SqT K H l xs ∧ xs ≠ [] ∧ 1 ≤ k ∧ k ≤ 1000 ∧ xs.length ≤ 1000 ∧ (k = 1 → Q (.ref l) H) ∧ (k ≠ 1 → ∀ p, H p = none → Q (.ref p) (upd H p (.tup (List.replicate k.toNat xs).flatten)))
theorem op_repA {X : Cx} : OpR X (binaryOp .Mult) (rRepA X.K) := by
  intro pins s σ H x y v u Q I rx ry h
  obtain ⟨l, k, xs, rfl, rfl, hT, hne, h1, h2, hz, q1, q2⟩ := h
  by_cases c : k = 1
  · subst c
    cases rx
    obtain ⟨t, rfl⟩ := ry
    obtain ⟨its, r, ⟨⟨cls, dd, data, sl⟩, ho, hc, n, hd⟩, hs⟩ := I.tuple hT
    simp only at hc hd
    subst hc hd
    exact wpAny_binaryOp_repeat_ref (T := "tuple") (U := "int") (by decide) ⟨_, ho, rfl⟩ (fun s' => typeIs_int s' 1 t) noFill_tuple_mul F.fills_int_mul F.slot_int_rmul repeat_tuple F.slot_int_index.lookup
      (call_meets F.slot_int_rmul (typeIs_int s 1 t) F.entry_int_rmul (F.args_int_rmul_2 _ _) (int_rmul_tuple 1 t l its.toArray n dd sl)
        ⟨ho, rfl, ⟨_, ho, rfl⟩, call_meets F.slot_tuple_mul ⟨_, ho, rfl⟩ F.entry_tuple_mul (F.args_tuple_mul_2 _ _) (tuple_once l its.toArray n dd sl t) ⟨ho, ⟨.ref l, H, I, rfl, q1 rfl⟩⟩⟩)
  · exact op_repT pins s σ H _ _ v u Q I rx ry ⟨l, k, xs, rfl, rfl, hT, hne, by omega, h2, hz, q2 c⟩
end MZ

set_option Elab.async false
set_option linter.all false
set_option maxRecDepth 100000
set_option maxHeartbeats 1000000
/-! ### fractions: lowest terms, bounds by a common denominator -/
namespace FR
abbrev Fr := Int × Int
/-- t / l in lowest terms -/
def low (t l : Int) : Fr := (t / (Nat.gcd t.natAbs l.natAbs : Nat), l / (Nat.gcd t.natAbs l.natAbs : Nat))
def addF (x y : Fr) : Fr := low (x.1 * y.2 + y.1 * x.2) (x.2 * y.2)
def lesF (x y : Fr) : Fr := low (x.1 * y.2 - y.1 * x.2) (x.2 * y.2)
def mulF (x y : Fr) : Fr := low (x.1 * y.1) (x.2 * y.2)
def negF (x : Fr) : Fr := (-x.1, x.2)
theorem les_neg (x y : Fr) : addF x (negF y) = lesF x y := by
  unfold addF lesF negF
  have e : x.1 * y.2 + -y.1 * x.2 = x.1 * y.2 - y.1 * x.2 := by rw [Int.neg_mul]; omega
  rw [e]
theorem low_one (t : Int) : low t 1 = (t, 1) := by
  unfold low
  rw [show (1 : Int).natAbs = 1 from rfl, Nat.gcd_one_right]
  simp
theorem add_one {x y : Fr} (h1 : x.2 = 1) (h2 : y.2 = 1) : addF x y = (x.1 + y.1, 1) := by
  unfold addF
  rw [h1, h2, Int.mul_one, Int.mul_one, Int.mul_one, low_one]
theorem mul_one {x y : Fr} (h1 : x.2 = 1) (h2 : y.2 = 1) : mulF x y = (x.1 * y.1, 1) := by
  unfold mulF
  rw [h1, h2, Int.mul_one, low_one]
/-- a denominator of M, at most N -/
structure Bd (M N : Nat) (x : Fr) : Prop where
  pos : 0 < x.2
  dvd : x.2 ∣ (M : Int)
  le : x.1.natAbs ≤ N * x.2.natAbs
theorem gcd_pos {t l : Int} (h : 0 < l) : 0 < Nat.gcd t.natAbs l.natAbs := Nat.gcd_pos_of_pos_right _ (by omega)
theorem low_abs {t l : Int} (h : 0 < l) : (low t l).1.natAbs = t.natAbs / Nat.gcd t.natAbs l.natAbs ∧ (low t l).2 = ((l.natAbs / Nat.gcd t.natAbs l.natAbs : Nat) : Int) := by
  have hg := gcd_pos (t := t) h
  have d1 : ((Nat.gcd t.natAbs l.natAbs : Nat) : Int) ∣ t := Int.ofNat_dvd_left.mpr (Nat.gcd_dvd_left _ _)
  have d2 : Nat.gcd t.natAbs l.natAbs ∣ l.natAbs := Nat.gcd_dvd_right _ _
  constructor
  · show (t / _).natAbs = _
    rw [Int.natAbs_ediv_of_dvd d1]
    rfl
  · show l / _ = _
    have e : l = (l.natAbs : Int) := by omega
    rw [e]
    simp [Int.natAbs_natCast]
theorem low_bd {t l : Int} {M N : Nat} (h : 0 < l) (hd : l ∣ t * (M : Int)) (hn : t.natAbs ≤ N * l.natAbs) : Bd M N (low t l) := by
  have hg := gcd_pos (t := t) h
  obtain ⟨e1, e2⟩ := low_abs (t := t) h
  have g1 : Nat.gcd t.natAbs l.natAbs ∣ t.natAbs := Nat.gcd_dvd_left _ _
  have g2 : Nat.gcd t.natAbs l.natAbs ∣ l.natAbs := Nat.gcd_dvd_right _ _
  have hl : 0 < l.natAbs := by omega
  have q2 : 0 < l.natAbs / Nat.gcd t.natAbs l.natAbs := Nat.div_pos (Nat.le_of_dvd hl g2) hg
  refine ⟨by rw [e2]; omega, ?_, ?_⟩
  · rw [e2]
    refine Int.natCast_dvd_natCast.mpr ?_
    have hd' : l.natAbs ∣ t.natAbs * M := by
      have := Int.natAbs_dvd_natAbs.mpr hd
      rwa [Int.natAbs_mul, Int.natAbs_natCast] at this
    have cp : Nat.Coprime (l.natAbs / Nat.gcd t.natAbs l.natAbs) (t.natAbs / Nat.gcd t.natAbs l.natAbs) := (Nat.coprime_div_gcd_div_gcd hg).symm
    refine cp.dvd_of_dvd_mul_left ?_
    have e3 : l.natAbs = Nat.gcd t.natAbs l.natAbs * (l.natAbs / Nat.gcd t.natAbs l.natAbs) := (Nat.mul_div_cancel' g2).symm
    have e4 : t.natAbs = Nat.gcd t.natAbs l.natAbs * (t.natAbs / Nat.gcd t.natAbs l.natAbs) := (Nat.mul_div_cancel' g1).symm
    generalize Nat.gcd t.natAbs l.natAbs = g at *
    generalize l.natAbs / g = b at *
    generalize t.natAbs / g = a at *
    rw [e3, e4, Nat.mul_assoc] at hd'
    exact Nat.dvd_of_mul_dvd_mul_left hg hd'
  · rw [e1, e2, Int.natAbs_natCast]
    have e3 : l.natAbs = Nat.gcd t.natAbs l.natAbs * (l.natAbs / Nat.gcd t.natAbs l.natAbs) := (Nat.mul_div_cancel' g2).symm
    have e4 : t.natAbs = Nat.gcd t.natAbs l.natAbs * (t.natAbs / Nat.gcd t.natAbs l.natAbs) := (Nat.mul_div_cancel' g1).symm
    generalize Nat.gcd t.natAbs l.natAbs = g at *
    generalize l.natAbs / g = b at *
    generalize t.natAbs / g = a at *
    rw [e3, e4] at hn
    have z : g * a ≤ g * (N * b) := by
      calc g * a ≤ N * (g * b) := hn
        _ = g * (N * b) := by rw [Nat.mul_left_comm]
    exact Nat.le_of_mul_le_mul_left z hg
theorem Bd.mono {M M' N N' : Nat} {x : Fr} (h : Bd M N x) (hm : M ∣ M') (hn : N ≤ N') : Bd M' N' x :=
  ⟨h.pos, Int.dvd_trans h.dvd (Int.natCast_dvd_natCast.mpr hm), Nat.le_trans h.le (Nat.mul_le_mul_right _ hn)⟩
theorem Bd.neg {M N : Nat} {x : Fr} (h : Bd M N x) : Bd M N (negF x) := ⟨h.pos, h.dvd, by show (-x.1).natAbs ≤ _; rw [Int.natAbs_neg]; exact h.le⟩
theorem Bd.add {M N N' : Nat} {x y : Fr} (h : Bd M N x) (h' : Bd M N' y) : Bd M (N + N') (addF x y) := by
  refine low_bd (Int.mul_pos h.pos h'.pos) ?_ ?_
  · rw [Int.add_mul]
    refine Int.dvd_add ?_ ?_
    · have : x.1 * y.2 * (M : Int) = x.1 * ((M : Int) * y.2) := by rw [Int.mul_assoc, Int.mul_comm y.2]
      rw [this]
      exact Int.dvd_mul_of_dvd_right (Int.mul_dvd_mul h.dvd (Int.dvd_refl _))
    · have : y.1 * x.2 * (M : Int) = y.1 * (x.2 * (M : Int)) := Int.mul_assoc _ _ _
      rw [this]
      exact Int.dvd_mul_of_dvd_right (Int.mul_dvd_mul (Int.dvd_refl _) h'.dvd)
  · refine Nat.le_trans (Int.natAbs_add_le _ _) ?_
    rw [Int.natAbs_mul, Int.natAbs_mul, Int.natAbs_mul, Nat.add_mul]
    refine Nat.add_le_add ?_ ?_
    · rw [← Nat.mul_assoc]
      exact Nat.mul_le_mul_right _ h.le
    · rw [Nat.mul_comm x.2.natAbs, ← Nat.mul_assoc]
      exact Nat.mul_le_mul_right _ h'.le
theorem Bd.les {M N N' : Nat} {x y : Fr} (h : Bd M N x) (h' : Bd M N' y) : Bd M (N + N') (lesF x y) := by
  rw [← les_neg]
  exact h.add h'.neg
theorem Bd.mul {M M' N N' : Nat} {x y : Fr} (h : Bd M N x) (h' : Bd M' N' y) : Bd (M * M') (N * N') (mulF x y) := by
  refine low_bd (Int.mul_pos h.pos h'.pos) ?_ ?_
  · refine Int.dvd_mul_of_dvd_right ?_
    rw [Int.natCast_mul]
    exact Int.mul_dvd_mul h.dvd h'.dvd
  · rw [Int.natAbs_mul, Int.natAbs_mul]
    calc x.1.natAbs * y.1.natAbs ≤ (N * x.2.natAbs) * (N' * y.2.natAbs) := Nat.mul_le_mul h.le h'.le
      _ = N * N' * (x.2.natAbs * y.2.natAbs) := by rw [Nat.mul_mul_mul_comm]
/-- how great both numbers are -/
structure Sz (b : Nat) (x : Fr) : Prop where
  pos : 0 < x.2
  n : x.1.natAbs < 2 ^ b
  d : x.2.natAbs < 2 ^ b
theorem Bd.sz {M N a b : Nat} {x : Fr} (h : Bd M N x) (hM : 0 < M) (ha : M < 2 ^ a) (hb : N < 2 ^ b) : Sz (a + b) x := by
  have hd : x.2.natAbs ≤ M := by
    have := Int.natAbs_dvd_natAbs.mpr h.dvd
    rw [Int.natAbs_natCast] at this
    exact Nat.le_of_dvd hM this
  have b1 : 0 < 2 ^ b := Nat.two_pow_pos b
  refine ⟨h.pos, ?_, ?_⟩
  · refine Nat.lt_of_le_of_lt h.le ?_
    refine Nat.lt_of_le_of_lt (Nat.mul_le_mul_left _ hd) ?_
    rw [Nat.mul_comm, Nat.pow_add]
    exact Nat.mul_lt_mul'' ha hb
  · refine Nat.lt_of_le_of_lt hd (Nat.lt_of_lt_of_le ha ?_)
    exact Nat.pow_le_pow_right (by decide) (by omega)
theorem Sz.mono {a b : Nat} {x : Fr} (h : Sz a x) (hab : a ≤ b) : Sz b x := ⟨h.pos, Nat.lt_of_lt_of_le h.n (Nat.pow_le_pow_right (by decide) hab), Nat.lt_of_lt_of_le h.d (Nat.pow_le_pow_right (by decide) hab)⟩
end FR

set_option Elab.async false
set_option linter.all false
set_option maxRecDepth 100000
set_option maxHeartbeats 1000000
/-! ### fractions in the heap, and what is worked out with them -/
namespace KP
open PySem PySem.Spec PyProof.Rows L2 KX KT KJ KS FR
abbrev sLowest : Stmt := top 13
abbrev sAdded : Stmt := top 14
abbrev sNeg : Stmt := top 15
abbrev sMul : Stmt := top 16
theorem iteB {b : Bool} {A B : Prop} (h1 : b = true → A) (h2 : b = false → B) : if b = true then A else B := by
  cases b with
  | true => rw [if_pos rfl]; exact h1 rfl
  | false => rw [if_neg Bool.false_ne_true]; exact h2 rfl
/-- the heap's tuples alone -/
def tO (H : Hp) : Hp := fun b => match H b with
  | some (.tup xs) => some (.tup xs)
  | some (.frz _ (.tup xs)) => some (.tup xs)
  | _ => none
theorem tO_of {H : Hp} {a : Addr} {xs : List V} (h : H a = some (.tup xs)) : tO H a = some (.tup xs) := by
  unfold tO
  rw [h]
theorem tO_rd {H : Hp} {a : Addr} {xs : List V} (h : Rd H a (.tup xs)) : tO H a = some (.tup xs) := by
  rcases h with h | ⟨o, h⟩
  · exact tO_of h
  · unfold tO
    rw [h]
theorem of_tO {H : Hp} {a : Addr} {u : HO} (h : tO H a = some u) : ∃ xs, u = .tup xs ∧ Rd H a (.tup xs) := by
  unfold tO at h
  split at h
  · rename_i xs e
    cases h
    exact ⟨xs, rfl, .inl e⟩
  · rename_i o xs e
    cases h
    exact ⟨xs, rfl, .inr ⟨o, e⟩⟩
  · cases h
theorem tO_same (H : Hp) (a : Addr) (xs : List V) (e : tO H a = some (.tup xs)) : Rd H a (.tup xs) := by
  obtain ⟨ys, z, r⟩ := of_tO e
  cases z
  exact r
theorem tO_eq {H : Hp} {a : Addr} {xs : List V} (h : Rd (tO H) a (.tup xs)) : tO H a = some (.tup xs) := by
  rcases h with h | ⟨o, h⟩
  · exact h
  · obtain ⟨ys, z, _⟩ := of_tO h
    cases z
/-- all tuples stay -/
def Tk (H H' : Hp) : Prop := Same (tO H) (tO H')
theorem Tk.refl (H : Hp) : Tk H H := Same.refl _
theorem Tk.trans {H H1 H2 : Hp} (a : Tk H H1) (b : Tk H1 H2) : Tk H H2 := Same.trans a b
theorem Tk.same {H H' : Hp} (s : Same H H') : Tk H H' := fun b u e => by
  obtain ⟨xs, rfl, e1⟩ := of_tO e
  exact tO_rd (s.rd e1)
theorem Tk.sm {H H' : Hp} (s : Sm H H') : Tk H H' := fun b u e => by
  obtain ⟨xs, rfl, e1⟩ := of_tO e
  exact tO_rd (s.rd e1)
theorem Tk.but {j : Addr} {H H' : Hp} {xs : List V} (hj : H j = some (.lst xs)) (s : KJ.But j H H') : Tk H H' := fun b u e => by
  obtain ⟨ys, rfl, e1⟩ := of_tO e
  rcases e1 with e1 | ⟨o, e1⟩
  · exact tO_of (s _ _ (fun z => by rw [z, hj] at e1; cases e1) e1)
  · exact tO_rd (.inr ⟨o, s _ _ (fun z => by rw [z, hj] at e1; cases e1) e1⟩)
theorem Tk.jar {j : Addr} {H H' : Hp} {n : Nat} (hj : JarAt H j n) (s : KJ.But j H H') : Tk H H' := by
  obtain ⟨_, _, _, e, _⟩ := hj
  exact Tk.but e s
theorem Tk.put {H : Hp} {p : Addr} {xs ys : List V} (h : H p = some (.lst xs)) : Tk H (upd H p (.lst ys)) := fun b u e => by
  obtain ⟨zs, rfl, e1⟩ := of_tO e
  rcases e1 with e1 | ⟨o, e1⟩
  · exact tO_of (by rw [upd_ne (fun z => by rw [z, h] at e1; cases e1)]; exact e1)
  · exact tO_rd (.inr ⟨o, by rw [upd_ne (fun z => by rw [z, h] at e1; cases e1)]; exact e1⟩)
theorem Th.tk {H H' : Hp} {v : V} {d : PyData} (h : Th (tO H) v d) (s : Tk H H') : Th (tO H') v d := h.mono (Sm.same s)
theorem Th.up {H : Hp} {v : V} {d : PyData} (h : Th (tO H) v d) : Th H v d := by
  refine Th.rec (motive_1 := fun v d _ => Th H v d) (motive_2 := fun vs ds _ => ThAll H vs ds) .non (fun b => .bl b) (fun i => .int i) (fun x => .str x) (fun q _ ih => ?_) (fun q _ ih => .tup' (tO_same H _ _ (tO_eq q)) ih) (fun q => ?_) .nil (fun _ _ a b => .cons a b) h
  · obtain ⟨_, z, _⟩ := of_tO q
    cases z
  · obtain ⟨_, z, _⟩ := of_tO q
    cases z
theorem ThAll.up {H : Hp} : ∀ {vs : List V} {ds : List PyData}, ThAll (tO H) vs ds → ThAll H vs ds
  | [], [], _ => .nil
  | _ :: _, _ :: _, .cons a b => .cons a.up b.up
theorem sqT_up {K : PySem.W.Frag} {H : Hp} {a : Addr} {xs : List V} (h : SqT K (tO H) a xs) : SqT K H a xs := by
  rcases h with h | h
  · exact .inl (tO_same H _ _ (tO_eq h))
  · exact .inr h
theorem same_sqT {K : PySem.W.Frag} {H H' : Hp} {a : Addr} {xs : List V} (e : Same H H') (h : SqT K H a xs) : SqT K H' a xs := by
  rcases h with (h | ⟨o, h⟩) | h
  · exact .inl (.inl (e _ _ h))
  · exact .inl (.inr ⟨o, e _ _ h⟩)
  · exact .inr h
/-- v is the fraction x -/
def FrV (K : PySem.W.Frag) (H : Hp) (v : V) (x : Fr) : Prop := ∃ a, v = .ref a ∧ SqT K (tO H) a [.int x.1, .int x.2]
theorem FrV.tk {K : PySem.W.Frag} {H H' : Hp} {v : V} {x : Fr} (h : FrV K H v x) (s : Tk H H') : FrV K H' v x := by
  obtain ⟨a, e, q⟩ := h
  exact ⟨a, e, same_sqT s q⟩
theorem FrV.new {K : PySem.W.Frag} {H : Hp} {p : Addr} {x : Fr} : FrV K (upd H p (.tup [.int x.1, .int x.2])) (.ref p) x := ⟨p, rfl, SqT.of (tO_of upd_same)⟩
theorem FrV.at {K : PySem.W.Frag} {H : Hp} {p : Addr} {x : Fr} (h : H p = some (.tup [.int x.1, .int x.2])) : FrV K H (.ref p) x := ⟨p, rfl, SqT.of (tO_of h)⟩
section
variable {K : PySem.W.Frag} {σ : L2.St} {H : Hp} {D : Ends}
theorem vi_ix0 {i : Nat} {v : V} {x : Fr} (h : σ[i]? = some (some v)) (f : FrV K H v x) : Vi (tOp (rIxT K) (tVar i) (tC (.int 0))) σ H (.int x.1) := by
  obtain ⟨a, rfl, q⟩ := f
  exact vi_op (vi_var h) vi_c fun Q k => ⟨a, _, 0, _, rfl, rfl, sqT_up q, rfl, k⟩
theorem vi_ix1 {i : Nat} {v : V} {x : Fr} (h : σ[i]? = some (some v)) (f : FrV K H v x) : Vi (tOp (rIxT K) (tVar i) (tC (.int 1))) σ H (.int x.2) := by
  obtain ⟨a, rfl, q⟩ := f
  exact vi_op (vi_var h) vi_c fun Q k => ⟨a, _, 1, _, rfl, rfl, sqT_up q, rfl, k⟩
theorem vi_mul {ta tb : TE} {a b : Int} (ha : Vi ta σ H (.int a)) (hb : Vi tb σ H (.int b)) (c : CMulW a b) : Vi (tOp (rI CMulW fun i j => .int (i * j)) ta tb) σ H (.int (a * b)) := vi_op ha hb fun Q q => ⟨_, _, rfl, rfl, c, q⟩
theorem vi_add {ta tb : TE} {a b : Int} (ha : Vi ta σ H (.int a)) (hb : Vi tb σ H (.int b)) : Vi (tOp (rI0 fun i j => .int (i + j)) ta tb) σ H (.int (a + b)) := vi_op ha hb fun Q q => ⟨_, _, rfl, rfl, q⟩
theorem vi_sub {ta tb : TE} {a b : Int} (ha : Vi ta σ H (.int a)) (hb : Vi tb σ H (.int b)) : Vi (tOp (rI0 fun i j => .int (i - j)) ta tb) σ H (.int (a - b)) := vi_op ha hb fun Q q => ⟨_, _, rfl, rfl, q⟩
theorem ti_and {t u : TT} {a b : Bool} (h : Ti t σ H a) (h2 : a = true → Ti u σ H b) : Ti (tAnd t u) σ H (a && b) := fun Q q => h _ (by
  cases a with
  | true => rw [if_pos rfl]; exact h2 rfl _ q
  | false => rw [if_neg Bool.false_ne_true]; exact q)
theorem i_when {t : TT} {tu tz : TS} {b : Bool} (h : Ti t σ H b) (h1 : b = true → tu { D with nx := tz D } σ H) (h2 : b = false → tz D σ H) : tSeq (tIfS t tu tNext) tz D σ H := i_if (D := { D with nx := tz D }) h h1 h2
theorem i_set {te : TE} {tz : TS} {i : Nat} {v : V} (h : Vi te σ H v) (k : tz D (σ.set i (some v)) H) : tSeq (tAsg te (gName i)) tz D σ H := h _ k
end
theorem ret_call {K : PySem.W.Frag} {σ : L2.St} {H : Hp} {D : Ends} {sp : Sp} {E : XK} {ta : TA} {vs : List V} (h : Ai ta σ H vs) (k : sp vs H D.rt E) : tRet (tCall sp [] E ta) D σ H := h _ (by rw [List.append_nil]; exact k)
theorem ret_tup2 {σ : L2.St} {H : Hp} {D : Ends} {ta tb : TE} {a b : Int} (ha : Vi ta σ H (.int a)) (hb : Vi tb σ H (.int b)) (k : ∀ p, H p = none → D.rt (.ref p) (upd H p (.tup [.int a, .int b]))) : tRet (tTup (tCons ta (tCons tb tNil))) D σ H := ha _ (hb _ ⟨(by show 2 ≤ sizeLine; decide), k⟩)
theorem cmul {x y : Int} {a b : Nat} (hx : x.natAbs < 2 ^ (a + 1)) (hy : y.natAbs < 2 ^ (b + 1)) (h : a + b ≤ 900000) : CMulW x y := wide_mul hx hy (by omega) (by omega) (by omega)
/-- lowest, and the law's own -/
def spLow : Sp := fun vs H Q _ => ∃ t l : Int, vs = [.int t, .int l] ∧ 0 < l ∧ l.natAbs < 2 ^ 9000 ∧ ∀ p, H p = none → Q (.ref p) (upd H p (.tup [.int (low t l).1, .int (low t l).2]))
def spBin (K : PySem.W.Frag) (f : Fr → Fr → Fr) : Sp := fun vs H Q _ => ∃ u v x y, vs = [u, v] ∧ FrV K H u x ∧ FrV K H v y ∧ Sz 4000 x ∧ Sz 4000 y ∧ ∀ r H', Same H H' → FrV K H' r (f x y) → Q r H'
def spNegF (K : PySem.W.Frag) : Sp := fun vs H Q _ => ∃ u x, vs = [u] ∧ FrV K H u x ∧ ∀ r H', Same H H' → FrV K H' r (negF x) → Q r H'
theorem z9 {x y : Fr} (hx : Sz 4000 x) (hy : Sz 4000 y) : 0 < x.2 * y.2 ∧ (x.2 * y.2).natAbs < 2 ^ 9000 := ⟨Int.mul_pos hx.pos hy.pos, Nat.lt_of_lt_of_le (wide_lt hx.d hy.d) (Nat.pow_le_pow_right (by decide) (by decide))⟩
section
variable {P : Program} {w : World} {K : PySem.W.Frag} {mg : Str → Option Value} {base : Heap}
theorem scLowest : FnScope ["above", "below", "divisor"] ["above", "below"] (defScope sLowest) := ⟨rfl, rfl, rfl, by decide +kernel, rfl, by decide +kernel, by decide +kernel⟩
theorem ok_lowest {f : Addr} {fd : FuncData} (F : Fun K "lowest" "lowest" sLowest f fd) (mG : mg "gcd" = some (.builtin "math.gcd")) : FnOk P w K mg base CX0 1 f fd ["above", "below"] spLow := by
  refine F.ok scLowest (fun vs H Q E h => ?_) (fun cdv A outer s H vs Q E hr h => ?_)
  · obtain ⟨t, l, rfl, _⟩ := h
    rfl
  · obtain ⟨t, l, rfl, l0, l9, k⟩ := h
    refine ⟨_, pss_cons (ps_set (i := 2) scLowest.nd rfl (Or.inl rfl) (pe_callBfun cr_gcd (by rfl) mG (pa_cons (pv 0) (pa_cons (pv 1) pa_nil))))
      (pss_one (ps_ret (pe_tup (pa_cons (pe_op op_fdivW (pv 0) (pv 2)) (pa_cons (pe_op op_fdivW (pv 1) (pv 2)) pa_nil))))), ?_⟩
    have hg := gcd_pos (t := t) l0
    have hd : CDivW t ((Nat.gcd t.natAbs l.natAbs : Nat) : Int) := wide_div (b := 9000) (by omega) (by rw [Int.natAbs_natCast]; exact Nat.lt_of_le_of_lt (Nat.le_of_dvd (by omega) (Nat.gcd_dvd_right _ _)) l9) (by decide) (Nat.le_refl _)
    exact ⟨_, rfl, _, rfl, _, _, rfl, _, rfl, _, rfl, _, _, rfl, rfl, hd, _, rfl, _, rfl, _, _, rfl, rfl, hd, (by show 2 ≤ sizeLine; decide), fun p hp => k p hp⟩
theorem scAdded : FnScope ["one", "two"] ["one", "two"] (defScope sAdded) := ⟨rfl, rfl, rfl, by decide +kernel, rfl, by decide +kernel, by decide +kernel⟩
theorem ok_added {f fL : Addr} {fd fdL : FuncData} (F : Fun K "added" "added" sAdded f fd) (FL : FnOk P w K mg base CX0 1 fL fdL ["above", "below"] spLow) (mL : mg "lowest" = some (.ref fL)) (kL : PySem.W.keepIn K (.ref fL) = true) (bL : Binds K fdL ["above", "below"] []) :
    FnOk P w K mg base CX0 2 f fd ["one", "two"] (spBin K addF) := by
  refine F.ok scAdded (fun vs H Q E h => ?_) (fun cdv A outer s H vs Q E hr h => ?_)
  · obtain ⟨u, v, x, y, rfl, _⟩ := h
    rfl
  · obtain ⟨u, v, x, y, rfl, hx, hy, zx, zy, k⟩ := h
    refine ⟨_, pss_cons (ps_if (pw_and (pt_cmpR op_eq (pe_ix ix_tup (pv 0) pe_int (fun _ _ => rfl)) pe_int (nomark _)) (pw_and1 (pt_cmpR op_eq (pe_ix ix_tup (pv 1) pe_int (fun _ _ => rfl)) pe_int (nomark _)))).pt
        (pss_one (ps_ret (pe_tup (pa_cons (pe_op op_add (pe_ix ix_tup (pv 0) pe_int (fun _ _ => rfl)) (pe_ix ix_tup (pv 1) pe_int (fun _ _ => rfl))) (pa_cons pe_int pa_nil))))) pss_nil)
      (pss_one (ps_ret (pe_call FL hr rfl mL kL bL .nil pass0 (pa_cons (pe_op op_add (pe_op op_mulW (pe_ix ix_tup (pv 0) pe_int (fun _ _ => rfl)) (pe_ix ix_tup (pv 1) pe_int (fun _ _ => rfl))) (pe_op op_mulW (pe_ix ix_tup (pv 1) pe_int (fun _ _ => rfl)) (pe_ix ix_tup (pv 0) pe_int (fun _ _ => rfl))))
        (pa_cons (pe_op op_mulW (pe_ix ix_tup (pv 0) pe_int (fun _ _ => rfl)) (pe_ix ix_tup (pv 1) pe_int (fun _ _ => rfl))) pa_nil))))), ?_⟩
    refine i_when (D := { nx := _, rt := Q }) (b := decide (V.int x.2 = V.int 1) && decide (V.int y.2 = V.int 1)) (ti_and (ti_test (vi_op (vi_ix1 rfl hx) vi_c fun Q q => ⟨rfl, q⟩)) fun _ => ti_test (vi_op (vi_ix1 rfl hy) vi_c fun Q q => ⟨rfl, q⟩)) (fun c => ?_) (fun c => ?_)
    · rw [Bool.and_eq_true] at c
      have e1 := V.int.inj (of_decide_eq_true c.1)
      have e2 := V.int.inj (of_decide_eq_true c.2)
      refine ret_tup2 (vi_add (vi_ix0 rfl hx) (vi_ix0 rfl hy)) vi_c fun p hp => k _ _ (same_upd hp) ?_
      rw [add_one e1 e2]
      exact FrV.new (x := (x.1 + y.1, 1))
    · obtain ⟨z1, z2⟩ := z9 zx zy
      refine ret_call (K := K) (D := { nx := _, rt := Q }) (ai_cons (vi_add (vi_mul (vi_ix0 rfl hx) (vi_ix1 rfl hy) (cmul (a := 3999) (b := 3999) zx.n zy.d (by decide))) (vi_mul (vi_ix0 rfl hy) (vi_ix1 rfl hx) (cmul (a := 3999) (b := 3999) zy.n zx.d (by decide)))) (ai_cons (vi_mul (vi_ix1 rfl hx) (vi_ix1 rfl hy) (cmul (a := 3999) (b := 3999) zx.d zy.d (by decide))) ai_nil)) ?_
      exact ⟨_, _, rfl, z1, z2, fun p hp => k _ _ (same_upd hp) (FrV.new (x := addF x y))⟩
theorem scNeg : FnScope ["one"] ["one"] (defScope sNeg) := ⟨rfl, rfl, rfl, by decide +kernel, rfl, by decide +kernel, by decide +kernel⟩
theorem ok_negative {f : Addr} {fd : FuncData} (F : Fun K "negative" "negative" sNeg f fd) : FnOk P w K mg base CX0 1 f fd ["one"] (spNegF K) := by
  refine F.ok scNeg (fun vs H Q E h => ?_) (fun cdv A outer s H vs Q E hr h => ?_)
  · obtain ⟨u, x, rfl, _⟩ := h
    rfl
  · obtain ⟨u, x, rfl, hx, k⟩ := h
    refine ⟨_, pss_one (ps_ret (pe_tup (pa_cons (pe_un un_neg (pe_ix ix_tup (pv 0) pe_int (fun _ _ => rfl))) (pa_cons (pe_ix ix_tup (pv 0) pe_int (fun _ _ => rfl)) pa_nil)))), ?_⟩
    exact ret_tup2 (D := { nx := _, rt := Q }) (fun Q q => vi_ix0 (i := 0) rfl hx _ ⟨_, rfl, q⟩) (vi_ix1 rfl hx) fun p hp => k _ _ (same_upd hp) (FrV.new (x := negF x))
theorem scMul : FnScope ["one", "two"] ["one", "two"] (defScope sMul) := ⟨rfl, rfl, rfl, by decide +kernel, rfl, by decide +kernel, by decide +kernel⟩
theorem ok_multiplied {f fL : Addr} {fd fdL : FuncData} (F : Fun K "multiplied" "multiplied" sMul f fd) (FL : FnOk P w K mg base CX0 1 fL fdL ["above", "below"] spLow) (mL : mg "lowest" = some (.ref fL)) (kL : PySem.W.keepIn K (.ref fL) = true) (bL : Binds K fdL ["above", "below"] []) :
    FnOk P w K mg base CX0 2 f fd ["one", "two"] (spBin K mulF) := by
  refine F.ok scMul (fun vs H Q E h => ?_) (fun cdv A outer s H vs Q E hr h => ?_)
  · obtain ⟨u, v, x, y, rfl, _⟩ := h
    rfl
  · obtain ⟨u, v, x, y, rfl, hx, hy, zx, zy, k⟩ := h
    refine ⟨_, pss_cons (ps_if (pw_and (pt_cmpR op_eq (pe_ix ix_tup (pv 0) pe_int (fun _ _ => rfl)) pe_int (nomark _)) (pw_and1 (pt_cmpR op_eq (pe_ix ix_tup (pv 1) pe_int (fun _ _ => rfl)) pe_int (nomark _)))).pt
        (pss_one (ps_ret (pe_tup (pa_cons (pe_op op_mulW (pe_ix ix_tup (pv 0) pe_int (fun _ _ => rfl)) (pe_ix ix_tup (pv 1) pe_int (fun _ _ => rfl))) (pa_cons pe_int pa_nil))))) pss_nil)
      (pss_one (ps_ret (pe_call FL hr rfl mL kL bL .nil pass0 (pa_cons (pe_op op_mulW (pe_ix ix_tup (pv 0) pe_int (fun _ _ => rfl)) (pe_ix ix_tup (pv 1) pe_int (fun _ _ => rfl)))
        (pa_cons (pe_op op_mulW (pe_ix ix_tup (pv 0) pe_int (fun _ _ => rfl)) (pe_ix ix_tup (pv 1) pe_int (fun _ _ => rfl))) pa_nil))))), ?_⟩
    refine i_when (D := { nx := _, rt := Q }) (b := decide (V.int x.2 = V.int 1) && decide (V.int y.2 = V.int 1)) (ti_and (ti_test (vi_op (vi_ix1 rfl hx) vi_c fun Q q => ⟨rfl, q⟩)) fun _ => ti_test (vi_op (vi_ix1 rfl hy) vi_c fun Q q => ⟨rfl, q⟩)) (fun c => ?_) (fun c => ?_)
    · rw [Bool.and_eq_true] at c
      have e1 := V.int.inj (of_decide_eq_true c.1)
      have e2 := V.int.inj (of_decide_eq_true c.2)
      refine ret_tup2 (vi_mul (vi_ix0 rfl hx) (vi_ix0 rfl hy) (cmul (a := 3999) (b := 3999) zx.n zy.n (by decide))) vi_c fun p hp => k _ _ (same_upd hp) ?_
      rw [mul_one e1 e2]
      exact FrV.new (x := (x.1 * y.1, 1))
    · obtain ⟨z1, z2⟩ := z9 zx zy
      refine ret_call (K := K) (D := { nx := _, rt := Q }) (ai_cons (vi_mul (vi_ix0 rfl hx) (vi_ix0 rfl hy) (cmul (a := 3999) (b := 3999) zx.n zy.n (by decide))) (ai_cons (vi_mul (vi_ix1 rfl hx) (vi_ix1 rfl hy) (cmul (a := 3999) (b := 3999) zx.d zy.d (by decide))) ai_nil)) ?_
      exact ⟨_, _, rfl, z1, z2, fun p hp => k _ _ (same_upd hp) (FrV.new (x := mulF x y))⟩
-- the law's own
end
end KP

set_option Elab.async false
set_option linter.all false
set_option maxRecDepth 100000
set_option maxHeartbeats 2000000
/-! ### drawn nets that are nets: the data -/
namespace KP
open PySem PySem.Spec PyProof.Rows L2 KX KT KJ KS FR
structure Told (x : Fr) : Prop where
  pos : 0 < x.2
  d : x.2 ≤ 999
  n : x.1.natAbs ≤ 999
  g : Nat.gcd x.1.natAbs x.2.natAbs = 1
def fD (x : Fr) : PyData := .tuple [.int x.1, .int x.2]
theorem low_told {t l : Int} (h : 0 < l) (hl : l ≤ 999) (ht : t.natAbs ≤ 999) : Told (low t l) := by
  have hg := gcd_pos (t := t) h
  obtain ⟨e1, e2⟩ := low_abs (t := t) h
  have g2 : Nat.gcd t.natAbs l.natAbs ∣ l.natAbs := Nat.gcd_dvd_right _ _
  have q2 : 0 < l.natAbs / Nat.gcd t.natAbs l.natAbs := Nat.div_pos (Nat.le_of_dvd (by omega) g2) hg
  have q3 := Nat.div_le_self l.natAbs (Nat.gcd t.natAbs l.natAbs)
  have q4 := Nat.div_le_self t.natAbs (Nat.gcd t.natAbs l.natAbs)
  refine ⟨by rw [e2]; omega, by rw [e2]; omega, by rw [e1]; omega, ?_⟩
  rw [e1, e2, Int.natAbs_natCast]
  exact Nat.coprime_div_gcd_div_gcd hg
theorem told_is {x : Fr} (h : Told x) : isTold (fD x) = true := by
  obtain ⟨h1, h2, h3, h4⟩ := h
  have e : (if x.1 < 0 then -x.1 else x.1) ≤ 999 := by split <;> omega
  simp [isTold, isR, shp, fD, tyN, lenT, ith, ratio2, small2, h1, h2, h4, e]
theorem told_bd {x : Fr} (h : Told x) : Bd x.2.natAbs 999 x := ⟨h.pos, by have := h.pos; rw [show ((x.2.natAbs : Nat) : Int) = x.2 by omega]; exact Int.dvd_refl _, Nat.le_trans h.n (by have := h.pos; omega)⟩
structure Pp where
  s : Nat
  e : Option Nat
  sh : Nat ⊕ Fr
def shD : Nat ⊕ Fr → PyData
  | .inl j => .tuple [.str "x", .int (j : Nat)]
  | .inr x => fD x
def enD : Option Nat → PyData
  | none => .none
  | some k => .int (k : Nat)
def ppD (p : Pp) : PyData := .tuple [.int (p.s : Nat), enD p.e, shD p.sh]
def natsD (ns : List Nat) : List PyData := ns.map fun i => .int (i : Nat)
structure NetM where
  m : Nat
  u : Nat
  ps : List Pp
  fs : List Nat
  ss : List Nat
def NetM.d (n : NetM) : PyData := .tuple [.int (n.m : Nat), .int (n.u : Nat), .tuple (n.ps.map ppD), .tuple (natsD n.fs), .tuple (natsD n.ss)]
def GoodS (u : Nat) : Nat ⊕ Fr → Prop
  | .inl j => j < u
  | .inr x => Told x
structure GoodP (m u : Nat) (p : Pp) : Prop where
  s : p.s < m
  e : ∀ k, p.e = some k → k < m ∧ k ≠ p.s
  sh : GoodS u p.sh
structure GoodT (m : Nat) (ns : List Nat) : Prop where
  ne : ns ≠ []
  asc : ns.Pairwise (· < ·)
  lt : ∀ i ∈ ns, i < m
  len : ns.length ≤ m
structure GoodN (n : NetM) : Prop where
  m1 : 1 ≤ n.m
  m4 : n.m ≤ 4
  u4 : n.u ≤ 4
  mu : n.m + n.u ≤ 7
  len : n.ps.length ≤ 12
  ps : ∀ p ∈ n.ps, GoodP n.m n.u p
  dist : distB (n.ps.map ppD) = true
  fs : GoodT n.m n.fs
  ss : GoodT n.m n.ss
theorem goodP_is {m u : Nat} {p : Pp} (h : GoodP m u p) : isPipe (m : Nat) (u : Nat) (ppD p) = true := by
  obtain ⟨h1, h2, h3⟩ := h
  have c1 : isW (.int (p.s : Nat)) 0 ((m : Int) - 1) = true := by simp only [isW, Bool.and_eq_true, decide_eq_true_eq]; omega
  have c2 : isShare (u : Nat) (shD p.sh) = true := by
    cases q : p.sh with
    | inl j =>
      rw [q] at h3
      have h3 : j < u := h3
      have : (j : Int) ≤ (u : Int) - 1 := by omega
      simp [shD, isShare, shp, tyN, lenT, ith, isX, isW, this]
    | inr x =>
      rw [q] at h3
      have h3 : Told x := h3
      have z := told_is h3
      show (shp 2 (fD x) && _) = true
      rw [show shp 2 (fD x) = true from rfl, Bool.true_and, if_neg (by simp [ith, shD, fD, tyN])]
      exact z
  have c3 : (isNon (enD p.e) || (isW (enD p.e) 0 ((m : Int) - 1) && !eqI (enD p.e) (.int (p.s : Nat)))) = true := by
    cases q : p.e with
    | none => rfl
    | some k =>
      obtain ⟨a, b⟩ := h2 k q
      have e1 : (k : Int) ≤ (m : Int) - 1 := by omega
      have e2 : ¬ (k : Int) = (p.s : Int) := by omega
      simp [enD, isNon, isW, eqI, e1, e2]
  show (shp 3 (ppD p) && (!(!isW (.int (p.s : Nat)) 0 ((m : Int) - 1) || !isShare (u : Nat) (shD p.sh)) && (isNon (enD p.e) || (isW (enD p.e) 0 ((m : Int) - 1) && !eqI (enD p.e) (.int (p.s : Nat)))))) = true
  rw [c1, c2, c3]
  rfl
theorem nats_get {ns : List Nat} {i : Nat} (h : i < ns.length) : (natsD ns).getD i .none = .int ((ns[i] : Nat) : Int) := by
  rw [List.getD_eq_getElem?_getD]
  simp [natsD, List.getElem?_eq_getElem h]
theorem goodT_is {m : Nat} {ns : List Nat} (h : GoodT m ns) : areT (m : Nat) (.tuple (natsD ns)) = true := by
  obtain ⟨h1, h2, h3, h4⟩ := h
  have hl : (natsD ns).length = ns.length := List.length_map _
  have l1 : 1 ≤ ns.length := List.length_pos_iff.mpr h1
  have e2 : areT (m : Nat) (.tuple (natsD ns)) = ((decide (1 ≤ ((natsD ns).length : Int)) && decide (((natsD ns).length : Int) ≤ (m : Nat))) && ((natsD ns).all (fun e => isW e 0 ((m : Int) - 1)) && ascB (natsD ns))) := by
    unfold areT
    have e0 : decide (tyN (.tuple (natsD ns)) = "tuple") = true := decide_eq_true rfl
    rw [e0, Bool.true_and]
    rfl
  rw [e2, hl, decide_eq_true (show (1 : Int) ≤ (ns.length : Nat) by omega), decide_eq_true (show ((ns.length : Nat) : Int) ≤ (m : Nat) by omega), Bool.true_and, Bool.true_and, Bool.and_eq_true]
  constructor
  · rw [List.all_eq_true]
    intro d hd
    obtain ⟨i, hi, rfl⟩ := List.mem_map.mp hd
    have := h3 i hi
    simp only [isW, Bool.and_eq_true, decide_eq_true_eq]
    omega
  · unfold ascB
    rw [List.all_eq_true]
    intro i hi
    rw [List.mem_range, hl] at hi
    rw [nats_get (by omega), nats_get (by omega)]
    have := List.pairwise_iff_getElem.mp h2 i (i + 1) (by omega) (by omega) (by omega)
    simp only [ltI, decide_eq_true_eq]
    omega
theorem goodN_is {n : NetM} (h : GoodN n) : isNet n.d = true := by
  have c1 : isW (.int (n.m : Nat)) 1 4 = true := by have := h.m1; have := h.m4; simp only [isW, Bool.and_eq_true, decide_eq_true_eq]; omega
  have c2 : isW (.int (n.u : Nat)) 0 4 = true := by have := h.u4; simp only [isW, Bool.and_eq_true, decide_eq_true_eq]; omega
  have c3 : areP (n.m : Nat) (n.u : Nat) (.tuple (n.ps.map ppD)) = true := by
    unfold areP
    have e0 : decide (tyN (.tuple (n.ps.map ppD)) = "tuple") = true := decide_eq_true rfl
    have e1 : decide ((12 : Int) < (lenT (.tuple (n.ps.map ppD)) : Int)) = false := decide_eq_false (by have := h.len; show ¬ (12 : Int) < ((n.ps.map ppD).length : Int); rw [List.length_map]; omega)
    have e2 : (itms (.tuple (n.ps.map ppD))).all (isPipe (n.m : Nat) (n.u : Nat)) = true := by
      rw [List.all_eq_true]
      intro d hd
      obtain ⟨p, hp, rfl⟩ := List.mem_map.mp (show d ∈ n.ps.map ppD from hd)
      exact goodP_is (h.ps p hp)
    rw [e0, e1, e2]
    exact h.dist
  have c4 : decide ((7 : Int) < (n.m : Nat) + (n.u : Nat)) = false := decide_eq_false (by have := h.mu; omega)
  show (shp 5 n.d && (!(!isW (.int (n.m : Nat)) 1 4 || !isW (.int (n.u : Nat)) 0 4) && (!decide ((7 : Int) < (n.m : Nat) + (n.u : Nat)) && (areP (n.m : Nat) (n.u : Nat) (.tuple (n.ps.map ppD)) && (areT (n.m : Nat) (.tuple (natsD n.fs)) && areT (n.m : Nat) (.tuple (natsD n.ss))))))) = true
  rw [c1, c2, c3, c4, goodT_is h.fs, goodT_is h.ss]
  rfl
theorem dist_snoc {ds : List PyData} {d : PyData} (h : distB ds = true) (hn : (ds.any fun z => PyData.eqv z d) = false) : distB (ds ++ [d]) = true := by
  unfold distB at h ⊢
  rw [List.all_eq_true] at h ⊢
  intro i hi
  rw [List.mem_range, List.length_append, List.length_singleton] at hi
  by_cases c : i < ds.length
  · have q := h i (List.mem_range.mpr c)
    rw [List.take_append_of_le_length (Nat.le_of_lt c), List.getD_eq_getElem?_getD, List.getElem?_append_left c, ← List.getD_eq_getElem?_getD]
    exact q
  · have e : i = ds.length := by omega
    subst e
    rw [List.take_append_of_le_length (Nat.le_refl _), List.take_length, List.getD_eq_getElem?_getD, List.getElem?_append_right (Nat.le_refl _), Nat.sub_self]
    show (!ds.any fun z => PyData.eqv z d) = true
    rw [hn]
    rfl
theorem pp_flat {p : Pp} : Flat (ppD p) := by
  have ok : PyData.strOk "x" = true := by decide +kernel
  cases p with
  | mk s e sh =>
    cases sh <;> cases e <;> exact ⟨by simp [ppD, enD, shD, fD, PyData.canLay0, PyData.canLayAll0, ok], by simp [ppD, enD, shD, fD, PyData.depth, PyData.depthAll], by simp [ppD, enD, shD, fD, PyData.hasDict, PyData.hasDictAll]⟩
theorem flat_shapedL {ds : List PyData} (h : ∀ d ∈ ds, Flat d) : SeqAt.shaped (.list ds) = true ∧ (PyData.list ds).hasDict = false := by
  obtain ⟨a, b, c⟩ := flat_all h
  refine ⟨shaped_of (by simpa [PyData.canLay0] using a) ?_, by simpa [PyData.hasDict] using c⟩
  simp only [PyData.depth]
  omega
end KP

set_option Elab.async false
set_option linter.all false
set_option maxRecDepth 100000
set_option maxHeartbeats 2000000
/-! ### tuples whose object is known to have no dict: made by tuple(list), cut, asked for a place -/
namespace KX
open PySem PySem.Spec PyProof.Rows L2
/-- a tuple with no dict of its own -/
def FzV (H : Hp) (v : V) : Prop := ∃ (a : Addr) (xs : List V) (o : Obj), v = .ref a ∧ o.dict = none ∧ H a = some (.frz o (.tup xs))
theorem FzV.same {H H' : Hp} {v : V} (h : FzV H v) (s : Same H H') : FzV H' v := by
  obtain ⟨a, xs, o, e, d, q⟩ := h
  exact ⟨a, xs, o, e, d, s _ _ q⟩
section
variable {X : Cx} {a : Expr} {ta : TE}
def kTupF (K : PySem.W.Frag) (x : V) (H : Hp) (Q : VK) : Prop := ∃ p xs, x = .ref p ∧ SqL K H p xs ∧ ∀ q o, H q = none → o.dict = none → Q (.ref q) (upd H q (.frz o (.tup xs)))
theorem rl_tupleF (pins : List (Addr × Obj)) (s : Shared) (σ : L2.St) (H : Hp) (x : V) (v : Value) (Q : VK) (I : Inv X pins σ H s) (r : RelV x v) (h : kTupF X.K x H Q) :
    wpAny (model X.prog X.w) X.A (call (.type "tuple") [v]) (EP X pins σ Q) X.xe s := by
  obtain ⟨p, xs, rfl, hs, q⟩ := h
  obtain rfl : v = .ref p := r
  obtain ⟨its, rv, pl, hz⟩ := I.list hs
  refine call_tuple_list pl.isList (fun h' hk => ?_) (by rw [List.size_toArray, ← rv.length]; exact hz)
  have I1 : Inv X pins σ H { s with heap := h' } := I.kept (t' := s.toks) hk
  have I2 : Inv X pins σ (upd H h'.objs.size (.frz { cls := .type "tuple", data := .seq its.toArray } (.tup xs))) { s with heap := h'.push { cls := .type "tuple", data := .seq its.toArray } } :=
    I1.laid (t' := s.toks) (fun b o e => Heap.get?_push_of_some _ e) (Nat.le_refl _) (show ObjOk X.prog X.w _ _ _ (.frz _ (.tup xs)) from ⟨Heap.get?_push_size _ rfl, hz, its, rv, IsTup.new _ _⟩)
  exact ⟨.ref h'.objs.size, _, I2, rfl, q _ _ (I1.hok.fresh (Nat.le_refl _)) rfl⟩
theorem pe_tupleOfF {p pos : Pos} (hg : Gl X "tuple") (hm : X.mg "tuple" = none) (ha : PE X a ta) (na : starEach [a] X.env = (false, eval a X.env) :: starEach [] X.env := by rfl) :
    PE X (.Call (.Name "tuple" p) [a] [] pos) (tThen ta (kTupF X.K)) := by
  refine ⟨fun pins s σ H Q I h => ?_⟩
  exact Call_ (ld_blt I hg hm boot_tuple (PyProof.Rows.callWith_type1 (one_arg ha I h (fun v s2 x H2 I2 r q => rl_tupleF pins s2 σ H2 x v Q I2 r q) na) na))
def rSlF (K : PySem.W.Frag) : V → Option Int → Option Int → Hp → VK → Prop := fun x lo hi H Q => ∃ a xs o, x = .ref a ∧ H a = some (.frz o (.tup xs)) ∧ 
  (HT.sIx xs.length 0 lo = 0 ∧ HT.sIx xs.length xs.length hi = xs.length → Q (.ref a) H) ∧ (¬ (HT.sIx xs.length 0 lo = 0 ∧ HT.sIx xs.length xs.length hi = xs.length) → ∀ p o', H p = none → o'.dict = none → Q (.ref p) (upd H p (.frz o' (.tup (cutV xs lo hi)))))
theorem sl_tupF : SlR X (rSlF X.K) := by
  intro pins s σ H x v vl vu lo hi sl Q I rx hs pl pu h
  obtain ⟨a, xs, o, rfl, hx, q1, q2⟩ := h
  cases rx
  obtain ⟨its, r, ht, hz⟩ := I.tuple (show SqT X.K H a xs from .inl (.inr ⟨o, hx⟩))
  have hlen : its.toArray.size = xs.length := by rw [List.size_toArray]; exact r.length.symm
  refine ⟨"tuple", _, PyProof.Rows.slot_tuple_getitem.lookup, ht.typeIs, ?_⟩
  by_cases hw : HT.sIx xs.length 0 lo = 0 ∧ HT.sIx xs.length xs.length hi = xs.length
  · exact getItem_tuple_whole ht hs pl pu (by rw [hlen]; exact hw) ⟨.ref a, H, I, rfl, q1 hw⟩
  · refine HT.getItem_tuple_cut ht hs pl pu (by rw [hlen]; exact hw) ?_ (by rw [hlen]; exact hz)
    rw [hlen]
    refine ⟨.ref s.heap.objs.size, _, I.laid (t' := s.toks) (o := .frz { cls := .type "tuple", data := .seq ((its.toArray.toList.drop (HT.sIx xs.length 0 lo)).take (HT.sIx xs.length xs.length hi - HT.sIx xs.length 0 lo)).toArray } (.tup (cutV xs lo hi))) (fun b ob q => Heap.get?_push_of_some _ q) (Nat.le_refl _) ?_, rfl, q2 hw _ _ (I.hok.fresh (Nat.le_refl _)) rfl⟩
    exact ⟨Heap.get?_push_size _ rfl, Nat.le_trans (cutV_length xs lo hi) hz, _, (r.drop (HT.sIx xs.length 0 lo)).take (HT.sIx xs.length xs.length hi - HT.sIx xs.length 0 lo), IsTup.new _ _⟩
theorem fzV_is {pins : List (Addr × Obj)} {σ : L2.St} {H : Hp} {s : Shared} {x : V} {v : Value} (I : Inv X pins σ H s) (r : RelV x v) (ty : FzV H x) :
    s.TypeIs v "tuple" ∧ ∀ a, v = .ref a → ∃ ob, s.heap.get? a = some ob ∧ ob.dict = none := by
  obtain ⟨a, xs, o, rfl, d, e⟩ := ty
  obtain rfl : v = .ref a := r
  obtain ⟨h1, _, its, _, ht⟩ := (show ObjOk X.prog X.w H s.heap a (.frz o (.tup xs)) from I.hok a _ e)
  exact ⟨ht.typeIs, fun b hb => by cases hb; exact ⟨o, h1, d⟩⟩
def tBMF (r : V → List V → Hp → VK → Prop) (to : TE) (t : TA) : TE := fun σ H Q => to σ H fun x H1 => FzV H1 x ∧ t σ H1 fun xs H2 => r x xs H2 Q
variable {o e : Expr} {es : List Expr} {to : TE} {t : TA} {name : Str} {apos cpos : Pos} {id : String} {r : V → List V → Hp → VK → Prop}
theorem pe_bmF (pa : PlainAttrs "tuple") (slot : Slot "tuple" name id) (hty : typeOf (.builtin id) = pure (.type "method_descriptor")) (hm : MtR X id r) (ho : PE X o to) (ha : PA X (e :: es) t)
    (hbase : attributeBase o name X.env (eval o X.env) = eval o X.env := by rfl)
    (hfew : ((backTo cpos (starEach (e :: es) X.env)).all (fun x => !x.1) && (backToKw cpos (keywordEach [] X.env)).all (fun x => x.1.isSome)
      && decide ((e :: es).length + ([] : List Keyword).length + (if ([] : List Keyword).isEmpty then 0 else 1) < 30)) = true := by rfl)
    (hline : (apos.endLine == cpos.line) = true := by rfl) (hs : starEach (e :: es) X.env = (false, eval e X.env) :: starEach es X.env := by rfl) (hplain : (backTo cpos (starEach es X.env)).any (·.1) = false := by rfl) :
    PE X (.Call (.Attribute o name apos) (e :: es) [] cpos) (tBMF r to t) := by
  refine ⟨fun pins s σ H Q I h => ?_⟩
  refine wpAny_Call_method_late hbase hfew hline rfl (thn (ho.run pins s σ H _ I h) fun v s1 ⟨x, H1, I1, r1, ty, q1⟩ => ?_)
  obtain ⟨h1, h2⟩ := fzV_is I1 r1 ty
  refine ⟨"tuple", id, pa, slot, hty, h1, h2, ?_⟩
  have hA := ha.run cpos pins s1 σ H1 _ I1 q1
  rw [hs] at hA ⊢
  refine Calls.callWith_builtin (by show (false || (backTo cpos (starEach es X.env)).any (·.1)) = false; rw [hplain] <;> rfl) (Calls.evalArgs_plain ?_)
  exact thn hA fun us s2 ⟨vs, H2, I2, r2, q2⟩ => hm pins s2 σ H2 x vs v us Q I2 r1 r2 q2
end
end KX

set_option Elab.async false
set_option linter.all false
set_option maxRecDepth 100000
set_option maxHeartbeats 4000000
/-! ### drawn nets that are nets: the draws -/
namespace KP
open PySem PySem.Spec PyProof.Rows L2 KX KT KJ KS FR
structure TxD (mg : Str → Option Value) : Prop extends TxL mg where
  set : mg "set" = none
  sorted : mg "sorted" = none
  list : mg "list" = none
  repr : mg "repr" = none
  max : mg "max" = none
  min : mg "min" = none
def spPart2 : Sp := fun vs H Q _ => ∃ j n, vs = [.ref j] ∧ JarAt H j n ∧ n ≤ 900000 ∧ ∀ v x H', Told x → Th (hid j H') v (fD x) → KJ.But j H H' → JarAt H' j (n + 3) → Q v H'
def spLot2 : Sp := fun vs H Q _ => ∃ j, ∃ m n : Nat, vs = [.ref j, .int (m : Nat)] ∧ 1 ≤ m ∧ m ≤ 4 ∧ JarAt H j n ∧ n ≤ 900000 ∧ ∀ v ns H', GoodT m ns → Th (hid j H') v (.tuple (natsD ns)) → FzV (hid j H') v → KJ.But j H H' → JarAt H' j (n + 2) → Q v H'
/-- a net whose fifth part has no dict of its own -/
def NetZ (H : Hp) (v : V) : Prop := ∃ (a : Addr) (p0 p1 p2 p3 u : V), v = .ref a ∧ H a = some (.tup [p0, p1, p2, p3, u]) ∧ FzV H u
theorem NetZ.same {H H' : Hp} {v : V} (h : NetZ H v) (s : Same H H') : NetZ H' v := by
  obtain ⟨a, p0, p1, p2, p3, u, e, q, f⟩ := h
  exact ⟨a, p0, p1, p2, p3, u, e, s _ _ q, f.same s⟩
def spMake2 : Sp := fun vs H Q _ => ∃ j n, vs = [.ref j, .int 4] ∧ JarAt H j n ∧ n ≤ 800000 ∧ ∀ v nt H', GoodN nt → Th (hid j H') v nt.d → NetZ (hid j H') v → KJ.But j H H' → JarAt H' j (n + 100) → Q v H'
theorem asc_card : ∀ {ns : List Nat} {m : Nat}, ns.Pairwise (· < ·) → (∀ i ∈ ns, i < m) → ns.length ≤ m := by
  intro ns m h1 h2
  have h : ∀ i (hi : i < ns.length), i ≤ ns[i] := by
    intro i
    induction i with
    | zero => intro _; exact Nat.zero_le _
    | succ i ih =>
      intro hi
      have a := ih (by omega)
      have b := List.pairwise_iff_getElem.mp h1 i (i + 1) (by omega) hi (by omega)
      omega
  by_cases c : ns.length = 0
  · omega
  · have a := h (ns.length - 1) (by omega)
    have b := h2 (ns[ns.length - 1]'(by omega)) (List.getElem_mem _)
    omega
theorem goodT_of {m : Nat} {ms : List Int} (hp : ms.Pairwise (· < ·)) (h0 : ∀ z ∈ ms, 0 ≤ z ∧ z < (m : Nat)) (hn : ms ≠ []) : GoodT m (ms.map Int.toNat) ∧ ms.map PyData.int = natsD (ms.map Int.toNat) := by
  have e : ms.map PyData.int = natsD (ms.map Int.toNat) := by
    unfold natsD
    rw [List.map_map]
    refine List.map_congr_left fun z hz => ?_
    have := (h0 z hz).1
    show PyData.int z = PyData.int ((z.toNat : Nat) : Int)
    rw [Int.toNat_of_nonneg this]
  have lt : ∀ i ∈ ms.map Int.toNat, i < m := fun i hi => by
    obtain ⟨z, hz, rfl⟩ := List.mem_map.mp hi
    have := h0 z hz
    omega
  have asc : (ms.map Int.toNat).Pairwise (· < ·) := by
    rw [List.pairwise_map]
    refine hp.imp_of_mem fun {a b} ha hb h => ?_
    have := h0 a ha
    have := h0 b hb
    omega
  exact ⟨⟨fun z => hn (List.map_eq_nil_iff.mp z), asc, lt, asc_card asc lt⟩, e⟩
theorem cut_map {ms : List Int} {k : Nat} : cutD (ms.map PyData.int) none (some (k : Int)) = (ms.take k).map PyData.int := by
  unfold cutD
  rw [HT.sIx_nat, HT.sIx_none, List.drop_zero, Nat.sub_zero, List.length_map, ← List.map_take]
  congr 1
  rw [← List.take_take, List.take_length]
theorem mk_lst {j : Addr} {σ : L2.St} {H : Hp} {ta : TA} {ds : List PyData} (hj : H j ≠ none) (h : MkA j ta σ H ds) (hl : ds.length ≤ 1000) : Mk j (tLst ta) σ H (.list ds) := fun H1 s Q q =>
  h H1 s _ fun vs H2 s2 t2 => ⟨Nat.le_trans (by rw [all2 t2]; exact hl) (by decide), fun p hp => by
    have sp := same_upd (o := .lst vs) hp
    have np := new_ne hp (same_ne (s.trans s2) hj)
    exact q _ _ (s2.trans sp) (.lst (by rw [hid_ne np]; exact upd_same) (ThAllj.same t2 sp))⟩
theorem mk_i {j : Addr} {σ : L2.St} {H : Hp} {i : Int} : Mk j (tC (.int i)) σ H (.int i) := mk_vi fun _ => vi_c
theorem lit_pair {j : Addr} {σ : L2.St} {a b : Int} : Lit j (tTup (tCons (tC (.int a)) (tCons (tC (.int b)) tNil))) σ (.tuple [.int a, .int b]) := lit_tup (litA_cons lit_int (litA_cons lit_int litA_nil)) (by simp)
abbrev nLot : List Str := ["jar", "many", "found", "keep", "at"]
abbrev nMk : List Str := ["jar", "most", "many", "unknowns", "pipes", "turn", "start", "aims", "share", "pipe", "at"]
section
variable {P : Program} {w : World} {K : PySem.W.Frag} {mg : Str → Option Value} {base : Heap}
end
end KP

set_option Elab.async false
set_option linter.all false
set_option maxRecDepth 100000
set_option maxHeartbeats 4000000
/-! ### drawn nets that are nets -/
namespace KP
open PySem PySem.Spec PyProof.Rows L2 KX KT KJ KS FR
section
variable {P : Program} {w : World} {K : PySem.W.Frag} {mg : Str → Option Value} {base : Heap}
end
end KP

set_option Elab.async false
set_option linter.all false
set_option maxRecDepth 100000
set_option maxHeartbeats 2000000
/-! ### what is asked of arguments, of nets and told fractions -/
namespace KP
open PySem PySem.Spec PyProof.Rows L2 KX KT KJ KS FR
mutual
/-- tuples, ints, texts alone -/
def tpD : PyData → Bool
  | .tuple ds => tpAll ds
  | .list _ => false
  | .dict _ => false
  | _ => true
def tpAll : List PyData → Bool
  | [] => true
  | d :: ds => tpD d && tpAll ds
end
theorem tpAll_of : ∀ {ds : List PyData}, (∀ d ∈ ds, tpD d = true) → tpAll ds = true
  | [], _ => rfl
  | d :: ds, h => by
    simp only [tpAll, Bool.and_eq_true]
    exact ⟨h d List.mem_cons_self, tpAll_of fun e he => h e (List.mem_cons_of_mem _ he)⟩
theorem th_tO {H : Hp} {v : V} {d : PyData} (h : Th H v d) : tpD d = true → Th (tO H) v d := by
  refine Th.rec (motive_1 := fun v d _ => tpD d = true → Th (tO H) v d) (motive_2 := fun vs ds _ => tpAll ds = true → ThAll (tO H) vs ds) (fun _ => .non) (fun b _ => .bl b) (fun i _ => .int i) (fun x _ => .str x)
    (fun _ _ _ z => by simp [tpD] at z) (fun q _ ih z => .tup (tO_rd q) (ih (by simpa [tpD] using z))) (fun _ z => by simp [tpD] at z) (fun _ => .nil) (fun _ _ a b z => ?_) h
  simp only [tpAll, Bool.and_eq_true] at z
  exact .cons (a z.1) (b z.2)
theorem tp_f (x : Fr) : tpD (fD x) = true := by simp [fD, tpD, tpAll]
theorem tp_pp (p : Pp) : tpD (ppD p) = true := by
  cases p with
  | mk s e sh => cases sh <;> cases e <;> simp [ppD, enD, shD, fD, tpD, tpAll]
theorem tp_nats (ns : List Nat) : tpAll (natsD ns) = true := tpAll_of fun d hd => by
  obtain ⟨i, _, rfl⟩ := List.mem_map.mp hd
  rfl
theorem tp_net (n : NetM) : tpD n.d = true := by
  have h : tpAll (n.ps.map ppD) = true := tpAll_of fun d hd => by
    obtain ⟨p, _, rfl⟩ := List.mem_map.mp hd
    exact tp_pp p
  simp [NetM.d, tpD, tpAll, h, tp_nats]
theorem tp_fs (as : List Fr) : tpD (.tuple (as.map fD)) = true := by
  have h : tpAll (as.map fD) = true := tpAll_of fun d hd => by
    obtain ⟨p, _, rfl⟩ := List.mem_map.mp hd
    exact tp_f p
  simp [tpD, h]
/-- a net's parts -/
theorem net_parts {H : Hp} {x : V} {n : NetM} (h : Th (tO H) x n.d) : ∃ a ps fs ss, x = .ref a ∧ tO H a = some (.tup [.int (n.m : Nat), .int (n.u : Nat), ps, fs, ss]) ∧ Th (tO H) ps (.tuple (n.ps.map ppD)) ∧ Th (tO H) fs (.tuple (natsD n.fs)) ∧ Th (tO H) ss (.tuple (natsD n.ss)) := by
  cases h with
  | tup' e h => cases h with
    | cons a1 h => cases h with
      | cons a2 h => cases h with
        | cons a3 h => cases h with
          | cons a4 h => cases h with
            | cons a5 h =>
              cases h
              cases a1
              cases a2
              exact ⟨_, _, _, _, rfl, tO_eq e, a3, a4, a5⟩
theorem tup_parts {H : Hp} {x : V} {ds : List PyData} (h : Th (tO H) x (.tuple ds)) : ∃ a xs, x = .ref a ∧ tO H a = some (.tup xs) ∧ ThAll (tO H) xs ds := by
  cases h with
  | tup' e h => exact ⟨_, _, rfl, tO_eq e, h⟩
theorem frv_of {K : PySem.W.Frag} {H : Hp} {v : V} {x : Fr} (h : Th (tO H) v (fD x)) : FrV K H v x := by
  cases h with
  | tup' e h => cases h with
    | cons a1 h => cases h with
      | cons a2 h =>
        cases h
        cases a1
        cases a2
        exact ⟨_, rfl, SqT.of e⟩
def ToldS (as : List Fr) : Prop := ∀ a ∈ as, Told a
def AsOk (n : NetM) (as : List Fr) : Prop := as.length = n.u ∧ ToldS as
def FiOk (n : NetM) (fl : List (List Fr)) : Prop := fl.length ≤ 30 ∧ ∀ r ∈ fl, r.length = n.fs.length ∧ ToldS r
def flD (fl : List (List Fr)) : PyData := .tuple (fl.map fun r => .tuple (r.map fD))
def spNeedNet (Ps : List Addr) : Sp := fun vs H Q _ => ∃ x n, vs = [x] ∧ GoodN n ∧ Th (tO H) x n.d ∧ Tbs Ps H ∧ ∀ H', Grown Ps H H' → Q .non H'
def spNeedAs : Sp := fun vs H Q _ => ∃ x y n as, vs = [x, y] ∧ Th (tO H) x (NetM.d n) ∧ AsOk n as ∧ Th (tO H) y (.tuple (as.map fD)) ∧ ∀ H', Same H H' → Q .non H'
def spIsFi (Ps : List Addr) : Sp := fun vs H Q _ => ∃ x y n r, vs = [x, y] ∧ Th (tO H) x (NetM.d n) ∧ r.length = n.fs.length ∧ ToldS r ∧ Th (tO H) y (.tuple (r.map fD)) ∧ Tbs Ps H ∧ ∀ H', Grown Ps H H' → Q (.bl true) H'
def spNeedFi (Ps : List Addr) : Sp := fun vs H Q _ => ∃ x y n fl, vs = [x, y] ∧ Th (tO H) x (NetM.d n) ∧ FiOk n fl ∧ Th (tO H) y (flD fl) ∧ Tbs Ps H ∧ ∀ H', Grown Ps H H' → Q .non H'
theorem told_all {as : List Fr} (h : ToldS as) : (as.map fD).all isTold = true := by
  rw [List.all_eq_true]
  intro d hd
  obtain ⟨x, hx, rfl⟩ := List.mem_map.mp hd
  exact told_is (h x hx)
section
variable {P : Program} {w : World} {K : PySem.W.Frag} {mg : Str → Option Value} {base : Heap}
abbrev nNA : List Str := ["net", "assignment", "index", "share"]
theorem vi_netix {σ : L2.St} {H : Hp} {i : Nat} {a : Addr} {xs : List V} {k : Int} {v : V} (h : σ[i]? = some (some (.ref a))) (e : tO H a = some (.tup xs)) (hk : atI xs k = some v) : Vi (tOp (rIxT K) (tVar i) (tC (.int k))) σ H v :=
  vi_op (vi_var h) vi_c fun Q q => ⟨a, xs, k, v, rfl, rfl, SqT.of (tO_same H _ _ e), hk, q⟩
abbrev nNF : List Str := ["net", "fillings", "index", "filling"]
end
end KP

set_option Elab.async false
set_option linter.all false
set_option maxRecDepth 100000
set_option maxHeartbeats 2000000
/-! ### tables: the data; lists of lists in the heap -/
namespace KP
open PySem PySem.Spec PyProof.Rows L2 KX KT KJ KS FR
abbrev Tab := List (List Fr)
def gt (t : Tab) (i k : Nat) : Fr := (t.getD i []).getD k (0, 1)
def st (t : Tab) (i k : Nat) (x : Fr) : Tab := t.set i ((t.getD i []).set k x)
def partF (as : List Fr) : Nat ⊕ Fr → Fr
  | .inl j => as.getD j (0, 1)
  | .inr x => x
def step1 (t : Tab) (s : Nat) (x : Fr) : Tab := st t s s (lesF (gt t s s) x)
def stepF (as : List Fr) (t : Tab) (p : Pp) : Tab := match p.e with
  | none => step1 t p.s (partF as p.sh)
  | some k => st (step1 t p.s (partF as p.sh)) k p.s (addF (gt (step1 t p.s (partF as p.sh)) k p.s) (partF as p.sh))
def row0 (m i : Nat) : List Fr := (List.range m).map fun k => if i = k then (1, 1) else (0, 1)
def tab0 (m : Nat) : Tab := (List.range m).map (row0 m)
def tabF (n : NetM) (as : List Fr) : Tab := n.ps.foldl (stepF as) (tab0 n.m)
/-- m rows of m -/
structure Sq (m : Nat) (t : Tab) : Prop where
  len : t.length = m
  row : ∀ i, i < m → (t.getD i []).length = m
theorem Sq.st {m : Nat} {t : Tab} (h : Sq m t) (i k : Nat) (x : Fr) : Sq m (KP.st t i k x) := by
  refine ⟨by unfold KP.st; rw [List.length_set]; exact h.len, fun i' hi' => ?_⟩
  have hr := h.row i' hi'
  unfold KP.st
  rw [List.getD_eq_getElem?_getD, List.getElem?_set]
  rw [List.getD_eq_getElem?_getD] at hr
  by_cases c : i = i'
  · subst c
    rw [if_pos rfl, if_pos (by rw [h.len]; exact hi'), List.getD_eq_getElem?_getD]
    show (List.set _ _ _).length = m
    rw [List.length_set]
    exact hr
  · rw [if_neg c]
    exact hr
theorem Sq.step {m : Nat} {t : Tab} (h : Sq m t) (as : List Fr) (p : Pp) : Sq m (stepF as t p) := by
  unfold stepF step1
  split
  · exact h.st _ _ _
  · exact (h.st _ _ _).st _ _ _
theorem sq0 (m : Nat) : Sq m (tab0 m) := by
  refine ⟨by simp [tab0], fun i hi => ?_⟩
  rw [List.getD_eq_getElem?_getD]
  simp [tab0, hi, row0]
theorem sqF (n : NetM) (as : List Fr) : Sq n.m (tabF n as) := by
  have h : ∀ (ps : List Pp) (t : Tab), Sq n.m t → Sq n.m (ps.foldl (stepF as) t) := by
    intro ps
    induction ps with
    | nil => exact fun t h => h
    | cons p ps ih => exact fun t h => ih _ (h.step as p)
  exact h _ _ (sq0 _)
/-- bounds of all entries -/
def TBd (a : Nat) (N : Nat) (t : Tab) : Prop := ∃ M, 0 < M ∧ M < 2 ^ a ∧ ∀ row ∈ t, ∀ x ∈ row, Bd M N x
theorem told_pow {x : Fr} (h : Told x) : 0 < x.2.natAbs ∧ x.2.natAbs < 2 ^ 10 := by
  have h1 := h.pos
  have h2 := h.d
  exact ⟨by omega, Nat.lt_of_lt_of_le (show x.2.natAbs < 1000 by omega) (by decide)⟩
theorem told_sz {x : Fr} (h : Told x) : Sz 4000 x := ((told_bd h).sz (told_pow h).1 (told_pow h).2 (b := 10) (by decide)).mono (by decide)
theorem gt_mem {m : Nat} {t : Tab} (h : Sq m t) {i k : Nat} (hi : i < m) (hk : k < m) : ∃ row ∈ t, gt t i k ∈ row := by
  have h1 := h.row i hi
  have h2 : i < t.length := by rw [h.len]; exact hi
  have e1 : t.getD i [] = t[i] := by
    rw [List.getD_eq_getElem?_getD, List.getElem?_eq_getElem h2]
    rfl
  rw [e1] at h1
  have h3 : k < (t[i]).length := by omega
  refine ⟨t[i], List.getElem_mem _, ?_⟩
  unfold gt
  rw [e1]
  have e2 : (t[i]).getD k (0, 1) = (t[i])[k] := by
    rw [List.getD_eq_getElem?_getD, List.getElem?_eq_getElem h3]
    rfl
  rw [e2]
  exact List.getElem_mem _
theorem TBd.at {m a N : Nat} {t : Tab} (h : TBd a N t) (sq : Sq m t) {i k : Nat} (hi : i < m) (hk : k < m) : ∃ M, 0 < M ∧ M < 2 ^ a ∧ Bd M N (gt t i k) := by
  obtain ⟨M, h0, h1, h2⟩ := h
  obtain ⟨row, hr, hx⟩ := gt_mem sq hi hk
  exact ⟨M, h0, h1, h2 row hr _ hx⟩
theorem mem_st {t : Tab} {i k : Nat} {x : Fr} {row : List Fr} {y : Fr} (hr : row ∈ st t i k x) (hy : y ∈ row) : y = x ∨ ∃ row ∈ t, y ∈ row := by
  unfold st at hr
  rcases List.mem_or_eq_of_mem_set hr with h | h
  · exact .inr ⟨row, h, hy⟩
  · rw [h] at hy
    rcases List.mem_or_eq_of_mem_set hy with h2 | h2
    · rw [List.getD_eq_getElem?_getD] at h2
      cases e : t[i]? with
      | none =>
        rw [e] at h2
        cases h2
      | some r =>
        rw [e] at h2
        exact .inr ⟨r, List.mem_of_getElem? e, h2⟩
    · exact .inl h2
/-- an entry worked out of entries and a told fraction -/
theorem TBd.put {m a N : Nat} {t : Tab} (h : TBd a N t) (sq : Sq m t) {i k i' k' : Nat} (hi : i' < m) (hk : k' < m) {x : Fr} (hx : Told x) (f : Fr → Fr → Fr) (hf : ∀ {M N N' : Nat} {y z : Fr}, Bd M N y → Bd M N' z → Bd M (N + N') (f y z)) : TBd (a + 10) (N + 999) (st t i k (f (gt t i' k') x)) := by
  obtain ⟨M, h0, h1, h2⟩ := h
  obtain ⟨p0, p1⟩ := told_pow hx
  refine ⟨M * x.2.natAbs, Nat.mul_pos h0 p0, by rw [Nat.pow_add]; exact Nat.mul_lt_mul'' h1 p1, fun row hr y hy => ?_⟩
  have up : ∀ {y}, (∃ row ∈ t, y ∈ row) → Bd (M * x.2.natAbs) N y := fun ⟨r, hr, hy⟩ => (h2 r hr _ hy).mono (Nat.dvd_mul_right _ _) (Nat.le_refl _)
  rcases mem_st hr hy with rfl | h
  · exact hf (up (gt_mem sq hi hk)) ((told_bd hx).mono (Nat.dvd_mul_left _ _) (Nat.le_refl _))
  · exact (up h).mono (Nat.dvd_refl _) (by omega)
theorem tb0 (m : Nat) : TBd 1 1 (tab0 m) := by
  refine ⟨1, by decide, by decide, fun row hr x hx => ?_⟩
  obtain ⟨i, _, rfl⟩ := List.mem_map.mp hr
  obtain ⟨k, _, rfl⟩ := List.mem_map.mp hx
  split <;> exact ⟨by decide, ⟨1, rfl⟩, by decide⟩
theorem part_told {u : Nat} {as : List Fr} {sh : Nat ⊕ Fr} (h : GoodS u sh) (hl : as.length = u) (ht : ToldS as) : Told (partF as sh) := by
  cases sh with
  | inl j =>
    have h : j < u := h
    show Told (as.getD j (0, 1))
    rw [List.getD_eq_getElem?_getD, List.getElem?_eq_getElem (by omega)]
    exact ht _ (List.getElem_mem _)
  | inr x => exact h
theorem bdm_put {m M N : Nat} {t : Tab} (h2 : ∀ row ∈ t, ∀ x ∈ row, Bd M N x) (sq : Sq m t) {i k i' k' : Nat} (hi : i' < m) (hk : k' < m) {x : Fr} (hx : Told x) (hd : x.2.natAbs ∣ M) (f : Fr → Fr → Fr) (hf : ∀ {M N N' : Nat} {y z : Fr}, Bd M N y → Bd M N' z → Bd M (N + N') (f y z)) :
    ∀ row ∈ st t i k (f (gt t i' k') x), ∀ x ∈ row, Bd M (N + 999) x := fun row hr y hy => by
  have up : ∀ {y}, (∃ row ∈ t, y ∈ row) → Bd M N y := fun ⟨r, hr, hy⟩ => h2 r hr _ hy
  rcases mem_st hr hy with rfl | h
  · exact hf (up (gt_mem sq hi hk)) ((told_bd hx).mono hd (Nat.le_refl _))
  · exact (up h).mono (Nat.dvd_refl _) (by omega)
theorem TBd.step {m u a N : Nat} {t : Tab} {as : List Fr} {p : Pp} (h : TBd a N t) (sq : Sq m t) (g : GoodP m u p) (hl : as.length = u) (ht : ToldS as) : TBd (a + 10) (N + 1998) (stepF as t p) := by
  have hp := part_told g.sh hl ht
  obtain ⟨p0, p1⟩ := told_pow hp
  obtain ⟨M, h0, h1, h2⟩ := h
  have z1 : ∀ row ∈ t, ∀ x ∈ row, Bd (M * (partF as p.sh).2.natAbs) N x := fun r hr x hx => (h2 r hr x hx).mono (Nat.dvd_mul_right _ _) (Nat.le_refl _)
  have z2 : ∀ row ∈ step1 t p.s (partF as p.sh), ∀ x ∈ row, Bd (M * (partF as p.sh).2.natAbs) (N + 999) x := bdm_put z1 sq g.s g.s hp (Nat.dvd_mul_left _ _) lesF Bd.les
  refine ⟨M * (partF as p.sh).2.natAbs, Nat.mul_pos h0 p0, by rw [Nat.pow_add]; exact Nat.mul_lt_mul'' h1 p1, ?_⟩
  unfold stepF
  split
  · exact fun r hr x hx => (z2 r hr x hx).mono (Nat.dvd_refl _) (by omega)
  · rename_i k hk
    have := bdm_put (i := k) (k := p.s) z2 (sq.st _ _ _) (g.e k hk).1 g.s hp (Nat.dvd_mul_left _ _) addF Bd.add
    exact this
/-- row by row -/
structure FrL (K : PySem.W.Frag) (H : Hp) (vs : List V) (row : List Fr) : Prop where
  len : vs.length = row.length
  get : ∀ (k : Nat) (v : V) (x : Fr), vs[k]? = some v → row[k]? = some x → FrV K H v x
theorem FrL.tk {K : PySem.W.Frag} {H H' : Hp} {vs : List V} {row : List Fr} (h : FrL K H vs row) (s : Tk H H') : FrL K H' vs row := ⟨h.len, fun k v x a b => (h.get k v x a b).tk s⟩
theorem FrL.set {K : PySem.W.Frag} {H : Hp} {vs : List V} {row : List Fr} (h : FrL K H vs row) (k : Nat) {w : V} {x : Fr} (f : FrV K H w x) : FrL K H (vs.set k w) (row.set k x) := by
  refine ⟨by rw [List.length_set, List.length_set]; exact h.len, fun i v y a b => ?_⟩
  rw [List.getElem?_set] at a b
  have hl := h.len
  by_cases c : k = i
  · rw [if_pos c] at a b
    by_cases c2 : k < vs.length
    · rw [if_pos c2] at a
      rw [if_pos (by omega)] at b
      cases a
      cases b
      exact f
    · rw [if_neg c2] at a
      cases a
  · rw [if_neg c] at a b
    exact h.get i v y a b
theorem FrL.snoc {K : PySem.W.Frag} {H : Hp} {vs : List V} {row : List Fr} (h : FrL K H vs row) {w : V} {x : Fr} (f : FrV K H w x) : FrL K H (vs ++ [w]) (row ++ [x]) := by
  have hl := h.len
  refine ⟨by rw [List.length_append, List.length_append, hl]; rfl, fun i v y a b => ?_⟩
  by_cases c : i < vs.length
  · rw [List.getElem?_append_left c] at a
    rw [List.getElem?_append_left (by omega)] at b
    exact h.get i v y a b
  · rw [List.getElem?_append_right (by omega)] at a
    rw [List.getElem?_append_right (by omega)] at b
    have e : i - vs.length = 0 := by
      have := (List.getElem?_eq_some_iff.mp a).1
      rw [List.length_singleton] at this
      omega
    rw [e] at a
    rw [← hl, e] at b
    cases a
    cases b
    exact f
theorem FrL.nil {K : PySem.W.Frag} {H : Hp} : FrL K H [] [] := ⟨rfl, fun k v x a => by simp at a⟩
theorem frl_of {K : PySem.W.Frag} {H : Hp} : ∀ {vs : List V} {row : List Fr}, ThAll (tO H) vs (row.map fD) → FrL K H vs row := fun {vs row} h => by
  refine ⟨by rw [all2 h, List.length_map], fun k v x a b => ?_⟩
  obtain ⟨d, hd, td⟩ := all_get h a
  rw [List.getElem?_map, b] at hd
  cases hd
  exact frv_of td
/-- a list of lists, all new since H0 -/
structure TabL (K : PySem.W.Frag) (H0 H : Hp) (T : Addr) (rs : List Addr) (t : Tab) : Prop where
  top : H T = some (.lst (rs.map V.ref))
  nd : rs.Nodup
  out : T ∉ rs
  new : ∀ r ∈ rs, H0 r = none
  len : rs.length = t.length
  row : ∀ (i : Nat) (r : Addr) (row : List Fr), rs[i]? = some r → t[i]? = some row → ∃ vs, H r = some (.lst vs) ∧ FrL K H vs row
theorem TabL.same {K : PySem.W.Frag} {H0 H H' : Hp} {T : Addr} {rs : List Addr} {t : Tab} (h : TabL K H0 H T rs t) (s : Same H H') : TabL K H0 H' T rs t :=
  ⟨s _ _ h.top, h.nd, h.out, h.new, h.len, fun i r row a b => let ⟨vs, e, f⟩ := h.row i r row a b; ⟨vs, s _ _ e, f.tk (Tk.same s)⟩⟩
theorem grown_put {Ps : List Addr} {H0 H : Hp} {r : Addr} {xs ys : List V} (g : Grown Ps H0 H) (h0 : H0 r = none) (h : H r = some (.lst xs)) : Grown Ps H0 (upd H r (.lst ys)) := by
  refine ⟨fun b u e n => ?_, fun P hP => ?_⟩
  · rw [upd_ne (ne_of_none e h0)]
    exact g.sm b u e n
  · obtain ⟨ps, e, k⟩ := g.tbs P hP
    exact ⟨ps, by rw [upd_ne (fun z => by rw [z, h] at e; cases e)]; exact e, k⟩
/-- an entry, and storing there -/
theorem tab_at {K : PySem.W.Frag} {H0 H : Hp} {T : Addr} {rs : List Addr} {t : Tab} {m : Nat} (h : TabL K H0 H T rs t) (sq : Sq m t) {i k : Nat} (hi : i < m) (hk : k < m) :
    ∃ r vs v, rs[i]? = some r ∧ H r = some (.lst vs) ∧ vs[k]? = some v ∧ vs.length = m ∧ H0 r = none ∧ FrV K H v (gt t i k) ∧ ∀ {H'} {w x}, Same H H' → FrV K H' w x → TabL K H0 (upd H' r (.lst (vs.set k w))) T rs (st t i k x) := by
  have h2 : i < t.length := by rw [sq.len]; exact hi
  have h3 : i < rs.length := by rw [h.len]; exact h2
  have e1 := List.getElem?_eq_getElem h3
  have e2 := List.getElem?_eq_getElem h2
  obtain ⟨vs, e, f⟩ := h.row i _ _ e1 e2
  have hrow : (t[i]).length = m := by
    have := sq.row i hi
    rw [List.getD_eq_getElem?_getD, e2] at this
    exact this
  have lv : vs.length = m := by rw [f.len, hrow]
  have ek := List.getElem?_eq_getElem (show k < vs.length by omega)
  have er := List.getElem?_eq_getElem (show k < (t[i]).length by omega)
  refine ⟨rs[i], vs, vs[k], e1, e, ek, lv, h.new _ (List.getElem_mem _), ?_, fun {H' w x} s fw => ?_⟩
  · have := f.get k _ _ ek er
    have g1 : t.getD i [] = t[i] := by
      rw [List.getD_eq_getElem?_getD, e2]
      rfl
    have g2 : gt t i k = (t[i])[k] := by
      unfold gt
      rw [g1, List.getD_eq_getElem?_getD, er]
      rfl
    rw [g2]
    exact this
  · have e' := s _ _ e
    have nT : T ≠ rs[i] := fun z => h.out (by rw [z]; exact List.getElem_mem _)
    refine ⟨by rw [upd_ne nT]; exact s _ _ h.top, h.nd, h.out, h.new, by unfold st; rw [List.length_set]; exact h.len, fun i' r' row' a b => ?_⟩
    unfold st at b
    rw [List.getElem?_set] at b
    by_cases c : i = i'
    · subst c
      rw [e1] at a
      cases a
      rw [if_pos rfl, if_pos h2] at b
      cases b
      refine ⟨vs.set k w, upd_same, ?_⟩
      have z := ((f.tk (Tk.same s)).set k fw).tk (Tk.put (ys := vs.set k w) e')
      rw [List.getD_eq_getElem?_getD, e2]
      exact z
    · rw [if_neg c] at b
      obtain ⟨vs', e3, f3⟩ := h.row i' r' row' a b
      have nr : r' ≠ rs[i] := fun z => by
        have h4 := (List.getElem?_eq_some_iff.mp a)
        obtain ⟨h5, h6⟩ := h4
        exact c ((List.getElem_inj h.nd).mp (h6.trans z)).symm
      exact ⟨vs', by rw [upd_ne nr]; exact s _ _ e3, (f3.tk (Tk.same s)).tk (Tk.put e')⟩
/-- a tuple of tuples -/
def RowT (K : PySem.W.Frag) (H : Hp) (u : V) (row : List Fr) : Prop := ∃ b vs, u = .ref b ∧ tO H b = some (.tup vs) ∧ FrL K H vs row
theorem RowT.tk {K : PySem.W.Frag} {H H' : Hp} {u : V} {row : List Fr} (h : RowT K H u row) (s : Tk H H') : RowT K H' u row := by
  obtain ⟨b, vs, e, e2, f⟩ := h
  exact ⟨b, vs, e, s _ _ e2, f.tk s⟩
structure RowsT (K : PySem.W.Frag) (H : Hp) (us : List V) (t : Tab) : Prop where
  len : us.length = t.length
  get : ∀ (i : Nat) (u : V) (row : List Fr), us[i]? = some u → t[i]? = some row → RowT K H u row
theorem RowsT.tk {K : PySem.W.Frag} {H H' : Hp} {us : List V} {t : Tab} (h : RowsT K H us t) (s : Tk H H') : RowsT K H' us t := ⟨h.len, fun i u row a b => (h.get i u row a b).tk s⟩
theorem RowsT.nil {K : PySem.W.Frag} {H : Hp} : RowsT K H [] [] := ⟨rfl, fun k v x a => by simp at a⟩
theorem RowsT.snoc {K : PySem.W.Frag} {H : Hp} {vs : List V} {row : Tab} (h : RowsT K H vs row) {w : V} {x : List Fr} (f : RowT K H w x) : RowsT K H (vs ++ [w]) (row ++ [x]) := by
  have hl := h.len
  refine ⟨by rw [List.length_append, List.length_append, hl]; rfl, fun i v y a b => ?_⟩
  by_cases c : i < vs.length
  · rw [List.getElem?_append_left c] at a
    rw [List.getElem?_append_left (by omega)] at b
    exact h.get i v y a b
  · rw [List.getElem?_append_right (by omega)] at a
    rw [List.getElem?_append_right (by omega)] at b
    have e : i - vs.length = 0 := by
      have := (List.getElem?_eq_some_iff.mp a).1
      rw [List.length_singleton] at this
      omega
    rw [e] at a
    rw [← hl, e] at b
    cases a
    cases b
    exact f
def TabT (K : PySem.W.Frag) (H : Hp) (v : V) (t : Tab) : Prop := ∃ a us, v = .ref a ∧ tO H a = some (.tup us) ∧ RowsT K H us t
theorem TabT.tk {K : PySem.W.Frag} {H H' : Hp} {v : V} {t : Tab} (h : TabT K H v t) (s : Tk H H') : TabT K H' v t := by
  obtain ⟨b, vs, e, e2, f⟩ := h
  exact ⟨b, vs, e, s _ _ e2, f.tk s⟩
theorem ixN_nat {n i : Nat} (h : i < n) : ixN n (i : Nat) = some i := by
  unfold ixN
  rw [if_pos (by omega), if_pos (by omega), Int.toNat_natCast]
end KP

set_option Elab.async false
set_option linter.all false
set_option maxRecDepth 100000
set_option maxHeartbeats 4000000
/-! ### shares; the unit's rows -/
namespace KP
open PySem PySem.Spec PyProof.Rows L2 KX KT KJ KS FR
theorem th_ty {H : Hp} {v : V} {d : PyData} : Th (tO H) v d → Th H v d := Th.up
theorem same_put {H0 H : Hp} {p : Addr} {o : HO} (s : Same H0 H) (h : H0 p = none) : Same H0 (upd H p o) := fun b u e => by
  rw [upd_ne (ne_of_none e h)]
  exact s _ _ e
def spShareV : Sp := fun vs H Q _ => ∃ x y sh as u, vs = [x, y] ∧ Th (tO H) x (shD sh) ∧ GoodS u sh ∧ as.length = u ∧ Th (tO H) y (.tuple (as.map fD)) ∧ ∀ v, Th (tO H) v (fD (partF as sh)) → Q v H
/-- the mark of a share -/
def markV : Nat ⊕ Fr → V
  | .inl _ => .str "x"
  | .inr x => .int x.1
theorem share_parts {H : Hp} {x : V} {sh : Nat ⊕ Fr} (h : Th (tO H) x (shD sh)) : ∃ a y, x = .ref a ∧ tO H a = some (.tup [markV sh, y]) ∧ ∀ j, sh = .inl j → y = .int (j : Nat) := by
  cases sh with
  | inl j =>
    cases h with
    | tup' e h => cases h with
      | cons a1 h => cases h with
        | cons a2 h =>
          cases h
          cases a1
          cases a2
          exact ⟨_, _, rfl, tO_eq e, fun k z => by cases z; rfl⟩
  | inr x =>
    cases h with
    | tup' e h => cases h with
      | cons a1 h => cases h with
        | cons a2 h =>
          cases h
          cases a1
          cases a2
          exact ⟨_, _, rfl, tO_eq e, fun k z => by cases z⟩
theorem mark_scal (sh : Nat ⊕ Fr) : scal (markV sh) (.str "x") = true := by cases sh <;> rfl
theorem as_get {H : Hp} {ys : List V} {as : List Fr} {u j : Nat} (ta : ThAll (tO H) ys (as.map fD)) (hl : as.length = u) (hj : j < u) : ∃ v, ys[j]? = some v ∧ Th (tO H) v (fD (as.getD j (0, 1))) := by
  have ly : ys.length = as.length := by rw [all2 ta, List.length_map]
  have hy : j < ys.length := by omega
  obtain ⟨d, hd, td⟩ := all_get ta (List.getElem?_eq_getElem hy)
  refine ⟨_, List.getElem?_eq_getElem hy, ?_⟩
  rw [List.getElem?_map, List.getElem?_eq_getElem (show j < as.length by omega)] at hd
  cases hd
  rw [List.getD_eq_getElem?_getD, List.getElem?_eq_getElem (show j < as.length by omega)]
  exact td
section
variable {P : Program} {w : World} {K : PySem.W.Frag} {mg : Str → Option Value} {base : Heap}
theorem vi_mark {σ : L2.St} {H : Hp} {i : Nat} {a : Addr} {m y : V} (h : σ[i]? = some (some (.ref a))) (e : tO H a = some (.tup [m, y])) : Vi (tOp (rIxT K) (tVar i) (tC (.int 0))) σ H m := vi_netix h e rfl
end
end KP

set_option Elab.async false
set_option linter.all false
set_option maxRecDepth 100000
set_option maxHeartbeats 4000000
/-! ### comprehensions; the unit's rows -/
namespace KP
open PySem PySem.Spec PyProof.Rows L2 KX KT KJ KS FR
structure Cst (K : PySem.W.Frag) (mg : Str → Option Value) (aU aN : Addr) : Prop where
  mU : mg "UNIT" = some (.ref aU)
  mN : mg "NOUGHT" = some (.ref aN)
  cU : ∀ H, SqT K H aU [.int 1, .int 1]
  cN : ∀ H, SqT K H aN [.int 0, .int 1]
/-- a list of tuples of fractions -/
def RowsL (K : PySem.W.Frag) (H : Hp) (a : Addr) (t : Tab) : Prop := ∃ us, H a = some (.lst us) ∧ RowsT K H us t
def spUnit (K : PySem.W.Frag) : Sp := fun vs H Q _ => ∃ m : Nat, vs = [.int (m : Nat)] ∧ m ≤ 4 ∧ ∀ a H', H a = none → Same H H' → RowsL K H' a (tab0 m) → Q (.ref a) H'
theorem FrV.cst {K : PySem.W.Frag} {H : Hp} {a : Addr} {x : Fr} (h : ∀ H, SqT K H a [.int x.1, .int x.2]) : FrV K H (.ref a) x := ⟨a, rfl, h _⟩
def PvM (H1 : Hp) (D : Addr) (Rr : Hp → List V → Nat → Prop) (i : Nat) (H : Hp) : Prop := Same H1 H ∧ ∃ xs, H D = some (.lst xs) ∧ Rr H xs i
def Aft (H1 : Hp) (D : Addr) (Rr : Hp → List V → Nat → Prop) (k : Nat) : VK := fun y H4 => ∃ acc, H4 D = some (.lst acc) ∧ acc.length < sizeLine ∧ PvM H1 D Rr k (upd H4 D (.lst (acc ++ [y])))
theorem aft {H1 H4 : Hp} {D : Addr} {Rr : Hp → List V → Nat → Prop} {k : Nat} {xs : List V} {y : V} (hD : H1 D = none) (s : Same H1 H4) (e : H4 D = some (.lst xs)) (hl : xs.length < sizeLine) (r : Rr (upd H4 D (.lst (xs ++ [y]))) (xs ++ [y]) k) : Aft H1 D Rr k y H4 :=
  ⟨xs, e, hl, same_put s hD, _, upd_same, r⟩
/-- a comprehension with one name and no condition: the list by the turn -/
theorem lc_map {J : It} {n : Nat} {G : Hp → Prop} {Y : Nat → Hp → V → Hp → Prop} (wk : Walk J n G Y) {j : Nat} {te : TE} {vs : List Nat} {σ : L2.St} {H1 : Hp} {D : Addr} {Qd : Hp → Prop} (Rr : Hp → List V → Nat → Prop) (hD : H1 D = none) (hn : n ≤ 1000)
    (hlen : ∀ H xs i, Rr H xs i → xs.length = i) (r0 : Rr (upd H1 D (.lst [])) [] 0) (hG : ∀ H, Same H1 H → G H) (hw : ∀ x : V, wipe ((wipe σ vs).set j (some x)) vs = wipe σ vs)
    (hs : ∀ i x H H' xs, i < n → Same H1 H → H D = some (.lst xs) → xs.length < sizeLine → Rr H xs i → Y i H x H' → te ((wipe σ vs).set j (some x)) H' (Aft H1 D Rr (i + 1)))
    (hd : ∀ H xs, Same H1 H → H D = some (.lst xs) → Rr H xs n → Qd H) :
    ∃ W : Nat → Nat → Hp → Prop, (∃ m, W 0 m (upd H1 D (.lst []))) ∧ ∀ i m H, W i m H →
      (J.stop i H ∧ Qd H) ∨ (J.go i H ∧ ∃ Nx : Hp → Prop, (∀ H', Nx H' → ∃ m', m' < m ∧ W (i + 1) m' H') ∧ ∀ x H', J.yld i H x H' → gName j x (wipe σ vs) H' fun σ2 H2 => wipe σ2 vs = wipe σ vs ∧ tYes σ2 H2 fun b H3 =>
        if b = true then te σ2 H3 fun y H4 => ∃ acc, H4 D = some (.lst acc) ∧ acc.length < sizeLine ∧ Nx (upd H4 D (.lst (acc ++ [y]))) else Nx H3) := by
  refine lc_it wk (PvM H1 D Rr) ⟨same_put (Same.refl H1) hD, [], upd_same, r0⟩ (fun i H hi p => hG H p.1) ?_ ?_
  · rintro i x H H' hi ⟨s, xs, e, r⟩ y
    refine ⟨hw x, ?_⟩
    have l := hlen _ _ _ r
    exact hs i x H H' xs hi s e (Nat.lt_of_lt_of_le (show xs.length < 1001 by omega) (by decide)) r y
  · rintro H ⟨s, xs, e, r⟩
    exact hd H xs s e r
theorem row0_succ {m i k : Nat} : (List.range (k + 1)).map (fun k => if i = k then ((1, 1) : Fr) else (0, 1)) = (List.range k).map (fun k => if i = k then ((1, 1) : Fr) else (0, 1)) ++ [if i = k then (1, 1) else (0, 1)] := by
  rw [List.range_succ, List.map_append]
  rfl
theorem RowsT.len' {K : PySem.W.Frag} {H : Hp} {xs : List V} {f : Nat → List Fr} {i : Nat} (h : RowsT K H xs ((List.range i).map f)) : xs.length = i := by
  rw [h.len, List.length_map, List.length_range]
theorem FrL.len' {K : PySem.W.Frag} {H : Hp} {xs : List V} {f : Nat → Fr} {i : Nat} (h : FrL K H xs ((List.range i).map f)) : xs.length = i := by
  rw [h.len, List.length_map, List.length_range]
theorem pe_tupK {X : Cx} {K : PySem.W.Frag} {a : Expr} {ta : TE} {p pos : Pos} (hk : X.K = K) (hg : Gl X "tuple") (hm : X.mg "tuple" = none) (ha : PE X a ta) (na : starEach [a] X.env = (false, eval a X.env) :: starEach [] X.env := by rfl) :
    PE X (.Call (.Name "tuple" p) [a] [] pos) (tThen ta (kTup K)) := hk ▸ pe_tupleOf hg hm ha na
abbrev scRow : Scope := { kind := .function, names := [(".0", .local), ("row", .cell), ("tuple", .globalImplicit), ("range", .globalImplicit), ("many", .cell)], isGenerator := false, isCoroutine := false }
abbrev nUn : List Str := ["many", "row", "column"]
section
variable {P : Program} {w : World} {K : PySem.W.Frag} {mg : Str → Option Value} {base : Heap}
end
end KP

set_option Elab.async false
set_option linter.all false
set_option maxRecDepth 100000
set_option maxHeartbeats 4000000
/-! ### tables: storing in them, freezing them -/
namespace KP
open PySem PySem.Spec PyProof.Rows L2 KX KT KJ KS FR
theorem none_same {H H' : Hp} {l : Addr} (s : Same H H') (h : H' l = none) : H l = none := by
  cases e : H l with
  | none => rfl
  | some u => rw [s _ _ e] at h; cases h
def enV : Option Nat → V
  | none => .non
  | some k => .int (k : Nat)
theorem pipe_parts {H : Hp} {x : V} {p : Pp} (h : Th (tO H) x (ppD p)) : ∃ b sv, x = .ref b ∧ tO H b = some (.tup [.int (p.s : Nat), enV p.e, sv]) ∧ Th (tO H) sv (shD p.sh) := by
  cases h with
  | tup' e h => cases h with
    | cons a1 h => cases h with
      | cons a2 h => cases h with
        | cons a3 h =>
          cases h
          cases a1
          obtain ⟨s, en, sh⟩ := p
          cases en with
          | none => cases a2; exact ⟨_, _, rfl, tO_eq e, a3⟩
          | some k => cases a2; exact ⟨_, _, rfl, tO_eq e, a3⟩
section
variable {K : PySem.W.Frag} {σ : L2.St} {H0 H : Hp} {T : Addr} {rs : List Addr} {t : Tab} {m i k : Nat}
theorem i_tabset {Ps : List Addr} {E : XK} {o2 io ko uo : Nat} {u : V} {y : Fr} {f : Fr → Fr → Fr} {D : Ends} (h : TabL K H0 H T rs t) (gr : Grown Ps H0 H) (sq : Sq m t) (hi : i < m) (hk : k < m) (h2 : σ[o2]? = some (some (.ref T))) (h3 : σ[io]? = some (some (.int (i : Nat)))) (h4 : σ[ko]? = some (some (.int (k : Nat))))
    (h6 : σ[uo]? = some (some u)) (fu : FrV K H u y) (z1 : Sz 4000 (gt t i k)) (z2 : Sz 4000 y) (nx : ∀ H', Grown Ps H0 H' → Tk H H' → TabL K H0 H' T rs (st t i k (f (gt t i k) y)) → D.nx σ H') :
    tAsg (tCall (spBin K f) [] E (tCons (tOp (rIxL K) (tOp (rIxL K) (tVar o2) (tVar io)) (tVar ko)) (tCons (tVar uo) tNil))) (gSub (tOp (rIxL K) (tVar o2) (tVar io)) (tVar ko) rSetL) D σ H := by
  obtain ⟨r, vs, v, e1, e2, e3, lv, n0, fv, put⟩ := tab_at h sq hi hk
  have e1' : (rs.map V.ref)[i]? = some (.ref r) := by rw [List.getElem?_map, e1]; rfl
  refine ⟨_, h2, _, h3, T, _, _, _, rfl, rfl, SqL.of h.top, atI_nat e1', _, h4, r, vs, _, v, rfl, rfl, SqL.of e2, atI_nat e3, _, h6, v, u, _, y, rfl, fv, fu, z1, z2, fun w H1 s1 fw => ?_⟩
  have h1 := h.same s1
  have e2' := s1 _ _ e2
  refine ⟨_, h2, _, h3, T, _, _, _, rfl, rfl, SqL.of h1.top, atI_nat e1', _, h4, r, vs, _, k, rfl, rfl, e2', ixN_nat (by omega), ?_⟩
  exact nx _ (grown_put (gr.trans (Grown.same s1 gr.tbs)) n0 e2') ((Tk.same s1).trans (Tk.put e2')) (put s1 fw)
theorem i_freeze {Q : VK} {o2 j : Nat} {vs : List Nat} (h : TabL K H0 H T rs t) (tl : t.length ≤ 4) (h2 : σ[o2]? = some (some (.ref T))) (hw : ∀ x : V, wipe ((wipe σ vs).set j (some x)) vs = wipe σ vs) (hj : ∀ x : V, ((wipe σ vs).set j (some x))[j]? = some (some x))
    (k : ∀ v H', Same H H' → TabT K H' v t → Q v H') : tThen (tLc (iList K (tVar o2)) (gName j) tYes (tThen (tVar j) (kTup K)) vs) (kTup K) σ H Q := by
  refine ⟨_, h2, T, rfl, ⟨_, SqL.of h.top⟩, fun D hD => ?_⟩
  have ll : (rs.map V.ref).length = t.length := by rw [List.length_map, h.len]
  refine lc_map walk_list (fun H' xs i => RowsT K H' xs (t.take i) ∧ i ≤ t.length) hD (by omega) (fun _ _ i r => by rw [r.1.len, List.length_take]; have := r.2; omega) ⟨by rw [List.take_zero]; exact RowsT.nil, Nat.zero_le _⟩ (fun H' s => SqL.of (s _ _ h.top)) hw ?_ ?_
  · rintro i x _ H' xs hi s e hl ⟨r, hle⟩ ⟨rfl, hx⟩
    rw [List.getElem?_map] at hx
    have hr : i < rs.length := by rw [List.length_map] at hi; exact hi
    have ht : i < t.length := by omega
    rw [List.getElem?_eq_getElem hr] at hx
    cases hx
    obtain ⟨vs', e2, f2⟩ := h.row i _ _ (List.getElem?_eq_getElem hr) (List.getElem?_eq_getElem ht)
    refine ⟨_, hj _, .inl ⟨_, vs', rfl, SqL.of (s _ _ e2), fun q hq => ?_⟩⟩
    have sq := same_upd (o := .tup vs') hq
    refine aft hD (s.trans sq) (sq _ _ e) hl ?_
    have tk : Tk (upd H' q (.tup vs')) _ := Tk.put (ys := xs ++ [.ref q]) (sq _ _ e)
    refine ⟨?_, ht⟩
    rw [List.take_add_one, List.getElem?_eq_getElem ht]
    exact (r.tk ((Tk.same sq).trans tk)).snoc ⟨q, vs', rfl, tk _ _ (tO_of upd_same), f2.tk ((Tk.same (s.trans sq)).trans tk)⟩
  · rintro H' xs s e ⟨r, _⟩
    rw [ll, List.take_length] at r
    refine .inl ⟨D, xs, rfl, SqL.of e, fun q hq => ?_⟩
    have sq := same_upd (o := .tup xs) hq
    exact k _ _ (s.trans sq) ⟨q, xs, rfl, tO_of upd_same, r.tk (Tk.same sq)⟩
end
end KP

set_option Elab.async false
set_option linter.all false
set_option maxRecDepth 100000
set_option maxHeartbeats 4000000
/-! ### table_of -/
namespace KP
open PySem PySem.Spec PyProof.Rows L2 KX KT KJ KS FR
def spTable (K : PySem.W.Frag) (Ps : List Addr) : Sp := fun vs H Q _ => ∃ x y n as, vs = [x, y] ∧ GoodN n ∧ Th (tO H) x (NetM.d n) ∧ AsOk n as ∧ Th (tO H) y (.tuple (as.map fD)) ∧ Tbs Ps H ∧ ∀ v H', Grown Ps H H' → TabT K H' v (tabF n as) → Q v H'
abbrev nTb : List Str := ["net", "assignment", "table", "start", "end", "share", "size", "row"]
def rListOf (K : PySem.W.Frag) : List V → Hp → VK → Prop := fun xs H Q => ∃ p ys, xs = [.ref p] ∧ (SqL K H p ys ∨ SqT K H p ys) ∧ ∀ l, H l = none → Q (.ref l) (upd H l (.lst ys))
/-- the table after some pipes -/
def tabI (n : NetM) (as : List Fr) (i : Nat) : Tab := (n.ps.take i).foldl (stepF as) (tab0 n.m)
theorem tabI_zero (n : NetM) (as : List Fr) : tabI n as 0 = tab0 n.m := rfl
theorem tabI_all (n : NetM) (as : List Fr) : tabI n as n.ps.length = tabF n as := by unfold tabI; rw [List.take_length]; rfl
theorem tabI_succ {n : NetM} {as : List Fr} {i : Nat} {p : Pp} (h : n.ps[i]? = some p) : tabI n as (i + 1) = stepF as (tabI n as i) p := by
  unfold tabI
  rw [List.take_add_one, h, List.foldl_append]
  rfl
theorem tabI_sq (n : NetM) (as : List Fr) (i : Nat) : Sq n.m (tabI n as i) := by
  have h : ∀ (ps : List Pp) (t : Tab), Sq n.m t → Sq n.m (ps.foldl (stepF as) t) := by
    intro ps
    induction ps with
    | nil => exact fun t h => h
    | cons p ps ih => exact fun t h => ih _ (h.step as p)
  exact h _ _ (sq0 _)
theorem tabI_bd {n : NetM} {as : List Fr} (g : GoodN n) (ok : AsOk n as) : ∀ {i : Nat}, i ≤ n.ps.length → TBd (1 + 10 * i) (1 + 1998 * i) (tabI n as i)
  | 0, _ => tb0 _
  | i + 1, h => by
    have h2 : i < n.ps.length := by omega
    rw [tabI_succ (List.getElem?_eq_getElem h2)]
    have z := (tabI_bd g ok (i := i) (by omega)).step (tabI_sq n as i) (g.ps _ (List.getElem_mem h2)) ok.1 ok.2
    have e1 : 1 + 10 * (i + 1) = 1 + 10 * i + 10 := by omega
    have e2 : 1 + 1998 * (i + 1) = 1 + 1998 * i + 1998 := by omega
    rw [e1, e2]
    exact z
theorem TBd.sz {m a N : Nat} {t : Tab} (h : TBd a N t) (sq : Sq m t) {i k : Nat} (hi : i < m) (hk : k < m) (ha : a ≤ 300) (hN : N ≤ 30000) : Sz 4000 (gt t i k) := by
  obtain ⟨M, m0, m1, b⟩ := h.at sq hi hk
  exact (b.sz m0 m1 (b := 16) (Nat.lt_of_le_of_lt hN (by decide))).mono (by omega)
section
variable {P : Program} {w : World} {K : PySem.W.Frag} {mg : Str → Option Value} {base : Heap}
end
end KP

set_option Elab.async false
set_option linter.all false
set_option maxRecDepth 100000
set_option maxHeartbeats 4000000
/-! ### the law's own table -/
namespace KP
open PySem PySem.Spec PyProof.Rows L2 KX KT KJ KS FR
def spTableL (K : PySem.W.Frag) : Sp := fun vs H Q _ => ∃ x y n as, vs = [x, y] ∧ GoodN n ∧ Th (tO H) x (NetM.d n) ∧ AsOk n as ∧ Th (tO H) y (.tuple (as.map fD)) ∧ ∀ v H', Same H H' → TabT K H' v (tabF n as) → Q v H'
abbrev nTl : List Str := ["net", "assignment", "many", "rows", "start", "aim", "share", "part", "at", "to", "row"]
abbrev scAt : Scope := { kind := .function, names := [(".0", .local), ("at", .cell), ("range", .globalImplicit), ("many", .cell)], isGenerator := false, isCoroutine := false }
theorem i_tabsetS {K : PySem.W.Frag} {σ : L2.St} {H0 H : Hp} {T : Addr} {rs : List Addr} {t : Tab} {m i k : Nat} {E : XK} {o2 io ko uo : Nat} {u : V} {y : Fr} {f : Fr → Fr → Fr} {D : Ends} (h : TabL K H0 H T rs t) (gr : Same H0 H) (sq : Sq m t) (hi : i < m) (hk : k < m) (h2 : σ[o2]? = some (some (.ref T))) (h3 : σ[io]? = some (some (.int (i : Nat)))) (h4 : σ[ko]? = some (some (.int (k : Nat))))
    (h6 : σ[uo]? = some (some u)) (fu : FrV K H u y) (z1 : Sz 4000 (gt t i k)) (z2 : Sz 4000 y) (nx : ∀ H', Same H0 H' → Tk H H' → TabL K H0 H' T rs (st t i k (f (gt t i k) y)) → D.nx σ H') :
    tAsg (tCall (spBin K f) [] E (tCons (tOp (rIxL K) (tOp (rIxL K) (tVar o2) (tVar io)) (tVar ko)) (tCons (tVar uo) tNil))) (gSub (tOp (rIxL K) (tVar o2) (tVar io)) (tVar ko) rSetL) D σ H := by
  obtain ⟨r, vs, v, e1, e2, e3, lv, n0, fv, put⟩ := tab_at h sq hi hk
  have e1' : (rs.map V.ref)[i]? = some (.ref r) := by rw [List.getElem?_map, e1]; rfl
  refine ⟨_, h2, _, h3, T, _, _, _, rfl, rfl, SqL.of h.top, atI_nat e1', _, h4, r, vs, _, v, rfl, rfl, SqL.of e2, atI_nat e3, _, h6, v, u, _, y, rfl, fv, fu, z1, z2, fun w H1 s1 fw => ?_⟩
  have h1 := h.same s1
  have e2' := s1 _ _ e2
  refine ⟨_, h2, _, h3, T, _, _, _, rfl, rfl, SqL.of h1.top, atI_nat e1', _, h4, r, vs, _, k, rfl, rfl, e2', ixN_nat (by omega), ?_⟩
  exact nx _ (same_put (gr.trans s1) n0) ((Tk.same s1).trans (Tk.put e2')) (put s1 fw)
section
variable {P : Program} {w : World} {K : PySem.W.Frag} {mg : Str → Option Value} {base : Heap}
end
end KP

set_option Elab.async false
set_option linter.all false
set_option maxRecDepth 100000
set_option maxHeartbeats 4000000
/-! ### sums of products -/
namespace KP
open PySem PySem.Spec PyProof.Rows L2 KX KT KJ KS FR
def dotS (s : Fr) (p : Fr × Fr) : Fr := addF s (mulF p.1 p.2)
def dotI (a b : List Fr) (i : Nat) : Fr := ((a.zip b).take i).foldl dotS (0, 1)
def dotF (a b : List Fr) : Fr := dotI a b a.length
/-- bounds of all entries of a row -/
def HB (a b : Nat) (h : List Fr) : Prop := ∃ M N, 0 < M ∧ M < 2 ^ a ∧ N < 2 ^ b ∧ ∀ x ∈ h, Bd M N x
theorem dotI_zero (a b : List Fr) : dotI a b 0 = (0, 1) := rfl
theorem dotI_succ {a b : List Fr} {i : Nat} {x y : Fr} (ha : a[i]? = some x) (hb : b[i]? = some y) : dotI a b (i + 1) = addF (dotI a b i) (mulF x y) := by
  unfold dotI
  have e : (a.zip b)[i]? = some (x, y) := by
    rw [List.getElem?_zip_eq_some]
    exact ⟨ha, hb⟩
  rw [List.take_add_one, e, List.foldl_append]
  rfl
theorem bd0 {M N : Nat} (hM : 0 < M) : Bd M N (0, 1) := ⟨by decide, ⟨M, by omega⟩, by simp⟩
theorem dotI_bd {a b : List Fr} {M N M' N' : Nat} (hM : 0 < M) (hM' : 0 < M') (ha : ∀ x ∈ a, Bd M N x) (hb : ∀ x ∈ b, Bd M' N' x) (hl : a.length = b.length) : ∀ {i : Nat}, i ≤ a.length → Bd (M * M') (i * (N * N')) (dotI a b i)
  | 0, _ => bd0 (Nat.mul_pos hM hM')
  | i + 1, h => by
    have e1 := List.getElem?_eq_getElem (show i < a.length by omega)
    have e2 := List.getElem?_eq_getElem (show i < b.length by omega)
    rw [dotI_succ e1 e2]
    have z := (dotI_bd hM hM' ha hb hl (i := i) (by omega)).add ((ha _ (List.mem_of_getElem? e1)).mul (hb _ (List.mem_of_getElem? e2)))
    rw [show (i + 1) * (N * N') = i * (N * N') + N * N' from Nat.succ_mul _ _]
    exact z
theorem pow_mul_lt {x y a b : Nat} (hx : x < 2 ^ a) (hy : y < 2 ^ b) : x * y < 2 ^ (a + b) := by
  rw [Nat.pow_add]
  exact Nat.mul_lt_mul'' hx hy
/-- all that is worked out on the way is small enough -/
theorem dot_sz {r h : List Fr} {a b a' b' : Nat} (hr : HB a b r) (hh : HB a' b' h) (hl : r.length = h.length) (l4 : r.length ≤ 4) (hz : a + b + a' + b' + 3 ≤ 4000) {i : Nat} (hi : i ≤ r.length) :
    Sz 4000 (dotI r h i) ∧ ∀ x y, r[i]? = some x → h[i]? = some y → Sz 4000 x ∧ Sz 4000 y ∧ Sz 4000 (mulF x y) := by
  obtain ⟨M, N, m0, m1, n1, b1⟩ := hr
  obtain ⟨M', N', m0', m1', n1', b1'⟩ := hh
  have hMM := Nat.mul_pos m0 m0'
  have hm := pow_mul_lt m1 m1'
  have hn := pow_mul_lt n1 n1'
  refine ⟨((dotI_bd m0 m0' b1 b1' hl hi).sz hMM hm (b := 3 + (b + b')) (pow_mul_lt (show i < 2 ^ 3 by omega) hn)).mono (by omega), fun x y hx hy => ?_⟩
  have bx := b1 _ (List.mem_of_getElem? hx)
  have bY := b1' _ (List.mem_of_getElem? hy)
  exact ⟨(bx.sz m0 m1 n1).mono (by omega), (bY.sz m0' m1' n1').mono (by omega), ((bx.mul bY).sz hMM hm hn).mono (by omega)⟩
def DotOk (r h : List Fr) : Prop := r.length = h.length ∧ r.length ≤ 4 ∧ ∃ a b a' b', HB a b r ∧ HB a' b' h ∧ a + b + a' + b' + 3 ≤ 4000
theorem RowT.parts {K : PySem.W.Frag} {H : Hp} {u : V} {row : List Fr} (h : RowT K H u row) : ∃ b vs, u = .ref b ∧ tO H b = some (.tup vs) ∧ FrL K H vs row := h
def spDot (K : PySem.W.Frag) : Sp := fun vs H Q _ => ∃ u v r h, vs = [u, v] ∧ RowT K H u r ∧ RowT K H v h ∧ DotOk r h ∧ ∀ w H', Same H H' → FrV K H' w (dotF r h) → Q w H'
def spDotL (K : PySem.W.Frag) : Sp := fun vs H Q _ => ∃ u c ys r h, vs = [u, .ref c] ∧ RowT K H u r ∧ H c = some (.lst ys) ∧ FrL K H ys h ∧ DotOk r h ∧ ∀ w H', Same H H' → FrV K H' w (dotF r h) → Q w H'
section
variable {P : Program} {w : World} {K : PySem.W.Frag} {mg : Str → Option Value} {base : Heap}
abbrev nRt : List Str := ["row", "other", "worth", "one", "two"]
abbrev nDt : List Str := ["one", "two", "found", "x", "y"]
end
end KP

set_option Elab.async false
set_option linter.all false
set_option maxRecDepth 100000
set_option maxHeartbeats 4000000
/-! ### what tanks hold: the data -/
namespace KP
open PySem PySem.Spec PyProof.Rows L2 KX KT KJ KS FR
def HBN (a N : Nat) (h : List Fr) : Prop := ∃ M, 0 < M ∧ M < 2 ^ a ∧ ∀ x ∈ h, Bd M N x
theorem HBN.hb {a b N : Nat} {h : List Fr} (z : HBN a N h) (hN : N < 2 ^ b) : HB a b h := let ⟨M, m0, m1, b1⟩ := z; ⟨M, N, m0, m1, hN, b1⟩
theorem HBN.mono {a a' N N' : Nat} {h : List Fr} (z : HBN a N h) (ha : a ≤ a') (hN : N ≤ N') : HBN a' N' h := let ⟨M, m0, m1, b1⟩ := z; ⟨M, m0, Nat.lt_of_lt_of_le m1 (Nat.pow_le_pow_right (by decide) ha), fun x hx => (b1 x hx).mono (Nat.dvd_refl _) hN⟩
theorem HBN.sz {a b N : Nat} {h : List Fr} (z : HBN a N h) (hN : N < 2 ^ b) (hz : a + b ≤ 4000) {x : Fr} (hx : x ∈ h) : Sz 4000 x := let ⟨M, m0, m1, b1⟩ := z; ((b1 x hx).sz m0 m1 hN).mono hz
def sentF (t : Tab) (h : List Fr) : List Fr := t.map fun r => dotF r h
def fillS (h : List Fr) (p : Nat × Fr) : List Fr := h.set p.1 (addF (h.getD p.1 (0, 1)) p.2)
def fillI (fs : List Nat) (r : List Fr) (h : List Fr) (i : Nat) : List Fr := ((fs.zip r).take i).foldl fillS h
def fillF (fs : List Nat) (r : List Fr) (h : List Fr) : List Fr := fillI fs r h r.length
def seenF (ss : List Nat) (h : List Fr) : List Fr := ss.map fun i => h.getD i (0, 1)
def held0 (m : Nat) : List Fr := List.replicate m (0, 1)
def heldI (n : NetM) (as : List Fr) (fl : List (List Fr)) (k : Nat) : List Fr := (fl.take k).foldl (fun h r => fillF n.fs r (sentF (tabF n as) h)) (held0 n.m)
def seenAll (n : NetM) (as : List Fr) (fl : List (List Fr)) : Tab := (List.range (fl.length + 1)).map fun k => seenF n.ss (heldI n as fl k)
theorem fillI_succ {fs : List Nat} {r h : List Fr} {i j : Nat} {x : Fr} (ha : fs[i]? = some j) (hb : r[i]? = some x) : fillI fs r h (i + 1) = fillS (fillI fs r h i) (j, x) := by
  unfold fillI
  have e : (fs.zip r)[i]? = some (j, x) := by
    rw [List.getElem?_zip_eq_some]
    exact ⟨ha, hb⟩
  rw [List.take_add_one, e, List.foldl_append]
  rfl
theorem fillS_len (h : List Fr) (p : Nat × Fr) : (fillS h p).length = h.length := List.length_set
theorem fillI_len {fs : List Nat} {r h : List Fr} {i : Nat} : (fillI fs r h i).length = h.length := by
  have z : ∀ (ps : List (Nat × Fr)) (h : List Fr), (ps.foldl fillS h).length = h.length := by
    intro ps
    induction ps with
    | nil => exact fun _ => rfl
    | cons p ps ih => exact fun h => (ih _).trans (fillS_len h p)
  exact z _ _
theorem getD_mem {h : List Fr} {i : Nat} (hi : i < h.length) : h.getD i (0, 1) ∈ h := by
  have e : h.getD i (0, 1) = h[i] := by
    rw [List.getD_eq_getElem?_getD, List.getElem?_eq_getElem hi]
    rfl
  rw [e]
  exact List.getElem_mem _
theorem fillS_bd {a N : Nat} {h : List Fr} {j : Nat} {x : Fr} (z : HBN a N h) (hj : j < h.length) (hx : Told x) : HBN (a + 10) (N + 999) (fillS h (j, x)) := by
  obtain ⟨M, m0, m1, b1⟩ := z
  obtain ⟨p0, p1⟩ := told_pow hx
  refine ⟨M * x.2.natAbs, Nat.mul_pos m0 p0, pow_mul_lt m1 p1, fun y hy => ?_⟩
  have up : ∀ {y}, y ∈ h → Bd (M * x.2.natAbs) N y := fun hy => (b1 _ hy).mono (Nat.dvd_mul_right _ _) (Nat.le_refl _)
  rcases List.mem_or_eq_of_mem_set hy with hy | rfl
  · exact (up hy).mono (Nat.dvd_refl _) (by omega)
  · exact (up (getD_mem hj)).add ((told_bd hx).mono (Nat.dvd_mul_left _ _) (Nat.le_refl _))
theorem fillI_bd {a N : Nat} {fs : List Nat} {r h : List Fr} (z : HBN a N h) (hf : ∀ j ∈ fs, j < h.length) (hr : ToldS r) (hl : r.length = fs.length) : ∀ {i : Nat}, i ≤ r.length → HBN (a + 10 * i) (N + 999 * i) (fillI fs r h i)
  | 0, _ => z
  | i + 1, h' => by
    have e1 := List.getElem?_eq_getElem (show i < fs.length by omega)
    have e2 := List.getElem?_eq_getElem (show i < r.length by omega)
    rw [fillI_succ e1 e2]
    have z2 := fillS_bd (fillI_bd z hf hr hl (i := i) (by omega)) (j := fs[i]) (by rw [fillI_len]; exact hf _ (List.getElem_mem _)) (hr _ (List.getElem_mem (show i < r.length by omega)))
    exact z2.mono (by omega) (by omega)
theorem tab_hb {n : NetM} {as : List Fr} (g : GoodN n) (ok : AsOk n as) {row : List Fr} (h : row ∈ tabF n as) : HBN 121 23977 row := by
  have z := tabI_bd g ok (Nat.le_refl _)
  rw [tabI_all] at z
  obtain ⟨M, m0, m1, b1⟩ := z
  have l := g.len
  exact ⟨M, m0, Nat.lt_of_lt_of_le m1 (Nat.pow_le_pow_right (by decide) (by omega)), fun x hx => (b1 row h x hx).mono (Nat.dvd_refl _) (by omega)⟩
theorem tab_row {n : NetM} {as : List Fr} {row : List Fr} (h : row ∈ tabF n as) : row.length = n.m := by
  obtain ⟨i, hi, rfl⟩ := List.getElem_of_mem h
  have z := (sqF n as).row i (by rw [← (sqF n as).len]; exact hi)
  rw [List.getD_eq_getElem?_getD, List.getElem?_eq_getElem hi] at z
  exact z
theorem sentF_len (n : NetM) (as : List Fr) (h : List Fr) : (sentF (tabF n as) h).length = n.m := by
  unfold sentF
  rw [List.length_map]
  exact (sqF n as).len
theorem sent_bd {n : NetM} {as : List Fr} (g : GoodN n) (ok : AsOk n as) {a N : Nat} {h : List Fr} (z : HBN a N h) (hl : h.length = n.m) : HBN (121 + a) (4 * (23977 * N)) (sentF (tabF n as) h) := by
  have zt := tabI_bd g ok (Nat.le_refl _)
  rw [tabI_all] at zt
  obtain ⟨Mt, m0, m1, b1⟩ := zt
  obtain ⟨M, p0, p1, b2⟩ := z
  have l := g.len
  have m4 := g.m4
  have m1' : Mt < 2 ^ 121 := Nat.lt_of_lt_of_le m1 (Nat.pow_le_pow_right (by decide) (by omega))
  refine ⟨Mt * M, Nat.mul_pos m0 p0, pow_mul_lt m1' p1, fun x hx => ?_⟩
  obtain ⟨row, hrow, rfl⟩ := List.mem_map.mp hx
  have lr := tab_row hrow
  have zz := dotI_bd (N := 23977) (N' := N) m0 p0 (fun x hx => (b1 row hrow x hx).mono (Nat.dvd_refl _) (by omega)) b2 (by omega) (Nat.le_refl row.length)
  exact zz.mono (Nat.dvd_refl _) (Nat.mul_le_mul_right _ (by omega))
theorem sent_ok {n : NetM} {as : List Fr} (g : GoodN n) (ok : AsOk n as) {a N b : Nat} {h : List Fr} (z : HBN a N h) (hN : N < 2 ^ b) (hz : a + b + 300 ≤ 4000) (hl : h.length = n.m) : ∀ row ∈ tabF n as, DotOk row h := fun row hr => by
  have lr := tab_row hr
  have m4 := g.m4
  exact ⟨by omega, by omega, 121, 15, a, b, (tab_hb g ok hr).hb (by decide), z.hb hN, by omega⟩
theorem heldI_zero (n : NetM) (as : List Fr) (fl : List (List Fr)) : heldI n as fl 0 = held0 n.m := rfl
theorem heldI_succ {n : NetM} {as : List Fr} {fl : List (List Fr)} {k : Nat} {r : List Fr} (h : fl[k]? = some r) : heldI n as fl (k + 1) = fillF n.fs r (sentF (tabF n as) (heldI n as fl k)) := by
  unfold heldI
  rw [List.take_add_one, h, List.foldl_append]
  rfl
def FlOk (n : NetM) (fl : List (List Fr)) : Prop := fl.length ≤ 8 ∧ ∀ r ∈ fl, r.length = n.fs.length ∧ ToldS r
theorem held_ok {n : NetM} {as : List Fr} {fl : List (List Fr)} (g : GoodN n) (ok : AsOk n as) (hf : FlOk n fl) : ∀ {k : Nat}, k ≤ fl.length → HBN (1 + 161 * k) (2 ^ (18 * k)) (heldI n as fl k) ∧ (heldI n as fl k).length = n.m
  | 0, _ => ⟨⟨1, by decide, by decide, fun x hx => by
      rw [heldI_zero] at hx
      rw [(List.mem_replicate.mp hx).2]
      exact bd0 (by decide)⟩, by rw [heldI_zero]; exact List.length_replicate⟩
  | k + 1, h => by
    obtain ⟨z, hl⟩ := held_ok g ok hf (k := k) (by omega)
    have e := List.getElem?_eq_getElem (show k < fl.length by omega)
    rw [heldI_succ e]
    obtain ⟨lr, tr⟩ := hf.2 _ (List.getElem_mem (show k < fl.length by omega))
    have zs := sent_bd g ok z hl
    have ls := sentF_len n as (heldI n as fl k)
    have f4 : n.fs.length ≤ 4 := Nat.le_trans g.fs.len g.m4
    have zf := fillI_bd zs (fs := n.fs) (r := fl[k]) (fun j hj => by rw [ls]; exact g.fs.lt j hj) tr lr (Nat.le_refl _)
    refine ⟨zf.mono (by omega) ?_, by unfold fillF; rw [fillI_len, ls]⟩
    have p1 : 1 ≤ 2 ^ (18 * k) := Nat.one_le_two_pow
    have e18 : 2 ^ (18 * (k + 1)) = 2 ^ (18 * k) * 262144 := by rw [Nat.mul_succ, Nat.pow_add]
    rw [e18]
    generalize 2 ^ (18 * k) = X at p1 ⊢
    omega
end KP

set_option Elab.async false
set_option linter.all false
set_option maxRecDepth 100000
set_option maxHeartbeats 4000000
/-! ### sent, filled_up, seen_of; the law's sent -/
namespace KP
open PySem PySem.Spec PyProof.Rows L2 KX KT KJ KS FR
theorem frl_at {K : PySem.W.Frag} {H : Hp} {vs : List V} {h : List Fr} (f : FrL K H vs h) {j : Nat} (hj : j < h.length) : ∃ v, vs[j]? = some v ∧ FrV K H v (h.getD j (0, 1)) := by
  have hv : j < vs.length := by rw [f.len]; exact hj
  refine ⟨_, List.getElem?_eq_getElem hv, ?_⟩
  have e : h.getD j (0, 1) = h[j] := by
    rw [List.getD_eq_getElem?_getD, List.getElem?_eq_getElem hj]
    rfl
  rw [e]
  exact f.get j _ _ (List.getElem?_eq_getElem hv) (List.getElem?_eq_getElem hj)
theorem nats_at {H : Hp} {vs : List V} {ns : List Nat} {i : Nat} {v : V} (h : ThAll H vs (natsD ns)) (e : vs[i]? = some v) : ∃ j, ns[i]? = some j ∧ v = .int (j : Nat) := by
  obtain ⟨d, hd, td⟩ := all_get h e
  unfold natsD at hd
  rw [List.getElem?_map] at hd
  cases z : ns[i]? with
  | none => rw [z] at hd; cases hd
  | some j =>
    rw [z] at hd
    cases hd
    cases td
    exact ⟨j, rfl, rfl⟩
def spSent (K : PySem.W.Frag) : Sp := fun vs H Q _ => ∃ u v t h, vs = [u, v] ∧ TabT K H u t ∧ RowT K H v h ∧ t.length ≤ 4 ∧ (∀ row ∈ t, DotOk row h) ∧ ∀ w H', Same H H' → RowT K H' w (sentF t h) → Q w H'
def spSentL (K : PySem.W.Frag) : Sp := fun vs H Q _ => ∃ u c ys t h, vs = [u, .ref c] ∧ TabT K H u t ∧ H c = some (.lst ys) ∧ FrL K H ys h ∧ t.length ≤ 4 ∧ (∀ row ∈ t, DotOk row h) ∧ ∀ p zs H', Same H H' → H p = none → H' p = some (.lst zs) → FrL K H' zs (sentF t h) → Q (.ref p) H'
def spSeenOf (K : PySem.W.Frag) : Sp := fun vs H Q _ => ∃ x u n h, vs = [x, u] ∧ GoodN n ∧ Th (tO H) x (NetM.d n) ∧ RowT K H u h ∧ h.length = n.m ∧ ∀ w H', Same H H' → RowT K H' w (seenF n.ss h) → Q w H'
def spFilled (K : PySem.W.Frag) : Sp := fun vs H Q _ => ∃ x u z n h r a N, vs = [x, u, z] ∧ GoodN n ∧ Th (tO H) x (NetM.d n) ∧ RowT K H u h ∧ h.length = n.m ∧ Th (tO H) z (.tuple (r.map fD)) ∧ r.length = n.fs.length ∧ ToldS r ∧ HBN a N h ∧ a ≤ 2600 ∧ N < 2 ^ 180 ∧ ∀ w H', Same H H' → RowT K H' w (fillF n.fs r h) → Q w H'
section
variable {P : Program} {w : World} {K : PySem.W.Frag} {mg : Str → Option Value} {base : Heap}
abbrev nFu : List Str := ["net", "held", "filling", "amounts", "tank", "amount"]
end
end KP

set_option Elab.async false
set_option linter.all false
set_option maxRecDepth 100000
set_option maxHeartbeats 4000000
/-! ### seen_in -/
namespace KP
open PySem PySem.Spec PyProof.Rows L2 KX KT KJ KS FR
def spRuns (K : PySem.W.Frag) (Ps : List Addr) : Sp := fun vs H Q _ => ∃ x y z n as fl, vs = [x, y, z] ∧ GoodN n ∧ Th (tO H) x (NetM.d n) ∧ AsOk n as ∧ Th (tO H) y (.tuple (as.map fD)) ∧ FlOk n fl ∧ Th (tO H) z (flD fl) ∧ Tbs Ps H ∧ ∀ v H', Grown Ps H H' → TabT K H' v (seenAll n as fl) → Q v H'
abbrev nSi : List Str := ["net", "assignment", "fillings", "table", "held", "rows", "filling"]
theorem rep_vec {K : PySem.W.Frag} {H : Hp} {p aN : Addr} {m : Nat} {Q : VK} (cN : ∀ H, SqT K H aN [.int 0, .int 1]) (m1 : 1 ≤ m) (m4 : m ≤ 4) (e : H p = some (.tup [.ref aN])) (k : ∀ v H', Same H H' → RowT K H' v (held0 m) → Q v H') : MZ.rRepA K (.ref p) (.int (m : Nat)) H Q := by
  have fr : ∀ (H : Hp) (j : Nat), FrL K H (List.replicate j (V.ref aN)) (held0 j) := by
    intro H j
    induction j with
    | zero => exact FrL.nil
    | succ j ih =>
      have e1 : List.replicate (j + 1) (V.ref aN) = List.replicate j (V.ref aN) ++ [V.ref aN] := List.replicate_succ'
      have e2 : held0 (j + 1) = held0 j ++ [(0, 1)] := List.replicate_succ'
      rw [e1, e2]
      exact ih.snoc (FrV.cst cN)
  refine ⟨p, (m : Int), _, rfl, rfl, SqT.of e, by simp, by omega, by omega, by simp, fun z => ?_, fun z q hq => ?_⟩
  · have m1 : m = 1 := by omega
    subst m1
    exact k _ H (Same.refl H) ⟨p, _, rfl, tO_of e, fr H 1⟩
  · have e3 : (List.replicate ((m : Int)).toNat [V.ref aN]).flatten = List.replicate m (V.ref aN) := by
      rw [Int.toNat_natCast]
      exact List.flatten_replicate_singleton
    rw [e3]
    exact k _ _ (same_upd hq) ⟨q, _, rfl, tO_of upd_same, fr _ m⟩
/-- what is seen, after some beats -/
def seenI (n : NetM) (as : List Fr) (fl : List (List Fr)) (i : Nat) : Tab := (List.range i).map fun k => seenF n.ss (heldI n as fl k)
theorem seenI_succ {n : NetM} {as : List Fr} {fl : List (List Fr)} {i : Nat} : seenI n as fl (i + 1) = seenI n as fl i ++ [seenF n.ss (heldI n as fl i)] := by
  unfold seenI
  rw [List.range_succ, List.map_append]
  rfl
theorem seenI_all {n : NetM} {as : List Fr} {fl : List (List Fr)} : seenI n as fl (fl.length + 1) = seenAll n as fl := rfl
theorem n17 {k : Nat} (h : k ≤ 8) : 4 * (23977 * 2 ^ (18 * k)) < 2 ^ 180 := by
  have p1 : 0 < 2 ^ (18 * k) := Nat.pow_pos (by decide)
  have e : 2 ^ (17 + 18 * k) = 131072 * 2 ^ (18 * k) := by rw [Nat.pow_add]
  have l : 2 ^ (17 + 18 * k) ≤ 2 ^ 180 := Nat.pow_le_pow_right (by decide) (by omega)
  rw [e] at l
  generalize 2 ^ (18 * k) = X at p1 l ⊢
  omega
theorem n18 {k : Nat} (h : k ≤ 8) : 2 ^ (18 * k) < 2 ^ 145 := Nat.pow_lt_pow_right (by decide) (by omega)
section
variable {P : Program} {w : World} {K : PySem.W.Frag} {mg : Str → Option Value} {base : Heap}
end
end KP

set_option Elab.async false
set_option linter.all false
set_option maxRecDepth 100000
set_option maxHeartbeats 4000000
/-! ### the law's own runs -/
namespace KP
open PySem PySem.Spec PyProof.Rows L2 KX KT KJ KS FR
def spRunsL (K : PySem.W.Frag) : Sp := fun vs H Q _ => ∃ x y z n as fl, vs = [x, y, z] ∧ GoodN n ∧ Th (tO H) x (NetM.d n) ∧ AsOk n as ∧ Th (tO H) y (.tuple (as.map fD)) ∧ FlOk n fl ∧ Th (tO H) z (flD fl) ∧ ∀ v H', Same H H' → TabT K H' v (seenAll n as fl) → Q v H'
abbrev nSl : List Str := ["net", "assignment", "fillings", "table", "held", "found", "row", "at", "part"]
theorem cat_none {K : PySem.W.Frag} {H : Hp} {a p : Addr} {zs : List V} {Q : VK} (ea : H a = some (.tup zs)) (ep : H p = some (.tup [.non])) (hl : zs.length ≤ 1000) (k : ∀ c H', Same H H' → H' c = some (.tup (zs ++ [.non])) → Q (.ref c) H') : rCatA K (.ref a) (.ref p) H Q :=
  ⟨a, p, zs, _, rfl, rfl, SqT.of ea, SqT.of ep, Nat.le_trans (show zs.length + 1 ≤ 1001 by omega) (by decide), (fun z => by subst z; exact k p H (Same.refl H) ep), (fun _ z => by cases z), fun _ _ q hq => k q _ (same_upd hq) upd_same⟩
theorem i_ifE {t : TT} {ta tb : TE} {b : Bool} {σ : L2.St} {H : Hp} {Q : VK} (h : Ti t σ H b) (h1 : b = true → ta σ H Q) (h2 : b = false → tb σ H Q) : tIf t ta tb σ H Q := h _ (iteB h1 h2)
theorem rep_lst {H : Hp} {l : Addr} {x : V} {m : Nat} {Q : VK} (m4 : m ≤ 4) (e : H l = some (.lst [x])) (k : ∀ q, H q = none → Q (.ref q) (upd H q (.lst (List.replicate m x)))) : rRep (.ref l) (.int (m : Nat)) H Q := by
  refine ⟨l, (m : Int), _, rfl, rfl, e, by omega, by omega, ?_, fun q hq => ?_⟩
  · rw [Int.toNat_natCast]
    exact Nat.le_trans (show 1 * m ≤ 4 by omega) (by decide)
  · rw [Int.toNat_natCast, List.flatten_replicate_singleton]
    exact k q hq
theorem frl_rep {K : PySem.W.Frag} {H : Hp} {v : V} (f : FrV K H v (0, 1)) : ∀ j : Nat, FrL K H (List.replicate j v) (held0 j)
  | 0 => FrL.nil
  | j + 1 => by
    have e1 : List.replicate (j + 1) v = List.replicate j v ++ [v] := List.replicate_succ'
    have e2 : held0 (j + 1) = held0 j ++ [(0, 1)] := List.replicate_succ'
    rw [e1, e2]
    exact (frl_rep f j).snoc f
end KP

set_option Elab.async false
set_option linter.all false
set_option maxRecDepth 100000
set_option maxHeartbeats 4000000
/-! ### drawn assignments and fillings -/
namespace KP
open PySem PySem.Spec PyProof.Rows L2 KX KT KJ KS FR
theorem th_hid {j : Addr} {H : Hp} {v : V} {d : PyData} (h : Th (hid j H) v d) (z : tpD d = true) : Th (tO H) v d := th_tO (h.mono (Sm.same (hid_same j H))) z
theorem thAll_tk {H H' : Hp} {vs : List V} {ds : List PyData} (h : ThAll (tO H) vs ds) (s : Tk H H') : ThAll (tO H') vs ds := ThAll.mono (Sm.same s) h
theorem but_put {j p : Addr} {H H' : Hp} {o : HO} (b : KJ.But j H H') (h : H p = none) : KJ.But j H (upd H' p o) := fun c u n e => by
  rw [upd_ne (ne_of_none e h)]
  exact b c u n e
theorem jar_put {j p : Addr} {H : Hp} {n : Nat} {o : HO} (h : JarAt H j n) (np : p ≠ j) : JarAt (upd H p o) j n := by
  obtain ⟨x1, x2, x3, ej, r⟩ := h
  exact ⟨x1, x2, x3, by rw [upd_ne (Ne.symm np)]; exact ej, r⟩
def spAsn : Sp := fun vs H Q _ => ∃ j n x nt, vs = [.ref j, x] ∧ JarAt H j n ∧ n ≤ 800000 ∧ GoodN nt ∧ Th (tO H) x (NetM.d nt) ∧ ∀ v as H', AsOk nt as → Th (tO H') v (.tuple (as.map fD)) → KJ.But j H H' → JarAt H' j (n + 12) → Q v H'
def spFil : Sp := fun vs H Q _ => ∃ j n x nt, vs = [.ref j, x, .int 6] ∧ JarAt H j n ∧ n ≤ 800000 ∧ GoodN nt ∧ Th (tO H) x (NetM.d nt) ∧ ∀ v fl H', FlOk nt fl → Th (tO H') v (flD fl) → KJ.But j H H' → JarAt H' j (n + 129) → Q v H'
section
variable {P : Program} {w : World} {K : PySem.W.Frag} {mg : Str → Option Value} {base : Heap}
abbrev nAsn : List Str := ["jar", "net", "found", "at"]
/-- a row that is being drawn -/
def RowI (j p2 : Addr) (H' : Hp) (c b : Nat) (H2 : Hp) : Prop := ∃ ys r, H2 p2 = some (.lst ys) ∧ ThAll (tO H2) ys (r.map fD) ∧ r.length = b ∧ ToldS r ∧ KJ.But j H' H2 ∧ Tk H' H2 ∧ JarAt H2 j (c + 4 * b)
theorem RowI.jar {j p2 : Addr} {H' H2 : Hp} {c b : Nat} (R : RowI j p2 H' c b H2) : JarAt H2 j (c + 4 * b) := let ⟨_, _, _, _, _, _, _, _, z⟩ := R; z
theorem RowI.lst {j p2 : Addr} {H' H2 : Hp} {c b : Nat} (R : RowI j p2 H' c b H2) : ∃ ys, H2 p2 = some (.lst ys) := let ⟨ys, _, e, _⟩ := R; ⟨ys, e⟩
theorem RowI.more {j p2 : Addr} {H' H2 H3 : Hp} {c b : Nat} (R : RowI j p2 H' c b H2) (hp2 : H' p2 = none) (np2 : p2 ≠ j) {v : V} {f : Fr} (hf : Told f) (tv : Th (tO H3) v (fD f)) (b3 : KJ.But j H2 H3) (j3 : JarAt H3 j (c + 4 * b + 4)) :
    ∃ ys, H3 p2 = some (.lst ys) ∧ ys.length = b ∧ RowI j p2 H' c (b + 1) (upd H3 p2 (.lst (ys ++ [v]))) := by
  obtain ⟨ys, r, ey, ty, lr, hr', b2, tk2, j2⟩ := R
  have ey3 := b3 _ _ np2 ey
  have tk := Tk.put (ys := ys ++ [v]) ey3
  have tk3 := (Tk.jar j2 b3).trans tk
  refine ⟨ys, ey3, by rw [all2 ty, List.length_map, lr], ys ++ [v], r ++ [f], upd_same, ?_, by rw [List.length_append, List.length_singleton, lr], fun y hy => ?_, but_put (b2.trans b3) hp2, tk2.trans tk3, by rw [show c + 4 * (b + 1) = c + 4 * b + 4 by omega]; exact jar_put j3 np2⟩
  · rw [List.map_append]
    exact ThAll.append (thAll_tk ty tk3) (.cons (tv.tk tk) .nil)
  · rcases List.mem_append.mp hy with h | h
    · exact hr' y h
    · rw [List.mem_singleton.mp h]
      exact hf
abbrev nFil : List Str := ["jar", "net", "most", "found", "turn", "row", "at"]
end
end KP

set_option Elab.async false
set_option linter.all false
set_option maxRecDepth 100000
set_option maxHeartbeats 4000000
/-! ### tables as data that can be shown; parts of tuples -/
namespace KP
open PySem PySem.Spec PyProof.Rows L2 KX KT KJ KS FR
structure FOk (x : Fr) : Prop where
  n : x.1.natAbs < 2 ^ 1920
  d : x.2.natAbs < 2 ^ 1920
structure TOk (t : Tab) : Prop where
  len : t.length ≤ 9
  row : ∀ r ∈ t, r.length ≤ 4 ∧ ∀ x ∈ r, FOk x
theorem log_ok {n : Nat} (h : n < 2 ^ 1920) : n.log2 < 1920 := by
  by_cases z : n = 0
  · subst z
    decide
  · exact (Nat.log2_lt z).mpr h
theorem shownAll_map : ∀ ds : List PyData, PyData.shownAll ds = ds.map PyData.shown
  | [] => rfl
  | d :: ds => by
    simp only [PyData.shownAll, List.map_cons]
    rw [shownAll_map ds]
theorem showableAll_of : ∀ {ds : List PyData}, (∀ d ∈ ds, d.showable = true) → PyData.showableAll ds = true
  | [], _ => rfl
  | d :: ds, h => by
    simp only [PyData.showableAll, Bool.and_eq_true]
    exact ⟨h d List.mem_cons_self, showableAll_of fun e he => h e (List.mem_cons_of_mem _ he)⟩
theorem hasDictAll_of : ∀ {ds : List PyData}, (∀ d ∈ ds, d.hasDict = false) → PyData.hasDictAll ds = false
  | [], _ => rfl
  | d :: ds, h => by
    simp only [PyData.hasDictAll, Bool.or_eq_false_iff]
    exact ⟨h d List.mem_cons_self, hasDictAll_of fun e he => h e (List.mem_cons_of_mem _ he)⟩
theorem depthAll_of {n : Nat} : ∀ {ds : List PyData}, (∀ d ∈ ds, d.depth ≤ n) → PyData.depthAll ds ≤ n
  | [], _ => by simp [PyData.depthAll]
  | d :: ds, h => by
    simp only [PyData.depthAll]
    have h1 := h d List.mem_cons_self
    have h2 := depthAll_of (ds := ds) fun e he => h e (List.mem_cons_of_mem _ he)
    omega
/-- what can be shown in so many signs -/
structure Sw (L n : Nat) (d : PyData) : Prop where
  ok : d.showable = true
  len : d.shown.length ≤ L
  dep : d.depth ≤ n
  nod : d.hasDict = false
theorem sum_le {α : Type} {f : α → Nat} {B : Nat} : ∀ {l : List α}, (∀ x ∈ l, f x ≤ B) → (l.map f).sum ≤ l.length * B
  | [], _ => by simp
  | x :: l, h => by
    have h1 := h x List.mem_cons_self
    have h2 := sum_le (l := l) fun y hy => h y (List.mem_cons_of_mem _ hy)
    rw [List.map_cons, List.sum_cons, List.length_cons, Nat.succ_mul]
    omega
theorem sw_int {i : Int} (h : i.natAbs < 2 ^ 1920) : Sw 1921 1 (.int i) :=
  ⟨by simpa [PyData.showable] using log_ok h, by simp only [PyData.shown]; exact int_text_len_1921 (log_ok h), by simp [PyData.depth], by simp [PyData.hasDict]⟩
theorem sw_tup {L n k : Nat} {ds : List PyData} (h : ∀ d ∈ ds, Sw L n d) (hk : ds.length ≤ k) : Sw (k * (L + 2) + 3) (n + 1) (.tuple ds) := by
  refine ⟨by simp only [PyData.showable]; exact showableAll_of fun d hd => (h d hd).ok, ?_, ?_, by simp only [PyData.hasDict]; exact hasDictAll_of fun d hd => (h d hd).nod⟩
  · simp only [PyData.shown]
    rw [shownAll_map]
    have a := tupleText_len_le (ds.map PyData.shown)
    rw [List.map_map, List.length_map] at a
    have b := sum_le (f := fun d : PyData => d.shown.length) (l := ds) fun d hd => (h d hd).len
    have c : ds.length * L + 2 * ds.length ≤ k * (L + 2) := by
      rw [Nat.mul_comm 2, ← Nat.mul_add]
      exact Nat.mul_le_mul_right _ hk
    have e : (List.map (Str.length ∘ PyData.shown) ds).sum ≤ ds.length * L := b
    have a' : (tupleText (ds.map PyData.shown)).length ≤ (List.map (Str.length ∘ PyData.shown) ds).sum + 2 * ds.length + 3 := a
    omega
  · simp only [PyData.depth]
    have := depthAll_of (ds := ds) fun d hd => (h d hd).dep
    omega
theorem sw_lst {L n k : Nat} {ds : List PyData} (h : ∀ d ∈ ds, Sw L n d) (hk : ds.length ≤ k) : Sw (k * (L + 2) + 3) (n + 1) (.list ds) := by
  refine ⟨by simp only [PyData.showable]; exact showableAll_of fun d hd => (h d hd).ok, ?_, ?_, by simp only [PyData.hasDict]; exact hasDictAll_of fun d hd => (h d hd).nod⟩
  · simp only [PyData.shown]
    rw [shownAll_map]
    have a := listText_len_le (ds.map PyData.shown)
    rw [List.map_map, List.length_map] at a
    have b := sum_le (f := fun d : PyData => d.shown.length) (l := ds) fun d hd => (h d hd).len
    have c : ds.length * L + 2 * ds.length ≤ k * (L + 2) := by
      rw [Nat.mul_comm 2, ← Nat.mul_add]
      exact Nat.mul_le_mul_right _ hk
    have e : (List.map (Str.length ∘ PyData.shown) ds).sum ≤ ds.length * L := b
    have a' : (listText (ds.map PyData.shown)).length ≤ (List.map (Str.length ∘ PyData.shown) ds).sum + 2 * ds.length + 3 := a
    omega
  · simp only [PyData.depth]
    have := depthAll_of (ds := ds) fun d hd => (h d hd).dep
    omega
theorem sw_tab {t : Tab} (h : TOk t) : Sw 200000 4 (flD t) := by
  have f : ∀ x, FOk x → Sw 3849 2 (fD x) := fun x hx => sw_tup (k := 2) (L := 1921) (n := 1) (fun d hd => by
    simp only [List.mem_cons, List.not_mem_nil, or_false] at hd
    rcases hd with rfl | rfl
    · exact sw_int hx.n
    · exact sw_int hx.d) (by simp)
  have r : ∀ r ∈ t, Sw 15407 3 (.tuple (r.map fD)) := fun r hr => sw_tup (k := 4) (L := 3849) (n := 2) (fun d hd => by
    obtain ⟨x, hx, rfl⟩ := List.mem_map.mp hd
    exact f x ((h.row r hr).2 x hx)) (by rw [List.length_map]; exact (h.row r hr).1)
  have z := sw_tup (k := 9) (L := 15407) (n := 3) (ds := t.map fun r => PyData.tuple (r.map fD)) (fun d hd => by
    obtain ⟨r', hr, rfl⟩ := List.mem_map.mp hd
    exact r r' hr) (by rw [List.length_map]; exact h.len)
  exact ⟨z.ok, Nat.le_trans z.len (by decide), z.dep, z.nod⟩
section
variable {K : PySem.W.Frag} {H : Hp}
theorem dp_fr {v : V} {x : Fr} (h : FrV K H v x) : Dp K H v (fD x) := by
  obtain ⟨a, rfl, q⟩ := h
  exact .tup (sqT_up q) (.cons (.int _) (.cons (.int _) .nil))
theorem dpAll_of {α : Type} {f : α → PyData} : ∀ {vs : List V} {xs : List α}, vs.length = xs.length → (∀ (k : Nat) (v : V) (x : α), vs[k]? = some v → xs[k]? = some x → Dp K H v (f x)) → DpAll K H vs (xs.map f)
  | [], [], _, _ => .nil
  | v :: vs, x :: xs, hl, h => .cons (h 0 v x rfl rfl) (dpAll_of (by simpa using hl) fun k v' x' a b => h (k + 1) v' x' (by simpa using a) (by simpa using b))
  | [], _ :: _, hl, _ => by simp at hl
  | _ :: _, [], hl, _ => by simp at hl
theorem dp_tab {v : V} {t : Tab} (h : TabT K H v t) : Dp K H v (flD t) := by
  obtain ⟨a, us, rfl, e, r⟩ := h
  refine .tup (SqT.of (tO_same H _ _ e)) (dpAll_of r.len fun k u row a b => ?_)
  obtain ⟨c, vs, rfl, e2, f⟩ := r.get k u row a b
  exact .tup (SqT.of (tO_same H _ _ e2)) (dpAll_of f.len fun k v x a b => dp_fr (f.get k v x a b))
theorem shw_tab {v : V} {t : Tab} (h : TabT K H v t) (ok : TOk t) : Shw K H v (flD t) := by
  have z := sw_tab ok
  exact ⟨z.ok, Nat.le_trans z.len (by decide), Nat.le_trans z.dep (by decide), .inl ⟨z.nod, dp_tab h⟩⟩
theorem shw_two {a : Addr} {v1 v2 : V} {t : Tab} (e : H a = some (.lst [v1, v2])) (h1 : TabT K H v1 t) (h2 : TabT K H v2 t) (ok : TOk t) : Shw K H (.ref a) (.list [flD t, flD t]) := by
  have s := sw_tab ok
  have z := sw_lst (k := 2) (L := 200000) (n := 4) (ds := [flD t, flD t]) (fun d hd => by
    simp only [List.mem_cons, List.not_mem_nil, or_false] at hd
    rcases hd with rfl | rfl <;> exact s) (by simp)
  exact ⟨z.ok, Nat.le_trans z.len (by decide), Nat.le_trans z.dep (by decide), .inl ⟨z.nod, .lst (SqL.of e) (.cons (dp_tab h1) (.cons (dp_tab h2) .nil))⟩⟩
/-- a beginning of a tuple -/
theorem sl_take {a : Addr} {xs : List V} {k : Nat} {Q : VK} (e : tO H a = some (.tup xs)) (q : ∀ b H', Same H H' → tO H' b = some (.tup (xs.take k)) → Q (.ref b) H') : rSlA K (.ref a) none (some (k : Int)) H Q := by
  refine ⟨a, xs, rfl, SqT.of (tO_same H _ _ e), fun z => ?_, fun _ p hp => ?_⟩
  · rw [HT.sIx_nat] at z
    refine q a H (Same.refl H) ?_
    rw [List.take_of_length_le (by have := z.2; omega)]
    exact e
  · have ec : cutV xs none (some (k : Int)) = xs.take k := by
      unfold cutV
      rw [HT.sIx_nat, HT.sIx_none, List.drop_zero, Nat.sub_zero, ← List.take_take, List.take_length]
    rw [ec]
    exact q p _ (same_upd hp) (tO_of upd_same)
theorem TabT.take {k : Nat} {a : Addr} {us : List V} {t : Tab} (e : tO H a = some (.tup (us.take k))) (r : RowsT K H us t) : TabT K H (.ref a) (t.take k) := by
  refine ⟨a, _, rfl, e, by rw [List.length_take, List.length_take, r.len], fun i u row h1 h2 => ?_⟩
  rw [List.getElem?_take] at h1 h2
  split at h1
  · rename_i hi
    rw [if_pos hi] at h2
    exact r.get i u row h1 h2
  · cases h1
theorem ThAll.take' : ∀ {xs : List V} {ds : List PyData} (k : Nat), ThAll H xs ds → ThAll H (xs.take k) (ds.take k)
  | _, _, 0, _ => .nil
  | _, _, _ + 1, .nil => .nil
  | _, _, k + 1, .cons a b => .cons a (ThAll.take' k b)
end
/-- the runs of a beginning are the beginning of the runs -/
theorem seenAll_take {n : NetM} {as : List Fr} {fl : List (List Fr)} {k : Nat} (h : k ≤ fl.length) : seenAll n as (fl.take k) = (seenAll n as fl).take (k + 1) := by
  unfold seenAll
  rw [← List.map_take, List.take_range, List.length_take, Nat.min_eq_left h, Nat.min_eq_left (by omega)]
  refine List.map_congr_left fun i hi => ?_
  have hi := List.mem_range.mp hi
  unfold heldI
  rw [List.take_take, Nat.min_eq_left (by omega)]
theorem hbn_ok {a N : Nat} {h : List Fr} (z : HBN a N h) (hN : N < 2 ^ 145) (ha : a ≤ 1775) {x : Fr} (hx : x ∈ h) : FOk x := by
  obtain ⟨M, m0, m1, b1⟩ := z
  have s := ((b1 x hx).sz m0 m1 hN).mono (b := 1920) (by omega) |>.d
  have s' := ((b1 x hx).sz m0 m1 hN).mono (b := 1920) (by omega) |>.n
  exact ⟨s', s⟩
theorem tab_tok {n : NetM} {as : List Fr} (g : GoodN n) (ok : AsOk n as) : TOk (tabF n as) := by
  have m4 := g.m4
  refine ⟨by rw [(sqF n as).len]; omega, fun r hr => ⟨by rw [tab_row hr]; exact m4, fun x hx => hbn_ok (tab_hb g ok hr) (Nat.lt_of_lt_of_le (show 23977 < 2 ^ 15 by decide) (Nat.pow_le_pow_right (by decide) (by decide))) (by omega) hx⟩⟩
theorem seen_tok {n : NetM} {as : List Fr} {fl : List (List Fr)} (g : GoodN n) (ok : AsOk n as) (hf : FlOk n fl) : TOk (seenAll n as fl) := by
  have l8 := hf.1
  refine ⟨by unfold seenAll; rw [List.length_map, List.length_range]; omega, fun r hr => ?_⟩
  unfold seenAll at hr
  obtain ⟨k, hk, rfl⟩ := List.mem_map.mp hr
  have hk := List.mem_range.mp hk
  obtain ⟨hb, hl⟩ := held_ok g ok hf (k := k) (by omega)
  refine ⟨by unfold seenF; rw [List.length_map]; exact Nat.le_trans g.ss.len g.m4, fun x hx => ?_⟩
  unfold seenF at hx
  obtain ⟨i, hi, rfl⟩ := List.mem_map.mp hx
  exact hbn_ok hb (n18 (by omega)) (by omega) (getD_mem (by rw [hl]; exact g.ss.lt i hi))
theorem FlOk.take {n : NetM} {fl : List (List Fr)} (h : FlOk n fl) (k : Nat) : FlOk n (fl.take k) := ⟨by rw [List.length_take]; have := h.1; omega, fun r hr => h.2 r (List.mem_of_mem_take hr)⟩
theorem TOk.take {t : Tab} (h : TOk t) (k : Nat) : TOk (t.take k) := ⟨by rw [List.length_take]; have := h.len; omega, fun r hr => h.row r (List.mem_of_mem_take hr)⟩
end KP

set_option Elab.async false
set_option linter.all false
set_option maxRecDepth 100000
set_option maxHeartbeats 4000000
/-! ### the law's check of one jar, and the law -/
namespace KP
open PySem PySem.Spec PyProof.Rows L2 KX KT KJ KS FR
abbrev lSame3 : Stmt := top 41
abbrev lRight3 : Stmt := top 60
abbrev lLaw3 : Stmt := top 61
/-- f(k = v, ..) -/
theorem pe_callK0 {X : Cx} {CX : CXT} {k : Nat} {f : Addr} {fd : FuncData} {ps ks : List Str} {sp : Sp} {E : XK} {x : Str} {p pos : Pos} {kws : List Keyword} {tk : TA} {g : List Value → List Value → List Value} {gV : List V → List V → List V}
    (F : FnOk X.prog X.w X.K X.mg X.base CX k f fd ps sp) (hr : Room k X.A) (hg : Gl X x) (hm : X.mg x = some (.ref f)) (hk : PySem.W.keepIn X.K (.ref f) = true) (hb : KBinds X.K fd ps ks g gV) (hx : Passes CX X E) (hkw : PK X kws tk)
    (hall : (backToKw pos (keywordEach kws X.env)).all (·.1.isSome) = true := by rfl) (hks : (backToKw pos (keywordEach kws X.env)).filterMap (·.1) = ks := by rfl) (hdb : (x == ("__debug__" : Str)) = false := by decide)
    (hpl : ((backTo pos (starEach [] X.env)).any (·.1) || (backToKw pos (keywordEach kws X.env)).any (·.1.isNone)) = false := by rfl) : PE X (.Call (.Name x p) [] kws pos) (tCallK sp gV E tNil tk) :=
  ⟨fun pins s σ H Q I h => wpAny_Call_Name_kw (ld_glob I hg hm (PySem.W.callWith_KW0 (h₀ := X.base) I.ok.mod.kin hk hall (thn (hkw.run pos pins s σ H _ I h) fun ws s2 ⟨zs, H2, I2, rz, q2⟩ => ⟨I2.kIn, by
    rw [hks]
    exact run_fnk F hr hb hx I2 .nil rz q2⟩) hpl) hdb)⟩
def Bt (j : Addr) (H H' : Hp) : Prop := ∀ b u, b ≠ j → H b = some u → (∀ q, u ≠ .tbl q) → H' b = some u
theorem Bt.but {j : Addr} {H H1 H2 : Hp} (a : Bt j H H1) (b : KJ.But j H1 H2) : Bt j H H2 := fun c u n e t => b c u n (a c u n e t)
theorem Bt.sm {j : Addr} {H H1 H2 : Hp} (a : Bt j H H1) (b : Sm H1 H2) : Bt j H H2 := fun c u n e t => b c u (a c u n e t) t
theorem jar_sm {H H' : Hp} {j : Addr} {n : Nat} (h : JarAt H j n) (s : Sm H H') : JarAt H' j n := by
  obtain ⟨a, b, c, e, r⟩ := h
  exact ⟨a, b, c, s _ _ e (fun _ z => by cases z), r⟩
theorem tbs_but {Ps : List Addr} {H H' : Hp} {j : Addr} {n : Nat} (t : Tbs Ps H) (jr : JarAt H j n) (b : KJ.But j H H') : Tbs Ps H' := fun P hP => by
  obtain ⟨ps, e, k⟩ := t P hP
  obtain ⟨_, _, _, ej, _⟩ := jr
  exact ⟨ps, b _ _ (fun z => by rw [z, ej] at e; cases e) e, k⟩
theorem tbs_same {Ps : List Addr} {H H' : Hp} (t : Tbs Ps H) (b : Same H H') : Tbs Ps H' := fun P hP => by
  obtain ⟨ps, e, k⟩ := t P hP
  exact ⟨ps, b _ _ e, k⟩
theorem sq_sm {K : PySem.W.Frag} {H H' : Hp} {a : Addr} {xs : List V} (s : Sm H H') (h : SqL K H a xs) : SqL K H' a xs := by
  rcases h with (h | ⟨o, h⟩) | h
  · exact .inl (.inl (s _ _ h fun _ z => by cases z))
  · exact .inl (.inr ⟨o, s _ _ h fun _ z => by cases z⟩)
  · exact .inr h
def spSame3 (K : PySem.W.Frag) : Sp := fun vs H Q _ => ∃ a b d, vs = [a, b] ∧ Shw K H a d ∧ Shw K H b d ∧ Q (.bl true) H
def spRight3 (Ps : List Addr) : Sp := fun vs H Q _ => ∃ j, vs = [.ref j] ∧ JarAt H j 0 ∧ Tbs Ps H ∧ ∀ H', Bt j H H' → Tbs Ps H' → Q (.bl true) H'
def spLaw3 (K : PySem.W.Frag) (Ps : List Addr) : Sp := fun vs H Q _ => ∃ (a : Addr) (ns : List Int), vs = [.ref a] ∧ SqL K H a (ns.map V.int) ∧ ns.length ≤ 63 ∧ Tbs Ps H ∧ ∀ H', Q (.bl true) H'
def gRev (us ws : List Value) : List Value := us ++ ws.reverse
def gRevV (us ws : List V) : List V := us ++ ws.reverse
section
variable {P : Program} {w : World} {K : PySem.W.Frag} {mg : Str → Option Value} {base : Heap}
theorem scSm3 : FnScope ["told", "due"] ["told", "due"] (defScope lSame3) := ⟨rfl, rfl, rfl, by decide +kernel, rfl, by decide +kernel, by decide +kernel⟩
theorem ok_same3 {f : Addr} {fd : FuncData} (F : Fun K "_law_same" "_law_same" lSame3 f fd) (T : TxD mg) : FnG P w K mg base 1 f fd ["told", "due"] (spSame3 K) := by
  refine FnG.mk' F scSm3 (fun {vs H Q E} h => ?_) (fun cdv A outer s H vs Q E qu hr h => ?_)
  · obtain ⟨a, b, x, rfl, _⟩ := h
    rfl
  · obtain ⟨a, b, d, rfl, ea, eb, k⟩ := h
    have qu' : Quiet (A.deeper (envOfC "_law_same" (defScope lSame3) s.heap.objs.size f cdv)) := qu
    have hu : (A.deeper (envOfC "_law_same" (defScope lSame3) s.heap.objs.size f cdv)).units + 64 < cLine := by have := hr.un; omega
    refine ⟨_, pss_one (ps_ret (pe_cmpR op_eq (pe_callB (cr_repr qu' hu) (by rfl) T.repr (by decide +kernel) (pa_cons (pv 0) pa_nil)) (pe_callB (cr_repr qu' hu) (by rfl) T.repr (by decide +kernel) (pa_cons (pv 1) pa_nil)) (nomark _))), ?_⟩
    refine ⟨_, rfl, _, _, rfl, ea, _, rfl, _, _, rfl, eb, rfl, ?_⟩
    rw [decide_eq_true rfl]
    exact k
end
end KP

set_option Elab.async false
set_option linter.all false
set_option maxRecDepth 100000
set_option maxHeartbeats 4000000
/-! ### the law -/
namespace KP
open PySem PySem.Spec PyProof.Rows L2 KX KT KJ KS FR
section
variable {P : Program} {w : World} {K : PySem.W.Frag} {mg : Str → Option Value} {base : Heap}
theorem scLw3 : FnScope ["script", "turn"] ["script"] (defScope lLaw3) := ⟨rfl, rfl, rfl, by decide +kernel, rfl, by decide +kernel, by decide +kernel⟩
theorem ok_law3 {f fR fJ : Addr} {fd fdR fdJ : FuncData} {Ps : List Addr} (F : Fun K "law" "law" lLaw3 f fd) (T : TxD mg)
    (FR : FnG P w K mg base 14 fR fdR ["jar"] (spRight3 Ps)) (mR : mg "_law_right" = some (.ref fR)) (kR : PySem.W.keepIn K (.ref fR) = true) (bR : Binds K fdR ["jar"] [])
    (FJ : FnOk P w K mg base CX0 1 fJ fdJ ["script", "turn"] (spJar K)) (mJ : mg "_law_jar" = some (.ref fJ)) (kJ : PySem.W.keepIn K (.ref fJ) = true) (bJ : Binds K fdJ ["script", "turn"] []) :
    FnG P w K mg base 15 f fd ["script"] (spLaw3 K Ps) := by
  refine FnG.mk' F scLw3 (fun {vs H Q E} h => ?_) (fun cdv A outer s H vs Q E qu hr h => ?_)
  · obtain ⟨j, _, rfl, _⟩ := h
    rfl
  · obtain ⟨a, ns, rfl, hS, hn, tb, k⟩ := h
    have hr1 : Room 1 _ := hr.mono (by decide)
    have qu' : Quiet (A.deeper (envOfC "law" (defScope lLaw3) s.heap.objs.size f cdv)) := qu
    refine ⟨_, pss_one (ps_ret (pe_callB (cr_all rfl) (by rfl) T.all (by decide +kernel) (pa_cons (pe_lc (own := [("turn", 1)]) (g := gName 1) (tt := tYes) rfl scLw3.nd
      (pi_range1 rfl T.range (pa_cons (pe_callB (call_max2 rfl) (by rfl) T.max (by decide +kernel) (pa_cons pe_int (pa_cons (pe_callB (call_min2 rfl) (by rfl) T.min (by decide +kernel) (pa_cons (pe_callB call_len_seq (by rfl) T.len PySem.boot_len (pa_cons (pv 0) pa_nil)) (pa_cons pe_int pa_nil))) pa_nil))) pa_nil))
      (blkOk_by (N := ["script", "turn"]) (sc := defScope lLaw3) (by decide +kernel)) (fun _ _ _ _ _ => pg_name (i := 1) scLw3.nd rfl (Or.inl rfl)) (fun _ _ _ _ _ => pts_nil)
      (fun _ _ _ _ _ => pe_quiet FR qu' hr rfl mR kR bR (pa_cons (pe_call FJ hr1 rfl mJ kJ bJ .nil pass0 (pa_cons (pv 0) (pa_cons (pv 1) pa_nil))) pa_nil))) pa_nil))), ?_⟩
    refine ⟨_, rfl, a, _, rfl, .inl hS, _, _, rfl, _, _, rfl, _, rfl, ?_, ?_, fun D hD => ?_⟩
    · split <;> split <;> omega
    · rw [List.length_map]
      split <;> split <;> omega
    · rw [List.length_map]
      generalize hN : (if (if (5 : Int) < (ns.length : Nat) then (5 : Int) else (ns.length : Nat)) > 2 then (if (5 : Int) < (ns.length : Nat) then (5 : Int) else (ns.length : Nat)) else (2 : Int)).toNat = N
      have hN4 : N ≤ 5 := by
        rw [← hN]
        split <;> split <;> omega
      refine lc_range (lo := 0) (n := N) (fun n H' => Sm H H' ∧ Tbs Ps H' ∧ H' D = some (.lst ((List.replicate n true).map V.bl))) ⟨Sm.same (same_upd hD), tbs_same tb (same_upd hD), upd_same⟩ ?_ ?_
      · rintro i H1 hi ⟨s1, t1, hD1⟩
        refine ⟨rfl, ?_⟩
        refine ⟨_, rfl, _, rfl, a, ns, i, by rw [Int.zero_add]; rfl, sq_sm s1 hS, hn, by omega, fun j H2 hj s2 jr => ?_⟩
        refine ⟨j, rfl, jr, tbs_same t1 s2, fun H3 b3 t3 => ?_⟩
        have nD : D ≠ j := ne_of_none hD1 hj
        refine ⟨_, b3 _ _ nD (s2 _ _ hD1) (fun _ z => by cases z), ?_, fun b o e nt => ?_, fun p hp => ?_, ?_⟩
        · rw [List.length_map, List.length_replicate]
          exact Nat.lt_of_lt_of_le hi (Nat.le_trans hN4 (by decide))
        · have nb : b ≠ D := fun z => by
            rw [z, hD] at e
            cases e
          rw [upd_ne nb]
          have e1 := s1 _ _ e nt
          exact b3 _ _ (ne_of_none e1 hj) (s2 _ _ e1) nt
        · obtain ⟨ps, e, c⟩ := t3 p hp
          have e3 := b3 _ _ nD (s2 _ _ hD1) (fun _ z => by cases z)
          exact ⟨ps, by rw [upd_ne (fun z => by rw [z, e3] at e; cases e)]; exact e, c⟩
        · rw [upd_same, List.replicate_succ', List.map_append]
          rfl
      · rintro H1 ⟨s1, t1, hD1⟩
        refine ⟨D, _, rfl, SqL.of hD1, ?_⟩
        have al : (List.replicate N true).all id = true := by
          rw [List.all_eq_true]
          intro x hx
          rw [List.eq_of_mem_replicate hx]
          rfl
        rw [al]
        exact k H1
end
end KP

set_option Elab.async false
set_option linter.all false
set_option maxRecDepth 100000
set_option maxHeartbeats 1000000
/-! ### the end of a law whose def is quiet, with tables of code -/
namespace KG
open PySem PySem.Spec PyProof.Rows L2 KX
open Classical in
theorem lawGT {P : Program} {w : World} {K : PySem.W.Frag} {mg mb : Str → Option Value} {k : Nat} {fa a : Addr} {cs : List (Addr × Addr)} {fd : FuncData} {x : Str} {sp : Sp} {s₁ : Shared} {vs : List Value} {ns : List Int}
    (inK : K.In s₁.heap) (hns : s₁.heap.Ns mainGlobals mg) (hb : s₁.heap.Ns builtinsNs mb) (hbb : ∀ y : Str, y ≠ "__name__" → mb y = bootBuiltins y) (hlim : s₁.heap.NoLimit) (hg : s₁.gens = #[])
    (hT : ∀ p ∈ cs, s₁.heap.get? p.2 = some { cls := .none, data := .fields #[] }) (nT : ∀ p ∈ cs, K.lookup p.2 = none) (C : ∀ p ∈ cs, PySem.W.CodeHd s₁.heap p.1 p.2)
    (hbm : ∃ (bm : Addr) (ob : Obj), mg "__builtins__" = some (.ref bm) ∧ bm ≠ builtinsNs ∧ s₁.heap.get? bm = some ob ∧ ob.cls = .type "module" ∧ ob.dict = some builtinsNs ∧ ob.data = .plain)
    (ha : s₁.heap.get? a = some { cls := .type "list", data := .seq vs.toArray }) (hi : IntsAre vs ns) (hl : ns.length ≤ sizeLine) (hr : Room k callerA)
    (F : ∀ base : Heap, K.In base → base.Ns mainGlobals mg → (∀ p ∈ cs, GxR.TabB base mg p.1 p.2) → FnG P w K mg base k fa fd [x] sp) (hbind : ∀ (s : Shared) (u : Value), BindsTo s fd ⟨[u], []⟩ [(x, u)])
    (hsp : ∀ H : Hp, (∀ p ∈ cs, H p.2 = some (.tbl #[])) → SqL K H a (ns.map V.int) → sp [.ref a] H (fun v _ => v = .bl true) fun _ _ _ => False) :
    codeAny (model P w) callerA (.call (.ref fa) ⟨[.ref a], []⟩) (fun r s' => r = .ok (.ret (.bool true)) ∧ OldK s₁.heap s'.heap ∧ s'.os = s₁.os ∧ AllBare s'.gens) s₁ := by
  let scr : Obj := { cls := .type "list", data := .seq vs.toArray }
  let H : Hp := fun b => if K.lookup a = none ∧ b = a then some (.frz scr (.lst (ns.map V.int))) else if b ∈ cs.map (·.2) then some (.tbl #[]) else none
  have rv := vals_ints hi
  have isT : ∀ {b : Addr}, b ∈ cs.map (·.2) → s₁.heap.get? b = some { cls := .none, data := .fields #[] } ∧ K.lookup b = none := fun {b} hb => by
    obtain ⟨p, hp, e⟩ := List.mem_map.mp hb
    rw [← e]
    exact ⟨hT p hp, nT p hp⟩
  have memT : ∀ p ∈ cs, p.2 ∈ cs.map (·.2) := fun p hp => List.mem_map.mpr ⟨p, hp, rfl⟩
  have aT : ∀ {b}, b ∈ cs.map (·.2) → b ≠ a := fun {b} hb z => by
    have q := (isT hb).1
    rw [z, ha] at q
    cases q
  have hA : ∀ {b u}, H b = some u → (K.lookup a = none ∧ b = a ∧ u = .frz scr (.lst (ns.map V.int))) ∨ (b ∈ cs.map (·.2) ∧ u = .tbl #[]) := fun {b u} z => by
    by_cases c : K.lookup a = none ∧ b = a
    · have z' : some (HO.frz scr (.lst (ns.map V.int))) = some u := (if_pos c).symm.trans z
      exact .inl ⟨c.1, c.2, (Option.some.inj z').symm⟩
    · have z1 := (if_neg c).symm.trans z
      by_cases c2 : b ∈ cs.map (·.2)
      · have z' : some (HO.tbl #[]) = some u := (if_pos c2).symm.trans z1
        exact .inr ⟨c2, (Option.some.inj z').symm⟩
      · have z' : none = some u := (if_neg c2).symm.trans z1
        cases z'
  have hTb : ∀ p ∈ cs, H p.2 = some (.tbl #[]) := fun p hp => (if_neg fun z => aT (memT p hp) z.2).trans (if_pos (memT p hp))
  have nK : ∀ {b o}, K.lookup b = some o → H b = none := fun {b o} e => by
    cases z : H b with
    | none => rfl
    | some u =>
      rcases hA z with ⟨z1, z2, _⟩ | ⟨z1, _⟩
      · rw [z2, z1] at e
        cases e
      · rw [(isT z1).2] at e
        cases e
  have noD : ∀ {b : Addr} {o : Obj}, s₁.heap.get? b = some o → (∀ vs n, o.data ≠ .seq vs n) → o.data ≠ .fields #[] → H b = none := fun {b o} e h1 h2 => by
    cases z : H b with
    | none => rfl
    | some u =>
      rcases hA z with ⟨_, z2, _⟩ | ⟨z1, _⟩
      · rw [z2, ha] at e
        cases e
        exact absurd rfl (h1 _ _)
      · rw [(isT z1).1] at e
        cases e
        exact absurd rfl h2
  have nD : ∀ {b m}, s₁.heap.Ns b m → (hidT s₁.heap H).Ns b m := by
    rintro b m ⟨o, es, ep, e, d, r⟩
    refine ⟨o, es, ep, hidT_get e (noD e (fun vs n z => ?_) fun z => ?_), d, r⟩ <;> (rw [d] at z; cases z)
  have inB : K.In (hidT s₁.heap H) := fun b o e => hidT_get (inK b o e) (nK e)
  have hok : HOk P w H s₁.heap := fun b u z => by
    rcases hA z with ⟨_, rfl, rfl⟩ | ⟨z1, rfl⟩
    · exact ⟨ha, by rw [List.length_map]; exact hl, vs, _, rv, ha⟩
    · exact (isT z1).1
  have sq : SqL K H a (ns.map V.int) := by
    cases z : K.lookup a with
    | none => exact .inl (.inr ⟨scr, if_pos ⟨z, rfl⟩⟩)
    | some o =>
      have e := inK a o z
      rw [ha] at e
      cases e
      exact .inr ⟨_, vs.toArray, _, z, rfl, rfl, rfl, by rw [List.size_toArray, hi.length]; exact hl, by simpa using rv⟩
  have TB : ∀ p ∈ cs, GxR.TabB (hidT s₁.heap H) mg p.1 p.2 := fun p hp => by
    have hTp := hT p hp
    refine ⟨?_, ?_, fun z => ?_⟩
    · obtain ⟨o, us, file, tf, flags, tg, inF, text, tt, e1, r1, r2, r3, r4, r5, r6, r7, r8, hne⟩ := C p hp
      refine ⟨o, us, file, tf, flags, tg, inF, text, tt, hidT_get e1 (noD e1 (fun vs n z => ?_) fun z => ?_), r1, r2, r3, r4, r5, r6, r7, r8, hne⟩
      · rw [r2] at z
        cases z
      · rw [r2] at z
        cases z
        simp at r3
    · obtain ⟨bm, ob, b1, b2, b3, b4, b5, b6⟩ := hbm
      have nG : bm ≠ mainGlobals := fun q => by
        obtain ⟨o, es, ep, e, hd, _⟩ := hns
        rw [q, e] at b3
        cases b3
        rw [hd] at b6
        cases b6
      have nP : bm ≠ p.2 := fun q => by
        rw [q, hTp] at b3
        cases b3
        cases b6
      refine ⟨bm, ob, b1, b2, nG, nP, hidT_get b3 (noD b3 (fun vs n z => ?_) fun z => ?_), b4, b5, b6⟩ <;> (rw [b6] at z; cases z)
    · obtain ⟨o, es, ep, e, hd, _⟩ := hns
      rw [z, hTp] at e
      cases e
      cases hd
  have e0 : Env0 P w K mg (hidT s₁.heap H) callerA [] s₁ H :=
    ⟨rfl, ⟨inB, nD hns, ⟨mb, nD hb, hbb⟩, let ⟨mc, h1, h2⟩ := hlim; ⟨mc, nD h1, h2⟩⟩, fun b o e => of_hidT e, Nat.le_of_eq (hidT_size _ _), trivial, fun b z => (nomatch z), hok, .of_eq hg⟩
  refine codeAny_mono ((F _ inB (nD hns) TB).goes (us := [.ref a]) (vs := [.ref a]) rfl hr e0 (hbind s₁ (.ref a)) (.cons rfl .nil) (hsp H hTb sq)) ?_
  rintro (e | (_ | _ | _ | u)) s' z
  · exact z.elim
  · exact False.elim z
  · exact False.elim z
  · exact False.elim z
  · obtain ⟨v, H', os, bare, un, hok', r', q⟩ := z
    subst q
    obtain rfl : u = Value.bool true := r'
    have key : ∀ b o, b ∉ cs.map (·.2) → s₁.heap.get? b = some o → s'.heap.get? b = some o := fun b o nb e => by
      cases c : H b with
      | none => exact un.keep b o e c (fun z => nomatch z) (fun z => nomatch z)
      | some y =>
        rcases hA c with ⟨_, rfl, rfl⟩ | ⟨z1, _⟩
        · have e1 := (hok _ _ c).1
          have e2 := (hok' _ _ (un.frzs _ _ _ c)).1
          rw [e1] at e
          cases e
          exact e2
        · exact absurd z1 nb
    have grown : ∀ p ∈ cs, ∃ more : Array Value, s'.heap.get? p.2 = some { cls := .none, data := .fields more } := fun p hp => by
      obtain ⟨more, z⟩ := un.tbls p.2 #[] (hTb p hp)
      exact ⟨_, hok' p.2 _ z⟩
    refine ⟨rfl, ⟨fun b o e => ?_, fun b o e => ?_⟩, os, bare⟩
    · by_cases hb : b ∈ cs.map (·.2)
      · obtain ⟨p, hp, ep⟩ := List.mem_map.mp hb
        obtain ⟨more, hm⟩ := grown p hp
        rw [← ep] at e ⊢
        rw [hT p hp] at e
        cases e
        exact .inr (.inl ⟨((C p hp).tab (hT p hp)).isCodeTable, rfl, #[], more, rfl, by rw [Array.empty_append]; exact hm⟩)
      · exact .inl (key b o hb e)
    · by_cases hb : b ∈ cs.map (·.2)
      · obtain ⟨p, hp, ep⟩ := List.mem_map.mp hb
        obtain ⟨more, hm⟩ := grown p hp
        rw [← ep]
        exact ⟨_, hm⟩
      · exact ⟨o, key b o hb e⟩
end KG

set_option Elab.async false
set_option linter.all false
set_option maxRecDepth 100000
set_option maxHeartbeats 4000000
/-! ### the end of a quiet law with tables -/
namespace KG
open PySem PySem.Spec PyProof.Rows L2 KX
/-- what is known of the table of a top def -/
abbrev TabFact (mg : Str → Option Value) (h : Heap) (y : Str) : Prop := ∃ (a : Addr) (o : Obj) (fd : FuncData) (c P : Addr), mg y = some (.ref a) ∧ h.get? a = some o ∧ o.data = .func fd ∧ fd.code = .ref c ∧ PySem.W.CodeHd h c P ∧ h.get? P = some { cls := .none, data := .fields #[] }
theorem walkGT {l : PySem.W.OpenLaw} {n k : Nat} {q : Program} {loose : List Str} {XP : (Str → Option Value) → Heap → Prop} {YP : World → Heap → Prop} {d : DefRec} {K : Params → PySem.W.Frag} {x : Str}
    (hn : l.most = some n) (hn2 : n ≤ sizeLine) (hdf : d.params.defaults = []) (hr : Room k callerA) (hY : ∀ (w : World) (h : Heap), YP w h → (K w.params).In h)
    (F : ∀ (w : World) (mg : Str → Option Value) (fa : Addr) (h : Heap), (K w.params).In h → h.Ns mainGlobals mg → mg d.name = some (.ref fa) → (∀ y : Str, ((recsOf q).any fun e => e.name == y) = true → TabFact mg h y) →
      ∃ (fd : FuncData) (cs : List (Addr × Addr)) (sp : Sp), (∀ p ∈ cs, h.get? p.2 = some { cls := .none, data := .fields #[] }) ∧ (∀ p ∈ cs, (K w.params).lookup p.2 = none) ∧ (∀ p ∈ cs, PySem.W.CodeHd h p.1 p.2) ∧ (∀ (s : Shared) (u : Value), BindsTo s fd ⟨[u], []⟩ [(x, u)]) ∧
        (∀ (H : Hp) (a : Addr) (ns : List Int), ns.length ≤ n → (∀ p ∈ cs, H p.2 = some (.tbl #[])) → SqL (K w.params) H a (ns.map V.int) → sp [.ref a] H (fun v _ => v = .bl true) fun _ _ _ => False) ∧
        ∀ base : Heap, (K w.params).In base → base.Ns mainGlobals mg → (∀ p ∈ cs, GxR.TabB base mg p.1 p.2) → FnG l.prog w (K w.params) mg base k fa fd [x] sp) :
    PySem.W.WalkO q loose XP YP l.row.toRowW d [] (fun f vs => PySem.call f vs) :=
  Att.attach_call hn hdf fun w s₀ s₁ mg mb fa o pm cd doc a vs ns G Y ho hd hcd hmg hobj hints hlen hg => by
    obtain ⟨fd, cs, sp, hT, nT, C, b, hsp, f⟩ := F w mg fa _ (hY w _ Y) G.T.g hmg fun y hy => by
      obtain ⟨e, he, en⟩ := List.any_eq_true.mp hy
      have en : e.name = y := beq_iff_eq.mp en
      obtain ⟨a1, o1, fd1, c1, P1, h1, h2, h3, h4, h5, h6⟩ := G.T.tab e he
      rw [en] at h1
      exact ⟨a1, o1, fd1, c1, P1, h1, h2, h3, h4, PySem.W.CodeHd.of h5 h6, h6.2⟩
    exact lawGT (hY w _ Y) G.T.g G.T.b G.T.builtins G.T.nolimit hg hT nT C G.T.bmain hobj hints (Nat.le_trans hlen hn2) hr f b fun H h1 h2 => hsp H a ns hlen h1 h2
/-- a def whose table is known -/
theorem tab_def {K : PySem.W.Frag} {h : Heap} {mg : Str → Option Value} {y : Str} {f : Addr} {oc : Value} {od : Option Addr} {fd : FuncData} {sl : Array (Option Value)} (X : K.In h) (m : mg y = some (.ref f)) (l : K.lookup f = some ⟨oc, od, .func fd, sl⟩) (nt : PySem.W.noTabs K = true) (t : TabFact mg h y) :
    ∃ c P, fd.code = .ref c ∧ PySem.W.CodeHd h c P ∧ h.get? P = some { cls := .none, data := .fields #[] } ∧ K.lookup P = none := by
  obtain ⟨a, o, fd', c, P, h1, h2, h3, h4, h5, h6⟩ := t
  rw [m] at h1
  cases h1
  have e := X _ _ l
  rw [e] at h2
  cases h2
  cases h3
  refine ⟨c, P, h4, h5, h6, ?_⟩
  cases z : K.lookup P with
  | none => rfl
  | some u =>
    have e := X _ _ z
    rw [h6] at e
    cases e
    have := List.all_eq_true.mp nt _ (PySem.W.mem_of_lookupK z)
    cases this
end KG

set_option Elab.async false
set_option linter.all false
/-! ### fractions in lowest terms: their algebra -/
namespace FR
structure Lo (x : Fr) : Prop where
  pos : 0 < x.2
  g : Nat.gcd x.1.natAbs x.2.natAbs = 1
theorem lo_low {t l : Int} (h : 0 < l) : Lo (low t l) := by
  obtain ⟨e1, e2⟩ := low_abs (t := t) h
  have hg := gcd_pos (t := t) h
  have q2 : 0 < l.natAbs / Nat.gcd t.natAbs l.natAbs := Nat.div_pos (Nat.le_of_dvd (by omega) (Nat.gcd_dvd_right _ _)) hg
  refine ⟨by rw [e2]; omega, ?_⟩
  rw [e1, e2, Int.natAbs_natCast]
  exact Nat.coprime_div_gcd_div_gcd hg
/-- what low keeps -/
theorem low_val {t l : Int} (h : 0 < l) : (low t l).1 * l = t * (low t l).2 := by
  have hg := gcd_pos (t := t) h
  have d1 : ((Nat.gcd t.natAbs l.natAbs : Nat) : Int) ∣ t := Int.ofNat_dvd_left.mpr (Nat.gcd_dvd_left _ _)
  have d2 : ((Nat.gcd t.natAbs l.natAbs : Nat) : Int) ∣ l := Int.ofNat_dvd_left.mpr (Nat.gcd_dvd_right _ _)
  unfold low
  generalize ((Nat.gcd t.natAbs l.natAbs : Nat) : Int) = g at d1 d2 hg ⊢
  obtain ⟨a, rfl⟩ := d1
  obtain ⟨b, rfl⟩ := d2
  have g0 : g ≠ 0 := fun z => by rw [z, Int.zero_mul] at h; omega
  show g * a / g * (g * b) = g * a * (g * b / g)
  rw [Int.mul_ediv_cancel_left _ g0, Int.mul_ediv_cancel_left _ g0]
  grind
/-- two in lowest terms with the same worth are the same -/
theorem lo_ext {x y : Fr} (hx : Lo x) (hy : Lo y) (e : x.1 * y.2 = y.1 * x.2) : x = y := by
  obtain ⟨a, b⟩ := x
  obtain ⟨c, d⟩ := y
  have e : a * d = c * b := e
  have hb : 0 < b := hx.pos
  have hd : 0 < d := hy.pos
  have ga : Nat.Coprime a.natAbs b.natAbs := hx.g
  have gc : Nat.Coprime c.natAbs d.natAbs := hy.g
  have en : a.natAbs * d.natAbs = c.natAbs * b.natAbs := by rw [← Int.natAbs_mul, ← Int.natAbs_mul, e]
  have h1 : b.natAbs ∣ d.natAbs := ga.symm.dvd_of_dvd_mul_left (by rw [en]; exact Nat.dvd_mul_left _ _)
  have h2 : d.natAbs ∣ b.natAbs := gc.symm.dvd_of_dvd_mul_left (by rw [← en]; exact Nat.dvd_mul_left _ _)
  have h3 := Nat.dvd_antisymm h1 h2
  have h4 : b = d := by omega
  subst h4
  have h5 : a = c := Int.eq_of_mul_eq_mul_right (by omega) e
  rw [h5]
theorem low_eq {t l t' l' : Int} (h : 0 < l) (h' : 0 < l') (e : t * l' = t' * l) : low t l = low t' l' := by
  refine lo_ext (lo_low h) (lo_low h') ?_
  have v1 := low_val (t := t) h
  have v2 := low_val (t := t') h'
  generalize (low t l).1 = a at v1 ⊢
  generalize (low t l).2 = b at v1 ⊢
  generalize (low t' l').1 = c at v2 ⊢
  generalize (low t' l').2 = d at v2 ⊢
  have z : (a * d) * (l * l') = (c * b) * (l * l') := by grind
  exact Int.eq_of_mul_eq_mul_right (by have := Int.mul_pos h h'; omega) z
theorem low_self {x : Fr} (h : Lo x) : low x.1 x.2 = x := lo_ext (lo_low h.pos) h (low_val h.pos)
theorem lo_add {x y : Fr} (hx : Lo x) (hy : Lo y) : Lo (addF x y) := lo_low (Int.mul_pos hx.pos hy.pos)
theorem lo_les {x y : Fr} (hx : Lo x) (hy : Lo y) : Lo (lesF x y) := lo_low (Int.mul_pos hx.pos hy.pos)
theorem lo_mul {x y : Fr} (hx : Lo x) (hy : Lo y) : Lo (mulF x y) := lo_low (Int.mul_pos hx.pos hy.pos)
theorem add_comm' (x y : Fr) : addF x y = addF y x := by
  unfold addF
  rw [Int.add_comm, Int.mul_comm x.2]
theorem mul_comm' (x y : Fr) : mulF x y = mulF y x := by
  unfold mulF
  rw [Int.mul_comm x.1, Int.mul_comm x.2]
theorem add_assoc' {x y z : Fr} (hx : Lo x) (hy : Lo y) (hz : Lo z) : addF (addF x y) z = addF x (addF y z) := by
  have p := (lo_add hx hy).pos
  have q := (lo_add hy hz).pos
  have v1 : (addF x y).1 * (x.2 * y.2) = (x.1 * y.2 + y.1 * x.2) * (addF x y).2 := low_val (Int.mul_pos hx.pos hy.pos)
  have v2 : (addF y z).1 * (y.2 * z.2) = (y.1 * z.2 + z.1 * y.2) * (addF y z).2 := low_val (Int.mul_pos hy.pos hz.pos)
  show low ((addF x y).1 * z.2 + z.1 * (addF x y).2) ((addF x y).2 * z.2) = low (x.1 * (addF y z).2 + (addF y z).1 * x.2) (x.2 * (addF y z).2)
  have py := hy.pos
  generalize (addF x y).1 = a at v1 ⊢
  generalize (addF x y).2 = b at v1 p ⊢
  generalize (addF y z).1 = c at v2 ⊢
  generalize (addF y z).2 = d at v2 q ⊢
  refine low_eq (Int.mul_pos p hz.pos) (Int.mul_pos hx.pos q) ?_
  have w : ((a * z.2 + z.1 * b) * (x.2 * d)) * y.2 = ((x.1 * d + c * x.2) * (b * z.2)) * y.2 := by grind
  exact Int.eq_of_mul_eq_mul_right (by omega) w
theorem mul_assoc' {x y z : Fr} (hx : Lo x) (hy : Lo y) (hz : Lo z) : mulF (mulF x y) z = mulF x (mulF y z) := by
  have p := (lo_mul hx hy).pos
  have q := (lo_mul hy hz).pos
  have v1 : (mulF x y).1 * (x.2 * y.2) = (x.1 * y.1) * (mulF x y).2 := low_val (Int.mul_pos hx.pos hy.pos)
  have v2 : (mulF y z).1 * (y.2 * z.2) = (y.1 * z.1) * (mulF y z).2 := low_val (Int.mul_pos hy.pos hz.pos)
  show low ((mulF x y).1 * z.1) ((mulF x y).2 * z.2) = low (x.1 * (mulF y z).1) (x.2 * (mulF y z).2)
  have py := hy.pos
  generalize (mulF x y).1 = a at v1 ⊢
  generalize (mulF x y).2 = b at v1 p ⊢
  generalize (mulF y z).1 = c at v2 ⊢
  generalize (mulF y z).2 = d at v2 q ⊢
  refine low_eq (Int.mul_pos p hz.pos) (Int.mul_pos hx.pos q) ?_
  have w : ((a * z.1) * (x.2 * d)) * y.2 = ((x.1 * c) * (b * z.2)) * y.2 := by grind
  exact Int.eq_of_mul_eq_mul_right (by omega) w
theorem mul_add' {x y z : Fr} (hx : Lo x) (hy : Lo y) (hz : Lo z) : mulF x (addF y z) = addF (mulF x y) (mulF x z) := by
  have p := (lo_mul hx hy).pos
  have q := (lo_mul hx hz).pos
  have r := (lo_add hy hz).pos
  have v1 : (mulF x y).1 * (x.2 * y.2) = (x.1 * y.1) * (mulF x y).2 := low_val (Int.mul_pos hx.pos hy.pos)
  have v2 : (mulF x z).1 * (x.2 * z.2) = (x.1 * z.1) * (mulF x z).2 := low_val (Int.mul_pos hx.pos hz.pos)
  have v3 : (addF y z).1 * (y.2 * z.2) = (y.1 * z.2 + z.1 * y.2) * (addF y z).2 := low_val (Int.mul_pos hy.pos hz.pos)
  show low (x.1 * (addF y z).1) (x.2 * (addF y z).2) = low ((mulF x y).1 * (mulF x z).2 + (mulF x z).1 * (mulF x y).2) ((mulF x y).2 * (mulF x z).2)
  have px := hx.pos
  have py := hy.pos
  have pz := hz.pos
  generalize (mulF x y).1 = a at v1 ⊢
  generalize (mulF x y).2 = b at v1 p ⊢
  generalize (mulF x z).1 = c at v2 ⊢
  generalize (mulF x z).2 = d at v2 q ⊢
  generalize (addF y z).1 = e at v3 ⊢
  generalize (addF y z).2 = f at v3 r ⊢
  refine low_eq (Int.mul_pos px r) (Int.mul_pos p q) ?_
  have w : ((x.1 * e) * (b * d)) * (x.2 * y.2 * z.2) = ((a * d + c * b) * (x.2 * f)) * (x.2 * y.2 * z.2) := by grind
  exact Int.eq_of_mul_eq_mul_right (by have := Int.mul_pos (Int.mul_pos px py) pz; omega) w
theorem lo0 : Lo (0, 1) := ⟨by decide, by decide +kernel⟩
theorem lo1 : Lo (1, 1) := ⟨by decide, by decide +kernel⟩
theorem add_zero' {x : Fr} (h : Lo x) : addF (0, 1) x = x := by
  show low (0 * x.2 + x.1 * 1) (1 * x.2) = x
  rw [Int.zero_mul, Int.zero_add, Int.mul_one, Int.one_mul]
  exact low_self h
theorem mul_one' {x : Fr} (h : Lo x) : mulF (1, 1) x = x := by
  show low (1 * x.1) (1 * x.2) = x
  rw [Int.one_mul, Int.one_mul]
  exact low_self h
theorem mul_zero' {x : Fr} (h : Lo x) : mulF (0, 1) x = (0, 1) := by
  show low (0 * x.1) (1 * x.2) = (0, 1)
  rw [Int.zero_mul, Int.one_mul]
  have e : low 0 x.2 = low 0 1 := low_eq h.pos (by decide) (by omega)
  rw [e]
  rfl
end FR

set_option Elab.async false
set_option linter.all false
set_option maxHeartbeats 1000000
/-! ### fractions as rational numbers; sums; powers of tables -/
namespace FR
def val (x : Fr) : Rat := (x.1 : Rat) / (x.2 : Rat)
theorem ne0 {i : Int} (h : 0 < i) : (i : Rat) ≠ 0 := fun z => by
  have : i = 0 := by exact_mod_cast z
  omega
theorem frac_eq {a b t l : Rat} (hb : b ≠ 0) (hl : l ≠ 0) (e : a * l = t * b) : a / b = t / l := by grind
theorem val_low {t l : Int} (h : 0 < l) : val (low t l) = (t : Rat) / (l : Rat) := by
  have v := low_val (t := t) h
  have p := (lo_low (t := t) h).pos
  refine frac_eq (ne0 p) (ne0 h) ?_
  exact_mod_cast v
theorem val_add {x y : Fr} (hx : 0 < x.2) (hy : 0 < y.2) : val (addF x y) = val x + val y := by
  have a := ne0 hx
  have b := ne0 hy
  unfold addF
  rw [val_low (Int.mul_pos hx hy)]
  unfold val
  rw [Rat.intCast_add, Rat.intCast_mul, Rat.intCast_mul, Rat.intCast_mul]
  grind
theorem val_les {x y : Fr} (hx : 0 < x.2) (hy : 0 < y.2) : val (lesF x y) = val x - val y := by
  have a := ne0 hx
  have b := ne0 hy
  unfold lesF
  rw [val_low (Int.mul_pos hx hy)]
  unfold val
  rw [Rat.intCast_sub, Rat.intCast_mul, Rat.intCast_mul, Rat.intCast_mul]
  grind
theorem val_mul {x y : Fr} (hx : 0 < x.2) (hy : 0 < y.2) : val (mulF x y) = val x * val y := by
  have a := ne0 hx
  have b := ne0 hy
  unfold mulF
  rw [val_low (Int.mul_pos hx hy)]
  unfold val
  rw [Rat.intCast_mul, Rat.intCast_mul]
  grind
theorem val_inj {x y : Fr} (hx : Lo x) (hy : Lo y) (e : val x = val y) : x = y := by
  refine lo_ext hx hy ?_
  have a := ne0 hx.pos
  have b := ne0 hy.pos
  unfold val at e
  have z : (x.1 : Rat) * y.2 = y.1 * x.2 := by grind
  exact_mod_cast z
theorem val0 : val (0, 1) = 0 := by unfold val; grind
theorem val1 : val (1, 1) = 1 := by unfold val; grind
/-- sums -/
def sm : Nat → (Nat → Rat) → Rat
  | 0, _ => 0
  | n + 1, f => sm n f + f n
theorem sm_congr {f g : Nat → Rat} : ∀ {n : Nat}, (∀ i, i < n → f i = g i) → sm n f = sm n g
  | 0, _ => rfl
  | n + 1, h => by
    unfold sm
    rw [sm_congr (n := n) fun i hi => h i (by omega), h n (by omega)]
theorem sm_add (f g : Nat → Rat) : ∀ n, sm n (fun i => f i + g i) = sm n f + sm n g
  | 0 => by unfold sm; grind
  | n + 1 => by
    unfold sm
    rw [sm_add f g n]
    grind
theorem sm_mul (c : Rat) (f : Nat → Rat) : ∀ n, sm n (fun i => c * f i) = c * sm n f
  | 0 => by unfold sm; grind
  | n + 1 => by
    unfold sm
    rw [sm_mul c f n]
    grind
theorem sm_mulr (c : Rat) (f : Nat → Rat) : ∀ n, sm n (fun i => f i * c) = sm n f * c
  | 0 => by unfold sm; grind
  | n + 1 => by
    unfold sm
    rw [sm_mulr c f n]
    grind
theorem sm_zero : ∀ n, sm n (fun _ => 0) = 0
  | 0 => rfl
  | n + 1 => by
    unfold sm
    rw [sm_zero n]
    grind
theorem sm_swap (f : Nat → Nat → Rat) : ∀ n m, sm n (fun i => sm m (f i)) = sm m (fun j => sm n (fun i => f i j))
  | 0, m => by
    show (0 : Rat) = sm m fun _ => 0
    rw [sm_zero]
  | n + 1, m => by
    show sm n (fun i => sm m (f i)) + sm m (f n) = sm m fun j => sm n (fun i => f i j) + f n j
    rw [sm_swap f n m, sm_add]
def dlt (i j : Nat) : Rat := if i = j then 1 else 0
theorem sm_dlt {f : Nat → Rat} {j : Nat} : ∀ {n}, sm n (fun i => f i * dlt i j) = if j < n then f j else 0
  | 0 => by simp [sm]
  | n + 1 => by
    show sm n (fun i => f i * dlt i j) + f n * dlt n j = _
    rw [sm_dlt (n := n)]
    unfold dlt
    by_cases c : n = j
    · subst c
      simp
      grind
    · rw [if_neg c]
      by_cases d : j < n
      · rw [if_pos d, if_pos (by omega)]
        grind
      · rw [if_neg d, if_neg (by omega)]
        grind
theorem dlt_comm (i j : Nat) : dlt i j = dlt j i := by
  unfold dlt
  by_cases c : i = j
  · rw [if_pos c, if_pos c.symm]
  · rw [if_neg c, if_neg (Ne.symm c)]
/-- the powers of a table of m rows -/
def pw (A : Nat → Nat → Rat) (m : Nat) : Nat → Nat → Nat → Rat
  | 0, i, j => dlt i j
  | k + 1, i, j => sm m fun l => A i l * pw A m k l j
theorem pw_right (A : Nat → Nat → Rat) (m : Nat) : ∀ (k : Nat) {i j : Nat}, i < m → j < m → pw A m (k + 1) i j = sm m fun l => pw A m k i l * A l j
  | 0, i, j, hi, hj => by
    show (sm m fun l => A i l * dlt l j) = sm m fun l => dlt i l * A l j
    rw [sm_dlt, if_pos hj]
    have e : sm m (fun l => dlt i l * A l j) = sm m fun l => A l j * dlt l i := sm_congr fun l _ => by rw [dlt_comm i l]; grind
    rw [e, sm_dlt (f := fun l => A l j), if_pos hi]
  | k + 1, i, j, hi, hj => by
    have e1 : pw A m (k + 1 + 1) i j = sm m fun l => sm m fun l' => A i l * (pw A m k l l' * A l' j) := by
      show (sm m fun l => A i l * pw A m (k + 1) l j) = _
      refine sm_congr fun l hl => ?_
      rw [pw_right A m k hl hj, sm_mul]
    rw [e1, sm_swap]
    refine sm_congr fun l' _ => ?_
    rw [show pw A m (k + 1) i l' = sm m fun l => A i l * pw A m k l l' from rfl, ← sm_mulr]
    exact sm_congr fun l _ => by grind
end FR

set_option Elab.async false
set_option linter.all false
set_option maxRecDepth 100000
set_option maxHeartbeats 4000000
/-! ### what is nought on a grid is nought -/
namespace QG
def ev : List Rat → Rat → Rat
  | [], _ => 0
  | a :: L, x => a + x * ev L x
def addL : List Rat → List Rat → List Rat
  | [], M => M
  | a :: L, [] => a :: L
  | a :: L, b :: M => (a + b) :: addL L M
theorem ev_addL : ∀ (L M : List Rat) (x : Rat), ev (addL L M) x = ev L x + ev M x
  | [], M, x => by simp only [addL, ev]; grind
  | a :: L, [], x => by simp only [addL, ev]; grind
  | a :: L, b :: M, x => by simp only [addL, ev]; rw [ev_addL L M x]; grind
theorem addL_len : ∀ (L M : List Rat), M.length ≤ L.length → (addL L M).length = L.length
  | [], [], _ => rfl
  | [], _ :: _, h => by simp at h
  | a :: L, [], _ => rfl
  | a :: L, b :: M, h => by simp only [addL, List.length_cons]; rw [addL_len L M (by simpa using h)]
theorem ev_smul (c : Rat) : ∀ (L : List Rat) (x : Rat), ev (L.map (c * ·)) x = c * ev L x
  | [], x => by simp only [List.map_nil, ev]; grind
  | a :: L, x => by simp only [List.map_cons, ev]; rw [ev_smul c L x]; grind
def syn (r : Rat) : List Rat → List Rat
  | [] => []
  | _ :: L => addL L ((syn r L).map (r * ·))
theorem syn_len (r : Rat) : ∀ L : List Rat, (syn r L).length = L.length - 1
  | [] => rfl
  | _ :: L => by
    show (addL L _).length = _
    rw [addL_len _ _ (by rw [List.length_map, syn_len r L]; omega), List.length_cons]
    rfl
theorem syn_ev (r x : Rat) : ∀ L : List Rat, ev L x - ev L r = (x - r) * ev (syn r L) x
  | [] => by simp only [ev, syn]; grind
  | a :: L => by
    have h := syn_ev r x L
    show (a + x * ev L x) - (a + r * ev L r) = (x - r) * ev (addL L ((syn r L).map (r * ·))) x
    rw [ev_addL, ev_smul]
    grind
theorem ev_pts : ∀ (k : Nat) (L : List Rat) (pts : List Rat), L.length ≤ k → pts.length = k → pts.Nodup → (∀ x ∈ pts, ev L x = 0) → ∀ x, ev L x = 0
  | 0, L, _, h, _, _, _, x => by
    have : L = [] := List.eq_nil_of_length_eq_zero (by omega)
    rw [this]
    rfl
  | k + 1, L, [], _, h, _, _, _ => by simp at h
  | k + 1, L, r :: pts, hl, hp, hn, hz, x => by
    have hr := hz r List.mem_cons_self
    have hn' := List.nodup_cons.mp hn
    have hs := ev_pts k (syn r L) pts (by rw [syn_len]; omega) (by simpa using hp) hn'.2 (fun y hy => by
      have e := syn_ev r y L
      rw [hz y (List.mem_cons_of_mem _ hy), hr] at e
      have ne : y - r ≠ 0 := fun z => hn'.1 (by
        have : y = r := by grind
        rw [← this]
        exact hy)
      have e2 : (y - r) * ev (syn r L) y = 0 := by grind
      exact (Rat.mul_eq_zero.mp e2).resolve_left ne) x
    have e := syn_ev r x L
    rw [hs, hr] at e
    grind
theorem cast_inj {i j : Nat} (h : (i : Rat) = (j : Rat)) : i = j := by exact_mod_cast h
theorem ev_zero : ∀ L : List Rat, (∀ x, ev L x = 0) → ∀ a ∈ L, a = 0
  | [], _, a, h => by cases h
  | b :: L, hz, a, h => by
    have h0 : b = 0 := by
      have := hz 0
      simp only [ev] at this
      grind
    have hL : ∀ x, ev L x = 0 := ev_pts L.length L ((List.range L.length).map fun i => ((i + 1 : Nat) : Rat)) (Nat.le_refl _) (by simp) (by
      rw [List.Nodup, List.pairwise_map]
      exact List.nodup_range.imp fun {i j} ne e => ne (by have := cast_inj e; omega)) fun x hx => by
        obtain ⟨i, _, rfl⟩ := List.mem_map.mp hx
        have := hz ((i + 1 : Nat) : Rat)
        simp only [ev] at this
        rw [h0] at this
        have e2 : ((i + 1 : Nat) : Rat) * ev L ((i + 1 : Nat) : Rat) = 0 := by grind
        refine (Rat.mul_eq_zero.mp e2).resolve_left fun z => ?_
        have : i + 1 = 0 := cast_inj (by rw [z]; rfl)
        omega
    rcases List.mem_cons.mp h with rfl | h
    · exact h0
    · exact ev_zero L hL a h
theorem ev_snoc (a x : Rat) : ∀ L : List Rat, ev (L ++ [a]) x = ev L x + a * x ^ L.length
  | [] => by simp only [List.nil_append, ev, List.length_nil]; grind
  | b :: L => by simp only [List.cons_append, ev, List.length_cons]; rw [ev_snoc a x L]; grind
/-! many unknowns -/
def mono : List Nat → List Rat → Rat
  | e :: m, x :: r => x ^ e * mono m r
  | _, _ => 1
def evM (L : List (List Nat × Rat)) (r : List Rat) : Rat := (L.map fun t => t.2 * mono t.1 r).sum
def cf (L : List (List Nat × Rat)) (m : List Nat) : Rat := (L.map fun t => if t.1 = m then t.2 else 0).sum
def part (k : Nat) (L : List (List Nat × Rat)) : List (List Nat × Rat) := L.filterMap fun t => match t.1 with
  | e :: m => if e = k then some (m, t.2) else none
  | [] => none
theorem part_cons (k e : Nat) (m : List Nat) (c : Rat) (L : List (List Nat × Rat)) : part k ((e :: m, c) :: L) = if e = k then (m, c) :: part k L else part k L := by
  unfold part
  by_cases h : e = k
  · rw [if_pos h, List.filterMap_cons_some (b := (m, c)) (by simp [h])]
  · rw [if_neg h, List.filterMap_cons_none (by simp [h])]
theorem cf_part (k : Nat) (m : List Nat) : ∀ L : List (List Nat × Rat), (∀ t ∈ L, t.1 ≠ []) → cf L (k :: m) = cf (part k L) m
  | [], _ => rfl
  | ([], c) :: L, h => absurd rfl (h _ List.mem_cons_self)
  | (e :: m', c) :: L, h => by
    have ih := cf_part k m L fun t ht => h t (List.mem_cons_of_mem _ ht)
    rw [part_cons]
    unfold cf at ih ⊢
    rw [List.map_cons, List.sum_cons, ih]
    by_cases he : e = k
    · subst he
      rw [if_pos rfl, List.map_cons, List.sum_cons]
      congr 1
      by_cases hm : m' = m
      · rw [if_pos (by rw [hm]), if_pos hm]
      · rw [if_neg (fun z => hm (by injection z)), if_neg hm]
    · rw [if_neg he]
      rw [if_neg (fun z => he (by injection z))]
      grind
theorem ev_range_add (f g : Nat → Rat) (x : Rat) : ∀ n, ev ((List.range n).map fun k => f k + g k) x = ev ((List.range n).map f) x + ev ((List.range n).map g) x
  | 0 => by simp only [List.range_zero, List.map_nil, ev]; grind
  | n + 1 => by
    rw [List.range_succ, List.map_append, List.map_append, List.map_append]
    simp only [List.map_cons, List.map_nil]
    rw [ev_snoc, ev_snoc, ev_snoc, ev_range_add f g x n]
    simp only [List.length_map, List.length_range]
    grind
theorem ev_range_one (e : Nat) (c x : Rat) : ∀ n, ev ((List.range n).map fun k => if e = k then c else 0) x = if e < n then c * x ^ e else 0
  | 0 => by simp [ev]
  | n + 1 => by
    rw [List.range_succ, List.map_append]
    simp only [List.map_cons, List.map_nil]
    rw [ev_snoc, ev_range_one e c x n]
    simp only [List.length_map, List.length_range]
    by_cases h : e < n
    · rw [if_pos h, if_neg (show ¬ e = n by omega), if_pos (show e < n + 1 by omega)]
      grind
    · by_cases h2 : e = n
      · subst h2
        rw [if_neg h, if_pos rfl, if_pos (show e < e + 1 by omega)]
        grind
      · rw [if_neg h, if_neg h2, if_neg (show ¬ e < n + 1 by omega)]
        grind
theorem evM_cons (x : Rat) (r : List Rat) (top : Nat) : ∀ L : List (List Nat × Rat), (∀ t ∈ L, t.1 ≠ [] ∧ ∀ e ∈ t.1, e ≤ top) → evM L (x :: r) = ev ((List.range (top + 1)).map fun k => evM (part k L) r) x
  | [], _ => by
    show (0 : Rat) = _
    have : ∀ n, ev ((List.range n).map fun _ => (0 : Rat)) x = 0 := fun n => by
      induction n with
      | zero => rfl
      | succ n ih =>
        rw [List.range_succ, List.map_append]
        simp only [List.map_cons, List.map_nil]
        rw [ev_snoc, ih]
        grind
    exact (this (top + 1)).symm
  | ([], c) :: L, h => absurd rfl (h _ List.mem_cons_self).1
  | (e :: m, c) :: L, h => by
    have ih := evM_cons x r top L fun t ht => h t (List.mem_cons_of_mem _ ht)
    have he : e ≤ top := (h _ List.mem_cons_self).2 e List.mem_cons_self
    have e1 : (fun k => evM (part k ((e :: m, c) :: L)) r) = fun k => (if e = k then c * mono m r else 0) + evM (part k L) r := by
      funext k
      rw [part_cons]
      by_cases hk : e = k
      · rw [if_pos hk, if_pos hk]
        unfold evM
        rw [List.map_cons, List.sum_cons]
      · rw [if_neg hk, if_neg hk]
        grind
    rw [e1, ev_range_add, ev_range_one, if_pos (by omega), ← ih]
    show ((((e :: m, c) :: L).map fun t => t.2 * mono t.1 (x :: r)).sum) = _
    rw [List.map_cons, List.sum_cons]
    show c * (x ^ e * mono m r) + evM L (x :: r) = _
    grind
theorem grid : ∀ (n top : Nat) (L : List (List Nat × Rat)), (∀ t ∈ L, t.1.length = n ∧ ∀ e ∈ t.1, e ≤ top) → (∀ r : List Nat, r.length = n → (∀ x ∈ r, x ≤ top) → evM L (r.map fun i : Nat => (i : Rat)) = 0) → ∀ m, cf L m = 0
  | 0, top, L, h, hz, m => by
    have h0 := hz [] rfl (fun x hx => by cases hx)
    have hl : ∀ t ∈ L, t.1 = [] := fun t ht => List.eq_nil_of_length_eq_zero (h t ht).1
    by_cases hm : m = []
    · subst hm
      unfold evM at h0
      unfold cf
      rw [← h0]
      congr 1
      refine List.map_congr_left fun t ht => ?_
      rw [if_pos (hl t ht), hl t ht]
      simp only [mono]
      grind
    · unfold cf
      have : (L.map fun t => if t.1 = m then t.2 else 0) = L.map fun _ => (0 : Rat) := List.map_congr_left fun t ht => if_neg fun z => hm (by rw [← z]; exact hl t ht)
      rw [this]
      clear this h h0 hz hl
      induction L with
      | nil => rfl
      | cons t L ih => rw [List.map_cons, List.sum_cons, ih]; grind
  | n + 1, top, L, h, hz, m => by
    have ne : ∀ t ∈ L, t.1 ≠ [] := fun t ht z => by have := (h t ht).1; rw [z] at this; cases this
    have hp : ∀ k, ∀ t ∈ part k L, t.1.length = n ∧ ∀ e ∈ t.1, e ≤ top := fun k t ht => by
      obtain ⟨u, hu, e⟩ := List.mem_filterMap.mp ht
      obtain ⟨l, q⟩ := h u hu
      obtain ⟨um, uc⟩ := u
      cases um with
      | nil => simp at e
      | cons e0 m0 =>
        simp only at e
        split at e
        · cases e
          exact ⟨by simpa using l, fun x hx => q x (List.mem_cons_of_mem _ hx)⟩
        · cases e
    have key : ∀ k, k ≤ top → ∀ m', cf (part k L) m' = 0 := fun k hk => grid n top (part k L) (hp k) fun r hr hx => by
      have e0 : ∀ x, ev ((List.range (top + 1)).map fun k => evM (part k L) (r.map fun i : Nat => (i : Rat))) x = 0 :=
        ev_pts (top + 1) _ ((List.range (top + 1)).map fun i : Nat => (i : Rat)) (by simp) (by simp) (by
          rw [List.Nodup, List.pairwise_map]
          exact List.nodup_range.imp fun {i j} ne e => ne (cast_inj e)) fun x hx' => by
            obtain ⟨i, hi, rfl⟩ := List.mem_map.mp hx'
            have hi := List.mem_range.mp hi
            rw [← evM_cons _ _ top L fun t ht => ⟨ne t ht, (h t ht).2⟩]
            have := hz (i :: r) (by rw [List.length_cons, hr]) (fun y hy => by
              rcases List.mem_cons.mp hy with rfl | hy
              · omega
              · exact hx y hy)
            rw [List.map_cons] at this
            exact this
      exact ev_zero _ e0 _ (List.mem_map.mpr ⟨k, List.mem_range.mpr (by omega), rfl⟩)
    cases m with
    | nil =>
      unfold cf
      have : (L.map fun t => if t.1 = ([] : List Nat) then t.2 else 0) = L.map fun _ => (0 : Rat) := List.map_congr_left fun t ht => if_neg (ne t ht)
      rw [this]
      clear this h hz ne hp key
      induction L with
      | nil => rfl
      | cons t L ih => rw [List.map_cons, List.sum_cons, ih]; grind
    | cons k m' =>
      rw [cf_part k m' L ne]
      by_cases hk : k ≤ top
      · exact key k hk m'
      · have : part k L = [] := by
          unfold part
          rw [List.filterMap_eq_nil_iff]
          intro t ht
          obtain ⟨tm, tc⟩ := t
          cases tm with
          | nil => rfl
          | cons e0 m0 =>
            have := (h _ ht).2 e0 List.mem_cons_self
            show (if e0 = k then some (m0, tc) else none) = none
            rw [if_neg (by omega)]
        rw [this]
        rfl
end QG

set_option Elab.async false
set_option linter.all false
set_option maxRecDepth 100000
set_option maxHeartbeats 4000000
/-! ### rules: sum of a tuple; the order of keys (a whole number, a tuple of whole numbers); sorting by them -/
namespace QR
open PySem PySem.Spec PyProof.Rows L2 KX KP
section
variable {X : Cx}
def rSumT (K : PySem.W.Frag) : List V → Hp → VK → Prop := fun vs H Q => ∃ (a : Addr) (ns : List Int), vs = [V.ref a] ∧ SqT K H a (ns.map V.int) ∧ Q (.int ns.sum) H
theorem sumT_raw {prog : Program} {w : World} {A : Around} {E : Value → Shared → Prop} {s : Shared} {l : Addr} {its : List Value} {ns : List Int} {Q : Value → Shared → Prop} (hh : A.handled = none) (hl : s.heap.IsTuple l its.toArray) (hi : IntsAre its ns)
    (h : ∀ h' tk t', (∀ b o, s.heap.get? b = some o → h'.get? b = some o) → Q (.int ns.sum t') { s with heap := h', toks := tk }) : wpAny (model prog w) A (call (.builtin "sum") [.ref l]) Q E s := by
  obtain ⟨xs, e⟩ := hi.allInts.items
  have hn : numsOf (intItems xs).toList = ns := by rw [← e]; exact hi.numsOf
  rw [nums_intItems] at hn
  rw [e] at hl
  refine PySem.W.ktm_sumG hh hl fun h' tk t' hk => ?_
  have := h h' tk t' hk
  rw [preSum_eq, List.take_of_length_le (by simp), hn]
  exact this
theorem cr_sumT (hc : X.calm = true) : CallR X (.builtin "sum") (rSumT X.K) := by
  intro pins s σ H vs us Q I r h
  obtain ⟨a, ns, rfl, hs, q⟩ := h
  obtain ⟨its, rv, hl, _⟩ := I.tuple hs
  rw [Vals.ref1 r]
  exact sumT_raw (I.ok.hd hc) hl rv.ints fun h' tk t' hk => ⟨.int _, H, I.kept hk, ⟨_, rfl⟩, q⟩
/-- ns > ms, as Python says of tuples -/
def gtL : List Int → List Int → Bool
  | [], _ => false
  | _ :: _, [] => true
  | x :: xs, y :: ys => if x = y then gtL xs ys else decide (y < x)
theorem lexAt_gtL : ∀ (pre pre' ns ms : List Int), pre.length = pre'.length →
    Ob.lexAt (fun j => decide ((pre ++ ns).getD j 0 = (pre' ++ ms).getD j 0)) (fun j => decide ((pre' ++ ms).getD j 0 < (pre ++ ns).getD j 0)) (decide (ns.length > ms.length)) pre.length (min ns.length ms.length) = gtL ns ms
  | pre, pre', [], ms, h => by
    rw [show min ([] : List Int).length ms.length = 0 from Nat.zero_min _, Ob.lexAt_zero]
    rfl
  | pre, pre', n :: ns, [], h => by
    rw [show min (n :: ns).length ([] : List Int).length = 0 from Nat.min_zero _, Ob.lexAt_zero]
    exact decide_eq_true (by show 0 < ns.length + 1; omega)
  | pre, pre', n :: ns, m :: ms, h => by
    rw [show min (n :: ns).length (m :: ms).length = min ns.length ms.length + 1 by simp only [List.length_cons]; omega, Ob.lexAt_succ]
    have g1 : (pre ++ n :: ns).getD pre.length 0 = n := by simp
    have g2 : (pre' ++ m :: ms).getD pre.length 0 = m := by rw [h]; simp
    rw [g1, g2]
    have ih := lexAt_gtL (pre ++ [n]) (pre' ++ [m]) ns ms (by simp [h])
    rw [List.append_assoc, List.append_assoc, List.length_append] at ih
    unfold gtL
    by_cases c : n = m
    · rw [if_pos (decide_eq_true c), if_pos c]
      rw [← ih]
      have e : decide ((n :: ns).length > (m :: ms).length) = decide (ns.length > ms.length) := by
        rw [Bool.eq_iff_iff, decide_eq_true_iff, decide_eq_true_iff]
        simp only [List.length_cons]
        omega
      rw [e]
      rfl
    · rw [if_neg (by simpa using c), if_neg c]
/-- (a, ns) > (b, ms) -/
def gtK (a : Int) (ns : List Int) (b : Int) (ms : List Int) : Bool := if a = b then gtL ns ms else decide (b < a)
/-- a key at v: a whole number and a tuple of whole numbers -/
def KeyT (K : PySem.W.Frag) (H : Hp) (v : V) (a : Int) (ns : List Int) : Prop := ∃ p q, v = .ref p ∧ SqT K H p [.int a, .ref q] ∧ SqT K H q (ns.map V.int)
def rGtK (K : PySem.W.Frag) : R2 := fun x y H Q => ∃ a ns b ms, KeyT K H x a ns ∧ KeyT K H y b ms ∧ Q (.bl (gtK a ns b ms)) H
theorem gt_tups {A : Around} {s : Shared} {l b : Addr} {its its2 : List Value} {ns ms : List Int} (h1 : s.heap.IsTuple l its.toArray) (h2 : s.heap.IsTuple b its2.toArray) (i1 : IntsAre its ns) (i2 : IntsAre its2 ms) (hu : A.units < cLine) :
    Ob.RcOp .Gt A s (.ref l) (.ref b) (gtL ns ms) := by
  have e1 : its.toArray.size = ns.length := by rw [List.size_toArray]; exact i1.length
  have e2 : its2.toArray.size = ms.length := by rw [List.size_toArray]; exact i2.length
  have at1 : ∀ j (h1 : j < its.toArray.size), ∃ t, its.toArray[j] = .int (ns.getD j 0) t := fun j h1 => PyProof.Rows.IntsAre.int_at i1 _ _ (by simp at h1; simp [h1])
  have at2 : ∀ j (h1 : j < its2.toArray.size), ∃ t, its2.toArray[j] = .int (ms.getD j 0) t := fun j h1 => PyProof.Rows.IntsAre.int_at i2 _ _ (by simp at h1; simp [h1])
  have R := Ob.RcOp.tuples_gt (A := A) (s := s) (e := fun j => decide (ns.getD j 0 = ms.getD j 0)) (r := fun j => decide (ms.getD j 0 < ns.getD j 0)) h1 h2 hu (fun j h1 h2 => by
    obtain ⟨t, et⟩ := at1 j h1
    obtain ⟨t', et'⟩ := at2 j h2
    rw [et, et']
    have z : (ns.getD j 0 == ms.getD j 0) = decide (ns.getD j 0 = ms.getD j 0) := by
      by_cases q : ns.getD j 0 = ms.getD j 0
      · rw [decide_eq_true q]; exact beq_iff_eq.mpr q
      · rw [decide_eq_false q]; exact beq_eq_false_iff_ne.mpr q
    rw [← z]
    exact SeqAt.EqAt.int_int _ _ _ _) (fun j h1 h2 _ => by
    obtain ⟨t, et⟩ := at1 j h1
    obtain ⟨t', et'⟩ := at2 j h2
    rw [et, et']
    exact Ob.RcOp.gt_int _ _ _ _)
  rw [e1, e2] at R
  have L := lexAt_gtL [] [] ns ms rfl
  rw [List.nil_append, List.nil_append] at L
  rw [← L]
  exact R
theorem eqv_ints : ∀ ns ms : List Int, PyData.eqvAll (ns.map PyData.int) (ms.map PyData.int) = decide (ns = ms)
  | [], [] => by simp [PyData.eqvAll]
  | [], _ :: _ => by simp [PyData.eqvAll]
  | _ :: _, [] => by simp [PyData.eqvAll]
  | n :: ns, m :: ms => by
    have ih := eqv_ints ns ms
    rw [List.map_cons, List.map_cons, PyData.eqvAll, ih]
    rw [Bool.eq_iff_iff, Bool.and_eq_true, decide_eq_true_iff, decide_eq_true_iff]
    simp [PyData.eqv]
theorem eqv_tup (ns ms : List Int) : PyData.eqv (.tuple (ns.map PyData.int)) (.tuple (ms.map PyData.int)) = decide (ns = ms) := by
  rw [PyData.eqv, eqv_ints]
theorem alike_ints : ∀ ns ms : List Int, PySem.W.alikeAll (ns.map PyData.int) (ms.map PyData.int) = true
  | [], _ => by simp [PySem.W.alikeAll]
  | _ :: _, [] => by simp [PySem.W.alikeAll]
  | n :: ns, m :: ms => by
    rw [List.map_cons, List.map_cons, PySem.W.alikeAll, alike_ints ns ms]
    simp [PySem.W.alike]
theorem alike_tup (ns ms : List Int) : PySem.W.alike (.tuple (ns.map PyData.int)) (.tuple (ms.map PyData.int)) = true := by
  rw [PySem.W.alike, alike_ints]
theorem depth_ints : ∀ ns : List Int, PyData.depthAll (ns.map PyData.int) = 0 ∨ PyData.depthAll (ns.map PyData.int) ≤ 1
  | [] => .inl (by simp [PyData.depthAll])
  | n :: ns => by
    rcases depth_ints ns with h | h
    · right; rw [List.map_cons, PyData.depthAll, h]; simp [PyData.depth]
    · right; rw [List.map_cons, PyData.depthAll]; simp [PyData.depth]; exact h
theorem depth_tup (ns : List Int) : (PyData.tuple (ns.map PyData.int)).depth ≤ 2 := by
  rw [PyData.depth]
  rcases depth_ints ns with h | h <;> omega
theorem dp_ints {K : PySem.W.Frag} {H : Hp} : ∀ ns : List Int, DpAll K H (ns.map V.int) (ns.map PyData.int)
  | [] => .nil
  | n :: ns => .cons (.int n) (dp_ints ns)
theorem op_gtK (hu : X.A.units + 64 < cLine) : OpR X (compareOp .Gt) (rGtK X.K) := by
  intro pins s σ H x y v u Q I rx ry h
  obtain ⟨a, ns, b, ms, ⟨p, q, rfl, sp, sq⟩, ⟨p', q', rfl, sp', sq'⟩, k⟩ := h
  cases rx
  cases ry
  obtain ⟨its, r1, p1, _⟩ := I.tuple sp
  obtain ⟨its', r1', p1', _⟩ := I.tuple sp'
  obtain ⟨js, r2, p2, _⟩ := I.tuple sq
  obtain ⟨js', r2', p2', _⟩ := I.tuple sq'
  obtain ⟨t, c, e, rfl⟩ : ∃ (t : Tok) (c : Value) (e : c = .ref q), its = [.int a t, c] := by
    cases r1 with
    | cons h1 h2 => cases h2 with
      | cons h3 h4 =>
        cases h4
        obtain ⟨t, rfl⟩ := h1
        exact ⟨t, _, h3, rfl⟩
  subst e
  obtain ⟨t', c', e', rfl⟩ : ∃ (t : Tok) (c : Value) (e : c = .ref q'), its' = [.int b t, c] := by
    cases r1' with
    | cons h1 h2 => cases h2 with
      | cons h3 h4 =>
        cases h4
        obtain ⟨t, rfl⟩ := h1
        exact ⟨t, _, h3, rfl⟩
  subst e'
  have i2 : IntsAre js ns := Vals.ints r2
  have i2' : IntsAre js' ms := Vals.ints r2'
  obtain ⟨as, rd⟩ := Dp.reads I _ _ (.ref q) (.tup sq (dp_ints ns)) rfl
  obtain ⟨as', rd'⟩ := Dp.reads I _ _ (.ref q') (.tup sq' (dp_ints ms)) rfl
  have z : (a == b) = decide (a = b) := by
    by_cases q : a = b
    · rw [decide_eq_true q]; exact beq_iff_eq.mpr q
    · rw [decide_eq_false q]; exact beq_eq_false_iff_ne.mpr q
  have hu1 : X.A.in1.units ≤ X.A.units + 4 := by show X.A.units + 1 ≤ _; omega
  have R := Ob.RcOp.tuples_gt (A := X.A) (s := s) (e := fun j => if j = 0 then decide (a = b) else decide (ns = ms)) (r := fun j => if j = 0 then decide (b < a) else gtL ns ms) p1 p1' (by omega) (fun j h1 h2 => by
    match j, h1, h2 with
    | 0, _, _ =>
      show SeqAt.EqAt X.A.in1 s (.int a t) (.int b t') (decide (a = b))
      rw [← z]
      exact SeqAt.EqAt.int_int _ _ _ _
    | 1, _, _ =>
      show SeqAt.EqAt X.A.in1 s (.ref q) (.ref q') (decide (ns = ms))
      rw [← eqv_tup]
      exact PySem.W.eqAt_alike _ _ _ _ _ _ _ _ rd rd' (alike_tup ns ms) (by have := depth_tup ns; omega)
    | j + 2, h1, _ => exact absurd h1 (by simp)) (fun j h1 h2 _ => by
    match j, h1, h2 with
    | 0, _, _ => exact Ob.RcOp.gt_int _ _ _ _
    | 1, _, _ => exact gt_tups p2 p2' i2 i2' (by omega)
    | j + 2, h1, _ => exact absurd h1 (by simp))
  have L : Ob.lexAt (fun j => if j = 0 then decide (a = b) else decide (ns = ms)) (fun j => if j = 0 then decide (b < a) else gtL ns ms) (decide ((2 : Nat) > 2)) 0 2 = gtK a ns b ms := by
    rw [Ob.lexAt_succ, Ob.lexAt_succ, Ob.lexAt_zero]
    unfold gtK
    simp only [if_true, Nat.zero_add, Nat.one_ne_zero, if_false]
    by_cases c : a = b
    · rw [if_pos (decide_eq_true c), if_pos c]
      by_cases d : ns = ms
      · subst d
        rw [if_pos (decide_eq_true rfl)]
        have : ∀ l : List Int, gtL l l = false := fun l => by
          induction l with
          | nil => rfl
          | cons x l ih => unfold gtL; rw [if_pos rfl]; exact ih
        rw [this]
        rfl
      · rw [if_neg (by simpa using d)]
    · rw [if_neg (by simpa using c), if_neg c]
  have R' : Ob.RcOp .Gt X.A s (.ref p) (.ref p') (gtK a ns b ms) := by
    rw [← L]
    exact R
  have z : wpAny (model X.prog X.w) X.A (compareOp .Gt (.ref p) (.ref p')) (EP X pins σ Q) X.xe s := R' X.prog X.w X.xe (EP X pins σ Q) ⟨.bl _, H, I, rfl, k⟩
  exact z
/-- a name, the state as it was -/
theorem name_same {pins : List (Addr × Obj)} {s : Shared} {σ : L2.St} {H : Hp} {E : Value → Shared → Prop} {Q : Value → Shared → Prop} {i : Nat} {x : Str} {v : V} {pos : Pos} (I : Inv X pins σ H s) (hN : X.N[i]? = some x) (e : σ[i]? = some (some v)) (hv : Vis X.env.scope x)
    (h : ∀ u, RelV v u → Q u s) (hd : (x == ("__debug__" : Str)) = false := by decide) (hcd : (x == ("__classdict__" : Str)) = false := by decide) : wpAny (model X.prog X.w) X.A (eval (.Name x pos) X.env) Q E s := by
  obtain ⟨m, hn, hl⟩ := I.loc
  obtain ⟨u, r, l⟩ := hl i x v hN e hv
  rcases l with ⟨hk, hm⟩ | ⟨hk, c, hc, hcell⟩
  · exact wpAny_Name (wpAny_loadName_local I.ok.kind hk hn hm (h u r)) hd
  · rcases hk with hk | hk
    · exact wpAny_Name (wpAny_loadName_cell I.ok.kind hk hc hcell (h u r)) hd
    · exact wpAny_Name (wpAny_loadName_free I.ok.kind hk hc hcell (h u r) hcd) hd
end
end QR

set_option Elab.async false
set_option linter.all false
set_option maxRecDepth 100000
set_option maxHeartbeats 4000000
/-! ### the key by which terms are sorted; sorted(.., key=_standing, reverse=True) -/
namespace QR
open PySem PySem.Spec PyProof.Rows L2 KX KP
abbrev sStanding : Stmt := top 24
theorem scStd : FnScope ["powers"] ["powers"] (defScope sStanding) := ⟨rfl, rfl, rfl, by decide +kernel, rfl, by decide +kernel, by decide +kernel⟩
def keyD (ns : List Int) : PyData := .tuple [.int ns.sum, .tuple (ns.map PyData.int)]
theorem reads_ints {h : Heap} : ∀ {its : List Value} {ns : List Int}, IntsAre its ns → ReadsAll h its (ns.map PyData.int) []
  | _, _, .nil => .nil
  | _, _, .cons n t r => ReadsAll.cons (as := []) (bs := []) (.int n t) (reads_ints r)
section
variable {P : Program} {w : World} {K : PySem.W.Frag} {mg : Str → Option Value} {base : Heap}
theorem standing_key {f : Addr} {fd : FuncData} {A : Around} {outer : List Env} {s : Shared} {H : Hp} {b : Addr} {ns : List Int} (F : Fun K "_standing" "_standing" sStanding f fd) (bd : Binds K fd ["powers"] []) (mS : mg "sum" = none) (hr : Room 1 A) (e0 : Env0 P w K mg base A outer s H)
    {its : List Value} (hb : s.heap.IsTuple b its.toArray) (hi : IntsAre its ns) : wpAny (model P w) A (call (.ref f) [.ref b]) (PySem.W.KeyPure (keyD ns) s) (fun _ _ => False) s := by
  obtain ⟨oc, od, kV, doc, pm, an, cdv, ct, osl, rfl, lk, hcd⟩ := F.ex
  have KX : K.In s.heap := e0.mod.kin.keeps fun b o e => (e0.bs b o e).1
  have lim : s.heap.NoLimit := e0.mod.nolimit.keeps fun b o e => (e0.bs b o e).1
  have bt := bd s [.ref b] KX rfl
  refine wpAny_call (codeAny_call_function hr.depth (KX _ _ lk) rfl scStd.co scStd.gen rfl (PySem.W.codeRec_of KX hcd) (bt _ _ _ _ ?_))
  refine wpAny_newFunctionEnv_cells scStd.kind (fun ⟨n, v⟩ hy => ?_) fun env he s1 x => ?_
  · rcases scStd.par n (List.of_mem_zip hy).1 with q | q
    · exact .inl q
    · exact .inr ⟨q, PySem.W.cellsFrom_some _ _ _ (.inl q)⟩
  subst he
  refine ⟨lim.keeps x.toInCall.keep, codeAny_func ?_⟩
  have I : Inv (cxOf CX0 P w K mg base ["powers"] "_standing" (defScope sStanding) f cdv A outer s H E0) [] (start ["powers"] [.ref b]) H s1 := inv_start scStd hr.hd e0 rfl (.cons rfl .nil) x
  obtain ⟨h1, tk1, rfl⟩ := x.toInCall.same
  have k1 := x.toInCall.keep
  let X := cxOf CX0 P w K mg base ["powers"] "_standing" (defScope sStanding) f cdv A outer s H E0
  change wpAny (model X.prog X.w) X.A (execs (defBody sStanding) X.env) _ _ _
  refine wpAny_execs_cons (wpAny_Return_some (wpAny_Tuple_spliced (Calls.spliced_cons (wpAny_Call_Name_kw (ld_blt (X := X) (u := Value.builtin "sum") I (by rfl) mS (by decide +kernel) (PySem.callWith_builtin1 ?_))))))
  refine name_same (X := X) I (i := 0) rfl rfl (Or.inl rfl) fun u ru => ?_
  obtain rfl : u = Value.ref b := ru
  have hb1 : h1.IsTuple b its.toArray := by
    obtain ⟨o, e, r⟩ := hb
    exact ⟨o, k1 _ _ e, r⟩
  refine sumT_raw (I.ok.hd rfl) hb1 hi fun h2 tk2 t2 k2 => ?_
  refine Calls.spliced_cons (name_same (X := X) (I.kept (t' := tk2) k2) (i := 0) rfl rfl (Or.inl rfl) fun u ru => ?_)
  obtain rfl : u = Value.ref b := ru
  refine Calls.spliced_nil ⟨by show 2 ≤ sizeLine; decide, ?_⟩
  refine ⟨_, _, rfl, fun c o e => Heap.get?_push_of_some _ (k2 _ _ (k1 _ _ e)), ?_⟩
  have k3 : ∀ c o, h1.get? c = some o → (h2.push { cls := .type "tuple", data := .seq ([Value.int ns.sum t2, .ref b] : List Value).toArray }).get? c = some o := fun c o e => Heap.get?_push_of_some _ (k2 _ _ e)
  obtain ⟨ob, eo, hc, n, hd⟩ := hb1
  exact Reads.tuple (as := [] ++ ([] ++ [])) (Heap.get?_push_size _ rfl) rfl rfl (.cons (.int _ _) (.cons (.tuple (k3 _ _ eo) hc hd (reads_ints hi)) .nil))
end
/-- the order of monomials: by degree, then from the left -/
def gtM (ns ms : List Int) : Bool := gtK ns.sum ns ms.sum ms
theorem lexLt_nil0 : PyProof.Rows.lexLt itemOrd (PySem.W.keyToksAll []) (PySem.W.keyToksAll []) = false := by simp only [PySem.W.keyToksAll]; decide +kernel
theorem lexLt_ints : ∀ ns ms : List Int, PyProof.Rows.lexLt itemOrd (PySem.W.keyToksAll (ns.map PyData.int)) (PySem.W.keyToksAll (ms.map PyData.int)) = gtL ms ns
  | [], [] => lexLt_nil0
  | [], m :: ms => by
    rw [List.map_nil, List.map_cons, PySem.W.toks_all_cons, show PySem.W.keyToksAll [] = [.inl 0] by rw [PySem.W.keyToksAll], PySem.W.lex_atom (by decide)]
    show _ = true
    decide +kernel
  | n :: ns, [] => by
    rw [List.map_nil, List.map_cons, PySem.W.toks_all_cons, show PySem.W.keyToksAll [] = [.inl 0] by rw [PySem.W.keyToksAll], PySem.W.lex_atom (by decide)]
    show _ = false
    decide +kernel
  | n :: ns, m :: ms => by
    rw [List.map_cons, List.map_cons, PySem.W.dataLt_cons (by simp [PySem.W.alike]), lexLt_ints ns ms, PySem.W.dataLt_int]
    rw [show gtL (m :: ms) (n :: ns) = if m = n then gtL ms ns else decide (n < m) from rfl]
    by_cases c : m = n
    · subst c
      rw [if_pos (by simp [PyData.eqv]), if_pos rfl]
    · rw [if_neg (by simp [PyData.eqv]; omega), if_neg c]
theorem lt_key (ns ms : List Int) : PySem.W.dataLt (keyD ns) (keyD ms) = gtM ms ns := by
  unfold keyD
  rw [PySem.W.dataLt_tuple, PySem.W.dataLt_cons (by simp [PySem.W.alike]), PySem.W.dataLt_cons (alike_tup ns ms), lexLt_nil0, PySem.W.dataLt_int, PySem.W.dataLt_tuple, lexLt_ints, eqv_tup]
  have gs : ∀ l : List Int, gtL l l = false := fun l => by
    induction l with
    | nil => rfl
    | cons x l ih => unfold gtL; rw [if_pos rfl]; exact ih
  unfold gtM gtK
  by_cases c : ms.sum = ns.sum
  · rw [if_pos (by simp [PyData.eqv]; omega), if_pos c]
    by_cases d : ns = ms
    · subst d
      rw [if_pos (by simp), gs]
    · rw [if_neg (by simpa using d)]
  · rw [if_neg (by simp [PyData.eqv]; omega), if_neg c]
theorem alike_key (ns ms : List Int) : PySem.W.alike (keyD ns) (keyD ms) = true := by
  unfold keyD
  rw [PySem.W.alike, PySem.W.alikeAll, PySem.W.alikeAll, alike_tup]
  simp [PySem.W.alike, PySem.W.alikeAll]
theorem depth_key (ns : List Int) : (keyD ns).depth ≤ 4 := by
  unfold keyD
  rcases depth_ints ns with h | h <;> simp [PyData.depth, PyData.depthAll] at h ⊢ <;> omega
def rSortKR (K : PySem.W.Frag) (f : Addr) : List V → List V → Hp → VK → Prop := fun vs zs H Q => ∃ (a : Addr) (ms : List (Addr × List Int)), vs = [.ref a] ∧ zs = [.ref f, .bl true] ∧ SqL K H a (ms.map fun p => V.ref p.1) ∧ (∀ p ∈ ms, SqT K H p.1 (p.2.map V.int)) ∧ ms.length ≤ 100000 ∧
  ∀ (ys : List (Addr × List Int)) (p : Addr), ys.Perm ms → ys.Pairwise (fun x y => gtM y.2 x.2 = false) → H p = none → Q (.ref p) (upd H p (.lst (ys.map fun p => V.ref p.1)))
theorem each_refs {R : Value → Addr × List Int → Prop} : ∀ (ms : List (Addr × List Int)), (∀ p ∈ ms, R (.ref p.1) p) → PySem.W.EachIs R (ms.map fun p => Value.ref p.1) ms
  | [], _ => .nil
  | p :: ms, h => .cons (h p List.mem_cons_self) (each_refs ms fun q hq => h q (List.mem_cons_of_mem _ hq))
theorem refs_of {ms : List (Addr × List Int)} : ∀ {out : List Value}, PySem.W.EachIs (fun v (p : Addr × List Int) => v = .ref p.1) out ms → out = ms.map fun p => Value.ref p.1
  | _, .nil => rfl
  | _, .cons h r => by rw [h, refs_of r]; rfl
theorem vals_refs : ∀ ms : List (Addr × List Int), Vals (ms.map fun p => V.ref p.1) (ms.map fun p => Value.ref p.1)
  | [] => .nil
  | p :: ms => .cons rfl (vals_refs ms)
theorem refs_vals : ∀ {ms : List (Addr × List Int)} {us : List Value}, Vals (ms.map fun p => V.ref p.1) us → us = ms.map fun p => Value.ref p.1
  | [], _, .nil => rfl
  | p :: ms, _, .cons r t => by
    rw [refs_vals t]
    obtain rfl := r
    rfl
theorem Room.in1 {k : Nat} {A : Around} (r : Room (k + 1) A) : Room k A.in1 := ⟨r.hd, by have := r.dp; show A.depth + 3 * k + 5 < _; omega, by have := r.un; show A.units + 1 + 16 * k + 200 < _; omega⟩
theorem cr_sortKR {X : Cx} {f : Addr} {fd : FuncData} (F : Fun X.K "_standing" "_standing" sStanding f fd) (bd : Binds X.K fd ["powers"] []) (mS : X.mg "sum" = none) (hr : Room 3 X.A) : CallRK X (.builtin "sorted") [Str.ofString "key", Str.ofString "reverse"] (rSortKR X.K f) := by
  intro pins s σ H vs zs us ws Q I r rz h
  obtain ⟨a, ms, rfl, rfl, hs, hm, hl, q⟩ := h
  obtain rfl := Vals.ref1 r
  obtain ⟨w1, w2, rfl, e1, e2⟩ := vals2 rz
  obtain rfl : w1 = Value.ref f := e1
  obtain rfl : w2 = Value.bool true := e2
  obtain ⟨its, rv, hL, hz⟩ := I.list hs
  obtain rfl := refs_vals rv
  have e0 := I.env0
  refine PySem.W.sorted_key_data (β := Addr × List Int) (R := fun v p => v = .ref p.1) (bs := ms) (b := true) (f := .ref f) (fun p => keyD p.2) hL.isList (each_refs ms fun _ _ => rfl) (fun d hd d' hd' => ?_) (.inl fun d hd => ?_) (Nat.le_trans hl (by decide)) (fun x hx => ?_) (PyProof.Rows.ksk_s2 _ _ _) (fun _ => PyProof.Rows.ksk_l2 _ _ _) (fun x => PyProof.Rows.ksk_t2 _ _ _) ?_ ?_
  · obtain ⟨p, _, rfl⟩ := List.mem_map.mp hd
    obtain ⟨p', _, rfl⟩ := List.mem_map.mp hd'
    exact alike_key _ _
  · obtain ⟨p, _, rfl⟩ := List.mem_map.mp hd
    exact ⟨_, _, rfl⟩
  · have := depth_key x.2
    have := hr.un
    omega
  · rintro v p rfl hp h tk hk
    obtain ⟨js, r2, p2, _⟩ := I.tuple (hm p hp)
    have i2 : IntsAre js p.2 := Vals.ints r2
    refine standing_key F bd mS (Room.in1 (Room.in1 hr)) (I.kept (t' := tk) hk).env0.in1.in1 ?_ i2
    obtain ⟨o, e, z⟩ := p2
    exact ⟨o, hk _ _ e, z⟩
  · intro out c h' tk hk hn ho hlen he
    have eo := refs_of he
    subst eo
    have hl2 : ((ms.mergeSort (PySem.W.dataLe true fun p => keyD p.2)).map fun p => V.ref p.1).length ≤ sizeLine := by
      rw [List.length_map, List.length_mergeSort]
      exact Nat.le_trans hl (by decide)
    refine ⟨.ref (s.heap.objs.size + 1), upd H (s.heap.objs.size + 1) (.lst ((ms.mergeSort (PySem.W.dataLe true fun p => keyD p.2)).map fun p => V.ref p.1)), I.laid (t' := tk) (fun b o e => hk b o e) (Nat.le_succ _) ⟨hl2, _, c, vals_refs _, ho⟩, rfl, q _ _ (List.mergeSort_perm _ _) ?_ (I.hok.fresh (Nat.le_succ _))⟩
    have hp : (ms.mergeSort (PySem.W.dataLe true fun p : Addr × List Int => keyD p.2)).Pairwise (fun x y => PySem.W.dataLe true (fun p : Addr × List Int => keyD p.2) x y = true) := PySem.W.sort_pairwise (PySem.W.sortLe_total _ _ _) ms
    refine hp.imp fun {x y} z => ?_
    rw [PySem.W.dataLe_eq] at z
    have z' : (!PySem.W.dataLt (keyD x.2) (keyD y.2)) = true := z
    rw [lt_key] at z'
    simpa using z'
end QR

set_option Elab.async false
set_option linter.all false
set_option maxRecDepth 100000
set_option maxHeartbeats 4000000
/-! ### rules: sorted of keys; a dict written with one tuple for key; a tuple times 0 and 1 -/
namespace QR
open PySem PySem.Spec PyProof.Rows L2 KX KP
section
variable {X : Cx}
/-- sorted(a list of keys) -/
def rSortD (K : PySem.W.Frag) : List V → Hp → VK → Prop := fun vs H Q => ∃ (a : Addr) (ms : List (Addr × List Int)), vs = [.ref a] ∧ SqL K H a (ms.map fun p => V.ref p.1) ∧ (∀ p ∈ ms, KeyT K H (.ref p.1) p.2.sum p.2) ∧ ms.length ≤ 100000 ∧
  ∀ (ys : List (Addr × List Int)) (p : Addr), ys.Perm ms → ys.Pairwise (fun x y => gtM x.2 y.2 = false) → H p = none → Q (.ref p) (upd H p (.lst (ys.map fun p => V.ref p.1)))
theorem dp_key {K : PySem.W.Frag} {H : Hp} {v : V} {ns : List Int} (h : KeyT K H v ns.sum ns) : Dp K H v (keyD ns) := by
  obtain ⟨p, q, rfl, sp, sq⟩ := h
  exact .tup sp (.cons (.int _) (.cons (.tup sq (dp_ints ns)) .nil))
theorem each_reads {pins : List (Addr × Obj)} {s : Shared} {σ : L2.St} {H : Hp} (I : Inv X pins σ H s) : ∀ (ms : List (Addr × List Int)), (∀ p ∈ ms, KeyT X.K H (.ref p.1) p.2.sum p.2) → PySem.W.EachIs (fun v (p : Addr × List Int) => ∃ as, Reads s.heap v (keyD p.2) as) (ms.map fun p => Value.ref p.1) ms
  | [], _ => .nil
  | p :: ms, h => .cons (Dp.reads I _ _ (.ref p.1) (dp_key (h p List.mem_cons_self)) rfl) (each_reads I ms fun q hq => h q (List.mem_cons_of_mem _ hq))
theorem cr_sortD (hu : X.A.units + 64 < cLine) : CallR X (.builtin "sorted") (rSortD X.K) := by
  intro pins s σ H vs us Q I r h
  obtain ⟨a, ms, rfl, hs, hm, hl, q⟩ := h
  obtain rfl := Vals.ref1 r
  obtain ⟨its, rv, hL, hz⟩ := I.list hs
  obtain rfl := refs_vals rv
  refine PySem.W.sorted_data (β := Addr × List Int) (R := fun v p => v = .ref p.1) (bs := ms) (enc := fun p => keyD p.2) hL.isList (each_refs ms fun _ _ => rfl) (each_reads I ms hm) (fun d hd d' hd' => ?_) (.inl fun d hd => ?_) (Nat.le_trans hl (by decide)) (fun x hx => ?_) ?_
  · obtain ⟨p, _, rfl⟩ := List.mem_map.mp hd
    obtain ⟨p', _, rfl⟩ := List.mem_map.mp hd'
    exact alike_key _ _
  · obtain ⟨p, _, rfl⟩ := List.mem_map.mp hd
    exact ⟨_, _, rfl⟩
  · have := depth_key x.2
    omega
  · intro out ho he
    have eo := refs_of he
    subst eo
    obtain ⟨ep, he'⟩ := PyProof.Rows.sortedAll_at s.heap (ms.map fun p => Value.ref p.1) ((ms.mergeSort (PySem.W.dataLe false fun p => keyD p.2)).map fun p => Value.ref p.1).toArray
    have hl2 : ((ms.mergeSort (PySem.W.dataLe false fun p => keyD p.2)).map fun p => V.ref p.1).length ≤ sizeLine := by
      rw [List.length_map, List.length_mergeSort]
      exact Nat.le_trans hl (by decide)
    refine ⟨.ref (s.heap.objs.size + 1), upd H (s.heap.objs.size + 1) (.lst ((ms.mergeSort (PySem.W.dataLe false fun p => keyD p.2)).map fun p => V.ref p.1)), I.laid (t' := s.toks) (fun _ _ => PyProof.Rows.sortedAll_old) (Nat.le_succ _) ⟨hl2, _, ep, vals_refs _, he'⟩, rfl, q _ _ (List.mergeSort_perm _ _) ?_ (I.hok.fresh (Nat.le_succ _))⟩
    refine (PySem.W.sort_pairwise (PySem.W.sortLe_total _ _ _) ms).imp fun {x y} z => ?_
    have z0 : PySem.W.dataLe false (fun p : Addr × List Int => keyD p.2) x y = true := z
    rw [PySem.W.dataLe_eq] at z0
    have z' : (!PySem.W.dataLt (keyD y.2) (keyD x.2)) = true := z0
    rw [lt_key] at z'
    simpa using z'
end
theorem tuple_mul1 (l : Addr) (items : Array Value) (n : Nat) (dd : Option Addr) (sl : Array (Option Value)) (u : Tok) :
    Meets (Builtin.«tuple.__mul__» ⟨[.ref l, .int 1 u], []⟩) (fun _ R s => s.heap.get? l = some { cls := .type "tuple", dict := dd, data := .seq items n, slots := sl } ∧ R (.ok (.ret (Value.ref l))) s) :=
  .of_wp fun prog w A R s h => by
    obtain ⟨hp, g, d, tk, os⟩ := s
    obtain ⟨hl, h⟩ := h
    have f1 := AutoSeq1.idx_int
    wp_walk using wpAny_loadPart' hl
    all_goals first | exact ⟨_, rfl, h⟩ | skip
theorem tuple_mul0 (l : Addr) (x : Value) (items : List Value) (n : Nat) (dd : Option Addr) (sl : Array (Option Value)) (u : Tok) :
    Meets (Builtin.«tuple.__mul__» ⟨[.ref l, .int 0 u], []⟩) (fun _ R s => s.heap.get? l = some { cls := .type "tuple", dict := dd, data := .seq (x :: items).toArray n, slots := sl } ∧
      R (.ok (.ret (Value.ref s.heap.objs.size))) { s with heap := s.heap.push { cls := Value.type "tuple", data := Data.seq #[] }, toks := s.toks }) :=
  .of_wp fun prog w A R s h => by
    obtain ⟨hp, g, d, tk, os⟩ := s
    obtain ⟨hl, h⟩ := h
    have f1 := AutoSeq1.idx_int
    wp_walk using wpAny_loadPart' hl
    all_goals first | exact ⟨_, rfl, h⟩ | skip
section
variable {X : Cx}
def rRepA (K : PySem.W.Frag) : R2 := fun x y H Q => ∃ l k xs, x = .ref l ∧ y = .int k ∧ SqT K H l xs ∧ xs ≠ [] ∧ 0 ≤ k ∧ k ≤ 1000 ∧ xs.length ≤ 1000 ∧ (k = 1 → Q (.ref l) H) ∧ (k ≠ 1 → ∀ p, H p = none → Q (.ref p) (upd H p (.tup (List.replicate k.toNat xs).flatten)))
theorem op_repA : OpR X (binaryOp .Mult) (rRepA X.K) := by
  intro pins s σ H x y v u Q I rx ry h
  obtain ⟨l, k, xs, rfl, rfl, hT, hne, h1, h2, hz, q1, q⟩ := h
  by_cases c2 : 2 ≤ k
  · exact op_repT pins s σ H _ _ v u Q I rx ry ⟨l, k, xs, rfl, rfl, hT, hne, c2, h2, hz, q (by omega)⟩
  cases rx
  obtain ⟨t, rfl⟩ := ry
  obtain ⟨its, r, ⟨⟨cls, dd, data, sl⟩, ho, hc, n, hd⟩, hs⟩ := I.tuple hT
  simp only at hc hd
  subst hc hd
  obtain ⟨y, ys, rfl⟩ : ∃ y ys, its = y :: ys := by
    cases r with
    | nil => exact absurd rfl hne
    | cons _ _ => exact ⟨_, _, rfl⟩
  by_cases c1 : k = 1
  · subst c1
    exact wpAny_binaryOp_repeat_ref (T := "tuple") (U := "int") (by decide) ⟨_, ho, rfl⟩ (fun s' => typeIs_int s' 1 t) noFill_tuple_mul F.fills_int_mul F.slot_int_rmul repeat_tuple F.slot_int_index.lookup
      (call_meets F.slot_int_rmul (typeIs_int s 1 t) F.entry_int_rmul (F.args_int_rmul_2 _ _) (int_rmul_tuple 1 t l (y :: ys).toArray n dd sl)
        ⟨ho, rfl, ⟨_, ho, rfl⟩, call_meets F.slot_tuple_mul ⟨_, ho, rfl⟩ F.entry_tuple_mul (F.args_tuple_mul_2 _ _) (tuple_mul1 l (y :: ys).toArray n dd sl t) ⟨ho, ⟨.ref l, H, I, rfl, q1 rfl⟩⟩⟩)
  · have c0 : k = 0 := by omega
    subst c0
    refine wpAny_binaryOp_repeat_ref (T := "tuple") (U := "int") (by decide) ⟨_, ho, rfl⟩ (fun s' => typeIs_int s' 0 t) noFill_tuple_mul F.fills_int_mul F.slot_int_rmul repeat_tuple F.slot_int_index.lookup
      (call_meets F.slot_int_rmul (typeIs_int s 0 t) F.entry_int_rmul (F.args_int_rmul_2 _ _) (int_rmul_tuple 0 t l (y :: ys).toArray n dd sl)
        ⟨ho, rfl, ⟨_, ho, rfl⟩, call_meets F.slot_tuple_mul ⟨_, ho, rfl⟩ F.entry_tuple_mul (F.args_tuple_mul_2 _ _) (tuple_mul0 l y ys n dd sl t) ⟨ho, ?_⟩⟩)
    refine ⟨.ref s.heap.objs.size, _, I.laid (t' := s.toks) (o := .tup []) (fun b ob q => Heap.get?_push_of_some _ q) (Nat.le_refl _) ?_, rfl, q (by decide) _ (I.hok.fresh (Nat.le_refl _))⟩
    exact ⟨Nat.zero_le _, [], .nil, IsTup.new _ _⟩
/-- {k: v}, k a tuple -/
def tDisp1 (tk tv : TE) : TE := fun σ H Q => ∀ p, H p = none → tk σ (upd H p (.dT [])) fun x H1 => tv σ H1 fun y H2 => H2 p = some (.dT []) ∧ ∃ (k : List Key) (b : Addr), x = .ref b ∧ H2 b = some (.tup (k.map kV)) ∧ Q (.ref p) (upd H2 p (.dT [(k, y)]))
theorem pe_disp1 {pos : Pos} {ek ev : Expr} {tk tv : TE} (hu : X.A.units + 1 < cLine) (hk : PE X ek tk) (hv : PE X ev tv) : PE X (.Dict [some ek] [ev] pos) (tDisp1 tk tv) := by
  refine ⟨fun pins s σ H Q I q => ?_⟩
  have hn := I.hok.fresh (Nat.le_refl s.heap.objs.size)
  have I1 := I.laid (a := s.heap.objs.size) (o := .dT []) (h' := s.heap.push { cls := .type "dict", data := .dict #[] }) (t' := s.toks) (fun _ _ q => Heap.get?_push_of_some _ q) (Nat.le_refl _) (dt_empty s.heap I.big)
  rw [arm_eval_Dict, zip_pairTrees [some ek] [ev] X.env pos rfl rfl, dictDisplay_pairs (pairTrees [some ek] [ev] X.env pos) (fun z => by cases z) (by show 1 < 17; decide)]
  refine wpAny_bind (wpAny_standAt (wpAny_bind (wpAny_subDictH (knd := tupleKind (mixKind X.prog X.w)) (Q := fun d s' => wpAny (model X.prog X.w) X.A (pure (Value.ref d)) (EP X pins σ Q) X.xe s') (by show X.A.units < cLine; omega) (by show 1 ≤ 15; decide) ?_)))
  refine thn ((pps_cons hk hv pps_nil).run pins _ σ _ (fun ps H2 => match ps with | [(x, y)] => H2 s.heap.objs.size = some (.dT []) ∧ ∃ (k : List Key) (b : Addr), x = .ref b ∧ H2 b = some (.tup (k.map kV)) ∧ Q (.ref s.heap.objs.size) (upd H2 s.heap.objs.size (.dT [(k, y)])) | _ => False) I1 ?_) ?_
  · exact (q _ hn)
  · rintro ws s2 ⟨ps, H2, I2, rel, qq⟩
    match ps, qq with
    | [(x, y)], ⟨e, k, b, ex, eb, q2⟩ =>
    subst ex
    cases rel with
    | @cons _ w2 _ _ r1 r2 =>
      cases r2
      obtain ⟨u, w3⟩ := w2
      obtain rfl : u = Value.ref b := r1.1
      obtain ⟨z, hd, xs, kt, dd⟩ := dt_of I2.hok e
      cases kt
      refine ⟨[(k, b, w3)], ⟨rfl, rfl, key_of I2.hok eb, trivial⟩, dd, fun h' tk dd' hs => wpAny_pure ⟨.ref s.heap.objs.size, _, ?_, rfl, q2⟩⟩
      obtain ⟨o, es, ep, hq, h2, h3, h4, _, h5⟩ := dd'
      refine d_write I2 (by rw [e]; exact True.intro) hs ⟨o, hq⟩ ⟨by show 1 ≤ sizeLine; decide, hd, _, .cons ⟨rfl, ?_, r1.2⟩ .nil, o, es, ep, hq, h2, h3, h4, h5⟩
      rw [upd_ne (ne_of eb e (fun z => nomatch z))]
      exact eb
end
end QR

set_option Elab.async false
set_option linter.all false
set_option maxRecDepth 100000
set_option maxHeartbeats 1000000
/-! ### things as data, the text's constants among them -/
namespace QD
open PySem PySem.Spec PyProof.Rows L2 KX KP
mutual
/-- what x is as data: tracked things, the text's constants, the empty dict -/
inductive Dk (K : PySem.W.Frag) (H : Hp) : V → PyData → Prop
  | non : Dk K H .non .none
  | bl (b : Bool) : Dk K H (.bl b) (.bool b)
  | int (i : Int) : Dk K H (.int i) (.int i)
  | str (x : Str) : Dk K H (.str x) (.str x)
  | lst {a : Addr} {xs : List V} {ds : List PyData} : SqL K H a xs → DkAll K H xs ds → Dk K H (.ref a) (.list ds)
  | tup {a : Addr} {xs : List V} {ds : List PyData} : SqT K H a xs → DkAll K H xs ds → Dk K H (.ref a) (.tuple ds)
  | emp {a : Addr} : H a = some (.dK []) → Dk K H (.ref a) (.dict [])
inductive DkAll (K : PySem.W.Frag) (H : Hp) : List V → List PyData → Prop
  | nil : DkAll K H [] []
  | cons {v : V} {vs : List V} {d : PyData} {ds : List PyData} : Dk K H v d → DkAll K H vs ds → DkAll K H (v :: vs) (d :: ds)
end
section
variable {K : PySem.W.Frag} {H H' : Hp}
theorem sqT_sm {a : Addr} {xs : List V} (s : Sm H H') (h : SqT K H a xs) : SqT K H' a xs := by
  rcases h with h | h
  · exact .inl (s.rd h)
  · exact .inr h
theorem sqL_sm {a : Addr} {xs : List V} (s : Sm H H') (h : SqL K H a xs) : SqL K H' a xs := by
  rcases h with (h | ⟨o, h⟩) | h
  · exact .inl (.inl (s _ _ h fun _ z => by cases z))
  · exact .inl (.inr ⟨o, s _ _ h fun _ z => by cases z⟩)
  · exact .inr h
theorem Dk.mono (s : Sm H H') {v : V} {d : PyData} (h : Dk K H v d) : Dk K H' v d := by
  refine Dk.rec (motive_1 := fun v d _ => Dk K H' v d) (motive_2 := fun vs ds _ => DkAll K H' vs ds) .non (fun b => .bl b) (fun i => .int i) (fun x => .str x) (fun q _ ih => .lst (sqL_sm s q) ih) (fun q _ ih => .tup (sqT_sm s q) ih) (fun q => .emp (s _ _ q fun _ z => by cases z)) .nil (fun _ _ a b => .cons a b) h
theorem DkAll.mono (s : Sm H H') : ∀ {xs : List V} {ds : List PyData}, DkAll K H xs ds → DkAll K H' xs ds
  | _, _, .nil => .nil
  | _, _, .cons a b => .cons (a.mono s) (DkAll.mono s b)
theorem Dk.th {v : V} {d : PyData} (h : Th H v d) : Dk K H v d := by
  refine Th.rec (motive_1 := fun v d _ => Dk K H v d) (motive_2 := fun vs ds _ => DkAll K H vs ds) .non (fun b => .bl b) (fun i => .int i) (fun x => .str x) (fun q _ ih => .lst (SqL.of q) ih) (fun q _ ih => .tup (SqT.of q) ih) (fun q => .emp q) .nil (fun _ _ a b => .cons a b) h
theorem Dk.ofDp {v : V} {d : PyData} (h : Dp K H v d) : Dk K H v d := by
  refine Dp.rec (motive_1 := fun v d _ => Dk K H v d) (motive_2 := fun vs ds _ => DkAll K H vs ds) .non (fun b => .bl b) (fun i => .int i) (fun x => .str x) (fun q _ ih => .lst q ih) (fun q _ ih => .tup q ih) .nil (fun _ _ a b => .cons a b) h
theorem Dk.dp {v : V} {d : PyData} (h : Dk K H v d) : d.hasDict = false → Dp K H v d := by
  refine Dk.rec (motive_1 := fun v d _ => d.hasDict = false → Dp K H v d) (motive_2 := fun vs ds _ => PyData.hasDictAll ds = false → DpAll K H vs ds) (fun _ => .non) (fun b _ => .bl b) (fun i _ => .int i) (fun x _ => .str x)
    (fun q _ ih z => .lst q (ih (by simpa [PyData.hasDict] using z))) (fun q _ ih z => .tup q (ih (by simpa [PyData.hasDict] using z))) (fun q z => by simp [PyData.hasDict] at z) (fun _ => .nil) (fun _ _ a b z => ?_) h
  simp only [PyData.hasDictAll, Bool.or_eq_false_iff] at z
  exact .cons (a z.1) (b z.2)
theorem Dk.ty {v : V} {d : PyData} (h : Dk K H v d) : TyB K H v (tyN d) := by
  cases h with
  | non => exact .non
  | bl b => exact .bl b
  | int i => exact .int i
  | str x => exact .str x
  | lst e _ => exact .lst e
  | tup e _ => exact .tup e
  | emp e => exact .dK e
theorem dk_get : ∀ {xs : List V} {ds : List PyData} {i : Nat} {x : V}, DkAll K H xs ds → xs[i]? = some x → ∃ d, ds[i]? = some d ∧ Dk K H x d
  | _, _, 0, _, .cons h _, e => by
    cases e
    exact ⟨_, rfl, h⟩
  | _ :: _, _ :: _, _ + 1, _, .cons _ t, e => by
    obtain ⟨d, h1, h2⟩ := dk_get t (show _ = _ from (List.getElem?_cons_succ ▸ e))
    exact ⟨d, by rw [List.getElem?_cons_succ]; exact h1, h2⟩
end
section
variable {K : PySem.W.Frag} {σ : L2.St} {H : Hp}
theorem vi_type {t : TA} {x : V} {d : PyData} (ha : Ai t σ H [x]) (h : Dk K H x d) : Vi (tCB (rTyp K) t) σ H (.ty (tyN d)) := vi_cb ha fun Q q => ⟨x, _, rfl, Dk.ty h, q⟩
theorem ti_notTup {te : TE} {x : V} {d : PyData} (ha : Vi te σ H x) (h : Dk K H x d) : Ti (tTest (tOp rNT (tCB (rTyp K) (tCons te tNil)) (tC (.ty "tuple")))) σ H (!decide (tyN d = "tuple")) :=
  ti_test (vi_op (vi_type (ai_cons ha ai_nil) h) vi_c fun Q q => ⟨_, _, rfl, rfl, q⟩)
theorem all2 {xs : List V} {ds : List PyData} (h : DkAll K H xs ds) : xs.length = ds.length := by
  induction ds generalizing xs with
  | nil => cases h; rfl
  | cons d ds ih => cases h with | cons a b => rw [List.length_cons, List.length_cons, ih b]
theorem tupOf {x : V} {d : PyData} (h : Dk K H x d) (z : tyN d = "tuple") : ∃ a xs ds, x = .ref a ∧ d = .tuple ds ∧ SqT K H a xs ∧ DkAll K H xs ds := by
  cases h with
  | tup e ha => exact ⟨_, _, _, rfl, rfl, e, ha⟩
  | _ => exact absurd z (by simp [tyN])
theorem vi_lenT {t : TA} {x : V} {d : PyData} (ha : Ai t σ H [x]) (h : Dk K H x d) (z : tyN d = "tuple") : Vi (tCB (KP.rLen K) t) σ H (.int (lenT d)) := vi_cb ha fun Q q => by
  obtain ⟨a, xs, ds, rfl, rfl, e, hl⟩ := tupOf h z
  exact ⟨a, xs, rfl, .inr (e), by rw [all2 hl]; exact q⟩
theorem ti_shape {te : TE} {x : V} {d : PyData} {n : Nat} {m : Int} (hm : m = (n : Int)) (ha : Vi te σ H x) (h : Dk K H x d) :
    Ti (tOr (tTest (tOp rNT (tCB (rTyp K) (tCons te tNil)) (tC (.ty "tuple")))) (tTest (tOp rNe (tCB (KP.rLen K) (tCons te tNil)) (tC (.int m))))) σ H (!shp n d) := by
  subst hm
  have e : (!shp n d) = ((!decide (tyN d = "tuple")) || !decide (lenT d = n)) := by unfold shp; rw [Bool.not_and]
  rw [e]
  refine ti_or (ti_notTup ha h) fun z => ti_test (vi_op (vi_lenT (ai_cons ha ai_nil) h (by simpa using z)) vi_c fun Q q => ⟨rfl, ?_⟩)
  rw [int_dec]
  exact q
theorem shp_of {x : V} {d : PyData} {n : Nat} (h : Dk K H x d) (z : (!shp n d) = false) : ∃ a xs ds, x = .ref a ∧ d = .tuple ds ∧ SqT K H a xs ∧ DkAll K H xs ds ∧ ds.length = n := by
  have z : shp n d = true := by simpa using z
  unfold shp at z
  rw [Bool.and_eq_true, decide_eq_true_eq, decide_eq_true_eq] at z
  obtain ⟨a, xs, ds, e1, rfl, e2, hl⟩ := tupOf h z.1
  exact ⟨a, xs, ds, e1, rfl, e2, hl, z.2⟩
end
def spWholeK (K : PySem.W.Frag) : Sp := fun vs H Q _ => ∃ x d, vs = [x] ∧ Dk K H x d ∧ Q (.bl (isI d)) H
def spWithinK (K : PySem.W.Frag) : Sp := fun vs H Q _ => ∃ x d lo hi, vs = [x, .int lo, .int hi] ∧ Dk K H x d ∧ Q (.bl (isW d lo hi)) H
def spIsK (K : PySem.W.Frag) (p : PyData → Bool) : Sp := fun vs H Q _ => ∃ x d, vs = [x] ∧ Dk K H x d ∧ Q (.bl (p d)) H
section
variable {P : Program} {w : World} {K : PySem.W.Frag} {mg : Str → Option Value} {base : Heap}
theorem ok_wholeK {f : Addr} {fd : FuncData} (F : Fun K "is_whole" "is_whole" sWhole f fd) (T : TxT mg) : FnOk P w K mg base CX0 1 f fd ["value"] (spWholeK K) := by
  refine F.ok scWhole (fun vs H Q E h => ?_) (fun cdv A outer s H vs Q E hr h => ?_)
  · obtain ⟨x, d, rfl, _⟩ := h
    rfl
  · obtain ⟨x, d, rfl, hx, k⟩ := h
    refine ⟨_, pss_one (ps_ret (pe_cmpR op_isTyB (pe_callTy call_type1 (by rfl) T.type (by decide +kernel) (pa_cons (pv 0) pa_nil)) (pe_bltn (v := .ty "int") (by rfl) T.int (by decide +kernel) rfl) (nomark _))), ?_⟩
    refine ⟨_, rfl, _, _, rfl, Dk.ty hx, _, _, rfl, rfl, ?_⟩
    show Q (.bl (decide (tyN d = "int"))) H
    rw [isI_ty]
    exact k
theorem ok_withinK {f fW : Addr} {fd fdW : FuncData} (F : Fun K "is_within" "is_within" sWithin f fd) (FW : FnOk P w K mg base CX0 1 fW fdW ["value"] (spWholeK K)) (mW : mg "is_whole" = some (.ref fW)) (kW : PySem.W.keepIn K (.ref fW) = true) (bW : Binds K fdW ["value"] []) :
    FnOk P w K mg base CX0 2 f fd ["value", "least", "most"] (spWithinK K) := by
  refine F.ok scWithin (fun vs H Q E h => ?_) (fun cdv A outer s H vs Q E hr h => ?_)
  · obtain ⟨x, d, lo, hi, rfl, _⟩ := h
    rfl
  · obtain ⟨x, d, lo, hi, rfl, hx, k⟩ := h
    refine ⟨_, pss_one (ps_ret (pe_and (pe_call FW hr rfl mW kW bW .nil pass0 (pa_cons (pv 0) pa_nil)) (pe_one (pe_chain op_le op_le (pv 1) (pv 0) (pv 2))))), ?_⟩
    refine ⟨_, rfl, x, d, rfl, hx, _, rfl, ?_⟩
    cases hx with
    | int i =>
      refine ⟨_, rfl, _, rfl, _, _, rfl, rfl, _, rfl, ?_⟩
      by_cases c : lo ≤ i
      · rw [if_pos (decide_eq_true c)]
        refine ⟨_, rfl, _, _, rfl, rfl, ?_⟩
        have e : isW (.int i) lo hi = decide (i ≤ hi) := by simp [isW, c]
        rw [e] at k
        exact k
      · rw [if_neg (by simpa using c)]
        have e : isW (.int i) lo hi = false := by simp [isW, c]
        rw [e] at k
        exact k
    | _ => exact k
theorem ok_ratioK {f fW : Addr} {fd fdW : FuncData} (F : Fun K "is_ratio" "is_ratio" sRatio f fd) (T : TxT mg) (mG : mg "gcd" = some (.builtin "math.gcd")) (FW : FnOk P w K mg base CX0 1 fW fdW ["value"] (spWholeK K)) (mW : mg "is_whole" = some (.ref fW)) (kW : PySem.W.keepIn K (.ref fW) = true) (bW : Binds K fdW ["value"] []) :
    FnOk P w K mg base CX0 2 f fd ["value"] (spIsK K isR) := by
  refine F.ok scRatio (fun vs H Q E h => ?_) (fun cdv A outer s H vs Q E hr h => ?_)
  · obtain ⟨x, d, rfl, _⟩ := h
    rfl
  · obtain ⟨x, d, rfl, hx, k⟩ := h
    refine ⟨_, pss_cons (ps_if (pw_or (pt_cmpR op_notTyB (pe_callTy call_type1 (by rfl) T.type (by decide +kernel) (pa_cons (pv 0) pa_nil)) (pe_bltn (v := .ty "tuple") (by rfl) T.tuple (by decide +kernel) rfl) (nomark _))
        (pw_or1 (pt_cmpR op_ne (pe_callB call_len_seq (by rfl) T.len PySem.boot_len (pa_cons (pv 0) pa_nil)) pe_int (nomark _)))).pt (pss_one (ps_ret pe_bl)) pss_nil)
      (pss_cons (ps_asg (pv 0) (pg_tup rfl (pgs_cons (pg_name (i := 1) scRatio.nd rfl (Or.inl rfl)) (pgs_cons (pg_name (i := 2) scRatio.nd rfl (Or.inl rfl)) pgs_nil))))
      (pss_one (ps_ret (pe_and (pe_call FW hr rfl mW kW bW .nil pass0 (pa_cons (pv 1) pa_nil)) (pe_and (pe_call FW hr rfl mW kW bW .nil pass0 (pa_cons (pv 2) pa_nil)) (pe_and (pe_cmpR op_gt (pv 2) pe_int (nomark _)) (pe_one (pe_cmpR op_eq (pe_callBfun cr_gcd (by rfl) mG (pa_cons (pv 1) (pa_cons (pv 2) pa_nil))) pe_int (nomark _))))))))), ?_⟩
    refine i_guard (ti_shape rfl (vi_var rfl) hx) (fun z => ?_) (fun z => ?_)
    · have e : isR d = false := by
        have z : shp 2 d = false := by simpa using z
        simp [isR, z]
      rw [e] at k
      exact k
    · obtain ⟨a, xs, ds, rfl, rfl, e, ha, l2⟩ := shp_of hx z
      obtain ⟨d1, d2, rfl⟩ := len2 l2
      cases ha with
      | cons h1 hr1 => cases hr1 with
          | cons h2 hr2 =>
            cases hr2
            refine ⟨_, rfl, a, _, rfl, e, rfl, _, _, rfl, _, _, rfl, rfl, ?_⟩
            have e9 : isR (.tuple [d1, d2]) = (isI d1 && (isI d2 && ratio2 d1 d2)) := by cases d1 <;> cases d2 <;> simp [isI, isR, shp, ith, ratio2, tyN, lenT]
            rw [e9] at k
            dsimp only
            refine i_ret (v := .bl (isI d1 && (isI d2 && ratio2 d1 d2))) ?_ k
            refine vi_and (vi_call (ai_cons (vi_var rfl) ai_nil) fun Q q => ⟨_, _, rfl, h1, q⟩) fun c1 => ?_
            refine vi_and (vi_call (ai_cons (vi_var rfl) ai_nil) fun Q q => ⟨_, _, rfl, h2, q⟩) fun c2 => ?_
            cases h1 with
            | int i1 => cases h2 with
              | int i2 =>
                refine vi_and (vi_op (vi_var rfl) vi_c fun Q q => ⟨_, _, rfl, rfl, q⟩) fun c3 => ?_
                refine vi_op (vi_cb (v := .int ((Nat.gcd i1.natAbs i2.natAbs : Nat) : Int)) (ai_cons (vi_var rfl) (ai_cons (vi_var rfl) ai_nil)) fun Q q => ⟨_, _, rfl, q⟩) vi_c (fun Q q => ⟨rfl, ?_⟩)
                rw [show (V.int 1) = V.int ((1 : Nat) : Int) from rfl, int_dec]
                exact q
              | _ => simp [isI] at c2
            | _ => simp [isI] at c1
end
end QD

set_option Elab.async false
set_option linter.all false
set_option maxRecDepth 100000
set_option maxHeartbeats 1000000
/-! ### words, rows, texts: what they tell -/
namespace PT
open PySem SX
abbrev Cs := List Nat
def dig (c : Nat) : Bool := decide (48 ≤ c) && decide (c ≤ 57)
/-- a whole number without noughts ahead -/
def isNum (w : Cs) : Bool := !w.isEmpty && (w.all dig && (decide (w = [48]) || !decide (w.head? = some 48)))
def valN (w : Cs) : Int := ((NumText.digitsVal w : Nat) : Int)
def numW (w : Cs) : Option Int := if isNum w = true then some (valN w) else none
def cut1 (c : Nat) : Cs → Cs × Option Cs
  | [] => ([], none)
  | x :: r => if x = c then ([], some r) else (x :: (cut1 c r).1, (cut1 c r).2)
def splitC (c : Nat) : Cs → List Cs
  | [] => [[]]
  | x :: r => if x = c then [] :: splitC c r else match splitC c r with
    | [] => [[x]]
    | p :: ps => (x :: p) :: ps
theorem splitC_ne (c : Nat) : ∀ w, splitC c w ≠ []
  | [] => by simp [splitC]
  | x :: r => by
    unfold splitC
    split
    · simp
    · split <;> simp
theorem pre1 {c x : Nat} {r : Cs} : TL.pre [c] (x :: r) = decide (x = c) := by
  unfold TL.pre
  show ([x] == [c]) = _
  rw [Bool.eq_iff_iff, beq_iff_eq, decide_eq_true_iff]
  constructor
  · intro h
    exact (List.cons.inj h).1
  · rintro rfl
    rfl
theorem spl_acc (c : Nat) : ∀ (w acc : Cs), TL.spl [c] 0 acc w = match splitC c w with
    | [] => [acc]
    | p :: ps => (acc ++ p) :: ps
  | [], acc => by
    show [acc] = [acc ++ []]
    rw [List.append_nil]
  | x :: r, acc => by
    unfold splitC
    by_cases h : x = c
    · rw [TL.spl_hit (by rw [pre1]; exact decide_eq_true h), if_pos h]
      have e := spl_acc c r []
      show acc :: TL.spl [c] 0 [] r = (acc ++ []) :: splitC c r
      rw [e, List.append_nil]
      cases q : splitC c r with
      | nil => exact absurd q (splitC_ne c r)
      | cons p ps => rfl
    · rw [TL.spl_miss (by rw [pre1]; exact decide_eq_false h), if_neg h, spl_acc c r]
      cases q : splitC c r with
      | nil => exact absurd q (splitC_ne c r)
      | cons p ps =>
        show (acc ++ [x] ++ p) :: ps = (acc ++ x :: p) :: ps
        rw [List.append_assoc]
        rfl
theorem spl_eq (c : Nat) (w : Cs) : TL.spl [c] 0 [] w = splitC c w := by
  rw [spl_acc]
  cases q : splitC c w with
  | nil => exact absurd q (splitC_ne c w)
  | cons p ps => rfl
theorem split_eq {c : Nat} (hc : c < 256) (w : Cs) : Txt.split (S w) (S [c]) = (splitC c w).map S := by
  rw [split_S (by simp) (by simp [hc]), spl_eq]
theorem par_acc (c : Nat) : ∀ (w acc : Cs), TL.par [c] acc w = (cut1 c w).2.map fun t => (acc ++ (cut1 c w).1, t)
  | [], acc => rfl
  | x :: r, acc => by
    unfold cut1
    show (if TL.pre [c] (x :: r) = true then some (acc, (x :: r).drop 1) else TL.par [c] (acc ++ [x]) r) = _
    by_cases h : x = c
    · rw [if_pos (by rw [pre1]; exact decide_eq_true h), if_pos h]
      show some (acc, r) = some (acc ++ [], r)
      rw [List.append_nil]
    · rw [if_neg (by rw [pre1]; simpa using h), if_neg h, par_acc c r]
      show ((cut1 c r).2.map fun t => (acc ++ [x] ++ (cut1 c r).1, t)) = (cut1 c r).2.map fun t => (acc ++ (x :: (cut1 c r).1), t)
      rw [List.append_assoc]
      rfl
theorem cut1_none (c : Nat) : ∀ {w : Cs}, (cut1 c w).2 = none → (cut1 c w).1 = w
  | [], _ => rfl
  | x :: r, h => by
    unfold cut1 at h ⊢
    by_cases e : x = c
    · rw [if_pos e] at h
      cases h
    · rw [if_neg e] at h ⊢
      show x :: (cut1 c r).1 = x :: r
      rw [cut1_none c h]
theorem partition_eq (c : Nat) (w : Cs) : Txt.partition (S w) (S [c]) = match (cut1 c w).2 with
    | some t => (S (cut1 c w).1, S [c], S t)
    | none => (S w, S [], S []) := by
  have e := par_acc c w []
  cases q : (cut1 c w).2 with
  | none =>
    rw [q] at e
    exact partition_none (by simp) e
  | some t =>
    rw [q] at e
    exact partition_some (by simp) e
theorem splitC_hit {c x : Nat} {r : Cs} (h : x = c) : splitC c (x :: r) = [] :: splitC c r := if_pos h
theorem splitC_miss {c x : Nat} {r : Cs} (h : x ≠ c) : splitC c (x :: r) = match splitC c r with
    | [] => [[x]]
    | p :: ps => (x :: p) :: ps := if_neg h
theorem cut1_hit {c x : Nat} {r : Cs} (h : x = c) : cut1 c (x :: r) = ([], some r) := if_pos h
theorem cut1_cons {c x : Nat} {r : Cs} (h : x ≠ c) : cut1 c (x :: r) = (x :: (cut1 c r).1, (cut1 c r).2) := if_neg h
theorem splitC_cut (c : Nat) : ∀ w : Cs, splitC c w = match (cut1 c w).2 with
    | none => [(cut1 c w).1]
    | some t => (cut1 c w).1 :: splitC c t
  | [] => rfl
  | x :: r => by
    have ih := splitC_cut c r
    by_cases e : x = c
    · rw [splitC_hit e, cut1_hit e]
    · rw [splitC_miss e, cut1_cons e, ih]
      cases q : (cut1 c r).2 with
      | none => rfl
      | some t => rfl
theorem splitC_free (c : Nat) : ∀ {w : Cs}, c ∉ w → splitC c w = [w]
  | [], _ => rfl
  | x :: r, h => by
    unfold splitC
    rw [if_neg (fun e => h (by rw [e]; exact List.mem_cons_self)), splitC_free c fun e => h (List.mem_cons_of_mem _ e)]
theorem splitC_long (c : Nat) : ∀ {w : Cs}, c ∈ w → 2 ≤ (splitC c w).length
  | x :: r, h => by
    unfold splitC
    by_cases e : x = c
    · rw [if_pos e, List.length_cons]
      have := List.length_pos_iff.mpr (splitC_ne c r)
      omega
    · rw [if_neg e]
      have ih := splitC_long c ((List.mem_cons.mp h).resolve_left fun z => e z.symm)
      cases q : splitC c r with
      | nil => rw [q] at ih; simp at ih
      | cons p ps =>
        rw [q] at ih
        simpa using ih
/-! ### numbers -/
theorem isNum_dig {w : Cs} (h : isNum w = true) : ∀ c ∈ w, 48 ≤ c ∧ c ≤ 57 := fun c hc => by
  unfold isNum at h
  rw [Bool.and_eq_true, Bool.and_eq_true] at h
  have := List.all_eq_true.mp h.2.1 c hc
  simpa [dig] using this
theorem isNum_ne {w : Cs} (h : isNum w = true) : w ≠ [] := fun z => by
  rw [z] at h
  cases h
theorem isNum_free {w : Cs} (h : isNum w = true) {c : Nat} (hc : c < 48 ∨ 57 < c) : c ∉ w := fun z => by
  have := isNum_dig h c z
  omega
theorem int_ok {w : Cs} (h : isNum w = true) (hl : w.length ≤ 4300) : intText? (S w) = some (valN w) := by
  exact int_S (List.all_eq_true.mpr fun c hc => by
    have := isNum_dig h c hc
    simpa using this) (isNum_ne h) hl
theorem val_nonneg (w : Cs) : 0 ≤ valN w := Int.natCast_nonneg _
theorem val_zero {w : Cs} (h : isNum w = true) : valN w = 0 ↔ w = [48] := by
  constructor
  · intro z
    have hd := isNum_dig h
    unfold isNum at h
    rw [Bool.and_eq_true, Bool.and_eq_true, Bool.or_eq_true] at h
    rcases h.2.2 with q | q
    · exact of_decide_eq_true q
    · cases w with
      | nil => cases h.1
      | cons c cs =>
        have hc := hd c List.mem_cons_self
        have n48 : c ≠ 48 := fun e => by rw [e] at q; simp at q
        have := NumText.digitsVal_pos (cs := cs) (show 49 ≤ c by omega)
        unfold valN at z
        omega
  · rintro rfl
    rfl
/-! ### shares -/
def signW (h : Cs) : Option Int := if h.take 1 = [45] then (match numW (h.drop 1) with | some n => if n = 0 then none else some (-n) | none => none) else numW h
def lowW : Option Cs → Option Int
  | none => some 1
  | some t => numW t
def fracW (w : Cs) : Option PyData := match signW (cut1 47 w).1, lowW (cut1 47 w).2 with
  | some a, some b => some (.tuple [.int a, .int b])
  | _, _ => none
def shareW (w : Cs) : Option PyData := if w.take 1 = [120] then (numW (w.drop 1)).map fun n => .tuple [.str "x", .int n] else fracW w
/-- the law's own way -/
def lawFrac (w : Cs) : Option PyData :=
  let neg := decide (w.take 1 = [45])
  let bare := if neg = true then w.drop 1 else w
  let parts := splitC 47 bare
  if (decide (2 < parts.length) || (!parts.all isNum || (neg && decide (parts.headD [] = [48])))) = true then none
  else some (.tuple [.int (if bare = w then valN (parts.headD []) else 0 - valN (parts.headD [])), .int (if parts.length = 2 then valN (parts.getD 1 []) else 1)])
theorem cut1_head {c : Nat} : ∀ {w : Cs} {x : Nat}, (cut1 c w).1.head? = some x → w.head? = some x
  | [], _, h => by cases h
  | y :: r, x, h => by
    unfold cut1 at h
    by_cases e : y = c
    · rw [if_pos e] at h
      cases h
    · rw [if_neg e] at h
      exact h
theorem take1 {w : Cs} {x : Nat} : w.take 1 = [x] ↔ w.head? = some x := by
  cases w with
  | nil => simp
  | cons y r => simp
/-- the parts of what is cut at / -/
theorem parts_num (bare : Cs) : (decide (2 < (splitC 47 bare).length) || !(splitC 47 bare).all isNum) = !((numW (cut1 47 bare).1).isSome && (lowW (cut1 47 bare).2).isSome) := by
  have sm : ∀ w, (numW w).isSome = isNum w := fun w => by
    unfold numW
    cases isNum w <;> rfl
  rw [splitC_cut]
  cases q : (cut1 47 bare).2 with
  | none =>
    show (false || !(isNum (cut1 47 bare).1 && true)) = !((numW (cut1 47 bare).1).isSome && true)
    rw [sm, Bool.false_or]
  | some t =>
    show (decide (2 < (splitC 47 t).length + 1) || !(isNum (cut1 47 bare).1 && (splitC 47 t).all isNum)) = !((numW (cut1 47 bare).1).isSome && (numW t).isSome)
    rw [sm, sm]
    by_cases h : 47 ∈ t
    · have l := splitC_long 47 h
      rw [decide_eq_true (show 2 < (splitC 47 t).length + 1 by omega)]
      have : isNum t = false := by
        cases z : isNum t with
        | false => rfl
        | true => exact absurd h (isNum_free z (by omega))
      rw [this, Bool.and_false]
      rfl
    · rw [splitC_free 47 h]
      show (false || !(isNum (cut1 47 bare).1 && (isNum t && true))) = _
      rw [Bool.false_or, Bool.and_true]
theorem parts_at (bare : Cs) : (splitC 47 bare).headD [] = (cut1 47 bare).1 ∧ (47 ∉ (match (cut1 47 bare).2 with | some t => t | none => []) → (splitC 47 bare).length = (match (cut1 47 bare).2 with | some _ => 2 | none => 1) ∧ (splitC 47 bare).getD 1 [] = (match (cut1 47 bare).2 with | some t => t | none => [])) := by
  rw [splitC_cut]
  cases q : (cut1 47 bare).2 with
  | none => exact ⟨rfl, fun _ => ⟨rfl, rfl⟩⟩
  | some t =>
    refine ⟨rfl, fun h => ?_⟩
    have h : 47 ∉ t := h
    show ((cut1 47 bare).1 :: splitC 47 t).length = 2 ∧ ((cut1 47 bare).1 :: splitC 47 t).getD 1 [] = t
    rw [splitC_free 47 h]
    exact ⟨rfl, rfl⟩
theorem lawFrac_eq (w : Cs) : lawFrac w = fracW w := by
  have key : ∀ (neg : Bool) (bare : Cs), (signW (cut1 47 w).1 = if neg = true then (match numW (cut1 47 bare).1 with | some n => if n = 0 then none else some (-n) | none => none) else numW (cut1 47 bare).1) → (cut1 47 w).2 = (cut1 47 bare).2 → ((bare = w) ↔ neg = false) →
      (if (decide (2 < (splitC 47 bare).length) || (!(splitC 47 bare).all isNum || (neg && decide ((splitC 47 bare).headD [] = [48])))) = true then none
        else some (PyData.tuple [.int (if bare = w then valN ((splitC 47 bare).headD []) else 0 - valN ((splitC 47 bare).headD [])), .int (if (splitC 47 bare).length = 2 then valN ((splitC 47 bare).getD 1 []) else 1)])) = fracW w := fun neg bare e1 e2 e3 => by
    obtain ⟨p0, p1⟩ := parts_at bare
    have pn := parts_num bare
    rw [← Bool.or_assoc, pn, p0]
    unfold fracW
    rw [e1, e2]
    generalize (cut1 47 bare).1 = h0 at *
    cases hn : isNum h0 with
    | false =>
      have z : numW h0 = none := by unfold numW; rw [hn]; rfl
      rw [z]
      cases neg <;> rfl
    | true =>
      have z : numW h0 = some (valN h0) := by unfold numW; rw [hn]; rfl
      rw [z]
      cases q : lowW (cut1 47 bare).2 with
      | none =>
        rw [if_pos (by simp)]
        split
        · rename_i a b _ c
          cases c
        · rfl
      | some b =>
        have fr : 47 ∉ (match (cut1 47 bare).2 with | some t => t | none => []) := by
          cases q2 : (cut1 47 bare).2 with
          | none => simp
          | some t =>
            rw [q2] at q
            have q : numW t = some b := q
            unfold numW at q
            cases hz : isNum t with
            | false => rw [hz] at q; cases q
            | true => exact isNum_free hz (by omega)
        obtain ⟨p2, p3⟩ := p1 fr
        have eb : (if (splitC 47 bare).length = 2 then valN ((splitC 47 bare).getD 1 []) else 1) = b := by
          rw [p2, p3]
          cases q2 : (cut1 47 bare).2 with
          | none =>
            rw [q2] at q
            cases q
            rfl
          | some t =>
            rw [q2] at q
            have q : numW t = some b := q
            unfold numW at q
            cases hz : isNum t with
            | false => rw [hz] at q; cases q
            | true =>
              rw [hz] at q
              exact Option.some.inj q
        rw [eb]
        cases neg with
        | false =>
          rw [if_neg (by simp), if_pos (e3.mpr rfl)]
          rfl
        | true =>
          have nb : ¬ bare = w := fun z => by have := e3.mp z; cases this
          rw [if_neg nb]
          by_cases z0 : h0 = [48]
          · rw [if_pos (by rw [decide_eq_true z0]; simp)]
            have : valN h0 = 0 := (val_zero hn).mpr z0
            simp [this]
          · rw [if_neg (by rw [decide_eq_false z0]; simp)]
            have : valN h0 ≠ 0 := fun y => z0 ((val_zero hn).mp y)
            simp [this]
  unfold lawFrac
  by_cases h : w.take 1 = [45]
  · have hw : w = 45 :: w.drop 1 := by
      cases w with
      | nil => cases h
      | cons x r =>
        have : x = 45 := by simpa using h
        rw [this]
        rfl
    have ec : cut1 47 w = (45 :: (cut1 47 (w.drop 1)).1, (cut1 47 (w.drop 1)).2) := by
      conv => lhs; rw [hw]
      exact cut1_cons (by decide)
    have hd : decide (w.take 1 = [45]) = true := decide_eq_true h
    rw [hd]
    refine key true (w.drop 1) ?_ (by rw [ec]) ⟨fun z => ?_, fun z => by cases z⟩
    · rw [ec]
      rfl
    · have := congrArg List.length z
      rw [hw] at this
      simp at this
  · have hd : decide (w.take 1 = [45]) = false := decide_eq_false h
    rw [hd]
    refine key false w ?_ rfl ⟨fun _ => rfl, fun _ => rfl⟩
    unfold signW
    rw [if_neg (fun z => h (take1.mpr (cut1_head (take1.mp z))))]
    rfl
end PT

set_option Elab.async false
set_option linter.all false
set_option maxRecDepth 100000
set_option maxHeartbeats 1000000
/-! ### rows of words, and what they are read as: two ways -/
namespace PT
open PySem SX
def cTanks : Cs := [116, 97, 110, 107, 115]
def cUnk : Cs := [117, 110, 107, 110, 111, 119, 110, 115]
def cFilled : Cs := [102, 105, 108, 108, 101, 100]
def cSeen : Cs := [115, 101, 101, 110]
def cPipe : Cs := [112, 105, 112, 101]
def cOut : Cs := [111, 117, 116]
def oD : Option Int → PyData
  | none => .none
  | some n => .int n
def pipeAt (a b c : Cs) : Option PyData := match numW a, shareW c with
  | some s, some d => if ((numW b).isNone && !decide (b = cOut)) = true then none else some (.tuple [.int s, oD (numW b), d])
  | _, _ => none
/-- what a row of a pipe's words tells -/
def pipeW (ws : List Cs) : Option PyData := match ws with
  | [_, a, b, c] => pipeAt a b c
  | _ => none
def numsW (ws : List Cs) : Option (List Int) := if ws.all isNum = true then some (ws.map valN) else none
def oneN (t : List Cs) : Option Int := match t with
  | [w] => numW w
  | _ => none
/-- the law's sort of a row -/
def sortR (ws : List Cs) : Option (Cs × PyData) := match ws with
  | [] => none
  | h :: t => if (h = cTanks ∨ h = cUnk) then (oneN t).map fun n => (h, .int n)
    else if (h = cFilled ∨ h = cSeen) then (numsW t).map fun ns => (h, .tuple (ns.map .int))
    else if h = cPipe then (pipeW (h :: t)).map fun d => (h, d)
    else none
inductive Rd where
  | row (i : Nat)
  | form (m u : PyData) (ps : List PyData) (f s : PyData)
def wishAt : Nat → Cs
  | 0 => cTanks
  | 1 => cUnk
  | 2 => cFilled
  | _ => cSeen
/-- the law's walk -/
def walkL : List (List Cs) → Nat → Nat → List PyData → List PyData → Rd
  | [], i, k, found, pipes => if k < 4 then .row i else .form (found.getD 0 .none) (found.getD 1 .none) pipes (found.getD 2 .none) (found.getD 3 .none)
  | r :: rs, i, k, found, pipes => match sortR r with
    | none => .row i
    | some (h, d) => if k = 2 ∧ h = cPipe then walkL rs (i + 1) k found (pipes ++ [d]) else if k < 4 ∧ h = wishAt k then walkL rs (i + 1) (k + 1) (found ++ [d]) pipes else .row i
def lawR (rows : List (List Cs)) : Rd := walkL rows 0 0 [] []
/-- the program's way -/
def numsAt (rows : List (List Cs)) (i : Nat) (name : Cs) : Option (List Int) := match rows[i]? with
  | none => none
  | some r => if r.take 1 = [name] then numsW (r.drop 1) else none
def countAt (rows : List (List Cs)) (i : Nat) (name : Cs) : Option Int := match numsAt rows i name with
  | some [n] => some n
  | _ => none
def pipesFrom : List (List Cs) → Nat ⊕ List PyData
  | [] => .inr []
  | r :: rs => if r.take 1 = [cPipe] then (match pipeW r with
      | none => .inl 0
      | some d => match pipesFrom rs with
        | .inl k => .inl (k + 1)
        | .inr ps => .inr (d :: ps)) else .inr []
def tailR (rows : List (List Cs)) (m u : Int) (ps : List PyData) : Rd := match numsAt rows (2 + ps.length) cFilled with
  | none => .row (2 + ps.length)
  | some f => match numsAt rows (2 + ps.length + 1) cSeen with
    | none => .row (2 + ps.length + 1)
    | some s => if 2 + ps.length + 2 < rows.length then .row (2 + ps.length + 2) else .form (.int m) (.int u) ps (.tuple (f.map .int)) (.tuple (s.map .int))
def progR (rows : List (List Cs)) : Rd := match countAt rows 0 cTanks with
  | none => .row 0
  | some m => match countAt rows 1 cUnk with
    | none => .row 1
    | some u => match pipesFrom (rows.drop 2) with
      | .inl k => .row (2 + k)
      | .inr ps => tailR rows m u ps
theorem take_one {r : List Cs} {n : Cs} : r.take 1 = [n] ↔ r.head? = some n := by
  cases r with
  | nil => simp
  | cons y r => simp
def cnt (r : List Cs) (h : Cs) : Option Int := if r.take 1 = [h] then (match numsW (r.drop 1) with | some [n] => some n | _ => none) else none
def nms (r : List Cs) (h : Cs) : Option (List Int) := if r.take 1 = [h] then numsW (r.drop 1) else none
theorem numsW_one (w : Cs) : numsW [w] = (numW w).map fun n => [n] := by
  unfold numsW numW
  rw [List.all_cons, List.all_nil, Bool.and_true]
  cases isNum w <;> rfl
theorem numsW_len {ws : List Cs} {ns : List Int} (h : numsW ws = some ns) : ns.length = ws.length := by
  unfold numsW at h
  split at h
  · cases h
    rw [List.length_map]
  · cases h
theorem sort_fst {r : List Cs} {y : Cs × PyData} (hy : sortR r = some y) : r.head? = some y.1 := by
  cases r with
  | nil => cases hy
  | cons a t =>
    have key : ∀ {α : Type} {o : Option α} {f : α → PyData}, (o.map fun n => (a, f n)) = some y → (a :: t).head? = some y.1 := fun {α o f} h => by
      cases o with
      | none => cases h
      | some n => cases h; rfl
    unfold sortR at hy
    dsimp only at hy
    split at hy
    · exact key hy
    · split at hy
      · exact key (f := fun ns : List Int => .tuple (ns.map .int)) hy
      · split at hy
        · exact key (f := fun d : PyData => d) hy
        · cases hy
theorem one_nums (t : List Cs) : (match numsW t with | some [n] => some n | _ => none) = oneN t := by
  match t with
  | [] => rfl
  | [w] =>
    rw [numsW_one]
    show _ = numW w
    cases q : numW w with
    | none => rfl
    | some n => rfl
  | w :: w2 :: t =>
    show _ = none
    cases q : numsW (w :: w2 :: t) with
    | none => rfl
    | some ns =>
      have l := numsW_len q
      match ns, l with
      | _ :: _ :: _, _ => rfl
theorem sort_cnt {r : List Cs} {h : Cs} (hh : h = cTanks ∨ h = cUnk) : (∃ n, cnt r h = some n ∧ sortR r = some (h, .int n)) ∨ (cnt r h = none ∧ ∀ d, sortR r ≠ some (h, d)) := by
  cases r with
  | nil => exact .inr ⟨rfl, fun d z => by cases z⟩
  | cons a t =>
    by_cases e : a = h
    · subst e
      have e1 : cnt (a :: t) a = oneN t := by
        unfold cnt
        rw [if_pos (show (a :: t).take 1 = [a] from rfl)]
        exact one_nums t
      have e2 : sortR (a :: t) = (oneN t).map fun n => (a, .int n) := by
        unfold sortR
        dsimp only
        rw [if_pos hh]
      rw [e1, e2]
      cases q : oneN t with
      | none => exact .inr ⟨rfl, fun d z => by cases z⟩
      | some n => exact .inl ⟨n, rfl, rfl⟩
    · refine .inr ⟨if_neg (fun z => e (by simpa using z)), fun d z => ?_⟩
      have := sort_fst z
      exact e (Option.some.inj this)
theorem sort_nms {r : List Cs} {h : Cs} (hh : h = cFilled ∨ h = cSeen) : (∃ ns, nms r h = some ns ∧ sortR r = some (h, .tuple (ns.map .int))) ∨ (nms r h = none ∧ ∀ d, sortR r ≠ some (h, d)) := by
  cases r with
  | nil => exact .inr ⟨rfl, fun d z => by cases z⟩
  | cons a t =>
    by_cases e : a = h
    · subst e
      have n1 : ¬ (a = cTanks ∨ a = cUnk) := by rcases hh with rfl | rfl <;> decide
      have e1 : nms (a :: t) a = numsW t := if_pos rfl
      have e2 : sortR (a :: t) = (numsW t).map fun ns => (a, .tuple (ns.map .int)) := by
        unfold sortR
        dsimp only
        rw [if_neg n1, if_pos hh]
      rw [e1, e2]
      cases q : numsW t with
      | none => exact .inr ⟨rfl, fun d z => by cases z⟩
      | some n => exact .inl ⟨n, rfl, rfl⟩
    · refine .inr ⟨if_neg (fun z => e (by simpa using z)), fun d z => ?_⟩
      have := sort_fst z
      exact e (Option.some.inj this)
theorem sort_pipe {r : List Cs} (h : r.take 1 = [cPipe]) : sortR r = (pipeW r).map fun d => (cPipe, d) := by
  cases r with
  | nil => cases h
  | cons a t =>
    have e : a = cPipe := by simpa using h
    subst e
    unfold sortR
    dsimp only
    rw [if_neg (by decide), if_neg (by decide), if_pos rfl]
theorem sort_nopipe {r : List Cs} (h : ¬ r.take 1 = [cPipe]) (d : PyData) : sortR r ≠ some (cPipe, d) := fun z => h (take_one.mpr (sort_fst z))
/-- one step of the walk, where a name is wished for -/
theorem walk_hit {r : List Cs} {rs : List (List Cs)} {i k : Nat} {found pipes : List PyData} {d : PyData} (hk : k < 4) (h : sortR r = some (wishAt k, d)) : walkL (r :: rs) i k found pipes = walkL rs (i + 1) (k + 1) (found ++ [d]) pipes := by
  have n : ¬ (k = 2 ∧ wishAt k = cPipe) := fun z => by
    rw [z.1] at z
    exact absurd z.2 (by decide)
  show (match sortR r with | none => Rd.row i | some (h, d) => if k = 2 ∧ h = cPipe then walkL rs (i + 1) k found (pipes ++ [d]) else if k < 4 ∧ h = wishAt k then walkL rs (i + 1) (k + 1) (found ++ [d]) pipes else .row i) = _
  rw [h]
  show (if k = 2 ∧ wishAt k = cPipe then _ else if k < 4 ∧ wishAt k = wishAt k then _ else _) = _
  rw [if_neg n, if_pos ⟨hk, rfl⟩]
theorem walk_miss {r : List Cs} {rs : List (List Cs)} {i k : Nat} {found pipes : List PyData} (h : ∀ d, sortR r ≠ some (wishAt k, d)) (h2 : k = 2 → ∀ d, sortR r ≠ some (cPipe, d)) : walkL (r :: rs) i k found pipes = .row i := by
  show (match sortR r with | none => Rd.row i | some (h, d) => if k = 2 ∧ h = cPipe then walkL rs (i + 1) k found (pipes ++ [d]) else if k < 4 ∧ h = wishAt k then walkL rs (i + 1) (k + 1) (found ++ [d]) pipes else .row i) = _
  cases q : sortR r with
  | none => rfl
  | some y =>
    obtain ⟨a, d⟩ := y
    show (if k = 2 ∧ a = cPipe then _ else if k < 4 ∧ a = wishAt k then _ else _) = _
    rw [if_neg (fun z => h2 z.1 d (by rw [q, z.2])), if_neg (fun z => h d (by rw [q, z.2]))]
def fin3 (m u : PyData) (ps : List PyData) (f s : List Int) : List (List Cs) → Nat → Rd
  | [], _ => .form m u ps (.tuple (f.map .int)) (.tuple (s.map .int))
  | _ :: _, i => .row (i + 2)
def fin2 (m u : PyData) (ps : List PyData) (f : List Int) : List (List Cs) → Nat → Rd
  | [], i => .row (i + 1)
  | r :: rs, i => match nms r cSeen with
    | none => .row (i + 1)
    | some s => fin3 m u ps f s rs i
def fin (m u : PyData) (ps : List PyData) : List (List Cs) → Nat → Rd
  | [], i => .row i
  | r :: rs, i => match nms r cFilled with
    | none => .row i
    | some f => fin2 m u ps f rs i
theorem fin_none {m u : PyData} {ps : List PyData} {r : List Cs} {rs : List (List Cs)} {i : Nat} (h : nms r cFilled = none) : fin m u ps (r :: rs) i = .row i := by
  show (match nms r cFilled with | none => Rd.row i | some f => fin2 m u ps f rs i) = _
  rw [h]
theorem fin_some {m u : PyData} {ps : List PyData} {r : List Cs} {rs : List (List Cs)} {i : Nat} {f : List Int} (h : nms r cFilled = some f) : fin m u ps (r :: rs) i = fin2 m u ps f rs i := by
  show (match nms r cFilled with | none => Rd.row i | some f => fin2 m u ps f rs i) = _
  rw [h]
theorem fin2_none {m u : PyData} {ps : List PyData} {r : List Cs} {rs : List (List Cs)} {i : Nat} {f : List Int} (h : nms r cSeen = none) : fin2 m u ps f (r :: rs) i = .row (i + 1) := by
  show (match nms r cSeen with | none => Rd.row (i + 1) | some s => fin3 m u ps f s rs i) = _
  rw [h]
theorem fin2_some {m u : PyData} {ps : List PyData} {r : List Cs} {rs : List (List Cs)} {i : Nat} {f s : List Int} (h : nms r cSeen = some s) : fin2 m u ps f (r :: rs) i = fin3 m u ps f s rs i := by
  show (match nms r cSeen with | none => Rd.row (i + 1) | some s => fin3 m u ps f s rs i) = _
  rw [h]
theorem walk_fin (m u : PyData) (ps : List PyData) : ∀ (rs : List (List Cs)) (i : Nat), (∀ r ∈ rs.head?, ¬ r.take 1 = [cPipe]) → walkL rs i 2 [m, u] ps = fin m u ps rs i
  | [], i, _ => rfl
  | r :: rs, i, hp => by
    have np := hp r rfl
    rcases sort_nms (r := r) (h := cFilled) (.inl rfl) with ⟨f, e1, e2⟩ | ⟨e1, e2⟩
    · rw [walk_hit (k := 2) (by decide) e2, fin_some e1]
      cases rs with
      | nil => rfl
      | cons r2 rs2 =>
        rcases sort_nms (r := r2) (h := cSeen) (.inr rfl) with ⟨s, e3, e4⟩ | ⟨e3, e4⟩
        · rw [walk_hit (k := 3) (by decide) e4, fin2_some e3]
          cases rs2 with
          | nil => rfl
          | cons r3 rs3 =>
            show (match sortR r3 with | none => Rd.row (i + 2) | some (h, d) => if (4 : Nat) = 2 ∧ h = cPipe then _ else if (4 : Nat) < 4 ∧ h = wishAt 4 then _ else .row (i + 2)) = Rd.row (i + 2)
            cases q : sortR r3 with
            | none => rfl
            | some y =>
              obtain ⟨a, d⟩ := y
              show (if (4 : Nat) = 2 ∧ a = cPipe then _ else if (4 : Nat) < 4 ∧ a = wishAt 4 then _ else Rd.row (i + 2)) = _
              rw [if_neg (fun z => absurd z.1 (by decide)), if_neg (fun z => absurd z.1 (by decide))]
        · rw [walk_miss (k := 3) e4 (fun z => absurd z (by decide)), fin2_none e3]
    · rw [walk_miss (k := 2) e2 (fun _ => sort_nopipe np), fin_none e1]
theorem walk_pipes (m u : PyData) : ∀ (rs : List (List Cs)) (i : Nat) (acc : List PyData), walkL rs i 2 [m, u] acc = match pipesFrom rs with
    | .inl k => .row (i + k)
    | .inr ps => fin m u (acc ++ ps) (rs.drop ps.length) (i + ps.length)
  | [], i, acc => by
    show _ = fin m u (acc ++ []) [] i
    rfl
  | r :: rs, i, acc => by
    unfold pipesFrom
    by_cases h : r.take 1 = [cPipe]
    · rw [if_pos h]
      have e := sort_pipe h
      cases q : pipeW r with
      | none =>
        rw [q] at e
        show (match sortR r with | none => Rd.row i | some (h, d) => if (2 : Nat) = 2 ∧ h = cPipe then walkL rs (i + 1) 2 [m, u] (acc ++ [d]) else if (2 : Nat) < 4 ∧ h = wishAt 2 then _ else .row i) = _
        rw [e]
        rfl
      | some d =>
        rw [q] at e
        show (match sortR r with | none => Rd.row i | some (h, d) => if (2 : Nat) = 2 ∧ h = cPipe then walkL rs (i + 1) 2 [m, u] (acc ++ [d]) else if (2 : Nat) < 4 ∧ h = wishAt 2 then _ else .row i) = _
        rw [e]
        show (if (2 : Nat) = 2 ∧ cPipe = cPipe then walkL rs (i + 1) 2 [m, u] (acc ++ [d]) else _) = _
        rw [if_pos ⟨rfl, rfl⟩, walk_pipes m u rs (i + 1) (acc ++ [d])]
        cases q2 : pipesFrom rs with
        | inl k =>
          show Rd.row (i + 1 + k) = Rd.row (i + (k + 1))
          congr 1
          omega
        | inr ps =>
          show fin m u (acc ++ [d] ++ ps) (rs.drop ps.length) (i + 1 + ps.length) = fin m u (acc ++ d :: ps) ((r :: rs).drop (ps.length + 1)) (i + (ps.length + 1))
          rw [List.append_assoc, show i + 1 + ps.length = i + (ps.length + 1) by omega]
          rfl
    · rw [if_neg h]
      show _ = fin m u (acc ++ []) ((r :: rs).drop 0) (i + 0)
      rw [List.append_nil]
      exact walk_fin m u acc (r :: rs) i fun x hx => by
        cases hx
        exact h
theorem numsAt_eq (rows : List (List Cs)) (i : Nat) (h : Cs) : numsAt rows i h = match rows[i]? with | none => none | some r => nms r h := rfl
theorem tail_fin {a b : List Cs} {rs : List (List Cs)} {m u : Int} {ps : List PyData} : tailR (a :: b :: rs) m u ps = fin (.int m) (.int u) ps (rs.drop ps.length) (2 + ps.length) := by
  have g : ∀ j, (a :: b :: rs)[2 + ps.length + j]? = (rs.drop ps.length)[j]? := fun j => by
    rw [List.getElem?_drop, show 2 + ps.length + j = (ps.length + j) + 1 + 1 by omega, List.getElem?_cons_succ, List.getElem?_cons_succ]
  have l : (2 + ps.length + 2 < (a :: b :: rs).length) ↔ 2 < (rs.drop ps.length).length := by
    rw [List.length_drop, List.length_cons, List.length_cons]
    omega
  unfold tailR
  rw [numsAt_eq, numsAt_eq, g 1]
  have g0 := g 0
  rw [Nat.add_zero] at g0
  rw [g0]
  generalize rs.drop ps.length = ds at l
  cases ds with
  | nil => rfl
  | cons r ds =>
    show (match nms r cFilled with | none => Rd.row (2 + ps.length) | some f => match (match (r :: ds)[1]? with | none => none | some r => nms r cSeen) with
      | none => Rd.row (2 + ps.length + 1)
      | some s => if 2 + ps.length + 2 < (a :: b :: rs).length then Rd.row (2 + ps.length + 2) else .form (.int m) (.int u) ps (.tuple (f.map .int)) (.tuple (s.map .int))) = _
    cases q : nms r cFilled with
    | none => rw [fin_none q]
    | some f =>
      rw [fin_some q]
      cases ds with
      | nil => rfl
      | cons r2 ds =>
        show (match nms r2 cSeen with
          | none => Rd.row (2 + ps.length + 1)
          | some s => if 2 + ps.length + 2 < (a :: b :: rs).length then Rd.row (2 + ps.length + 2) else .form (.int m) (.int u) ps (.tuple (f.map .int)) (.tuple (s.map .int))) = _
        cases q2 : nms r2 cSeen with
        | none => rw [fin2_none q2]
        | some s =>
          rw [fin2_some q2]
          dsimp only
          cases ds with
          | nil => rw [if_neg (fun z => by have := l.mp z; simp at this)]; rfl
          | cons r3 ds => rw [if_pos (l.mpr (by simp))]; rfl
theorem countAt_eq (rows : List (List Cs)) (i : Nat) (h : Cs) : countAt rows i h = match rows[i]? with | none => none | some r => cnt r h := by
  unfold countAt
  rw [numsAt_eq]
  cases q : rows[i]? with
  | none => rfl
  | some r =>
    show (match nms r h with | some [n] => some n | _ => none) = cnt r h
    unfold nms cnt
    by_cases e : r.take 1 = [h]
    · rw [if_pos e, if_pos e]
    · rw [if_neg e, if_neg e]
/-- both ways read the same -/
theorem read_same (rows : List (List Cs)) : lawR rows = progR rows := by
  unfold lawR progR
  rw [countAt_eq, countAt_eq]
  cases rows with
  | nil => rfl
  | cons a rows =>
    show walkL (a :: rows) 0 0 [] [] = (match cnt a cTanks with | none => Rd.row 0 | some m => _)
    rcases sort_cnt (r := a) (h := cTanks) (.inl rfl) with ⟨m, e1, e2⟩ | ⟨e1, e2⟩
    · rw [walk_hit (k := 0) (by decide) e2, e1]
      cases rows with
      | nil => rfl
      | cons b rs =>
        show walkL (b :: rs) 1 1 [.int m] [] = (match cnt b cUnk with | none => Rd.row 1 | some u => _)
        rcases sort_cnt (r := b) (h := cUnk) (.inr rfl) with ⟨u, e3, e4⟩ | ⟨e3, e4⟩
        · rw [walk_hit (k := 1) (by decide) e4, e3]
          show walkL rs 2 2 [.int m, .int u] [] = (match pipesFrom rs with | .inl k => Rd.row (2 + k) | .inr ps => tailR (a :: b :: rs) m u ps)
          rw [walk_pipes]
          cases pipesFrom rs with
          | inl k => rfl
          | inr ps =>
            show fin _ _ ([] ++ ps) _ _ = tailR (a :: b :: rs) m u ps
            rw [tail_fin, List.nil_append]
        · rw [walk_miss (k := 1) e4 (fun z => absurd z (by decide)), e3]
    · rw [walk_miss (k := 0) e2 (fun z => absurd z (by decide)), e1]
end PT

set_option Elab.async false
set_option linter.all false
set_option maxRecDepth 100000
set_option maxHeartbeats 1000000
/-! ### the law's fractions -/
namespace KP
open PySem PySem.Spec PyProof.Rows L2 KX KT
def spFrac : Sp := fun vs H Q _ => ∃ t l : Int, vs = [.int t, .int l] ∧ 0 < l ∧ l ≤ 1000 ∧ t.natAbs ≤ 1000 ∧ ∀ p, H p = none → Q (.ref p) (upd H p (.tup [.int (t / (Nat.gcd t.natAbs l.natAbs : Nat)), .int (l / (Nat.gcd t.natAbs l.natAbs : Nat))]))
section
variable {P : Program} {w : World} {K : PySem.W.Frag} {mg : Str → Option Value} {base : Heap}
end
end KP

set_option Elab.async false
set_option linter.all false
set_option maxRecDepth 100000
set_option maxHeartbeats 1000000
/-! ### the law's told fractions -/
namespace KP
open PySem PySem.Spec PyProof.Rows L2 KX KT
def spToldL : Sp := fun vs H Q _ => ∃ x d, vs = [x] ∧ Th H x d ∧ ∀ H', Same H H' → Q (.bl (isTold d)) H'
def spPipeL : Sp := fun vs H Q _ => ∃ x d m u, vs = [.int m, .int u, x] ∧ Th H x d ∧ ∀ H', Same H H' → Q (.bl (isPipe m u d)) H'
section
variable {K : PySem.W.Frag} {σ : L2.St} {H : Hp}
theorem isin_tup (d : PyData) : isin (tyN d) "tuple" = decide (tyN d = "tuple") := by cases d <;> simp [isin, tyN]
theorem isin_str (d : PyData) : isin (tyN d) "str" = decide (tyN d = "str") := by cases d <;> simp [isin, tyN]
/-- not isinstance(x, tuple) or len(x) != n -/
theorem ti_shapeL {te : TE} {x : V} {d : PyData} {n : Nat} {m : Int} (hm : m = (n : Int)) (ha : Vi te σ H x) (h : Th H x d) :
    Ti (tOr (tNot (tB (tCB (rIsi K) (tCons te (tCons (tC (.ty "tuple")) tNil))))) (tTest (tOp rNe (tCB (rLen K) (tCons te tNil)) (tC (.int m))))) σ H (!shp n d) := by
  subst hm
  have e : (!shp n d) = ((!isin (tyN d) "tuple") || !decide (lenT d = n)) := by unfold shp; rw [Bool.not_and, isin_tup]
  rw [e]
  refine ti_or (ti_not (ti_val (vi_isi ha h (by simp)))) fun z => ti_test (vi_op (vi_lenT (ai_cons ha ai_nil) h (by rw [isin_tup] at z; simpa using z)) vi_c fun Q q => ⟨rfl, ?_⟩)
  rw [int_dec]
  exact q
theorem i_retCall {t : TA} {tb : TE} {r : R2} {sp : Sp} {E : XK} {vs : List V} {D : Ends} (hA : Ai t σ H vs) (h : sp vs H (fun x H1 => tb σ H1 fun y H2 => r x y H2 D.rt) E) : tRet (tOp r (tCall sp [] E t) tb) D σ H := hA _ (by rw [List.append_nil]; exact h)
theorem vi_at {te : TE} {a : Addr} {xs : List V} {c : Int} {v : V} (ha : Vi te σ H (.ref a)) (e : Rd H a (.tup xs)) (h : atI xs c = some v) : Vi (tOp (rIx K) te (tC (.int c))) σ H v :=
  vi_op ha vi_c fun Q q => .inr (.inl ⟨a, _, c, v, rfl, rfl, SqT.of e, h, q⟩)
end
theorem told_gcd {i j : Int} (h1 : isW (.int i) (-999) 999 = true) (h2 : isW (.int j) 1 999 = true) : isTold (.tuple [.int i, .int j]) = PyData.eqv (.tuple [.int (i / (Nat.gcd i.natAbs j.natAbs : Nat)), .int (j / (Nat.gcd i.natAbs j.natAbs : Nat))]) (.tuple [.int i, .int j]) := by
  simp only [isW, Bool.and_eq_true, decide_eq_true_eq] at h1 h2
  have e1 : isTold (.tuple [.int i, .int j]) = decide (Nat.gcd i.natAbs j.natAbs = 1) := by
    have a1 : decide (0 < j) = true := decide_eq_true (by omega)
    have a2 : decide ((if i < 0 then -i else i) ≤ 999) = true := decide_eq_true (by split <;> omega)
    have a3 : decide (j ≤ 999) = true := decide_eq_true h2.2
    simp [isTold, isR, shp, ith, ratio2, small2, tyN, lenT, a1, a2, a3]
  rw [e1]
  simp only [PyData.eqv, PyData.eqvAll, Bool.and_true]
  have hg : 0 < Nat.gcd i.natAbs j.natAbs := Nat.gcd_pos_of_pos_right _ (by omega)
  by_cases c : Nat.gcd i.natAbs j.natAbs = 1
  · rw [decide_eq_true c]
    simp [c]
  · rw [decide_eq_false c]
    have : j / (Nat.gcd i.natAbs j.natAbs : Nat) < j := Int.ediv_lt_of_lt_mul (by omega) (by
      have : (2 : Int) ≤ (Nat.gcd i.natAbs j.natAbs : Nat) := by omega
      have h3 : j * 2 ≤ j * (Nat.gcd i.natAbs j.natAbs : Nat) := Int.mul_le_mul_of_nonneg_left this (by omega)
      omega)
    have e : ((j / (Nat.gcd i.natAbs j.natAbs : Nat)) == j) = false := beq_eq_false_iff_ne.mpr (by omega)
    rw [e, Bool.and_false]
theorem told_bad {a b : PyData} (h : (!isW a (-999) 999 || !isW b 1 999) = true) : isTold (.tuple [a, b]) = false := by
  cases c : isTold (.tuple [a, b]) with
  | false => rfl
  | true =>
    simp only [isTold, isR, Bool.and_eq_true] at c
    obtain ⟨⟨_, c1⟩, c2⟩ := c
    have c1 : ratio2 a b = true := c1
    have c2 : small2 a b = true := c2
    cases a with
    | int i =>
      cases b with
      | int j =>
        simp only [ratio2, small2, Bool.and_eq_true, decide_eq_true_eq] at c1 c2
        have e1 : isW (.int i) (-999) 999 = true := by
          simp only [isW, Bool.and_eq_true, decide_eq_true_eq]
          have := c2.1
          split at this <;> omega
        have e2 : isW (.int j) 1 999 = true := by
          simp only [isW, Bool.and_eq_true, decide_eq_true_eq]
          omega
        rw [e1, e2] at h
        cases h
      | _ => simp [ratio2] at c1
    | _ => cases b <;> simp [ratio2] at c1
theorem pair_shaped (i j : Int) : SeqAt.shaped (.tuple [.int i, .int j]) = true := by simp [SeqAt.shaped, PyData.canLay0, PyData.canLayAll0, PyData.depth, PyData.depthAll]
section
variable {P : Program} {w : World} {K : PySem.W.Frag} {mg : Str → Option Value} {base : Heap}
end
end KP

set_option Elab.async false
set_option linter.all false
set_option maxRecDepth 100000
set_option maxHeartbeats 1000000
/-! ### the law's pipes -/
namespace KP
open PySem PySem.Spec PyProof.Rows L2 KX KT
section
variable {K : PySem.W.Frag} {σ : L2.St} {H : Hp}
theorem eqI_dec {i : Int} {x : V} {d : PyData} (h : Th H x d) {j : Int} (e : d = .int j) : decide (x = V.int i) = eqI d (.int i) := by
  subst e
  cases h
  simp [eqI]
end
section
variable {P : Program} {w : World} {K : PySem.W.Frag} {mg : Str → Option Value} {base : Heap}
end
end KP

set_option Elab.async false
set_option linter.all false
set_option maxRecDepth 100000
set_option maxHeartbeats 1000000
/-! ### the law's tanks -/
namespace KP
open PySem PySem.Spec PyProof.Rows L2 KX KT
/-- a tuple beside the empty one -/
def rEq0 : R2 := fun x y H Q => ∃ a b xs, x = .ref a ∧ y = .ref b ∧ Rd H a (.tup xs) ∧ H b = some (.tup []) ∧ Q (.bl (decide (xs.length = 0))) H
theorem op_eq0 {X : Cx} (hu : X.A.units < cLine) : OpR X (compareOp .Eq) rEq0 := fun pins s σ H x y v u Q I rx ry ⟨a, b, xs, ex, ey, ha, hb, q⟩ => by
  subst ex ey
  cases (show v = Value.ref a from rx)
  cases (show u = Value.ref b from ry)
  obtain ⟨us, r1, p1, _⟩ := I.tuple (KX.SqT.of ha)
  obtain ⟨ws, r2, p2, _⟩ := I.tuple (L2.SqT.of hb)
  have l1 := r1.length
  have l2 := r2.length
  have l3 : ws.toArray.size = 0 := by
    rw [List.size_toArray, ← l2]
    rfl
  refine SeqAt.eq_tupleAt (e := fun _ => true) (show s.heap.IsTuple a us.toArray from p1) (show s.heap.IsTuple b ws.toArray from p2) hu (fun j h1 h2 => ?_) ⟨.bl _, H, I, ?_, q⟩
  · rw [l3] at h2
    exact absurd h2 (Nat.not_lt_zero _)
  · show Value.bool _ = Value.bool _
    congr 1
    rw [l3, Nat.min_zero, List.range_zero, List.all_nil, Bool.true_and, List.size_toArray, ← l1]
    by_cases c : xs.length = 0
    · rw [c]; rfl
    · rw [decide_eq_false c]
      exact beq_eq_false_iff_ne.mpr c
def areTL (m : Int) (d : PyData) : Bool := decide (tyN d = "tuple") && (!decide (lenT d = 0) && ((itms d).all (fun e => isW e 0 (m - 1)) && ascB (itms d)))
theorem asc_low {m : Int} {ds : List PyData} (h : ds.all (fun e => isW e 0 (m - 1)) = true) (ha : ascB ds = true) : ∀ i : Nat, i < ds.length → ∃ j : Int, ds.getD i .none = .int j ∧ (i : Int) ≤ j ∧ j ≤ m - 1 := by
  intro i
  induction i with
  | zero =>
    intro hi
    have e : ds.getD 0 .none = ds[0] := by rw [List.getD_eq_getElem?_getD, List.getElem?_eq_getElem hi]; rfl
    have z := List.all_eq_true.mp h ds[0] (List.getElem_mem hi)
    obtain ⟨j, hj⟩ := isW_data z
    rw [hj] at z e
    simp only [isW, Bool.and_eq_true, decide_eq_true_eq] at z
    exact ⟨j, e, z.1, z.2⟩
  | succ i ih =>
    intro hi
    obtain ⟨j0, e0, h0, _⟩ := ih (by omega)
    have e : ds.getD (i + 1) .none = ds[i + 1] := by rw [List.getD_eq_getElem?_getD, List.getElem?_eq_getElem hi]; rfl
    have z := List.all_eq_true.mp h ds[i + 1] (List.getElem_mem hi)
    obtain ⟨j, hj⟩ := isW_data z
    rw [hj] at z e
    simp only [isW, Bool.and_eq_true, decide_eq_true_eq] at z
    have q := List.all_eq_true.mp ha i (List.mem_range.mpr (by omega))
    rw [e0, e] at q
    have q : j0 < j := of_decide_eq_true q
    exact ⟨j, e, by omega, z.2⟩
theorem areT_same (m : Int) (d : PyData) : areTL m d = areT m d := by
  cases d with
  | tuple ds =>
    have e1 : areTL m (.tuple ds) = (!decide (ds.length = 0) && (ds.all (fun e => isW e 0 (m - 1)) && ascB ds)) := by
      unfold areTL
      have e0 : decide (tyN (.tuple ds) = "tuple") = true := decide_eq_true rfl
      rw [e0, Bool.true_and]
      rfl
    have e2 : areT m (.tuple ds) = ((decide (1 ≤ (ds.length : Int)) && decide ((ds.length : Int) ≤ m)) && (ds.all (fun e => isW e 0 (m - 1)) && ascB ds)) := by
      unfold areT
      have e0 : decide (tyN (.tuple ds) = "tuple") = true := decide_eq_true rfl
      rw [e0, Bool.true_and]
      rfl
    rw [e1, e2]
    cases h : ds.all (fun e => isW e 0 (m - 1)) with
    | false => simp
    | true =>
      cases ha : ascB ds with
      | false => simp
      | true =>
        simp only [Bool.and_true]
        by_cases c : ds.length = 0
        · rw [decide_eq_true c, decide_eq_false (show ¬ (1 : Int) ≤ (ds.length : Int) by omega)]
          rfl
        · obtain ⟨j, _, h1, h2⟩ := asc_low h ha (ds.length - 1) (by omega)
          rw [decide_eq_false c, decide_eq_true (show (1 : Int) ≤ (ds.length : Int) by omega), decide_eq_true (show (ds.length : Int) ≤ m by omega)]
          rfl
  | _ => simp [areTL, areT, tyN]
def spTanksL : Sp := fun vs H Q _ => ∃ x d m, vs = [.int m, x] ∧ Th H x d ∧ lenT d ≤ 2000 ∧ ∀ H', Same H H' → Q (.bl (areT m d)) H'
end KP

set_option Elab.async false
set_option linter.all false
set_option maxRecDepth 100000
set_option maxHeartbeats 1000000
/-! ### readings behind which the heap has only grown; all([.. for x in tuple]) -/
namespace KP
open PySem PySem.Spec PyProof.Rows L2 KX KT
section
variable {K : PySem.W.Frag} {σ : L2.St} {H : Hp}
theorem vg_eq0 {te : TE} {a : Addr} {xs : List V} (h : Vi te σ H (.ref a)) (e : Rd H a (.tup xs)) : Vg (tOp rEq0 te (tTup tNil)) σ H (.bl (decide (xs.length = 0))) := fun Q q => h _
  ⟨Nat.zero_le _, fun p hp => ⟨a, p, xs, rfl, rfl, (same_upd hp).rd e, upd_same, q _ (same_upd hp)⟩⟩
end
section
variable {P : Program} {w : World} {K : PySem.W.Frag} {mg : Str → Option Value} {base : Heap}
end
end KP

set_option Elab.async false
set_option linter.all false
set_option maxRecDepth 100000
set_option maxHeartbeats 1000000
/-! ### the law's own look at nets -/
namespace KP
open PySem PySem.Spec PyProof.Rows L2 KX KT
def spNetL : Sp := fun vs H Q _ => ∃ x d, vs = [x] ∧ Th H x d ∧ lenT (ith 3 d) ≤ 2000 ∧ lenT (ith 4 d) ≤ 2000 ∧ ∀ H', Same H H' → Q (.bl (isNet d)) H'
theorem any_not {l : List Nat} {p : Nat → Bool} : l.any p = !(l.all fun i => !p i) := by
  induction l with
  | nil => rfl
  | cons a l ih => rw [List.any_cons, List.all_cons, ih, Bool.not_and, Bool.not_not]
section
variable {P : Program} {w : World} {K : PySem.W.Frag} {mg : Str → Option Value} {base : Heap}
abbrev nNet : List Str := ["thing", "many", "unknowns", "pipes", "filled", "seen", "pipe", "at"]
end
end KP

set_option Elab.async false
set_option linter.all false
set_option maxRecDepth 100000
set_option maxHeartbeats 4000000
/-! ### number_from and the law's own -/
namespace KP
open PySem PySem.Spec PyProof.Rows L2 KX KT KJ KS FR PT SX
theorem litEq (w : Cs) (x : Str) : decide (V.str (S w) = V.str x) = decide (w = x.cps.toList) := by
  rw [Bool.eq_iff_iff, decide_eq_true_iff, decide_eq_true_iff]
  constructor
  · intro h
    have := V.str.inj h
    rw [← this]
  · intro h
    rw [h, S_tl]
def oV : Option Int → V
  | none => .non
  | some n => .int n
theorem oV_th (H : Hp) (o : Option Int) : Th H (oV o) (oD o) := by
  cases o with
  | none => exact .non
  | some n => exact .int n
structure TxN (K : PySem.W.Frag) (mg : Str → Option Value) : Prop extends TxD mg where
  fig : ∃ t, mg "FIGURES" = some (.str "0123456789" t)
theorem fig_dig (c : Nat) : decide (c ∈ ("0123456789" : Str).cps.toList) = dig c := by
  have e : ("0123456789" : Str).cps.toList = [48, 49, 50, 51, 52, 53, 54, 55, 56, 57] := by decide +kernel
  rw [e, Bool.eq_iff_iff, decide_eq_true_iff]
  unfold dig
  rw [Bool.and_eq_true, decide_eq_true_iff, decide_eq_true_iff]
  simp only [List.mem_cons, List.not_mem_nil, or_false]
  omega
theorem empty_cs : ("" : Str).cps.toList = [] := by decide +kernel
theorem nought_cs : ("0" : Str).cps.toList = [48] := by decide +kernel
def spNumber (Ps : List Addr) : Sp := fun vs H Q _ => ∃ w : Cs, vs = [.str (S w)] ∧ w.length ≤ 640 ∧ Tbs Ps H ∧ ∀ H', Grown Ps H H' → Q (oV (numW w)) H'
section
variable {P : Program} {w : World} {K : PySem.W.Frag} {mg : Str → Option Value} {base : Heap}
theorem shaped_strs (ws : List Cs) (h : ∀ w ∈ ws, ∀ c ∈ w, c < 128) : SeqAt.shaped (.list (ws.map fun w => PyData.str (S w))) = true := by
  have a : ∀ ws : List Cs, (∀ w ∈ ws, ∀ c ∈ w, c < 128) → PyData.canLayAll0 (ws.map fun w => PyData.str (S w)) = true := fun ws => by
    induction ws with
    | nil => exact fun _ => rfl
    | cons w ws ih =>
      intro h
      simp only [List.map_cons, PyData.canLayAll0, Bool.and_eq_true]
      refine ⟨?_, ih fun w' hw' => h w' (List.mem_cons_of_mem _ hw')⟩
      simp only [PyData.canLay0, PyData.strOk]
      rw [← Array.all_toList, List.all_eq_true]
      intro c hc
      have := h w List.mem_cons_self c hc
      exact decide_eq_true (by omega)
  refine shaped_of (by simpa only [PyData.canLay0] using a ws h) ?_
  simp only [PyData.depth]
  have := depthAll_of (n := 1) (ds := ws.map fun w => PyData.str (S w)) fun d hd => by
    obtain ⟨w, _, rfl⟩ := List.mem_map.mp hd
    simp [PyData.depth]
  omega
/-- the law's own look at figures -/
def spDigits (K : PySem.W.Frag) : Sp := fun vs H Q _ => ∃ w : Cs, vs = [.str (S w)] ∧ w.length ≤ 640 ∧ (∀ c ∈ w, c < 128) ∧ ∀ H', Same H H' → Q (.bl (isNum w)) H'
end
end KP

set_option Elab.async false
set_option linter.all false
set_option maxRecDepth 100000
set_option maxHeartbeats 4000000
/-! ### words, shares and pipes as the program reads them -/
namespace KP
open PySem PySem.Spec PyProof.Rows L2 KX KT KJ KS FR PT SX
theorem cut_take (w : Cs) : cutS (S w) none (some 1) = S (w.take 1) := by
  unfold cutS
  rw [HT.sIx_none, show (1 : Int) = ((1 : Nat) : Int) from rfl, HT.sIx_nat, S_len]
  show S (((w.drop 0).take (min 1 w.length - 0))) = S (w.take 1)
  rw [List.drop_zero]
  cases w with
  | nil => rfl
  | cons a r => rw [show min 1 (a :: r).length - 0 = 1 by simp only [List.length_cons]; omega]
theorem cut_drop (w : Cs) : cutS (S w) (some 1) none = S (w.drop 1) := by
  unfold cutS
  rw [HT.sIx_none, show (1 : Int) = ((1 : Nat) : Int) from rfl, HT.sIx_nat, S_len]
  show S (((w.drop (min 1 w.length)).take (w.length - min 1 w.length))) = S (w.drop 1)
  cases w with
  | nil => rfl
  | cons a r =>
    rw [show min 1 (a :: r).length = 1 by simp only [List.length_cons]; omega]
    rw [List.take_of_length_le (by rw [List.length_drop]; exact Nat.le_refl _)]
def OTh (H : Hp) (v : V) : Option PyData → Prop
  | none => v = .non
  | some d => Th H v d
theorem OTh.mono {H H' : Hp} (s : Sm H H') {v : V} {o : Option PyData} (h : OTh H v o) : OTh H' v o := by
  cases o with
  | none => exact h
  | some d => exact Th.mono s h
theorem OTh.non {H : Hp} {v : V} {o : Option PyData} (h : OTh H v o) (hn : ∀ d, o = some d → d ≠ .none) : decide (v = .non) = o.isNone := by
  cases o with
  | none => exact decide_eq_true h
  | some d =>
    refine decide_eq_false fun z => ?_
    have h : Th H v d := h
    rw [z] at h
    cases h
    exact hn _ rfl rfl
theorem frac_tup {w : Cs} {d : PyData} (h : fracW w = some d) : d ≠ .none := by
  unfold fracW at h
  split at h
  · cases h
    exact fun z => by cases z
  · cases h
theorem share_tup {w : Cs} {d : PyData} (h : shareW w = some d) : d ≠ .none := by
  unfold shareW at h
  split at h
  · cases q : numW (w.drop 1) with
    | none => rw [q] at h; cases h
    | some n => rw [q] at h; cases h; exact fun z => by cases z
  · exact frac_tup h
def spSigned (Ps : List Addr) : Sp := fun vs H Q _ => ∃ w : Cs, vs = [.str (S w)] ∧ w.length ≤ 640 ∧ Tbs Ps H ∧ ∀ H', Grown Ps H H' → Q (oV (signW w)) H'
def spRead (Ps : List Addr) (g : Cs → Option PyData) : Sp := fun vs H Q _ => ∃ w : Cs, vs = [.str (S w)] ∧ w.length ≤ 640 ∧ Tbs Ps H ∧ ∀ v H', Grown Ps H H' → OTh H' v (g w) → Q v H'
section
variable {K : PySem.W.Frag} {σ : L2.St} {H : Hp}
theorem small_w {w : Cs} (h : w.length ≤ 640) : (S w).length ≤ sizeLine := by
  rw [S_len, sizeLine_eq]
  omega
theorem vi_take1 {te : TE} {w : Cs} (h : Vi te σ H (.str (S w))) (hl : w.length ≤ 640) : Vi (tSl rSlS te tNoPart (tPart (tC (.int 1)))) σ H (.str (S (w.take 1))) := fun Q q => h _ ⟨1, rfl, S w, rfl, small_w hl, by rw [cut_take]; exact q⟩
theorem vi_drop1 {te : TE} {w : Cs} (h : Vi te σ H (.str (S w))) (hl : w.length ≤ 640) : Vi (tSl rSlS te (tPart (tC (.int 1))) tNoPart) σ H (.str (S (w.drop 1))) := fun Q q => h _ ⟨1, rfl, S w, rfl, small_w hl, by rw [cut_drop]; exact q⟩
theorem vi_eqS {ta : TE} {w l : Cs} {x : Str} (h : Vi ta σ H (.str (S w))) (e : x.cps.toList = l) : Vi (tOp rEq ta (tC (.str x))) σ H (.bl (decide (w = l))) := vi_op h vi_c fun Q q => ⟨rfl, by rw [litEq, e]; exact q⟩
theorem vi_neS {ta : TE} {w l : Cs} {x : Str} (h : Vi ta σ H (.str (S w))) (e : x.cps.toList = l) : Vi (tOp rNe ta (tC (.str x))) σ H (.bl (!decide (w = l))) := vi_op h vi_c fun Q q => ⟨rfl, by rw [litEq, e]; exact q⟩
theorem vi_isN {ta : TE} {v : V} {b : Bool} (h : Vi ta σ H v) (e : decide (v = .non) = b) : Vi (tOp (fun x y H Q => y = .non ∧ Q (.bl (decide (x = .non))) H) ta (tC .non)) σ H (.bl b) := vi_op h vi_c fun Q q => ⟨rfl, by rw [e]; exact q⟩
end
theorem i_setCall {sp : Sp} {E : XK} {ta : TA} {tz : TS} {D : Ends} {σ : L2.St} {H : Hp} {i : Nat} {vs : List V} (h : Ai ta σ H vs) (k : sp vs H (fun v H' => tz D (σ.set i (some v)) H') E) : tSeq (tAsg (tCall sp [] E ta) (gName i)) tz D σ H := h _ (by rw [List.append_nil]; exact k)
theorem oV_non (o : Option Int) : decide (oV o = .non) = o.isNone := by
  cases o <;> rfl
theorem dash_cs : ("-" : Str).cps.toList = [45] := by decide +kernel
theorem slash_cs : ("/" : Str).cps.toList = [47] := by decide +kernel
theorem x_cs : ("x" : Str).cps.toList = [120] := by decide +kernel
theorem out_cs : ("out" : Str).cps.toList = cOut := by decide +kernel
section
variable {P : Program} {w : World} {K : PySem.W.Frag} {mg : Str → Option Value} {base : Heap}
theorem cut1_len (c : Nat) : ∀ w : Cs, (cut1 c w).1.length ≤ w.length ∧ ∀ t, (cut1 c w).2 = some t → t.length ≤ w.length
  | [] => ⟨Nat.le_refl _, fun t z => by cases z⟩
  | x :: r => by
    obtain ⟨a, b⟩ := cut1_len c r
    by_cases e : x = c
    · rw [cut1_hit e]
      exact ⟨Nat.zero_le _, fun t z => by cases z; exact Nat.le_succ _⟩
    · rw [cut1_cons e]
      exact ⟨Nat.succ_le_succ a, fun t z => Nat.le_succ_of_le (b t z)⟩
end
end KP

set_option Elab.async false
set_option linter.all false
set_option maxRecDepth 100000
set_option maxHeartbeats 4000000
/-! ### rows of words -/
namespace KP
open PySem PySem.Spec PyProof.Rows L2 KX KT KJ KS FR PT SX
def sL (ws : List Cs) : List V := ws.map fun w => V.str (S w)
theorem sL_at {ws : List Cs} {i : Nat} {v : V} (h : (sL ws)[i]? = some v) : ∃ w, ws[i]? = some w ∧ v = .str (S w) := by
  unfold sL at h
  rw [List.getElem?_map] at h
  cases q : ws[i]? with
  | none => rw [q] at h; cases h
  | some w => rw [q] at h; cases h; exact ⟨w, rfl, rfl⟩
theorem sL_len (ws : List Cs) : (sL ws).length = ws.length := List.length_map _
/-- a list of words -/
def Wds (H : Hp) (v : V) (ws : List Cs) : Prop := ∃ a, v = .ref a ∧ H a = some (.lst (sL ws))
def wordsW (r : Cs) : List Cs := (splitC 32 r).filter fun w => !decide (w = [])
theorem splitC_len (c : Nat) : ∀ w : Cs, (splitC c w).length ≤ w.length + 1
  | [] => Nat.le_refl _
  | x :: r => by
    have ih := splitC_len c r
    by_cases e : x = c
    · rw [splitC_hit e, List.length_cons, List.length_cons]
      omega
    · rw [splitC_miss e]
      cases q : splitC c r with
      | nil => simp
      | cons p ps =>
        rw [q] at ih
        simp only [List.length_cons] at ih ⊢
        omega
theorem splitC_part (c : Nat) : ∀ (w p : Cs), p ∈ splitC c w → p.length ≤ w.length ∧ ∀ x ∈ p, x ∈ w
  | [], p, h => by
    rw [List.mem_singleton.mp h]
    exact ⟨Nat.le_refl _, fun x hx => hx⟩
  | y :: r, p, h => by
    by_cases e : y = c
    · rw [splitC_hit e] at h
      rcases List.mem_cons.mp h with rfl | h
      · exact ⟨Nat.zero_le _, fun x hx => by cases hx⟩
      · obtain ⟨a, b⟩ := splitC_part c r p h
        exact ⟨Nat.le_succ_of_le a, fun x hx => List.mem_cons_of_mem _ (b x hx)⟩
    · rw [splitC_miss e] at h
      cases q : splitC c r with
      | nil =>
        rw [q] at h
        rw [List.mem_singleton.mp h]
        exact ⟨by simp, fun x hx => by rw [List.mem_singleton.mp hx]; exact List.mem_cons_self⟩
      | cons p0 ps =>
        rw [q] at h
        rcases List.mem_cons.mp h with rfl | h
        · obtain ⟨a, b⟩ := splitC_part c r p0 (by rw [q]; exact List.mem_cons_self)
          refine ⟨Nat.succ_le_succ a, fun x hx => ?_⟩
          rcases List.mem_cons.mp hx with rfl | hx
          · exact List.mem_cons_self
          · exact List.mem_cons_of_mem _ (b x hx)
        · obtain ⟨a, b⟩ := splitC_part c r p (by rw [q]; exact List.mem_cons_of_mem _ h)
          exact ⟨Nat.le_succ_of_le a, fun x hx => List.mem_cons_of_mem _ (b x hx)⟩
theorem blank_eq : (" " : Str) = S [32] := by decide +kernel
theorem nl_eq : ("\n" : Str) = S [10] := by decide +kernel
section
variable {K : PySem.W.Frag} {σ : L2.St} {H : Hp}
/-- [word for word in row.split(" ") if word != ""] -/
theorem lc_words {te : TE} {j : Nat} {vs : List Nat} {r : Cs} {Q : VK} (h : Vi te σ H (.str (S r))) (hl : r.length ≤ 100000)
    (hw : ∀ x : V, wipe ((wipe σ vs).set j (some x)) vs = wipe σ vs) (hj : ∀ x : V, ((wipe σ vs).set j (some x))[j]? = some (some x)) (k : ∀ a H', H a = none → Same H H' → H' a = some (.lst (sL (wordsW r))) → Q (.ref a) H') :
    tLc (iList K (tM1 (fun x xs H Q => ∃ a b, x = .str a ∧ xs = [.str b] ∧ (b.length == 0) = false ∧ a.length + 2 ≤ sizeLine ∧ rNewStrs (Txt.split a b) H Q) te (tC (.str " ")))) (gName j) (tTest (tOp rNe (tVar j) (tC (.str ""))))
      (tVar j) vs σ H Q := by
  refine h _ ⟨⟨_, rfl⟩, S r, " ", rfl, rfl, rfl, ?_, fun p hp => ?_⟩
  · rw [S_len]
    exact Nat.le_trans (show _ ≤ 100002 by omega) (by decide)
  have es : (Txt.split (S r) " ").map V.str = sL (splitC 32 r) := by
    rw [blank_eq, split_eq (by decide), List.map_map]
    rfl
  rw [es]
  refine ⟨p, rfl, ⟨_, SqL.of upd_same⟩, fun D hD => ?_⟩
  have hpD : p ≠ D := fun z => by rw [z, upd_same] at hD; cases hD
  have hlen := splitC_len 32 r
  refine lc_it (walk_list (K := K) (a := p) (xs := sL (splitC 32 r))) (fun n H' => Same (upd H p (.lst (sL (splitC 32 r)))) H' ∧ H' D = some (.lst (sL (((splitC 32 r).take n).filter fun w => !decide (w = []))))) ⟨same_upd hD, upd_same⟩ (fun n H' _ z => SqL.of (z.1 _ _ upd_same)) ?_ ?_
  · rintro i x _ H' hi ⟨s, e⟩ ⟨rfl, hx⟩
    obtain ⟨w, hw', rfl⟩ := sL_at hx
    refine ⟨hw _, ?_⟩
    refine ⟨_, hj _, rfl, _, rfl, ?_⟩
    rw [litEq, empty_cs]
    have eq : (splitC 32 r).take (i + 1) = (splitC 32 r).take i ++ [w] := by rw [List.take_add_one, hw']; rfl
    rw [eq, List.filter_append]
    refine iteB (fun c => ?_) (fun c => ?_)
    · refine ⟨_, hj _, _, e, ?_, same_put s hD, ?_⟩
      · have := List.length_filter_le (fun w : Cs => !decide (w = [])) ((splitC 32 r).take i)
        rw [List.length_take] at this
        rw [sL_len]
        exact Nat.lt_of_le_of_lt (show _ ≤ 100001 by omega) (by decide)
      · rw [upd_same, List.filter_cons_of_pos (p := fun w : Cs => !decide (w = [])) c]
        unfold sL
        rw [List.map_append]
        rfl
    · refine ⟨s, ?_⟩
      rw [e, List.filter_cons_of_neg (p := fun w : Cs => !decide (w = [])) (by rw [c]; decide), List.filter_nil, List.append_nil]
  · rintro H' ⟨s, e⟩
    rw [sL_len, List.take_length] at e
    exact k D H' (none_same (same_upd hp) hD) ((same_upd hp).trans s) e
end
def spWords (K : PySem.W.Frag) : Sp := fun vs H Q _ => ∃ r : Cs, vs = [.str (S r)] ∧ r.length ≤ 100000 ∧ ∀ a H', H a = none → Same H H' → H' a = some (.lst (sL (wordsW r))) → Q (.ref a) H'
def spPipeFrom (K : PySem.W.Frag) (Ps : List Addr) : Sp := fun vs H Q _ => ∃ (v : V) (ws : List Cs), vs = [v] ∧ Wds H v ws ∧ (∀ w ∈ ws, w.length ≤ 640) ∧ Tbs Ps H ∧ ∀ v H', Grown Ps H H' → OTh H' v (pipeW ws) → Q v H'
theorem lst_sm {H H' : Hp} {a : Addr} {xs : List V} (s : Sm H H') (h : H a = some (.lst xs)) : H' a = some (.lst xs) := s _ _ h fun _ z => by cases z
theorem Wds.sm {H H' : Hp} {v : V} {ws : List Cs} (s : Sm H H') (h : Wds H v ws) : Wds H' v ws := by
  obtain ⟨a, rfl, q⟩ := h
  exact ⟨a, rfl, lst_sm s q⟩
theorem vi_word {K : PySem.W.Frag} {σ : L2.St} {H : Hp} {te : TE} {a : Addr} {ws : List Cs} {n : Nat} {w : Cs} (h : Vi te σ H (.ref a)) (e : H a = some (.lst (sL ws))) (hn : ws[n]? = some w) : Vi (tOp (rIx K) te (tC (.int (n : Nat)))) σ H (.str (S w)) :=
  vi_op h vi_c fun Q q => .inl ⟨a, _, n, _, rfl, rfl, SqL.of e, by
    obtain ⟨hlt, he⟩ := List.getElem?_eq_some_iff.mp hn
    unfold atI sL ixN
    simp [hlt, he], q⟩
theorem a_call {sp : Sp} {E : XK} {t : TA} {σ : L2.St} {H : Hp} {Q : VK} {vs : List V} (h : Ai t σ H vs) (k : sp vs H Q E) : tCall sp [] E t σ H Q := h _ (by rw [List.append_nil]; exact k)
section
variable {P : Program} {w : World} {K : PySem.W.Frag} {mg : Str → Option Value} {base : Heap}
end
end KP

set_option Elab.async false
set_option linter.all false
set_option maxRecDepth 100000
set_option maxHeartbeats 4000000
/-! ### whether a thing is a polynomial -/
namespace QD
open PySem PySem.Spec PyProof.Rows L2 KX KP QR
abbrev sIsFrac : Stmt := top 21
abbrev sIsPoly : Stmt := top 22
abbrev sIsTerm : Stmt := top 23
abbrev sNeedMany : Stmt := top 25
def nought : PyData := .tuple [.int 0, .int 1]
def sumD : List PyData → Int
  | [] => 0
  | .int i :: ds => i + sumD ds
  | _ :: ds => sumD ds
def intsD : List PyData → List Int
  | [] => []
  | .int i :: ds => i :: intsD ds
  | _ :: ds => intsD ds
def isTerm (n : Int) (d : PyData) : Bool := shp 2 d && ((decide (tyN (ith 0 d) = "tuple") && decide ((lenT (ith 0 d) : Int) = n)) && ((itms (ith 0 d)).all (fun e => isW e 0 40) && (decide ((intsD (itms (ith 0 d))).sum ≤ 40) && (isR (ith 1 d) && !PyData.eqv (ith 1 d) nought))))
/-- the monomial of a term -/
def monD (d : PyData) : List Int := intsD (itms (ith 0 d))
def descB (ds : List PyData) : Bool := (List.range (ds.length - 1)).all fun i => gtM (monD (ds.getD i .none)) (monD (ds.getD (i + 1) .none))
def isPoly (n : Int) (d : PyData) : Bool := decide (tyN d = "tuple") && (decide ((lenT d : Int) ≤ 600) && ((itms d).all (isTerm n) && descB (itms d)))
def spNeedMany : Sp := fun vs H Q _ => ∃ n : Int, vs = [.int n] ∧ 0 ≤ n ∧ n ≤ 4 ∧ Q .non H
def spTerm (K : PySem.W.Frag) (Ps : List Addr) : Sp := fun vs H Q _ => ∃ x d n, vs = [.int n, x] ∧ 0 ≤ n ∧ n ≤ 4 ∧ Dk K H x d ∧ Tbs Ps H ∧ ∀ H', Grown Ps H H' → Q (.bl (isTerm n d)) H'
def spPoly (K : PySem.W.Frag) (Ps : List Addr) : Sp := fun vs H Q _ => ∃ x d n, vs = [.int n, x] ∧ 0 ≤ n ∧ n ≤ 4 ∧ Dk K H x d ∧ Tbs Ps H ∧ ∀ H', Grown Ps H H' → Q (.bl (isPoly n d)) H'
theorem all_vk {K : PySem.W.Frag} {Ps : List Addr} {P a : Addr} {i0 j : Nat} {te : TE} {vs : List Nat} {σ : L2.St} {H : Hp} {Q : VK} {xs : List V} {ds : List PyData} {pd : PyData → Bool} (h0 : σ[i0]? = some (some (.ref a))) (hx : SqT K H a xs) (hd : DkAll K H xs ds) (ht : Tbs Ps H) (hP : P ∈ Ps)
    (hw : ∀ x : V, wipe ((wipe σ vs).set j (some x)) vs = wipe σ vs) (he : ∀ H2 x d, Dk K H2 x d → Tbs Ps H2 → ∀ Q : VK, (∀ H', Grown Ps H2 H' → Q (.bl (pd d)) H') → te ((wipe σ vs).set j (some x)) H2 Q) (q : ∀ H2, Grown Ps H H2 → Q (.bl (ds.all pd)) H2) : KG.tAllG P (iTup K (tVar i0)) (gName j) te vs σ H Q := by
  refine ⟨_, h0, a, rfl, ⟨xs, hx⟩, ht P hP, fun H2 hT => ?_⟩
  have gr0 := Grown.tabbed hT ht hP
  have hl := all2 hd
  refine ⟨fun i m H' => Grown Ps H H' ∧ i ≤ xs.length ∧ m = xs.length - i ∧ (ds.take i).all pd = true, ⟨_, gr0, Nat.zero_le _, rfl, rfl⟩, ?_⟩
  rintro i m H' ⟨gr, hi, rfl, hall⟩
  have hx2 : SqT K H' a xs := sqT_sm gr.sm hx
  by_cases c : i < xs.length
  · refine .inr ⟨⟨xs, xs[i], hx2, by simp [c]⟩, fun x H3 ⟨e, hy⟩ => ?_⟩
    subst e
    have hxi := hy xs hx2
    obtain ⟨d, hdi, hth⟩ := dk_get hd hxi
    refine ⟨hw x, he _ x d (hth.mono gr.sm) gr.tbs _ fun H4 g4 => ?_⟩
    cases hp : pd d with
    | true =>
      refine .inl ⟨rfl, xs.length - (i + 1), by omega, gr.trans g4, c, rfl, ?_⟩
      rw [List.take_add_one, hdi, List.all_append, hall]
      simp [hp]
    | false =>
      refine .inr ⟨rfl, ?_⟩
      have e : ds.all pd = false := by
        rw [Bool.eq_false_iff]
        intro z
        have := List.all_eq_true.mp z d (List.mem_of_getElem? hdi)
        rw [hp] at this
        cases this
      rw [← e]
      exact q _ (gr.trans g4)
  · refine .inl ⟨⟨xs, hx2, by omega⟩, ?_⟩
    have e : ds.take i = ds := List.take_of_length_le (by omega)
    rw [e] at hall
    rw [← hall]
    exact q _ gr
section
variable {K : PySem.W.Frag} {σ : L2.St} {H : Hp}
theorem ints_all : ∀ {xs : List V} {ds : List PyData}, DkAll K H xs ds → ds.all (fun e => isW e 0 40) = true → xs = (intsD ds).map V.int ∧ ds = (intsD ds).map PyData.int ∧ ∀ i ∈ intsD ds, 0 ≤ i ∧ i ≤ 40
  | _, _, .nil, _ => ⟨rfl, rfl, fun i hi => by cases hi⟩
  | _, _, .cons (d := d) h t, z => by
    rw [List.all_cons, Bool.and_eq_true] at z
    obtain ⟨a, b, c⟩ := ints_all t z.2
    cases h with
    | int i =>
      have z1 := z.1
      simp only [isW, Bool.and_eq_true, decide_eq_true_eq] at z1
      refine ⟨?_, ?_, fun j hj => ?_⟩
      · show V.int i :: _ = V.int i :: (intsD _).map V.int
        rw [← a]
      · show PyData.int i :: _ = PyData.int i :: (intsD _).map PyData.int
        rw [← b]
      · rcases List.mem_cons.mp hj with rfl | hj
        · exact z1
        · exact c j hj
    | _ => exact absurd z.1 (by simp [isW])
theorem isW_at {x : V} {d : PyData} {lo hi : Int} (h : Dk K H x d) : ∀ Q : VK, Q (.bl (isW d lo hi)) H → spWithinK K [x, .int lo, .int hi] H Q E0 := fun Q q => ⟨_, _, _, _, rfl, h, q⟩
end
section
variable {P : Program} {w : World} {K : PySem.W.Frag} {mg : Str → Option Value} {base : Heap}
theorem scIf : FnScope ["value"] ["value"] (defScope sIsFrac) := ⟨rfl, rfl, rfl, by decide +kernel, rfl, by decide +kernel, by decide +kernel⟩
theorem ok_isfrac {f fR : Addr} {fd fdR : FuncData} (F : Fun K "is_fraction" "is_fraction" sIsFrac f fd) (FR : FnOk P w K mg base CX0 2 fR fdR ["value"] (spIsK K isR)) (mR : mg "is_ratio" = some (.ref fR)) (kR : PySem.W.keepIn K (.ref fR) = true) (bR : Binds K fdR ["value"] []) :
    FnOk P w K mg base CX0 3 f fd ["value"] (spIsK K isR) := by
  refine F.ok scIf (fun vs H Q E h => ?_) (fun cdv A outer s H vs Q E hr h => ?_)
  · obtain ⟨x, d, rfl, _⟩ := h
    rfl
  · obtain ⟨x, d, rfl, hx, k⟩ := h
    refine ⟨_, pss_one (ps_ret (pe_call FR hr (by rfl) mR kR bR .nil pass0 (pa_cons (pv 0) pa_nil))), ?_⟩
    exact ret_call (K := K) (ai_cons (vi_var rfl) ai_nil) ⟨x, d, rfl, hx, k⟩
theorem scNm : FnScope ["many"] ["many"] (defScope sNeedMany) := ⟨rfl, rfl, rfl, by decide +kernel, rfl, by decide +kernel, by decide +kernel⟩
theorem ok_needmany {f fI : Addr} {fd fdI : FuncData} {u4 : Value} (F : Fun K "need_many" "need_many" sNeedMany f fd) (m4 : mg "MOST_UNKNOWNS" = some u4) (r4 : RelV (.int 4) u4) (FI : FnOk P w K mg base CX0 2 fI fdI ["value", "least", "most"] (spWithinK K)) (mI : mg "is_within" = some (.ref fI)) (kI : PySem.W.keepIn K (.ref fI) = true) (bI : Binds K fdI ["value", "least", "most"] []) :
    FnOk P w K mg base CX0 3 f fd ["many"] spNeedMany := by
  refine F.ok scNm (fun vs H Q E h => ?_) (fun cdv A outer s H vs Q E hr h => ?_)
  · obtain ⟨n, rfl, _⟩ := h
    rfl
  · obtain ⟨n, rfl, n0, n4, k⟩ := h
    refine ⟨_, pss_one (ps_if (pt_not (pt_val (pe_call FI hr (by rfl) mI kI bI .nil pass0 (pa_cons (pv 0) (pa_cons pe_int (pa_cons (pe_glob (by rfl) m4 r4) pa_nil)))))) (pss_one ps_never) pss_nil), ?_⟩
    refine i_if (b := false) (ti_not (a := true) (ti_val (vi_call (ai_cons (vi_var rfl) (ai_cons vi_c (ai_cons vi_c ai_nil))) fun Q q => isW_at (K := K) (.int n) Q ?_))) (fun z => by cases z) (fun _ => k)
    rw [show isW (.int n) 0 4 = true by simp only [isW, Bool.and_eq_true, decide_eq_true_eq]; omega]
    exact q
theorem scTm : FnScope ["many", "term", "powers", "fraction", "power"] ["many", "term"] (defScope sIsTerm) := ⟨rfl, rfl, rfl, by decide +kernel, rfl, by decide +kernel, by decide +kernel⟩
theorem ok_isterm {f fI fR c PT' : Addr} {fd fdI fdR : FuncData} {Ps : List Addr} {u40 : Value} {aU aN : Addr} (F : FunC K "_is_term" "_is_term" sIsTerm f fd c) (T : TxT mg) (mS : mg "sum" = none) (C : Cst K mg aU aN) (TB : GxR.TabB base mg c PT') (hP : PT' ∈ Ps) (m40 : mg "MOST_DEGREE" = some u40) (r40 : RelV (.int 40) u40)
    (FI : FnOk P w K mg base CX0 2 fI fdI ["value", "least", "most"] (spWithinK K)) (mI : mg "is_within" = some (.ref fI)) (kI : PySem.W.keepIn K (.ref fI) = true) (bI : Binds K fdI ["value", "least", "most"] [])
    (FR : FnOk P w K mg base CX0 2 fR fdR ["value"] (spIsK K isR)) (mR : mg "is_ratio" = some (.ref fR)) (kR : PySem.W.keepIn K (.ref fR) = true) (bR : Binds K fdR ["value"] []) :
    FnOk P w K mg base CX0 4 f fd ["many", "term"] (spTerm K Ps) := by
  refine F.ok scTm (fun {vs H Q E} h => ?_) (fun A outer s H vs Q E hr h => ?_)
  · obtain ⟨x, d, n, rfl, _⟩ := h
    rfl
  · obtain ⟨x, d, n, rfl, n0, n4, hx, ht, k⟩ := h
    have hr2 : Room 2 _ := hr.mono (by decide)
    have hu64 : (A.deeper (envOfC "_is_term" (defScope sIsTerm) s.heap.objs.size f (.ref c))).units + 64 < cLine := by have := hr.un; omega
    refine ⟨_, pss_cons (ps_if (pw_or (pt_cmpR op_notTyB (pe_callTy call_type1 (by rfl) T.type (by decide +kernel) (pa_cons (pv 1) pa_nil)) (pe_bltn (v := .ty "tuple") (by rfl) T.tuple (by decide +kernel) rfl) (nomark _))
        (pw_or1 (pt_cmpR op_ne (pe_callB call_len_seq (by rfl) T.len PySem.boot_len (pa_cons (pv 1) pa_nil)) pe_int (nomark _)))).pt (pss_one (ps_ret pe_bl)) pss_nil)
      (pss_cons (ps_asg (pv 1) (pg_tup rfl (pgs_cons (pg_name (i := 2) scTm.nd rfl (Or.inl rfl)) (pgs_cons (pg_name (i := 3) scTm.nd rfl (Or.inl rfl)) pgs_nil))))
      (pss_cons (ps_if (pw_or (pt_cmpR op_notTyB (pe_callTy call_type1 (by rfl) T.type (by decide +kernel) (pa_cons (pv 2) pa_nil)) (pe_bltn (v := .ty "tuple") (by rfl) T.tuple (by decide +kernel) rfl) (nomark _))
        (pw_or1 (pt_cmpR op_ne (pe_callB call_len_seq (by rfl) T.len PySem.boot_len (pa_cons (pv 2) pa_nil)) (pv 0) (nomark _)))).pt (pss_one (ps_ret pe_bl)) pss_nil)
      (pss_cons (ps_if (pt_not (pt_val (KG.pe_allG (k := 2) (own := [("power", 4)]) (g := gName 4) rfl scTm.nd hr (by rfl) T.all (by decide +kernel) TB rfl ⟨blkOk_by (N := ["many", "term", "powers", "fraction", "power"]) (sc := defScope sIsTerm) (by decide +kernel), rfl, by decide +kernel, by decide +kernel⟩ (pi_tup (pv 2))
          (fun _ _ _ _ _ _ _ _ => pg_name (i := 4) scTm.nd rfl (Or.inl rfl)) (fun _ _ _ _ _ _ _ _ hB => pe_call FI hB (by rfl) mI kI bI .nil pass0 (pa_cons (pv 4) (pa_cons pe_int (pa_cons (pe_glob (by rfl) m40 r40) pa_nil)))) (fun _ => rfl)))) (pss_one (ps_ret pe_bl)) pss_nil)
      (pss_one (ps_ret (pe_and (pe_cmpR op_le (pe_callB (cr_sumT rfl) (by rfl) mS (by decide +kernel) (pa_cons (pv 2) pa_nil)) (pe_glob (by rfl) m40 r40) (nomark _)) (pe_and (pe_call FR hr2 (by rfl) mR kR bR .nil pass0 (pa_cons (pv 3) pa_nil)) (pe_one (pe_cmpR (op_neD hu64) (pv 3) (pe_glob (v := .ref aN) (by rfl) C.mN rfl) (nomark _)))))))))), ?_⟩
    refine i_guard (ti_shape rfl (vi_var rfl) hx) (fun z => ?_) (fun z => ?_)
    · have e : isTerm n d = false := by
        have z : shp 2 d = false := by simpa using z
        simp [isTerm, z]
      have := k H (Grown.same (Same.refl H) ht)
      rw [e] at this
      exact this
    obtain ⟨a, xs, ds, rfl, rfl, e, ha, l2⟩ := shp_of hx z
    obtain ⟨d1, d2, rfl⟩ := len2 l2
    cases ha with
    | cons h1 hr1 => cases hr1 with
      | @cons v2 _ _ _ h2 hr2 =>
        cases hr2
        refine ⟨_, rfl, a, _, rfl, e, rfl, _, _, rfl, _, _, rfl, rfl, ?_⟩
        dsimp only
        have eT : isTerm n (.tuple [d1, d2]) = ((decide (tyN d1 = "tuple") && decide ((lenT d1 : Int) = n)) && ((itms d1).all (fun e => isW e 0 40) && (decide ((intsD (itms d1)).sum ≤ 40) && (isR d2 && !PyData.eqv d2 nought)))) := by
          show (shp 2 (.tuple [d1, d2]) && _) = _
          rw [show shp 2 (.tuple [d1, d2]) = true by simp [shp, tyN, lenT], Bool.true_and]
          rfl
        rw [eT] at k
        have dI : ∀ a : Int, decide (V.int a = V.int n) = decide (a = n) := fun a => by
          rw [Bool.eq_iff_iff, decide_eq_true_iff, decide_eq_true_iff]
          simp
        refine i_guard (b := !decide (tyN d1 = "tuple") || !decide ((lenT d1 : Int) = n)) (ti_or (ti_notTup (vi_var rfl) h1) fun z => ti_test (vi_op (vi_lenT (ai_cons (vi_var rfl) ai_nil) h1 (by simpa using z)) (vi_var rfl) fun Q q => ⟨rfl, by rw [dI]; exact q⟩)) (fun z => ?_) (fun z => ?_)
        · have := k H (Grown.same (Same.refl H) ht)
          rw [← Bool.not_and, Bool.not_eq_true'] at z
          rw [z, Bool.false_and] at this
          exact this
        rw [← Bool.not_and, Bool.not_eq_false'] at z
        rw [z, Bool.true_and] at k
        rw [Bool.and_eq_true, decide_eq_true_eq, decide_eq_true_eq] at z
        obtain ⟨a1, xs1, ds1, rfl, rfl, e1, ha1⟩ := tupOf h1 z.1
        refine i_guardE (D := { nx := fun _ H' => Q .non H', rt := Q }) ?_
        refine all_vk (Ps := Ps) (pd := fun d => isW d 0 40) rfl e1 ha1 ht hP (fun x => rfl) (fun H2 x d h t2 Q q => a_call (ai_cons (vi_var rfl) (ai_cons vi_c (ai_cons vi_c ai_nil))) (isW_at h Q (q H2 (Grown.same (Same.refl H2) t2)))) (fun H2 gr => ⟨_, rfl, ?_⟩)
        change ∀ H', Grown Ps H H' → Q (.bl (ds1.all (fun e => isW e 0 40) && (decide ((intsD ds1).sum ≤ 40) && (isR d2 && !PyData.eqv d2 nought)))) H' at k
        cases hall : ds1.all (fun e => isW e 0 40) with
        | false =>
          rw [hall] at k
          exact k _ gr
        | true =>
          rw [hall, Bool.true_and] at k
          obtain ⟨ex, ed, hb⟩ := ints_all ha1 hall
          have e1' : SqT K H2 a1 ((intsD ds1).map V.int) := by
            rw [← ex]
            exact sqT_sm gr.sm e1
          rw [if_neg (show ¬ ((!true) = true) by decide)]
          refine i_ret (D := { nx := fun _ H' => Q .non H', rt := Q }) ?_ (k _ gr)
          refine vi_and (vi_op (vi_cb (v := .int (intsD ds1).sum) (ai_cons (vi_var rfl) ai_nil) fun Q q => ⟨a1, _, rfl, e1', q⟩) vi_c fun Q q => ⟨_, _, rfl, rfl, q⟩) fun _ => ?_
          refine vi_and (vi_call (ai_cons (vi_var rfl) ai_nil) fun Q q => ⟨_, d2, rfl, h2.mono gr.sm, q⟩) fun cR => ?_
          have nd : d2.hasDict = false ∧ SeqAt.shaped d2 = true := by
            cases d2 with
            | tuple es =>
              unfold isR at cR
              rw [Bool.and_eq_true] at cR
              unfold shp at cR
              simp only [Bool.and_eq_true, decide_eq_true_eq] at cR
              obtain ⟨u, v, rfl⟩ := len2 cR.1.2
              have r2 : ratio2 u v = true := cR.2
              obtain ⟨i, j, rfl, rfl⟩ : ∃ i j, u = .int i ∧ v = .int j := by cases u <;> cases v <;> simp [ratio2] at r2 ⊢
              exact ⟨by simp [PyData.hasDict, PyData.hasDictAll], by simp [SeqAt.shaped, PyData.canLay0, PyData.canLayAll0, PyData.depth, PyData.depthAll]⟩
            | _ => exact absurd cR (by simp [isR, shp, tyN])
          refine vi_op (vi_var rfl) vi_c fun Q q => ⟨d2, nought, (h2.mono gr.sm).dp nd.1, .tup (C.cN H2) (.cons (.int _) (.cons (.int _) .nil)), nd.2, by simp [nought, SeqAt.shaped, PyData.canLay0, PyData.canLayAll0, PyData.depth, PyData.depthAll], q⟩
end
def spStand (K : PySem.W.Frag) : Sp := fun vs H Q _ => ∃ (q : Addr) (ns : List Int), vs = [.ref q] ∧ SqT K H q (ns.map V.int) ∧ ∀ p H', Same H H' → H' p = some (.tup [.int ns.sum, .ref q]) → Q (.ref p) H'
theorem SqT.same {K : PySem.W.Frag} {H H' : Hp} {a : Addr} {xs : List V} (s : Same H H') (h : SqT K H a xs) : SqT K H' a xs := sqT_sm (Sm.same s) h
section
variable {P : Program} {w : World} {K : PySem.W.Frag} {mg : Str → Option Value} {base : Heap}
theorem ok_standing {f : Addr} {fd : FuncData} (F : Fun K "_standing" "_standing" sStanding f fd) (mS : mg "sum" = none) : FnOk P w K mg base CX0 1 f fd ["powers"] (spStand K) := by
  refine F.ok scStd (fun vs H Q E h => ?_) (fun cdv A outer s H vs Q E hr h => ?_)
  · obtain ⟨_, _, rfl, _⟩ := h
    rfl
  · obtain ⟨q, ns, rfl, hq, k⟩ := h
    refine ⟨_, pss_one (ps_ret (pe_tup (pa_cons (pe_callB (cr_sumT rfl) (by rfl) mS (by decide +kernel) (pa_cons (pv 0) pa_nil)) (pa_cons (pv 0) pa_nil)))), ?_⟩
    exact ⟨_, rfl, q, ns, rfl, hq, _, rfl, by show 2 ≤ sizeLine; decide, fun p hp => k p _ (same_upd hp) upd_same⟩
theorem term_mon {n : Int} {H : Hp} {x : V} {d : PyData} (h : Dk K H x d) (t : isTerm n d = true) : ∃ b q v, x = .ref b ∧ SqT K H b [.ref q, v] ∧ SqT K H q ((monD d).map V.int) := by
  unfold isTerm at t
  simp only [Bool.and_eq_true, decide_eq_true_eq] at t
  obtain ⟨t1, ⟨t2, t3⟩, t4, t5⟩ := t
  obtain ⟨a, xs, ds, rfl, rfl, e, ha, l2⟩ := shp_of h (by rw [t1]; rfl)
  obtain ⟨d1, d2, rfl⟩ := len2 l2
  cases ha with
  | cons h1 hr1 => cases hr1 with
    | cons h2 hr2 =>
      cases hr2
      obtain ⟨q, ys, es, rfl, rfl, eq, hq⟩ := tupOf h1 t2
      obtain ⟨e1, _, _⟩ := ints_all hq t4
      refine ⟨a, q, _, rfl, e, ?_⟩
      rw [e1] at eq
      exact eq
theorem sl_drop1 {σ : L2.St} {H : Hp} {te : TE} {a : Addr} {xs : List V} {Q : VK} (h : Vi te σ H (.ref a)) (e : SqT K H a xs) (k : ∀ b H3, Same H H3 → SqT K H3 b (xs.drop 1) → Q (.ref b) H3) : tSl (rSlA K) te (tPart (tC (.int 1))) tNoPart σ H Q := by
  refine h _ ⟨_, rfl, a, xs, rfl, e, fun z => ?_, fun z p hp => ?_⟩
  · have : xs = [] := by
      cases xs with
      | nil => rfl
      | cons x xs =>
        have := z.1
        rw [sIx_one (by simp)] at this
        cases this
    subst this
    exact k a H (Same.refl H) e
  · have n1 : 1 ≤ xs.length := by
      cases xs with
      | nil => exact absurd ⟨rfl, rfl⟩ z
      | cons x xs => simp
    rw [cut_one n1]
    exact k p _ (same_upd hp) (SqT.of upd_same)
theorem scPo : FnScope ["many", "value", "term", "one", "two"] ["many", "value"] (defScope sIsPoly) := ⟨rfl, rfl, rfl, by decide +kernel, rfl, by decide +kernel, by decide +kernel⟩
theorem ok_ispoly {f fN fT fS c PT' : Addr} {fd fdN fdT fdS : FuncData} {Ps : List Addr} {u6 : Value} (F : FunC K "is_polynomial" "is_polynomial" sIsPoly f fd c) (T : TxT mg) (TB : GxR.TabB base mg c PT') (hP : PT' ∈ Ps) (m6 : mg "MOST_TERMS" = some u6) (r6 : RelV (.int 600) u6)
    (FN : FnOk P w K mg base CX0 3 fN fdN ["many"] spNeedMany) (mN : mg "need_many" = some (.ref fN)) (kN : PySem.W.keepIn K (.ref fN) = true) (bN : Binds K fdN ["many"] [])
    (FT : FnOk P w K mg base CX0 4 fT fdT ["many", "term"] (spTerm K Ps)) (mT : mg "_is_term" = some (.ref fT)) (kT : PySem.W.keepIn K (.ref fT) = true) (bT : Binds K fdT ["many", "term"] [])
    (FS : FnOk P w K mg base CX0 1 fS fdS ["powers"] (spStand K)) (mS : mg "_standing" = some (.ref fS)) (kS : PySem.W.keepIn K (.ref fS) = true) (bS : Binds K fdS ["powers"] []) :
    FnOk P w K mg base CX0 6 f fd ["many", "value"] (spPoly K Ps) := by
  refine F.ok scPo (fun {vs H Q E} h => ?_) (fun A outer s H vs Q E hr h => ?_)
  · obtain ⟨x, d, n, rfl, _⟩ := h
    rfl
  · obtain ⟨x, d, n, rfl, n0, n4, hx, ht, k⟩ := h
    have hr1 : Room 1 _ := hr.mono (by decide)
    have hr3 : Room 3 _ := hr.mono (by decide)
    have hu64 : (A.deeper (envOfC "is_polynomial" (defScope sIsPoly) s.heap.objs.size f (.ref c))).units + 64 < cLine := by have := hr.un; omega
    refine ⟨_, pss_cons (ps_expr (pe_call FN hr3 (by rfl) mN kN bN .nil pass0 (pa_cons (pv 0) pa_nil)))
      (pss_cons (ps_if (pw_or (pt_cmpR op_notTyB (pe_callTy call_type1 (by rfl) T.type (by decide +kernel) (pa_cons (pv 1) pa_nil)) (pe_bltn (v := .ty "tuple") (by rfl) T.tuple (by decide +kernel) rfl) (nomark _))
        (pw_or1 (pt_cmpR op_gt (pe_callB call_len_seq (by rfl) T.len PySem.boot_len (pa_cons (pv 1) pa_nil)) (pe_glob (by rfl) m6 r6) (nomark _)))).pt (pss_one (ps_ret pe_bl)) pss_nil)
      (pss_cons (ps_if (pt_not (pt_val (KG.pe_allG (k := 4) (own := [("term", 2)]) (g := gName 2) rfl scPo.nd hr (by rfl) T.all (by decide +kernel) TB rfl ⟨blkOk_by (N := ["many", "value", "term", "one", "two"]) (sc := defScope sIsPoly) (by decide +kernel), rfl, by decide +kernel, by decide +kernel⟩ (pi_tup (pv 1))
          (fun _ _ _ _ _ _ _ _ => pg_name (i := 2) scPo.nd rfl (Or.inl rfl)) (fun _ _ _ _ _ _ _ _ hB => pe_call FT hB (by rfl) mT kT bT .nil pass0 (pa_cons (pv 0) (pa_cons (pv 2) pa_nil))) (fun _ => rfl)))) (pss_one (ps_ret pe_bl)) pss_nil)
      (pss_one (ps_ret (pe_callB (cr_all rfl) (by rfl) T.all (by decide +kernel) (pa_cons (pe_lc (own := [("one", 3), ("two", 4)]) (g := gTup K 2 (gCons (gName 3) (gCons (gName 4) gNil))) (tt := tYes) rfl scPo.nd (RZ.pi_zipA (by rfl) T.zip (pa_cons (pv 1) (pa_cons (pe_slice sl_tupA (pv 1) (po_some pe_int) po_none) pa_nil)))
        (blkOk_by (N := ["many", "value", "term", "one", "two"]) (sc := defScope sIsPoly) (by decide +kernel)) (fun _ _ _ _ _ => by exact pg_tup rfl (pgs_cons (pg_name (i := 3) scPo.nd rfl (Or.inl rfl)) (pgs_cons (pg_name (i := 4) scPo.nd rfl (Or.inl rfl)) pgs_nil))) (fun _ _ _ _ _ => pts_nil)
        (fun _ _ _ _ _ => pe_cmpR (r := rGtK K) (by exact op_gtK hu64) (pe_call FS hr1 (by rfl) mS kS bS .nil pass0 (pa_cons (pe_ix (r := rIxT K) (by exact ix_tup) (pv 3) pe_int (fun _ _ => rfl)) pa_nil)) (pe_call FS hr1 (by rfl) mS kS bS .nil pass0 (pa_cons (pe_ix (r := rIxT K) (by exact ix_tup) (pv 4) pe_int (fun _ _ => rfl)) pa_nil)) (nomark _))) pa_nil)))))), ?_⟩
    refine a_call (ai_cons (vi_var rfl) ai_nil) ⟨n, rfl, n0, n4, ?_⟩
    dsimp only
    have dI : Ti (tOr (tTest (tOp rNT (tCB (rTyp K) (tCons (tVar 1) tNil)) (tC (.ty "tuple")))) (tTest (tOp (rI0 fun i j => .bl (decide (j < i))) (tCB (KP.rLen K) (tCons (tVar 1) tNil)) (tC (.int 600))))) [some (.int n), some x, none, none, none] H (!decide (tyN d = "tuple") || decide ((600 : Int) < (lenT d : Int))) :=
      ti_or (ti_notTup (vi_var rfl) hx) fun z => ti_test (vi_op (vi_lenT (ai_cons (vi_var rfl) ai_nil) hx (by simpa using z)) vi_c fun Q q => ⟨_, _, rfl, rfl, q⟩)
    refine i_guard dI (fun z => ?_) (fun z => ?_)
    · have e : isPoly n d = false := by
        unfold isPoly
        rw [Bool.or_eq_true, Bool.not_eq_true', decide_eq_true_eq] at z
        rcases z with z | z
        · rw [z]; rfl
        · rw [decide_eq_false (show ¬ (lenT d : Int) ≤ 600 by omega)]; simp
      have := k H (Grown.same (Same.refl H) ht)
      rw [e] at this
      exact this
    rw [Bool.or_eq_false_iff, Bool.not_eq_false', decide_eq_false_iff_not] at z
    obtain ⟨z1, z2⟩ := z
    obtain ⟨a, xs, ds, rfl, rfl, e, ha⟩ := tupOf hx (of_decide_eq_true z1)
    have eP : isPoly n (.tuple ds) = (ds.all (isTerm n) && descB ds) := by
      unfold isPoly
      rw [z1, decide_eq_true (show ((lenT (.tuple ds) : Nat) : Int) ≤ 600 by omega), Bool.true_and, Bool.true_and]
      rfl
    rw [eP] at k
    have hl := all2 ha
    have hl6 : xs.length ≤ 600 := by
      simp only [lenT] at z2
      omega
    refine i_guardE (D := { nx := fun _ H' => Q .non H', rt := Q }) ?_
    refine all_vk (Ps := Ps) (pd := isTerm n) rfl e ha ht hP (fun x => rfl) (fun H2 x d h t2 Q q => a_call (ai_cons (vi_var rfl) (ai_cons (vi_var rfl) ai_nil)) ⟨_, _, n, rfl, n0, n4, h, t2, q⟩) (fun H2 gr => ⟨_, rfl, ?_⟩)
    cases hall : ds.all (isTerm n) with
    | false =>
      rw [hall] at k
      exact k _ gr
    | true =>
      rw [hall, Bool.true_and] at k
      rw [if_neg (show ¬ ((!true) = true) by decide)]
      have e2 : SqT K H2 a xs := sqT_sm gr.sm e
      have ha2 := DkAll.mono gr.sm ha
      have termAt : ∀ {H' : Hp} {i : Nat} {x : V}, Same H2 H' → xs[i]? = some x → ∃ b q v, x = .ref b ∧ SqT K H' b [.ref q, v] ∧ SqT K H' q ((monD (ds.getD i .none)).map V.int) := fun {H' i x} s hx => by
        obtain ⟨d, hd, hth⟩ := dk_get (DkAll.mono (Sm.same s) ha2) hx
        have ht := List.all_eq_true.mp hall d (List.mem_of_getElem? hd)
        rw [List.getD_eq_getElem?_getD, hd]
        exact term_mon hth ht
      refine ⟨_, rfl, sl_drop1 (vi_var rfl) e2 fun b H3 s3 eb => ?_⟩
      refine ⟨a, b, xs, xs.drop 1, rfl, .inr ⟨SqT.same s3 e2, eb, fun D hD => ?_⟩⟩
      refine lc_it (walk_zipT (K := K) (a := a) (b := b) (xs := xs) (ys := xs.drop 1) (n := xs.length - 1) (by rw [List.length_drop]; omega)) (fun n H' => Same H3 H' ∧ H' D = some (.lst ((List.range n).map fun i => V.bl (gtM (monD (ds.getD i .none)) (monD (ds.getD (i + 1) .none)))))) ⟨same_upd hD, upd_same⟩
        (fun n H' _ z => ⟨SqT.same (s3.trans z.1) e2, SqT.same z.1 eb⟩) ?_ ?_
      · rintro i x H' H'' hi ⟨s7, hD'⟩ ⟨U, x1, y1, rfl, hU, rfl, hx1, hy1⟩
        have hy2 : xs[i + 1]? = some y1 := by
          rw [← hy1]
          show _ = (xs.drop 1)[i]?
          rw [List.getElem?_drop, Nat.add_comm]
        have sU := same_upd (o := .tup [x1, y1]) hU
        have s8 : Same H2 (upd H' U (.tup [x1, y1])) := (s3.trans s7).trans sU
        obtain ⟨b1, q1, v1, rfl, eb1, eq1⟩ := termAt s8 hx1
        obtain ⟨b2, q2, v2, rfl, eb2, eq2⟩ := termAt s8 hy2
        refine ⟨U, _, rfl, SqT.of upd_same, rfl, _, _, rfl, _, _, rfl, rfl, rfl, ?_⟩
        dsimp only [tYes]
        rw [if_pos rfl]
        refine ⟨_, rfl, b1, _, 0, _, rfl, rfl, eb1, rfl, q1, _, rfl, eq1, fun p1 H4 s4 e4 => ?_⟩
        refine ⟨_, rfl, b2, _, 0, _, rfl, rfl, SqT.same s4 eb2, rfl, q2, _, rfl, SqT.same s4 eq2, fun p2 H5 s5 e5 => ?_⟩
        refine ⟨_, _, _, _, ⟨p1, q1, rfl, SqT.of (s5 _ _ e4), SqT.same (s4.trans s5) eq1⟩, ⟨p2, q2, rfl, SqT.of e5, SqT.same (s4.trans s5) eq2⟩, ?_⟩
        refine ⟨_, (sU.trans (s4.trans s5)) _ _ hD', ?_, same_put (s7.trans (sU.trans (s4.trans s5))) hD, ?_⟩
        · rw [List.length_map, List.length_range]
          exact Nat.lt_of_le_of_lt (show i ≤ 2000 by omega) (by decide)
        · rw [upd_same, List.range_succ, List.map_append, List.map_cons, List.map_nil]
          rfl
      · rintro H' ⟨s7, hD'⟩
        refine ⟨D, (List.range (xs.length - 1)).map fun i => gtM (monD (ds.getD i .none)) (monD (ds.getD (i + 1) .none)), rfl, SqL.of ?_, ?_⟩
        · rw [hD', List.map_map]
          rfl
        · have e3 : ((List.range (xs.length - 1)).map fun i => gtM (monD (ds.getD i .none)) (monD (ds.getD (i + 1) .none))).all id = descB ds := by
            rw [List.all_map, hl]
            rfl
          rw [e3]
          exact k _ (gr.trans (Grown.same (s3.trans s7) gr.tbs))
end
end QD

set_option Elab.async false
set_option linter.all false
set_option maxRecDepth 100000
set_option maxHeartbeats 4000000
/-! ### polynomials: monomials, terms in their order; how they stand on the heap -/
namespace QP
open PySem PySem.Spec PyProof.Rows L2 KX KP QR QD FR
abbrev Mon := List Int
abbrev Poly := List (Mon × Fr)
def geM (a b : Mon) : Bool := !gtM b a
theorem geM_data (a b : Mon) : PySem.W.dataLe true (fun m : Mon => keyD m) a b = geM a b := by
  rw [PySem.W.dataLe_eq]
  show (!PySem.W.dataLt (keyD a) (keyD b)) = _
  rw [lt_key]
  rfl
theorem geM_total : PySem.W.TotalLe geM := by
  have h := PySem.W.sortLe_total (listOrd itemOrd) true (fun m : Mon => PySem.W.keyToks (keyD m))
  have e : PySem.W.sortLe (listOrd itemOrd) true (fun m : Mon => PySem.W.keyToks (keyD m)) = geM := by
    funext a b
    exact geM_data a b
  rwa [e] at h
theorem gtL_anti : ∀ {a b : Mon}, gtL a b = false → gtL b a = false → a = b
  | [], [], _, _ => rfl
  | [], _ :: _, _, h => by cases h
  | _ :: _, [], h, _ => by cases h
  | x :: a, y :: b, h, h' => by
    unfold gtL at h h'
    by_cases c : x = y
    · subst c
      rw [if_pos rfl] at h h'
      rw [gtL_anti h h']
    · rw [if_neg c, decide_eq_false_iff_not] at h
      rw [if_neg (Ne.symm c), decide_eq_false_iff_not] at h'
      omega
theorem gtM_anti {a b : Mon} (h : gtM a b = false) (h' : gtM b a = false) : a = b := by
  unfold gtM gtK at h h'
  by_cases c : a.sum = b.sum
  · rw [if_pos c] at h
    rw [if_pos c.symm] at h'
    exact gtL_anti h h'
  · rw [if_neg c, decide_eq_false_iff_not] at h
    rw [if_neg (Ne.symm c), decide_eq_false_iff_not] at h'
    omega
def leT (a b : Mon × Fr) : Bool := geM a.1 b.1
theorem leT_total : PySem.W.TotalLe leT := ⟨fun a b c => geM_total.trans a.1 b.1 c.1, fun a b => geM_total.total a.1 b.1⟩
def inOrd (D : Poly) : Poly := (D.filter fun t => !decide (t.2 = (0, 1))).mergeSort leT
theorem nodup_key {L : Poly} (hn : (L.map (·.1)).Nodup) {a b : Mon × Fr} (ha : a ∈ L) (hb : b ∈ L) (e : a.1 = b.1) : a = b := by
  induction L with
  | nil => cases ha
  | cons t L ih =>
    rw [List.map_cons, List.nodup_cons] at hn
    rcases List.mem_cons.mp ha with rfl | ha
    · rcases List.mem_cons.mp hb with rfl | hb
      · rfl
      · exact absurd (List.mem_map.mpr ⟨b, hb, e.symm⟩) hn.1
    · rcases List.mem_cons.mp hb with e2 | hb
      · rw [e2] at e
        exact absurd (List.mem_map.mpr ⟨a, ha, e⟩) hn.1
      · exact ih hn.2 ha hb
theorem sort_is {L ys : Poly} (hn : (L.map (·.1)).Nodup) (hp : ys.Perm L) (hs : ys.Pairwise fun x y => gtM y.1 x.1 = false) : ys = L.mergeSort leT := by
  refine List.Perm.eq_of_pairwise (le := fun a b => leT a b = true) (fun a b ha hb h1 h2 => ?_) (hs.imp fun {x y} h => ?_) (PySem.W.sort_pairwise leT_total L) (hp.trans (List.mergeSort_perm _ _).symm)
  · have hb' : b ∈ L := (List.mergeSort_perm L leT).mem_iff.mp hb
    have h1 : geM a.1 b.1 = true := h1
    have h2 : geM b.1 a.1 = true := h2
    unfold geM at h1 h2
    exact nodup_key hn (hp.mem_iff.mp ha) hb' (gtM_anti (by simpa using h2) (by simpa using h1))
  · show geM x.1 y.1 = true
    unfold geM
    rw [h]
    rfl
/-- all tuples stay, as they are -/
structure Tt (H H' : Hp) : Prop where
  pl : ∀ b xs, H b = some (.tup xs) → H' b = some (.tup xs)
  tk : Tk H H'
theorem Tt.refl (H : Hp) : Tt H H := ⟨fun _ _ e => e, Tk.refl H⟩
theorem Tt.trans {H H1 H2 : Hp} (a : Tt H H1) (b : Tt H1 H2) : Tt H H2 := ⟨fun c xs e => b.pl c xs (a.pl c xs e), a.tk.trans b.tk⟩
theorem Tt.sm {H H' : Hp} (s : Sm H H') : Tt H H' := ⟨fun b xs e => s _ _ e (fun _ z => by cases z), Tk.sm s⟩
theorem Tt.same {H H' : Hp} (s : Same H H') : Tt H H' := Tt.sm (Sm.same s)
theorem Tt.but {j : Addr} {H H' : Hp} {xs : List V} (hj : H j = some (.lst xs)) (s : KJ.But j H H') : Tt H H' := ⟨(fun b ys e => s _ _ (fun z => by rw [z, hj] at e; cases e) e), Tk.but hj s⟩
theorem Tt.jar {j : Addr} {H H' : Hp} {n : Nat} (hj : KJ.JarAt H j n) (s : KJ.But j H H') : Tt H H' := by
  obtain ⟨_, _, _, e, _⟩ := hj
  exact Tt.but e s
/-- a store into what is no tuple -/
theorem Tt.put {H : Hp} {p : Addr} {u o : HO} (h : H p = some u) (n : ∀ xs, u ≠ .tup xs) (n2 : ∀ o xs, u ≠ .frz o (.tup xs)) : Tt H (upd H p o) := by
  have ne : ∀ b xs, Rd H b (.tup xs) → b ≠ p := fun b xs e z => by
    subst z
    rcases e with e | ⟨o, e⟩
    · rw [h] at e
      exact n _ (Option.some.inj e)
    · rw [h] at e
      exact n2 _ _ (Option.some.inj e)
  refine ⟨fun b xs e => by rw [upd_ne (ne b xs (.inl e))]; exact e, fun b w e => ?_⟩
  obtain ⟨xs, rfl, r⟩ := of_tO e
  refine tO_rd ?_
  rcases r with r | ⟨o, r⟩
  · exact .inl (by rw [upd_ne (ne b xs (.inl r))]; exact r)
  · exact .inr ⟨o, by rw [upd_ne (ne b xs (.inr ⟨o, r⟩))]; exact r⟩
section
variable {K : PySem.W.Frag} {H H' : Hp}
theorem sqT_tt {a : Addr} {xs : List V} (s : Tt H H') (h : SqT K H a xs) : SqT K H' a xs := by
  rcases h with h | h
  · exact .inl (tO_same H' _ _ (s.tk _ _ (tO_rd h)))
  · exact .inr h
/-- v is the monomial m: a plain tuple -/
def MonV (H : Hp) (v : V) (m : Mon) : Prop := ∃ b, v = .ref b ∧ H b = some (.tup (m.map V.int))
def TermV (K : PySem.W.Frag) (H : Hp) (v : V) (t : Mon × Fr) : Prop := ∃ a vm vx, v = .ref a ∧ SqT K H a [vm, vx] ∧ MonV H vm t.1 ∧ FrV K H vx t.2
inductive TermsV (K : PySem.W.Frag) (H : Hp) : List V → Poly → Prop
  | nil : TermsV K H [] []
  | cons {v : V} {vs : List V} {t : Mon × Fr} {p : Poly} (h : TermV K H v t) (r : TermsV K H vs p) : TermsV K H (v :: vs) (t :: p)
def PolV (K : PySem.W.Frag) (H : Hp) (v : V) (p : Poly) : Prop := ∃ a vs, v = .ref a ∧ SqT K H a vs ∧ TermsV K H vs p
theorem MonV.tt {v : V} {m : Mon} (h : MonV H v m) (s : Tt H H') : MonV H' v m := by
  obtain ⟨b, e, q⟩ := h
  exact ⟨b, e, s.pl _ _ q⟩
theorem TermV.tt {v : V} {t : Mon × Fr} (h : TermV K H v t) (s : Tt H H') : TermV K H' v t := by
  obtain ⟨a, vm, vx, e, q, hm, hx⟩ := h
  exact ⟨a, vm, vx, e, sqT_tt s q, hm.tt s, hx.tk s.tk⟩
theorem TermsV.tt (s : Tt H H') : ∀ {vs : List V} {p : Poly}, TermsV K H vs p → TermsV K H' vs p
  | _, _, .nil => .nil
  | _, _, .cons h r => .cons (h.tt s) (TermsV.tt s r)
theorem PolV.tt {v : V} {p : Poly} (h : PolV K H v p) (s : Tt H H') : PolV K H' v p := by
  obtain ⟨a, vs, e, q, r⟩ := h
  exact ⟨a, vs, e, sqT_tt s q, r.tt s⟩
theorem TermsV.len : ∀ {vs : List V} {p : Poly}, TermsV K H vs p → vs.length = p.length
  | _, _, .nil => rfl
  | _, _, .cons _ r => by rw [List.length_cons, List.length_cons, r.len]
theorem TermsV.at : ∀ {vs : List V} {p : Poly} {i : Nat} {v : V}, TermsV K H vs p → vs[i]? = some v → ∃ t, p[i]? = some t ∧ TermV K H v t
  | _, _, 0, _, .cons h _, e => by
    cases e
    exact ⟨_, rfl, h⟩
  | _, _, i + 1, _, .cons _ r, e => by
    rw [List.getElem?_cons_succ] at e
    obtain ⟨t, h1, h2⟩ := r.at e
    exact ⟨t, by rw [List.getElem?_cons_succ]; exact h1, h2⟩
theorem TermsV.append : ∀ {vs us : List V} {p q : Poly}, TermsV K H vs p → TermsV K H us q → TermsV K H (vs ++ us) (p ++ q)
  | _, _, _, _, .nil, h => h
  | _, _, _, _, .cons a r, h => .cons a (TermsV.append r h)
theorem TermsV.snoc {vs : List V} {p : Poly} {v : V} {t : Mon × Fr} (h : TermsV K H vs p) (a : TermV K H v t) : TermsV K H (vs ++ [v]) (p ++ [t]) := h.append (.cons a .nil)
theorem TermsV.reverse : ∀ {vs : List V} {p : Poly}, TermsV K H vs p → TermsV K H vs.reverse p.reverse
  | _, _, .nil => .nil
  | _, _, .cons a r => by
    rw [List.reverse_cons, List.reverse_cons]
    exact r.reverse.snoc a
/-- as data -/
def termD (t : Mon × Fr) : PyData := .tuple [.tuple (t.1.map PyData.int), fD t.2]
def polyD (p : Poly) : PyData := .tuple (p.map termD)
theorem MonV.dp {v : V} {m : Mon} (h : MonV H v m) : Dp K H v (.tuple (m.map PyData.int)) := by
  obtain ⟨b, rfl, e⟩ := h
  exact .tup (SqT.of (.inl e)) (dp_ints m)
theorem frV_dp {v : V} {x : Fr} (h : FrV K H v x) : Dp K H v (fD x) := by
  obtain ⟨a, rfl, q⟩ := h
  exact .tup (sqT_up q) (.cons (.int _) (.cons (.int _) .nil))
theorem TermV.dp {v : V} {t : Mon × Fr} (h : TermV K H v t) : Dp K H v (termD t) := by
  obtain ⟨a, vm, vx, rfl, q, hm, hx⟩ := h
  exact .tup q (.cons hm.dp (.cons (frV_dp hx) .nil))
theorem TermsV.dp : ∀ {vs : List V} {p : Poly}, TermsV K H vs p → DpAll K H vs (p.map termD)
  | _, _, .nil => .nil
  | _, _, .cons h r => .cons h.dp r.dp
theorem PolV.dp {v : V} {p : Poly} (h : PolV K H v p) : Dp K H v (polyD p) := by
  obtain ⟨a, vs, rfl, q, r⟩ := h
  exact .tup q r.dp
/-- a dict by monomials -/
def keyM (m : Mon) : List Key := m.map Sum.inl
theorem keyM_v (m : Mon) : (keyM m).map kV = m.map V.int := by
  unfold keyM
  rw [List.map_map]
  rfl
theorem keyM_inj {m m' : Mon} (h : keyM m = keyM m') : m = m' := by
  unfold keyM at h
  exact (List.map_inj_right (fun a b e => Sum.inl.inj e)).mp h
inductive DicsV (K : PySem.W.Frag) (H : Hp) : List (List Key × V) → Poly → Prop
  | nil : DicsV K H [] []
  | cons {v : V} {kvs : List (List Key × V)} {t : Mon × Fr} {p : Poly} (h : FrV K H v t.2) (r : DicsV K H kvs p) : DicsV K H ((keyM t.1, v) :: kvs) (t :: p)
def DicV (K : PySem.W.Frag) (H : Hp) (d : Addr) (D : Poly) : Prop := ∃ kvs, H d = some (.dT kvs) ∧ DicsV K H kvs D
theorem DicsV.tt (s : Tt H H') : ∀ {kvs : List (List Key × V)} {D : Poly}, DicsV K H kvs D → DicsV K H' kvs D
  | _, _, .nil => .nil
  | _, _, .cons h r => .cons (h.tk s.tk) (DicsV.tt s r)
theorem DicsV.len : ∀ {kvs : List (List Key × V)} {D : Poly}, DicsV K H kvs D → kvs.length = D.length
  | _, _, .nil => rfl
  | _, _, .cons _ r => by rw [List.length_cons, List.length_cons, r.len]
theorem DicsV.at : ∀ {kvs : List (List Key × V)} {D : Poly} {i : Nat} {k : List Key} {v : V}, DicsV K H kvs D → kvs[i]? = some (k, v) → ∃ t, D[i]? = some t ∧ k = keyM t.1 ∧ FrV K H v t.2
  | _, _, 0, _, _, .cons h _, e => by
    cases e
    exact ⟨_, rfl, rfl, h⟩
  | _, _, i + 1, _, _, .cons _ r, e => by
    rw [List.getElem?_cons_succ] at e
    obtain ⟨t, h1, h2⟩ := r.at e
    exact ⟨t, by rw [List.getElem?_cons_succ]; exact h1, h2⟩
end
/-- what D holds at m -/
def atD (D : Poly) (m : Mon) : Option Fr := (D.find? fun t => decide (t.1 = m)).map (·.2)
/-- D with x at m -/
def putD (D : Poly) (m : Mon) (x : Fr) : Poly := if (D.any fun t => decide (t.1 = m)) = true then D.map (fun t => if t.1 = m then (t.1, x) else t) else D ++ [(m, x)]
section
variable {K : PySem.W.Frag} {H H' : Hp}
theorem key_dec (m m' : Mon) : decide (keyM m = keyM m') = decide (m = m') := by
  rw [Bool.eq_iff_iff, decide_eq_true_iff, decide_eq_true_iff]
  exact ⟨keyM_inj, fun h => by rw [h]⟩
theorem DicsV.val : ∀ {kvs : List (List Key × V)} {D : Poly}, DicsV K H kvs D → ∀ m, (valV kvs (keyM m) = none ∧ atD D m = none) ∨ ∃ v x, valV kvs (keyM m) = some v ∧ atD D m = some x ∧ FrV K H v x
  | _, _, .nil, m => .inl ⟨rfl, rfl⟩
  | _, _, .cons (v := v) (kvs := kvs) (t := t) (p := p) h r, m => by
    have ih := r.val m
    by_cases c : t.1 = m
    · refine .inr ⟨v, t.2, ?_, ?_, h⟩
      · rw [valV_pos (by rw [c])]
      · unfold atD
        rw [List.find?_cons_of_pos (by simpa using c)]
        rfl
    · have e1 : valV ((keyM t.1, v) :: kvs) (keyM m) = valV kvs (keyM m) := by
        unfold valV
        rw [List.find?_cons_of_neg]
        simpa using fun z => c (keyM_inj z)
      have e2 : atD (t :: p) m = atD p m := by
        unfold atD
        rw [List.find?_cons_of_neg (by simpa using c)]
      rw [e1, e2]
      exact ih
theorem DicsV.any : ∀ {kvs : List (List Key × V)} {D : Poly}, DicsV K H kvs D → ∀ m, (kvs.any fun kv => decide (kv.1 = keyM m)) = D.any fun t => decide (t.1 = m)
  | _, _, .nil, m => rfl
  | _, _, .cons h r, m => by rw [List.any_cons, List.any_cons, r.any m, key_dec]
theorem DicsV.map : ∀ {kvs : List (List Key × V)} {D : Poly}, DicsV K H kvs D → ∀ {m : Mon} {v : V} {x : Fr}, FrV K H v x → DicsV K H (kvs.map fun kv => if kv.1 = keyM m then (kv.1, v) else kv) (D.map fun t => if t.1 = m then (t.1, x) else t)
  | _, _, .nil, _, _, _, _ => .nil
  | _, _, .cons (t := t) h r, m, v, x, hv => by
    rw [List.map_cons, List.map_cons]
    by_cases c : t.1 = m
    · rw [if_pos (by rw [c]), if_pos c]
      exact .cons (t := (t.1, x)) hv (r.map hv)
    · rw [if_neg (fun z => c (keyM_inj z)), if_neg c]
      exact .cons h (r.map hv)
theorem DicsV.append : ∀ {kvs kvs' : List (List Key × V)} {D D' : Poly}, DicsV K H kvs D → DicsV K H kvs' D' → DicsV K H (kvs ++ kvs') (D ++ D')
  | _, _, _, _, .nil, h => h
  | _, _, _, _, .cons a r, h => .cons a (DicsV.append r h)
theorem DicsV.put {kvs : List (List Key × V)} {D : Poly} (h : DicsV K H kvs D) {m : Mon} {v : V} {x : Fr} (hv : FrV K H v x) : DicsV K H (putK kvs (keyM m) v) (putD D m x) := by
  unfold putK putD
  rw [h.any m]
  split
  · exact h.map hv
  · exact h.append (.cons (t := (m, x)) hv .nil)
end
theorem putD_key (D : Poly) (m : Mon) (x : Fr) : (putD D m x).map (·.1) = if m ∈ D.map (·.1) then D.map (·.1) else D.map (·.1) ++ [m] := by
  unfold putD
  have e : (D.any fun t => decide (t.1 = m)) = decide (m ∈ D.map (·.1)) := by
    rw [Bool.eq_iff_iff, List.any_eq_true, decide_eq_true_iff, List.mem_map]
    exact ⟨fun ⟨t, h, e⟩ => ⟨t, h, of_decide_eq_true e⟩, fun ⟨t, h, e⟩ => ⟨t, h, decide_eq_true e⟩⟩
  rw [e]
  by_cases c : m ∈ D.map (·.1)
  · rw [if_pos (decide_eq_true c), if_pos c, List.map_map]
    refine List.map_congr_left fun t _ => ?_
    show (if t.1 = m then (t.1, x) else t).1 = t.1
    split <;> rfl
  · rw [if_neg (by simpa using c), if_neg c, List.map_append]
    rfl
theorem putD_nodup {D : Poly} (h : (D.map (·.1)).Nodup) (m : Mon) (x : Fr) : ((putD D m x).map (·.1)).Nodup := by
  rw [putD_key]
  split
  · exact h
  · rename_i c
    refine List.nodup_append.mpr ⟨h, by simp, fun a ha b hb e => ?_⟩
    rw [List.mem_singleton] at hb
    rw [e, hb] at ha
    exact c ha
theorem putD_len (D : Poly) (m : Mon) (x : Fr) : (putD D m x).length ≤ D.length + 1 := by
  have := congrArg List.length (putD_key D m x)
  rw [List.length_map] at this
  rw [this]
  split
  · rw [List.length_map]; omega
  · rw [List.length_append, List.length_map]; simp
end QP

set_option Elab.async false
set_option linter.all false
set_option maxRecDepth 100000
set_option maxHeartbeats 4000000
/-! ### errors of its own: raised, caught by several clauses that name it -/
namespace KP
open PySem PySem.Spec PyProof.Rows L2
/-- what is known of an error's class -/
structure ErC (K : PySem.W.Frag) (C fI : Addr) (f : Str) : Prop where
  o : OexC K C
  x : XfC K C
  nf : PySem.W.findIn K (.ref C) f = some none
  ini : PySem.W.findIn K (.ref C) "__init__" = some (some (.ref fI))
  ty : PySem.W.typeIn K (.ref fI) = some (.type "function")
  me : PySem.W.exmOne K (.ref C) (.ref C) = some true
/-- self.f = f, of an exception that is being made -/
def spEI (C : Addr) (f : Str) : Sp := fun vs H Q _ => ∃ a v, vs = [.ref a, v] ∧ H a = some (exo a C none) ∧ ∀ dx, H dx = none → dx ≠ a → Q .non (upd (upd H dx (exd dx [(f, v)])) a (exo a C (some dx)))
theorem ok_excI {P : Program} {w : World} {K : PySem.W.Frag} {mg : Str → Option Value} {base : Heap} {C fI : Addr} {fd : FuncData} {f qual : Str} {st : Stmt} {q1 q2 q3 q4 : Pos} (F : Fun K "__init__" qual st fI fd) (o : OexC K C) (nf : PySem.W.findIn K (.ref C) f = some none)
    (S : FnScope ["self", f] ["self", f] (defScope st)) (hb : defBody st = [.Assign [.Attribute (.Name "self" q1) f q2] (.Name f q3) q4]) (v0 : Vis (defScope st) "self") (v1 : Vis (defScope st) f)
    (d1 : (f == ("__debug__" : Str)) = false) (d2 : (f == ("__classdict__" : Str)) = false) : FnOk P w K mg base CX0 1 fI fd ["self", f] (spEI C f) := by
  refine F.ok S (fun vs H Q E h => ?_) (fun cdv A outer s H vs Q E hr h => ?_)
  · obtain ⟨a, v, rfl, _⟩ := h
    rfl
  · obtain ⟨a, v, rfl, ha, k⟩ := h
    rw [hb]
    refine ⟨_, pss_one (ps_ost (pe_var (i := 0) rfl v0) (pe_var (i := 1) rfl v1 d1 d2)), ?_⟩
    exact ⟨v, rfl, .ref a, rfl, a, C, rfl, o, nf, .inl ⟨ha, fun dx n1 n2 => k dx n1 n2⟩⟩
/-- one argument, with what is known of it weakened -/
def tArg (te : TE) : TA := fun σ H QA => ∃ Q0 : VK, te σ H Q0 ∧ ∀ v H1, Q0 v H1 → QA [v] H1
theorem pa_arg {X : Cx} {e : Expr} {te : TE} (he : PE X e te) (hs : starEach (e :: []) X.env = (false, eval e X.env) :: starEach [] X.env) : PA X [e] (tArg te) := by
  refine ⟨fun pos pins s σ H QA I h => ?_⟩
  obtain ⟨Q0, h, m⟩ := h
  refine thn ((pa_cons he pa_nil hs).run pos pins s σ H (fun vs H1 => match vs with | [v] => Q0 v H1 | _ => False) I h) fun us s1 hh => ?_
  obtain ⟨vs, H1, I1, r, q⟩ := hh
  match vs, r, q with
  | [v], r, q => exact ⟨_, H1, I1, r, m v H1 q⟩
def tRaiseE (C : Addr) (f : Str) (W : WX) (te : TE) : TS := fun _ σ H => te σ H fun v H1 => ∀ d, H1 d = none → W (.ref C) (some d) σ (upd H1 d (.xd [(f, v)]))
theorem ps_raiseE {X : Cx} {x f : Str} {C fI : Addr} {fd : FuncData} {e : Expr} {te : TE} {W : WX} {p pos pos2 : Pos} (hc : X.calm = true) (T : ErC X.K C fI f) (F : FnOk X.prog X.w X.K X.mg X.base CX0 1 fI fd ["self", f] (spEI C f)) (bI : Binds X.K fd ["self", f] []) (hr : Room 2 X.A) (tk : Takes X W)
    (hg : Gl X x) (hm : X.mg x = some (.ref C)) (he : PE X e te) (hdb : (x == ("__debug__" : Str)) = false := by decide) (h2 : starEach (e :: []) X.env = (false, eval e X.env) :: starEach [] X.env := by rfl) (hpl : (backTo pos (starEach [] X.env)).any (·.1) = false := by rfl) :
    PS X (.Raise (some (.Call (.Name x p) [e] [] pos)) none pos2) (tRaiseE C f W te) := by
  refine ⟨fun pins s σ H D I h => (ps_raise hc tk (pmk_oex T.o T.ini T.ty F hr bI .nil pass0 hg hm (pa_arg he h2) hdb h2 hpl)).run pins s σ H D I ?_⟩
  refine ⟨_, h, fun v H1 k => ⟨by show 1 ≤ 1000; decide, fun a ha => ⟨a, v, rfl, upd_same, fun dx n1 n2 => ⟨rfl, dx, [(f, v)], upd_same, ?_, ?_, ?_⟩⟩⟩⟩
  · rw [upd_ne n2, upd_same]
  · rw [upd_ne n2] at n1
    exact n1
  · rw [upd_ne n2] at n1
    have e : upd (del (upd (upd (upd H1 a (exo a C none)) dx (exd dx [(f, v)])) a (exo a C (some dx))) a) dx (.xd [(f, v)]) = upd H1 dx (.xd [(f, v)]) := by
      funext b
      by_cases h1 : b = dx
      · rw [h1, upd_same, upd_same]
      · rw [upd_ne h1, upd_ne h1]
        by_cases h2 : b = a
        · rw [h2, del_same, ha]
        · rw [del_ne h2, upd_ne h2, upd_ne h1, upd_ne h2]
    rw [e]
    exact k dx n1
/-- what several clauses, each with the same name for the error, wish of an error of the body -/
def wEach (K : PySem.W.Frag) (Wout : WX) (D : Ends) (i : Nat) : List (Value × (Addr → Value → Option Addr → TS)) → WX
  | [] => Wout
  | y :: r => wAs K y.1 i y.2 (wEach K Wout D i r) D
/-- the clauses, with their suites' readings -/
inductive EachOk (X : Cx) (n : Str) : List ExceptHandler → List (Value × (Addr → Value → Option Addr → TS)) → Prop
  | nil : EachOk X n [] []
  | cons {x : Str} {c : Value} {ts : Addr → Value → Option Addr → TS} {b : Stmt} {bs : List Stmt} {p q : Pos} {hds : List ExceptHandler} {l : List (Value × (Addr → Value → Option Addr → TS))} (hc : Names X x c)
      (hs : ∀ (a : Addr) (oe : Obj) (cls : Value) (d : Option Addr) (pn : List (Addr × Obj)), Zc cls d oe → (∃ vs, oe.data = .fields vs) → PSs (X.suite a ((a, oe) :: pn)) (b :: bs) (ts a cls d)) (r : EachOk X n hds l) :
      EachOk X n (.ExceptHandler (some (.Name x p)) (some n) (b :: bs) q :: hds) ((c, ts) :: l)
section
variable {X : Cx} {n : Str} {i : Nat} {Wout : WX}
theorem each_land (hs : X.stack = X.env :: X.outer) (hf : X.env.frame = some X.env.locals) (hN : X.N.Nodup) (hi : X.N[i]? = some n) (hln : X.env.kindOf n = some .local) (tk : Takes X Wout) (ok : X.Ok) {pins : List (Addr × Obj)} {D : Ends} {a : Addr} {B : Heap} {sI s' : Shared} {σ : L2.St} {H : Hp} {cls : Value} {d : Option Addr} {h3 : Heap}
    (J : Inv X pins σ H sI) (nb : ∀ b o, sI.heap.get? b = some o → b ∉ frs X.stack → B.get? b = some o) (up : sI.heap.UpToSlots h3) (fl : HandSPX.FlyingZ B (X.env :: X.outer) a (Zc cls d) h3) (na : H a = none) (os : s'.os = sI.os) (ag : AllBare s'.gens) :
    ∀ {hds : List ExceptHandler} {l : List (Value × (Addr → Value → Option Addr → TS))}, EachOk X n hds l → wEach X.K Wout D i l cls d σ H → wpAny (model X.prog X.w) X.A (handleBy (.ref a) X.env hds) (SP X pins D) X.xe { s' with heap := h3 } := by
  have far : ∀ {h : Heap} {o : Obj} {vs : Array Value}, h.FunFrames B (X.env :: X.outer) → h.get? a = some o → o.data = .fields vs → a ≠ X.env.locals ∧ a ∉ X.fs := fun {h o vs} ff e dd => by
    have out : a ∉ frs (X.env :: X.outer) := fun m => by
      obtain ⟨_, o', e', z⟩ := ff.mem m
      rw [e] at e'
      cases e'
      exact z _ dd
    refine ⟨fun z => out (List.mem_filterMap.mpr ⟨X.env, List.mem_cons_self, by rw [hf, z]⟩), fun m => ?_⟩
    obtain ⟨e, he, q⟩ := List.mem_filterMap.mp m
    exact out (List.mem_filterMap.mpr ⟨e, List.mem_cons_of_mem _ he, q⟩)
  obtain ⟨oe3, vs3, he3, hz3, hd3⟩ := fl.there
  obtain ⟨nL, nF⟩ := far fl.2.2.1 he3 hd3
  have J3 : Inv X pins σ H { s' with heap := h3 } := J.landed nb fl.1 up os ag
  have S3 := J3.suite he3 hd3 na nL nF
  intro hds l hk
  induction hk with
  | nil =>
    intro w
    refine wpAny_handleBy_nil ?_
    obtain ⟨_, _, _, oe, vs, T, _, _, he, _, hd, h1, _⟩ := id fl
    unfold PySem.passOn
    refine wpAny_bind (wpAny_field he hd h1 ?_)
    rw [if_neg (show ¬ ((Value.ref T == Value.none) = true) from by simp)]
    have last : wpAny (model X.prog X.w) X.A (setFlight (.ref a) X.env.frame) (fun _ s4 => wpAny (model X.prog X.w) X.A (throw (.ref a) : Sem Flow) (SP X pins D) X.xe s4) X.xe { s' with heap := h3 } := by
      rw [hf]
      exact HandSPX.setFlight_upZ fl fun h4 hh up4 => wpAny_throw (tk _ _ ⟨a, B, sI, pins, σ, H, cls, d, rfl, J, nb, up.trans up4, .inr (.inr (by rw [hs]; exact hh)), na, os, ag, w⟩)
    first
      | exact wpAny_bind (wpAny_pure (wpAny_bind last))
      | exact wpAny_bind last
  | @cons x c ts b bs p q hds2 l2 hc hsu r ih =>
    intro w
    obtain ⟨t, ht, yes, no⟩ := w
    refine wpAny_handleBy_cons (codeAny_handlers_test ?_) (by intro q; cases q)
    have LM := PySem.W.exm_one (M := model X.prog X.w) J3.kIn (fun A Q E s k q => wpAny_typeOf_ref (k _ _ he3) (by rw [hz3.1]; exact q)) ht
    have named : ∀ {Q : Value → Shared → Prop} {E : Value → Shared → Prop}, Q c { s' with heap := h3 } → wpAny (model X.prog X.w) (X.A.mark (some (.ref a))) (eval (.Name x p) X.env) Q E { s' with heap := h3 } := fun {Q E} q => by
      obtain ⟨hg, hdbg, hm | ⟨hm, hv, hnn⟩⟩ := hc
      · exact ld_glob (X := X.suite a ((a, oe3) :: (X.pn ++ pins))) S3 hg hm q hdbg
      · exact ld_blt (X := X.suite a ((a, oe3) :: (X.pn ++ pins))) S3 hg hm hv q hnn hdbg
    refine named (LM.here ?_)
    cases t with
    | false => exact ih (no rfl)
    | true =>
      refine codeAny_handlers_suite_as ?_
      refine HandSPX.lands_againZ fl fun h4 fl4 up4 => ?_
      have J4 : Inv X pins σ H { s' with heap := h4 } := J.landed nb fl4.1 (up.trans up4) os ag
      obtain ⟨oe4, vs4, he4, hz4, hd4⟩ := fl4.there
      refine store_ok (X := X.suite a ((a, oe4) :: (X.pn ++ pins))) (v := .ref a) (J4.suite he4 hd4 na nL nF) hN hi (.inl hln) rfl (fun s5 S5 => ?_) (.inr hln)
      refine wpAny_mono ((hsu a oe4 cls d (X.pn ++ pins) hz4 ⟨_, hd4⟩).run [] s5 _ H _ S5 (yes rfl a na)) (fun f s6 e6 => ?_) (fun _ _ z => False.elim z)
      have away : ∀ {σ6 : L2.St} {H6 : Hp} {Q : Shared → Prop}, Inv (X.suite a ((a, oe4) :: (X.pn ++ pins))) [] σ6 H6 s6 → (∀ s7, Inv X pins (σ6.set i none) H6 s7 → Q s7) →
          wpAny (model X.prog X.w) X.A (do bindName X.env n .none; unbindBehindTheSuite X.env n q) (fun _ s7 => Q s7) X.xe s6 := fun {σ6 H6 Q} S6 hq => gone_ok (S6.unsuite ok) hN hi hln hq
      cases f with
      | next => exact let ⟨_, _, S6, q6⟩ := e6; away S6 fun _ J7 => ⟨_, _, J7, q6⟩
      | brk => exact let ⟨_, _, S6, q6⟩ := e6; away S6 fun _ J7 => ⟨_, _, J7, q6⟩
      | cont => exact let ⟨_, _, S6, q6⟩ := e6; away S6 fun _ J7 => ⟨_, _, J7, q6⟩
      | ret u => exact let ⟨_, _, _, S6, r6, q6⟩ := e6; away S6 fun _ J7 => ⟨_, _, _, J7, r6, q6⟩
/-- try with several clauses, each with the same name for the error -/
theorem ps_try_each {body : List Stmt} {tb : WX → TS} {h0 : ExceptHandler} {hds : List ExceptHandler} {l : List (Value × (Addr → Value → Option Addr → TS))} {pos : Pos} (hs : X.stack = X.env :: X.outer) (hf : X.env.frame = some X.env.locals) (hN : X.N.Nodup) (hi : X.N[i]? = some n) (hln : X.env.kindOf n = some .local) (tk : Takes X Wout)
    (hb : ∀ (W : WX) (pn : List (Addr × Obj)) (xe : Value → Shared → Prop), Takes (X.tr pn xe) W → PassesOwn (model X.prog X.w) X.A X.env xe → PSs (X.tr pn xe) body (tb W)) (hh : EachOk X n (h0 :: hds) l) :
    PS X (.Try body (h0 :: hds) [] [] pos) (fun D σ H => tb (wEach X.K Wout D i l) D σ H) := by
  refine ⟨fun pins s σ H D I h => ?_⟩
  have ok := I.ok
  have hfr : X.A.frames = some (X.env :: X.outer) := by rw [ok.frames, hs]
  refine wpAny_Try_except ?_
  refine wpAny_mono ((hb (wEach X.K Wout D i l) (X.pn ++ pins) (fun e s₁ => wpAny (model X.prog X.w) X.A (noteFrame e X.env) (fun _ s₂ => wpAny (model X.prog X.w) X.A (setFlight e none) (fun _ s₃ =>
    wpAny (model X.prog X.w) X.A (handleBy e X.env (h0 :: hds)) (SP X pins D) X.xe s₃) X.xe s₂) X.xe s₁) (fun u s' caught => ?_) PassesOwn.looking).run [] s σ H D (I.toTry _) h) (fun f s1 e1 => ?_) (fun _ _ he => he)
  · obtain ⟨a, B, sI, pins', σ', H', cls, d, rfl, J', nb, up, sky, na, os, ag, w⟩ := caught
    have sky' : Sky B (X.env :: X.outer) a (Zc cls d) X.env.locals s'.heap := by rw [← hs]; exact sky
    show wpAny (model X.prog X.w) X.A (noteFrame (.ref a) X.env) _ _ _
    refine Sky.land Zc.steady hfr hf sky' fun h3 fl3 up3 => ?_
    exact each_land hs hf hN hi hln tk ok (J'.ofTry ok) nb (up.trans up3) fl3 na os ag hh w
  · cases f with
    | next => exact let ⟨_, _, J, q⟩ := e1; wpAny_execs_nil ⟨_, _, J.ofTry ok, q⟩
    | brk => exact let ⟨_, _, J, q⟩ := e1; ⟨_, _, J.ofTry ok, q⟩
    | cont => exact let ⟨_, _, J, q⟩ := e1; ⟨_, _, J.ofTry ok, q⟩
    | ret u => exact let ⟨_, _, _, J, r, q⟩ := e1; ⟨_, _, _, J.ofTry ok, r, q⟩
end
end KP

set_option Elab.async false
set_option linter.all false
set_option maxRecDepth 100000
set_option maxHeartbeats 4000000
/-! ### rows that are refused: numbers behind a name -/
namespace KP
open PySem PySem.Spec PyProof.Rows L2 KX KT KJ KS FR PT SX
/-- rows of words -/
inductive Rws (H : Hp) : List V → List (List Cs) → Prop
  | nil : Rws H [] []
  | cons {v : V} {vs : List V} {r : List Cs} {rs : List (List Cs)} : Wds H v r → Rws H vs rs → Rws H (v :: vs) (r :: rs)
theorem Rws.sm {H H' : Hp} (s : Sm H H') : ∀ {vs : List V} {rs : List (List Cs)}, Rws H vs rs → Rws H' vs rs
  | _, _, .nil => .nil
  | _, _, .cons a b => .cons (a.sm s) (Rws.sm s b)
theorem Rws.len {H : Hp} : ∀ {vs : List V} {rs : List (List Cs)}, Rws H vs rs → vs.length = rs.length
  | _, _, .nil => rfl
  | _, _, .cons a b => by rw [List.length_cons, List.length_cons, Rws.len b]
theorem Rws.at {H : Hp} : ∀ {vs : List V} {rs : List (List Cs)} {i : Nat} {r : List Cs}, Rws H vs rs → rs[i]? = some r → ∃ v, vs[i]? = some v ∧ Wds H v r
  | _, _, _, _, .nil, h => by cases h
  | _, _, 0, _, .cons a b, h => by cases h; exact ⟨_, rfl, a⟩
  | _ :: vs, _ :: rs, i + 1, r, .cons a b, h => by
    have h' : rs[i]? = some r := h
    obtain ⟨v, e, q⟩ := Rws.at b h'
    exact ⟨v, e, q⟩
theorem Rws.drop {H : Hp} : ∀ {vs : List V} {rs : List (List Cs)} (k : Nat), Rws H vs rs → Rws H (vs.drop k) (rs.drop k)
  | _, _, 0, h => h
  | _, _, k + 1, .nil => .nil
  | _, _, k + 1, .cons a b => Rws.drop k b
theorem Rws.snoc {H : Hp} {v : V} {r : List Cs} (hv : Wds H v r) : ∀ {vs : List V} {rs : List (List Cs)}, Rws H vs rs → Rws H (vs ++ [v]) (rs ++ [r])
  | _, _, .nil => .cons hv .nil
  | _, _, .cons a b => .cons a (Rws.snoc hv b)
/-- of moderate size -/
structure Tame (rows : List (List Cs)) : Prop where
  n : rows.length ≤ 1000
  r : ∀ r ∈ rows, r.length ≤ 1000
  w : ∀ r ∈ rows, ∀ w ∈ r, w.length ≤ 640 ∧ ∀ c ∈ w, c < 128
theorem Grown.put {Ps : List Addr} {H H' : Hp} {D : Addr} {o : HO} (g : Grown Ps H H') (hD : H D = none) (tb : Tbs Ps H) : Grown Ps H (upd H' D o) := by
  refine ⟨fun b u e n => ?_, fun P hP => ?_⟩
  · rw [upd_ne (fun z => by rw [z, hD] at e; cases e)]
    exact g.sm b u e n
  · obtain ⟨ps, e, _⟩ := tb P hP
    obtain ⟨qs, e2, k2⟩ := g.tbs P hP
    exact ⟨qs, by rw [upd_ne (fun z => by rw [z, hD] at e; cases e)]; exact e2, k2⟩
theorem cutV_take1 (xs : List V) : cutV xs none (some 1) = xs.take 1 := by
  unfold cutV
  rw [HT.sIx_none, show (1 : Int) = ((1 : Nat) : Int) from rfl, HT.sIx_nat, List.drop_zero]
  cases xs with
  | nil => rfl
  | cons a r => rw [show min 1 (a :: r).length - 0 = 1 by simp only [List.length_cons]; omega]
theorem cutV_drop (xs : List V) (n : Nat) : cutV xs (some (n : Int)) none = xs.drop n := by
  unfold cutV
  rw [HT.sIx_none, HT.sIx_nat]
  by_cases h : n ≤ xs.length
  · rw [show min n xs.length = n by omega, List.take_of_length_le (by rw [List.length_drop]; exact Nat.le_refl _)]
  · rw [show min n xs.length = xs.length by omega, List.drop_of_length_le (Nat.le_refl _), List.take_nil, List.drop_of_length_le (by omega)]
theorem sL_take (ws : List Cs) (n : Nat) : (sL ws).take n = sL (ws.take n) := by
  unfold sL
  rw [List.map_take]
theorem sL_drop (ws : List Cs) (n : Nat) : (sL ws).drop n = sL (ws.drop n) := by
  unfold sL
  rw [List.map_drop]
def dL (ws : List Cs) : List PyData := ws.map fun w => PyData.str (S w)
theorem eqv_strs : ∀ (ws us : List Cs), PyData.eqvAll (dL ws) (dL us) = decide (ws = us)
  | [], [] => rfl
  | [], _ :: _ => rfl
  | _ :: _, [] => rfl
  | w :: ws, u :: us => by
    show (PyData.eqv (.str (S w)) (.str (S u)) && PyData.eqvAll (dL ws) (dL us)) = _
    rw [eqv_strs ws us]
    have : PyData.eqv (.str (S w)) (.str (S u)) = decide (w = u) := by
      simp only [PyData.eqv]
      exact S_beq_eq
    rw [this, Bool.eq_iff_iff, Bool.and_eq_true, decide_eq_true_iff, decide_eq_true_iff, decide_eq_true_iff, List.cons.injEq]
theorem dps_strs {K : PySem.W.Frag} {H : Hp} : ∀ ws : List Cs, DpAll K H (sL ws) (dL ws)
  | [] => .nil
  | _ :: ws => .cons (.str _) (dps_strs ws)
theorem dps_oV {K : PySem.W.Frag} {H : Hp} : ∀ os : List (Option Int), DpAll K H (os.map oV) (os.map PT.oD)
  | [] => .nil
  | o :: os => .cons ((oV_th H o).dp (by cases o <;> rfl)) (dps_oV os)
theorem shaped_oD (os : List (Option Int)) : SeqAt.shaped (.tuple (os.map PT.oD)) = true := by
  refine shaped_of ?_ ?_
  · simp only [PyData.canLay0]
    induction os with
    | nil => rfl
    | cons o os ih =>
      simp only [List.map_cons, PyData.canLayAll0, Bool.and_eq_true]
      exact ⟨by cases o <;> rfl, ih⟩
  · simp only [PyData.depth]
    have := depthAll_of (n := 1) (ds := os.map PT.oD) fun d hd => by
      obtain ⟨o, _, rfl⟩ := List.mem_map.mp hd
      cases o <;> simp [PT.oD, PyData.depth]
    omega
theorem any_none (ws : List Cs) : ((ws.map numW).map PT.oD).any (fun z => PyData.eqv z .none) = !(ws.all isNum) := by
  induction ws with
  | nil => rfl
  | cons w ws ih =>
    simp only [List.map_cons, List.any_cons, List.all_cons]
    rw [ih]
    unfold numW
    cases isNum w <;> simp [PT.oD, PyData.eqv]
theorem all_oV {ws : List Cs} (h : ws.all isNum = true) : (ws.map numW).map oV = (ws.map valN).map V.int := by
  induction ws with
  | nil => rfl
  | cons w ws ih =>
    rw [List.all_cons, Bool.and_eq_true] at h
    simp only [List.map_cons]
    rw [ih h.2]
    unfold numW
    rw [h.1]
    rfl
/-- refused by a number, all else as it was -/
def Refuse (Ct : Addr) (Ps : List Addr) (i : Int) (H : Hp) (E : XK) : Prop := ∀ d H', Grown Ps H H' → H' d = some (.xd [("index", .int i)]) → E (.ref Ct) (some d) H'
theorem Refuse.mono {Ct : Addr} {Ps : List Addr} {i : Int} {H H1 : Hp} {E : XK} (g : Grown Ps H H1) (h : Refuse Ct Ps i H E) : Refuse Ct Ps i H1 E := fun d H' g' e => h d H' (g.trans g') e
def spNumsAt (Ct : Addr) (Ps : List Addr) : Sp := fun vs H Q E => ∃ (a : Addr) (vr : List V) (rows : List (List Cs)) (i : Nat) (nm : Cs), vs = [.ref a, .int i, .str (S nm)] ∧ H a = some (.lst vr) ∧ Rws H vr rows ∧ Tame rows ∧ (∀ c ∈ nm, c < 128) ∧ Tbs Ps H ∧
  (∀ f, numsAt rows i nm = some f → ∀ q H', Grown Ps H H' → H' q = some (.tup (f.map V.int)) → Q (.ref q) H') ∧ (numsAt rows i nm = none → Refuse Ct Ps i H E)
def spCountAt (Ct : Addr) (Ps : List Addr) : Sp := fun vs H Q E => ∃ (a : Addr) (vr : List V) (rows : List (List Cs)) (i : Nat) (nm : Cs), vs = [.ref a, .int i, .str (S nm)] ∧ H a = some (.lst vr) ∧ Rws H vr rows ∧ Tame rows ∧ (∀ c ∈ nm, c < 128) ∧ Tbs Ps H ∧
  (∀ n, countAt rows i nm = some n → ∀ H', Grown Ps H H' → Q (.int n) H') ∧ (countAt rows i nm = none → Refuse Ct Ps i H E)
theorem raise_at {Ct : Addr} {Ps : List Addr} {i : Int} {H : Hp} {E : XK} (h : Refuse Ct Ps i H E) (tb : Tbs Ps H) : ∀ d, H d = none → E (.ref Ct) (some d) (upd H d (.xd [("index", .int i)])) := fun d hd => h d _ (Grown.same (same_upd hd) tb) upd_same
theorem yes_do {te : TE} {σ : L2.St} {H : Hp} {K : VK} {Z : Hp → Prop} (h : te σ H K) : tYes σ H fun b H3 => if b = true then te σ H3 K else Z H3 := by
  show (if true = true then te σ H K else Z H)
  rw [if_pos rfl]
  exact h
theorem nx_go {D : Ends} {σ : L2.St} {H : Hp} (h : D.nx σ H) : tNext D σ H := h
theorem i_asgThen {ta : TE} {k : V → Hp → VK → Prop} {i : Nat} {tz : TS} {D : Ends} {σ : L2.St} {H : Hp} (h : ta σ H fun v H1 => k v H1 fun x H2 => tz D (σ.set i (some x)) H2) : tSeq (tAsg (tThen ta k) (gName i)) tz D σ H := h
theorem at_nat {xs : List V} {i : Nat} {v : V} (h : xs[i]? = some v) : atI xs ((i : Nat) : Int) = some v := by
  obtain ⟨hlt, he⟩ := List.getElem?_eq_some_iff.mp h
  unfold atI ixN
  simp [hlt, he]
section
variable {K : PySem.W.Frag} {σ : L2.St} {H : Hp}
/-- [number_from(word) for word in ..] -/
theorem lc_numbers {Ps : List Addr} {E : XK} {te : TE} {j : Nat} {vs : List Nat} {ws : List Cs} {Q : VK} (h : ∀ R : VK, (∀ a H', Same H H' → H' a = some (.lst (sL ws)) → R (.ref a) H') → te σ H R) (hw : ∀ w ∈ ws, w.length ≤ 640) (hn : ws.length ≤ 1000) (tb : Tbs Ps H)
    (hwp : ∀ x : V, wipe ((wipe σ vs).set j (some x)) vs = wipe σ vs) (hj : ∀ x : V, ((wipe σ vs).set j (some x))[j]? = some (some x)) (k : ∀ a H', Grown Ps H H' → H' a = some (.lst ((ws.map numW).map oV)) → Q (.ref a) H') :
    tLc (iList K te) (gName j) tYes (tCall (spNumber Ps) [] E (tCons (tVar j) tNil)) vs σ H Q := by
  refine h _ fun a H1 s1 ha => ⟨a, rfl, ⟨_, SqL.of ha⟩, fun D hD => ?_⟩
  have tb1 := (Grown.same s1 tb).tbs
  refine lc_it (walk_list (K := K) (a := a) (xs := sL ws)) (fun n H' => Grown Ps H1 H' ∧ H' D = some (.lst (((ws.take n).map numW).map oV))) ⟨Grown.put (Grown.same (Same.refl H1) tb1) hD tb1, upd_same⟩ (fun n H' _ z => SqL.of (lst_sm z.1.sm ha)) ?_ ?_
  · rintro i x _ H' hi ⟨g, e⟩ ⟨rfl, hx⟩
    obtain ⟨w, hw', rfl⟩ := sL_at hx
    refine ⟨hwp _, ?_⟩
    refine yes_do (te := tCall (spNumber Ps) [] E (tCons (tVar j) tNil)) ?_
    refine a_call (ai_cons (vi_var (hj _)) ai_nil) ⟨w, rfl, hw w (List.mem_of_getElem? hw'), g.tbs, fun H2 g2 => ?_⟩
    have eq : ws.take (i + 1) = ws.take i ++ [w] := by rw [List.take_add_one, hw']; rfl
    refine ⟨_, lst_sm g2.sm e, ?_, Grown.put (g.trans g2) hD tb1, ?_⟩
    · rw [List.length_map, List.length_map, List.length_take]
      exact Nat.lt_of_le_of_lt (show _ ≤ 1000 by omega) (by decide)
    · rw [upd_same, eq, List.map_append, List.map_append]
      rfl
  · rintro H' ⟨g, e⟩
    rw [sL_len, List.take_length] at e
    exact k D H' ((Grown.same s1 tb).trans g) e
end
section
variable {P : Program} {w : World} {K : PySem.W.Frag} {mg : Str → Option Value} {base : Heap}
end
end KP

set_option Elab.async false
set_option linter.all false
set_option maxRecDepth 100000
set_option maxHeartbeats 4000000
/-! ### rows that are refused: one number, pipes -/
namespace KP
open PySem PySem.Spec PyProof.Rows L2 KX KT KJ KS FR PT SX
def spPipesFrom (Ct : Addr) (Ps : List Addr) : Sp := fun vs H Q E => ∃ (a : Addr) (vr : List V) (rows : List (List Cs)) (i : Nat), vs = [.ref a, .int i] ∧ H a = some (.lst vr) ∧ Rws H vr rows ∧ Tame rows ∧ Tbs Ps H ∧
  (∀ ps, pipesFrom (rows.drop i) = .inr ps → ∀ q xs H', Grown Ps H H' → H' q = some (.tup xs) → ThAll H' xs ps → Q (.ref q) H') ∧ (∀ k : Nat, pipesFrom (rows.drop i) = .inl k → Refuse Ct Ps ((i : Int) + (k : Int)) H E)
def preP (ps : List PyData) : Nat ⊕ List PyData → Nat ⊕ List PyData
  | .inl k => .inl (ps.length + k)
  | .inr qs => .inr (ps ++ qs)
theorem preP_nil (r : Nat ⊕ List PyData) : preP [] r = r := by
  cases r with
  | inl k => show Sum.inl (0 + k) = _; rw [Nat.zero_add]
  | inr qs => rfl
theorem preP_step {ps : List PyData} {r : List Cs} {rs : List (List Cs)} {d : PyData} (h : r.take 1 = [cPipe]) (hd : pipeW r = some d) : preP ps (pipesFrom (r :: rs)) = preP (ps ++ [d]) (pipesFrom rs) := by
  have e : pipesFrom (r :: rs) = match pipesFrom rs with
      | .inl k => .inl (k + 1)
      | .inr qs => .inr (d :: qs) := by
    show (if r.take 1 = [cPipe] then _ else _) = _
    rw [if_pos h, hd] <;> rfl
  rw [e]
  cases pipesFrom rs with
  | inl k => show Sum.inl (ps.length + (k + 1)) = Sum.inl ((ps ++ [d]).length + k); rw [List.length_append, List.length_singleton]; congr 1; omega
  | inr qs => show Sum.inr (ps ++ d :: qs) = Sum.inr (ps ++ [d] ++ qs); rw [List.append_assoc]; rfl
theorem pipe_tp {r : List Cs} {d : PyData} (h : pipeW r = some d) : tpD d = true ∧ d ≠ .none := by
  have fr : ∀ {w d}, fracW w = some d → tpD d = true := fun {w d} h => by
    unfold fracW at h
    split at h
    · cases h
      simp [tpD, tpAll]
    · cases h
  have sh : ∀ {w d}, shareW w = some d → tpD d = true := fun {w d} h => by
    unfold shareW at h
    split at h
    · cases q : numW (w.drop 1) with
      | none => rw [q] at h; cases h
      | some n => rw [q] at h; cases h; simp [tpD, tpAll]
    · exact fr h
  unfold pipeW at h
  split at h
  · rename_i a b c
    unfold pipeAt at h
    split at h
    · rename_i s d' _ q
      split at h
      · cases h
      · cases h
        refine ⟨?_, fun z => by cases z⟩
        have := sh q
        cases numW b <;> simp [tpD, tpAll, PT.oD, this]
    · cases h
  · cases h
def oneOf : List Int → Option Int
  | [n] => some n
  | _ => none
theorem count_some {rows : List (List Cs)} {i : Nat} {nm : Cs} {fs : List Int} (h : numsAt rows i nm = some fs) : countAt rows i nm = oneOf fs := by
  unfold countAt
  rw [h]
  match fs with
  | [] => rfl
  | [n] => rfl
  | _ :: _ :: _ => rfl
theorem oneOf_not {fs : List Int} (h : fs.length ≠ 1) : oneOf fs = none := by
  match fs, h with
  | [], _ => rfl
  | [n], h => exact absurd rfl h
  | _ :: _ :: _, _ => rfl
theorem oneOf_one {fs : List Int} (h : fs.length = 1) : ∃ n, fs = [n] := by
  match fs, h with
  | [n], _ => exact ⟨n, rfl⟩
theorem i_setCallS {sp : Sp} {E : L2.St → XK} {ta : TA} {tz : TS} {D : Ends} {σ : L2.St} {H : Hp} {i : Nat} {vs : List V} (h : Ai ta σ H vs) (k : sp vs H (fun v H' => tz D (σ.set i (some v)) H') (E σ)) : tSeq (tAsg (tCallS sp E ta) (gName i)) tz D σ H := h _ k
theorem pipe_eq : ("pipe" : Str) = S cPipe := by decide +kernel
section
variable {P : Program} {w : World} {K : PySem.W.Frag} {mg : Str → Option Value} {base : Heap}
end
end KP

set_option Elab.async false
set_option linter.all false
set_option maxRecDepth 100000
set_option maxHeartbeats 4000000
/-! ### a text, read as a net or refused -/
namespace KP
open PySem PySem.Spec PyProof.Rows L2 KX KT KJ KS FR PT SX
theorem i_asg {te : TE} {i : Nat} {tz : TS} {D : Ends} {σ : L2.St} {H : Hp} (h : te σ H fun v H1 => tz D (σ.set i (some v)) H1) : tSeq (tAsg te (gName i)) tz D σ H := h
def rowsT (t : Cs) : List (List Cs) := (splitC 10 t).map wordsW
def netD (m u : PyData) (ps : List PyData) (f s : PyData) : PyData := .tuple [m, u, .tuple ps, f, s]
theorem Rws.put {H : Hp} {D : Addr} {o : HO} : ∀ {vs : List V} {rs : List (List Cs)}, Rws H vs rs → (∀ y ∈ vs, y ≠ .ref D) → Rws (upd H D o) vs rs
  | _, _, .nil, _ => .nil
  | _, _, .cons a b, n => by
    refine .cons ?_ (Rws.put b fun y hy => n y (List.mem_cons_of_mem _ hy))
    obtain ⟨c, rfl, e⟩ := a
    exact ⟨c, rfl, by rw [upd_ne (fun z => n _ List.mem_cons_self (by rw [z]))]; exact e⟩
theorem tanks_eq : ("tanks" : Str) = S cTanks := by decide +kernel
theorem unk_eq : ("unknowns" : Str) = S cUnk := by decide +kernel
theorem filled_eq : ("filled" : Str) = S cFilled := by decide +kernel
theorem seen_eq : ("seen" : Str) = S cSeen := by decide +kernel
/-- a text of moderate size -/
structure TameT (t : Cs) : Prop where
  n : t.length ≤ 100000
  r : Tame (rowsT t)
theorem TameT.split {t : Cs} (h : TameT t) : (splitC 10 t).length ≤ 1000 := by
  have := h.r.n
  unfold rowsT at this
  rwa [List.length_map] at this
/-- how a text is refused -/
def RefNet (Cn : Addr) (Ps : List Addr) (d : PyData) (H : Hp) (E : XK) : Prop := ∀ e v H', Grown Ps H H' → H' e = some (.xd [("given", v)]) → Th H' v d → E (.ref Cn) (some e) H'
def Told2 (Ct Cn : Addr) (Ps : List Addr) (H : Hp) (Q : VK) (E : XK) : PT.Rd → Prop
  | .row i => Refuse Ct Ps i H E
  | .form m u ps f s => (isNet (netD m u ps f s) = true → ∀ v H', Grown Ps H H' → Th H' v (netD m u ps f s) → Q v H') ∧ (isNet (netD m u ps f s) = false → RefNet Cn Ps (netD m u ps f s) H E)
def spNetOf (Ct Cn : Addr) (Ps : List Addr) : Sp := fun vs H Q E => ∃ t : Cs, vs = [.str (S t)] ∧ TameT t ∧ Tbs Ps H ∧ Told2 Ct Cn Ps H Q E (progR (rowsT t))
section
variable {K : PySem.W.Frag} {σ : L2.St} {H : Hp}
/-- [words_of(row) for row in text.split("\n")] -/
theorem lc_rowsof {E : XK} {te : TE} {j : Nat} {vs : List Nat} {t : Cs} {Q : VK} (h : Vi te σ H (.str (S t))) (hl : t.length ≤ 100000) (hn : (splitC 10 t).length ≤ 1000)
    (hw : ∀ x : V, wipe ((wipe σ vs).set j (some x)) vs = wipe σ vs) (hj : ∀ x : V, ((wipe σ vs).set j (some x))[j]? = some (some x)) (k : ∀ a vr H', Same H H' → H' a = some (.lst vr) → Rws H' vr (rowsT t) → Q (.ref a) H') :
    tLc (iList K (tM1 (fun x xs H Q => ∃ a b, x = .str a ∧ xs = [.str b] ∧ (b.length == 0) = false ∧ a.length + 2 ≤ sizeLine ∧ rNewStrs (Txt.split a b) H Q) te (tC (.str "\n")))) (gName j) tYes (tCall (spWords K) [] E (tCons (tVar j) tNil)) vs σ H Q := by
  refine h _ ⟨⟨_, rfl⟩, S t, "\n", rfl, rfl, rfl, ?_, fun p hp => ?_⟩
  · rw [S_len]
    exact Nat.le_trans (show _ ≤ 100002 by omega) (by decide)
  have es : (Txt.split (S t) "\n").map V.str = sL (splitC 10 t) := by
    rw [nl_eq, split_eq (by decide), List.map_map]
    rfl
  rw [es]
  refine ⟨p, rfl, ⟨_, SqL.of upd_same⟩, fun D hD => ?_⟩
  have sp := same_upd (o := .lst (sL (splitC 10 t))) hp
  refine lc_map (walk_list (K := K) (a := p) (xs := sL (splitC 10 t))) (fun H' ys i => (Rws H' ys (((splitC 10 t).take i).map wordsW) ∧ ∀ y ∈ ys, y ≠ .ref D) ∧ i ≤ (splitC 10 t).length) hD (by rw [sL_len]; exact hn) (fun _ _ i q => by rw [q.1.1.len, List.length_map, List.length_take]; have := q.2; omega) ⟨⟨.nil, fun y hy => by cases hy⟩, Nat.zero_le _⟩
    (fun H' s => SqL.of (s _ _ upd_same)) hw ?_ ?_
  · rintro i x _ H' xs hi s e hlx ⟨⟨q, nd⟩, hle⟩ ⟨rfl, hx⟩
    obtain ⟨r, er, rfl⟩ := sL_at hx
    have hr := splitC_part 10 t r (List.mem_of_getElem? er)
    refine a_call (ai_cons (vi_var (hj _)) ai_nil) ⟨r, rfl, by omega, fun a H2 na s2 ha => ?_⟩
    have e2 := s2 _ _ e
    have naD : a ≠ D := fun z => by rw [z, e] at na; cases na
    refine aft hD (s.trans s2) e2 hlx ⟨⟨?_, fun y hy => ?_⟩, by rw [sL_len] at hi; omega⟩
    · rw [List.take_add_one, er, Option.toList_some, List.map_append]
      refine Rws.snoc ⟨a, rfl, by rw [upd_ne naD]; exact ha⟩ ?_
      exact Rws.put (q.sm (Sm.same s2)) nd
    · rcases List.mem_append.mp hy with h | h
      · exact nd y h
      · rw [List.mem_singleton.mp h]
        exact fun z => naD (by cases z; rfl)
  · rintro H' xs s e ⟨⟨q, _⟩, _⟩
    rw [sL_len, List.take_length] at q
    exact k D xs H' (sp.trans s) e q
end
section
variable {P : Program} {w : World} {K : PySem.W.Frag} {mg : Str → Option Value} {base : Heap}
end
end KP

set_option Elab.async false
set_option linter.all false
set_option maxRecDepth 100000
set_option maxHeartbeats 4000000
/-! ### the law's own reading: shares and rows -/
namespace KP
open PySem PySem.Spec PyProof.Rows L2 KX KT KJ KS FR PT SX
section
variable {K : PySem.W.Frag} {σ : L2.St} {H : Hp}
theorem tg_and {t u : TT} {a b : Bool} (h : Tg t σ H a) (h2 : a = true → ∀ H', Same H H' → Tg u σ H' b) : Tg (tAnd t u) σ H (a && b) := fun Q q => h _ fun H' s => by
  cases a with
  | true => rw [if_pos rfl]; exact h2 rfl H' s _ fun H2 s2 => q H2 (s.trans s2)
  | false => rw [if_neg Bool.false_ne_true]; exact q H' s
theorem g_when {t : TT} {tu tz : TS} {b : Bool} {D : Ends} (h : Tg t σ H b) (h1 : b = true → ∀ H', Same H H' → tu { D with nx := tz D } σ H') (h2 : b = false → ∀ H', Same H H' → tz D σ H') : tSeq (tIfS t tu tNext) tz D σ H := h _ fun H' s => by
  cases b with
  | true => rw [if_pos rfl]; exact h1 rfl H' s
  | false => rw [if_neg Bool.false_ne_true]; exact h2 rfl H' s
theorem g_ife {t : TT} {ta tb : TE} {b : Bool} {Q : VK} (h : Tg t σ H b) (h1 : b = true → ∀ H', Same H H' → ta σ H' Q) (h2 : b = false → ∀ H', Same H H' → tb σ H' Q) : tIf t ta tb σ H Q := h _ fun H' s => by
  cases b with
  | true => rw [if_pos rfl]; exact h1 rfl H' s
  | false => rw [if_neg Bool.false_ne_true]; exact h2 rfl H' s
theorem vi_if {t : TT} {ta tb : TE} {b : Bool} {v u : V} (h : Ti t σ H b) (h1 : b = true → Vi ta σ H v) (h2 : b = false → Vi tb σ H u) : Vi (tIf t ta tb) σ H (if b = true then v else u) := fun Q q => h _ (by
  cases b with
  | true => rw [if_pos rfl]; rw [if_pos rfl] at q; exact h1 rfl Q q
  | false => rw [if_neg Bool.false_ne_true]; rw [if_neg Bool.false_ne_true] at q; exact h2 rfl Q q)
theorem vi_same {te : TE} {v u : V} (h : Vi te σ H v) (e : v = u) : Vi te σ H u := e ▸ h
theorem vi_intW {te : TE} {w : Cs} (h : Vi te σ H (.str (S w))) (hn : isNum w = true) (hl : w.length ≤ 640) : Vi (tCB (fun xs H Q => ∃ a n, xs = [.str a] ∧ PySem.intText? a = some n ∧ a.length ≤ 640 ∧ Q (.int n) H) (tCons te tNil)) σ H (.int (valN w)) :=
  vi_cb (ai_cons h ai_nil) fun Q q => ⟨_, _, rfl, int_ok hn (by omega), by rw [S_len]; exact hl, q⟩
/-- [f(word) for word in words], what f is not changed by -/
theorem lc_wmap {ti te : TE} {j : Nat} {vs : List Nat} {ws : List Cs} {Q : VK} {g : Cs → V} (h : ∀ R : VK, (∀ a H', Same H H' → H' a = some (.lst (sL ws)) → R (.ref a) H') → ti σ H R) (hn : ws.length ≤ 1000)
    (hw : ∀ x : V, wipe ((wipe σ vs).set j (some x)) vs = wipe σ vs) (he : ∀ w ∈ ws, ∀ H', Same H H' → Vg te ((wipe σ vs).set j (some (.str (S w)))) H' (g w)) (k : ∀ a H', Same H H' → H' a = some (.lst (ws.map g)) → Q (.ref a) H') :
    tLc (iList K ti) (gName j) tYes te vs σ H Q := by
  refine h _ fun a H1 s1 ha => ⟨a, rfl, ⟨_, SqL.of ha⟩, fun D hD => ?_⟩
  refine lc_map (walk_list (K := K) (a := a) (xs := sL ws)) (fun H' ys i => ys = (ws.take i).map g ∧ i ≤ ws.length) hD (by rw [sL_len]; exact hn) (fun _ _ i q => by rw [q.1, List.length_map, List.length_take]; have := q.2; omega) ⟨rfl, Nat.zero_le _⟩
    (fun H' s => SqL.of (s _ _ ha)) hw ?_ ?_
  · rintro i x _ H' xs hi s e hlx ⟨q, hle⟩ ⟨rfl, hx⟩
    obtain ⟨w, ew, rfl⟩ := sL_at hx
    refine he w (List.mem_of_getElem? ew) H' (s1.trans s) _ fun H2 s2 => ?_
    refine aft hD (s.trans s2) (s2 _ _ e) hlx ⟨?_, by rw [sL_len] at hi; omega⟩
    rw [q, List.take_add_one, ew, List.map_append]
    rfl
  · rintro H' xs s e ⟨q, _⟩
    rw [sL_len, List.take_length] at q
    rw [q] at e
    exact k D H' (s1.trans s) e
theorem cb1 {r : List V → Hp → VK → Prop} {te : TE} {Q : VK} (h : te σ H fun v H1 => r [v] H1 Q) : tCB r (tCons te tNil) σ H Q := h
theorem all_bl (ws : List Cs) (p : Cs → Bool) : (ws.map p).all id = ws.all p := by
  rw [List.all_map]
  rfl
/-- all([_law_digits(word) for word in words]) -/
theorem vg_alldig {E : XK} {ti : TE} {j : Nat} {vs : List Nat} {ws : List Cs} (h : ∀ R : VK, (∀ a H', Same H H' → H' a = some (.lst (sL ws)) → R (.ref a) H') → ti σ H R) (hn : ws.length ≤ 1000) (hl : ∀ w ∈ ws, w.length ≤ 640 ∧ ∀ c ∈ w, c < 128)
    (hw : ∀ x : V, wipe ((wipe σ vs).set j (some x)) vs = wipe σ vs) (hj : ∀ x : V, ((wipe σ vs).set j (some x))[j]? = some (some x)) :
    Vg (tCB (rAll K) (tCons (tLc (iList K ti) (gName j) tYes (tCall (spDigits K) [] E (tCons (tVar j) tNil)) vs) tNil)) σ H (.bl (ws.all isNum)) := fun Q q => by
  refine cb1 ?_
  refine lc_wmap (g := fun w => V.bl (isNum w)) h hn hw (fun w hm H' s Q' q' => ?_) fun a H' s ha => ?_
  · exact a_call (ai_cons (vi_var (hj _)) ai_nil) ⟨w, rfl, (hl w hm).1, (hl w hm).2, q'⟩
  · refine ⟨a, ws.map isNum, rfl, SqL.of (by rw [ha, List.map_map]; rfl), ?_⟩
    rw [all_bl]
    exact q H' s
theorem tg_dig {E : XK} {te : TE} {w : Cs} (h : Vi te σ H (.str (S w))) (hl : w.length ≤ 640) (ha : ∀ c ∈ w, c < 128) : Tg (tB (tCall (spDigits K) [] E (tCons te tNil))) σ H (isNum w) := tg_val fun Q q => a_call (ai_cons h ai_nil) ⟨w, rfl, hl, ha, q⟩
end
theorem strEq (w u : Cs) : decide (V.str (S w) = V.str (S u)) = decide (w = u) := by
  rw [Bool.eq_iff_iff, decide_eq_true_iff, decide_eq_true_iff]
  exact ⟨fun h => S_inj (V.str.inj h), fun h => by rw [h]⟩
section
variable {K : PySem.W.Frag} {σ : L2.St} {H : Hp}
theorem lst_none {Q : VK} (k : ∀ l, H l = none → Q (.ref l) (upd H l (.lst []))) : tLst tNil σ H Q := ⟨Nat.zero_le _, k⟩
theorem lst_tup2 {ta tb : TE} {v u : V} {Q : VK} (ha : Vi ta σ H v) (hb : Vi tb σ H u) (k : ∀ p l, H p = none → (upd H p (.tup [v, u])) l = none → Q (.ref l) (upd (upd H p (.tup [v, u])) l (.lst [.ref p]))) :
    tLst (tCons (tTup (tCons ta (tCons tb tNil))) tNil) σ H Q := ha _ (hb _ ⟨(by show 2 ≤ sizeLine; decide), fun p hp => ⟨(by show 1 ≤ sizeLine; decide), fun l hl => k p l hp hl⟩⟩)
theorem vi_lenS {te : TE} {a : Addr} {ws : List Cs} (h : Vi te σ H (.ref a)) (e : H a = some (.lst (sL ws))) : Vi (tCB (rLen K) (tCons te tNil)) σ H (.int (ws.length : Nat)) := vi_cb (ai_cons h ai_nil) fun Q q => ⟨a, _, rfl, .inl (SqL.of e), by rw [sL_len]; exact q⟩
theorem vi_gtN {ta : TE} {n m : Nat} {c : Int} (hc : c = (m : Int)) (h : Vi ta σ H (.int (n : Nat))) : Vi (tOp (rI0 fun i j => .bl (decide (j < i))) ta (tC (.int c))) σ H (.bl (decide (m < n))) := vi_op h vi_c fun Q q => ⟨_, _, rfl, rfl, by
  dsimp only
  have : decide (c < (n : Int)) = decide (m < n) := by rw [Bool.eq_iff_iff, decide_eq_true_iff, decide_eq_true_iff]; omega
  rw [this]
  exact q⟩
theorem vi_eqN {ta : TE} {n m : Nat} {c : Int} (hc : c = (m : Int)) (h : Vi ta σ H (.int (n : Nat))) : Vi (tOp rEq ta (tC (.int c))) σ H (.bl (decide (n = m))) := vi_op h vi_c fun Q q => ⟨rfl, by rw [hc, int_dec]; exact q⟩
theorem vi_neN {ta : TE} {n m : Nat} {c : Int} (hc : c = (m : Int)) (h : Vi ta σ H (.int (n : Nat))) : Vi (tOp rNe ta (tC (.int c))) σ H (.bl (!decide (n = m))) := vi_op h vi_c fun Q q => ⟨rfl, by rw [hc, int_dec]; exact q⟩
end
theorem ite_str {b : Bool} {w u : Cs} : (if b = true then V.str (S w) else V.str (S u)) = V.str (S (if b = true then w else u)) := by cases b <;> rfl
theorem ite_int {b : Bool} {i j : Int} : (if b = true then V.int i else V.int j) = V.int (if b = true then i else j) := by cases b <;> rfl
/-- a new list of what is told, or of nothing -/
def NewL (H H' : Hp) (l : Addr) (o : Option PyData) : Prop := Same H H' ∧ H l = none ∧ (match o with
  | none => H' l = some (.lst [])
  | some d => ∃ u, H' l = some (.lst [u]) ∧ Th (tO H') u d)
def spShareL : Sp := fun vs H Q _ => ∃ w : Cs, vs = [.str (S w)] ∧ w.length ≤ 640 ∧ (∀ c ∈ w, c < 128) ∧ ∀ l H', NewL H H' l (shareW w) → Q (.ref l) H'
section
variable {P : Program} {w : World} {K : PySem.W.Frag} {mg : Str → Option Value} {base : Heap}
end
end KP

set_option Elab.async false
set_option linter.all false
set_option maxRecDepth 100000
set_option maxHeartbeats 4000000
/-! ### the law's own reading: rows -/
namespace KP
open PySem PySem.Spec PyProof.Rows L2 KX KT KJ KS FR PT SX
theorem shaped_str {w : Cs} (h : ∀ c ∈ w, c < 128) : SeqAt.shaped (.str (S w)) = true := by
  refine shaped_of ?_ (by simp [PyData.depth])
  simp only [PyData.canLay0, PyData.strOk]
  rw [← Array.all_toList, List.all_eq_true]
  intro c hc
  have := h c hc
  exact decide_eq_true (by omega)
theorem shaped_str2 {w u : Cs} (h : ∀ c ∈ w, c < 128) (h2 : ∀ c ∈ u, c < 128) : SeqAt.shaped (.tuple [.str (S w), .str (S u)]) = true := by
  have key : ∀ {w : Cs}, (∀ c ∈ w, c < 128) → PyData.strOk (S w) = true := fun {w} h => by
    simp only [PyData.strOk]
    rw [← Array.all_toList, List.all_eq_true]
    intro c hc
    have := h c hc
    exact decide_eq_true (by omega)
  refine shaped_of ?_ (by simp [PyData.depth, PyData.depthAll])
  simp only [PyData.canLay0, PyData.canLayAll0, Bool.and_eq_true]
  exact ⟨key h, key h2, trivial⟩
theorem eqv_str (w u : Cs) : PyData.eqv (.str (S w)) (.str (S u)) = decide (w = u) := by
  simp only [PyData.eqv]
  exact S_beq_eq
theorem share_lay {w : Cs} {d : PyData} (h : shareW w = some d) : SeqAt.shaped (.list [d]) = true ∧ d.hasDict = false := by
  have fr : ∀ {w d}, fracW w = some d → ∃ i j, d = .tuple [.int i, .int j] := fun {w d} h => by
    unfold fracW at h
    split at h
    · cases h
      exact ⟨_, _, rfl⟩
    · cases h
  have pr : ∀ (d : PyData), (d.canLay0 = true) → d.depth ≤ 2 → SeqAt.shaped (.list [d]) = true := fun d a b => by
    refine shaped_of ?_ ?_
    · simp only [PyData.canLay0, PyData.canLayAll0, a]
      rfl
    · simp only [PyData.depth, PyData.depthAll]
      omega
  unfold shareW at h
  split at h
  · cases q : numW (w.drop 1) with
    | none => rw [q] at h; cases h
    | some n =>
      rw [q] at h
      cases h
      exact ⟨pr _ (by simp only [PyData.canLay0, PyData.canLayAll0]; decide +kernel) (by simp [PyData.depth, PyData.depthAll]), by simp [PyData.hasDict, PyData.hasDictAll]⟩
  · obtain ⟨i, j, rfl⟩ := fr h
    exact ⟨pr _ (by simp [PyData.canLay0, PyData.canLayAll0]) (by simp [PyData.depth, PyData.depthAll]), by simp [PyData.hasDict, PyData.hasDictAll]⟩
section
variable {K : PySem.W.Frag} {σ : L2.St} {H : Hp}
theorem cons_then {ta : TE} {k : V → Hp → VK → Prop} {QA : List V → Hp → Prop} (h : ta σ H fun v H1 => k v H1 fun x H2 => QA [x] H2) : tCons (tThen ta k) tNil σ H QA := h
theorem cons_vi {te : TE} {ta : TA} {v : V} {QA : List V → Hp → Prop} (h : Vi te σ H v) (h2 : ta σ H fun vs H1 => QA (v :: vs) H1) : tCons te ta σ H QA := h _ h2
theorem ret_l2 {D : Ends} {t : TA} {x : V} (h : t σ H fun vs H1 => vs.length ≤ sizeLine ∧ ∀ p, H1 p = none → ([x, V.ref p].length ≤ sizeLine ∧ ∀ l, (upd H1 p (.tup vs)) l = none → D.rt (.ref l) (upd (upd H1 p (.tup vs)) l (.lst [x, .ref p])))) : tRet (tLst (tCons (tC x) (tCons (tTup t) tNil))) D σ H := h
/-- word in ("a", "b") -/
theorem tg_in2 {te : TE} {w la lb : Cs} {a b : Str} (h : Vi te σ H (.str (S w))) (hw : ∀ c ∈ w, c < 128) (ea : a = S la) (eb : b = S lb) (ha : ∀ c ∈ la, c < 128) (hb : ∀ c ∈ lb, c < 128) :
    Tg (tTest (tOp (rInT K) te (tTup (tCons (tC (.str a)) (tCons (tC (.str b)) tNil))))) σ H (decide (w = la ∨ w = lb)) := tg_test fun Q q => h _ ⟨by show 2 ≤ sizeLine; decide, fun p hp => by
  subst ea eb
  refine ⟨.str (S w), [.str (S la), .str (S lb)], .str _, .tup (L2.SqT.of upd_same) (.cons (.str _) (.cons (.str _) .nil)), shaped_str hw, shaped_str2 ha hb, ?_⟩
  have e : ([PyData.str (S la), .str (S lb)].any fun z => PyData.eqv z (.str (S w))) = decide (w = la ∨ w = lb) := by
    simp only [List.any_cons, List.any_nil, eqv_str]
    rw [Bool.eq_iff_iff, decide_eq_true_iff]
    simp only [Bool.or_eq_true, decide_eq_true_eq, Bool.false_eq_true, or_false]
    constructor
    · rintro (rfl | rfl)
      · exact .inl rfl
      · exact .inr rfl
    · rintro (rfl | rfl)
      · exact .inl rfl
      · exact .inr rfl
  rw [e]
  exact q _ (same_upd hp)⟩
/-- xs == [] of things told -/
theorem tg_eqnil {te : TE} {a : Addr} {xs : List V} {ds : List PyData} (h : Vi te σ H (.ref a)) (e : H a = some (.lst xs)) (hd : DpAll K H xs ds) (hs : SeqAt.shaped (.list ds) = true) (mono : ∀ p, H p = none → DpAll K (upd H p (.lst [])) xs ds) :
    Tg (tTest (tOp (rEqD K) te (tLst tNil))) σ H (decide (ds = [])) := tg_test fun Q q => h _ ⟨Nat.zero_le _, fun p hp => by
  have s := same_upd (o := .lst ([] : List V)) hp
  refine ⟨.list ds, .list [], .lst (SqL.of (s _ _ e)) (mono p hp), .lst (SqL.of upd_same) .nil, hs, by decide +kernel, ?_⟩
  have e2 : PyData.eqv (.list ds) (.list []) = decide (ds = []) := by
    cases ds with
    | nil => rfl
    | cons d ds => simp [PyData.eqv, PyData.eqvAll]
  rw [e2]
  exact q _ s⟩
end
/-- a new list: a name and what is told, or nothing -/
def NewR (H H' : Hp) (l : Addr) (o : Option (Cs × PyData)) : Prop := Same H H' ∧ H l = none ∧ (match o with
  | none => H' l = some (.lst [])
  | some y => ∃ u, H' l = some (.lst [.str (S y.1), u]) ∧ Th (tO H') u y.2)
def spRowSort : Sp := fun vs H Q _ => ∃ (a : Addr) (ws : List Cs), vs = [.ref a] ∧ H a = some (.lst (sL ws)) ∧ ws.length ≤ 1000 ∧ (∀ w ∈ ws, w.length ≤ 640 ∧ ∀ c ∈ w, c < 128) ∧ ∀ l H', NewR H H' l (sortR ws) → Q (.ref l) H'
section
variable {P : Program} {w : World} {K : PySem.W.Frag} {mg : Str → Option Value} {base : Heap}
end
end KP

set_option Elab.async false
set_option linter.all false
set_option maxRecDepth 100000
set_option maxHeartbeats 4000000
/-! ### the law's own reading: texts -/
namespace KP
open PySem PySem.Spec PyProof.Rows L2 KX KT KJ KS FR PT SX
theorem share_data {w : Cs} {d : PyData} (h : shareW w = some d) : (∃ n, d = .tuple [.str "x", .int n]) ∨ ∃ i j, d = .tuple [.int i, .int j] := by
  unfold shareW at h
  split at h
  · cases q : numW (w.drop 1) with
    | none => rw [q] at h; cases h
    | some n => rw [q] at h; cases h; exact .inl ⟨n, rfl⟩
  · unfold fracW at h
    split at h
    · cases h
      exact .inr ⟨_, _, rfl⟩
    · cases h
theorem pipe_data {r : List Cs} {d : PyData} (h : pipeW r = some d) : ∃ i o s w, d = .tuple [.int i, PT.oD o, s] ∧ shareW w = some s := by
  unfold pipeW at h
  split at h
  · rename_i a b c
    unfold pipeAt at h
    split at h
    · rename_i s d' _ q
      split at h
      · cases h
      · cases h
        exact ⟨_, _, _, _, rfl, q⟩
    · cases h
  · cases h
theorem sort_data {r : List Cs} {h : Cs} {d : PyData} (e : sortR r = some (h, d)) : ((h = cTanks ∨ h = cUnk) ∧ ∃ n, d = .int n) ∨ ((h = cFilled ∨ h = cSeen) ∧ ∃ ns : List Int, d = .tuple (ns.map .int)) ∨ (h = cPipe ∧ ∃ i o s w, d = .tuple [.int i, PT.oD o, s] ∧ shareW w = some s) := by
  cases r with
  | nil => cases e
  | cons a t =>
    unfold sortR at e
    dsimp only at e
    split at e
    · rename_i c
      cases q : oneN t with
      | none => rw [q] at e; cases e
      | some n => rw [q] at e; cases e; exact .inl ⟨c, n, rfl⟩
    · split at e
      · rename_i c
        cases q : numsW t with
        | none => rw [q] at e; cases e
        | some n => rw [q] at e; cases e; exact .inr (.inl ⟨c, n, rfl⟩)
      · split at e
        · rename_i c
          cases q : pipeW (a :: t) with
          | none => rw [q] at e; cases e
          | some n => rw [q] at e; cases e; exact .inr (.inr ⟨c, pipe_data q⟩)
        · cases e
structure Lyd (n : Nat) (d : PyData) : Prop where
  lay : d.canLay0 = true
  dep : d.depth ≤ n
structure Nice (d : PyData) : Prop where
  lay : Lyd 5 d
  dict : d.hasDict = false
  tp : tpD d = true
theorem lay_int (n : Nat) (i : Int) : Lyd (n + 1) (.int i) := ⟨rfl, by simp [PyData.depth]⟩
theorem share_nice {w : Cs} {d : PyData} (h : shareW w = some d) : Lyd 2 d ∧ d.hasDict = false ∧ tpD d = true := by
  rcases share_data h with ⟨n, rfl⟩ | ⟨i, j, rfl⟩
  · exact ⟨⟨by simp only [PyData.canLay0, PyData.canLayAll0]; decide +kernel, by simp [PyData.depth, PyData.depthAll]⟩, by simp [PyData.hasDict, PyData.hasDictAll], by simp [tpD, tpAll]⟩
  · exact ⟨⟨by simp [PyData.canLay0, PyData.canLayAll0], by simp [PyData.depth, PyData.depthAll]⟩, by simp [PyData.hasDict, PyData.hasDictAll], by simp [tpD, tpAll]⟩
theorem ints_nice : ∀ ns : List Int, PyData.canLayAll0 (ns.map .int) = true ∧ PyData.hasDictAll (ns.map .int) = false ∧ tpAll (ns.map .int) = true
  | [] => ⟨rfl, rfl, rfl⟩
  | n :: ns => by
    obtain ⟨a, b, c⟩ := ints_nice ns
    simp [PyData.canLayAll0, PyData.canLay0, PyData.hasDictAll, PyData.hasDict, tpAll, tpD, a, b, c]
theorem pipe_nice {i : Int} {o : Option Int} {s : PyData} {w : Cs} (h : shareW w = some s) : Nice (.tuple [.int i, PT.oD o, s]) := by
  obtain ⟨a, b, c⟩ := share_nice h
  have ad := a.dep
  refine ⟨⟨?_, ?_⟩, ?_, ?_⟩
  · cases o <;> simp [PyData.canLay0, PyData.canLayAll0, PT.oD, a.lay]
  · cases o <;> simp [PyData.depth, PyData.depthAll, PT.oD] <;> omega
  · cases o <;> simp [PyData.hasDict, PyData.hasDictAll, PT.oD, b]
  · cases o <;> simp [tpD, tpAll, PT.oD, c]
theorem sort_nice {r : List Cs} {h : Cs} {d : PyData} (e : sortR r = some (h, d)) : (∀ c ∈ h, c < 128) ∧ Nice d := by
  rcases sort_data e with ⟨hh, n, rfl⟩ | ⟨hh, ns, rfl⟩ | ⟨hh, i, o, s, w, rfl, hs⟩
  · refine ⟨by rcases hh with rfl | rfl <;> decide, lay_int 4 n, rfl, by simp [tpD]⟩
  · obtain ⟨a, b, c⟩ := ints_nice ns
    refine ⟨by rcases hh with rfl | rfl <;> decide, ⟨by simpa [PyData.canLay0] using a, ?_⟩, by simpa [PyData.hasDict] using b, by simpa [tpD] using c⟩
    simp only [PyData.depth]
    have := depthAll_of (n := 1) (ds := ns.map PyData.int) fun d hd => by
      obtain ⟨i, _, rfl⟩ := List.mem_map.mp hd
      simp [PyData.depth]
    omega
  · refine ⟨by rw [hh]; decide, pipe_nice hs⟩
theorem shaped_named {h : Cs} {d : PyData} (a : ∀ c ∈ h, c < 128) (n : Nice d) : SeqAt.shaped (.list [.str (S h), d]) = true := by
  refine shaped_of ?_ ?_
  · simp only [PyData.canLay0, PyData.canLayAll0, n.lay.lay, PyData.strOk, Bool.and_true]
    rw [← Array.all_toList, List.all_eq_true]
    intro c hc
    have := a c hc
    exact decide_eq_true (by omega)
  · have := n.lay.dep
    simp only [PyData.depth, PyData.depthAll]
    omega
section
variable {K : PySem.W.Frag} {σ : L2.St} {H : Hp}
theorem call1 {sp : Sp} {E : XK} {te : TE} {Q : VK} (h : te σ H fun v H1 => sp [v] H1 Q E) : tCall sp [] E (tCons te tNil) σ H Q := h
theorem ret_row {D : Ends} {te : TE} {x v : V} (hv : Vi te σ H v) (k : ∀ l, H l = none → D.rt (.ref l) (upd H l (.lst [x, v]))) : tRet (tLst (tCons (tC x) (tCons te tNil))) D σ H := hv _ ⟨by show 2 ≤ sizeLine; decide, k⟩
theorem cons_go {ta : TE} {tb : TA} {k : V → Hp → VK → Prop} {QA : List V → Hp → Prop} (h : ta σ H fun v H1 => k v H1 fun x H2 => tb σ H2 fun vs H3 => QA (x :: vs) H3) : tCons (tThen ta k) tb σ H QA := h
theorem g_if2 {t : TT} {ta tb : TS} {b : Bool} {D : Ends} (h : Tg t σ H b) (h1 : b = true → ∀ H', Same H H' → ta D σ H') (h2 : b = false → ∀ H', Same H H' → tb D σ H') : tIfS t ta tb D σ H := h _ fun H' s => by
  cases b with
  | true => rw [if_pos rfl]; exact h1 rfl H' s
  | false => rw [if_neg Bool.false_ne_true]; exact h2 rfl H' s
theorem tg_nenil {te : TE} {a : Addr} {xs : List V} {ds : List PyData} (h : Vi te σ H (.ref a)) (e : H a = some (.lst xs)) (hs : SeqAt.shaped (.list ds) = true) (mono : ∀ H', Same H H' → DpAll K H' xs ds) :
    Tg (tTest (tOp (rNeD K) te (tLst tNil))) σ H (!decide (ds = [])) := tg_test fun Q q => h _ ⟨Nat.zero_le _, fun p hp => by
  have s := same_upd (o := .lst ([] : List V)) hp
  refine ⟨.list ds, .list [], .lst (SqL.of (s _ _ e)) (mono _ s), .lst (SqL.of upd_same) .nil, hs, by decide +kernel, ?_⟩
  have e2 : PyData.eqv (.list ds) (.list []) = decide (ds = []) := by
    cases ds with
    | nil => rfl
    | cons d ds => simp [PyData.eqv, PyData.eqvAll]
  rw [e2]
  exact q _ s⟩
theorem vi_ltN {ta : TE} {n m : Nat} {c : Int} (hc : c = (m : Int)) (h : Vi ta σ H (.int (n : Nat))) : Vi (tOp (rI0 fun i j => .bl (decide (i < j))) ta (tC (.int c))) σ H (.bl (decide (n < m))) := vi_op h vi_c fun Q q => ⟨_, _, rfl, rfl, by
  dsimp only
  have : decide ((n : Int) < c) = decide (n < m) := by rw [Bool.eq_iff_iff, decide_eq_true_iff, decide_eq_true_iff]; omega
  rw [this]
  exact q⟩
theorem vi_elem {te : TE} {a : Addr} {xs : List V} {n : Nat} {v : V} {c : Int} (hc : c = (n : Int)) (h : Vi te σ H (.ref a)) (e : H a = some (.lst xs)) (hn : xs[n]? = some v) : Vi (tOp (rIx K) te (tC (.int c))) σ H v :=
  vi_op h vi_c fun Q q => .inl ⟨a, _, _, _, rfl, rfl, SqL.of e, by rw [hc]; exact at_nat hn, q⟩
theorem vi_eqSS {ta tb : TE} {w u : Cs} (h : Vi ta σ H (.str (S w))) (h2 : Vi tb σ H (.str (S u))) : Vi (tOp rEq ta tb) σ H (.bl (decide (w = u))) := vi_op h h2 fun Q q => ⟨rfl, by rw [strEq]; exact q⟩
end
theorem thAll_tk' {H H' : Hp} {vs : List V} {ds : List PyData} (h : ThAll (tO H) vs ds) (s : Tk H H') : ThAll (tO H') vs ds := ThAll.mono (Sm.same s) h
def wished : List V := [.str "tanks", .str "unknowns", .str "filled", .str "seen"]
theorem wished_at {k : Nat} (h : k < 4) : wished[k]? = some (.str (S (wishAt k))) := by
  match k, h with
  | 0, _ => show some (V.str "tanks") = some (V.str (S cTanks)); rw [tanks_eq]
  | 1, _ => show some (V.str "unknowns") = some (V.str (S cUnk)); rw [unk_eq]
  | 2, _ => show some (V.str "filled") = some (V.str (S cFilled)); rw [filled_eq]
  | 3, _ => show some (V.str "seen") = some (V.str (S cSeen)); rw [seen_eq]
/-- what the law reads, as it stands -/
def ReadAt (H : Hp) (l : Addr) : PT.Rd → Prop
  | .row i => H l = some (.lst [.str "row", .int i])
  | .form m u ps f s => ∃ v, H l = some (.lst [.str "form", v]) ∧ Th (tO H) v (netD m u ps f s)
def spReadL : Sp := fun vs H Q _ => ∃ t : Cs, vs = [.str (S t)] ∧ TameT t ∧ ∀ l H', Same H H' → H l = none → ReadAt H' l (lawR (rowsT t)) → Q (.ref l) H'
section
variable {P : Program} {w : World} {K : PySem.W.Frag} {mg : Str → Option Value} {base : Heap}
end
end KP

set_option Elab.async false
set_option linter.all false
set_option maxRecDepth 100000
set_option maxHeartbeats 4000000
/-! ### what a text is read as by the program, errors caught -/
namespace KP
open PySem PySem.Spec PyProof.Rows L2 KX KT KJ KS FR PT SX
def ToldAt (H : Hp) (l : Addr) : PT.Rd → Prop
  | .row i => H l = some (.lst [.str "row", .int i])
  | .form m u ps f s => ∃ v, H l = some (.lst [.str (if isNet (netD m u ps f s) = true then "net" else "form"), v]) ∧ Th H v (netD m u ps f s)
def spToldT (Ps : List Addr) : Sp := fun vs H Q _ => ∃ t : Cs, vs = [.str (S t)] ∧ TameT t ∧ Tbs Ps H ∧ ∀ l H', Grown Ps H H' → ToldAt H' l (progR (rowsT t)) → Q (.ref l) H'
section
variable {P : Program} {w : World} {K : PySem.W.Frag} {mg : Str → Option Value} {base : Heap}
end
end KP

set_option Elab.async false
set_option linter.all false
set_option maxRecDepth 100000
set_option maxHeartbeats 4000000
/-! ### numbers, shares and nets, written -/
namespace PT
open PySem SX
/-- the signs of a whole number -/
def zL (i : Int) : Cs := if i < 0 then 45 :: TL.numL (-i).toNat else TL.numL i.toNat
theorem zL_nat (n : Nat) : zL (n : Int) = TL.numL n := by
  unfold zL
  rw [if_neg (by omega)]
  rfl
theorem zL_S (i : Int) : Str.ofString (toString i) = S (zL i) := by
  by_cases h : i < 0
  · have hn : (0 : Int) - i = (((-i).toNat : Nat) : Int) := by omega
    rw [PyProof.Rows.toString_neg h, hn]
    unfold zL
    rw [if_pos h]
    have e := num_S (-i).toNat
    rw [Str.ofString_eq_toList] at e ⊢
    rw [String.toList_append, List.map_append]
    have e2 : (toString (((-i).toNat : Nat) : Int)).toList.map Char.toNat = TL.numL (-i).toNat := by
      have := congrArg (fun x : Str => x.cps.toList) e
      simpa using this
    rw [e2]
    rfl
  · have hn : i = ((i.toNat : Nat) : Int) := by omega
    rw [hn, num_S, zL_nat]
theorem zL_len {i : Int} (h : i.natAbs ≤ 999) : (zL i).length ≤ 4 := by
  unfold zL
  split
  · rw [List.length_cons]
    have := TL.numL_len (n := (-i).toNat) (k := 3) (by decide) (by omega)
    omega
  · have := TL.numL_len (n := i.toNat) (k := 3) (by decide) (by omega)
    omega
/-- calm signs: no blank, no end of a row, below 128 -/
def Calm (w : Cs) : Prop := ∀ c ∈ w, c < 128 ∧ c ≠ 10
theorem calm_num (n : Nat) : Calm (TL.numL n) := fun c hc => by
  have := TL.numL_digits n c hc
  omega
theorem calm_z (i : Int) : Calm (zL i) := by
  unfold zL
  split
  · intro c hc
    rcases List.mem_cons.mp hc with rfl | hc
    · decide
    · exact calm_num _ c hc
  · exact calm_num _
theorem Calm.append {a b : Cs} (h : Calm a) (h2 : Calm b) : Calm (a ++ b) := fun c hc => (List.mem_append.mp hc).elim (h c) (h2 c)
theorem Calm.cons {x : Nat} {b : Cs} (h : x < 128 ∧ x ≠ 10) (h2 : Calm b) : Calm (x :: b) := fun c hc => (List.mem_cons.mp hc).elim (fun e => e ▸ h) (h2 c)
end PT
namespace KP
open PySem PySem.Spec PyProof.Rows L2 KX KT KJ KS FR PT SX
def pwF (x : Fr) : Cs := if x.2 = 1 then zL x.1 else zL x.1 ++ 47 :: zL x.2
def shW : Nat ⊕ Fr → Cs
  | .inl j => 120 :: zL (j : Nat)
  | .inr x => pwF x
def enW : Option Nat → Cs
  | none => cOut
  | some k => zL (k : Nat)
def prow (p : Pp) : List Cs := [cPipe, zL (p.s : Nat), enW p.e, shW p.sh]
def trow (nm : Cs) (ns : List Nat) : List Cs := nm :: ns.map fun n => zL ((n : Nat) : Int)
def rowsN (n : NetM) : List (List Cs) := [[cTanks, zL (n.m : Nat)], [cUnk, zL (n.u : Nat)]] ++ n.ps.map prow ++ [trow cFilled n.fs] ++ [trow cSeen n.ss]
section
variable {K : PySem.W.Frag} {σ : L2.St} {H : Hp}
theorem log_le {i : Int} (h : i.natAbs ≤ 9999) : i.natAbs.log2 < 1920 := by
  by_cases z : i.natAbs = 0
  · rw [z]; decide
  · exact (Nat.log2_lt z).mpr (Nat.lt_of_le_of_lt h (Nat.lt_of_lt_of_le (by decide : 9999 < 2 ^ 14) (Nat.pow_le_pow_right (by decide) (by decide))))
theorem vi_str {te : TE} {i : Int} (h : Vi te σ H (.int i)) (hb : i.natAbs ≤ 9999) : Vi (tCB (fun xs H Q => ∃ i, xs = [.int i] ∧ i.natAbs.log2 < 1920 ∧ Q (.str (toString i)) H) (tCons te tNil)) σ H (.str (S (zL i))) :=
  vi_cb (ai_cons h ai_nil) fun Q q => ⟨i, rfl, log_le hb, by rw [show ((toString i : String) : Str) = S (zL i) from zL_S i]; exact q⟩
theorem vi_cat {ta tb : TE} {a b : Cs} (h : Vi ta σ H (.str (S a))) (h2 : Vi tb σ H (.str (S b))) (hl : a.length + b.length ≤ 100000) : Vi (tOp (fun x y H Q => ∃ i j, x = .str i ∧ y = .str j ∧ i.length + j.length ≤ sizeLine ∧ Q (.str (i ++ j)) H) ta tb) σ H (.str (S (a ++ b))) :=
  vi_op h h2 fun Q q => ⟨_, _, rfl, rfl, by rw [S_len, S_len]; exact Nat.le_trans hl (by decide), by rw [S_cat]; exact q⟩
/-- [str(at) for at in tanks] -/
theorem lc_strs {ti : TE} {j : Nat} {vs : List Nat} {a : Addr} {ns : List Nat} {Q : VK} (h : Vi ti σ H (.ref a)) (ha : Rd H a (.tup (ns.map fun n => V.int ((n : Nat) : Int)))) (hn : ns.length ≤ 100) (hb : ∀ n ∈ ns, n ≤ 999)
    (hw : ∀ x : V, wipe ((wipe σ vs).set j (some x)) vs = wipe σ vs) (hj : ∀ x : V, ((wipe σ vs).set j (some x))[j]? = some (some x)) (k : ∀ b H', H b = none → Same H H' → H' b = some (.lst (sL (ns.map fun n => zL ((n : Nat) : Int)))) → Q (.ref b) H') :
    tLc (iTup K ti) (gName j) tYes (tCB (fun xs H Q => ∃ i, xs = [.int i] ∧ i.natAbs.log2 < 1920 ∧ Q (.str (toString i)) H) (tCons (tVar j) tNil)) vs σ H Q := by
  refine h _ ⟨a, rfl, ⟨_, SqT.of ha⟩, fun D hD => ?_⟩
  refine lc_map (walk_tup (K := K) (a := a) (xs := ns.map fun n => V.int ((n : Nat) : Int))) (fun H' ys i => ys = sL ((ns.take i).map fun n => zL ((n : Nat) : Int)) ∧ i ≤ ns.length) hD (by rw [List.length_map]; omega) (fun _ _ i q => by rw [q.1, sL_len, List.length_map, List.length_take]; have := q.2; omega) ⟨rfl, Nat.zero_le _⟩
    (fun H' s => SqT.of (s.rd ha)) hw ?_ ?_
  · rintro i x _ H' xs hi s e hlx ⟨q, hle⟩ ⟨rfl, hx⟩
    rw [List.getElem?_map] at hx
    cases q2 : ns[i]? with
    | none => rw [q2] at hx; cases hx
    | some m =>
      rw [q2] at hx
      cases hx
      have hm := hb m (List.mem_of_getElem? q2)
      refine (vi_str (vi_var (hj _)) (by omega)) _ ?_
      refine aft hD s e hlx ⟨?_, by rw [List.length_map] at hi; omega⟩
      rw [q, List.take_add_one, q2, List.map_append]
      unfold sL
      rw [List.map_append]
      rfl
  · rintro H' xs s e ⟨q, _⟩
    rw [List.length_map, List.take_length] at q
    rw [q] at e
    exact k D H' hD s e
end
def spPartText : Sp := fun vs H Q _ => ∃ v x, vs = [v] ∧ Th (tO H) v (fD x) ∧ Told x ∧ Q (.str (S (pwF x))) H
def spRowsOf : Sp := fun vs H Q _ => ∃ v n, vs = [v] ∧ Th (tO H) v (NetM.d n) ∧ GoodN n ∧ ∀ p vr H', Same H H' → H' p = some (.lst vr) → Rws H' vr (rowsN n) → Q (.ref p) H'
section
variable {P : Program} {w : World} {K : PySem.W.Frag} {mg : Str → Option Value} {base : Heap}
end
end KP

set_option Elab.async false
set_option linter.all false
set_option maxRecDepth 100000
set_option maxHeartbeats 4000000
/-! ### the rows of a drawn net -/
namespace KP
open PySem PySem.Spec PyProof.Rows L2 KX KT KJ KS FR PT SX
theorem net_thp {H : Hp} {x : V} {n : NetM} (h : Th (tO H) x n.d) : ∃ a ps fs ss, x = .ref a ∧ tO H a = some (.tup [.int (n.m : Nat), .int (n.u : Nat), ps, fs, ss]) ∧ Th (tO H) ps (.tuple (n.ps.map ppD)) ∧ Th (tO H) fs (.tuple (natsD n.fs)) ∧ Th (tO H) ss (.tuple (natsD n.ss)) := by
  obtain ⟨a, xs, rfl, e, hv⟩ := tup_parts h
  cases hv with
  | cons h1 hr1 => cases hr1 with
    | cons h2 hr2 => cases hr2 with
      | cons h3 hr3 => cases hr3 with
        | cons h4 hr4 => cases hr4 with
          | cons h5 hr5 =>
            cases hr5
            cases h1
            cases h2
            exact ⟨a, _, _, _, rfl, e, h3, h4, h5⟩
theorem nats_vals {H : Hp} : ∀ {xs : List V} {ns : List Nat}, ThAll H xs (natsD ns) → xs = ns.map fun n => V.int ((n : Nat) : Int)
  | _, [], .nil => rfl
  | _, n :: ns, .cons a b => by
    cases a
    rw [nats_vals b]
    rfl
theorem nats_tup {H : Hp} {x : V} {ns : List Nat} (h : Th (tO H) x (.tuple (natsD ns))) : ∃ a, x = .ref a ∧ tO H a = some (.tup (ns.map fun n => V.int ((n : Nat) : Int))) := by
  obtain ⟨a, xs, rfl, e, hv⟩ := tup_parts h
  exact ⟨a, rfl, by rw [e, nats_vals hv]⟩
section
variable {K : PySem.W.Frag} {σ : L2.St} {H : Hp}
theorem lst_two {t1 t2 : TE} {x y u1 u2 : V} {Q : VK} (h1 : Vi t1 σ H u1) (h2 : ∀ G, Same H G → Vi t2 σ G u2) (k : ∀ p1 p2 pf, H p1 = none → (upd H p1 (.lst [x, u1])) p2 = none → (upd (upd H p1 (.lst [x, u1])) p2 (.lst [y, u2])) pf = none → Q (.ref pf) (upd (upd (upd H p1 (.lst [x, u1])) p2 (.lst [y, u2])) pf (.lst [.ref p1, .ref p2]))) :
    tLst (tCons (tLst (tCons (tC x) (tCons t1 tNil))) (tCons (tLst (tCons (tC y) (tCons t2 tNil))) tNil)) σ H Q :=
  h1 _ ⟨by show 2 ≤ sizeLine; decide, fun p1 hp1 => h2 _ (same_upd hp1) _ ⟨by show 2 ≤ sizeLine; decide, fun p2 hp2 => ⟨by show 2 ≤ sizeLine; decide, fun pf hpf => k p1 p2 pf hp1 hp2 hpf⟩⟩⟩
theorem cons_lst {t : TA} {QA : List V → Hp → Prop} (h : t σ H fun xs H1 => xs.length ≤ sizeLine ∧ ∀ p, H1 p = none → QA [.ref p] (upd H1 p (.lst xs))) : tCons (tLst t) tNil σ H QA := h
/-- ["name"] + [str(at) for at in tanks] -/
theorem cat_row {ti : TE} {j : Nat} {vs : List Nat} {a : Addr} {ns : List Nat} {nm : Cs} {nmS : Str} {Q : VK} (en : nmS = S nm) (h : ∀ G, Same H G → Vi ti σ G (.ref a)) (ha : Rd H a (.tup (ns.map fun n => V.int ((n : Nat) : Int)))) (hn : ns.length ≤ 100) (hb : ∀ n ∈ ns, n ≤ 999)
    (hw : ∀ x : V, wipe ((wipe σ vs).set j (some x)) vs = wipe σ vs) (hj : ∀ x : V, ((wipe σ vs).set j (some x))[j]? = some (some x)) (k : ∀ p H', H p = none → Same H H' → H' p = some (.lst (sL (trow nm ns))) → Q (.ref p) H') :
    tOp rCat (tLst (tCons (tC (.str nmS)) tNil)) (tLc (iTup K ti) (gName j) tYes (tCB (fun xs H Q => ∃ i, xs = [.int i] ∧ i.natAbs.log2 < 1920 ∧ Q (.str (toString i)) H) (tCons (tVar j) tNil)) vs) σ H Q := by
  refine ⟨by show 1 ≤ sizeLine; decide, fun l hl => ?_⟩
  have s1 := same_upd (o := .lst [V.str nmS]) hl
  refine lc_strs (h _ s1) (s1.rd ha) hn hb hw hj fun b H2 nb s2 eb => ?_
  refine ⟨l, b, _, _, rfl, rfl, s2 _ _ upd_same, eb, ?_, fun p hp => ?_⟩
  · rw [sL_len, List.length_map]
    exact Nat.le_trans (show 1 + ns.length ≤ 101 by omega) (by decide)
  · have s3 := same_upd (o := .lst ([V.str nmS] ++ sL (ns.map fun n => zL ((n : Nat) : Int)))) hp
    refine k p _ (none_same (s1.trans s2) hp) ((s1.trans s2).trans s3) ?_
    rw [upd_same, en]
    rfl
end
section
variable {P : Program} {w : World} {K : PySem.W.Frag} {mg : Str → Option Value} {base : Heap}
end
end KP

set_option Elab.async false
set_option linter.all false
set_option maxRecDepth 100000
set_option maxHeartbeats 4000000
/-! ### drawn blanks; texts of moderate size -/
namespace KP
open PySem PySem.Spec PyProof.Rows L2 KX KT KJ KS FR PT SX
theorem jarS {H H' : Hp} {j : Addr} {n : Nat} (h : JarAt H j n) (s : Same H H') : JarAt H' j n := by
  obtain ⟨a, b, c, e, q⟩ := h
  exact ⟨a, b, c, s _ _ e, q⟩
theorem jarM {H : Hp} {j : Addr} {n m : Nat} (h : JarAt H j n) (l : n ≤ m) : JarAt H j m := by
  obtain ⟨a, b, c, e, q1, q2, q3, q4, q5⟩ := h
  exact ⟨a, b, c, e, q1, q2, q3, q4, by omega⟩
/-- a calm word of eight signs at most -/
structure Wk (w : Cs) : Prop where
  calm : Calm w
  len : w.length ≤ 8
def okS (s : Str) : Bool := decide (s.cps.toList.length ≤ 8) && s.cps.toList.all fun c => decide (c < 128) && !decide (c = 10)
theorem okS_wk {s : Str} (h : okS s = true) : Wk s.cps.toList := by
  unfold okS at h
  rw [Bool.and_eq_true, decide_eq_true_iff] at h
  refine ⟨fun c hc => ?_, h.1⟩
  have := List.all_eq_true.mp h.2 c hc
  simpa using this
/-- a written list of texts -/
def LitS (t : TA) (ss : List Str) : Prop := ∀ (σ : L2.St) (G : Hp) (Q : List V → Hp → Prop), Q (ss.map V.str) G → t σ G Q
theorem litS_nil : LitS tNil [] := fun _ _ _ q => q
theorem litS_cons {s : Str} {t : TA} {ss : List Str} (h : LitS t ss) : LitS (tCons (tC (.str s)) t) (s :: ss) := fun σ G Q q => h σ G _ q
section
variable {K : PySem.W.Frag} {σ : L2.St} {H : Hp}
theorem one_strs {E : XK} {t : TA} {ss : List Str} {j : Addr} {n : Nat} {Q : VK} (ht : LitS t ss) (h0 : σ[0]? = some (some (.ref j))) (hne : ss ≠ []) (hl : ss.length ≤ 1000) (ok : ss.all okS = true) (hj : JarAt H j n) (hn : n < 1000000)
    (k : ∀ w H', Wk w → KJ.But j H H' → JarAt H' j (n + 1) → Q (.str (S w)) H') : tCall (spOne K) [] E (tCons (tVar 0) (tCons (tLst t) tNil)) σ H Q := by
  refine ⟨_, h0, ht σ H _ ⟨?_, fun p hp => ?_⟩⟩
  · rw [List.length_map]
    exact Nat.le_trans hl (by decide)
  have sp := same_upd (o := .lst (ss.map V.str)) hp
  have np : p ≠ j := fun z => jar_ne hj (by rw [← z]; exact hp)
  refine ⟨j, p, ss.map V.str, n, rfl, np, .inl upd_same, fun z => hne (List.map_eq_nil_iff.mp z), by rw [List.length_map]; exact Nat.lt_of_le_of_lt hl (by decide), jarS hj sp, hn, fun x H' hx b jr => ?_⟩
  obtain ⟨s, hs, rfl⟩ := List.mem_map.mp hx
  have := k s.cps.toList H' (okS_wk (List.all_eq_true.mp ok s hs)) ((KJ.But.same sp).trans b) jr
  rw [S_tl] at this
  exact this
end
def spBlank : Sp := fun vs H Q _ => ∃ (j a : Addr) (n : Nat) (ws : List Cs), vs = [.ref j, .ref a] ∧ JarAt H j n ∧ n ≤ 900000 ∧ a ≠ j ∧ H a = some (.lst (sL ws)) ∧ ws.length ≤ 20 ∧ (∀ w ∈ ws, Wk w) ∧
  ∀ t H', Calm t → t.length ≤ 400 → KJ.But j H H' → JarAt H' j (n + 22) → Q (.str (S t)) H'
section
variable {P : Program} {w : World} {K : PySem.W.Frag} {mg : Str → Option Value} {base : Heap}
end
end KP

set_option Elab.async false
set_option linter.all false
set_option maxRecDepth 100000
set_option maxHeartbeats 4000000
/-! ### a row, spoilt -/
namespace KP
open PySem PySem.Spec PyProof.Rows L2 KX KT KJ KS FR PT SX
theorem cutV_take (xs : List V) (n : Nat) : cutV xs none (some (n : Int)) = xs.take n := by
  unfold cutV
  rw [HT.sIx_none, HT.sIx_nat, List.drop_zero]
  by_cases h : n ≤ xs.length
  · rw [show min n xs.length - 0 = n by omega]
  · rw [show min n xs.length - 0 = xs.length by omega, List.take_of_length_le (Nat.le_refl _), List.take_of_length_le (by omega)]
/-- a list of words is made; nothing else changes -/
def Lx (te : TE) (σ : L2.St) (j : Addr) (H : Hp) (ws : List Cs) : Prop := ∀ G n, KJ.But j H G → JarAt G j n → ∀ Q : VK, (∀ b G', Same G G' → b ≠ j → G' b = some (.lst (sL ws)) → Q (.ref b) G') → te σ G Q
section
variable {K : PySem.W.Frag} {σ : L2.St} {H : Hp} {j a : Addr} {ws us : List Cs}
theorem jar_new {G : Hp} {n : Nat} {p : Addr} (h : JarAt G j n) (hp : G p = none) : p ≠ j := fun z => jar_ne h (by rw [← z]; exact hp)
theorem lx_slice {te : TE} {tl th : TO} {lo hi : Option Int} {vs : List Cs} (h : ∀ G, Vi te σ G (.ref a)) (naj : a ≠ j) (e : H a = some (.lst (sL ws))) (hl : ∀ G Q, Q lo G → tl σ G Q) (hh : ∀ G Q, Q hi G → th σ G Q) (ec : cutV (sL ws) lo hi = sL vs) : Lx (tSl (rSlL K) te tl th) σ j H vs := fun G n b hj Q q =>
  h G _ (hl _ _ (hh _ _ ⟨a, _, rfl, SqL.of (b _ _ naj e), fun p hp => q p _ (same_upd hp) (jar_new hj hp) (by rw [upd_same, ec])⟩))
theorem lx_cat {ta tb : TE} (h : Lx ta σ j H ws) (h2 : Lx tb σ j H us) (hl : ws.length + us.length ≤ 5000) : Lx (tOp rCat ta tb) σ j H (ws ++ us) := fun G n b hj Q q =>
  h G n b hj _ fun x G1 s1 nx e1 => h2 G1 n (b.trans (KJ.But.same s1)) (jar_same hj s1) _ fun y G2 s2 ny e2 => ⟨x, y, _, _, rfl, rfl, s2 _ _ e1, e2, by
    rw [sL_len, sL_len]
    exact Nat.le_trans hl (by decide), fun p hp => q p _ ((s1.trans s2).trans (same_upd hp)) (jar_new (jar_same hj (s1.trans s2)) hp) (by
      rw [upd_same]
      unfold sL
      rw [List.map_append])⟩
theorem lx_one {te : TE} {w : Cs} (h : ∀ G, KJ.But j H G → Vi te σ G (.str (S w))) : Lx (tLst (tCons te tNil)) σ j H [w] := fun G n b hj Q q => h G b _ ⟨by show 1 ≤ sizeLine; decide, fun p hp => q p _ (same_upd hp) (jar_new hj hp) upd_same⟩
theorem lx_if {t : TT} {ta tb : TE} {b : Bool} (h : ∀ G, Ti t σ G b) (h1 : Lx ta σ j H ws) (h2 : Lx tb σ j H us) : Lx (tIf t ta tb) σ j H (if b = true then ws else us) := fun G n bb hj Q q => h G _ (by
  cases b with
  | true => rw [if_pos rfl]; exact h1 G n bb hj Q q
  | false => rw [if_neg Bool.false_ne_true]; exact h2 G n bb hj Q q)
end
def odd15 : List Str := ["00", "01", "-1", "-0", "+2", "x", "x01", "x-1", "1/", "/2", "1/02", "-0/3", "-3/4", "1/-2", "1//2"]
def odd13 : List Str := ["out", "Out", "tanks", "pipe", "seen", "filled", "unknowns", "a", "1.5", "2\t", "x2", "7", "0/5"]
def odd2 : List Str := ["1/0", "-5"]
def spSpoilRow : Sp := fun vs H Q _ => ∃ (j a : Addr) (n : Nat) (ws : List Cs), vs = [.ref j, .ref a] ∧ JarAt H j n ∧ n ≤ 900000 ∧ a ≠ j ∧ H a = some (.lst (sL ws)) ∧ ws.length ≤ 1000 ∧ (∀ w ∈ ws, Wk w) ∧
  ∀ b ws' H', b ≠ j → H' b = some (.lst (sL ws')) → ws'.length ≤ ws.length + 1 → (∀ w ∈ ws', Wk w) → KJ.But j H H' → JarAt H' j (n + 3) → Q (.ref b) H'
section
variable {P : Program} {w : World} {K : PySem.W.Frag} {mg : Str → Option Value} {base : Heap}
end
end KP

set_option Elab.async false
set_option linter.all false
set_option maxRecDepth 100000
set_option maxHeartbeats 4000000
/-! ### rows, spoilt -/
namespace KP
open PySem PySem.Spec PyProof.Rows L2 KX KT KJ KS FR PT SX
/-- a list of known values is made; nothing else changes -/
def Lv (te : TE) (σ : L2.St) (j : Addr) (H : Hp) (xs : List V) : Prop := ∀ G n, KJ.But j H G → JarAt G j n → ∀ Q : VK, (∀ b G', Same G G' → b ≠ j → G' b = some (.lst xs) → Q (.ref b) G') → te σ G Q
section
variable {K : PySem.W.Frag} {σ : L2.St} {H : Hp} {j a : Addr} {xs ys : List V}
theorem lv_slice {te : TE} {tl th : TO} {lo hi : Option Int} {vs : List V} (h : ∀ G, Vi te σ G (.ref a)) (naj : a ≠ j) (e : H a = some (.lst xs)) (hl : ∀ G Q, Q lo G → tl σ G Q) (hh : ∀ G Q, Q hi G → th σ G Q) (ec : cutV xs lo hi = vs) : Lv (tSl (rSlL K) te tl th) σ j H vs := fun G n b hj Q q =>
  h G _ (hl _ _ (hh _ _ ⟨a, _, rfl, SqL.of (b _ _ naj e), fun p hp => q p _ (same_upd hp) (jar_new hj hp) (by rw [upd_same, ec])⟩))
theorem lv_cat {ta tb : TE} (h : Lv ta σ j H xs) (h2 : Lv tb σ j H ys) (hl : xs.length + ys.length ≤ 5000) : Lv (tOp rCat ta tb) σ j H (xs ++ ys) := fun G n b hj Q q =>
  h G n b hj _ fun x G1 s1 nx e1 => h2 G1 n (b.trans (KJ.But.same s1)) (jar_same hj s1) _ fun y G2 s2 ny e2 => ⟨x, y, _, _, rfl, rfl, s2 _ _ e1, e2, Nat.le_trans hl (by decide), fun p hp => q p _ ((s1.trans s2).trans (same_upd hp)) (jar_new (jar_same hj (s1.trans s2)) hp) upd_same⟩
theorem lv_one {te : TE} {v : V} (h : ∀ G, KJ.But j H G → Vi te σ G v) : Lv (tLst (tCons te tNil)) σ j H [v] := fun G n b hj Q q => h G b _ ⟨by show 1 ≤ sizeLine; decide, fun p hp => q p _ (same_upd hp) (jar_new hj hp) upd_same⟩
theorem lv_rev {te : TE} (h : Lv te σ j H xs) : Lv (tRevL K te) σ j H xs.reverse := fun G n b hj Q q =>
  h G n b hj _ fun x G1 s1 nx e1 => ⟨x, _, rfl, SqL.of e1, fun p hp => q p _ (s1.trans (same_upd hp)) (jar_new (jar_same hj s1) hp) upd_same⟩
end
theorem Rws.take {H : Hp} : ∀ {vs : List V} {rs : List (List Cs)} (k : Nat), Rws H vs rs → Rws H (vs.take k) (rs.take k)
  | _, _, 0, _ => .nil
  | _, _, k + 1, .nil => .nil
  | _, _, k + 1, .cons a b => .cons a (Rws.take k b)
theorem Rws.append {H : Hp} : ∀ {vs us : List V} {rs qs : List (List Cs)}, Rws H vs rs → Rws H us qs → Rws H (vs ++ us) (rs ++ qs)
  | _, _, _, _, .nil, h => h
  | _, _, _, _, .cons a b, h => .cons a (Rws.append b h)
theorem Rws.rev {H : Hp} : ∀ {vs : List V} {rs : List (List Cs)}, Rws H vs rs → Rws H vs.reverse rs.reverse
  | _, _, .nil => .nil
  | _, _, .cons a b => by
    rw [List.reverse_cons, List.reverse_cons]
    exact Rws.append (Rws.rev b) (.cons a .nil)
theorem hidAt {j p : Addr} {H : Hp} {u : HO} (e : hid j H p = some u) : p ≠ j ∧ H p = some u := by
  refine ⟨fun z => ?_, hid_same j H _ _ e⟩
  rw [z, show hid j H j = none from if_pos rfl] at e
  cases e
/-- rows of calm words, of a moderate length -/
def RowsWk (m : Nat) (rows : List (List Cs)) : Prop := ∀ r ∈ rows, r.length ≤ m ∧ ∀ w ∈ r, Wk w
theorem RowsWk.mono {m m' : Nat} {rows : List (List Cs)} (h : RowsWk m rows) (l : m ≤ m') : RowsWk m' rows := fun r hr => ⟨Nat.le_trans (h r hr).1 l, (h r hr).2⟩
theorem RowsWk.append {m : Nat} {rs qs : List (List Cs)} (h : RowsWk m rs) (h2 : RowsWk m qs) : RowsWk m (rs ++ qs) := fun r hr => (List.mem_append.mp hr).elim (h r) (h2 r)
theorem RowsWk.take {m k : Nat} {rs : List (List Cs)} (h : RowsWk m rs) : RowsWk m (rs.take k) := fun r hr => h r (List.mem_of_mem_take hr)
theorem RowsWk.drop {m k : Nat} {rs : List (List Cs)} (h : RowsWk m rs) : RowsWk m (rs.drop k) := fun r hr => h r (List.mem_of_mem_drop hr)
theorem RowsWk.one {m : Nat} {r : List Cs} (h : r.length ≤ m) (h2 : ∀ w ∈ r, Wk w) : RowsWk m [r] := fun r' hr => by
  rw [List.mem_singleton.mp hr]
  exact ⟨h, h2⟩
def spSpoil : Sp := fun vs H Q _ => ∃ (j a : Addr) (n m : Nat) (vr : List V) (rows : List (List Cs)), vs = [.ref j, .ref a] ∧ JarAt H j n ∧ n ≤ 800000 ∧ a ≠ j ∧ H a = some (.lst vr) ∧ Rws (hid j H) vr rows ∧ rows ≠ [] ∧ rows.length ≤ 500 ∧ RowsWk m rows ∧ m ≤ 500 ∧
  ∀ b vr' rows' H', b ≠ j → H' b = some (.lst vr') → Rws (hid j H') vr' rows' → rows'.length ≤ rows.length + 1 → RowsWk (m + 1) rows' → KJ.But j H H' → JarAt H' j (n + 5) → Q (.ref b) H'
section
variable {P : Program} {w : World} {K : PySem.W.Frag} {mg : Str → Option Value} {base : Heap}
end
end KP

set_option Elab.async false
set_option linter.all false
set_option maxRecDepth 100000
set_option maxHeartbeats 4000000
/-! ### texts of moderate size; how wide what they tell is shown -/
namespace PT
open PySem SX
/-- no row has more than 400 signs, k of the first one seen -/
def run : Nat → Cs → Bool
  | _, [] => true
  | k, x :: r => if x = 10 then run 0 r else decide (k < 400) && run (k + 1) r
theorem run_nl {k : Nat} {r : Cs} : run k (10 :: r) = run 0 r := if_pos rfl
theorem run_sign {k x : Nat} {r : Cs} (h : x ≠ 10) : run k (x :: r) = (decide (k < 400) && run (k + 1) r) := if_neg h
theorem run_take : ∀ (t : Cs) (k n : Nat), run k t = true → run k (t.take n) = true
  | [], k, n, _ => by rw [List.take_nil]; rfl
  | x :: r, k, 0, _ => rfl
  | x :: r, k, n + 1, h => by
    rw [List.take_succ_cons]
    by_cases e : x = 10
    · subst e
      rw [run_nl] at h ⊢
      exact run_take r 0 n h
    · rw [run_sign e, Bool.and_eq_true] at h ⊢
      exact ⟨h.1, run_take r (k + 1) n h.2⟩
theorem run_line : ∀ (l r : Cs) (k : Nat), (∀ c ∈ l, c ≠ 10) → k + l.length ≤ 400 → run k (l ++ r) = run (k + l.length) r
  | [], r, k, _, _ => rfl
  | x :: l, r, k, h, hk => by
    rw [List.length_cons] at hk
    rw [List.cons_append, run_sign (h x List.mem_cons_self), decide_eq_true (show k < 400 by omega), Bool.true_and, run_line l r (k + 1) (fun c hc => h c (List.mem_cons_of_mem _ hc)) (by omega), List.length_cons, show k + 1 + l.length = k + (l.length + 1) by omega]
theorem run_pieces : ∀ (t : Cs) (k : Nat), run k t = true → k ≤ 400 → (∀ p, (splitC 10 t).head? = some p → p.length + k ≤ 400) ∧ ∀ p ∈ splitC 10 t, p.length ≤ 400
  | [], k, _, hk => ⟨fun p hp => by cases hp; simpa using hk, fun p hp => by rw [List.mem_singleton.mp hp]; exact Nat.zero_le _⟩
  | x :: r, k, h, hk => by
    by_cases e : x = 10
    · subst e
      rw [run_nl] at h
      obtain ⟨a, b⟩ := run_pieces r 0 h (by omega)
      rw [splitC_hit rfl]
      refine ⟨fun p hp => by cases hp; simpa using hk, fun p hp => ?_⟩
      rcases List.mem_cons.mp hp with rfl | hp
      · exact Nat.zero_le _
      · exact b p hp
    · rw [run_sign e, Bool.and_eq_true, decide_eq_true_iff] at h
      obtain ⟨a, b⟩ := run_pieces r (k + 1) h.2 (by omega)
      rw [splitC_miss e]
      cases q : splitC 10 r with
      | nil => exact absurd q (splitC_ne 10 r)
      | cons p ps =>
        rw [q] at a b
        have ap := a p rfl
        refine ⟨fun p' hp => ?_, fun p' hp => ?_⟩
        · cases hp
          rw [List.length_cons]
          omega
        · rcases List.mem_cons.mp hp with rfl | hp
          · rw [List.length_cons]
            omega
          · exact b p' (List.mem_cons_of_mem _ hp)
def cnt10 (t : Cs) : Nat := (t.filter fun c => decide (c = 10)).length
theorem cnt_cons (x : Nat) (r : Cs) : cnt10 (x :: r) = (if x = 10 then 1 else 0) + cnt10 r := by
  unfold cnt10
  by_cases h : x = 10
  · rw [List.filter_cons_of_pos (by simpa using h), if_pos h, List.length_cons]; omega
  · rw [List.filter_cons_of_neg (by simpa using h), if_neg h]; omega
theorem split_cnt : ∀ t : Cs, (splitC 10 t).length = cnt10 t + 1
  | [] => rfl
  | x :: r => by
    have ih := split_cnt r
    rw [cnt_cons]
    by_cases e : x = 10
    · rw [splitC_hit e, List.length_cons, ih, if_pos e]
      omega
    · rw [splitC_miss e, if_neg e]
      cases q : splitC 10 r with
      | nil => exact absurd q (splitC_ne 10 r)
      | cons p ps =>
        rw [q] at ih
        rw [List.length_cons] at ih ⊢
        omega
theorem cnt_app (a b : Cs) : cnt10 (a ++ b) = cnt10 a + cnt10 b := by
  unfold cnt10
  rw [List.filter_append, List.length_append]
theorem cnt_take (t : Cs) (n : Nat) : cnt10 (t.take n) ≤ cnt10 t := ((List.take_sublist n t).filter _).length_le
theorem cnt_free {l : Cs} (h : ∀ c ∈ l, c ≠ 10) : cnt10 l = 0 := by
  unfold cnt10
  rw [List.length_eq_zero_iff, List.filter_eq_nil_iff]
  exact fun c hc => by simpa using h c hc
/-- what a text of lines has -/
structure Lns (m : Nat) (t : Cs) : Prop where
  run : run 0 t = true
  cnt : cnt10 t ≤ m
  len : t.length ≤ m * 401 + 400
  asc : ∀ c ∈ t, c < 128
theorem Lns.take {m : Nat} {t : Cs} (h : Lns m t) (n : Nat) : Lns m (t.take n) := ⟨run_take t 0 n h.run, Nat.le_trans (cnt_take t n) h.cnt, Nat.le_trans (by rw [List.length_take]; omega) h.len, fun c hc => h.asc c (List.mem_of_mem_take hc)⟩
theorem Lns.join {suf : Cs} {m : Nat} (hs2 : Lns m suf) (hs3 : ∀ k, k ≤ 400 → PT.run k suf = true) : ∀ lines : List Cs, (∀ l ∈ lines, Calm l ∧ l.length ≤ 400) → Lns (lines.length + m) (TL.joinL [10] lines ++ suf)
  | [], _ => by
    show Lns (0 + m) suf
    rw [Nat.zero_add]
    exact hs2
  | [l], h => by
    obtain ⟨cl, ll⟩ := h l List.mem_cons_self
    show Lns (1 + m) (l ++ suf)
    refine ⟨?_, ?_, ?_, fun c hc => (List.mem_append.mp hc).elim (fun z => (cl c z).1) (hs2.asc c)⟩
    · rw [run_line l suf 0 (fun c hc => (cl c hc).2) (by omega), Nat.zero_add]
      exact hs3 _ ll
    · rw [cnt_app, cnt_free fun c hc => (cl c hc).2]
      have := hs2.cnt
      omega
    · rw [List.length_append]
      have := hs2.len
      rw [Nat.add_mul]
      omega
  | l :: l2 :: r, h => by
    obtain ⟨cl, ll⟩ := h l List.mem_cons_self
    have ih := Lns.join hs2 hs3 (l2 :: r) fun x hx => h x (List.mem_cons_of_mem _ hx)
    have e : TL.joinL [10] (l :: l2 :: r) ++ suf = l ++ 10 :: (TL.joinL [10] (l2 :: r) ++ suf) := by
      show l ++ ([10] ++ TL.joinL [10] (l2 :: r)) ++ suf = _
      rw [List.append_assoc, List.append_assoc]
      rfl
    rw [e]
    refine ⟨?_, ?_, ?_, fun c hc => ?_⟩
    · rw [run_line l _ 0 (fun c hc => (cl c hc).2) (by omega), run_nl]
      exact ih.run
    · rw [cnt_app, cnt_free fun c hc => (cl c hc).2, cnt_cons, if_pos rfl]
      have := ih.cnt
      rw [List.length_cons]
      omega
    · rw [List.length_append, List.length_cons]
      have := ih.len
      rw [List.length_cons, show (l2 :: r).length + 1 + m = (l2 :: r).length + m + 1 by omega, Nat.add_mul]
      omega
    · rcases List.mem_append.mp hc with z | z
      · exact (cl c z).1
      · rcases List.mem_cons.mp z with rfl | z
        · decide
        · exact ih.asc c z
theorem fold_lt : ∀ (w : Cs) (a b : Nat), (∀ c ∈ w, 48 ≤ c ∧ c ≤ 57) → a < 10 ^ b → w.foldl (fun acc c => acc * 10 + (c - 48)) a < 10 ^ (b + w.length)
  | [], a, b, _, h => h
  | c :: w, a, b, hd, h => by
    have hc := hd c List.mem_cons_self
    have := fold_lt w (a * 10 + (c - 48)) (b + 1) (fun x hx => hd x (List.mem_cons_of_mem _ hx)) (by rw [Nat.pow_succ]; omega)
    rw [List.length_cons, show b + (w.length + 1) = b + 1 + w.length by omega]
    exact this
theorem pow_400 : 10 ^ 400 < 2 ^ 1920 := by decide +kernel
theorem val_small {w : Cs} (h : isNum w = true) (hl : w.length ≤ 400) : (valN w).natAbs < 2 ^ 1920 := by
  have := fold_lt w 0 0 (isNum_dig h) (by decide)
  rw [Nat.zero_add] at this
  show (((NumText.digitsVal w : Nat) : Int)).natAbs < _
  rw [Int.natAbs_natCast]
  exact Nat.lt_of_lt_of_le this (Nat.le_of_lt (Nat.lt_of_le_of_lt (Nat.pow_le_pow_right (by decide) hl) pow_400))
theorem num_small {w : Cs} {n : Int} (h : numW w = some n) (hl : w.length ≤ 400) : n.natAbs < 2 ^ 1920 := by
  unfold numW at h
  cases q : isNum w with
  | false => rw [q] at h; cases h
  | true => rw [q] at h; cases h; exact val_small q hl
end PT
namespace KP
open PySem PySem.Spec PyProof.Rows L2 KX KT KJ KS FR PT SX
theorem lns_row {m : Nat} {t : Cs} (h : Lns m t) : ∀ r ∈ rowsT t, r.length ≤ 401 ∧ ∀ w ∈ r, w.length ≤ 400 ∧ ∀ c ∈ w, c < 128 := fun r hr => by
  obtain ⟨p, hp, rfl⟩ := List.mem_map.mp hr
  have lp := (run_pieces t 0 h.run (by omega)).2 p hp
  obtain ⟨_, ap⟩ := splitC_part 10 t p hp
  refine ⟨?_, fun w hw => ?_⟩
  · have h1 := List.length_filter_le (fun w : Cs => !decide (w = [])) (splitC 32 p)
    have h2 := splitC_len 32 p
    show ((splitC 32 p).filter _).length ≤ 401
    omega
  · have hm := (List.mem_filter.mp hw).1
    obtain ⟨lw, aw⟩ := splitC_part 32 p w hm
    exact ⟨by omega, fun c hc => h.asc c (ap c (aw c hc))⟩
theorem lns_len {m : Nat} {t : Cs} (h : Lns m t) : (rowsT t).length ≤ m + 1 := by
  unfold rowsT
  rw [List.length_map, split_cnt]
  have := h.cnt
  omega
theorem lns_tame {m : Nat} {t : Cs} (h : Lns m t) (hm : m ≤ 60) : TameT t := by
  have hl := h.len
  have := Nat.mul_le_mul_right 401 hm
  refine ⟨by omega, ⟨by have := lns_len h; omega, fun r hr => by have := (lns_row h r hr).1; omega, fun r hr w hw => ?_⟩⟩
  obtain ⟨a, b⟩ := (lns_row h r hr).2 w hw
  exact ⟨by omega, b⟩
theorem Sw.le {L L' n n' : Nat} {d : PyData} (h : Sw L n d) (hL : L ≤ L') (hn : n ≤ n') : Sw L' n' d := ⟨h.ok, Nat.le_trans h.len hL, Nat.le_trans h.dep hn, h.nod⟩
theorem sw_none : Sw 1921 1 .none := ⟨by simp [PyData.showable], (by simp only [PyData.shown]; try decide +kernel), by simp [PyData.depth], by simp [PyData.hasDict]⟩
theorem sw_x : Sw 1921 1 (.str "x") := ⟨(by simp only [PyData.showable]), (by simp only [PyData.shown]; decide +kernel), by simp [PyData.depth], by simp [PyData.hasDict]⟩
theorem sw_word {s : Str} (h1 : (PyData.str s).showable = true) (h2 : (PyData.str s).shown.length ≤ 1921) : Sw 1921 1 (.str s) := ⟨h1, h2, by simp [PyData.depth], by simp [PyData.hasDict]⟩
theorem sw_oD {w : Cs} (hl : w.length ≤ 400) : Sw 1921 1 (PT.oD (numW w)) := by
  cases q : numW w with
  | none => exact sw_none
  | some n => exact sw_int (num_small q hl)
theorem cut_lens {w : Cs} (hl : w.length ≤ 400) : (cut1 47 w).1.length ≤ 400 ∧ ∀ t, (cut1 47 w).2 = some t → t.length ≤ 400 := by
  obtain ⟨a, b⟩ := cut1_len 47 w
  exact ⟨by omega, fun t ht => by have := b t ht; omega⟩
theorem sw_share {w : Cs} {d : PyData} (h : shareW w = some d) (hl : w.length ≤ 400) : Sw 3849 2 d := by
  have two : ∀ {a b : PyData}, Sw 1921 1 a → Sw 1921 1 b → Sw 3849 2 (.tuple [a, b]) := fun ha hb => sw_tup (k := 2) (L := 1921) (n := 1) (fun d hd => by
    simp only [List.mem_cons, List.not_mem_nil, or_false] at hd
    rcases hd with rfl | rfl
    · exact ha
    · exact hb) (by simp)
  unfold shareW at h
  split at h
  · cases q : numW (w.drop 1) with
    | none => rw [q] at h; cases h
    | some n =>
      rw [q] at h
      cases h
      exact two sw_x (sw_int (num_small q (by rw [List.length_drop]; omega)))
  · obtain ⟨l1, l2⟩ := cut_lens hl
    unfold fracW at h
    split at h
    · rename_i a b qa qb
      cases h
      refine two (sw_int ?_) (sw_int ?_)
      · unfold signW at qa
        split at qa
        · cases q : numW ((cut1 47 w).1.drop 1) with
          | none => rw [q] at qa; cases qa
          | some n =>
            rw [q] at qa
            have := num_small q (by rw [List.length_drop]; omega)
            dsimp only at qa
            split at qa
            · cases qa
            · cases qa
              rw [Int.natAbs_neg]
              exact this
        · exact num_small qa l1
      · cases q : (cut1 47 w).2 with
        | none =>
          rw [q] at qb
          cases qb
          exact Nat.lt_of_lt_of_le (by decide : (1 : Int).natAbs < 2 ^ 1) (Nat.pow_le_pow_right (by decide) (by decide))
        | some t =>
          rw [q] at qb
          exact num_small qb (l2 t q)
    · cases h
theorem sw_pipe {r : List Cs} {d : PyData} (h : pipeW r = some d) (hl : ∀ w ∈ r, w.length ≤ 400) : Sw 11556 3 d := by
  unfold pipeW at h
  split at h
  · rename_i p a b c
    unfold pipeAt at h
    split at h
    · rename_i s d' qa qc
      split at h
      · cases h
      · cases h
        refine sw_tup (k := 3) (L := 3849) (n := 2) (fun d hd => ?_) (by simp)
        simp only [List.mem_cons, List.not_mem_nil, or_false] at hd
        rcases hd with rfl | rfl | rfl
        · exact (sw_int (num_small qa (hl a (by simp)))).le (by decide) (by decide)
        · exact (sw_oD (hl b (by simp))).le (by decide) (by decide)
        · exact sw_share qc (hl c (by simp))
    · cases h
  · cases h
theorem sw_pipes : ∀ {rows : List (List Cs)} {ps : List PyData}, pipesFrom rows = .inr ps → (∀ r ∈ rows, ∀ w ∈ r, w.length ≤ 400) → ps.length ≤ rows.length ∧ ∀ p ∈ ps, Sw 11556 3 p
  | [], ps, h, _ => by cases h; exact ⟨Nat.le_refl _, fun p hp => by cases hp⟩
  | r :: rs, ps, h, hl => by
    unfold pipesFrom at h
    by_cases c : r.take 1 = [cPipe]
    · rw [if_pos c] at h
      cases q : pipeW r with
      | none => rw [q] at h; cases h
      | some d =>
        rw [q] at h
        dsimp only at h
        cases q2 : pipesFrom rs with
        | inl k => rw [q2] at h; cases h
        | inr qs =>
          rw [q2] at h
          cases h
          obtain ⟨a, b⟩ := sw_pipes q2 fun r' hr => hl r' (List.mem_cons_of_mem _ hr)
          refine ⟨Nat.succ_le_succ a, fun p hp => ?_⟩
          rcases List.mem_cons.mp hp with rfl | hp
          · exact sw_pipe q (hl r List.mem_cons_self)
          · exact b p hp
    · rw [if_neg c] at h
      cases h
      exact ⟨Nat.zero_le _, fun p hp => by cases hp⟩
theorem sw_nums {rows : List (List Cs)} {i : Nat} {nm : Cs} {f : List Int} (h : numsAt rows i nm = some f) (hr : ∀ r ∈ rows, r.length ≤ 401 ∧ ∀ w ∈ r, w.length ≤ 400) : f.length ≤ 401 ∧ ∀ n ∈ f, n.natAbs < 2 ^ 1920 := by
  unfold numsAt at h
  split at h
  · cases h
  · rename_i r q
    obtain ⟨a, b⟩ := hr r (List.mem_of_getElem? q)
    split at h
    · unfold numsW at h
      split at h
      · rename_i c
        cases h
        refine ⟨by rw [List.length_map, List.length_drop]; omega, fun n hn => ?_⟩
        obtain ⟨w, hw, rfl⟩ := List.mem_map.mp hn
        exact val_small (List.all_eq_true.mp c w hw) (b w (List.mem_of_mem_drop hw))
      · cases h
    · cases h
theorem sw_count {rows : List (List Cs)} {i : Nat} {nm : Cs} {n : Int} (h : countAt rows i nm = some n) (hr : ∀ r ∈ rows, r.length ≤ 401 ∧ ∀ w ∈ r, w.length ≤ 400) : n.natAbs < 2 ^ 1920 := by
  cases q : numsAt rows i nm with
  | none => unfold countAt at h; rw [q] at h; cases h
  | some f =>
    rw [count_some q] at h
    match f, q, h with
    | [m], q, h =>
      cases h
      exact (sw_nums q hr).2 _ List.mem_cons_self
/-- what a text of moderate size tells can be shown -/
theorem sw_form {rows : List (List Cs)} {m u : PyData} {ps : List PyData} {f s : PyData} (h : progR rows = .form m u ps f s) (hn : rows.length ≤ 61) (hr : ∀ r ∈ rows, r.length ≤ 401 ∧ ∀ w ∈ r, w.length ≤ 400) : Sw 4000000 5 (netD m u ps f s) := by
  unfold progR at h
  cases q1 : countAt rows 0 cTanks with
  | none => rw [q1] at h; cases h
  | some mm =>
    rw [q1] at h
    dsimp only at h
    cases q2 : countAt rows 1 cUnk with
    | none => rw [q2] at h; cases h
    | some uu =>
      rw [q2] at h
      dsimp only at h
      cases q3 : pipesFrom (rows.drop 2) with
      | inl k => rw [q3] at h; cases h
      | inr ps' =>
        rw [q3] at h
        dsimp only at h
        unfold tailR at h
        cases q4 : numsAt rows (2 + ps'.length) cFilled with
        | none => rw [q4] at h; cases h
        | some ff =>
          rw [q4] at h
          dsimp only at h
          cases q5 : numsAt rows (2 + ps'.length + 1) cSeen with
          | none => rw [q5] at h; cases h
          | some ss =>
            rw [q5] at h
            dsimp only at h
            split at h
            · cases h
            · cases h
              obtain ⟨lp, sp⟩ := sw_pipes q3 fun r hr' w hw => (hr r (List.mem_of_mem_drop hr')).2 w hw
              rw [List.length_drop] at lp
              obtain ⟨lf, sf⟩ := sw_nums q4 hr
              obtain ⟨ls, ss'⟩ := sw_nums q5 hr
              have nums : ∀ {g : List Int}, g.length ≤ 401 → (∀ n ∈ g, n.natAbs < 2 ^ 1920) → Sw 771126 2 (.tuple (g.map .int)) := fun {g} hg hs => sw_tup (k := 401) (L := 1921) (n := 1) (fun d hd => by
                obtain ⟨n, hn, rfl⟩ := List.mem_map.mp hd
                exact sw_int (hs n hn)) (by rw [List.length_map]; exact hg)
              have z := sw_tup (k := 5) (L := 771126) (n := 4) (ds := [.int mm, .int uu, .tuple ps, .tuple (ff.map .int), .tuple (ss.map .int)]) (fun d hd => by
                simp only [List.mem_cons, List.not_mem_nil, or_false] at hd
                rcases hd with rfl | rfl | rfl | rfl | rfl
                · exact (sw_int (sw_count q1 hr)).le (by decide) (by decide)
                · exact (sw_int (sw_count q2 hr)).le (by decide) (by decide)
                · exact (sw_tup (k := 61) (L := 11556) (n := 3) sp (by omega)).le (by decide) (by decide)
                · exact (nums lf sf).le (by decide) (by decide)
                · exact (nums ls ss').le (by decide) (by decide)) (by simp)
              exact z.le (by decide) (by decide)
end KP

set_option Elab.async false
set_option linter.all false
set_option maxRecDepth 100000
set_option maxHeartbeats 4000000
/-! ### the law's check of one jar: its parts -/
namespace KP
open PySem PySem.Spec PyProof.Rows L2 KX KT KJ KS FR PT SX
theorem rws_hid {j : Addr} {H : Hp} {n : Nat} (hj : JarAt H j n) : ∀ {vs : List V} {rs : List (List Cs)}, Rws H vs rs → Rws (hid j H) vs rs
  | _, _, .nil => .nil
  | _, _, .cons a b => by
    refine .cons ?_ (rws_hid hj b)
    obtain ⟨c, rfl, e⟩ := a
    refine ⟨c, rfl, ?_⟩
    rw [hid_ne]
    · exact e
    · intro z
      obtain ⟨x, y, w, ej, _⟩ := hj
      rw [z, ej] at e
      rename_i ws _ _
      cases ws with
      | nil => cases e
      | cons a as => cases e
theorem wk_num (n : Nat) (h : n ≤ 999) : Wk (zL ((n : Nat) : Int)) := ⟨calm_z _, by have := zL_len (i := ((n : Nat) : Int)) (by omega); omega⟩
theorem wk_share {u : Nat} {s : Nat ⊕ Fr} (g : GoodS u s) (hu : u ≤ 4) : Wk (shW s) := by
  cases s with
  | inl j =>
    have hj : j < u := g
    have := zL_len (i := ((j : Nat) : Int)) (by omega)
    exact ⟨Calm.cons (by decide) (calm_z _), by show (zL _).length + 1 ≤ 8; omega⟩
  | inr x =>
    have t : Told x := g
    have h1 := zL_len t.n
    have d1 := t.d
    have p1 := t.pos
    have h2 := zL_len (i := x.2) (by omega)
    refine ⟨?_, ?_⟩
    · show Calm (pwF x)
      unfold pwF
      split
      · exact calm_z _
      · exact (calm_z _).append (Calm.cons (by decide) (calm_z _))
    · show (pwF x).length ≤ 8
      unfold pwF
      split
      · omega
      · rw [List.length_append, List.length_cons]
        have h3 : (zL x.2).length ≤ 3 := by
          unfold zL
          rw [if_neg (by omega)]
          exact TL.numL_len (by decide) (by omega)
        omega
theorem wk_lit {s : Str} {w : Cs} (e : s = S w) (h : okS s = true) : Wk w := by
  have := okS_wk h
  rw [e] at this
  exact this
theorem rows_wk {n : NetM} (g : GoodN n) : RowsWk 5 (rowsN n) ∧ (rowsN n).length ≤ 16 ∧ rowsN n ≠ [] := by
  have m4 := g.m4
  have u4 := g.u4
  have l12 := g.len
  have wT : Wk cTanks := wk_lit tanks_eq (by decide +kernel)
  have wU : Wk cUnk := wk_lit unk_eq (by decide +kernel)
  have wF : Wk cFilled := wk_lit filled_eq (by decide +kernel)
  have wS : Wk cSeen := wk_lit seen_eq (by decide +kernel)
  have wP : Wk cPipe := wk_lit pipe_eq (by decide +kernel)
  have wO : Wk cOut := wk_lit (s := "out") (by decide +kernel) (by decide +kernel)
  have tr : ∀ {nm : Cs} {ns : List Nat}, Wk nm → GoodT n.m ns → (trow nm ns).length ≤ 5 ∧ ∀ w ∈ trow nm ns, Wk w := fun {nm ns} hw gt => by
    refine ⟨?_, fun w h => ?_⟩
    · show (ns.map _).length + 1 ≤ 5
      rw [List.length_map]
      have := gt.len
      omega
    · rcases List.mem_cons.mp h with rfl | h
      · exact hw
      · obtain ⟨k, hk, rfl⟩ := List.mem_map.mp h
        have := gt.lt k hk
        exact wk_num k (by omega)
  refine ⟨fun r hr => ?_, ?_, fun z => ?_⟩
  · unfold rowsN at hr
    simp only [List.mem_append, List.mem_cons, List.not_mem_nil, or_false, List.mem_map] at hr
    rcases hr with (((rfl | rfl) | ⟨p, hp, rfl⟩) | rfl) | rfl
    · exact ⟨by simp, fun w h => by
        simp only [List.mem_cons, List.not_mem_nil, or_false] at h
        rcases h with rfl | rfl
        · exact wT
        · exact wk_num _ (by omega)⟩
    · exact ⟨by simp, fun w h => by
        simp only [List.mem_cons, List.not_mem_nil, or_false] at h
        rcases h with rfl | rfl
        · exact wU
        · exact wk_num _ (by omega)⟩
    · have gp := g.ps p hp
      refine ⟨by simp [prow], fun w h => ?_⟩
      unfold prow at h
      simp only [List.mem_cons, List.not_mem_nil, or_false] at h
      rcases h with rfl | rfl | rfl | rfl
      · exact wP
      · have := gp.s
        exact wk_num _ (by omega)
      · cases q : p.e with
        | none => exact wO
        | some k =>
          have := gp.e k q
          exact wk_num k (by omega)
      · exact wk_share gp.sh u4
    · exact tr wF g.fs
    · exact tr wS g.ss
  · unfold rowsN
    simp only [List.length_append, List.length_map, List.length_cons, List.length_nil]
    omega
  · unfold rowsN at z
    simp at z
/-- rows to be written, apart from the jar -/
def EachR (j : Addr) (H : Hp) (v : V) : Prop := ∃ b vr rows, v = .ref b ∧ b ≠ j ∧ H b = some (.lst vr) ∧ Rws (hid j H) vr rows ∧ rows.length ≤ 20 ∧ RowsWk 10 rows
theorem hid_bt {j : Addr} {H H' : Hp} (b : Bt j H H') : Sm (hid j H) (hid j H') := fun c u e n => by
  obtain ⟨nc, e2⟩ := hidAt e
  rw [hid_ne nc]
  exact b c u nc e2 n
theorem EachR.bt {j : Addr} {H H' : Hp} {v : V} (h : EachR j H v) (b : Bt j H H') : EachR j H' v := by
  obtain ⟨c, vr, rows, rfl, nc, e, hR, l, w⟩ := h
  exact ⟨c, vr, rows, rfl, nc, b _ _ nc e (fun _ z => by cases z), hR.sm (hid_bt b), l, w⟩
theorem Bt.refl (j : Addr) (H : Hp) : Bt j H H := fun _ _ _ e _ => e
theorem Bt.trans {j : Addr} {H H1 H2 : Hp} (a : Bt j H H1) (b : Bt j H1 H2) : Bt j H H2 := fun c u n e t => b c u n (a c u n e t) t
theorem Bt.same {j : Addr} {H H1 H2 : Hp} (a : Bt j H H1) (b : Same H1 H2) : Bt j H H2 := a.sm (Sm.same b)
theorem Bt.put {j : Addr} {H H1 : Hp} {p : Addr} {o : HO} (a : Bt j H H1) (hp : H p = none) : Bt j H (upd H1 p o) := fun c u n e t => by
  rw [upd_ne (fun z => by rw [z, hp] at e; cases e)]
  exact a c u n e t
theorem form_lens {rows : List (List Cs)} {m u : PyData} {ps : List PyData} {f s : PyData} (h : progR rows = .form m u ps f s) (hr : ∀ r ∈ rows, r.length ≤ 401 ∧ ∀ w ∈ r, w.length ≤ 400) : lenT f ≤ 2000 ∧ lenT s ≤ 2000 := by
  unfold progR at h
  cases q1 : countAt rows 0 cTanks with
  | none => rw [q1] at h; cases h
  | some mm =>
    rw [q1] at h
    dsimp only at h
    cases q2 : countAt rows 1 cUnk with
    | none => rw [q2] at h; cases h
    | some uu =>
      rw [q2] at h
      dsimp only at h
      cases q3 : pipesFrom (rows.drop 2) with
      | inl k => rw [q3] at h; cases h
      | inr ps' =>
        rw [q3] at h
        dsimp only at h
        unfold tailR at h
        cases q4 : numsAt rows (2 + ps'.length) cFilled with
        | none => rw [q4] at h; cases h
        | some ff =>
          rw [q4] at h
          dsimp only at h
          cases q5 : numsAt rows (2 + ps'.length + 1) cSeen with
          | none => rw [q5] at h; cases h
          | some ss =>
            rw [q5] at h
            dsimp only at h
            split at h
            · cases h
            · cases h
              have a := (sw_nums q4 hr).1
              have b := (sw_nums q5 hr).1
              refine ⟨?_, ?_⟩
              · show (ff.map PyData.int).length ≤ 2000
                rw [List.length_map]; omega
              · show (ss.map PyData.int).length ≤ 2000
                rw [List.length_map]; omega
theorem shw_named {K : PySem.W.Frag} {H : Hp} {l : Addr} {v : V} {nm : Str} {d : PyData} (hs : Sw 1921 1 (.str nm)) (hd : Sw 4000000 5 d) (e : H l = some (.lst [.str nm, v])) (th : Th H v d) : Shw K H (.ref l) (.list [.str nm, d]) := by
  have z := sw_lst (k := 2) (L := 4000000) (n := 5) (ds := [.str nm, d]) (fun x hx => by
    simp only [List.mem_cons, List.not_mem_nil, or_false] at hx
    rcases hx with rfl | rfl
    · exact hs.le (by decide) (by decide)
    · exact hd) (by simp)
  exact ⟨z.ok, Nat.le_trans z.len (by decide), Nat.le_trans z.dep (by decide), .inl ⟨z.nod, .lst (SqL.of e) (.cons (.str _) (.cons (th.dp hd.nod) .nil))⟩⟩
theorem _root_.PT.Lns.mono {m m' : Nat} {t : Cs} (h : Lns m t) (l : m ≤ m') : Lns m' t := ⟨h.run, Nat.le_trans h.cnt l, Nat.le_trans h.len (by have := Nat.mul_le_mul_right 401 l; omega), h.asc⟩
theorem cut_takeN (w : Cs) (n : Nat) : cutS (S w) none (some (n : Int)) = S (w.take n) := by
  unfold cutS
  rw [HT.sIx_none, HT.sIx_nat, S_len]
  show S (((w.drop 0).take (min n w.length - 0))) = S (w.take n)
  rw [List.drop_zero, Nat.sub_zero]
  by_cases h : n ≤ w.length
  · rw [show min n w.length = n by omega]
  · rw [show min n w.length = w.length by omega, List.take_of_length_le (Nat.le_refl _), List.take_of_length_le (by omega)]
theorem ToldAt.sm {H H' : Hp} {l : Addr} {r : PT.Rd} (h : ToldAt H l r) (s : Sm H H') : ToldAt H' l r := by
  cases r with
  | row i => exact lst_sm s h
  | form m u ps f s' =>
    obtain ⟨v, e, th⟩ := h
    exact ⟨v, lst_sm s e, th.mono s⟩
section
variable {K : PySem.W.Frag} {σ : L2.St} {H : Hp}
theorem one_any {E : XK} {t : TA} {ss : List Str} {j : Addr} {n : Nat} {Q : VK} (ht : LitS t ss) (h0 : σ[0]? = some (some (.ref j))) (hne : ss ≠ []) (hl : ss.length ≤ 1000) (hj : JarAt H j n) (hn : n < 1000000)
    (k : ∀ s H', s ∈ ss → KJ.But j H H' → JarAt H' j (n + 1) → Q (.str s) H') : tCall (spOne K) [] E (tCons (tVar 0) (tCons (tLst t) tNil)) σ H Q := by
  refine ⟨_, h0, ht σ H _ ⟨?_, fun p hp => ?_⟩⟩
  · rw [List.length_map]
    exact Nat.le_trans hl (by decide)
  have sp := same_upd (o := .lst (ss.map V.str)) hp
  refine ⟨j, p, ss.map V.str, n, rfl, jar_new hj hp, .inl upd_same, fun z => hne (List.map_eq_nil_iff.mp z), by rw [List.length_map]; exact Nat.lt_of_le_of_lt hl (by decide), jar_same hj sp, hn, fun x H' hx b jr => ?_⟩
  obtain ⟨s, hs, rfl⟩ := List.mem_map.mp hx
  exact k s H' hs ((KJ.But.same sp).trans b) jr
end
theorem rws_ref {H : Hp} {v : V} {vs : List V} {rs : List (List Cs)} (h : Rws H (v :: vs) rs) : ∃ c, v = .ref c := by
  cases h with
  | cons a b =>
    obtain ⟨c, rfl, _⟩ := a
    exact ⟨c, rfl⟩
theorem lst_words {a : Addr} {us : List V} {r : List Cs} (h : HO.lst (.ref a :: us) = HO.lst (sL r)) : False := by
  cases r with
  | nil => cases h
  | cons x xs => cases h
theorem rws_put {j ps a : Addr} {us : List V} {o : HO} {H : Hp} (e : H ps = some (.lst (.ref a :: us))) : ∀ {vs : List V} {rs : List (List Cs)}, Rws (hid j H) vs rs → Rws (hid j (upd H ps o)) vs rs
  | _, _, .nil => .nil
  | _, _, .cons h b => by
    refine .cons ?_ (rws_put e b)
    obtain ⟨c, rfl, ec⟩ := h
    obtain ⟨nc, ec'⟩ := hidAt ec
    refine ⟨c, rfl, ?_⟩
    rw [hid_ne nc, upd_ne]
    · exact ec'
    · intro z
      rw [z, e] at ec'
      exact lst_words (Option.some.inj ec')
theorem Bt.put2 {j ps : Addr} {H H5 H8 : Hp} {o : HO} (a : Bt j H H5) (f : H5 ps = none) (b : Bt j H H8) : Bt j H (upd H8 ps o) := fun c u n e t => by
  rw [upd_ne (fun z => by have := a c u n e t; rw [z, f] at this; cases this)]
  exact b c u n e t
theorem cons_call {sp : Sp} {E : XK} {t : TA} {QA : List V → Hp → Prop} {σ : L2.St} {H : Hp} {vs : List V} (h : Ai t σ H vs) (k : sp vs H (fun v H1 => QA [v] H1) E) : tCons (tCall sp [] E t) tNil σ H QA := h _ (by rw [List.append_nil]; exact k)
theorem cut_go {t u : TS} {D : Ends} {σ : L2.St} {H : Hp} (Mid : L2.St → Hp → Prop) (h : t { D with nx := Mid } σ H) (h2 : ∀ σ' H', Mid σ' H' → u D σ' H') : Evl.tCut t u D σ H := ⟨Mid, h, h2⟩
theorem pipes_len : ∀ rows : List (List Cs), (∀ k, pipesFrom rows = .inl k → k ≤ rows.length) ∧ ∀ ps, pipesFrom rows = .inr ps → ps.length ≤ rows.length
  | [] => ⟨(fun k h => by cases h), fun ps h => by cases h; exact Nat.le_refl _⟩
  | r :: rs => by
    obtain ⟨a, b⟩ := pipes_len rs
    unfold pipesFrom
    by_cases c : r.take 1 = [cPipe]
    · rw [if_pos c]
      cases pipeW r with
      | none => exact ⟨(fun k h => by cases h; exact Nat.zero_le _), fun ps h => by cases h⟩
      | some d =>
        dsimp only
        cases q : pipesFrom rs with
        | inl k' => exact ⟨(fun k h => by cases h; exact Nat.succ_le_succ (a k' q)), fun ps h => by cases h⟩
        | inr ps' => exact ⟨(fun k h => by cases h), fun ps h => by cases h; exact Nat.succ_le_succ (b ps' q)⟩
    · rw [if_neg c]
      exact ⟨(fun k h => by cases h), fun ps h => by cases h; exact Nat.zero_le _⟩
theorem row_bound {rows : List (List Cs)} {i : Nat} (h : progR rows = .row i) : i ≤ rows.length + 5 := by
  obtain ⟨a, b⟩ := pipes_len (rows.drop 2)
  unfold progR at h
  split at h
  · cases h; omega
  · split at h
    · cases h; omega
    · split at h
      · rename_i k q
        cases h
        have := a k q
        rw [List.length_drop] at this
        omega
      · rename_i ps q
        have := b ps q
        rw [List.length_drop] at this
        unfold tailR at h
        split at h
        · cases h; omega
        · split at h
          · cases h; omega
          · split at h
            · cases h; omega
            · cases h
/-- a suffix of a text -/
def sufs : List Str := ["", "", "", "\n", "\n \n"]
theorem suf_of {s : Str} (h : s ∈ sufs) : ∃ suf : Cs, s = S suf ∧ Lns 2 suf ∧ (∀ k, k ≤ 400 → PT.run k suf = true) ∧ suf.length ≤ 3 := by
  have e0 : ("" : Str) = S [] := by decide +kernel
  have e2 : ("\n \n" : Str) = S [10, 32, 10] := by decide +kernel
  unfold sufs at h
  simp only [List.mem_cons, List.not_mem_nil, or_false] at h
  have r0 : Lns 2 [] := ⟨rfl, by decide, by decide, fun c hc => by cases hc⟩
  rcases h with rfl | rfl | rfl | rfl | rfl
  · exact ⟨[], e0, r0, fun k _ => rfl, by decide⟩
  · exact ⟨[], e0, r0, fun k _ => rfl, by decide⟩
  · exact ⟨[], e0, r0, fun k _ => rfl, by decide⟩
  · exact ⟨[10], nl_eq, ⟨by decide, by decide, by decide, by decide⟩, fun k _ => rfl, by decide⟩
  · exact ⟨[10, 32, 10], e2, ⟨by decide, by decide, by decide, by decide⟩, fun k _ => by rw [run_nl]; decide, by decide⟩
theorem sw_row : Sw 1921 1 (.str "row") := ⟨(by simp only [PyData.showable]), (by simp only [PyData.shown]; decide +kernel), by simp [PyData.depth], by simp [PyData.hasDict]⟩
theorem sw_nf (b : Bool) : Sw 1921 1 (.str (if b = true then "net" else "form")) := by
  cases b with
  | true => exact ⟨(by simp only [PyData.showable]), (by simp only [PyData.shown]; decide +kernel), by simp [PyData.depth], by simp [PyData.hasDict]⟩
  | false => exact ⟨(by simp only [PyData.showable]), (by simp only [PyData.shown]; decide +kernel), by simp [PyData.depth], by simp [PyData.hasDict]⟩
end KP

set_option Elab.async false
set_option linter.all false
set_option maxRecDepth 100000
set_option maxHeartbeats 4000000
/-! ### a dict of terms put in order -/
namespace QP
open PySem PySem.Spec PyProof.Rows L2 KX KP QR QD FR
abbrev sInOrder : Stmt := top 32
theorem atD_mem {D : Poly} (hn : (D.map (·.1)).Nodup) {t : Mon × Fr} (h : t ∈ D) : atD D t.1 = some t.2 := by
  induction D with
  | nil => cases h
  | cons u D ih =>
    rw [List.map_cons, List.nodup_cons] at hn
    unfold atD
    rcases List.mem_cons.mp h with rfl | h
    · rw [List.find?_cons_of_pos (by simp)]
      rfl
    · have c : ¬ u.1 = t.1 := fun z => hn.1 (List.mem_map.mpr ⟨t, h, z.symm⟩)
      rw [List.find?_cons_of_neg (by simpa using c)]
      exact ih hn.2 h
def nz (t : Mon × Fr) : Bool := !decide (t.2 = (0, 1))
theorem nz_eq (x : Fr) : (!PyData.eqv (fD x) (fD (0, 1))) = !decide (x = (0, 1)) := by
  obtain ⟨a, b⟩ := x
  have : PyData.eqv (fD (a, b)) (fD (0, 1)) = decide ((a, b) = ((0, 1) : Fr)) := by
    rw [Bool.eq_iff_iff, decide_eq_true_iff]
    simp [fD, PyData.eqv, PyData.eqvAll]
  rw [this]
theorem fD_shaped (x : Fr) : SeqAt.shaped (fD x) = true := by
  obtain ⟨a, b⟩ := x
  simp [fD, SeqAt.shaped, PyData.canLay0, PyData.canLayAll0, PyData.depth, PyData.depthAll]
def spInOrder (K : PySem.W.Frag) : Sp := fun vs H Q _ => ∃ d D, vs = [.ref d] ∧ DicV K H d D ∧ (D.map (·.1)).Nodup ∧ D.length ≤ 900 ∧ ∀ v H', Same H H' → PolV K H' v (inOrd D) → Q v H'
/-- keys as they stand -/
def KeysAt (H : Hp) (ms : List (Addr × Mon)) : Prop := ∀ p ∈ ms, H p.1 = some (.tup (p.2.map V.int))
section
variable {P : Program} {w : World} {K : PySem.W.Frag} {mg : Str → Option Value} {base : Heap}
abbrev nIo : List Str := ["kept", "left", "powers"]
theorem scIo : FnScope nIo ["kept"] (defScope sInOrder) := ⟨rfl, rfl, rfl, by decide +kernel, rfl, by decide +kernel, by decide +kernel⟩
theorem ok_inorder {f fS : Addr} {fd fdS : FuncData} {aU aN : Addr} (F : Fun K "_in_order" "_in_order" sInOrder f fd) (T : TxD mg) (mSum : mg "sum" = none) (C : Cst K mg aU aN) (FS : Fun K "_standing" "_standing" sStanding fS fdS) (mS : mg "_standing" = some (.ref fS)) (bS : Binds K fdS ["powers"] []) :
    FnOk P w K mg base CX0 4 f fd ["kept"] (spInOrder K) := by
  refine F.ok scIo (fun vs H Q E h => ?_) (fun cdv A outer s H vs Q E hr h => ?_)
  · obtain ⟨_, _, rfl, _⟩ := h
    rfl
  · obtain ⟨d, D, rfl, hd, hn, hl, k⟩ := h
    have hu1 : (A.deeper (envOfC "_in_order" (defScope sInOrder) s.heap.objs.size f cdv)).units + 1 < cLine := by have := hr.un; omega
    have hu64 : (A.deeper (envOfC "_in_order" (defScope sInOrder) s.heap.objs.size f cdv)).units + 64 < cLine := by have := hr.un; omega
    refine ⟨_, pss_cons (ps_lock (ps_setLc (i := 1) (own := [("powers", 2)]) (g := gName 2) (by rfl) scIo.nd rfl rfl (sw_true rfl rfl rfl (by decide +kernel)) (pi_keys (pv 0)) (blkOk_by (N := nIo) (sc := defScope sInOrder) (by decide +kernel))
        (fun _ _ _ _ _ => pg_name (i := 2) scIo.nd rfl (Or.inl rfl)) (fun _ _ _ _ _ => pts_one (pt_cmpR (r := rNeD K) (by exact op_neD hu64) (pe_dget hu1 (pv 0) (pv 2) (fun _ _ => rfl)) (pe_glob (v := .ref aN) (by rfl) C.mN rfl) (nomark _))) (fun _ _ _ _ _ => pv 2)))
      (pss_one (ps_ret (pe_tupleOf (by rfl) T.tuple (pe_lc (own := [("powers", 2)]) (g := gName 2) (tt := tYes) rfl scIo.nd (pi_list (pe_callBK (cr_sortKR FS bS mSum hr) (by rfl) T.sorted (by decide +kernel) (pa_cons (pv 1) pa_nil) (pk_cons (pe_glob (v := .ref fS) (by rfl) mS rfl) (pk_cons pe_bl pk_nil))))
        (blkOk_by (N := nIo) (sc := defScope sInOrder) (by decide +kernel)) (fun _ _ _ _ _ => pg_name (i := 2) scIo.nd rfl (Or.inl rfl)) (fun _ _ _ _ _ => pts_nil) (fun _ _ _ _ _ => pe_tup (pa_cons (pv 2) (pa_cons (pe_dget hu1 (pv 0) (pv 2) (fun _ _ => rfl)) pa_nil))))))), ?_⟩
    obtain ⟨kvs, ekv, hD⟩ := hd
    have lkv := hD.len
    have valAt : ∀ {H' : Hp} {t : Mon × Fr}, t ∈ D → Tt H H' → ∃ v, valV kvs (keyM t.1) = some v ∧ FrV K H' v t.2 := fun {H' t} ht s => by
      rcases hD.val t.1 with ⟨_, z⟩ | ⟨v, x, e1, e2, fv⟩
      · rw [atD_mem hn ht] at z
        cases z
      · rw [atD_mem hn ht] at e2
        cases e2
        exact ⟨v, e1, fv.tk s.tk⟩
    refine ⟨d, .dT kvs, ekv, trivial, fun od => ?_⟩
    have tf : Tt H (upd H d (.frz od (.dT kvs))) := Tt.put ekv (fun _ z => by cases z) (fun _ _ z => by cases z)
    refine ⟨_, rfl, d, od, rfl, .inr ⟨kvs, upd_same, fun Dl hDl => ?_⟩⟩
    have nDl : d ≠ Dl := fun z => by rw [← z, upd_same] at hDl; cases hDl
    refine lc_it (walk_keysT (d := d) (o := od) (kvs := kvs)) (fun n H' => Same (upd H d (.frz od (.dT kvs))) H' ∧ ∃ ms : List (Addr × Mon), H' Dl = some (.lst (ms.map fun p => V.ref p.1)) ∧ KeysAt H' ms ∧ ms.map (·.2) = ((D.take n).filter nz).map (·.1))
      ⟨same_upd hDl, [], upd_same, (fun p hp => by cases hp), rfl⟩ (fun n H' _ z => z.1 _ _ upd_same) ?_ ?_
    · rintro i x H' H'' hi ⟨s7, ms, eDl, kA, em⟩ ⟨rfl, kk, v, q, hkv, rfl, eq⟩
      obtain ⟨t, ht, rfl, _⟩ := hD.at hkv
      have htm := List.mem_of_getElem? ht
      have t7 := tf.trans (Tt.same s7)
      obtain ⟨v', ev', fv'⟩ := valAt htm t7
      have lms : ms.length ≤ D.length := by
        have := congrArg List.length em
        rw [List.length_map, List.length_map] at this
        have h1 := List.length_filter_le nz (D.take i)
        rw [List.length_take] at h1
        omega
      refine ⟨rfl, ?_⟩
      refine ⟨_, rfl, _, rfl, d, v', rfl, .inr ⟨kvs, keyM t.1, q, .inr ⟨od, s7 _ _ upd_same⟩, rfl, eq, ev'.symm⟩, fD t.2, fD (0, 1), frV_dp fv', .tup (C.cN _) (.cons (.int _) (.cons (.int _) .nil)), fD_shaped _, fD_shaped _, _, rfl, ?_⟩
      rw [nz_eq]
      have eT : (D.take (i + 1)).filter nz = (D.take i).filter nz ++ (if nz t = true then [t] else []) := by
        rw [List.take_add_one, ht, Option.toList_some, List.filter_append, List.filter_cons, List.filter_nil]
      refine iteB (fun c => ?_) (fun c => ?_)
      · have c' : nz t = true := c
        have lt : (ms.map fun p => V.ref p.1).length < sizeLine := by
          rw [List.length_map]
          exact Nat.lt_of_le_of_lt (show _ ≤ 2000 by omega) (by decide)
        refine ⟨_, rfl, _, eDl, lt, ?_⟩
        have sp := same_put s7 hDl (o := .lst ((ms.map fun p => V.ref p.1) ++ [V.ref q]))
        have nq : q ≠ Dl := fun z => by rw [z, eDl] at eq; cases eq
        refine ⟨sp, ms ++ [(q, t.1)], ?_, fun p hp => ?_, ?_⟩
        · rw [upd_same, List.map_append]
          rfl
        · rcases List.mem_append.mp hp with hp | hp
          · have := kA p hp
            rw [upd_ne (fun z => by rw [z, eDl] at this; cases this)]
            exact this
          · rw [List.mem_singleton.mp hp, upd_ne nq]
            rw [keyM_v] at eq
            exact eq
        · rw [eT, if_pos c', List.map_append, List.map_append, em]
          rfl
      · have c' : nz t = false := c
        refine ⟨s7, ms, eDl, kA, ?_⟩
        rw [eT, if_neg (by rw [c']; decide), List.append_nil]
        exact em
    · rintro H1 ⟨s1, ms, eDl, kA, em⟩
      rw [List.take_of_length_le (by omega)] at em
      refine ⟨s1 _ _ upd_same, ?_⟩
      have sH : Same H (upd H1 d (.dT kvs)) := fun b o e => by
        by_cases c : b = d
        · subst c
          rw [upd_same, ← ekv]
          exact e
        · rw [upd_ne c]
          exact s1 _ _ (by rw [upd_ne c]; exact e)
      have eDl2 : (upd H1 d (.dT kvs)) Dl = some (.lst (ms.map fun p => V.ref p.1)) := by rw [upd_ne (Ne.symm nDl)]; exact eDl
      have ed2 : (upd H1 d (.dT kvs)) d = some (.dT kvs) := upd_same
      have kA2 : KeysAt (upd H1 d (.dT kvs)) ms := fun p hp => by
        have := kA p hp
        rw [upd_ne (fun z => by
          have e1 : H1 d = _ := s1 _ _ upd_same
          rw [z, e1] at this
          cases this)]
        exact this
      generalize upd H1 d (.dT kvs) = H2 at *
      have hlm : ms.length ≤ 900 := by
        have := congrArg List.length em
        rw [List.length_map, List.length_map] at this
        have := List.length_filter_le nz D
        omega
      refine ⟨_, rfl, Dl, ms, rfl, rfl, SqL.of eDl2, fun p hp => SqT.of (.inl (kA2 p hp)), by omega, fun ys p hp hs hpn => ?_⟩
      have s3 := same_upd (o := .lst (ys.map fun p => V.ref p.1)) hpn
      have e3 : (upd H2 p (.lst (ys.map fun p => V.ref p.1))) p = some (.lst (ys.map fun p => V.ref p.1)) := upd_same
      have kA3 : KeysAt (upd H2 p (.lst (ys.map fun p => V.ref p.1))) ys := fun q hq => s3 _ _ (kA2 q (hp.mem_iff.mp hq))
      have ed3 := s3 _ _ ed2
      have sH3 := sH.trans s3
      generalize upd H2 p (.lst (ys.map fun p => V.ref p.1)) = H3 at *
      refine ⟨p, rfl, ⟨_, SqL.of e3⟩, fun D2 hD2 => ?_⟩
      have lys : ys.length ≤ 900 := by rw [hp.length_eq]; exact hlm
      have inD : ∀ q ∈ ys, ∃ t ∈ D, t.1 = q.2 ∧ nz t = true := fun q hq => by
        have : q.2 ∈ ms.map (·.2) := List.mem_map.mpr ⟨q, hp.mem_iff.mp hq, rfl⟩
        rw [em] at this
        obtain ⟨t, ht, e⟩ := List.mem_map.mp this
        obtain ⟨h1, h2⟩ := List.mem_filter.mp ht
        exact ⟨t, h1, e, h2⟩
      refine lc_map (walk_list (K := K) (a := p) (xs := ys.map fun p => V.ref p.1)) (fun H' zs n => TermsV K H' zs ((ys.take n).map fun q => (q.2, (atD D q.2).getD (0, 1))) ∧ n ≤ ys.length) hD2 (by rw [List.length_map]; omega) (fun _ _ n q => by rw [q.1.len, List.length_map, List.length_take]; have := q.2; omega) ⟨.nil, Nat.zero_le _⟩
        (fun H' s => SqL.of (s _ _ e3)) (by intro x; rfl) ?_ ?_
      · rintro n x _ H' xs hn' s e hlx ⟨q, hle⟩ ⟨rfl, hx⟩
        rw [List.length_map] at hn'
        have ey := List.getElem?_eq_getElem hn'
        rw [List.getElem?_map, ey] at hx
        cases hx
        obtain ⟨t, htD, et, _⟩ := inD _ (List.getElem_mem hn')
        obtain ⟨v, ev, fv⟩ := valAt htD (Tt.same (sH3.trans s))
        have kq := s _ _ (kA3 _ (List.getElem_mem hn'))
        rw [et] at ev
        refine ⟨_, rfl, _, rfl, _, rfl, d, v, rfl, .inr ⟨kvs, keyM ys[n].2, _, .inl (s _ _ ed3), rfl, by rw [keyM_v]; exact kq, ev.symm⟩, by show 2 ≤ sizeLine; decide, fun T hT => ?_⟩
        have sT := same_upd (o := .tup [V.ref ys[n].1, v]) hT
        refine aft hD2 (s.trans sT) (sT _ _ e) hlx ⟨?_, hn'⟩
        have ttp : Tt (upd H' T (.tup [V.ref ys[n].1, v])) (upd (upd H' T (.tup [V.ref ys[n].1, v])) D2 (.lst (xs ++ [.ref T]))) := Tt.put (sT _ _ e) (fun _ z => by cases z) (fun _ _ z => by cases z)
        rw [List.take_add_one, ey, Option.toList_some, List.map_append]
        refine TermsV.tt ttp ((TermsV.tt (Tt.same sT) q).snoc ⟨T, _, _, rfl, SqT.of (.inl upd_same), ⟨_, rfl, sT _ _ kq⟩, ?_⟩)
        show FrV K _ v ((atD D ys[n].2).getD (0, 1))
        rw [← et, atD_mem hn htD]
        exact fv.tk (Tk.same sT)
      · rintro H' zs s e ⟨q, _⟩
        rw [List.take_of_length_le (by rw [List.length_map]; exact Nat.le_refl _)] at q
        refine .inl ⟨D2, zs, rfl, SqL.of e, fun T hT => ?_⟩
        have sT := same_upd (o := .tup zs) hT
        refine k _ _ ((sH3.trans s).trans sT) ⟨T, zs, rfl, SqT.of (.inl upd_same), ?_⟩
        have fin : (ys.map fun q => (q.2, (atD D q.2).getD (0, 1))) = inOrd D := by
          unfold inOrd
          have hL : ((D.filter nz).map (·.1)).Nodup := hn.sublist (List.filter_sublist.map _)
          refine sort_is hL ?_ ?_
          · have e1 : (ms.map fun q => (q.2, (atD D q.2).getD (0, 1))) = D.filter nz := by
              have e2 : (ms.map fun q => (q.2, (atD D q.2).getD (0, 1))) = (ms.map (·.2)).map fun m => (m, (atD D m).getD (0, 1)) := by
                rw [List.map_map]
                rfl
              rw [e2, em, List.map_map]
              conv => rhs; rw [← List.map_id (D.filter nz)]
              refine List.map_congr_left fun t ht => ?_
              show (t.1, (atD D t.1).getD (0, 1)) = t
              rw [atD_mem hn (List.mem_filter.mp ht).1]
              rfl
            have := hp.map fun q => (q.2, (atD D q.2).getD (0, 1))
            rw [e1] at this
            exact this
          · exact List.pairwise_map.mpr hs
        rw [← fin]
        exact TermsV.tt (Tt.same sT) q
end
end QP

set_option Elab.async false
set_option linter.all false
set_option maxRecDepth 100000
set_option maxHeartbeats 4000000
/-! ### numbers and unknowns as polynomials -/
namespace QP
open PySem PySem.Spec PyProof.Rows L2 KX KP QR QD FR
def spNeedUnk : Sp := fun vs H Q _ => ∃ n u : Int, vs = [.int n, .int u] ∧ 0 ≤ u ∧ u ≤ n - 1 ∧ Q .non H
def zerosM (n : Nat) : Mon := List.replicate n 0
def spNumber (K : PySem.W.Frag) : Sp := fun vs H Q _ => ∃ (n : Nat) (v : V) (x : Fr), vs = [.int (n : Nat), v] ∧ n ≤ 4 ∧ FrV K H v x ∧ isR (fD x) = true ∧ ∀ r H', Same H H' → PolV K H' r (inOrd [(zerosM n, x)]) → Q r H'
def unitM (n u : Nat) : Mon := (List.range n).map fun i => if i = u then 1 else 0
def spUnkOf (K : PySem.W.Frag) : Sp := fun vs H Q _ => ∃ (n u : Nat), vs = [.int (n : Nat), .int (u : Nat)] ∧ n ≤ 4 ∧ u < n ∧ ∀ r H', Same H H' → PolV K H' r [(unitM n u, (1, 1))] → Q r H'
section
variable {P : Program} {w : World} {K : PySem.W.Frag} {mg : Str → Option Value} {base : Heap}
theorem flat_rep (n : Nat) : (List.replicate n [V.int 0]).flatten = (zerosM n).map V.int := by
  induction n with
  | zero => rfl
  | succ n ih => rw [List.replicate_succ, List.flatten_cons, ih]; rfl
end
end QP

set_option Elab.async false
set_option linter.all false
set_option maxRecDepth 100000
set_option maxHeartbeats 4000000
/-! ### the law's numbers and monomials -/
namespace QL
open PySem PySem.Spec PyProof.Rows L2 KX KP QR QD QP FR KJ
abbrev lCommon : Stmt := top 43
abbrev lFracP : Stmt := top 44
abbrev lNumber : Stmt := top 47
abbrev lPowers : Stmt := top 48
abbrev lKeyed : Stmt := top 49
def spCommon : Sp := fun vs H Q _ => ∃ a b : Int, vs = [.int a, .int b] ∧ Q (.int ((Nat.gcd a.natAbs b.natAbs : Nat) : Int)) H
structure NumOk (x : Fr) : Prop where
  pos : 0 < x.2
  d : x.2 ≤ 12
  n : x.1.natAbs ≤ 20
  g : Nat.gcd x.1.natAbs x.2.natAbs = 1
def spNum : Sp := fun vs H Q _ => ∃ j n, vs = [.ref j] ∧ JarAt H j n ∧ n ≤ 900000 ∧ ∀ a x H', H' a = some (.tup [.int x.1, .int x.2]) → H a = none → NumOk x → But j H H' → JarAt H' j (n + 3) → Q (.ref a) H'
structure MonOk (many most : Nat) (m : Mon) : Prop where
  len : m.length = many
  pos : ∀ i ∈ m, 0 ≤ i
  sum : m.sum ≤ most
def spPows : Sp := fun vs H Q _ => ∃ j n many most, vs = [.ref j, .int (many : Nat), .int (most : Nat)] ∧ JarAt H j n ∧ n ≤ 900000 ∧ many ≤ 4 ∧ most ≤ 1000 ∧ ∀ b m H', H' b = some (.tup (m.map V.int)) → H b = none → MonOk many most m → But j H H' → JarAt H' j (n + 8) → Q (.ref b) H'
theorem par_go2 {i j : Nat} {ta : TA} {tz : TS} {D : Ends} {σ : L2.St} {H : Hp} (h : ta σ H fun vs H1 => ∃ v w, vs = [v, w] ∧ tz D ((σ.set i (some v)).set j (some w)) H1) : tSeq (tPar i j ta) tz D σ H := h
section
variable {P : Program} {w : World} {K : PySem.W.Frag} {mg : Str → Option Value} {base : Heap}
theorem scCom : FnScope ["one", "two"] ["one", "two"] (defScope lCommon) := ⟨rfl, rfl, rfl, by decide +kernel, rfl, by decide +kernel, by decide +kernel⟩
theorem ok_common {f : Addr} {fd : FuncData} (F : Fun K "_law_common" "_law_common" lCommon f fd) (T : TxT mg) : FnOk P w K mg base CX0 1 f fd ["one", "two"] spCommon := by
  refine F.ok scCom (fun vs H Q E h => ?_) (fun cdv A outer s H vs Q E hr h => ?_)
  · obtain ⟨t, l, rfl, _⟩ := h
    rfl
  · obtain ⟨t, l, rfl, k⟩ := h
    refine ⟨_, pss_cons (ps_par (i := 0) (j := 1) (by rfl) scCom.nd rfl rfl (by decide) rfl rfl (pa_cons (pe_callB call_abs (by rfl) T.abs (by decide +kernel) (pa_cons (pv 0) pa_nil)) (pa_cons (pe_callB call_abs (by rfl) T.abs (by decide +kernel) (pa_cons (pv 1) pa_nil)) pa_nil)) (by rfl))
      (pss_cons (ps_while PassesOwn.never (pt_cmpR op_gt (pv 1) pe_int (nomark _)) (pss_one (ps_par (i := 0) (j := 1) (by rfl) scCom.nd rfl rfl (by decide) rfl rfl (pa_cons (pv 1) (pa_cons (pe_op op_mod (pe_callTy call_int1 (by rfl) T.int (by decide +kernel) (pa_cons (pv 0) pa_nil)) (pv 1)) pa_nil)) (by rfl))))
      (pss_one (ps_ret (pv 0)))), ?_⟩
    refine ⟨_, rfl, _, rfl, _, rfl, _, rfl, _, _, rfl, ?_⟩
    have ea : ∀ t : Int, (if t < 0 then -t else t) = (t.natAbs : Int) := fun t => by split <;> omega
    refine ⟨fun m σ H' => H' = H ∧ ∃ a b : Nat, σ = [some (.int a), some (.int b)] ∧ Nat.gcd a b = Nat.gcd t.natAbs l.natAbs ∧ m = b, ⟨_, rfl, t.natAbs, l.natAbs, ?_, rfl, rfl⟩, ?_⟩
    · show [some (V.int (if t < 0 then -t else t)), some (V.int (if l < 0 then -l else l))] = _
      rw [ea, ea]
    · rintro m σ H' ⟨rfl, a, b, rfl, hgc, hm⟩
      refine ⟨_, rfl, _, _, rfl, rfl, _, rfl, ?_⟩
      dsimp only
      by_cases c : 0 < b
      · rw [if_pos (decide_eq_true (show (0 : Int) < (b : Int) by omega))]
        refine ⟨fun σ' H2 => H2 = H' ∧ σ' = [some (.int b), some (.int ((a % b : Nat) : Int))], ?_, ?_⟩
        · rintro σ' H2 ⟨rfl, rfl⟩
          have lt := Nat.mod_lt a c
          refine ⟨a % b, by omega, rfl, b, a % b, rfl, ?_, rfl⟩
          rw [← hgc, Nat.gcd_comm a b, Nat.gcd_rec b a, Nat.gcd_comm]
        · refine ⟨_, rfl, _, rfl, .inl ⟨_, rfl, _, rfl, _, _, rfl, rfl, show (0 : Int) < (b : Int) by omega, _, _, rfl, rfl, ?_⟩⟩
          show [some (V.int b), some (V.int ((a : Int) % (b : Int)))] = _
          rw [Int.natCast_emod]
      · have b0 : b = 0 := by omega
        subst b0
        rw [if_neg (by decide)]
        rw [Nat.gcd_zero_right] at hgc
        subst hgc
        exact ⟨_, rfl, k⟩
theorem scFrP : FnScope ["top", "low", "by"] ["top", "low"] (defScope lFracP) := ⟨rfl, rfl, rfl, by decide +kernel, rfl, by decide +kernel, by decide +kernel⟩
theorem ok_fracP {f fC : Addr} {fd fdC : FuncData} (F : Fun K "_law_frac" "_law_frac" lFracP f fd) (FC : FnOk P w K mg base CX0 1 fC fdC ["one", "two"] spCommon) (mC : mg "_law_common" = some (.ref fC)) (kC : PySem.W.keepIn K (.ref fC) = true) (bC : Binds K fdC ["one", "two"] []) :
    FnOk P w K mg base CX0 2 f fd ["top", "low"] spLow := by
  refine F.ok scFrP (fun vs H Q E h => ?_) (fun cdv A outer s H vs Q E hr h => ?_)
  · obtain ⟨t, l, rfl, _⟩ := h
    rfl
  · obtain ⟨t, l, rfl, l0, l9, k⟩ := h
    refine ⟨_, pss_cons (ps_set (i := 2) scFrP.nd rfl (Or.inl rfl) (pe_call FC hr (by rfl) mC kC bC .nil pass0 (pa_cons (pv 0) (pa_cons (pv 1) pa_nil))))
      (pss_cons (ps_set (i := 2) scFrP.nd rfl (Or.inl rfl) (pe_ifExp (pt_cmpR op_gt (pv 1) pe_int (nomark _)) (pv 2) (pe_op op_sub pe_int (pv 2))))
      (pss_one (ps_ret (pe_tup (pa_cons (pe_op op_fdivW (pv 0) (pv 2)) (pa_cons (pe_op op_fdivW (pv 1) (pv 2)) pa_nil)))))), ?_⟩
    have hg := gcd_pos (t := t) l0
    have hd : ∀ a : Int, CDivW a ((Nat.gcd t.natAbs l.natAbs : Nat) : Int) := fun a => wide_div (b := 9000) (by omega) (by rw [Int.natAbs_natCast]; exact Nat.lt_of_le_of_lt (Nat.le_of_dvd (by omega) (Nat.gcd_dvd_right _ _)) l9) (by decide) (Nat.le_refl _)
    refine i_set (vi_call (ai_cons (vi_var rfl) (ai_cons (vi_var rfl) ai_nil)) fun Q q => ⟨t, l, rfl, q⟩) ?_
    refine i_set (v := .int ((Nat.gcd t.natAbs l.natAbs : Nat) : Int)) (vi_same (vi_if (b := true) (u := .non) (ti_test (vi_op (vi_var rfl) vi_c fun Q q => ⟨l, 0, rfl, rfl, by show Q (.bl (decide ((0 : Int) < l))) H; rw [decide_eq_true l0]; exact q⟩)) (fun _ => vi_var rfl) fun z => by cases z) rfl) ?_
    exact ⟨_, rfl, _, rfl, _, _, rfl, rfl, hd t, _, rfl, _, rfl, _, _, rfl, rfl, hd l, (by decide : 2 ≤ sizeLine), fun p hp => k p hp⟩
theorem scLn : FnScope ["jar", "way"] ["jar"] (defScope lNumber) := ⟨rfl, rfl, rfl, by decide +kernel, rfl, by decide +kernel, by decide +kernel⟩
theorem ok_lnumber {f fD fF : Addr} {fd fdD fdF : FuncData} (F : Fun K "_law_number" "_law_number" lNumber f fd)
    (FD : FnOk P w K mg base CX0 1 fD fdD ["jar", "many"] spDip) (mD : mg "_law_draw" = some (.ref fD)) (kD : PySem.W.keepIn K (.ref fD) = true) (bD : Binds K fdD ["jar", "many"] [])
    (FF : FnOk P w K mg base CX0 2 fF fdF ["top", "low"] spLow) (mF : mg "_law_frac" = some (.ref fF)) (kF : PySem.W.keepIn K (.ref fF) = true) (bF : Binds K fdF ["top", "low"] []) :
    FnOk P w K mg base CX0 3 f fd ["jar"] spNum := by
  refine F.ok scLn (fun vs H Q E h => ?_) (fun cdv A outer s H vs Q E hr h => ?_)
  · obtain ⟨_, _, rfl, _⟩ := h
    rfl
  · obtain ⟨j, n, rfl, hj, hn, k⟩ := h
    have hr1 : Room 1 _ := hr.mono (by decide)
    refine ⟨_, pss_cons (ps_set (i := 1) scLn.nd rfl (Or.inl rfl) (pe_call FD hr1 (by rfl) mD kD bD .nil pass0 (pa_cons (pv 0) (pa_cons pe_int pa_nil))))
      (pss_cons (ps_if (pt_cmpR op_lt (pv 1) pe_int (nomark _)) (pss_one (ps_ret (pe_ix ix_tup (pe_tup (pa_cons (pe_tup (pa_cons pe_int (pa_cons pe_int pa_nil))) (pa_cons (pe_tup (pa_cons (pe_un un_neg pe_int) (pa_cons pe_int pa_nil))) (pa_cons (pe_tup (pa_cons pe_int (pa_cons pe_int pa_nil))) (pa_cons (pe_tup (pa_cons (pe_un un_neg pe_int) (pa_cons pe_int pa_nil))) (pa_cons (pe_tup (pa_cons pe_int (pa_cons pe_int pa_nil))) pa_nil)))))) (pv 1) (fun _ _ => rfl)))) pss_nil)
      (pss_one (ps_ret (pe_call FF hr (by rfl) mF kF bF .nil pass0 (pa_cons (pe_op op_sub (pe_call FD hr1 (by rfl) mD kD bD .nil pass0 (pa_cons (pv 0) (pa_cons pe_int pa_nil))) pe_int) (pa_cons (pe_op op_add pe_int (pe_call FD hr1 (by rfl) mD kD bD .nil pass0 (pa_cons (pv 0) (pa_cons pe_int pa_nil)))) pa_nil)))))), ?_⟩
    refine i_asg (a_call (ai_cons (vi_var rfl) (ai_cons vi_c ai_nil)) ⟨j, 8, n, rfl, by decide, by decide, hj, by omega, fun r H1 r0 r1 b1 j1 => ?_⟩)
    dsimp only
    refine ⟨_, rfl, _, _, rfl, rfl, _, rfl, iteB (fun c => ?_) (fun c => ?_)⟩
    · have c := of_decide_eq_true c
      refine ⟨by show 2 ≤ sizeLine; decide, fun a1 h1 => ?_⟩
      have s1 := same_upd (o := .tup [V.int 1, .int 1]) h1
      refine ⟨_, rfl, by show 2 ≤ sizeLine; decide, fun a2 h2 => ?_⟩
      have s2 := same_upd (o := .tup [V.int (-1), .int 1]) h2
      refine ⟨by show 2 ≤ sizeLine; decide, fun a3 h3 => ?_⟩
      have s3 := same_upd (o := .tup [V.int 2, .int 1]) h3
      refine ⟨_, rfl, by show 2 ≤ sizeLine; decide, fun a4 h4 => ?_⟩
      have s4 := same_upd (o := .tup [V.int (-2), .int 1]) h4
      refine ⟨by show 2 ≤ sizeLine; decide, fun a5 h5 => ?_⟩
      have s5 := same_upd (o := .tup [V.int 3, .int 1]) h5
      refine ⟨by show 5 ≤ sizeLine; decide, fun a6 h6 => ?_⟩
      have s6 := same_upd (o := .tup [V.ref a1, .ref a2, .ref a3, .ref a4, .ref a5]) h6
      have fin : ∀ (a : Addr) (x : Fr) (H' H'' : Hp), H'' = upd (upd (upd (upd (upd (upd H1 a1 (.tup [V.int 1, .int 1])) a2 (.tup [V.int (-1), .int 1])) a3 (.tup [V.int 2, .int 1])) a4 (.tup [V.int (-2), .int 1])) a5 (.tup [V.int 3, .int 1])) a6 (.tup [V.ref a1, .ref a2, .ref a3, .ref a4, .ref a5]) → H'' a = some (.tup [.int x.1, .int x.2]) → H1 a = none → NumOk x → Q (.ref a) H'' := fun a x H' H'' eH e na ok => by
        subst eH
        have sA := ((((s1.trans s2).trans s3).trans s4).trans s5).trans s6
        refine k a x _ e ?_ ok (b1.trans (But.same sA)) (jar_more (jar_same j1 sA) (by omega))
        cases q : H a with
        | none => rfl
        | some u =>
          by_cases ca : a = j
          · subst ca
            obtain ⟨_, _, _, e2, _⟩ := j1
            rw [e2] at na
            cases na
          · have := b1 a u ca q
            rw [na] at this
            cases this
      obtain ⟨i, rfl⟩ : ∃ i : Nat, r = (i : Int) := ⟨r.toNat, by omega⟩
      have hi : i < 5 := by omega
      have f12 : ∀ {a b : Addr} {H : Hp} {o u : HO}, H a = some o → (upd H b u) b = some u → H b = none → a ≠ b := fun e _ n z => by rw [z, n] at e; cases e
      refine ⟨_, rfl, a6, _, (i : Int), ([V.ref a1, .ref a2, .ref a3, .ref a4, .ref a5] : List V)[i], rfl, rfl, SqT.of (.inl upd_same), at_nat (List.getElem?_eq_getElem hi), ?_⟩
      have n1 := none_same (Same.refl H1) h1
      have n2 := none_same s1 h2
      have n3 := none_same (s1.trans s2) h3
      have n4 := none_same ((s1.trans s2).trans s3) h4
      have n5 := none_same (((s1.trans s2).trans s3).trans s4) h5
      match i, hi with
      | 0, _ => exact fin a1 (1, 1) H1 _ rfl (((((s2.trans s3).trans s4).trans s5).trans s6) _ _ upd_same) n1 ⟨by decide, by decide, by decide, by decide⟩
      | 1, _ => exact fin a2 (-1, 1) H1 _ rfl ((((s3.trans s4).trans s5).trans s6) _ _ upd_same) n2 ⟨by decide, by decide, by decide, by decide⟩
      | 2, _ => exact fin a3 (2, 1) H1 _ rfl (((s4.trans s5).trans s6) _ _ upd_same) n3 ⟨by decide, by decide, by decide, by decide⟩
      | 3, _ => exact fin a4 (-2, 1) H1 _ rfl ((s5.trans s6) _ _ upd_same) n4 ⟨by decide, by decide, by decide, by decide⟩
      | 4, _ => exact fin a5 (3, 1) H1 _ rfl (s6 _ _ upd_same) n5 ⟨by decide, by decide, by decide, by decide⟩
    · refine nx_go ?_
      dsimp only
      refine ⟨_, rfl, j, 41, n + 1, rfl, by decide, by decide, j1, by omega, fun r2 H2 p0 p1 b2 j2 => ?_⟩
      refine ⟨_, _, rfl, rfl, _, rfl, j, 12, n + 2, rfl, by decide, by decide, j2, by omega, fun r3 H3 q0 q1 b3 j3 => ?_⟩
      refine ⟨_, _, rfl, rfl, r2 - 20, 1 + r3, rfl, by omega, ?_, fun p hp => ?_⟩
      · exact Nat.lt_of_lt_of_le (show (1 + r3).natAbs < 2 ^ 4 by omega) (Nat.pow_le_pow_right (by decide) (by decide))
      · have sp := same_upd (o := .tup [V.int (low (r2 - 20) (1 + r3)).1, .int (low (r2 - 20) (1 + r3)).2]) hp
        refine k p (low (r2 - 20) (1 + r3)) _ upd_same ?_ ?_ (((b1.trans b2).trans b3).trans (But.same sp)) (jar_same j3 sp)
        · cases q : H p with
          | none => rfl
          | some u =>
            by_cases ca : p = j
            · subst ca
              obtain ⟨_, _, _, e2, _⟩ := j3
              rw [e2] at hp
              cases hp
            · have := ((b1.trans b2).trans b3) p u ca q
              rw [hp] at this
              cases this
        · have h0 : (0 : Int) < 1 + r3 := by omega
          have hg := gcd_pos (t := r2 - 20) h0
          obtain ⟨e1, e2⟩ := low_abs (t := r2 - 20) h0
          have hd2 := Nat.gcd_dvd_right (r2 - 20).natAbs (1 + r3).natAbs
          have l1 : (1 + r3).natAbs / Nat.gcd (r2 - 20).natAbs (1 + r3).natAbs ≤ (1 + r3).natAbs := Nat.div_le_self _ _
          have l2 : 0 < (1 + r3).natAbs / Nat.gcd (r2 - 20).natAbs (1 + r3).natAbs := Nat.div_pos (Nat.le_of_dvd (by omega) hd2) hg
          have l3 : (r2 - 20).natAbs / Nat.gcd (r2 - 20).natAbs (1 + r3).natAbs ≤ (r2 - 20).natAbs := Nat.div_le_self _ _
          refine ⟨by rw [e2]; omega, by rw [e2]; omega, by rw [e1]; omega, ?_⟩
          rw [e1, e2, Int.natAbs_natCast]
          exact Nat.coprime_div_gcd_div_gcd hg
theorem sum_nn : ∀ {m : Mon}, (∀ x ∈ m, 0 ≤ x) → 0 ≤ m.sum
  | [], _ => by simp
  | x :: m, h => by
    have h1 := h x List.mem_cons_self
    have h2 := sum_nn fun y hy => h y (List.mem_cons_of_mem _ hy)
    rw [List.sum_cons]
    omega
theorem none_but {j q : Addr} {H H1 : Hp} {n : Nat} (j1 : JarAt H1 j n) (b1 : But j H H1) (hq : H1 q = none) : H q = none := by
  cases e : H q with
  | none => rfl
  | some u =>
    by_cases ca : q = j
    · subst ca
      obtain ⟨_, _, _, e2, _⟩ := j1
      rw [e2] at hq
      cases hq
    · have := b1 q u ca e
      rw [hq] at this
      cases this
theorem cons1V {σ : L2.St} {H : Hp} {te : TE} {QA : List V → Hp → Prop} (h : te σ H fun v H1 => QA [v] H1) : tCons te tNil σ H QA := h
theorem draw_pow {E E' : XK} {σ : L2.St} {H : Hp} {j : Addr} {n : Nat} {left : Int} {Q : VK} (h0 : σ[0]? = some (some (.ref j))) (h4 : σ[4]? = some (some (.int left))) (l0 : 0 ≤ left) (l1 : left ≤ 10000) (hj : JarAt H j n) (hn : n ≤ 990000)
    (k : ∀ c H2, 0 ≤ c → c ≤ left → But j H H2 → JarAt H2 j (n + 2) → Q (.int c) H2) :
    tIf (tTest (tOp (rI0 fun i j => .bl (decide (j < i))) (tCall spDip [] E (tCons (tVar 0) (tCons (tC (.int 3)) tNil))) (tC (.int 0)))) (tCall spDip [] E' (tCons (tVar 0) (tCons (tOp (rI0 fun i j => .int (i + j)) (tVar 4) (tC (.int 1))) tNil))) (tC (.int 0)) σ H Q := by
  refine ⟨_, h0, j, 3, n, rfl, by decide, by decide, hj, by omega, fun r H1 r0 r1 b1 j1 => ⟨_, _, rfl, rfl, _, rfl, iteB (fun c => ?_) (fun c => ?_)⟩⟩
  · exact ⟨_, h0, _, h4, _, _, rfl, rfl, j, left + 1, n + 1, rfl, by omega, by omega, j1, by omega, fun r2 H2 p0 p1 b2 j2 => k r2 H2 p0 (by omega) (b1.trans b2) j2⟩
  · exact k 0 H1 (by decide) l0 b1 (jar_more j1 (by omega))
theorem scLp : FnScope ["jar", "many", "most", "found", "left", "turn"] ["jar", "many", "most"] (defScope lPowers) := ⟨rfl, rfl, rfl, by decide +kernel, rfl, by decide +kernel, by decide +kernel⟩
theorem ok_lpowers {f fD : Addr} {fd fdD : FuncData} (F : Fun K "_law_powers" "_law_powers" lPowers f fd) (T : TxD mg)
    (FD : FnOk P w K mg base CX0 1 fD fdD ["jar", "many"] spDip) (mD : mg "_law_draw" = some (.ref fD)) (kD : PySem.W.keepIn K (.ref fD) = true) (bD : Binds K fdD ["jar", "many"] []) :
    FnOk P w K mg base CX0 2 f fd ["jar", "many", "most"] spPows := by
  refine F.ok scLp (fun vs H Q E h => ?_) (fun cdv A outer s H vs Q E hr h => ?_)
  · obtain ⟨_, _, _, _, rfl, _⟩ := h
    rfl
  · obtain ⟨j, n, many, most, rfl, hj, hn, h4, hm, k⟩ := h
    refine ⟨_, pss_cons (ps_par (i := 3) (j := 4) (by rfl) scLp.nd rfl rfl (by decide) rfl rfl (pa_cons (pe_lst pa_nil) (pa_cons (pv 2) pa_nil)) (by rfl))
      (pss_cons (ps_for PassesOwn.never rfl (pi_range1 rfl T.range (pa_cons (pv 1) pa_nil)) (pg_name (i := 5) scLp.nd rfl (Or.inl rfl))
        (pss_cons (ps_expr (pe_bm PySem.F.plainAttrs_list PySem.F.slot_list_append PySem.F.type_list_append mt_append (pv 3) (pa_cons (pe_ifExp (pt_cmpR op_gt (pe_call FD hr (by rfl) mD kD bD .nil pass0 (pa_cons (pv 0) (pa_cons pe_int pa_nil))) pe_int (nomark _))
            (pe_call FD hr (by rfl) mD kD bD .nil pass0 (pa_cons (pv 0) (pa_cons (pe_op op_add (pv 4) pe_int) pa_nil))) pe_int) pa_nil)))
        (pss_one (ps_set (i := 4) scLp.nd rfl (Or.inl rfl) (pe_op op_sub (pv 4) (pe_ix ix_list (pv 3) (pe_un un_neg pe_int) (fun _ _ => rfl)))))))
      (pss_one (ps_ret (pe_tupleOf (by rfl) T.tuple (pv 3))))), ?_⟩
    refine par_go2 ?_
    refine ⟨Nat.zero_le _, fun p hp => ?_⟩
    refine ⟨_, rfl, _, _, rfl, ?_⟩
    have npj : p ≠ j := jar_new hj hp
    have s0 := same_upd (o := .lst ([] : List V)) hp
    refine ⟨_, rfl, _, rfl, by omega, by omega, ?_⟩
    refine for_range (lo := 0) (n := many) (fun i σ H' => ∃ (o5 : Option V) (m : Mon) (left : Int), σ = [some (.ref j), some (.int (many : Nat)), some (.int (most : Nat)), some (.ref p), some (.int left), o5] ∧ JarAt H' j (n + 2 * i) ∧ But j H H' ∧ H' p = some (.lst (m.map V.int)) ∧ m.length = i ∧ (∀ x ∈ m, 0 ≤ x) ∧ m.sum + left = most ∧ 0 ≤ left)
      ⟨_, [], _, rfl, jar_same hj s0, But.same s0, upd_same, rfl, (fun x hx => by cases hx), by simp, by omega⟩ ?_ ?_
    · rintro i σ H1 hi ⟨o5, m, left, rfl, j1, b1, ep, lm, pm, sm, l0⟩
      refine ⟨_, rfl, .inl ⟨rfl, _, SqL.of ep⟩, ?_⟩
      have snn := sum_nn pm
      refine cons1V (draw_pow (left := left) rfl rfl l0 (by omega) j1 (by omega) fun c H2 c0 c1 b2 j2 => ?_)
      refine ⟨p, _, _, rfl, rfl, b2 _ _ npj ep, by rw [List.length_map]; exact Nat.lt_of_le_of_lt (show m.length ≤ 10 by omega) (by decide), ?_⟩
      have e3 : (upd H2 p (.lst (m.map V.int ++ [V.int c]))) p = some (.lst ((m ++ [c]).map V.int)) := by rw [upd_same, List.map_append]; rfl
      have e4 : (m ++ [c]).map V.int = m.map V.int ++ [V.int c] := by rw [List.map_append]; rfl
      refine ⟨_, rfl, _, rfl, _, rfl, p, _, _, _, rfl, rfl, SqL.of e3, by rw [e4]; exact atI_last _ _, _, _, rfl, rfl, ?_⟩
      refine ⟨_, m ++ [c], left - c, rfl, ?_, fun x u nx ex => ?_, e3, by rw [List.length_append, lm]; rfl, fun x hx => ?_, by rw [List.sum_append]; simp; omega, by omega⟩
      · obtain ⟨a1, a2, a3, e5, q1, q2, q3, q4, q5⟩ := j2
        exact ⟨a1, a2, a3, by rw [upd_ne (Ne.symm npj)]; exact e5, q1, q2, q3, q4, by omega⟩
      · rw [upd_ne (fun z => by rw [z, hp] at ex; cases ex)]
        exact b2 x u nx (b1 x u nx ex)
      · rcases List.mem_append.mp hx with hx | hx
        · exact pm x hx
        · rw [List.mem_singleton.mp hx]
          exact c0
    · rintro σ H1 ⟨o5, m, left, rfl, j1, b1, ep, lm, pm, sm, l0⟩
      refine ⟨_, rfl, .inl ⟨p, _, rfl, SqL.of ep, fun q hq => ?_⟩⟩
      have sq := same_upd (o := .tup (m.map V.int)) hq
      refine k q m _ upd_same ?_ ⟨lm, pm, by omega⟩ (b1.trans (But.same sq)) (jar_more (jar_same j1 sq) (by omega))
      exact none_but j1 b1 hq
end
end QL

set_option Elab.async false
set_option linter.all false
set_option maxRecDepth 100000
set_option maxHeartbeats 4000000
/-! ### the law's own polynomials -/
namespace QL
open PySem PySem.Spec PyProof.Rows L2 KX KP QR QD QP FR KJ
abbrev lToldOf : Stmt := top 50
abbrev lPoly : Stmt := top 55
/-- [powers for powers in kept if test], the test that the fraction is not 0 -/
theorem keys_filter {K : PySem.W.Frag} {σ : L2.St} {H : Hp} {d : Addr} {kvs : List (List Key × V)} {D : Poly} {E : Ends} {tt : TT} {i j : Nat} {vs : List Nat} (ekv : H d = some (.dT kvs)) (hD : DicsV K H kvs D) (hl : D.length ≤ 900) (h0 : σ[0]? = some (some (.ref d)))
    (hw : ∀ x : V, wipe ((wipe σ vs).set j (some x)) vs = wipe σ vs) (hj : ∀ x : V, ((wipe σ vs).set j (some x))[j]? = some (some x))
    (ht : ∀ H' od q t, t ∈ D → H' d = some (.frz od (.dT kvs)) → Tt H H' → H' q = some (.tup (t.1.map V.int)) → Ti tt ((wipe σ vs).set j (some (.ref q))) H' (nz t))
    (k : ∀ Dl ms H2, Same H H2 → H2 Dl = some (.lst (ms.map fun p : Addr × Mon => V.ref p.1)) → KeysAt H2 ms → ms.map (·.2) = (D.filter nz).map (·.1) → H2 d = some (.dT kvs) → E.nx (σ.set i (some (.ref Dl))) H2) :
    tLock (tAsg (tLc (iKeys (tVar 0)) (gName j) tt (tVar j) vs) (gName i)) E σ H := by
  have lkv := hD.len
  refine ⟨d, .dT kvs, ekv, trivial, fun od => ?_⟩
  have tf : Tt H (upd H d (.frz od (.dT kvs))) := Tt.put ekv (fun _ z => by cases z) (fun _ _ z => by cases z)
  refine ⟨_, h0, d, od, rfl, .inr ⟨kvs, upd_same, fun Dl hDl => ?_⟩⟩
  have nDl : d ≠ Dl := fun z => by rw [← z, upd_same] at hDl; cases hDl
  refine lc_it (walk_keysT (d := d) (o := od) (kvs := kvs)) (fun n H' => Same (upd H d (.frz od (.dT kvs))) H' ∧ ∃ ms : List (Addr × Mon), H' Dl = some (.lst (ms.map fun p => V.ref p.1)) ∧ KeysAt H' ms ∧ ms.map (·.2) = ((D.take n).filter nz).map (·.1))
    ⟨same_upd hDl, [], upd_same, (fun p hp => by cases hp), rfl⟩ (fun n H' _ z => z.1 _ _ upd_same) ?_ ?_
  · rintro i x H' H'' hi ⟨s7, ms, eDl, kA, em⟩ ⟨rfl, kk, v, q, hkv, rfl, eq⟩
    obtain ⟨t, ht', rfl, _⟩ := hD.at hkv
    have htm := List.mem_of_getElem? ht'
    have t7 := tf.trans (Tt.same s7)
    rw [keyM_v] at eq
    have lms : ms.length ≤ D.length := by
      have := congrArg List.length em
      rw [List.length_map, List.length_map] at this
      have h1 := List.length_filter_le nz (D.take i)
      rw [List.length_take] at h1
      omega
    refine ⟨hw _, ?_⟩
    refine ht _ od q t htm (s7 _ _ upd_same) t7 eq _ ?_
    have eT : (D.take (i + 1)).filter nz = (D.take i).filter nz ++ (if nz t = true then [t] else []) := by
      rw [List.take_add_one, ht', Option.toList_some, List.filter_append, List.filter_cons, List.filter_nil]
    refine iteB (fun c' => ?_) (fun c' => ?_)
    · have lt : (ms.map fun p => V.ref p.1).length < sizeLine := by
        rw [List.length_map]
        exact Nat.lt_of_le_of_lt (show _ ≤ 2000 by omega) (by decide)
      refine ⟨_, hj _, _, eDl, lt, ?_⟩
      have sp := same_put s7 hDl (o := .lst ((ms.map fun p => V.ref p.1) ++ [V.ref q]))
      have nq : q ≠ Dl := fun z => by rw [z, eDl] at eq; cases eq
      refine ⟨sp, ms ++ [(q, t.1)], ?_, fun p hp => ?_, ?_⟩
      · rw [upd_same, List.map_append]
        rfl
      · rcases List.mem_append.mp hp with hp | hp
        · have := kA p hp
          rw [upd_ne (fun z => by rw [z, eDl] at this; cases this)]
          exact this
        · rw [List.mem_singleton.mp hp, upd_ne nq]
          exact eq
      · rw [eT, if_pos c', List.map_append, List.map_append, em]
        rfl
    · refine ⟨s7, ms, eDl, kA, ?_⟩
      rw [eT, if_neg (by rw [c']; decide), List.append_nil]
      exact em
  · rintro H1 ⟨s1, ms, eDl, kA, em⟩
    rw [List.take_of_length_le (by omega)] at em
    refine ⟨s1 _ _ upd_same, ?_⟩
    refine k Dl ms _ (fun b o e => ?_) (by rw [upd_ne (Ne.symm nDl)]; exact eDl) (fun p hp => ?_) em upd_same
    · by_cases c : b = d
      · subst c
        rw [upd_same, ← ekv]
        exact e
      · rw [upd_ne c]
        exact s1 _ _ (by rw [upd_ne c]; exact e)
    · have := kA p hp
      rw [upd_ne (fun z => by
        have e1 : H1 d = _ := s1 _ _ upd_same
        rw [z, e1] at this
        cases this)]
      exact this
/-- fractions in lowest terms: 0 stands as (0, 1) -/
def ZeroOk (D : Poly) : Prop := ∀ t ∈ D, t.2.1 = 0 → t.2 = (0, 1)
/-- as PolV, and the tuple has no dict of its own -/
def PolF (K : PySem.W.Frag) (H : Hp) (v : V) (p : Poly) : Prop := ∃ (a : Addr) (o : Obj) (us : List V), v = .ref a ∧ o.dict = none ∧ H a = some (.frz o (.tup us)) ∧ TermsV K H us p
theorem PolF.but {K : PySem.W.Frag} {H H' : Hp} {v : V} {p : Poly} (h : PolF K H v p) (s : ∀ a o us, H a = some (.frz o (.tup us)) → H' a = some (.frz o (.tup us))) (t : Tt H H') : PolF K H' v p := by
  obtain ⟨a, o, us, e, d, q, f⟩ := h
  exact ⟨a, o, us, e, d, s _ _ _ q, f.tt t⟩
def spToldOf (K : PySem.W.Frag) : Sp := fun vs H Q _ => ∃ d D, vs = [.ref d] ∧ DicV K H d D ∧ (D.map (·.1)).Nodup ∧ D.length ≤ 900 ∧ ZeroOk D ∧ ∀ v H', Same H H' → PolF K H' v (inOrd D) → PolV K H' v (inOrd D) → Q v H'
/-- the key tuples of monomials -/
def KeyTs (H : Hp) (zs : List (Addr × Mon)) : Prop := ∀ p ∈ zs, ∃ b, H p.1 = some (.tup [.int p.2.sum, .ref b]) ∧ H b = some (.tup (p.2.map V.int))
theorem valAt {K : PySem.W.Frag} {H H' : Hp} {kvs : List (List Key × V)} {D : Poly} (hD : DicsV K H kvs D) (hn : (D.map (·.1)).Nodup) {t : Mon × Fr} (ht : t ∈ D) (s : Tt H H') : ∃ v, valV kvs (keyM t.1) = some v ∧ FrV K H' v t.2 := by
  rcases hD.val t.1 with ⟨_, z⟩ | ⟨v, x, e1, e2, fv⟩
  · rw [atD_mem hn ht] at z
    cases z
  · rw [atD_mem hn ht] at e2
    cases e2
    exact ⟨v, e1, fv.tk s.tk⟩
section
variable {P : Program} {w : World} {K : PySem.W.Frag} {mg : Str → Option Value} {base : Heap}
theorem scLk : FnScope ["powers"] ["powers"] (defScope lKeyed) := ⟨rfl, rfl, rfl, by decide +kernel, rfl, by decide +kernel, by decide +kernel⟩
theorem ok_lkeyed {f : Addr} {fd : FuncData} (F : Fun K "_law_keyed" "_law_keyed" lKeyed f fd) (mS : mg "sum" = none) : FnOk P w K mg base CX0 1 f fd ["powers"] (spStand K) := by
  refine F.ok scLk (fun vs H Q E h => ?_) (fun cdv A outer s H vs Q E hr h => ?_)
  · obtain ⟨_, _, rfl, _⟩ := h
    rfl
  · obtain ⟨q, ns, rfl, hq, k⟩ := h
    refine ⟨_, pss_one (ps_ret (pe_tup (pa_cons (pe_callB (cr_sumT rfl) (by rfl) mS (by decide +kernel) (pa_cons (pv 0) pa_nil)) (pa_cons (pv 0) pa_nil)))), ?_⟩
    exact ⟨_, rfl, q, ns, rfl, hq, _, rfl, by show 2 ≤ sizeLine; decide, fun p hp => k p _ (same_upd hp) upd_same⟩
abbrev nLt : List Str := ["terms", "some", "found", "powers", "degree"]
theorem scLt : FnScope nLt ["terms"] (defScope lToldOf) := ⟨rfl, rfl, rfl, by decide +kernel, rfl, by decide +kernel, by decide +kernel⟩
theorem ok_toldof {f fK : Addr} {fd fdK : FuncData} (F : Fun K "_law_told_of" "_law_told_of" lToldOf f fd) (T : TxD mg)
    (FK : FnOk P w K mg base CX0 1 fK fdK ["powers"] (spStand K)) (mK : mg "_law_keyed" = some (.ref fK)) (kK : PySem.W.keepIn K (.ref fK) = true) (bK : Binds K fdK ["powers"] []) :
    FnOk P w K mg base CX0 4 f fd ["terms"] (spToldOf K) := by
  refine F.ok scLt (fun vs H Q E h => ?_) (fun cdv A outer s H vs Q E hr h => ?_)
  · obtain ⟨_, _, rfl, _⟩ := h
    rfl
  · obtain ⟨d, D, rfl, hd, hn, hl, hz, k⟩ := h
    have hr1 : Room 1 _ := hr.mono (by decide)
    have hu1 : (A.deeper (envOfC "_law_told_of" (defScope lToldOf) s.heap.objs.size f cdv)).units + 1 < cLine := by have := hr.un; omega
    have hu64 : (A.deeper (envOfC "_law_told_of" (defScope lToldOf) s.heap.objs.size f cdv)).units + 64 < cLine := by have := hr.un; omega
    refine ⟨_, pss_cons (ps_lock (ps_setLc (i := 1) (own := [("powers", 3)]) (g := gName 3) (by rfl) scLt.nd rfl rfl (sw_true rfl rfl rfl (by decide +kernel)) (pi_keys (pv 0)) (blkOk_by (N := nLt) (sc := defScope lToldOf) (by decide +kernel))
        (fun _ _ _ _ _ => pg_name (i := 3) scLt.nd rfl (Or.inl rfl)) (fun _ _ _ _ _ => pts_one (pt_cmpR op_ne (pe_ix (r := rIxT K) (by exact ix_tup) (pe_dget hu1 (pv 0) (pv 3) (fun _ _ => rfl)) pe_int (fun _ _ => rfl)) pe_int (nomark _))) (fun _ _ _ _ _ => pv 3)))
      (pss_cons (ps_setLc (i := 2) (own := [("degree", 4), ("powers", 3)]) (g := gTup K 2 (gCons (gName 4) (gCons (gName 3) gNil))) (tt := tYes) (by rfl) scLt.nd rfl rfl (sw_true rfl rfl rfl (by decide +kernel))
          (pi_list (pe_callB (cr_sortD hu64) (by rfl) T.sorted (by decide +kernel) (pa_cons (pe_lc (own := [("powers", 3)]) (g := gName 3) (tt := tYes) rfl scLt.nd (pi_list (pv 1)) (blkOk_by (N := nLt) (sc := defScope lToldOf) (by decide +kernel))
            (fun _ _ _ _ _ => pg_name (i := 3) scLt.nd rfl (Or.inl rfl)) (fun _ _ _ _ _ => pts_nil) (fun _ _ _ _ _ => pe_call FK hr1 (by rfl) mK kK bK .nil pass0 (pa_cons (pv 3) pa_nil))) pa_nil)))
          (blkOk_by (N := nLt) (sc := defScope lToldOf) (by decide +kernel)) (fun _ _ _ _ _ => by exact pg_tup rfl (pgs_cons (pg_name (i := 4) scLt.nd rfl (Or.inl rfl)) (pgs_cons (pg_name (i := 3) scLt.nd rfl (Or.inl rfl)) pgs_nil))) (fun _ _ _ _ _ => pts_nil)
          (fun _ _ _ _ _ => pe_tup (pa_cons (pv 3) (pa_cons (pe_dget hu1 (pv 0) (pv 3) (fun _ _ => rfl)) pa_nil))))
      (pss_one (ps_ret (pe_tupleOfF (by rfl) T.tuple (pe_revL (pv 2)))))), ?_⟩
    obtain ⟨kvs, ekv, hD⟩ := hd
    have viG : ∀ {σ : L2.St} {H' : Hp} {q : Addr} {t : Mon × Fr}, t ∈ D → Tt H H' → Rd H' d (.dT kvs) → H' q = some (.tup (t.1.map V.int)) → σ[0]? = some (some (.ref d)) → σ[3]? = some (some (.ref q)) → ∃ v, FrV K H' v t.2 ∧ Vi (tDGet (tVar 0) (tVar 3)) σ H' v := fun {σ H' q t} htD tt rd eq h0 h3 => by
      obtain ⟨v, ev, fv⟩ := valAt hD hn htD tt
      exact ⟨v, fv, fun Q kq => ⟨_, h0, _, h3, d, v, rfl, .inr ⟨kvs, keyM t.1, q, rd, rfl, by rw [keyM_v]; exact eq, ev.symm⟩, kq⟩⟩
    refine keys_filter ekv hD hl rfl (by intro x; rfl) (by intro x; rfl) (fun H' od q t htD ed t7 eq => ?_) fun Dl ms H2 s2 eDl kA em ed => ?_
    · obtain ⟨v, ⟨a, rfl, fq⟩, vg⟩ := viG (σ := [some (.ref d), none, none, some (.ref q), none]) htD t7 (.inr ⟨od, ed⟩) eq rfl rfl
      refine ti_test (vi_op (v := .bl (nz t)) (vi_op (v := .int t.2.1) vg vi_c fun Q kq => ⟨a, _, 0, _, rfl, rfl, sqT_up fq, rfl, kq⟩) vi_c fun Q kq => ⟨rfl, ?_⟩)
      have e : (!decide (V.int t.2.1 = V.int 0)) = nz t := by
        unfold nz
        congr 1
        rw [Bool.eq_iff_iff, decide_eq_true_iff, decide_eq_true_iff]
        refine ⟨fun z => hz t htD (by simpa using z), fun z => by rw [z]⟩
      rw [e]
      exact kq
    have hlm : ms.length ≤ 900 := by
      have := congrArg List.length em
      rw [List.length_map, List.length_map] at this
      have := List.length_filter_le nz D
      omega
    dsimp only
    refine ⟨_, rfl, Dl, rfl, ⟨_, SqL.of eDl⟩, fun D2 hD2 => ?_⟩
    refine lc_map (walk_list (K := K) (a := Dl) (xs := ms.map fun p => V.ref p.1)) (fun H' zs n => ∃ ks : List (Addr × Mon), zs = ks.map (fun p => V.ref p.1) ∧ KeyTs H' ks ∧ ks.map (·.2) = (ms.take n).map (·.2) ∧ n ≤ ms.length) hD2 (by rw [List.length_map]; omega)
      (fun _ _ n ⟨ks, e1, _, e2, hle⟩ => by have := congrArg List.length e2; rw [List.length_map, List.length_map, List.length_take] at this; rw [e1, List.length_map]; omega) ⟨[], rfl, (fun p hp => by cases hp), rfl, Nat.zero_le _⟩ (fun H' s => SqL.of (s _ _ eDl)) (by intro x; rfl) ?_ ?_
    · rintro n x _ H' xs hn' s e hlx ⟨ks, rfl, kt, ek, hle⟩ ⟨rfl, hx⟩
      rw [List.length_map] at hn'
      have ey := List.getElem?_eq_getElem hn'
      rw [List.getElem?_map, ey] at hx
      cases hx
      have kq := s _ _ (kA _ (List.getElem_mem hn'))
      refine a_call (ai_cons (vi_var rfl) ai_nil) ⟨_, _, rfl, SqT.of (.inl kq), fun p H3 s3 ep => ?_⟩
      refine aft hD2 (s.trans s3) (s3 _ _ e) hlx ⟨ks ++ [(p, ms[n].2)], by rw [List.map_append]; rfl, ?_, by rw [List.map_append, ek, List.take_add_one, ey, Option.toList_some, List.map_append]; rfl, hn'⟩
      have ttp : Tt H3 (upd H3 D2 (.lst ((ks.map fun p => V.ref p.1) ++ [.ref p]))) := Tt.put (s3 _ _ e) (fun _ z => by cases z) (fun _ _ z => by cases z)
      intro q hq
      rcases List.mem_append.mp hq with hq | hq
      · obtain ⟨b, h1, h2⟩ := kt q hq
        exact ⟨b, ttp.pl _ _ (s3 _ _ h1), ttp.pl _ _ (s3 _ _ h2)⟩
      · rw [List.mem_singleton.mp hq]
        exact ⟨_, ttp.pl _ _ ep, ttp.pl _ _ (s3 _ _ kq)⟩
    rintro H3 zs s3 e3 ⟨ks, rfl, kt, ek, _⟩
    rw [List.take_of_length_le (by rw [List.length_map]; exact Nat.le_refl _)] at ek
    have lks : ks.length = ms.length := by
      have := congrArg List.length ek
      rwa [List.length_map, List.length_map] at this
    refine ⟨D2, ks, rfl, SqL.of e3, fun p hp => ?_, by omega, fun ys p hp hs hpn => ?_⟩
    · obtain ⟨b, h1, h2⟩ := kt p hp
      exact ⟨p.1, b, rfl, SqT.of (.inl h1), SqT.of (.inl h2)⟩
    have s4 := same_upd (o := .lst (ys.map fun p => V.ref p.1)) hpn
    have e4 : (upd H3 p (.lst (ys.map fun p => V.ref p.1))) p = some (.lst (ys.map fun p => V.ref p.1)) := upd_same
    have kt4 : KeyTs (upd H3 p (.lst (ys.map fun p => V.ref p.1))) ys := fun q hq => by
      obtain ⟨b, h1, h2⟩ := kt q (hp.mem_iff.mp hq)
      exact ⟨b, s4 _ _ h1, s4 _ _ h2⟩
    have ed4 := s4 _ _ (s3 _ _ ed)
    have sH4 := (s2.trans s3).trans s4
    generalize upd H3 p (.lst (ys.map fun p => V.ref p.1)) = H4 at *
    have lys : ys.length ≤ 900 := by rw [hp.length_eq]; omega
    have inD : ∀ q ∈ ys, ∃ t ∈ D, t.1 = q.2 ∧ nz t = true := fun q hq => by
      have : q.2 ∈ ks.map (·.2) := List.mem_map.mpr ⟨q, hp.mem_iff.mp hq, rfl⟩
      rw [ek, em] at this
      obtain ⟨t, ht, e⟩ := List.mem_map.mp this
      obtain ⟨h1, h2⟩ := List.mem_filter.mp ht
      exact ⟨t, h1, e, h2⟩
    refine ⟨p, rfl, ⟨_, SqL.of e4⟩, fun D3 hD3 => ?_⟩
    refine lc_it (walk_list (K := K) (a := p) (xs := ys.map fun p => V.ref p.1)) (fun n H' => Same H4 H' ∧ ∃ zs, H' D3 = some (.lst zs) ∧ TermsV K H' zs ((ys.take n).map fun q => (q.2, (atD D q.2).getD (0, 1)))) ⟨same_upd hD3, [], upd_same, .nil⟩ (fun n H' _ z => SqL.of (z.1 _ _ e4)) ?_ ?_
    · rintro n x _ H' hn' ⟨s5, zs, e5, tz⟩ ⟨rfl, hx⟩
      rw [List.length_map] at hn'
      have ey := List.getElem?_eq_getElem hn'
      rw [List.getElem?_map, ey] at hx
      cases hx
      obtain ⟨t, htD, et, _⟩ := inD _ (List.getElem_mem hn')
      obtain ⟨b, h1, h2⟩ := kt4 _ (List.getElem_mem hn')
      have hb := s5 _ _ h2
      rw [← et] at hb
      refine ⟨_, _, rfl, SqT.of (.inl (s5 _ _ h1)), rfl, _, _, rfl, _, _, rfl, rfl, rfl, ?_⟩
      dsimp only [tYes]
      rw [if_pos rfl]
      obtain ⟨v, fv, vg⟩ := viG (σ := [some (.ref d), some (.ref Dl), none, some (.ref b), some (.int ys[n].2.sum)]) htD (Tt.same (sH4.trans s5)) (.inl (s5 _ _ ed4)) hb rfl rfl
      refine ⟨_, rfl, vg _ ⟨by show 2 ≤ sizeLine; decide, fun T hT => ?_⟩⟩
      have sT := same_upd (o := .tup [V.ref b, v]) hT
      have lz : zs.length ≤ 900 := by rw [tz.len, List.length_map, List.length_take]; omega
      refine ⟨zs, sT _ _ e5, Nat.lt_of_le_of_lt lz (by decide), same_put (s5.trans sT) hD3, zs ++ [.ref T], upd_same, ?_⟩
      have ttp : Tt (upd H' T (.tup [V.ref b, v])) (upd (upd H' T (.tup [V.ref b, v])) D3 (.lst (zs ++ [.ref T]))) := Tt.put (sT _ _ e5) (fun _ z => by cases z) (fun _ _ z => by cases z)
      rw [List.take_add_one, ey, Option.toList_some, List.map_append]
      refine TermsV.tt ttp ((TermsV.tt (Tt.same sT) tz).snoc ⟨T, _, _, rfl, SqT.of (.inl upd_same), ⟨_, rfl, ?_⟩, ?_⟩)
      · show _ = some (HO.tup (ys[n].2.map V.int))
        rw [← et]
        exact sT _ _ hb
      · show FrV K _ v ((atD D ys[n].2).getD (0, 1))
        rw [← et, atD_mem hn htD]
        exact fv.tk (Tk.same sT)
    · rintro H5 ⟨s5, zs, e5, tz⟩
      rw [List.take_of_length_le (by rw [List.length_map]; exact Nat.le_refl _)] at tz
      refine ⟨_, rfl, D3, zs, rfl, SqL.of e5, fun r hr => ?_⟩
      have sr := same_upd (o := .lst zs.reverse) hr
      refine ⟨r, _, rfl, SqL.of upd_same, fun T oT hT hoT => ?_⟩
      have sT := same_upd (o := .frz oT (.tup zs.reverse)) hT
      suffices tz9 : TermsV K (upd (upd H5 r (.lst zs.reverse)) T (.frz oT (.tup zs.reverse))) zs.reverse (inOrd D) from k _ _ (((sH4.trans s5).trans sr).trans sT) ⟨T, oT, _, rfl, hoT, upd_same, tz9⟩ ⟨T, zs.reverse, rfl, SqT.of (.inr ⟨oT, upd_same⟩), tz9⟩
      have fin : (ys.map fun q => (q.2, (atD D q.2).getD (0, 1))).reverse = inOrd D := by
        unfold inOrd
        have hL : ((D.filter nz).map (·.1)).Nodup := hn.sublist (List.filter_sublist.map _)
        refine sort_is hL ?_ ?_
        · have e1 : (ks.map fun q => (q.2, (atD D q.2).getD (0, 1))) = D.filter nz := by
            have e2 : (ks.map fun q => (q.2, (atD D q.2).getD (0, 1))) = (ks.map (·.2)).map fun m => (m, (atD D m).getD (0, 1)) := by
              rw [List.map_map]
              rfl
            rw [e2, ek, em, List.map_map]
            conv => rhs; rw [← List.map_id (D.filter nz)]
            refine List.map_congr_left fun t ht => ?_
            show (t.1, (atD D t.1).getD (0, 1)) = t
            rw [atD_mem hn (List.mem_filter.mp ht).1]
            rfl
          have := hp.map fun q => (q.2, (atD D q.2).getD (0, 1))
          rw [e1] at this
          exact (List.reverse_perm _).trans this
        · rw [List.pairwise_reverse]
          exact List.pairwise_map.mpr hs
      rw [← fin]
      exact TermsV.tt (Tt.same (sr.trans sT)) tz.reverse
end
end QL

set_option Elab.async false
set_option linter.all false
set_option maxRecDepth 100000
set_option maxHeartbeats 4000000
/-! ### the law's constants, single unknowns, drawn polynomials -/
namespace QL
open PySem PySem.Spec PyProof.Rows L2 KX KP QR QD QP FR KJ
structure PolyOk (many deg : Nat) (p : Poly) : Prop where
  ord : p.Pairwise fun a b => gtM a.1 b.1 = true
  mon : ∀ t ∈ p, MonOk many deg t.1
  num : ∀ t ∈ p, NumOk t.2 ∧ t.2.1 ≠ 0
theorem gtM_total {a b : Mon} (h : gtM a b = false) (n : a ≠ b) : gtM b a = true := by
  cases q : gtM b a with
  | true => rfl
  | false => exact absurd (gtM_anti h q) n
theorem num_zero {x : Fr} (h : NumOk x) (z : x.1 = 0) : x = (0, 1) := by
  have g := h.g
  have p := h.pos
  rw [z, Int.natAbs_zero, Nat.gcd_zero_left] at g
  exact Prod.ext z (by show x.2 = 1; omega)
theorem inOrd_mem {D : Poly} {t : Mon × Fr} : t ∈ inOrd D ↔ t ∈ D ∧ nz t = true := by
  unfold inOrd
  rw [(List.mergeSort_perm _ _).mem_iff, List.mem_filter]
  rfl
theorem inOrd_ord {D : Poly} (hn : (D.map (·.1)).Nodup) : (inOrd D).Pairwise fun a b => gtM a.1 b.1 = true := by
  have h1 : (inOrd D).Pairwise fun a b => leT a b = true := PySem.W.sort_pairwise leT_total _
  have h2 : ((inOrd D).map (·.1)).Nodup := by
    have : ((D.filter nz).map (·.1)).Nodup := hn.sublist (List.filter_sublist.map _)
    exact ((List.mergeSort_perm (D.filter nz) leT).map (fun t : Mon × Fr => t.1)).nodup_iff.mpr this
  have h3 := List.pairwise_map.mp h2
  refine (h1.and h3).imp fun {a b} ⟨x, y⟩ => ?_
  have x : geM a.1 b.1 = true := x
  unfold geM at x
  exact gtM_total (by simpa using x) (Ne.symm y)
theorem inOrd_len (D : Poly) : (inOrd D).length ≤ D.length := by
  unfold inOrd
  rw [List.length_mergeSort]
  exact List.length_filter_le _ _
def spConst (K : PySem.W.Frag) : Sp := fun vs H Q _ => ∃ (n : Nat) (v : V) (x : Fr), vs = [.int (n : Nat), v] ∧ n ≤ 4 ∧ FrV K H v x ∧ ∀ r H', Same H H' → PolV K H' r (if x.1 = 0 then [] else [(zerosM n, x)]) → Q r H'
def spLPoly (K : PySem.W.Frag) : Sp := fun vs H Q _ => ∃ j n many terms deg, vs = [.ref j, .int (many : Nat), .int (terms : Nat), .int (deg : Nat)] ∧ JarAt H j n ∧ n ≤ 800000 ∧ many ≤ 4 ∧ terms ≤ 20 ∧ deg ≤ 1000 ∧
  ∀ v p H', PolV K H' v p → PolF K H' v p → PolyOk many deg p → p.length ≤ terms → But j H H' → JarAt H' j (n + 300) → Q v H'
section
variable {P : Program} {w : World} {K : PySem.W.Frag} {mg : Str → Option Value} {base : Heap}
theorem scLy : FnScope ["jar", "many", "terms", "degree", "found", "turn"] ["jar", "many", "terms", "degree"] (defScope lPoly) := ⟨rfl, rfl, rfl, by decide +kernel, rfl, by decide +kernel, by decide +kernel⟩
theorem ok_lpoly {f fD fW fN fT : Addr} {fd fdD fdW fdN fdT : FuncData} (F : Fun K "_law_poly" "_law_poly" lPoly f fd) (T : TxD mg)
    (FD : FnOk P w K mg base CX0 1 fD fdD ["jar", "many"] spDip) (mD : mg "_law_draw" = some (.ref fD)) (kD : PySem.W.keepIn K (.ref fD) = true) (bD : Binds K fdD ["jar", "many"] [])
    (FW : FnOk P w K mg base CX0 2 fW fdW ["jar", "many", "most"] spPows) (mW : mg "_law_powers" = some (.ref fW)) (kW : PySem.W.keepIn K (.ref fW) = true) (bW : Binds K fdW ["jar", "many", "most"] [])
    (FN : FnOk P w K mg base CX0 3 fN fdN ["jar"] spNum) (mN : mg "_law_number" = some (.ref fN)) (kN : PySem.W.keepIn K (.ref fN) = true) (bN : Binds K fdN ["jar"] [])
    (FT : FnOk P w K mg base CX0 4 fT fdT ["terms"] (spToldOf K)) (mT : mg "_law_told_of" = some (.ref fT)) (kT : PySem.W.keepIn K (.ref fT) = true) (bT : Binds K fdT ["terms"] []) :
    FnOk P w K mg base CX0 5 f fd ["jar", "many", "terms", "degree"] (spLPoly K) := by
  refine F.ok scLy (fun vs H Q E h => ?_) (fun cdv A outer s H vs Q E hr h => ?_)
  · obtain ⟨_, _, _, _, _, rfl, _⟩ := h
    rfl
  · obtain ⟨j, n, many, terms, deg, rfl, hj, hn, h4, ht, hd, k⟩ := h
    have hr1 : Room 1 _ := hr.mono (by decide)
    have hr2 : Room 2 _ := hr.mono (by decide)
    have hr3 : Room 3 _ := hr.mono (by decide)
    have hu1 : (A.deeper (envOfC "_law_poly" (defScope lPoly) s.heap.objs.size f cdv)).units + 1 < cLine := by have := hr.un; omega
    refine ⟨_, pss_cons (ps_set (i := 4) scLy.nd rfl (Or.inl rfl) pe_dnewT)
      (pss_cons (ps_for PassesOwn.never rfl (pi_range1 rfl T.range (pa_cons (pe_call FD hr1 (by rfl) mD kD bD .nil pass0 (pa_cons (pv 0) (pa_cons (pe_op op_add (pv 2) pe_int) pa_nil))) pa_nil)) (pg_name (i := 5) scLy.nd rfl (Or.inl rfl))
        (pss_one (ps_dput hu1 (pv 4) (pe_call FW hr2 (by rfl) mW kW bW .nil pass0 (pa_cons (pv 0) (pa_cons (pv 1) (pa_cons (pv 3) pa_nil)))) (pe_call FN hr3 (by rfl) mN kN bN .nil pass0 (pa_cons (pv 0) pa_nil)) rfl)))
      (pss_one (ps_ret (pe_call FT hr (by rfl) mT kT bT .nil pass0 (pa_cons (pv 4) pa_nil))))), ?_⟩
    refine i_asg fun d hd0 => ?_
    have s0 := same_upd (o := .dT []) hd0
    have ndj : d ≠ j := jar_new hj hd0
    have hj0 := jar_same hj s0
    have b0 : But j H (upd H d (.dT [])) := But.same s0
    have e0 : (upd H d (.dT [])) d = some (.dT []) := upd_same
    refine ⟨_, rfl, _, rfl, _, _, rfl, rfl, j, (terms : Int) + 1, n, rfl, by omega, by omega, hj0, by omega, fun r H1 r0 r1 b1 j1 => ?_⟩
    obtain ⟨N, rfl⟩ : ∃ i : Nat, r = (i : Int) := ⟨r.toNat, by omega⟩
    refine ⟨_, rfl, by omega, by omega, ?_⟩
    refine for_range (lo := 0) (n := N) (fun i σ H' => ∃ (o5 : Option V) (D : Poly), σ = [some (.ref j), some (.int (many : Nat)), some (.int (terms : Nat)), some (.int (deg : Nat)), some (.ref d), o5] ∧ JarAt H' j (n + 1 + 11 * i) ∧ But j H H' ∧ DicV K H' d D ∧ (D.map (·.1)).Nodup ∧ D.length ≤ i ∧ ∀ t ∈ D, MonOk many deg t.1 ∧ NumOk t.2)
      ⟨_, [], rfl, j1, b0.trans b1, ⟨[], b1 _ _ ndj e0, .nil⟩, by simp, Nat.zero_le _, fun t ht => by cases ht⟩ ?_ ?_
    · rintro i σ H2 hi ⟨o5, D, rfl, j2, b2, ⟨kvs, ekv, hD⟩, hnd, hlD, hok⟩
      refine ⟨_, rfl, j, _, rfl, j2, by omega, fun a x H3 ea na ok b3 j3 => ?_⟩
      refine ⟨_, rfl, _, rfl, _, rfl, _, rfl, j, _, many, deg, rfl, j3, by omega, h4, hd, fun b m H4 eb nb mok b4 j4 => ?_⟩
      have ekv4 := b4 _ _ ndj (b3 _ _ ndj ekv)
      have fx : FrV K H4 (.ref a) x := (FrV.at ea).tk (Tk.jar j3 b4)
      have tt4 : Tt H2 H4 := (Tt.jar j2 b3).trans (Tt.jar j3 b4)
      have lk := hD.len
      refine ⟨d, _, rfl, DPut.t (k := keyM m) ekv4 (by rw [keyM_v]; exact eb) (Nat.lt_of_le_of_lt (show kvs.length ≤ 30 by omega) (by decide)), ?_⟩
      have ttp : Tt H4 (upd H4 d (.dT (putK kvs (keyM m) (.ref a)))) := Tt.put ekv4 (fun _ z => by cases z) (fun _ _ z => by cases z)
      refine ⟨_, putD D m x, rfl, ?_, fun c o nc e => ?_, ⟨_, upd_same, DicsV.put (hD.tt (tt4.trans ttp)) (fx.tk ttp.tk)⟩, putD_nodup hnd m x, ?_, fun t ht' => ?_⟩
      · obtain ⟨a1, a2, a3, e5, q1, q2, q3, q4, q5⟩ := j4
        exact ⟨a1, a2, a3, by rw [upd_ne (Ne.symm ndj)]; exact e5, q1, q2, q3, q4, by omega⟩
      · rw [upd_ne (fun z => by rw [z, hd0] at e; cases e)]
        exact b4 _ _ nc (b3 _ _ nc (b2 _ _ nc e))
      · have := putD_len D m x
        omega
      · unfold putD at ht'
        split at ht'
        · obtain ⟨u, hu, rfl⟩ := List.mem_map.mp ht'
          split
          · exact ⟨(hok u hu).1, ok⟩
          · exact hok u hu
        · rcases List.mem_append.mp ht' with h | h
          · exact hok t h
          · rw [List.mem_singleton.mp h]
            exact ⟨mok, ok⟩
    · rintro σ H2 ⟨o5, D, rfl, j2, b2, dv, hnd, hlD, hok⟩
      refine ret_call (K := K) (ai_cons (vi_var rfl) ai_nil) ⟨d, D, rfl, dv, hnd, by omega, fun t ht z => num_zero (hok t ht).2 z, fun v H' s' fz' pv' => ?_⟩
      refine k v (inOrd D) H' pv' fz' ⟨inOrd_ord hnd, fun t ht => (hok t (inOrd_mem.mp ht).1).1, fun t ht => ⟨(hok t (inOrd_mem.mp ht).1).2, fun z => ?_⟩⟩ (Nat.le_trans (inOrd_len D) (by omega)) (b2.trans (But.same s')) (jar_more (jar_same j2 s') (by omega))
      have := (inOrd_mem.mp ht).2
      unfold nz at this
      rw [num_zero (hok t (inOrd_mem.mp ht).1).2 z] at this
      cases this
end
end QL

set_option Elab.async false
set_option linter.all false
set_option maxRecDepth 100000
set_option maxHeartbeats 1000000
/-! ### the law's whole numbers -/
namespace KP
open PySem PySem.Spec PyProof.Rows L2 KX KT
section
variable {P : Program} {w : World} {K : PySem.W.Frag} {mg : Str → Option Value} {base : Heap}
end
end KP

set_option Elab.async false
set_option linter.all false
set_option maxRecDepth 100000
set_option maxHeartbeats 4000000
/-! ### the law's own look whether a thing is a fraction, a polynomial -/
namespace QL
open PySem PySem.Spec PyProof.Rows L2 KX KP QR QD QP FR KJ
section
variable {K : PySem.W.Frag} {σ : L2.St} {H : Hp}
theorem dk_tyx {x : V} {d : PyData} (h : Dk K H x d) : TyX K H x (.type (tyN d)) := by
  cases h with
  | non => exact .base .non
  | bl b => exact .base (.bl b)
  | int i => exact .base (.int i)
  | str x => exact .base (.str x)
  | lst e _ =>
    rcases e with (e | ⟨o, e⟩) | ⟨o, its, n, e, c, _⟩
    · exact .base (.lst e)
    · exact .base (.frz e)
    · exact .kList e c
  | tup e _ =>
    rcases e with (e | ⟨o, e⟩) | ⟨o, its, n, e, c, _⟩
    · exact .base (.tup e)
    · exact .fTuple e
    · exact .kTuple e c
  | emp e => exact .base (.dK e)
theorem vk_isi {te : TE} {x : V} {d : PyData} {n : String} (ha : Vi te σ H x) (h : Dk K H x d) (hn : n ∈ ["int", "bool", "tuple", "str"]) : Vi (tCB (rIsi K) (tCons te (tCons (tC (.ty n)) tNil))) σ H (.bl (isin (tyN d) n)) :=
  vi_cb (ai_cons ha (ai_cons vi_c ai_nil)) fun Q q => ⟨_, _, _, _, _, rfl, .ty n, dk_tyx h, kit_ty (kit_all _ (tyN_mem d) _ hn), q⟩
theorem vk_elem {te : TE} {x : V} {d : PyData} {n : Nat} (ha : Vi te σ H x) (h : Dk K H x d) (z : tyN d = "tuple") (hl : n < lenT d) : ∃ v, Dk K H v (ith n d) ∧ Vi (tOp (rIx K) te (tC (.int n))) σ H v := by
  obtain ⟨a, xs, ds, rfl, rfl, e, hd⟩ := tupOf h z
  have hl2 := all2 hd
  have hx : n < xs.length := by simp only [lenT] at hl; omega
  obtain ⟨d', h1, h2⟩ := dk_get hd (List.getElem?_eq_getElem hx)
  refine ⟨xs[n], ?_, vi_op ha vi_c fun Q q => .inr (.inl ⟨a, _, _, _, rfl, rfl, e, at_nat (List.getElem?_eq_getElem hx), q⟩)⟩
  show Dk K H xs[n] (ds.getD n .none)
  rw [List.getD_eq_getElem?_getD, h1]
  exact h2
end
theorem vk_elem2 {K : PySem.W.Frag} {H : Hp} {x : V} {d : PyData} {n : Nat} (h : Dk K H x d) (z : tyN d = "tuple") (hl : n < lenT d) : ∃ v, Dk K H v (ith n d) ∧ ∀ {te : TE} {σ : L2.St} (H' : Hp), Same H H' → Vi te σ H' x → Vi (tOp (rIx K) te (tC (.int n))) σ H' v := by
  obtain ⟨a, xs, ds, rfl, rfl, e, hd⟩ := tupOf h z
  have hl2 := all2 hd
  have hx : n < xs.length := by simp only [lenT] at hl; omega
  obtain ⟨d', h1, h2⟩ := dk_get hd (List.getElem?_eq_getElem hx)
  refine ⟨xs[n], ?_, fun H' s ha => vi_op ha vi_c fun Q q => .inr (.inl ⟨a, _, _, _, rfl, rfl, SqT.same s e, at_nat (List.getElem?_eq_getElem hx), q⟩)⟩
  show Dk K H xs[n] (ds.getD n .none)
  rw [List.getD_eq_getElem?_getD, h1]
  exact h2
section
variable {P : Program} {w : World} {K : PySem.W.Frag} {mg : Str → Option Value} {base : Heap}
end
section
variable {K : PySem.W.Frag} {σ : L2.St} {H : Hp}
/-- all([elt for x in te]) -/
theorem vk_all {te tel : TE} {a : Addr} {j : Nat} {vs : List Nat} {xs : List V} {ds : List PyData} {pd : PyData → Bool} (h : Vi te σ H (.ref a)) (e : SqT K H a xs) (ha : DkAll K H xs ds) (hl : ds.length ≤ 2000) (hw : ∀ x : V, wipe ((wipe σ vs).set j (some x)) vs = wipe σ vs)
    (he : ∀ H2 x d, Same H H2 → Dk K H2 x d → Vg tel ((wipe σ vs).set j (some x)) H2 (.bl (pd d))) : Vg (tCB (rAll K) (tCons (tLc (iTup K te) (gName j) tYes tel vs) tNil)) σ H (.bl (ds.all pd)) := fun Q q => by
  have hlen := all2 ha
  refine h _ ⟨a, rfl, ⟨xs, e⟩, fun D hD => ?_⟩
  refine lc_it (walk_tup (K := K) (a := a) (xs := xs)) (fun n H' => Same H H' ∧ H' D = some (.lst ((ds.take n).map fun d => V.bl (pd d)))) ⟨same_upd hD, upd_same⟩ (fun n H' _ z => SqT.same z.1 e) ?_ ?_
  · rintro i x H' H'' hi ⟨s7, hD'⟩ ⟨rfl, hx⟩
    obtain ⟨d, hdi, hth⟩ := dk_get ha hx
    refine ⟨hw x, ?_⟩
    dsimp only [tYes]
    rw [if_pos rfl]
    refine he _ x d s7 (hth.mono (Sm.same s7)) _ fun H2 s2 => ⟨_, s2 _ _ hD', ?_, same_put (s7.trans s2) hD, ?_⟩
    · rw [List.length_map, List.length_take]
      exact Nat.lt_of_le_of_lt (show min i ds.length ≤ 2000 by omega) (by decide)
    · rw [upd_same, List.take_add_one, hdi, List.map_append]
      rfl
  · rintro H' ⟨s7, hD'⟩
    have e1 : ds.take xs.length = ds := List.take_of_length_le (by omega)
    rw [e1] at hD'
    refine ⟨D, ds.map pd, rfl, SqL.of (by rw [hD', List.map_map]; rfl), ?_⟩
    have e2 : (ds.map pd).all id = ds.all pd := by rw [List.all_map]; rfl
    rw [e2]
    exact q _ s7
end
def spTermL (K : PySem.W.Frag) : Sp := fun vs H Q _ => ∃ x d n, vs = [.int n, x] ∧ n ≤ 1000 ∧ Dk K H x d ∧ ∀ H', Same H H' → Q (.bl (isTerm n d)) H'
def spPolyL (K : PySem.W.Frag) : Sp := fun vs H Q _ => ∃ x d n, vs = [.int n, x] ∧ n ≤ 1000 ∧ Dk K H x d ∧ ∀ H', Same H H' → Q (.bl (isPoly n d)) H'
section
variable {P : Program} {w : World} {K : PySem.W.Frag} {mg : Str → Option Value} {base : Heap}
abbrev nLp : List Str := ["many", "thing", "keys", "term", "one", "two"]
end
end QL

set_option Elab.async false
set_option linter.all false
set_option maxRecDepth 100000
set_option maxHeartbeats 4000000
/-! ### odd things, bent things -/
namespace QL
open PySem PySem.Spec PyProof.Rows L2 KX KP QR QD QP FR KJ
abbrev lOf : Stmt := top 40
/-- all but S -/
def hidS (S : List Addr) (H : Hp) : Hp := fun b => if b ∈ S then none else H b
theorem hidS_in {S : List Addr} {H : Hp} {b : Addr} (h : b ∉ S) : hidS S H b = H b := if_neg h
theorem hidS_same (S : List Addr) (H : Hp) : Same (hidS S H) H := fun b o e => by
  unfold hidS at e
  split at e
  · cases e
  · exact e
theorem hidS_at {S : List Addr} {H : Hp} {b : Addr} {o : HO} (e : hidS S H b = some o) : b ∉ S ∧ H b = some o := by
  unfold hidS at e
  split at e
  · cases e
  · exact ⟨by assumption, e⟩
theorem hidS_mono {S : List Addr} {H H' : Hp} (h : ∀ b o, b ∉ S → H b = some o → H' b = some o) : Same (hidS S H) (hidS S H') := fun b o e => by
  obtain ⟨n, e⟩ := hidS_at e
  rw [hidS_in n]
  exact h b o n e
theorem hidS_sm {S : List Addr} {H H' : Hp} (s : Sm H H') : Sm (hidS S H) (hidS S H') := fun b o e n => by
  obtain ⟨m, e⟩ := hidS_at e
  rw [hidS_in m]
  exact s b o e n
theorem hidS_but {S : List Addr} {j : Addr} {H H' : Hp} (hj : j ∈ S) (b : But j H H') : Same (hidS S H) (hidS S H') := hidS_mono fun c o n e => b c o (fun z => n (z ▸ hj)) e
/-- all of S stands -/
def Stands (S : List Addr) (H : Hp) : Prop := ∀ a ∈ S, H a ≠ none
theorem Stands.new {S : List Addr} {H : Hp} {p : Addr} (h : Stands S H) (hp : H p = none) : p ∉ S := fun z => h p z hp
theorem Stands.same {S : List Addr} {H H' : Hp} (h : Stands S H) (s : Same H H') : Stands S H' := fun a ha z => h a ha (by
  cases q : H a with
  | none => rfl
  | some o => rw [s a o q] at z; cases z)
theorem Stands.but {S : List Addr} {H H' : Hp} {j : Addr} {n : Nat} (h : Stands S H) (b : But j H H') (j1 : JarAt H' j n) : Stands S H' := fun a ha z => by
  by_cases c : a = j
  · subst c
    obtain ⟨_, _, _, e, _⟩ := j1
    rw [e] at z
    cases z
  · cases q : H a with
    | none => exact h a ha q
    | some o => rw [b a o c q] at z; cases z
section
variable {K : PySem.W.Frag}
/-- written things: te makes d -/
def LdE (S : List Addr) (te : TE) (d : PyData) : Prop := ∀ (σ : L2.St) (H : Hp) (Q : VK), Stands S H → (∀ v H', Same H H' → Th (hidS S H') v d → Q v H') → te σ H Q
def LdA (S : List Addr) (ta : TA) (ds : List PyData) : Prop := ∀ (σ : L2.St) (H : Hp) (Q : List V → Hp → Prop), Stands S H → (∀ vs H', Same H H' → ThAll (hidS S H') vs ds → Q vs H') → ta σ H Q
variable {S : List Addr}
theorem ld_non : LdE S (tC .non) .none := fun σ H Q _ k => k _ H (Same.refl H) .non
theorem ld_bl (b : Bool) : LdE S (tC (.bl b)) (.bool b) := fun σ H Q _ k => k _ H (Same.refl H) (.bl b)
theorem ld_int (i : Int) : LdE S (tC (.int i)) (.int i) := fun σ H Q _ k => k _ H (Same.refl H) (.int i)
theorem ld_str (s : Str) : LdE S (tC (.str s)) (.str s) := fun σ H Q _ k => k _ H (Same.refl H) (.str s)
theorem ld_neg (i : Int) : LdE S (tUn (rU fun i => .int (-i)) (tC (.int i))) (.int (-i)) := fun σ H Q _ k => ⟨i, rfl, k _ H (Same.refl H) (.int (-i))⟩
theorem ld_nil : LdA S tNil [] := fun σ H Q _ k => k _ H (Same.refl H) .nil
theorem hidS_grow {H H' : Hp} (s : Same H H') : Same (hidS S H) (hidS S H') := hidS_mono fun b o _ e => s b o e
theorem ld_cons {te : TE} {ta : TA} {d : PyData} {ds : List PyData} (h : LdE S te d) (r : LdA S ta ds) : LdA S (tCons te ta) (d :: ds) := fun σ H Q st k =>
  h σ H _ st fun v H1 s1 th => r σ H1 _ (st.same s1) fun vs H2 s2 ths => k _ H2 (s1.trans s2) (.cons (th.mono (Sm.same (hidS_grow s2))) ths)
theorem thAll_len {H : Hp} : ∀ {vs : List V} {ds : List PyData}, ThAll H vs ds → vs.length = ds.length
  | _, _, .nil => rfl
  | _, _, .cons _ r => by rw [List.length_cons, List.length_cons, thAll_len r]
theorem ld_tup {ta : TA} {ds : List PyData} (h : LdA S ta ds) (hl : ds.length ≤ 1000) : LdE S (tTup ta) (.tuple ds) := fun σ H Q st k =>
  h σ H _ st fun vs H1 s1 ths => ⟨by rw [thAll_len ths]; exact Nat.le_trans hl (by decide), fun p hp => by
    have s2 := same_upd (o := .tup vs) hp
    have np := (st.same s1).new hp
    exact k _ _ (s1.trans s2) (.tup' (.inl (by rw [hidS_in np]; exact upd_same)) (ThAll.mono (Sm.same (hidS_grow s2)) ths))⟩
theorem ld_lst {ta : TA} {ds : List PyData} (h : LdA S ta ds) (hl : ds.length ≤ 1000) : LdE S (tLst ta) (.list ds) := fun σ H Q st k =>
  h σ H _ st fun vs H1 s1 ths => ⟨by rw [thAll_len ths]; exact Nat.le_trans hl (by decide), fun p hp => by
    have s2 := same_upd (o := .lst vs) hp
    have np := (st.same s1).new hp
    exact k _ _ (s1.trans s2) (.lst (by rw [hidS_in np]; exact upd_same) (ThAll.mono (Sm.same (hidS_grow s2)) ths))⟩
theorem ld_dict : LdE S tDNewK (.dict []) := fun σ H Q st k p hp => by
  have s2 := same_upd (o := .dK []) hp
  exact k _ _ s2 (.emp (by rw [hidS_in (st.new hp)]; exact upd_same))
theorem ld_pow {a b : Int} (h : CPow a b) : LdE S (tOp (rI CPow fun i j => .int (i ^ j.toNat)) (tC (.int a)) (tC (.int b))) (.int (a ^ b.toNat)) := fun σ H Q _ k => ⟨_, _, rfl, rfl, h, k _ H (Same.refl H) (.int _)⟩
end
def spOdd (K : PySem.W.Frag) : Sp := fun vs H Q _ => ∃ j n S, vs = [.ref j] ∧ JarAt H j n ∧ n ≤ 900000 ∧ j ∈ S ∧ Stands S H ∧ ∀ v d H', Dk K (hidS S H') v d → But j H H' → JarAt H' j (n + 1) → Q v H'
theorem thAll_get {H : Hp} : ∀ {vs : List V} {ds : List PyData} {v : V}, ThAll H vs ds → v ∈ vs → ∃ d, Th H v d
  | _, _, _, .cons h r, m => by
    rcases List.mem_cons.mp m with rfl | m
    · exact ⟨_, h⟩
    · exact thAll_get r m
theorem thAll_app {H : Hp} : ∀ {vs us : List V} {ds es : List PyData}, ThAll H vs ds → ThAll H us es → ThAll H (vs ++ us) (ds ++ es)
  | _, _, _, _, .nil, h => h
  | _, _, _, _, .cons a r, h => .cons a (thAll_app r h)
section
variable {P : Program} {w : World} {K : PySem.W.Frag} {mg : Str → Option Value} {base : Heap}
end
end QL

set_option Elab.async false
set_option linter.all false
set_option maxRecDepth 100000
set_option maxHeartbeats 4000000
/-! ### tuples put together; things bent -/
namespace QL
open PySem PySem.Spec PyProof.Rows L2 KX KP QR QD QP FR KJ
section
variable {K : PySem.W.Frag} {S : List Addr} {σ : L2.St} {H : Hp}
/-- te makes a tuple of xs, off S -/
def Tu (K : PySem.W.Frag) (S : List Addr) (te : TE) (σ : L2.St) (H : Hp) (xs : List V) : Prop := ∀ Q : VK, (∀ a H', Same H H' → SqT K (hidS S H') a xs → Q (.ref a) H') → te σ H Q
theorem sqT_hid {a : Addr} {xs : List V} (h : SqT K (hidS S H) a xs) : SqT K H a xs := SqT.same (hidS_same S H) h
theorem tu_var {te : TE} {a : Addr} {xs : List V} (h : Vi te σ H (.ref a)) (e : SqT K (hidS S H) a xs) : Tu K S te σ H xs := fun Q k => h _ (k a H (Same.refl H) e)
theorem tu_new {p : Addr} {xs : List V} (st : Stands S H) (hp : H p = none) : SqT K (hidS S (upd H p (.tup xs))) p xs := SqT.of (.inl (by rw [hidS_in (st.new hp)]; exact upd_same))
theorem tu_one {te : TE} {x : V} (st : Stands S H) (h : Vi te σ H x) : Tu K S (tTup (tCons te tNil)) σ H [x] := fun Q k => h _ ⟨by show 1 ≤ sizeLine; decide, fun p hp => k p _ (same_upd hp) (tu_new st hp)⟩
theorem tu_nil (st : Stands S H) : Tu K S (tTup tNil) σ H [] := fun Q k => ⟨Nat.zero_le _, fun p hp => k p _ (same_upd hp) (tu_new st hp)⟩
theorem tu_sl {te : TE} {tl th : TO} {lo hi : Option Int} {a : Addr} {xs : List V} (st : Stands S H) (h : Vi te σ H (.ref a)) (e : SqT K (hidS S H) a xs) (hl : ∀ Q, Q lo H → tl σ H Q) (hh : ∀ Q, Q hi H → th σ H Q) : Tu K S (tSl (rSlA K) te tl th) σ H (cutV xs lo hi) := fun Q k => by
  refine h _ (hl _ (hh _ ⟨a, xs, rfl, sqT_hid e, fun z => ?_, fun _ p hp => k p _ (same_upd hp) (tu_new st hp)⟩))
  have : cutV xs lo hi = xs := by
    unfold cutV
    rw [z.1, z.2]
    simp
  rw [this] at k
  exact k a H (Same.refl H) e
theorem tu_cat {ta tb : TE} {xs ys : List V} (ha : Tu K S ta σ H xs) (st : Stands S H) (hb : ∀ H', Same H H' → Tu K S tb σ H' ys) (hl : xs.length + ys.length ≤ 10000) : Tu K S (tOp (rCatA K) ta tb) σ H (xs ++ ys) := fun Q k =>
  ha _ fun a H1 s1 ea => hb H1 s1 _ fun b H2 s2 eb => by
    have ea2 := SqT.same (hidS_grow (S := S) s2) ea
    refine ⟨a, b, xs, ys, rfl, rfl, sqT_hid ea2, sqT_hid eb, Nat.le_trans hl (by decide), fun z => ?_, fun _ z => ?_, fun _ _ p hp => ?_⟩
    · subst z
      exact k b H2 (s1.trans s2) eb
    · subst z
      rw [List.append_nil] at k
      exact k a H2 (s1.trans s2) ea2
    · exact k p _ ((s1.trans s2).trans (same_upd hp)) (tu_new (st.same (s1.trans s2)) hp)
end
def spPut (K : PySem.W.Frag) : Sp := fun vs H Q _ => ∃ (a : Addr) (i : Nat) (x : V) (xs : List V) (S : List Addr), vs = [.ref a, .int (i : Nat), x] ∧ SqT K (hidS S H) a xs ∧ Stands S H ∧ i < xs.length ∧ xs.length ≤ 1000 ∧ ∀ b H', Same H H' → SqT K (hidS S H') b (xs.take i ++ [x] ++ xs.drop (i + 1)) → Q (.ref b) H'
section
variable {P : Program} {w : World} {K : PySem.W.Frag} {mg : Str → Option Value} {base : Heap}
end
end QL

set_option Elab.async false
set_option linter.all false
set_option maxRecDepth 100000
set_option maxHeartbeats 4000000
/-! ### things bent -/
namespace QL
open PySem PySem.Spec PyProof.Rows L2 KX KP QR QD QP FR KJ
/-- whole numbers and tuples of such, to depth n -/
inductive TI : Nat → PyData → Prop
  | int {n : Nat} (i : Int) : TI n (.int i)
  | tup {n : Nat} {ds : List PyData} (hl : ds.length ≤ 1000) (h : ∀ d ∈ ds, TI n d) : TI (n + 1) (.tuple ds)
theorem TI.mono {n m : Nat} {d : PyData} (h : TI n d) (l : n ≤ m) : TI m d := by
  induction h generalizing m with
  | int i => exact .int i
  | tup hl h ih =>
    obtain ⟨k, rfl⟩ : ∃ k, m = k + 1 := ⟨m - 1, by omega⟩
    exact .tup hl fun d hd => ih d hd (by omega)
theorem ti_all {P : PyData → Bool} {A : List PyData → Bool} (h0 : A [] = true) (h1 : ∀ d ds, P d = true → A ds = true → A (d :: ds) = true) : ∀ {ds : List PyData}, (∀ d ∈ ds, P d = true) → A ds = true
  | [], _ => h0
  | d :: ds, h => h1 d ds (h d List.mem_cons_self) (ti_all h0 h1 fun x hx => h x (List.mem_cons_of_mem _ hx))
theorem TI.nodict {n : Nat} {d : PyData} (h : TI n d) : d.hasDict = false := by
  induction h with
  | int i => simp [PyData.hasDict]
  | @tup n ds hl h ih =>
    rw [PyData.hasDict]
    have : ∀ ds : List PyData, (∀ d ∈ ds, d.hasDict = false) → PyData.hasDictAll ds = false := fun ds => by
      induction ds with
      | nil => intro _; simp [PyData.hasDictAll]
      | cons d ds ih => intro h; rw [PyData.hasDictAll, h d List.mem_cons_self, ih fun x hx => h x (List.mem_cons_of_mem _ hx)]; rfl
    exact this ds ih
theorem TI.canLay {n : Nat} {d : PyData} (h : TI n d) : d.canLay0 = true := by
  induction h with
  | int i => simp [PyData.canLay0]
  | @tup n ds hl h ih =>
    rw [PyData.canLay0]
    have : ∀ ds : List PyData, (∀ d ∈ ds, d.canLay0 = true) → PyData.canLayAll0 ds = true := fun ds => by
      induction ds with
      | nil => intro _; simp [PyData.canLayAll0]
      | cons d ds ih => intro h; rw [PyData.canLayAll0, h d List.mem_cons_self, ih fun x hx => h x (List.mem_cons_of_mem _ hx)]; rfl
    exact this ds ih
theorem TI.depth {n : Nat} {d : PyData} (h : TI n d) : d.depth ≤ n + 1 := by
  induction h with
  | int i => simp [PyData.depth]
  | @tup n ds hl h ih =>
    have : ∀ ds : List PyData, (∀ d ∈ ds, d.depth ≤ n + 1) → PyData.depthAll ds ≤ n + 1 := fun ds => by
      induction ds with
      | nil => intro _; simp [PyData.depthAll]
      | cons d ds ih => intro h; rw [PyData.depthAll]; have := h d List.mem_cons_self; have := ih fun x hx => h x (List.mem_cons_of_mem _ hx); omega
    have := this ds ih
    rw [PyData.depth]
    omega
theorem TI.shaped {n : Nat} {d : PyData} (h : TI n d) (l : n ≤ 20) : SeqAt.shaped d = true := by
  unfold SeqAt.shaped
  rw [h.canLay, Bool.true_and, decide_eq_true_iff]
  have := h.depth
  omega
def spBent (K : PySem.W.Frag) (t : Nat) : Sp := fun vs H Q _ => ∃ j v d n S, vs = [.ref j, v, .int (t : Nat)] ∧ JarAt H j n ∧ n + 8 * (t + 1) ≤ 800000 ∧ j ∈ S ∧ Stands S H ∧ Dk K (hidS S H) v d ∧ TI 8 d ∧ ∀ v' d' H', Dk K (hidS S H') v' d' → But j H H' → JarAt H' j (n + 8 * (t + 1)) → Q v' H'
theorem dk_app {K : PySem.W.Frag} {H : Hp} : ∀ {xs ys : List V} {ds es : List PyData}, DkAll K H xs ds → DkAll K H ys es → DkAll K H (xs ++ ys) (ds ++ es)
  | _, _, _, _, .nil, h => h
  | _, _, _, _, .cons a r, h => .cons a (dk_app r h)
theorem dk_take {K : PySem.W.Frag} {H : Hp} : ∀ {xs : List V} {ds : List PyData} (n : Nat), DkAll K H xs ds → DkAll K H (xs.take n) (ds.take n)
  | _, _, 0, _ => .nil
  | _, _, _ + 1, .nil => .nil
  | _, _, n + 1, .cons a r => .cons a (dk_take n r)
theorem dk_drop {K : PySem.W.Frag} {H : Hp} : ∀ {xs : List V} {ds : List PyData} (n : Nat), DkAll K H xs ds → DkAll K H (xs.drop n) (ds.drop n)
  | _, _, 0, h => h
  | _, _, _ + 1, .nil => .nil
  | _, _, n + 1, .cons _ r => dk_drop n r
theorem i_or {t u : TT} {tu tz : TS} {D : Ends} {σ : L2.St} {H : Hp} (h : t σ H (fun c H1 => if c = true then tu { D with nx := tz D } σ H1 else tSeq (tIfS u tu tNext) tz D σ H1)) : tSeq (tIfS (tOr t u) tu tNext) tz D σ H := h
theorem i_end {u : TT} {tu tz : TS} {D : Ends} {σ : L2.St} {H : Hp} (h : u σ H (fun c H1 => if c = true then tu { D with nx := tz D } σ H1 else tz D σ H1)) : tSeq (tIfS u tu tNext) tz D σ H := h
theorem dip_test {E : XK} {σ : L2.St} {H : Hp} {j : Addr} {m : Nat} {c : Int} {Q : Bool → Hp → Prop} (h0 : σ[0]? = some (some (.ref j))) (hj : JarAt H j m) (hm : m ≤ 900000) (c0 : 0 < c) (c1 : c < 1000000) (k : ∀ b H1, But j H H1 → JarAt H1 j (m + 1) → Q b H1) :
    tTest (tOp rEq (tCall spDip [] E (tCons (tVar 0) (tCons (tC (.int c)) tNil))) (tC (.int 0))) σ H Q :=
  ⟨_, h0, j, c, m, rfl, c0, c1, hj, by omega, fun r H1 _ _ b1 j1 => ⟨rfl, _, rfl, k _ H1 b1 j1⟩⟩
theorem cat_go {K : PySem.W.Frag} {S : List Addr} {H : Hp} {a b : Addr} {xs ys : List V} {Q : VK} (ea : SqT K (hidS S H) a xs) (eb : SqT K (hidS S H) b ys) (st : Stands S H) (hl : xs.length + ys.length ≤ 10000)
    (k : ∀ c H', Same H H' → SqT K (hidS S H') c (xs ++ ys) → Q (.ref c) H') : rCatA K (.ref a) (.ref b) H Q := by
  refine ⟨a, b, xs, ys, rfl, rfl, sqT_hid ea, sqT_hid eb, Nat.le_trans hl (by decide), fun z => ?_, fun _ z => ?_, fun _ _ p hp => ?_⟩
  · subst z
    exact k b H (Same.refl H) eb
  · subst z
    rw [List.append_nil] at k
    exact k a H (Same.refl H) ea
  · exact k p _ (same_upd hp) (tu_new st hp)
theorem bent_leaf {K : PySem.W.Frag} {S : List Addr} {σ : L2.St} {H : Hp} {j : Addr} {m : Nat} {v : V} {d : PyData} {D : Ends} {E1 E2 E3 E4 : XK} (h0 : σ[0]? = some (some (.ref j))) (h1 : σ[1]? = some (some v)) (hd : Dk K (hidS S H) v d) (ti : TI 8 d) (hj : JarAt H j m) (jS : j ∈ S) (st : Stands S H) (hm : m ≤ 890000)
    (k : ∀ v' d' H', Dk K (hidS S H') v' d' → But j H H' → JarAt H' j (m + 3) → D.rt v' H') :
    tSeq (tIfS (tAnd (tB (tCB (rIsi K) (tCons (tVar 1) (tCons (tC (V.ty "int")) tNil)))) (tTest (tOp rEq (tCall spDip [] E1 (tCons (tVar 0) (tCons (tC (V.int 2)) tNil))) (tC (V.int 0)))))
        (tRet (tOp (rI0 fun i j => V.int (i + j)) (tVar 1) (tIf (tTest (tOp rEq (tCall spDip [] E2 (tCons (tVar 0) (tCons (tC (V.int 2)) tNil))) (tC (V.int 0)))) (tC (V.int 1)) (tUn (rU fun i => V.int (-i)) (tC (V.int 1)))))) tNext)
      (tRet (tIf (tAnd (tB (tCB (rIsi K) (tCons (tVar 1) (tCons (tC (V.ty "tuple")) tNil)))) (tTest (tOp rEq (tCall spDip [] E3 (tCons (tVar 0) (tCons (tC (V.int 3)) tNil))) (tC (V.int 0)))))
        (tCB (fun xs H_1 Q => ∃ p ys, xs = [V.ref p] ∧ (SqL K H_1 p ys ∨ SqT K H_1 p ys) ∧ ∀ (l : Addr), H_1 l = none → Q (V.ref l) (upd H_1 l (HO.lst ys))) (tCons (tVar 1) tNil))
        (tCall (spOdd K) [] E4 (tCons (tVar 0) tNil)))) D σ H := by
  have odd : ∀ H1 m1, But j H H1 → JarAt H1 j m1 → m1 ≤ m + 2 → tCall (spOdd K) [] E4 (tCons (tVar 0) tNil) σ H1 D.rt := fun H1 m1 b1 j1 hm1 => ⟨_, h0, j, m1, S, rfl, j1, by omega, jS, st.but b1 j1, fun v' d' H' dk b j' => k v' d' H' dk (b1.trans b) (jar_more j' (by omega))⟩
  have second : ∀ H1 m1, But j H H1 → JarAt H1 j m1 → m1 ≤ m + 1 → tRet (tIf (tAnd (tB (tCB (rIsi K) (tCons (tVar 1) (tCons (tC (V.ty "tuple")) tNil)))) (tTest (tOp rEq (tCall spDip [] E3 (tCons (tVar 0) (tCons (tC (V.int 3)) tNil))) (tC (V.int 0)))))
        (tCB (fun xs H_1 Q => ∃ p ys, xs = [V.ref p] ∧ (SqL K H_1 p ys ∨ SqT K H_1 p ys) ∧ ∀ (l : Addr), H_1 l = none → Q (V.ref l) (upd H_1 l (HO.lst ys))) (tCons (tVar 1) tNil))
        (tCall (spOdd K) [] E4 (tCons (tVar 0) tNil))) D σ H1 := fun H1 m1 b1 j1 hm1 => by
    have hd1 := hd.mono (Sm.same (hidS_but jS b1))
    refine vk_isi (vi_var h1) (hd1.mono (Sm.same (hidS_same S H1))) (by simp) _ ⟨_, rfl, iteB (fun c => ?_) (fun c => ?_)⟩
    · rw [isin_tup, decide_eq_true_eq] at c
      refine dip_test h0 j1 (by omega) (by decide) (by decide) fun b H2 b2 j2 => iteB (fun _ => ?_) (fun _ => odd H2 _ (b1.trans b2) j2 (by omega))
      obtain ⟨a, xs, ds, rfl, rfl, e, hds⟩ := tupOf (hd1.mono (Sm.same (hidS_but jS b2))) c
      exact ⟨_, h1, a, xs, rfl, .inr (sqT_hid e), fun l hl => k (.ref l) (.list ds) _ (Dk.lst (.inl (.inl (by rw [hidS_in ((st.but (b1.trans b2) j2).new hl)]; exact upd_same))) (DkAll.mono (Sm.same (hidS_grow (same_upd hl))) hds)) ((b1.trans b2).trans (But.same (same_upd hl))) (jar_more (jar_same j2 (same_upd hl)) (by omega))⟩
    · exact iteB (fun z => by cases z) (fun _ => odd H1 _ b1 j1 (by omega))
  refine i_end (vk_isi (vi_var h1) (hd.mono (Sm.same (hidS_same S H))) (by simp) _ ⟨_, rfl, iteB (fun c => ?_) (fun c => ?_)⟩)
  · cases ti with
    | tup hl h => simp [isin, tyN] at c
    | int i =>
      cases hd
      refine dip_test h0 hj (by omega) (by decide) (by decide) fun b H2 b2 j2 => iteB (fun _ => ?_) (fun _ => second H2 _ b2 j2 (by omega))
      refine ⟨_, h1, dip_test h0 j2 (by omega) (by decide) (by decide) fun b' H3 b3 j3 => iteB (fun _ => ?_) (fun _ => ?_)⟩
      · exact ⟨_, _, rfl, rfl, k _ _ H3 (.int _) (b2.trans b3) (jar_more j3 (by omega))⟩
      · exact ⟨1, rfl, _, _, rfl, rfl, k _ _ H3 (.int _) (b2.trans b3) (jar_more j3 (by omega))⟩
  · exact iteB (fun z => by cases z) (fun _ => second H m (But.same (Same.refl H)) hj (by omega))
section
variable {P : Program} {w : World} {K : PySem.W.Frag} {mg : Str → Option Value} {base : Heap}
abbrev nBe : List Str := ["jar", "thing", "deep", "at", "way"]
end
end QL

set_option Elab.async false
set_option linter.all false
set_option maxRecDepth 100000
set_option maxHeartbeats 4000000
/-! ### rows of whole numbers -/
namespace QL
open PySem PySem.Spec PyProof.Rows L2 KX KP QR QD QP FR KJ
abbrev lRowsM : Stmt := top 57
def rowsM : Nat → Nat → List Mon
  | 0, _ => [[]]
  | n + 1, t => (rowsM n t).flatMap fun r => (List.range (t + 1)).map fun a : Nat => r ++ [(a : Int)]
theorem flat_len (t : Nat) : ∀ L : List Mon, (L.flatMap fun r : Mon => (List.range (t + 1)).map fun a : Nat => r ++ [(a : Int)]).length = L.length * (t + 1)
  | [] => by simp
  | x :: L => by rw [List.flatMap_cons, List.length_append, flat_len t L, List.length_map, List.length_range, List.length_cons, Nat.succ_mul, Nat.add_comm]
theorem rowsM_len (n t : Nat) : (rowsM n t).length = (t + 1) ^ n := by
  induction n with
  | zero => rfl
  | succ n ih => rw [rowsM, flat_len, ih, Nat.pow_succ]
theorem rowsM_mem {n t : Nat} {r : Mon} (h : r ∈ rowsM n t) : r.length = n ∧ ∀ x ∈ r, 0 ≤ x ∧ x ≤ (t : Int) := by
  induction n generalizing r with
  | zero =>
    rw [rowsM, List.mem_singleton] at h
    subst h
    exact ⟨rfl, fun x hx => by cases hx⟩
  | succ n ih =>
    rw [rowsM, List.mem_flatMap] at h
    obtain ⟨q, hq, h⟩ := h
    obtain ⟨a, ha, rfl⟩ := List.mem_map.mp h
    obtain ⟨l, p⟩ := ih hq
    refine ⟨by rw [List.length_append, l]; rfl, fun x hx => ?_⟩
    rcases List.mem_append.mp hx with hx | hx
    · exact p x hx
    · rw [List.mem_singleton.mp hx]
      have := List.mem_range.mp ha
      omega
theorem op_catK {X : Cx} {K0 : PySem.W.Frag} (h : X.K = K0) : OpR X (binaryOp .Add) (rCatA K0) := h ▸ op_catA
def kR (ks : List (Addr × Mon)) : List V := ks.map fun p => V.ref p.1
theorem kR_app (a b : List (Addr × Mon)) : kR (a ++ b) = kR a ++ kR b := List.map_append
def spRows : Sp := fun vs H Q _ => ∃ n t : Nat, vs = [.int (n : Int), .int (t : Int)] ∧ n ≤ 5 ∧ t ≤ 41 ∧ (t + 1) ^ n ≤ 5000 ∧ ∀ p ks H', H p = none → Same H H' → H' p = some (.lst (kR ks)) → KeysAt H' ks → ks.map (·.2) = rowsM n t → Q (.ref p) H'
theorem keysAt_same {H H' : Hp} {ks : List (Addr × Mon)} (h : KeysAt H ks) (s : Same H H') : KeysAt H' ks := fun p hp => s _ _ (h p hp)
theorem keysAt_tt {H H' : Hp} {ks : List (Addr × Mon)} (h : KeysAt H ks) (s : Tt H H') : KeysAt H' ks := fun p hp => s.pl _ _ (h p hp)
theorem keysAt_app {H : Hp} {ks ls : List (Addr × Mon)} (h : KeysAt H ks) (h' : KeysAt H ls) : KeysAt H (ks ++ ls) := fun p hp => (List.mem_append.mp hp).elim (h p) (h' p)
theorem keysAt_one {H : Hp} {p : Addr × Mon} (h : H p.1 = some (.tup (p.2.map V.int))) : KeysAt H [p] := fun q hq => by rw [List.mem_singleton.mp hq]; exact h
section
variable {P : Program} {w : World} {K : PySem.W.Frag} {mg : Str → Option Value} {base : Heap}
abbrev nRo : List Str := ["many", "top", "found", "turn", "longer", "row", "amount"]
theorem scRo : FnScope nRo ["many", "top"] (defScope lRowsM) := ⟨rfl, rfl, rfl, by decide +kernel, rfl, by decide +kernel, by decide +kernel⟩
theorem ok_lrows {f : Addr} {fd : FuncData} (F : Fun K "_law_rows_of" "_law_rows_of" lRowsM f fd) (T : TxD mg) : FnOk P w K mg base CX0 1 f fd ["many", "top"] spRows := by
  refine F.ok scRo (fun vs H Q E h => ?_) (fun cdv A outer s H vs Q E hr h => ?_)
  · obtain ⟨_, _, rfl, _⟩ := h
    rfl
  · obtain ⟨n, t, rfl, hn, ht, hnt, k⟩ := h
    refine ⟨_, pss_cons (ps_set (i := 2) scRo.nd rfl (Or.inl rfl) (pe_lst (pa_cons (pe_tup pa_nil) pa_nil)))
      (pss_cons (ps_for PassesOwn.never rfl (pi_range1 rfl T.range (pa_cons (pv 0) pa_nil)) (pg_name (i := 3) scRo.nd rfl (Or.inl rfl))
        (pss_cons (ps_set (i := 4) scRo.nd rfl (Or.inl rfl) (pe_lst pa_nil))
        (pss_cons (ps_for PassesOwn.never rfl (pi_list (pv 2)) (pg_name (i := 5) scRo.nd rfl (Or.inr rfl))
          (pss_one (ps_expr (pe_bm PySem.F.plainAttrs_list PySem.F.slot_list_extend PySem.F.type_list_extend mt_extend (pv 4) (pa_cons (pe_lc (own := [("amount", 6)]) (g := gName 6) (tt := tYes) rfl scRo.nd (pi_range1 rfl T.range (pa_cons (pe_op op_add (pv 1) pe_int) pa_nil))
            (blkOk_by (N := nRo) (sc := defScope lRowsM) (by decide +kernel)) (fun _ _ _ _ _ => pg_name (i := 6) scRo.nd rfl (Or.inl rfl)) (fun _ _ _ _ _ => pts_nil)
            (fun _ _ _ _ _ => pe_op (op_catK (K0 := K) rfl) (pv 5) (pe_tup (pa_cons (pv 6) pa_nil)))) pa_nil)))))
        (pss_one (ps_set (i := 2) scRo.nd rfl (Or.inl rfl) (pv 4))))))
      (pss_one (ps_ret (pv 2)))), ?_⟩
    refine ⟨Nat.zero_le _, fun q hq => ⟨by show 1 ≤ sizeLine; decide, fun fo hfo => ?_⟩⟩
    have s0 := (same_upd (o := .tup ([] : List V)) hq).trans (same_upd (o := .lst [V.ref q]) hfo)
    have hfo0 : H fo = none := by
      cases c : H fo with
      | none => rfl
      | some o => rw [same_upd (o := .tup ([] : List V)) hq _ _ c] at hfo; cases hfo
    refine ⟨_, rfl, _, rfl, by omega, by omega, ?_⟩
    refine for_range (lo := 0) (n := n) (fun i σ H' => ∃ (o3 o4 o5 : Option V) (fo : Addr) (ks : List (Addr × Mon)), σ = [some (.int (n : Int)), some (.int (t : Int)), some (.ref fo), o3, o4, o5, none] ∧ Same H H' ∧ H fo = none ∧ H' fo = some (.lst (kR ks)) ∧ KeysAt H' ks ∧ ks.map (·.2) = rowsM i t)
      ⟨_, _, _, fo, [(q, [])], rfl, s0, hfo0, upd_same, keysAt_one (by rw [upd_ne (fun z => by rw [← z, upd_same] at hfo; cases hfo)]; exact upd_same), rfl⟩ ?_ ?_
    · rintro i σ H1 hi ⟨o3, o4, o5, fo, ks, rfl, s1, hf, ef, ka, em⟩
      have lks : ks.length = (t + 1) ^ i := by rw [← rowsM_len, ← em, List.length_map]
      have lk1 : (t + 1) ^ i * (t + 1) ≤ 5000 := Nat.le_trans (by rw [← Nat.pow_succ]; exact Nat.pow_le_pow_right (by omega) hi) hnt
      refine ⟨Nat.zero_le _, fun p hp => ?_⟩
      have hp0 : H p = none := by
        cases c : H p with
        | none => rfl
        | some o => rw [s1 _ _ c] at hp; cases hp
      have nfp : fo ≠ p := fun z => by rw [← z, ef] at hp; cases hp
      have sp := same_upd (o := .lst ([] : List V)) hp
      refine ⟨_, rfl, fo, rfl, ⟨_, SqL.of (sp _ _ ef)⟩, ?_⟩
      refine for_list (K := K) (a := fo) (xs := kR ks) (fun m σ H2 => ∃ (o5 : Option V) (ls : List (Addr × Mon)), σ = [some (.int (n : Int)), some (.int (t : Int)), some (.ref fo), some (.int (0 + (i : Int))), some (.ref p), o5, none] ∧ Same H H2 ∧ H2 fo = some (.lst (kR ks)) ∧ H2 p = some (.lst (kR ls)) ∧ KeysAt H2 ks ∧ KeysAt H2 ls ∧ ls.map (·.2) = ((ks.map (·.2)).take m).flatMap fun r => (List.range (t + 1)).map fun a : Nat => r ++ [(a : Int)])
        ⟨_, [], rfl, s1.trans sp, sp _ _ ef, upd_same, keysAt_same ka sp, (fun p hp => by cases hp), rfl⟩ (fun m σ H2 _ z => by obtain ⟨_, _, _, _, e, _⟩ := z; exact SqL.of e) ?_ ?_
      · rintro m x σ H2 hx ⟨o5, ls, rfl, s2, ef2, ep2, ka2, kl2, el⟩
        have hm : m < ks.length := by
          have := (List.getElem?_eq_some_iff.mp hx).1
          rwa [kR, List.length_map] at this
        have ey := List.getElem?_eq_getElem hm
        rw [kR, List.getElem?_map, ey] at hx
        cases hx
        have ek := ka2 _ (List.getElem_mem hm)
        obtain ⟨lr, _⟩ := rowsM_mem (n := i) (t := t) (r := ks[m].2) (by rw [← em]; exact List.mem_map.mpr ⟨_, List.getElem_mem hm, rfl⟩)
        refine ⟨_, rfl, .inl ⟨rfl, _, SqL.of ep2⟩, ?_⟩
        refine ⟨_, rfl, _, _, rfl, rfl, _, rfl, by omega, by omega, fun D hD => ?_⟩
        refine lc_range (lo := 0) (n := t + 1) (fun a H3 => Same H2 H3 ∧ ∃ rs : List (Addr × Mon), H3 D = some (.lst (kR rs)) ∧ KeysAt H3 rs ∧ rs.map (·.2) = (List.range a).map fun a : Nat => ks[m].2 ++ [(a : Int)])
          ⟨same_upd hD, [], upd_same, (fun p hp => by cases hp), rfl⟩ ?_ ?_
        · rintro a H3 ha ⟨s3, rs, e3, kr, er⟩
          refine ⟨rfl, ?_⟩
          have lrs : rs.length = a := by
            have := congrArg List.length er
            rwa [List.length_map, List.length_map, List.length_range] at this
          have hmap : (ks[m].2 ++ [(a : Int)]).map V.int = ks[m].2.map V.int ++ [V.int (0 + (a : Int))] := by
            rw [List.map_append, Int.zero_add]
            rfl
          have fin : ∀ r H4, Same H3 H4 → H4 r = some (.tup ((ks[m].2 ++ [(a : Int)]).map V.int)) → ∃ acc, H4 D = some (.lst acc) ∧ acc.length < sizeLine ∧ (Same H2 (upd H4 D (.lst (acc ++ [V.ref r]))) ∧ ∃ rs : List (Addr × Mon), (upd H4 D (.lst (acc ++ [V.ref r]))) D = some (.lst (kR rs)) ∧ KeysAt (upd H4 D (.lst (acc ++ [V.ref r]))) rs ∧ rs.map (·.2) = (List.range (a + 1)).map fun a : Nat => ks[m].2 ++ [(a : Int)]) := fun r H4 s4 er4 => by
            have tt : Tt H4 (upd H4 D (.lst (kR rs ++ [V.ref r]))) := Tt.put (s4 _ _ e3) (fun _ z => by cases z) (fun _ _ z => by cases z)
            refine ⟨_, s4 _ _ e3, ?_, same_put (s3.trans s4) hD, rs ++ [(r, ks[m].2 ++ [(a : Int)])], ?_, keysAt_app (keysAt_tt (keysAt_same kr s4) tt) (keysAt_one (tt.pl _ _ er4)), ?_⟩
            · rw [kR, List.length_map, lrs]
              exact Nat.lt_of_le_of_lt (show a ≤ 42 by omega) (by decide)
            · rw [upd_same, kR_app]
              rfl
            · rw [List.map_append, er, List.range_succ, List.map_append]
              rfl
          refine ⟨_, rfl, _, rfl, by show 1 ≤ sizeLine; decide, fun q hq => ?_⟩
          have sq := same_upd (o := .tup [V.int (0 + (a : Int))]) hq
          refine ⟨_, q, ks[m].2.map V.int, [V.int (0 + (a : Int))], rfl, rfl, SqT.of (.inl (sq _ _ (s3 _ _ ek))), SqT.of (.inl upd_same), ?_, fun z => fin q _ sq (by rw [hmap, z, upd_same]; rfl), fun _ z => (by cases z), fun _ _ r hr => fin r _ (sq.trans (same_upd hr)) (by rw [hmap, upd_same])⟩
          rw [List.length_map, lr]
          exact Nat.le_trans (show i + 1 ≤ 10 by omega) (by decide)
        · rintro H3 ⟨s3, rs, e3, kr, er⟩
          have e32 := s3 _ _ ep2
          have lls : ls.length ≤ 5000 := by
            have := congrArg List.length el
            rw [List.length_map] at this
            rw [this, flat_len, List.length_take, List.length_map]
            exact Nat.le_trans (Nat.mul_le_mul_right _ (Nat.le_trans (Nat.min_le_right _ _) (Nat.le_of_eq lks))) lk1
          have lrs : rs.length = t + 1 := by
            have := congrArg List.length er
            rwa [List.length_map, List.length_map, List.length_range] at this
          have npk : ∀ q : Addr × Mon, ∀ {us : List V}, H3 q.1 = some (.tup us) → q.1 ≠ p := fun q us e z => by rw [z, e32] at e; cases e
          have tt : Tt H3 (upd H3 p (.lst (kR ls ++ kR rs))) := Tt.put e32 (fun _ z => by cases z) (fun _ _ z => by cases z)
          refine ⟨p, D, _, _, rfl, rfl, e32, e3, ?_, ?_⟩
          · rw [kR, kR, List.length_map, List.length_map, lrs]
            exact Nat.le_trans (show ls.length + (t + 1) ≤ 6000 by omega) (by decide)
          refine ⟨_, ls ++ rs, rfl, same_put (s2.trans s3) hp0, by rw [upd_ne nfp]; exact s3 _ _ ef2, by rw [upd_same, kR_app], keysAt_tt (keysAt_same ka2 s3) tt, keysAt_tt (keysAt_app (keysAt_same kl2 s3) kr) tt, ?_⟩
          rw [List.map_append, el, er, List.take_add_one, List.flatMap_append, List.getElem?_map, ey]
          simp
      · rintro σ H2 ⟨o5, ls, rfl, s2, ef2, ep2, ka2, kl2, el⟩
        refine ⟨_, rfl, _, _, _, p, ls, rfl, s2, hp0, ep2, kl2, ?_⟩
        rw [el, kR, List.length_map, List.take_of_length_le (by rw [List.length_map]; exact Nat.le_refl _), em]
        rfl
    · rintro σ H1 ⟨o3, o4, o5, fo, ks, rfl, s1, hf, ef, ka, em⟩
      exact ⟨_, rfl, k fo ks H1 hf s1 ef ka em⟩
end
end QL

set_option Elab.async false
set_option linter.all false
set_option maxRecDepth 100000
set_option maxHeartbeats 4000000
/-! ### many terms -/
namespace QL
open PySem PySem.Spec PyProof.Rows L2 KX KP QR QD QP FR KJ
def lowM (m : Mon) : Bool := decide (m.sum ≤ 40)
theorem low_len : ((rowsM 2 40).filter lowM).length = 861 := by decide +kernel
theorem rowsM_nodup (n t : Nat) : (rowsM n t).Nodup := by
  induction n with
  | zero => exact List.pairwise_singleton _ _
  | succ n ih =>
    rw [rowsM, List.Nodup, List.pairwise_flatMap]
    refine ⟨fun r _ => ?_, ih.imp fun {a b} ne x hx y hy z => ?_⟩
    · rw [List.pairwise_map]
      exact List.nodup_range.imp fun {a b} ne z => ne (by
        have := List.append_cancel_left z
        injection this with h _
        omega)
    · obtain ⟨i, _, rfl⟩ := List.mem_map.mp hx
      obtain ⟨j, _, rfl⟩ := List.mem_map.mp hy
      exact ne (List.append_inj' z rfl).1
theorem cr_sumTK {X : Cx} {K0 : PySem.W.Frag} (h : X.K = K0) (hc : X.calm = true) : CallR X (.builtin "sum") (rSumT K0) := h ▸ cr_sumT hc
structure ManyOk (n : Nat) (p : Poly) : Prop where
  len : p.length = n
  ord : p.Pairwise fun a b => gtM a.1 b.1 = true
  mon : ∀ t ∈ p, t.1.length = 2 ∧ (∀ x ∈ t.1, 0 ≤ x ∧ x ≤ 40) ∧ t.1.sum ≤ 40
  num : ∀ t ∈ p, t.2 = (1, 1)
def spMany (K : PySem.W.Frag) : Sp := fun vs H Q _ => ∃ (x : V) (n : Nat), vs = [x, .int (n : Int)] ∧ n ≤ 861 ∧ ∀ v p H', Same H H' → PolV K H' v p → ManyOk n p → Q v H'
section
variable {P : Program} {w : World} {K : PySem.W.Frag} {mg : Str → Option Value} {base : Heap}
abbrev nMt : List Str := ["jar", "terms", "found", "powers", "row"]
end
end QL

set_option Elab.async false
set_option linter.all false
set_option maxRecDepth 100000
set_option maxHeartbeats 4000000
/-! ### things -/
namespace QL
open PySem PySem.Spec PyProof.Rows L2 KX KP QR QD QP FR KJ KS
theorem hidS_tt {S : List Addr} {H : Hp} (h : ∀ s ∈ S, ∀ xs, ¬ Rd H s (.tup xs)) : Tt H (hidS S H) := by
  refine ⟨fun b xs e => by rw [hidS_in (fun z => h b z xs (.inl e))]; exact e, fun b w e => ?_⟩
  obtain ⟨xs, rfl, r⟩ := of_tO e
  have nb : b ∉ S := fun z => h b z xs r
  refine tO_rd ?_
  rcases r with r | ⟨o, r⟩
  · exact .inl (by rw [hidS_in nb]; exact r)
  · exact .inr ⟨o, by rw [hidS_in nb]; exact r⟩
theorem lst_not {H : Hp} {s : Addr} {ys : List V} (e : H s = some (.lst ys)) : ∀ xs, ¬ Rd H s (.tup xs) := fun xs r => by
  rcases r with r | ⟨o, r⟩
  · rw [e] at r; cases r
  · rw [e] at r; cases r
theorem jar_not {H : Hp} {j : Addr} {n : Nat} (h : JarAt H j n) : ∀ xs, ¬ Rd H j (.tup xs) := by
  obtain ⟨_, _, _, e, _⟩ := h
  exact lst_not e
section
variable {K : PySem.W.Frag} {S : List Addr} {σ : L2.St} {H : Hp} {j : Addr} {n c : Nat}
/-- te makes some datum, by at most c draws -/
def Made (K : PySem.W.Frag) (S : List Addr) (j : Addr) (n c : Nat) (te : TE) (σ : L2.St) (H : Hp) : Prop := ∀ Q : VK, (∀ v d H', Dk K (hidS S H') v d → But j H H' → JarAt H' j (n + c) → Q v H') → te σ H Q
theorem made_tu {te : TE} {xs : List V} {ds : List PyData} (h : Tu K S te σ H xs) (hd : DkAll K (hidS S H) xs ds) (hj : JarAt H j n) : Made K S j n 0 te σ H := fun Q k => h _ fun a H' s e => k _ _ H' (.tup e (DkAll.mono (Sm.same (hidS_grow s)) hd)) (But.same s) (jar_same hj s)
theorem made_one {te : TE} (hjS : j ∈ S) (st : Stands S H) (h : Made K S j n c te σ H) : Made K S j n c (tTup (tCons te tNil)) σ H := fun Q k => h _ fun v d H1 dk b1 j1 => ⟨by show 1 ≤ sizeLine; decide, fun p hp => by
  have sp := same_upd (o := .tup [v]) hp
  exact k _ _ _ (.tup (tu_new (st.but b1 j1) hp) (.cons (dk.mono (Sm.same (hidS_grow sp))) .nil)) (b1.trans (But.same sp)) (jar_same j1 sp)⟩
theorem made_two {te tu : TE} {c' : Nat} (hjS : j ∈ S) (st : Stands S H) (h : Made K S j n c te σ H) (h' : ∀ H', But j H H' → JarAt H' j (n + c) → Made K S j (n + c) c' tu σ H') : Made K S j n (c + c') (tTup (tCons te (tCons tu tNil))) σ H := fun Q k => h _ fun v d H1 dk b1 j1 => h' H1 b1 j1 _ fun v' d' H2 dk' b2 j2 => ⟨by show 2 ≤ sizeLine; decide, fun p hp => by
  have sp := same_upd (o := .tup [v, v']) hp
  exact k _ _ _ (.tup (tu_new (st.but (b1.trans b2) j2) hp) (.cons (dk.mono (Sm.same ((hidS_but hjS b2).trans (hidS_grow sp)))) (.cons (dk'.mono (Sm.same (hidS_grow sp))) .nil))) ((b1.trans b2).trans (But.same sp)) (jar_same (by rw [← Nat.add_assoc]; exact j2) sp)⟩
theorem tu_rev {te : TE} {a : Addr} {xs : List V} (st : Stands S H) (h : Vi te σ H (.ref a)) (e : SqT K (hidS S H) a xs) : Tu K S (tRevT K te) σ H xs.reverse := fun Q k => h _ ⟨a, xs, rfl, sqT_hid e, fun p hp => k p _ (same_upd hp) (tu_new st hp)⟩
theorem tu_rep {te : TE} {m : Nat} (hm : m ≤ 1000) (st : Stands S H) (h : ∀ H', Vi te σ H' (.int (m : Int))) : Tu K S (tOp (rRepA K) (tTup (tCons (tC (.int 0)) tNil)) te) σ H ((zerosM m).map V.int) := fun Q k =>
  ⟨by show 1 ≤ sizeLine; decide, fun p hp => h _ _ (by
    have sp := same_upd (o := .tup [V.int 0]) hp
    refine ⟨p, m, [V.int 0], rfl, rfl, SqT.of (.inl upd_same), by simp, by omega, by omega, by simp, fun z => ?_, fun z q hq => ?_⟩
    · have : m = 1 := by omega
      subst this
      exact k p _ sp (tu_new st hp)
    · refine k q _ (sp.trans (same_upd hq)) ?_
      have := tu_new (K := K) (p := q) (xs := (List.replicate (m : Int).toNat [V.int 0]).flatten) (st.same sp) hq
      rw [Int.toNat_natCast, flat_rep] at this
      rw [Int.toNat_natCast, flat_rep]
      exact this)⟩
theorem dk_ints {G : Hp} : ∀ (m : Mon), DkAll K G (m.map V.int) (m.map PyData.int)
  | [] => .nil
  | x :: m => .cons (.int x) (dk_ints m)
theorem dk_rev {G : Hp} : ∀ {xs : List V} {ds : List PyData}, DkAll K G xs ds → DkAll K G xs.reverse ds.reverse
  | _, _, .nil => .nil
  | _, _, .cons a r => by
    rw [List.reverse_cons, List.reverse_cons]
    exact dk_app (dk_rev r) (.cons a .nil)
theorem hidS_add {f : Addr} {o : HO} (hf : H f = none) : Same (hidS S H) (hidS (f :: S) (upd H f o)) := fun b u e => by
  obtain ⟨n, e⟩ := hidS_at e
  have nb : b ≠ f := fun z => by rw [z, hf] at e; cases e
  rw [hidS_in (fun z => (List.mem_cons.mp z).elim nb n), upd_ne nb]
  exact e
theorem made_var {i : Nat} {v : V} {d : PyData} (h : σ[i]? = some (some v)) (hd : Dk K (hidS S H) v d) (hj : JarAt H j n) : Made K S j n 0 (tVar i) σ H := fun Q k => ⟨v, h, k v d H hd (But.same (Same.refl H)) hj⟩
theorem made_num {E : XK} (hjS : j ∈ S) (st : Stands S H) (h0 : σ[0]? = some (some (.ref j))) (hj : JarAt H j n) (hn : n ≤ 900000) : Made K S j n 3 (tCall spNum [] E (tCons (tVar 0) tNil)) σ H := fun Q k =>
  ⟨_, h0, j, n, rfl, hj, hn, fun a x H' ea na _ b jr => k _ (.tuple [.int x.1, .int x.2]) H' (.tup (SqT.of (.inl (by rw [hidS_in (fun z => st a z na)]; exact ea))) (.cons (.int _) (.cons (.int _) .nil))) b jr⟩
theorem tu_pair {i k : Int} (st : Stands S H) : Tu K S (tTup (tCons (tC (.int i)) (tCons (tC (.int k)) tNil))) σ H [.int i, .int k] := fun Q q => ⟨by show 2 ≤ sizeLine; decide, fun p hp => q p _ (same_upd hp) (tu_new st hp)⟩
theorem ti_term {t : Mon × Fr} (h : t.1.length ≤ 1000) : TI 2 (termD t) := by
  refine .tup (by simp) fun d hd => ?_
  simp only [List.mem_cons, List.not_mem_nil, or_false] at hd
  rcases hd with rfl | rfl
  · refine .tup (by rw [List.length_map]; exact h) fun d hd => ?_
    obtain ⟨i, _, rfl⟩ := List.mem_map.mp hd
    exact .int i
  · refine .tup (n := 0) (by simp) fun d hd => ?_
    simp only [List.mem_cons, List.not_mem_nil, or_false] at hd
    rcases hd with rfl | rfl <;> exact .int _
theorem ti_poly {p : Poly} (hl : p.length ≤ 1000) (h : ∀ t ∈ p, t.1.length ≤ 1000) : TI 8 (.tuple (p.map termD)) := by
  refine (TI.tup (n := 2) (by rw [List.length_map]; exact hl) fun d hd => ?_).mono (by decide)
  obtain ⟨t, ht, rfl⟩ := List.mem_map.mp hd
  exact ti_term (h t ht)
/-- what stands while things are found -/
structure Hold (K : PySem.W.Frag) (H0 : Hp) (j f a : Addr) (us : List V) (ds : List PyData) (xs : List V) (H : Hp) (m : Nat) : Prop where
  ef : H f = some (.lst xs)
  xd : ∃ es, DkAll K (hidS [f, j] H) xs es
  ea : SqT K (hidS [f, j] H) a us
  ad : DkAll K (hidS [f, j] H) us ds
  jr : JarAt H j m
  bt : But j H0 H
  nf : H0 f = none
  nj : f ≠ j
theorem Hold.st {H0 : Hp} {f a : Addr} {us : List V} {ds : List PyData} {xs : List V} {m : Nat} (h : Hold K H0 j f a us ds xs H m) : Stands [f, j] H := fun x hx z => by
  simp only [List.mem_cons, List.not_mem_nil, or_false] at hx
  rcases hx with rfl | rfl
  · rw [h.ef] at z; cases z
  · obtain ⟨_, _, _, e, _⟩ := h.jr
    rw [e] at z; cases z
theorem Hold.but {H0 H' : Hp} {f a : Addr} {us : List V} {ds : List PyData} {xs : List V} {m m' : Nat} (h : Hold K H0 j f a us ds xs H m) (b : But j H H') (jr : JarAt H' j m') : Hold K H0 j f a us ds xs H' m' := by
  have s : Same (hidS [f, j] H) (hidS [f, j] H') := hidS_but (by simp) b
  obtain ⟨es, e⟩ := h.xd
  exact ⟨b _ _ h.nj h.ef, ⟨es, e.mono (Sm.same s)⟩, SqT.same s h.ea, h.ad.mono (Sm.same s), jr, h.bt.trans b, h.nf, h.nj⟩
theorem Hold.put {H0 : Hp} {f a : Addr} {us : List V} {ds : List PyData} {xs : List V} {m : Nat} {v : V} {d : PyData} (h : Hold K H0 j f a us ds xs H m) (hv : Dk K (hidS [f, j] H) v d) : Hold K H0 j f a us ds (xs ++ [v]) (upd H f (.lst (xs ++ [v]))) m := by
  have s : Same (hidS [f, j] H) (hidS [f, j] (upd H f (.lst (xs ++ [v])))) := hidS_mono fun b o n e => by rw [upd_ne (fun z => n (by rw [z]; simp))]; exact e
  obtain ⟨es, e⟩ := h.xd
  refine ⟨upd_same, ⟨es ++ [d], dk_app (e.mono (Sm.same s)) (.cons (hv.mono (Sm.same s)) .nil)⟩, SqT.same s h.ea, h.ad.mono (Sm.same s), ?_, fun b o nb e => ?_, h.nf, h.nj⟩
  · obtain ⟨x, y, z, e, r⟩ := h.jr
    exact ⟨x, y, z, by rw [upd_ne (Ne.symm h.nj)]; exact e, r⟩
  · rw [upd_ne (fun z => by rw [z, h.nf] at e; cases e)]
    exact h.bt b o nb e
theorem hold_app {H0 : Hp} {f a : Addr} {us : List V} {ds : List PyData} {xs : List V} {m c : Nat} {te : TE} {D : Ends} (h : Hold K H0 j f a us ds xs H m) (h3 : σ[3]? = some (some (.ref f))) (hl : xs.length ≤ 100) (md : Made K [f, j] j m c te σ H)
    (k : ∀ v H2, Hold K H0 j f a us ds (xs ++ [v]) H2 (m + c) → D.nx σ H2) : tDrop (tBM K "list" rAppend (tVar 3) (tCons te tNil)) D σ H :=
  ⟨_, h3, .inl ⟨rfl, _, SqL.of h.ef⟩, md _ fun v d H2 dk b2 j2 => ⟨f, xs, v, rfl, rfl, (h.but b2 j2).ef, Nat.lt_of_le_of_lt hl (by decide), k v _ ((h.but b2 j2).put dk)⟩⟩
theorem i_drop {te : TE} {tz : TS} {D : Ends} (h : tDrop te { D with nx := tz D } σ H) : tSeq (tDrop te) tz D σ H := h
end
/-- a list's things -/
def spThings (K : PySem.W.Frag) : Sp := fun vs H Q _ => ∃ j n many v p, vs = [.ref j, .int (many : Nat), v] ∧ JarAt H j n ∧ n ≤ 700000 ∧ many ≤ 4 ∧ PolV K H v p ∧ p.length ≤ 20 ∧ (∀ t ∈ p, t.1.length = many) ∧
  ∀ f xs ds H', H' f = some (.lst xs) → DkAll K H' xs ds → But j H H' → JarAt H' j (n + 1000) → Q (.ref f) H'
section
variable {P : Program} {w : World} {K : PySem.W.Frag} {mg : Str → Option Value} {base : Heap}
abbrev nTh : List Str := ["jar", "many", "one", "found", "turn", "top"]
end
end QL

set_option Elab.async false
set_option linter.all false
set_option maxRecDepth 100000
set_option maxHeartbeats 4000000
/-! ### what stands while a law's check runs; looks told twice -/
namespace KP
open PySem PySem.Spec PyProof.Rows L2 KX KT KJ KS FR QR QD QP QL
structure Sta (Ps : List Addr) (j : Addr) (H0 H : Hp) (n : Nat) : Prop where
  jr : JarAt H j n
  tb : Tbs Ps H
  bt : Bt j H0 H
section
variable {Ps : List Addr} {j : Addr} {H0 H H' : Hp} {n m : Nat}
theorem Sta.same (h : Sta Ps j H0 H n) (s : Same H H') : Sta Ps j H0 H' n := ⟨jar_same h.jr s, tbs_same h.tb s, h.bt.sm (Sm.same s)⟩
theorem Sta.but (h : Sta Ps j H0 H n) (b : KJ.But j H H') (jr : JarAt H' j m) : Sta Ps j H0 H' m := ⟨jr, tbs_but h.tb h.jr b, h.bt.but b⟩
theorem Sta.grown (h : Sta Ps j H0 H n) (g : Grown Ps H H') : Sta Ps j H0 H' n := ⟨jar_sm h.jr g.sm, g.tbs, h.bt.sm g.sm⟩
theorem Sta.more (h : Sta Ps j H0 H n) (l : n ≤ m) : Sta Ps j H0 H m := ⟨jar_more h.jr l, h.tb, h.bt⟩
theorem Sta.st (h : Sta Ps j H0 H n) : Stands [j] H := fun x hx z => by
  rw [List.mem_singleton.mp hx] at z
  obtain ⟨_, _, _, e, _⟩ := h.jr
  rw [e] at z
  cases z
end
section
variable {K : PySem.W.Frag} {σ : L2.St} {H : Hp} {D : Ends}
theorem i_same2 {ta tb tc : TE} {tz : TS} (h : ta σ H fun v1 H1 => tb σ H1 fun v2 H2 => tSeq (tIfS (tNot (tB (tQuiet (spSame3 K) (tCons (tLst (tCons (tC v1) (tCons (tC v2) tNil))) (tCons (tLst (tCons tc (tCons tc tNil))) tNil))))) (tRet (tC (.bl false))) tNext) tz D σ H2) :
    tSeq (tIfS (tNot (tB (tQuiet (spSame3 K) (tCons (tLst (tCons ta (tCons tb tNil))) (tCons (tLst (tCons tc (tCons tc tNil))) tNil))))) (tRet (tC (.bl false))) tNext) tz D σ H := h
theorem same_tail {v1 v2 v4 : V} {d : PyData} {i : Nat} {tz : TS} (h : σ[i]? = some (some v4)) (sw : Sw 4000000 5 d) (h1 : Dk K H v1 d) (h2 : Dk K H v2 d) (h4 : Dk K H v4 d) (k : ∀ H3, Same H H3 → tz D σ H3) :
    tSeq (tIfS (tNot (tB (tQuiet (spSame3 K) (tCons (tLst (tCons (tC v1) (tCons (tC v2) tNil))) (tCons (tLst (tCons (tVar i) (tCons (tVar i) tNil))) tNil))))) (tRet (tC (.bl false))) tNext) tz D σ H := by
  refine ⟨by show 2 ≤ sizeLine; decide, fun p hp => ⟨_, h, _, h, by show 2 ≤ sizeLine; decide, fun q hq => ?_⟩⟩
  have sp := same_upd (o := .lst [v1, v2]) hp
  have sq := same_upd (o := .lst [v4, v4]) hq
  have z := sw_lst (k := 2) (L := 4000000) (n := 5) (ds := [d, d]) (fun x hx => by
    simp only [List.mem_cons, List.not_mem_nil, or_false] at hx
    rcases hx with rfl | rfl <;> exact sw) (by simp)
  refine ⟨.ref p, .ref q, .list [d, d], rfl, ⟨z.ok, Nat.le_trans z.len (by decide), Nat.le_trans z.dep (by decide), .inl ⟨z.nod, .lst (SqL.of (sq _ _ upd_same)) (.cons ((h1.mono (Sm.same (sp.trans sq))).dp sw.nod) (.cons ((h2.mono (Sm.same (sp.trans sq))).dp sw.nod) .nil))⟩⟩,
    ⟨z.ok, Nat.le_trans z.len (by decide), Nat.le_trans z.dep (by decide), .inl ⟨z.nod, .lst (SqL.of upd_same) (.cons ((h4.mono (Sm.same (sp.trans sq))).dp sw.nod) (.cons ((h4.mono (Sm.same (sp.trans sq))).dp sw.nod) .nil))⟩⟩, true, rfl, ?_⟩
  exact k _ (sp.trans sq)
theorem i_same2' {ta tb tc : TE} (h : tSeq (tIfS (tNot (tB (tQuiet (spSame3 K) (tCons (tLst (tCons ta (tCons tb tNil))) (tCons (tLst (tCons tc (tCons tc tNil))) tNil))))) (tRet (tC (.bl false))) tNext) tNext D σ H) :
    tIfS (tNot (tB (tQuiet (spSame3 K) (tCons (tLst (tCons ta (tCons tb tNil))) (tCons (tLst (tCons tc (tCons tc tNil))) tNil))))) (tRet (tC (.bl false))) tNext D σ H := h
end
theorem sw_bool (b : Bool) : Sw 4000000 5 (.bool b) := by
  refine ⟨by simp [PyData.showable], ?_, by simp [PyData.depth], by simp [PyData.hasDict]⟩
  cases b <;> (simp only [PyData.shown]; decide +kernel)
theorem num_lt {i : Int} (h : i.natAbs ≤ 1000000) : i.natAbs < 2 ^ 1920 := Nat.lt_of_le_of_lt h (Nat.lt_of_lt_of_le (show 1000000 < 2 ^ 20 by decide) (Nat.pow_le_pow_right (by decide) (by decide)))
theorem sw_small {p : Poly} (hl : p.length ≤ 1) (hm : ∀ t ∈ p, t.1.length ≤ 4 ∧ (∀ i ∈ t.1, i.natAbs ≤ 1000) ∧ t.2.1.natAbs ≤ 1000 ∧ t.2.2.natAbs ≤ 1000) : Sw 4000000 5 (polyD p) := by
  have z := sw_tup (k := 1) (L := 15397) (n := 3) (ds := p.map termD) (fun d hd => by
    obtain ⟨t, ht, rfl⟩ := List.mem_map.mp hd
    obtain ⟨h1, h2, h3, h4⟩ := hm t ht
    refine (sw_tup (k := 2) (L := 7695) (n := 2) (fun d hd => ?_) (by simp)).le (by decide) (by decide)
    simp only [List.mem_cons, List.not_mem_nil, or_false] at hd
    rcases hd with rfl | rfl
    · refine (sw_tup (k := 4) (L := 1921) (n := 1) (fun d hd => ?_) (by rw [List.length_map]; exact h1)).le (by decide) (by decide)
      obtain ⟨i, hi, rfl⟩ := List.mem_map.mp hd
      exact sw_int (num_lt (Nat.le_trans (h2 i hi) (by decide)))
    · refine (sw_tup (k := 2) (L := 1921) (n := 1) (fun d hd => ?_) (by simp)).le (by decide) (by decide)
      simp only [List.mem_cons, List.not_mem_nil, or_false] at hd
      rcases hd with rfl | rfl
      · exact sw_int (num_lt (Nat.le_trans h3 (by decide)))
      · exact sw_int (num_lt (Nat.le_trans h4 (by decide)))) (by rw [List.length_map]; exact hl)
  exact z.le (by decide) (by decide)
theorem ints_map : ∀ m : Mon, QD.intsD (m.map PyData.int) = m
  | [] => rfl
  | i :: m => by rw [List.map_cons, QD.intsD, ints_map m]
theorem monD_term (t : Mon × Fr) : QD.monD (termD t) = t.1 := ints_map t.1
theorem isR_num {x : Fr} (h : NumOk x) : isR (fD x) = true := by
  have e : isR (fD x) = (decide (0 < x.2) && decide (Nat.gcd x.1.natAbs x.2.natAbs = 1)) := rfl
  rw [e, decide_eq_true h.pos, decide_eq_true h.g]
  rfl
end KP

set_option Elab.async false
set_option linter.all false
set_option maxRecDepth 100000
set_option maxHeartbeats 4000000
/-! ### fractions added up by their powers -/
namespace QP
open PySem PySem.Spec PyProof.Rows L2 KX KP QR QD FR
def addD (D : Poly) (m : Mon) (x : Fr) : Poly := putD D m (addF ((atD D m).getD (0, 1)) x)
def colD (D : Poly) (L : Poly) : Poly := L.foldl (fun D t => addD D t.1 t.2) D
def addM (a b : Mon) : Mon := List.zipWith (· + ·) a b
def prodL (p q : Poly) : Poly := p.flatMap fun t => q.map fun u => (addM t.1 u.1, mulF t.2 u.2)
def degP (p : Poly) : Int := match p with
  | [] => 0
  | t :: _ => t.1.sum
theorem colD_app (D L L' : Poly) : colD D (L ++ L') = colD (colD D L) L' := List.foldl_append
theorem colD_snoc (D L : Poly) (t : Mon × Fr) : colD D (L ++ [t]) = addD (colD D L) t.1 t.2 := by rw [colD_app]; rfl
theorem addD_nodup {D : Poly} (h : (D.map (·.1)).Nodup) (m : Mon) (x : Fr) : ((addD D m x).map (·.1)).Nodup := putD_nodup h m _
theorem colD_nodup {L : Poly} : ∀ {D : Poly}, (D.map (·.1)).Nodup → ((colD D L).map (·.1)).Nodup := by
  induction L with
  | nil => exact fun h => h
  | cons t L ih => exact fun h => ih (addD_nodup h t.1 t.2)
theorem addD_len (D : Poly) (m : Mon) (x : Fr) : (addD D m x).length ≤ D.length + 1 := putD_len D m _
theorem colD_len {L : Poly} : ∀ {D : Poly}, (colD D L).length ≤ D.length + L.length := by
  induction L with
  | nil => exact fun {D} => Nat.le_refl _
  | cons t L ih =>
    exact fun {D} => by
      have h1 := ih (D := addD D t.1 t.2)
      have h2 := addD_len D t.1 t.2
      show (colD (addD D t.1 t.2) L).length ≤ _
      rw [List.length_cons]
      omega
theorem atD_of {D : Poly} {m : Mon} {x : Fr} (h : atD D m = some x) : (m, x) ∈ D := by
  unfold atD at h
  cases q : D.find? fun t => decide (t.1 = m) with
  | none => rw [q] at h; cases h
  | some t =>
    rw [q] at h
    have e := List.find?_some q
    have mm := List.mem_of_find?_eq_some q
    simp only [decide_eq_true_eq] at e
    have : t.2 = x := by simpa using h
    rw [← e, ← this]
    exact mm
theorem putD_mem {D : Poly} {m : Mon} {x : Fr} {t : Mon × Fr} (h : t ∈ putD D m x) : t ∈ D ∨ t = (m, x) := by
  unfold putD at h
  split at h
  · obtain ⟨u, hu, rfl⟩ := List.mem_map.mp h
    split
    · rename_i e
      exact .inr (by rw [e])
    · exact .inl hu
  · rcases List.mem_append.mp h with h | h
    · exact .inl h
    · exact .inr (List.mem_singleton.mp h)
/-- what holds of all is kept -/
theorem addD_all {A B : Mon → Fr → Prop} {D : Poly} {m : Mon} {x : Fr} (h : ∀ t ∈ D, A t.1 t.2) (hB : ∀ m x, A m x → B m x) (h0 : A m (0, 1)) (ha : ∀ y, A m y → B m (addF y x)) : ∀ t ∈ addD D m x, B t.1 t.2 := fun t ht => by
  rcases putD_mem ht with ht | rfl
  · exact hB _ _ (h t ht)
  · refine ha _ ?_
    cases q : atD D m with
    | none => exact h0
    | some y => exact h _ (atD_of q)
theorem colD_keys {A : Mon → Prop} {L : Poly} : ∀ {D : Poly}, (∀ t ∈ D, A t.1) → (∀ t ∈ L, A t.1) → ∀ t ∈ colD D L, A t.1 := by
  induction L with
  | nil => exact fun h _ => h
  | cons u L ih =>
    exact fun {D} h hL => ih (D := addD D u.1 u.2) (fun t ht => by
      rcases putD_mem ht with ht | rfl
      · exact h t ht
      · exact hL u List.mem_cons_self) fun t ht => hL t (List.mem_cons_of_mem _ ht)
theorem bd0 {M : Nat} (a : Nat) : Bd M a (0, 1) := ⟨by decide, ⟨M, by simp⟩, by simp⟩
theorem colD_bd {M N : Nat} {L : Poly} : ∀ {D : Poly} {a : Nat}, (∀ t ∈ D, Bd M a t.2) → (∀ t ∈ L, Bd M N t.2) → ∀ t ∈ colD D L, Bd M (a + L.length * N) t.2 := by
  induction L with
  | nil =>
    exact fun {D a} h _ t ht => (h t ht).mono (Nat.dvd_refl _) (Nat.le_add_right _ _)
  | cons u L ih =>
    exact fun {D a} h hL t ht => by
      have := ih (D := addD D u.1 u.2) (a := a + N) (addD_all (A := fun _ x => Bd M a x) (B := fun _ x => Bd M (a + N) x) h (fun _ _ b => b.mono (Nat.dvd_refl _) (Nat.le_add_right _ _)) (bd0 a) (fun y b => b.add (hL u List.mem_cons_self)))
        (fun t ht => hL t (List.mem_cons_of_mem _ ht)) t ht
      rw [List.length_cons, Nat.succ_mul, show a + (L.length * N + N) = a + N + L.length * N by omega]
      exact this
/-- M, N: small enough for all that is worked out -/
structure Small (M N : Nat) (k : Nat) : Prop where
  pos : 0 < M
  le : M * (N * k + 1) < 2 ^ 1900
theorem Small.sz {M N k i : Nat} {x : Fr} (h : Small M N k) (hi : i ≤ k) (b : Bd M (i * N) x) : Sz 4000 x := by
  have h1 : M < 2 ^ 1900 := Nat.lt_of_le_of_lt (Nat.le_mul_of_pos_right M (by omega)) h.le
  have h2 : i * N < 2 ^ 1900 := by
    refine Nat.lt_of_le_of_lt ?_ h.le
    have : i * N ≤ N * k := by rw [Nat.mul_comm]; exact Nat.mul_le_mul_left _ hi
    exact Nat.le_trans (Nat.le_trans this (Nat.le_succ _)) (Nat.le_mul_of_pos_left _ h.pos)
  exact (b.sz h.pos h1 h2).mono (by decide)
section
variable {K : PySem.W.Frag} {H : Hp}
theorem dic_get {d b : Addr} {D : Poly} {m : Mon} {dv : V} (h : DicV K H d D) (eb : H b = some (.tup (m.map V.int))) (fd : FrV K H dv (0, 1)) : ∃ o, DGet H d (.ref b) o ∧ FrV K H (o.getD dv) ((atD D m).getD (0, 1)) := by
  obtain ⟨kvs, e, hD⟩ := h
  refine ⟨_, .inr ⟨kvs, keyM m, b, .inl e, rfl, by rw [keyM_v]; exact eb, rfl⟩, ?_⟩
  rcases hD.val m with ⟨e1, e2⟩ | ⟨v, x, e1, e2, fv⟩
  · rw [e1, e2]
    exact fd
  · rw [e1, e2]
    exact fv
theorem dic_put {d b : Addr} {D : Poly} {m : Mon} {v : V} {x : Fr} (h : DicV K H d D) (eb : H b = some (.tup (m.map V.int))) (fv : FrV K H v x) (hl : D.length ≤ 5000) :
    ∃ kvs, DPut H d (.ref b) v (upd H d (.dT kvs)) ∧ Tt H (upd H d (.dT kvs)) ∧ DicV K (upd H d (.dT kvs)) d (putD D m x) := by
  obtain ⟨kvs, e, hD⟩ := h
  have lk := hD.len
  have ttp : Tt H (upd H d (.dT (putK kvs (keyM m) v))) := Tt.put e (fun _ z => by cases z) (fun _ _ z => by cases z)
  exact ⟨_, DPut.t (k := keyM m) e (by rw [keyM_v]; exact eb) (Nat.lt_of_le_of_lt (show kvs.length ≤ 5000 by omega) (by decide)), ttp, ⟨_, upd_same, DicsV.put (hD.tt ttp) (fv.tk ttp.tk)⟩⟩
end
end QP

-- of 12
set_option Elab.async false
set_option linter.all false
set_option maxRecDepth 100000
set_option maxHeartbeats 4000000
/-! ### need_polynomial, degree_of, told_terms, _collected, told_sum -/
namespace QP
open PySem PySem.Spec PyProof.Rows L2 KX KP QR QD FR
abbrev sNeedPoly : Stmt := top 26
abbrev sToldSum : Stmt := top 30
abbrev sColl : Stmt := top 31
abbrev sDegOf : Stmt := top 33
abbrev sToldTerms : Stmt := top 34
def spNeedPoly (K : PySem.W.Frag) (Ps : List Addr) : Sp := fun vs H Q _ => ∃ x d n, vs = [.int n, x] ∧ 0 ≤ n ∧ n ≤ 4 ∧ Dk K H x d ∧ isPoly n d = true ∧ Tbs Ps H ∧ ∀ H', Grown Ps H H' → Q .non H'
def spDeg (K : PySem.W.Frag) : Sp := fun vs H Q _ => ∃ x p, vs = [x] ∧ PolV K H x p ∧ Q (.int (degP p)) H
def spTerms (K : PySem.W.Frag) : Sp := fun vs H Q _ => ∃ x p, vs = [x] ∧ PolV K H x p ∧ degP p ≤ 40 ∧ p.length ≤ 600 ∧ Q x H
def spColl (K : PySem.W.Frag) : Sp := fun vs H Q _ => ∃ x p M N, vs = [x] ∧ PolV K H x p ∧ p.length ≤ 1300 ∧ Small M N 1300 ∧ (∀ t ∈ p, Bd M N t.2) ∧ ∀ d H', H d = none → Same H H' → DicV K H' d (colD [] p) → Q (.ref d) H'
def spToldSum (K : PySem.W.Frag) : Sp := fun vs H Q _ => ∃ x p M N, vs = [x] ∧ PolV K H x p ∧ p.length ≤ 900 ∧ Small M N 1300 ∧ (∀ t ∈ p, Bd M N t.2) ∧ degP (inOrd (colD [] p)) ≤ 40 ∧ (inOrd (colD [] p)).length ≤ 600 ∧ ∀ v H', Same H H' → PolV K H' v (inOrd (colD [] p)) → Q v H'
section
variable {P : Program} {w : World} {K : PySem.W.Frag} {mg : Str → Option Value} {base : Heap}
theorem scNp : FnScope ["many", "one"] ["many", "one"] (defScope sNeedPoly) := ⟨rfl, rfl, rfl, by decide +kernel, rfl, by decide +kernel, by decide +kernel⟩
theorem ok_needpoly {f fI : Addr} {fd fdI : FuncData} {Ps : List Addr} (F : Fun K "need_polynomial" "need_polynomial" sNeedPoly f fd) (FI : FnOk P w K mg base CX0 6 fI fdI ["many", "value"] (spPoly K Ps)) (mI : mg "is_polynomial" = some (.ref fI)) (kI : PySem.W.keepIn K (.ref fI) = true) (bI : Binds K fdI ["many", "value"] []) :
    FnOk P w K mg base CX0 7 f fd ["many", "one"] (spNeedPoly K Ps) := by
  refine F.ok scNp (fun vs H Q E h => ?_) (fun cdv A outer s H vs Q E hr h => ?_)
  · obtain ⟨_, _, _, rfl, _⟩ := h
    rfl
  · obtain ⟨x, d, n, rfl, n0, n4, dk, is, tb, k⟩ := h
    refine ⟨_, pss_one (ps_if (pt_not (pt_val (pe_call FI hr (by rfl) mI kI bI .nil pass0 (pa_cons (pv 0) (pa_cons (pv 1) pa_nil))))) (pss_one ps_never) pss_nil), ?_⟩
    refine ⟨_, rfl, _, rfl, x, d, n, rfl, n0, n4, dk, tb, fun H' g => ⟨_, rfl, iteB (fun z => ?_) (fun _ => k H' g)⟩⟩
    rw [is] at z
    cases z
theorem scDg : FnScope ["one"] ["one"] (defScope sDegOf) := ⟨rfl, rfl, rfl, by decide +kernel, rfl, by decide +kernel, by decide +kernel⟩
theorem ok_degof {f : Addr} {fd : FuncData} (F : Fun K "degree_of" "degree_of" sDegOf f fd) (mS : mg "sum" = none) : FnOk P w K mg base CX0 1 f fd ["one"] (spDeg K) := by
  refine F.ok scDg (fun vs H Q E h => ?_) (fun cdv A outer s H vs Q E hr h => ?_)
  · obtain ⟨_, _, rfl, _⟩ := h
    rfl
  · obtain ⟨x, p, rfl, ⟨a, vs, rfl, ea, tv⟩, k⟩ := h
    refine ⟨_, pss_one (ps_ret (pe_ifExp (pt_truth (pv 0) (fun _ => rfl)) (pe_callB (cr_sumT rfl) (by rfl) mS (by decide +kernel) (pa_cons (pe_ix ix_tup (pe_ix ix_tup (pv 0) pe_int (fun _ _ => rfl)) pe_int (fun _ _ => rfl)) pa_nil)) pe_int)), ?_⟩
    refine ⟨_, rfl, !vs.isEmpty, .inr (.inl ⟨vs, ea, rfl⟩), iteB (fun c => ?_) (fun c => ?_)⟩
    · cases tv with
      | nil => cases c
      | cons tm _ =>
        obtain ⟨b, vm, vx, rfl, eb, ⟨m, rfl, em⟩, _⟩ := tm
        exact ⟨_, rfl, a, _, 0, _, rfl, rfl, ea, at_nat (i := 0) rfl, b, _, 0, _, rfl, rfl, eb, rfl, m, _, rfl, SqT.of (.inl em), k⟩
    · cases tv with
      | nil => exact k
      | cons _ _ => cases c
theorem scTt : FnScope ["terms"] ["terms"] (defScope sToldTerms) := ⟨rfl, rfl, rfl, by decide +kernel, rfl, by decide +kernel, by decide +kernel⟩
theorem ok_toldterms {f fD : Addr} {fd fdD : FuncData} {u4 u6 : Value} (F : Fun K "told_terms" "told_terms" sToldTerms f fd) (T : TxT mg) (m4 : mg "MOST_DEGREE" = some u4) (r4 : RelV (.int 40) u4) (m6 : mg "MOST_TERMS" = some u6) (r6 : RelV (.int 600) u6)
    (FD : FnOk P w K mg base CX0 1 fD fdD ["one"] (spDeg K)) (mD : mg "degree_of" = some (.ref fD)) (kD : PySem.W.keepIn K (.ref fD) = true) (bD : Binds K fdD ["one"] []) :
    FnOk P w K mg base CX0 2 f fd ["terms"] (spTerms K) := by
  refine F.ok scTt (fun vs H Q E h => ?_) (fun cdv A outer s H vs Q E hr h => ?_)
  · obtain ⟨_, _, rfl, _⟩ := h
    rfl
  · obtain ⟨x, p, rfl, pv', hd, hl, k⟩ := h
    refine ⟨_, pss_cons (ps_if (pt_cmpR op_gt (pe_call FD hr (by rfl) mD kD bD .nil pass0 (pa_cons (pv 0) pa_nil)) (pe_glob (by rfl) m4 r4) (nomark _)) (pss_one ps_never) pss_nil)
      (pss_cons (ps_if (pt_cmpR op_gt (pe_callB call_len_seq (by rfl) T.len PySem.boot_len (pa_cons (pv 0) pa_nil)) (pe_glob (by rfl) m6 r6) (nomark _)) (pss_one ps_never) pss_nil)
      (pss_one (ps_ret (pv 0)))), ?_⟩
    have pv2 := pv'
    obtain ⟨a, vs, rfl, ea, tv⟩ := pv2
    refine QL.i_end ⟨_, rfl, _, p, rfl, pv', _, _, rfl, rfl, _, rfl, iteB (fun z => ?_) (fun _ => ?_)⟩
    · have := of_decide_eq_true z
      omega
    refine QL.i_end ⟨_, rfl, a, vs, rfl, .inr ea, _, _, rfl, rfl, _, rfl, iteB (fun z => ?_) (fun _ => ⟨_, rfl, k⟩)⟩
    have := of_decide_eq_true z
    have := tv.len
    omega
end
end QP

-- of 12
set_option Elab.async false
set_option linter.all false
set_option maxRecDepth 100000
set_option maxHeartbeats 4000000
/-! ### _collected, told_sum, plus -/
namespace QP
open PySem PySem.Spec PyProof.Rows L2 KX KP QR QD FR
abbrev sPlus : Stmt := top 27
theorem isD_dic {K : PySem.W.Frag} {H : Hp} {d : Addr} {D : Poly} (h : DicV K H d D) : IsD H d := by
  obtain ⟨kvs, e, _⟩ := h
  exact .inr ⟨kvs, .inl e⟩
/-- what of p and q is told: both polynomials, small enough -/
def spPlus (K : PySem.W.Frag) (Ps : List Addr) : Sp := fun vs H Q _ => ∃ (n : Nat) (x y : V) (p q : Poly) (M N : Nat), vs = [.int (n : Nat), x, y] ∧ n ≤ 4 ∧ PolV K H x p ∧ PolV K H y q ∧ isPoly n (polyD p) = true ∧ isPoly n (polyD q) = true ∧ p.length + q.length ≤ 900 ∧ Small M N 1300 ∧ (∀ t ∈ p ++ q, Bd M N t.2) ∧
  degP (inOrd (colD [] (p ++ q))) ≤ 40 ∧ (inOrd (colD [] (p ++ q))).length ≤ 600 ∧ Tbs Ps H ∧ ∀ v H', Grown Ps H H' → PolV K H' v (inOrd (colD [] (p ++ q))) → Q v H'
section
variable {P : Program} {w : World} {K : PySem.W.Frag} {mg : Str → Option Value} {base : Heap}
theorem scCo : FnScope ["terms", "kept", "powers", "fraction"] ["terms"] (defScope sColl) := ⟨rfl, rfl, rfl, by decide +kernel, rfl, by decide +kernel, by decide +kernel⟩
theorem ok_coll {f fA : Addr} {fd fdA : FuncData} {aU aN : Addr} (F : Fun K "_collected" "_collected" sColl f fd) (C : Cst K mg aU aN)
    (FA : FnOk P w K mg base CX0 2 fA fdA ["one", "two"] (spBin K addF)) (mA : mg "added" = some (.ref fA)) (kA : PySem.W.keepIn K (.ref fA) = true) (bA : Binds K fdA ["one", "two"] []) :
    FnOk P w K mg base CX0 3 f fd ["terms"] (spColl K) := by
  refine F.ok scCo (fun vs H Q E h => ?_) (fun cdv A outer s H vs Q E hr h => ?_)
  · obtain ⟨_, _, _, _, rfl, _⟩ := h
    rfl
  · obtain ⟨x, p, M, N, rfl, ⟨a, us, rfl, ea, tv⟩, hl, sm, hb, k⟩ := h
    have hu1 : (A.deeper (envOfC "_collected" (defScope sColl) s.heap.objs.size f cdv)).units + 1 < cLine := by have := hr.un; omega
    refine ⟨_, pss_cons (ps_set (i := 1) scCo.nd rfl (Or.inl rfl) pe_dnewT)
      (pss_cons (ps_for PassesOwn.never rfl (pi_tup (pv 0)) (by exact pg_tup rfl (pgs_cons (pg_name (i := 2) scCo.nd rfl (Or.inl rfl)) (pgs_cons (pg_name (i := 3) scCo.nd rfl (Or.inl rfl)) pgs_nil)))
        (pss_one (ps_dput hu1 (pv 1) (pv 2) (pe_call FA hr (by rfl) mA kA bA .nil pass0 (pa_cons (pe_dget2 hu1 (pv 1) (pv 2) (pe_glob (v := .ref aN) (by rfl) C.mN rfl) ⟨rfl, rfl, rfl, rfl⟩) (pa_cons (pv 3) pa_nil))) rfl)))
      (pss_one (ps_ret (pv 1)))), ?_⟩
    refine i_asg fun d hd0 => ?_
    have s0 := same_upd (o := .dT []) hd0
    refine ⟨_, rfl, a, rfl, ⟨us, SqT.same s0 ea⟩, ?_⟩
    refine for_tup (K := K) (a := a) (xs := us) (fun i σ H' => ∃ o2 o3 : Option V, σ = [some (.ref a), some (.ref d), o2, o3] ∧ Same H H' ∧ DicV K H' d (colD [] (p.take i))) ⟨_, _, rfl, s0, ⟨[], upd_same, .nil⟩⟩ (fun i σ H' _ z => by obtain ⟨_, _, _, s, _⟩ := z; exact SqT.same s ea) ?_ ?_
    · rintro i x σ H1 hx ⟨o2, o3, rfl, s1, dv⟩
      obtain ⟨t, ht, tm⟩ := tv.at hx
      have hi : i < p.length := (List.getElem?_eq_some_iff.mp ht).1
      obtain ⟨b, vm, vx, rfl, eb, ⟨m, rfl, em⟩, fx⟩ := tm.tt (Tt.same s1)
      refine ⟨_, _, rfl, eb, rfl, _, _, rfl, _, _, rfl, rfl, ?_⟩
      have mt : t ∈ p := List.mem_of_getElem? ht
      have fN : FrV K H1 (.ref aN) (0, 1) := FrV.cst C.cN
      obtain ⟨o, og, fo⟩ := dic_get dv em fN
      have bdi : ∀ u ∈ colD [] (p.take i), Bd M (i * N) u.2 := fun u hu => by
        have := colD_bd (M := M) (N := N) (D := []) (a := 0) (L := p.take i) (fun _ h => by cases h) (fun t ht => hb t (List.mem_of_mem_take ht)) u hu
        rw [List.length_take, Nat.min_eq_left (by omega), Nat.zero_add] at this
        exact this
      have sz1 : Sz 4000 ((atD (colD [] (p.take i)) t.1).getD (0, 1)) := by
        refine sm.sz (i := i) (by omega) ?_
        cases q : atD (colD [] (p.take i)) t.1 with
        | none => exact bd0 _
        | some y => exact bdi _ (atD_of q)
      have sz2 : Sz 4000 t.2 := sm.sz (i := 1) (by decide) (by rw [Nat.one_mul]; exact hb t mt)
      refine ⟨_, rfl, d, rfl, isD_dic dv, _, rfl, o, og, _, rfl, _, _, _, _, rfl, fo, fx, sz1, sz2, fun r H2 s2 fr => ?_⟩
      obtain ⟨kvs, dp, tt, dv2⟩ := dic_put (by
        obtain ⟨kv, e, hD⟩ := dv
        exact (⟨kv, s2 _ _ e, hD.tt (Tt.same s2)⟩ : DicV K H2 d _)) (s2 _ _ em) fr (by have := colD_len (D := []) (L := p.take i); rw [List.length_take] at this; simp at this; omega)
      refine ⟨_, rfl, _, rfl, d, _, rfl, dp, ?_⟩
      refine ⟨_, _, rfl, same_put (s1.trans s2) hd0, ?_⟩
      rw [List.take_add_one, ht, Option.toList_some, colD_snoc]
      exact dv2
    · rintro σ H1 ⟨o2, o3, rfl, s1, dv⟩
      rw [List.take_of_length_le (by rw [tv.len]; exact Nat.le_refl _)] at dv
      exact ⟨_, rfl, k d H1 hd0 s1 dv⟩
theorem scTs : FnScope ["terms"] ["terms"] (defScope sToldSum) := ⟨rfl, rfl, rfl, by decide +kernel, rfl, by decide +kernel, by decide +kernel⟩
theorem ok_toldsum {f fT fO fC : Addr} {fd fdT fdO fdC : FuncData} (F : Fun K "told_sum" "told_sum" sToldSum f fd)
    (FT : FnOk P w K mg base CX0 2 fT fdT ["terms"] (spTerms K)) (mT : mg "told_terms" = some (.ref fT)) (kT : PySem.W.keepIn K (.ref fT) = true) (bT : Binds K fdT ["terms"] [])
    (FO : FnOk P w K mg base CX0 4 fO fdO ["kept"] (spInOrder K)) (mO : mg "_in_order" = some (.ref fO)) (kO : PySem.W.keepIn K (.ref fO) = true) (bO : Binds K fdO ["kept"] [])
    (FC : FnOk P w K mg base CX0 3 fC fdC ["terms"] (spColl K)) (mC : mg "_collected" = some (.ref fC)) (kC : PySem.W.keepIn K (.ref fC) = true) (bC : Binds K fdC ["terms"] []) :
    FnOk P w K mg base CX0 5 f fd ["terms"] (spToldSum K) := by
  refine F.ok scTs (fun vs H Q E h => ?_) (fun cdv A outer s H vs Q E hr h => ?_)
  · obtain ⟨_, _, _, _, rfl, _⟩ := h
    rfl
  · obtain ⟨x, p, M, N, rfl, pv', hl, sm, hb, hd, hn, k⟩ := h
    have hr2 : Room 2 _ := hr.mono (by decide)
    have hr3 : Room 3 _ := hr.mono (by decide)
    refine ⟨_, pss_one (ps_ret (pe_call FT hr2 (by rfl) mT kT bT .nil pass0 (pa_cons (pe_call FO hr (by rfl) mO kO bO .nil pass0 (pa_cons (pe_call FC hr3 (by rfl) mC kC bC .nil pass0 (pa_cons (pv 0) pa_nil)) pa_nil)) pa_nil))), ?_⟩
    refine ⟨_, rfl, x, p, M, N, rfl, pv', by omega, sm, hb, fun d H1 _ s1 dv => ?_⟩
    have lc := colD_len (D := []) (L := p)
    refine ⟨d, _, rfl, dv, colD_nodup (by simp), by simp at lc; omega, fun v H2 s2 pv2 => ?_⟩
    exact ⟨v, _, rfl, pv2, hd, hn, k v H2 (s1.trans s2) pv2⟩
theorem scPl : FnScope ["many", "one", "two"] ["many", "one", "two"] (defScope sPlus) := ⟨rfl, rfl, rfl, by decide +kernel, rfl, by decide +kernel, by decide +kernel⟩
theorem ok_plus {f fM fP fT : Addr} {fd fdM fdP fdT : FuncData} {Ps : List Addr} (F : Fun K "plus" "plus" sPlus f fd)
    (FM : FnOk P w K mg base CX0 3 fM fdM ["many"] spNeedMany) (mM : mg "need_many" = some (.ref fM)) (kM : PySem.W.keepIn K (.ref fM) = true) (bM : Binds K fdM ["many"] [])
    (FP : FnOk P w K mg base CX0 7 fP fdP ["many", "one"] (spNeedPoly K Ps)) (mP : mg "need_polynomial" = some (.ref fP)) (kP : PySem.W.keepIn K (.ref fP) = true) (bP : Binds K fdP ["many", "one"] [])
    (FT : FnOk P w K mg base CX0 5 fT fdT ["terms"] (spToldSum K)) (mT : mg "told_sum" = some (.ref fT)) (kT : PySem.W.keepIn K (.ref fT) = true) (bT : Binds K fdT ["terms"] []) :
    FnOk P w K mg base CX0 8 f fd ["many", "one", "two"] (spPlus K Ps) := by
  refine F.ok scPl (fun vs H Q E h => ?_) (fun cdv A outer s H vs Q E hr h => ?_)
  · obtain ⟨_, _, _, _, _, _, _, rfl, _⟩ := h
    rfl
  · obtain ⟨n, x, y, p, q, M, N, rfl, hn, px, py, ip, iq, hl, sm, hb, hd, hlen, tb, k⟩ := h
    have hr3 : Room 3 _ := hr.mono (by decide)
    have hr5 : Room 5 _ := hr.mono (by decide)
    refine ⟨_, pss_cons (ps_expr (pe_call FM hr3 (by rfl) mM kM bM .nil pass0 (pa_cons (pv 0) pa_nil)))
      (pss_cons (ps_expr (pe_call FP hr (by rfl) mP kP bP .nil pass0 (pa_cons (pv 0) (pa_cons (pv 1) pa_nil))))
      (pss_cons (ps_expr (pe_call FP hr (by rfl) mP kP bP .nil pass0 (pa_cons (pv 0) (pa_cons (pv 2) pa_nil))))
      (pss_one (ps_ret (pe_call FT hr5 (by rfl) mT kT bT .nil pass0 (pa_cons (pe_op op_catA (pv 1) (pv 2)) pa_nil)))))), ?_⟩
    refine ⟨_, rfl, (n : Int), rfl, by omega, by omega, ?_⟩
    refine ⟨_, rfl, _, rfl, x, _, (n : Int), rfl, by omega, by omega, Dk.ofDp px.dp, ip, tb, fun H1 g1 => ?_⟩
    refine ⟨_, rfl, _, rfl, y, _, (n : Int), rfl, by omega, by omega, Dk.ofDp (py.tt (Tt.sm g1.sm)).dp, iq, g1.tbs, fun H2 g2 => ?_⟩
    have g12 := g1.trans g2
    obtain ⟨a, us, rfl, ea, tp⟩ := px.tt (Tt.sm g12.sm)
    obtain ⟨b, ws, rfl, eb, tq⟩ := py.tt (Tt.sm g12.sm)
    have fin : ∀ c H3, Same H2 H3 → SqT K H3 c (us ++ ws) → spToldSum K [.ref c] H3 Q E0 := fun c H3 s3 ec => ⟨.ref c, p ++ q, M, N, rfl, ⟨c, _, rfl, ec, (tp.tt (Tt.same s3)).append (tq.tt (Tt.same s3))⟩, by rw [List.length_append]; exact hl, sm, hb, hd, hlen, fun v H4 s4 pv4 => k v H4 (g12.trans (Grown.same (s3.trans s4) g12.tbs)) pv4⟩
    refine ⟨_, rfl, _, rfl, a, b, us, ws, rfl, rfl, ea, eb, ?_, fun z => ?_, fun _ z => ?_, fun _ _ c hc => fin c _ (same_upd hc) (SqT.of (.inl upd_same))⟩
    · rw [tp.len, tq.len]
      exact Nat.le_trans hl (by decide)
    · subst z
      exact fin b H2 (Same.refl _) eb
    · subst z
      exact fin a H2 (Same.refl _) (by rw [List.append_nil]; exact ea)
end
end QP

-- of 12
set_option Elab.async false
set_option linter.all false
set_option maxRecDepth 100000
set_option maxHeartbeats 4000000
/-! ### minus, times -/
namespace QP
open PySem PySem.Spec PyProof.Rows L2 KX KP QR QD FR
abbrev sMinus : Stmt := top 28
abbrev sTimes : Stmt := top 29
def negP (q : Poly) : Poly := q.map fun t => (t.1, negF t.2)
def spMinus (K : PySem.W.Frag) (Ps : List Addr) : Sp := fun vs H Q _ => ∃ (n : Nat) (x y : V) (p q : Poly) (M N : Nat), vs = [.int (n : Nat), x, y] ∧ n ≤ 4 ∧ PolV K H x p ∧ PolV K H y q ∧ isPoly n (polyD p) = true ∧ isPoly n (polyD q) = true ∧ p.length + q.length ≤ 900 ∧ Small M N 1300 ∧ (∀ t ∈ p ++ q, Bd M N t.2) ∧
  degP (inOrd (colD [] (p ++ negP q))) ≤ 40 ∧ (inOrd (colD [] (p ++ negP q))).length ≤ 600 ∧ Tbs Ps H ∧ ∀ v H', Grown Ps H H' → PolV K H' v (inOrd (colD [] (p ++ negP q))) → Q v H'
def spTimes (K : PySem.W.Frag) (Ps : List Addr) : Sp := fun vs H Q _ => ∃ (n : Nat) (x y : V) (p q : Poly) (M N M' N' : Nat), vs = [.int (n : Nat), x, y] ∧ n ≤ 4 ∧ PolV K H x p ∧ PolV K H y q ∧ isPoly n (polyD p) = true ∧ isPoly n (polyD q) = true ∧ (∀ t ∈ p, t.1.length = n) ∧ (∀ t ∈ q, t.1.length = n) ∧ p.length * q.length ≤ 900 ∧
  Small M N 1 ∧ Small M' N' 1 ∧ Small (M * M') (N * N') 1300 ∧ (∀ t ∈ p, Bd M N t.2) ∧ (∀ t ∈ q, Bd M' N' t.2) ∧ degP p + degP q ≤ 40 ∧
  degP (inOrd (colD [] (prodL p q))) ≤ 40 ∧ (inOrd (colD [] (prodL p q))).length ≤ 600 ∧ Tbs Ps H ∧ ∀ v H', Grown Ps H H' → PolV K H' v (inOrd (colD [] (prodL p q))) → Q v H'
theorem addM_len {a b : Mon} (h : a.length = b.length) : (addM a b).length = a.length := by
  unfold addM
  rw [List.length_zipWith]
  omega
theorem addM_take {a b : Mon} {i : Nat} {x y : Int} (hx : a[i]? = some x) (hy : b[i]? = some y) : addM (a.take (i + 1)) (b.take (i + 1)) = addM (a.take i) (b.take i) ++ [x + y] := by
  unfold addM
  rw [← List.take_zipWith, ← List.take_zipWith, List.take_add_one, List.getElem?_zipWith, hx, hy]
  rfl
theorem lc_add {K : PySem.W.Frag} {σ : L2.St} {H1 : Hp} {D a b : Addr} {m1 m2 : Mon} {i j : Nat} {vs : List Nat} {Qd : Hp → Prop} (ea : SqT K H1 a (m1.map V.int)) (eb : SqT K H1 b (m2.map V.int)) (hl : m1.length = m2.length) (h5 : m1.length ≤ 1000) (hD : H1 D = none)
    (hw : ∀ x y : V, wipe (((wipe σ vs).set i (some x)).set j (some y)) vs = wipe σ vs) (gi : ∀ x y : V, (((wipe σ vs).set i (some x)).set j (some y))[i]? = some (some x)) (gj : ∀ x y : V, (((wipe σ vs).set i (some x)).set j (some y))[j]? = some (some y))
    (hd : ∀ H2, Same H1 H2 → H2 D = some (.lst ((addM m1 m2).map V.int)) → Qd H2) :
    ∃ W : Nat → Nat → Hp → Prop, (∃ m, W 0 m (upd H1 D (.lst []))) ∧ ∀ n m H, W n m H →
      ((RZ.ItzT K a b).stop n H ∧ Qd H) ∨ ((RZ.ItzT K a b).go n H ∧ ∃ Nx : Hp → Prop, (∀ H', Nx H' → ∃ m', m' < m ∧ W (n + 1) m' H') ∧ ∀ x H', (RZ.ItzT K a b).yld n H x H' → gTup K 2 (gCons (gName i) (gCons (gName j) gNil)) x (wipe σ vs) H' fun σ2 H2 => wipe σ2 vs = wipe σ vs ∧ tYes σ2 H2 fun b H3 =>
        if b = true then tOp (rI0 fun i j => V.int (i + j)) (tVar i) (tVar j) σ2 H3 fun y H4 => ∃ acc, H4 D = some (.lst acc) ∧ acc.length < sizeLine ∧ Nx (upd H4 D (.lst (acc ++ [y]))) else Nx H3) := by
  refine lc_it (walk_zipT (K := K) (a := a) (b := b) (xs := m1.map V.int) (ys := m2.map V.int) (n := m1.length) (by rw [List.length_map, List.length_map]; omega)) (fun n H' => Same H1 H' ∧ H' D = some (.lst ((addM (m1.take n) (m2.take n)).map V.int))) ⟨same_upd hD, upd_same⟩ (fun n H' _ z => ⟨SqT.same z.1 ea, SqT.same z.1 eb⟩) ?_ ?_
  · rintro n x H H' hn ⟨s1, eD⟩ ⟨U, x1, y1, rfl, hU, rfl, hx1, hy1⟩
    have n2 : n < m2.length := by omega
    have ex : m1[n]? = some m1[n] := List.getElem?_eq_getElem hn
    have ey : m2[n]? = some m2[n] := List.getElem?_eq_getElem n2
    simp only [List.getElem?_map, ex, Option.map_some, Option.some.injEq] at hx1
    simp only [List.getElem?_map, ey, Option.map_some, Option.some.injEq] at hy1
    subst hx1 hy1
    have sU := same_upd (o := .tup [V.int m1[n], .int m2[n]]) hU
    refine ⟨_, _, rfl, SqT.of (.inl upd_same), rfl, _, _, rfl, _, _, rfl, rfl, hw _ _, ?_⟩
    dsimp only [tYes]
    rw [if_pos rfl]
    refine ⟨_, gi _ _, _, gj _ _, _, _, rfl, rfl, _, sU _ _ eD, ?_, same_put (s1.trans sU) hD, ?_⟩
    · rw [List.length_map, addM_len (by rw [List.length_take, List.length_take]; omega), List.length_take]
      exact Nat.lt_of_le_of_lt (show min n m1.length ≤ 1000 by omega) (by decide)
    · rw [upd_same, addM_take ex ey, List.map_append]
      rfl
  · rintro H ⟨s1, eD⟩
    rw [List.take_of_length_le (Nat.le_refl _), List.take_of_length_le (by omega)] at eD
    exact hd H s1 eD
section
variable {P : Program} {w : World} {K : PySem.W.Frag} {mg : Str → Option Value} {base : Heap}
abbrev nMi : List Str := ["many", "one", "two", "turned", "powers", "fraction"]
theorem scMi : FnScope nMi ["many", "one", "two"] (defScope sMinus) := ⟨rfl, rfl, rfl, by decide +kernel, rfl, by decide +kernel, by decide +kernel⟩
theorem ok_minus {f fM fP fN fT : Addr} {fd fdM fdP fdN fdT : FuncData} {Ps : List Addr} (F : Fun K "minus" "minus" sMinus f fd) (T : TxD mg)
    (FM : FnOk P w K mg base CX0 3 fM fdM ["many"] spNeedMany) (mM : mg "need_many" = some (.ref fM)) (kM : PySem.W.keepIn K (.ref fM) = true) (bM : Binds K fdM ["many"] [])
    (FP : FnOk P w K mg base CX0 7 fP fdP ["many", "one"] (spNeedPoly K Ps)) (mP : mg "need_polynomial" = some (.ref fP)) (kP : PySem.W.keepIn K (.ref fP) = true) (bP : Binds K fdP ["many", "one"] [])
    (FN : FnOk P w K mg base CX0 1 fN fdN ["one"] (spNegF K)) (mN : mg "negative" = some (.ref fN)) (kN : PySem.W.keepIn K (.ref fN) = true) (bN : Binds K fdN ["one"] [])
    (FT : FnOk P w K mg base CX0 5 fT fdT ["terms"] (spToldSum K)) (mT : mg "told_sum" = some (.ref fT)) (kT : PySem.W.keepIn K (.ref fT) = true) (bT : Binds K fdT ["terms"] []) :
    FnOk P w K mg base CX0 8 f fd ["many", "one", "two"] (spMinus K Ps) := by
  refine F.ok scMi (fun vs H Q E h => ?_) (fun cdv A outer s H vs Q E hr h => ?_)
  · obtain ⟨_, _, _, _, _, _, _, rfl, _⟩ := h
    rfl
  · obtain ⟨n, x, y, p, q, M, N, rfl, hn, px, py, ip, iq, hl, sm, hb, hd, hlen, tb, k⟩ := h
    have hr1 : Room 1 _ := hr.mono (by decide)
    have hr3 : Room 3 _ := hr.mono (by decide)
    have hr5 : Room 5 _ := hr.mono (by decide)
    refine ⟨_, pss_cons (ps_expr (pe_call FM hr3 (by rfl) mM kM bM .nil pass0 (pa_cons (pv 0) pa_nil)))
      (pss_cons (ps_expr (pe_call FP hr (by rfl) mP kP bP .nil pass0 (pa_cons (pv 0) (pa_cons (pv 1) pa_nil))))
      (pss_cons (ps_expr (pe_call FP hr (by rfl) mP kP bP .nil pass0 (pa_cons (pv 0) (pa_cons (pv 2) pa_nil))))
      (pss_cons (ps_set (i := 3) scMi.nd rfl (Or.inl rfl) (pe_tupleOf (by rfl) T.tuple (pe_lc (own := [("powers", 4), ("fraction", 5)]) (g := gTup K 2 (gCons (gName 4) (gCons (gName 5) gNil))) (tt := tYes) rfl scMi.nd (pi_tup (pv 2))
        (blkOk_by (N := nMi) (sc := defScope sMinus) (by decide +kernel)) (fun _ _ _ _ _ => by exact pg_tup rfl (pgs_cons (pg_name (i := 4) scMi.nd rfl (Or.inl rfl)) (pgs_cons (pg_name (i := 5) scMi.nd rfl (Or.inl rfl)) pgs_nil))) (fun _ _ _ _ _ => pts_nil)
        (fun _ _ _ _ _ => pe_tup (pa_cons (pv 4) (pa_cons (pe_call FN hr1 (by rfl) mN kN bN .nil pass0 (pa_cons (pv 5) pa_nil)) pa_nil))))))
      (pss_one (ps_ret (pe_call FT hr5 (by rfl) mT kT bT .nil pass0 (pa_cons (pe_op op_catA (pv 1) (pv 3)) pa_nil))))))), ?_⟩
    refine ⟨_, rfl, (n : Int), rfl, by omega, by omega, ?_⟩
    refine ⟨_, rfl, _, rfl, x, _, (n : Int), rfl, by omega, by omega, Dk.ofDp px.dp, ip, tb, fun H1 g1 => ?_⟩
    refine ⟨_, rfl, _, rfl, y, _, (n : Int), rfl, by omega, by omega, Dk.ofDp (py.tt (Tt.sm g1.sm)).dp, iq, g1.tbs, fun H2 g2 => ?_⟩
    have g12 := g1.trans g2
    have px2 := px.tt (Tt.sm g12.sm)
    obtain ⟨b, ws, rfl, eb, tq⟩ := py.tt (Tt.sm g12.sm)
    have lq : q.length ≤ 900 := by omega
    dsimp only
    refine i_asg ?_
    refine ⟨_, rfl, b, rfl, ⟨ws, eb⟩, fun D hD => ?_⟩
    refine lc_it (walk_tup (K := K) (a := b) (xs := ws)) (fun i H' => Same H2 H' ∧ ∃ zs, H' D = some (.lst zs) ∧ TermsV K H' zs (negP (q.take i))) ⟨same_upd hD, [], upd_same, .nil⟩ (fun i H' _ z => SqT.same z.1 eb) ?_ ?_
    · rintro i x _ H' hi ⟨s3, zs, ez, tz⟩ ⟨rfl, hx⟩
      obtain ⟨t, ht, tm⟩ := tq.at hx
      obtain ⟨c, vm, vx, rfl, ec, ⟨m, rfl, em⟩, fx⟩ := tm.tt (Tt.same s3)
      refine ⟨_, _, rfl, ec, rfl, _, _, rfl, _, _, rfl, rfl, rfl, ?_⟩
      dsimp only [tYes]
      rw [if_pos rfl]
      refine ⟨_, rfl, _, rfl, vx, t.2, rfl, fx, fun r H4 s4 fr => ⟨by show 2 ≤ sizeLine; decide, fun u hu => ?_⟩⟩
      have su := same_upd (o := .tup [V.ref m, r]) hu
      have s34 := s4.trans su
      have lz : zs.length ≤ 900 := by rw [tz.len]; unfold negP; rw [List.length_map, List.length_take]; omega
      refine ⟨zs, s34 _ _ ez, Nat.lt_of_le_of_lt lz (by decide), same_put (s3.trans s34) hD, zs ++ [.ref u], upd_same, ?_⟩
      have ttp : Tt (upd H4 u (.tup [V.ref m, r])) (upd (upd H4 u (.tup [V.ref m, r])) D (.lst (zs ++ [.ref u]))) := Tt.put (s34 _ _ ez) (fun _ z => by cases z) (fun _ _ z => by cases z)
      rw [List.take_add_one, ht, Option.toList_some]
      unfold negP
      rw [List.map_append]
      exact TermsV.tt ttp ((TermsV.tt (Tt.same s34) tz).snoc ⟨u, _, _, rfl, SqT.of (.inl upd_same), ⟨m, rfl, s34 _ _ em⟩, fr.tk (Tk.same su)⟩)
    rintro H3 ⟨s3, zs, ez, tz⟩
    rw [List.take_of_length_le (by rw [tq.len]; exact Nat.le_refl _)] at tz
    refine .inl ⟨D, zs, rfl, SqL.of ez, fun c hc => ?_⟩
    have sc := same_upd (o := .tup zs) hc
    have ec4 : (upd H3 c (.tup zs)) c = some (.tup zs) := upd_same
    have s23 := s3.trans sc
    have tz4 := tz.tt (Tt.same sc)
    obtain ⟨a, us, rfl, ea, tp⟩ := px2.tt (Tt.same s23)
    have g13 := g12.trans (Grown.same s23 g12.tbs)
    generalize upd H3 c (.tup zs) = H4 at *
    have hbN : ∀ t ∈ p ++ negP q, Bd M N t.2 := fun t ht => by
      rcases List.mem_append.mp ht with ht | ht
      · exact hb t (List.mem_append.mpr (.inl ht))
      · obtain ⟨u, hu, rfl⟩ := List.mem_map.mp ht
        exact (hb u (List.mem_append.mpr (.inr hu))).neg
    have lnq : (negP q).length = q.length := List.length_map _
    have fin : ∀ e H5, Same H4 H5 → SqT K H5 e (us ++ zs) → spToldSum K [.ref e] H5 Q E0 := fun e H5 s5 ee => ⟨.ref e, p ++ negP q, M, N, rfl, ⟨e, _, rfl, ee, (tp.tt (Tt.same s5)).append (tz4.tt (Tt.same s5))⟩, by rw [List.length_append, lnq]; exact hl, sm, hbN, hd, hlen, fun v H6 s6 pv6 => k v H6 (g13.trans (Grown.same (s5.trans s6) g13.tbs)) pv6⟩
    refine ⟨_, rfl, _, rfl, a, c, us, zs, rfl, rfl, ea, SqT.of (.inl ec4), ?_, fun z => ?_, fun _ z => ?_, fun _ _ e he => fin e _ (same_upd he) (SqT.of (.inl upd_same))⟩
    · rw [tp.len, tz4.len, lnq]
      exact Nat.le_trans hl (by decide)
    · subst z
      exact fin c H4 (Same.refl _) (SqT.of (.inl ec4))
    · subst z
      exact fin a H4 (Same.refl _) (by rw [List.append_nil]; exact ea)
end
end QP

-- of 12
set_option Elab.async false
set_option linter.all false
set_option maxRecDepth 100000
set_option maxHeartbeats 4000000
/-! ### times -/
namespace QP
open PySem PySem.Spec PyProof.Rows L2 KX KP QR QD FR
theorem Small.one {M N : Nat} {x : Fr} (h : Small M N 1) (b : Bd M N x) : Sz 4000 x := h.sz (i := 1) (Nat.le_refl _) (by rw [Nat.one_mul]; exact b)
/-- what is added up so far -/
def prodU (p q : Poly) (t : Mon × Fr) (i j : Nat) : Poly := prodL (p.take i) q ++ (q.take j).map fun u => (addM t.1 u.1, mulF t.2 u.2)
theorem prodL_snoc {p q : Poly} {t : Mon × Fr} {i : Nat} (h : p[i]? = some t) : prodL (p.take (i + 1)) q = prodL (p.take i) q ++ q.map fun u => (addM t.1 u.1, mulF t.2 u.2) := by
  unfold prodL
  rw [List.take_add_one, h, List.flatMap_append]
  simp
theorem prodL_len (p q : Poly) : (prodL p q).length = p.length * q.length := by
  induction p with
  | nil => simp [prodL]
  | cons t p ih =>
    show (List.flatMap _ (t :: p)).length = _
    rw [List.flatMap_cons, List.length_append, List.length_map, List.length_cons, Nat.succ_mul, Nat.add_comm]
    exact congrArg (· + q.length) ih
theorem prodU_len {p q : Poly} {t : Mon × Fr} {i j : Nat} (hi : i < p.length) (hj : j ≤ q.length) : (prodU p q t i j).length ≤ p.length * q.length := by
  unfold prodU
  rw [List.length_append, prodL_len, List.length_map, List.length_take, List.length_take, Nat.min_eq_left (by omega), Nat.min_eq_left hj]
  have := Nat.mul_le_mul_right q.length (show i + 1 ≤ p.length from hi)
  rw [Nat.succ_mul] at this
  omega
theorem prodL_bd {M N M' N' : Nat} {p q : Poly} (hp : ∀ t ∈ p, Bd M N t.2) (hq : ∀ t ∈ q, Bd M' N' t.2) : ∀ t ∈ prodL p q, Bd (M * M') (N * N') t.2 := fun t ht => by
  unfold prodL at ht
  obtain ⟨u, hu, ht⟩ := List.mem_flatMap.mp ht
  obtain ⟨v, hv, rfl⟩ := List.mem_map.mp ht
  exact (hp u hu).mul (hq v hv)
theorem prodU_bd {M N M' N' : Nat} {p q : Poly} {t : Mon × Fr} {i j : Nat} (ht : t ∈ p) (hp : ∀ t ∈ p, Bd M N t.2) (hq : ∀ t ∈ q, Bd M' N' t.2) : ∀ u ∈ prodU p q t i j, Bd (M * M') (N * N') u.2 := fun u hu => by
  rcases List.mem_append.mp hu with hu | hu
  · exact prodL_bd (fun t ht => hp t (List.mem_of_mem_take ht)) hq u hu
  · obtain ⟨v, hv, rfl⟩ := List.mem_map.mp hu
    exact (hp t ht).mul (hq v (List.mem_of_mem_take hv))
theorem prodU_succ {p q : Poly} {t u : Mon × Fr} {i j : Nat} (h : q[j]? = some u) : prodU p q t i (j + 1) = prodU p q t i j ++ [(addM t.1 u.1, mulF t.2 u.2)] := by
  unfold prodU
  rw [List.take_add_one, h, List.map_append, List.append_assoc]
  rfl
section
variable {P : Program} {w : World} {K : PySem.W.Frag} {mg : Str → Option Value} {base : Heap}
abbrev nTi : List Str := ["many", "one", "two", "degree", "kept", "powers", "fraction", "others", "factor", "place", "power", "other"]
theorem scTi : FnScope nTi ["many", "one", "two"] (defScope sTimes) := ⟨rfl, rfl, rfl, by decide +kernel, rfl, by decide +kernel, by decide +kernel⟩
theorem ok_times {f fM fP fD fA fX fT fO : Addr} {fd fdM fdP fdD fdA fdX fdT fdO : FuncData} {Ps : List Addr} {aU aN : Addr} {u4 : Value} (F : Fun K "times" "times" sTimes f fd) (T : TxD mg) (C : Cst K mg aU aN) (m4 : mg "MOST_DEGREE" = some u4) (r4 : RelV (.int 40) u4)
    (FM : FnOk P w K mg base CX0 3 fM fdM ["many"] spNeedMany) (mM : mg "need_many" = some (.ref fM)) (kM : PySem.W.keepIn K (.ref fM) = true) (bM : Binds K fdM ["many"] [])
    (FP : FnOk P w K mg base CX0 7 fP fdP ["many", "one"] (spNeedPoly K Ps)) (mP : mg "need_polynomial" = some (.ref fP)) (kP : PySem.W.keepIn K (.ref fP) = true) (bP : Binds K fdP ["many", "one"] [])
    (FD : FnOk P w K mg base CX0 1 fD fdD ["one"] (spDeg K)) (mD : mg "degree_of" = some (.ref fD)) (kD : PySem.W.keepIn K (.ref fD) = true) (bD : Binds K fdD ["one"] [])
    (FA : FnOk P w K mg base CX0 2 fA fdA ["one", "two"] (spBin K addF)) (mA : mg "added" = some (.ref fA)) (kA : PySem.W.keepIn K (.ref fA) = true) (bA : Binds K fdA ["one", "two"] [])
    (FX : FnOk P w K mg base CX0 2 fX fdX ["one", "two"] (spBin K mulF)) (mX : mg "multiplied" = some (.ref fX)) (kX : PySem.W.keepIn K (.ref fX) = true) (bX : Binds K fdX ["one", "two"] [])
    (FT : FnOk P w K mg base CX0 2 fT fdT ["terms"] (spTerms K)) (mT : mg "told_terms" = some (.ref fT)) (kT : PySem.W.keepIn K (.ref fT) = true) (bT : Binds K fdT ["terms"] [])
    (FO : FnOk P w K mg base CX0 4 fO fdO ["kept"] (spInOrder K)) (mO : mg "_in_order" = some (.ref fO)) (kO : PySem.W.keepIn K (.ref fO) = true) (bO : Binds K fdO ["kept"] []) :
    FnOk P w K mg base CX0 8 f fd ["many", "one", "two"] (spTimes K Ps) := by
  refine F.ok scTi (fun vs H Q E h => ?_) (fun cdv A outer s H vs Q E hr h => ?_)
  · obtain ⟨_, _, _, _, _, _, _, _, _, rfl, _⟩ := h
    rfl
  · obtain ⟨n, x, y, p, q, M, N, M', N', rfl, hn, px, py, ip, iq, lp, lq, hl, sm1, sm2, sm, hbp, hbq, hdd, hd, hlen, tb, k⟩ := h
    have hr1 : Room 1 _ := hr.mono (by decide)
    have hr2 : Room 2 _ := hr.mono (by decide)
    have hr3 : Room 3 _ := hr.mono (by decide)
    have hr4 : Room 4 _ := hr.mono (by decide)
    have hu1 : (A.deeper (envOfC "times" (defScope sTimes) s.heap.objs.size f cdv)).units + 1 < cLine := by have := hr.un; omega
    refine ⟨_, pss_cons (ps_expr (pe_call FM hr3 (by rfl) mM kM bM .nil pass0 (pa_cons (pv 0) pa_nil)))
      (pss_cons (ps_expr (pe_call FP hr (by rfl) mP kP bP .nil pass0 (pa_cons (pv 0) (pa_cons (pv 1) pa_nil))))
      (pss_cons (ps_expr (pe_call FP hr (by rfl) mP kP bP .nil pass0 (pa_cons (pv 0) (pa_cons (pv 2) pa_nil))))
      (pss_cons (ps_set (i := 3) scTi.nd rfl (Or.inl rfl) (pe_op op_add (pe_call FD hr1 (by rfl) mD kD bD .nil pass0 (pa_cons (pv 1) pa_nil)) (pe_call FD hr1 (by rfl) mD kD bD .nil pass0 (pa_cons (pv 2) pa_nil))))
      (pss_cons (ps_if (pt_cmpR op_gt (pv 3) (pe_glob (by rfl) m4 r4) (nomark _)) (pss_one ps_never) pss_nil)
      (pss_cons (ps_set (i := 4) scTi.nd rfl (Or.inl rfl) pe_dnewT)
      (pss_cons (ps_for PassesOwn.never rfl (pi_tup (pv 1)) (by exact pg_tup rfl (pgs_cons (pg_name (i := 5) scTi.nd rfl (Or.inl rfl)) (pgs_cons (pg_name (i := 6) scTi.nd rfl (Or.inl rfl)) pgs_nil)))
        (pss_one (ps_for PassesOwn.never rfl (pi_tup (pv 2)) (by exact pg_tup rfl (pgs_cons (pg_name (i := 7) scTi.nd rfl (Or.inl rfl)) (pgs_cons (pg_name (i := 8) scTi.nd rfl (Or.inl rfl)) pgs_nil)))
          (pss_cons (ps_set (i := 9) scTi.nd rfl (Or.inl rfl) (pe_tupleOf (by rfl) T.tuple (pe_lc (own := [("power", 10), ("other", 11)]) (g := gTup K 2 (gCons (gName 10) (gCons (gName 11) gNil))) (tt := tYes) rfl scTi.nd (RZ.pi_zipA (by rfl) T.zip (pa_cons (pv 5) (pa_cons (pv 7) pa_nil)))
              (blkOk_by (N := nTi) (sc := defScope sTimes) (by decide +kernel)) (fun _ _ _ _ _ => by exact pg_tup rfl (pgs_cons (pg_name (i := 10) scTi.nd rfl (Or.inl rfl)) (pgs_cons (pg_name (i := 11) scTi.nd rfl (Or.inl rfl)) pgs_nil))) (fun _ _ _ _ _ => pts_nil)
              (fun _ _ _ _ _ => pe_op op_add (pv 10) (pv 11)))))
          (pss_one (ps_dput hu1 (pv 4) (pv 9) (pe_call FA hr2 (by rfl) mA kA bA .nil pass0 (pa_cons (pe_dget2 hu1 (pv 4) (pv 9) (pe_glob (v := .ref aN) (by rfl) C.mN rfl) ⟨rfl, rfl, rfl, rfl⟩) (pa_cons (pe_call FX hr2 (by rfl) mX kX bX .nil pass0 (pa_cons (pv 6) (pa_cons (pv 8) pa_nil))) pa_nil))) rfl)))))) 
      (pss_one (ps_ret (pe_call FT hr2 (by rfl) mT kT bT .nil pass0 (pa_cons (pe_call FO hr4 (by rfl) mO kO bO .nil pass0 (pa_cons (pv 4) pa_nil)) pa_nil)))))))))), ?_⟩
    refine ⟨_, rfl, (n : Int), rfl, by omega, by omega, ?_⟩
    refine ⟨_, rfl, _, rfl, x, _, (n : Int), rfl, by omega, by omega, Dk.ofDp px.dp, ip, tb, fun H1 g1 => ?_⟩
    refine ⟨_, rfl, _, rfl, y, _, (n : Int), rfl, by omega, by omega, Dk.ofDp (py.tt (Tt.sm g1.sm)).dp, iq, g1.tbs, fun H2 g2 => ?_⟩
    have g12 := g1.trans g2
    have px2 := px.tt (Tt.sm g12.sm)
    have py2 := py.tt (Tt.sm g12.sm)
    dsimp only
    refine i_asg ⟨_, rfl, x, p, rfl, px2, _, rfl, y, q, rfl, py2, _, _, rfl, rfl, ?_⟩
    refine QL.i_end ⟨_, rfl, _, _, rfl, rfl, _, rfl, iteB (fun z => ?_) (fun _ => ?_)⟩
    · have := of_decide_eq_true z
      omega
    obtain ⟨a, us, rfl, ea, tp⟩ := px2
    obtain ⟨b, ws, rfl, eb, tq⟩ := py2
    refine i_asg fun d hd0 => ?_
    have s0 := same_upd (o := .dT []) hd0
    refine ⟨_, rfl, a, rfl, ⟨us, SqT.same s0 ea⟩, ?_⟩
    refine for_tup (K := K) (a := a) (xs := us) (fun i σ H' => ∃ o5 o6 o7 o8 o9 : Option V, σ = [some (.int (n : Nat)), some (.ref a), some (.ref b), some (.int (degP p + degP q)), some (.ref d), o5, o6, o7, o8, o9, none, none] ∧ Same H2 H' ∧ DicV K H' d (colD [] (prodL (p.take i) q)))
      ⟨_, _, _, _, _, rfl, s0, ⟨[], upd_same, .nil⟩⟩ (fun i σ H' _ z => by obtain ⟨_, _, _, _, _, _, s, _⟩ := z; exact SqT.same s ea) ?_ ?_
    · rintro i xv σ H3 hx ⟨o5, o6, o7, o8, o9, rfl, s3, dv3⟩
      obtain ⟨t, ht, tm⟩ := tp.at hx
      have hi : i < p.length := (List.getElem?_eq_some_iff.mp ht).1
      have mt : t ∈ p := List.mem_of_getElem? ht
      obtain ⟨c, vm, vx, rfl, ec, ⟨m, rfl, em⟩, fx⟩ := tm
      refine ⟨_, _, rfl, SqT.same s3 ec, rfl, _, _, rfl, _, _, rfl, rfl, ?_⟩
      refine ⟨_, rfl, b, rfl, ⟨ws, SqT.same s3 eb⟩, ?_⟩
      refine for_tup (K := K) (a := b) (xs := ws) (fun j σ H' => ∃ o7 o8 o9 : Option V, σ = [some (.int (n : Nat)), some (.ref a), some (.ref b), some (.int (degP p + degP q)), some (.ref d), some (.ref m), some vx, o7, o8, o9, none, none] ∧ Same H2 H' ∧ DicV K H' d (colD [] (prodU p q t i j)))
        ⟨_, _, _, rfl, s3, by rw [show prodU p q t i 0 = prodL (p.take i) q by simp [prodU]]; exact dv3⟩ (fun i σ H' _ z => by obtain ⟨_, _, _, _, s, _⟩ := z; exact SqT.same s eb) ?_ ?_
      · rintro j yv σ H4 hy ⟨o7, o8, o9, rfl, s4, dv4⟩
        obtain ⟨u, hu, um⟩ := tq.at hy
        have hj : j < q.length := (List.getElem?_eq_some_iff.mp hu).1
        have mu : u ∈ q := List.mem_of_getElem? hu
        obtain ⟨c', vm', vy, rfl, ec', ⟨m', rfl, em'⟩, fy⟩ := um
        refine ⟨_, _, rfl, SqT.same s4 ec', rfl, _, _, rfl, _, _, rfl, rfl, ?_⟩
        have lmm : t.1.length = u.1.length := by rw [lp t mt, lq u mu]
        refine i_asg ⟨_, rfl, _, rfl, m, m', _, _, rfl, .inr ⟨SqT.of (.inl (s4 _ _ em)), SqT.of (.inl (s4 _ _ em')), fun D hD => ?_⟩⟩
        refine lc_add (m1 := t.1) (m2 := u.1) (i := 10) (j := 11) (SqT.of (.inl (s4 _ _ em))) (SqT.of (.inl (s4 _ _ em'))) lmm (by rw [lp t mt]; omega) hD (fun x y => rfl) (fun x y => rfl) (fun x y => rfl) fun H5 s5 eD => .inl ⟨D, _, rfl, SqL.of eD, fun k' hk' => ?_⟩
        have s6 := same_upd (o := .tup ((addM t.1 u.1).map V.int)) hk'
        have ek : (upd H5 k' (.tup ((addM t.1 u.1).map V.int))) k' = some (.tup ((addM t.1 u.1).map V.int)) := upd_same
        have s46 := s5.trans s6
        have s26 := s4.trans s46
        generalize upd H5 k' (.tup ((addM t.1 u.1).map V.int)) = H6 at *
        have dv6 : DicV K H6 d (colD [] (prodU p q t i j)) := by
          obtain ⟨kv, e, hD⟩ := dv4
          exact ⟨kv, s46 _ _ e, hD.tt (Tt.same s46)⟩
        have lU : (prodU p q t i j).length ≤ 900 := Nat.le_trans (prodU_len hi (by omega)) hl
        have bdU : ∀ e ∈ colD [] (prodU p q t i j), Bd (M * M') ((prodU p q t i j).length * (N * N')) e.2 := fun e he => by
          have := colD_bd (M := M * M') (N := N * N') (D := []) (a := 0) (L := prodU p q t i j) (fun _ h => by cases h) (prodU_bd mt hbp hbq) e he
          rwa [Nat.zero_add] at this
        have fN : FrV K H6 (.ref aN) (0, 1) := FrV.cst C.cN
        obtain ⟨o, og, fo⟩ := dic_get dv6 ek fN
        have sz1 : Sz 4000 ((atD (colD [] (prodU p q t i j)) (addM t.1 u.1)).getD (0, 1)) := by
          refine sm.sz (i := (prodU p q t i j).length) (by omega) ?_
          cases z : atD (colD [] (prodU p q t i j)) (addM t.1 u.1) with
          | none => exact bd0 _
          | some y => exact bdU _ (atD_of z)
        have sz2 : Sz 4000 (mulF t.2 u.2) := sm.sz (i := 1) (by decide) (by rw [Nat.one_mul]; exact (hbp t mt).mul (hbq u mu))
        refine ⟨_, rfl, d, rfl, isD_dic dv6, _, rfl, o, og, _, rfl, _, rfl, vx, vy, t.2, u.2, rfl, fx.tk (Tk.same s26), fy.tk (Tk.same s26), sm1.one (hbp t mt), sm2.one (hbq u mu), fun r H7 s7 fr => ?_⟩
        refine ⟨_, _, _, _, rfl, fo.tk (Tk.same s7), fr, sz1, sz2, fun r2 H8 s8 fr2 => ?_⟩
        have s68 := s7.trans s8
        obtain ⟨kvs, dp, tt, dv8⟩ := dic_put (by
          obtain ⟨kv, e, hD⟩ := dv6
          exact (⟨kv, s68 _ _ e, hD.tt (Tt.same s68)⟩ : DicV K H8 d _)) (s68 _ _ ek) fr2 (by have := colD_len (D := []) (L := prodU p q t i j); simp at this; omega)
        refine ⟨_, rfl, _, rfl, d, _, rfl, dp, ?_⟩
        refine ⟨_, _, _, rfl, same_put (s26.trans s68) hd0, ?_⟩
        rw [prodU_succ hu, colD_snoc]
        exact dv8
      · rintro σ H4 ⟨o7, o8, o9, rfl, s4, dv4⟩
        refine ⟨_, _, _, _, _, rfl, s4, ?_⟩
        rw [prodL_snoc ht]
        unfold prodU at dv4
        rw [show q.take ws.length = q from List.take_of_length_le (by rw [tq.len]; exact Nat.le_refl _)] at dv4
        exact dv4
    · rintro σ H3 ⟨o5, o6, o7, o8, o9, rfl, s3, dv3⟩
      rw [List.take_of_length_le (by rw [tp.len]; exact Nat.le_refl _)] at dv3
      have lc := colD_len (D := []) (L := prodL p q)
      rw [prodL_len] at lc
      refine ⟨_, rfl, d, _, rfl, dv3, colD_nodup (by simp), by simp at lc; omega, fun v H4 s4 pv4 => ?_⟩
      exact ⟨v, _, rfl, pv4, hd, hlen, k v H4 (g12.trans (Grown.same (s3.trans s4) g12.tbs)) pv4⟩
end
end QP

set_option Elab.async false
set_option linter.all false
set_option maxRecDepth 100000
set_option maxHeartbeats 2000000
/-! ### zip(list, tuple) -/
namespace MZ
open PySem PySem.Spec PyProof.Rows L2
/-- a list and a tuple, in new pairs -/
def ItzN (K : PySem.W.Frag) (a b : Addr) : It :=
  ⟨fun i H => ∃ (xs ys : List V) (x y : V), SqL K H a xs ∧ SqT K H b ys ∧ xs[i]? = some x ∧ ys[i]? = some y,
    fun i H v H' => ∃ T x y, v = .ref T ∧ H T = none ∧ H' = upd H T (.tup [x, y]) ∧ (∀ xs, SqL K H a xs → xs[i]? = some x) ∧ ∀ ys, SqT K H b ys → ys[i]? = some y,
    fun i H => ∃ xs ys : List V, SqL K H a xs ∧ SqT K H b ys ∧ i ≤ xs.length ∧ i ≤ ys.length ∧ (i = xs.length ∨ i = ys.length)⟩
theorem turn_zipN {P : Program} {w : World} {K : PySem.W.Frag} {elts : List Expr} {kk : Nat} {tpos : Pos} {a b z TI TO i1 i2 : Addr} (D : Ap z TI TO i1 i2 a b) :
    Turn P w K (.Tuple elts kk tpos) (ItzN K a b) [z, TI, TO, i1, i2] z (fun i h => IsZip h z TI TO .none ∧ IsTupOf2 h TI (.ref i1) (.ref i2) ∧ (∃ x y, IsTupOf2 h TO x y) ∧ h.IsListIter i1 a i ∧ h.IsTupleIter i2 b i) where
  mem := by simp
  obj := fun i h st c hc => by
    obtain ⟨hz, hI, ⟨x, y, hO⟩, ⟨o1, e1, _, d1⟩, ⟨o2, e2, _, d2⟩⟩ := st
    simp only [List.mem_cons, List.not_mem_nil, or_false] at hc
    rcases hc with rfl | rfl | rfl | rfl | rfl
    · exact ⟨_, hz, fun v q => nomatch q⟩
    · exact ⟨_, hI, fun v q => nomatch q⟩
    · exact ⟨_, hO, fun v q => nomatch q⟩
    · exact ⟨o1, e1, fun v q => by rw [d1] at q; cases q⟩
    · exact ⟨o2, e2, fun v q => by rw [d2] at q; cases q⟩
  keep := fun i h h' st k => by
    obtain ⟨hz, hI, ⟨x, y, hO⟩, h1, h2⟩ := st
    exact ⟨k z (by simp) _ hz, k TI (by simp) _ hI, ⟨x, y, k TO (by simp) _ hO⟩, h1.at fun o q => k i1 (by simp) o q, h2.at fun o q => k i2 (by simp) o q⟩
  item := by
    intro X hP hw hK hc i pins s σ H E I hf st hg
    subst hP hw hK
    obtain ⟨hz, hI, ⟨x0, y0, hO⟩, h1, h2⟩ := st
    obtain ⟨xs, ys, x, y, hqx, hqy, hx, hy⟩ := hg
    obtain ⟨its, rv, p, _⟩ := I.list hqx
    obtain ⟨its2, rv2, p2, _⟩ := I.tuple hqy
    obtain ⟨u, hu, ru⟩ := rv.get hx
    obtain ⟨u2, hu2, ru2⟩ := rv2.get hy
    have hzl : z < s.heap.objs.size := Heap.lt_size hz
    have hi1 : i < its.toArray.size := by simpa using (List.getElem?_eq_some_iff.mp hu).1
    have hi2 : i < its2.toArray.size := by simpa using (List.getElem?_eq_some_iff.mp hu2).1
    have pt : s.heap.IsTuple b its2.toArray := p2
    refine wpAny_pyNext_zipD2_item D.sep (Draws.list (A := X.A.in1) (I.ok.hd hc) i1 a D.n1 its.toArray) (Draws.tuple (A := X.A.in1) (I.ok.hd hc) i2 b D.n2 its2.toArray) hz hI hO ⟨h1, p.isList⟩ ⟨h2, pt⟩ hi1 hi2 fun w1 w2 h' tk y1 y2 z' O' st1 st2 hT hsz hk => ?_
    obtain rfl : u = w1 := by
      have e : its[i]? = some w1 := by simpa using y1
      rw [hu] at e
      exact Option.some.inj e
    obtain rfl : u2 = w2 := by
      have e : its2[i]? = some w2 := by simpa using y2
      rw [hu2] at e
      exact Option.some.inj e
    refine ⟨_, rfl, wpAny_letOwnedTupleGo_zip (s := { s with heap := h', toks := tk }) z' fun h'' z'' sb => ?_⟩
    have hT2 : h''.get? s.heap.objs.size = some { cls := .type "tuple", data := .seq #[u, u2] } := (sb.2 _ (Nat.ne_of_gt hzl)).trans hT
    have new : ObjOk X.prog X.w (upd H s.heap.objs.size (.tup [x, y])) h'' s.heap.objs.size (.tup [x, y]) := ⟨by show 2 ≤ sizeLine; decide, [u, u2], .cons ru (.cons ru2 .nil), ⟨_, hT2, rfl, _, rfl⟩⟩
    have I1 : Inv X pins σ (upd H s.heap.objs.size (.tup [x, y])) { s with heap := h'', toks := tk } :=
      I.turnedNew (ch := [z, TI, TO, i1, i2]) (fun c o hb q => (sb.2 c (fun q' => hb (by simp [q']))).trans (hk c o (fun q' => hb (by simp [q'])) (fun q' => hb (by simp [q'])) (fun q' => hb (by simp [q'])) (fun q' => hb (by simp [q'])) q)) hf (Nat.le_refl _) new
    have m1 : i1 ≠ z := fun e => D.sep.zf1 (by simp [e])
    have m2 : i2 ≠ z := fun e => D.sep.zf2 (by simp [e])
    refine ⟨.ref s.heap.objs.size, _, I1, rfl, ⟨_, x, y, rfl, I.hok.fresh (Nat.le_refl _), rfl, fun l hl => by rw [I.list_inj hl hqx]; exact hx, fun l hl => by rw [I.tuple_inj hl hqy]; exact hy⟩, ⟨z'', ?_, ⟨u, u2, ?_⟩, ?_, ?_⟩, fun c hcm => ?_⟩
    · exact (sb.2 _ D.sep.TIz).trans (hk _ _ D.sep.TIz D.sep.TITO D.sep.TIi1 D.sep.TIi2 hI)
    · exact (sb.2 _ D.sep.TOz).trans O'
    · exact st1.1.at fun o q => (sb.2 _ m1).trans q
    · exact st2.1.at fun o q => (sb.2 _ m2).trans q
    · have hlt : c < s.heap.objs.size := by
        simp only [List.mem_cons, List.not_mem_nil, or_false] at hcm
        rcases hcm with rfl | rfl | rfl | rfl | rfl
        · exact hzl
        · exact Heap.lt_size hI
        · exact Heap.lt_size hO
        · obtain ⟨_, e1, _⟩ := h1; exact Heap.lt_size e1
        · obtain ⟨_, e2, _⟩ := h2; exact Heap.lt_size e2
      rw [upd_ne (Nat.ne_of_lt hlt)]
      exact (hf c hcm).1
  done := by
    intro X hP hw hK hc i pins s σ H E I hf st hg
    subst hP hw hK
    obtain ⟨hz, hI, ⟨x0, y0, hO⟩, h1, h2⟩ := st
    obtain ⟨xs, ys, hqx, hqy, hl1, hl2, hend⟩ := hg
    obtain ⟨its, rv, p, _⟩ := I.list hqx
    obtain ⟨its2, rv2, p2, _⟩ := I.tuple hqy
    have l1 := rv.length
    have l2 := rv2.length
    have pt : s.heap.IsTuple b its2.toArray := p2
    refine wpAny_pyNext_zipD2_end D.sep (Draws.list (A := X.A.in1) (I.ok.hd hc) i1 a D.n1 its.toArray) (Draws.tuple (A := X.A.in1) (I.ok.hd hc) i2 b D.n2 its2.toArray) hz hI hO ⟨h1, p.isList⟩ ⟨h2, pt⟩ (by simp; omega) (by simp; omega) (by simp; omega) fun h' tk hk => ?_
    exact ⟨rfl, I.turnedL (t' := tk) (ch := [z, TI, TO, i1, i2]) (fun c o hb q => hk c o (fun q' => hb (by simp [q'])) (fun q' => hb (by simp [q'])) (fun q' => hb (by simp [q'])) (fun q' => hb (by simp [q'])) q) hf⟩
  self := fun A i s Q E st h => wpAny_pyIter_zip st.1 h
def iZipN (K : PySem.W.Frag) (ta : TA) : TI := fun σ H R => ta σ H fun vs H1 => ∃ a b xs ys, vs = [.ref a, .ref b] ∧ SqL K H1 a xs ∧ SqT K H1 b ys ∧ R (ItzN K a b) H1
theorem pi_zipN {X : Cx} {e e2 : Expr} {ta : TA} {p pos tpos : Pos} {elts : List Expr} {kk : Nat} (hg : Gl X "zip") (hm : X.mg "zip" = none) (ha : PA X [e, e2] ta)
    (hs : starEach [e, e2] X.env = (false, eval e X.env) :: starEach [e2] X.env := by rfl) (hpl : (backTo pos (starEach [e2] X.env)).any (·.1) = false := by rfl) : PI X (.Tuple elts kk tpos) (.Call (.Name "zip" p) [e, e2] [] pos) (iZipN X.K ta) := by
  refine ⟨fun pins s σ H R I h => Call_ (ld_blt I hg hm PyProof.Rows.boot_zip (PyProof.Rows.callWith_type1 (thn (ha.run pos pins s σ H _ I h) fun us s1 ⟨vs, H1, I1, r1, q1⟩ => ?_) hs hpl))⟩
  obtain ⟨a, b, xs, ys, rfl, hqx, hqy, q⟩ := q1
  cases r1 with
  | cons r rr => cases rr with
    | cons r' rr =>
      cases rr
      cases r
      cases r'
      obtain ⟨its, rv, p1, _⟩ := I1.list hqx
      obtain ⟨its2, rv2, p2, _⟩ := I1.tuple hqy
      have pt : s1.heap.IsTuple b its2.toArray := p2
      obtain ⟨oa, ea, _⟩ := id p1.isList
      obtain ⟨ob, eb, _⟩ := id pt
      have la := Heap.lt_size ea
      have lb := Heap.lt_size eb
      refine call_zipB (begins_list a its.toArray) (begins_tuple b its2.toArray) p1.isList pt fun h' hz hI hO h1 h2 hk => wpAny_pyIter_zip hz ?_
      have I2 : Inv X pins σ H1 { s1 with heap := h' } := I1.kept (t' := s1.toks) hk
      have ad : ∀ {m n : Nat}, m ≠ n → s1.heap.objs.size + m ≠ s1.heap.objs.size + n := fun h e => h (Nat.add_left_cancel e)
      have ap : Ap (s1.heap.objs.size + 4) (s1.heap.objs.size + 2) (s1.heap.objs.size + 3) s1.heap.objs.size (s1.heap.objs.size + 1) a b := by
        have lt : ∀ {c : Addr} {n : Nat}, c < s1.heap.objs.size → s1.heap.objs.size + n ≠ c := fun h e => Nat.not_lt.mpr (Nat.le_add_right _ _) (e ▸ h)
        have z0 : ∀ {n : Nat}, n ≠ 0 → s1.heap.objs.size + n ≠ s1.heap.objs.size := fun h => ad (n := 0) h
        refine ⟨⟨ad (by decide), ad (by decide), ad (by decide), z0 (by decide), by simp, ?_, ?_, ad (by decide), by simp, ?_, ?_, ?_, ?_⟩, Nat.ne_of_lt la, (lt lb).symm⟩
        · simp only [List.mem_cons, List.not_mem_nil, or_false, not_or]; exact ⟨z0 (by decide), lt la⟩
        · simp only [List.mem_cons, List.not_mem_nil, or_false, not_or]; exact ⟨z0 (by decide), lt la⟩
        · simp only [List.mem_cons, List.not_mem_nil, or_false, not_or]; exact ⟨ad (by decide), lt lb⟩
        · simp only [List.mem_cons, List.not_mem_nil, or_false, not_or]; exact ⟨ad (by decide), lt lb⟩
        · simp only [List.mem_cons, List.not_mem_nil, or_false, not_or]; exact ⟨(z0 (by decide)).symm, Nat.ne_of_gt lb⟩
        · simp only [List.mem_cons, List.not_mem_nil, or_false, not_or]; exact ⟨z0 (by decide), lt la⟩
      refine ⟨s1.heap.objs.size + 4, [s1.heap.objs.size + 4, s1.heap.objs.size + 2, s1.heap.objs.size + 3, s1.heap.objs.size, s1.heap.objs.size + 1], _, _, H1, rfl, I2, turn_zipN ap, ⟨hz, hI, ⟨_, _, hO⟩, ⟨_, h1, rfl, rfl⟩, ⟨_, h2, rfl, rfl⟩⟩, fun c hc => ?_, q⟩
      have hle : s1.heap.objs.size ≤ c := by
        simp only [List.mem_cons, List.not_mem_nil, or_false] at hc
        rcases hc with rfl | rfl | rfl | rfl | rfl
        · exact Nat.le_add_right _ _
        · exact Nat.le_add_right _ _
        · exact Nat.le_add_right _ _
        · exact Nat.le_refl _
        · exact Nat.le_add_right _ _
      exact I1.fpOk hle (I1.hok.fresh hle)
theorem walk_zipN {K : PySem.W.Frag} {a b : Addr} {xs ys : List V} {n : Nat} (hn : n = min xs.length ys.length) : Walk (ItzN K a b) n (fun H => SqL K H a xs ∧ SqT K H b ys) (YPair (fun i => xs[i]?) (fun i => ys[i]?)) := by
  subst hn
  refine ⟨fun i H hi q => ⟨xs, ys, xs[i]'(by omega), ys[i]'(by omega), q.1, q.2, List.getElem?_eq_getElem _, List.getElem?_eq_getElem _⟩, fun H q => ⟨xs, ys, q.1, q.2, by omega, by omega, by omega⟩, fun i H v H' _ q y => ?_⟩
  obtain ⟨T, x, z, h1, h2, h3, h4, h5⟩ := y
  exact ⟨T, x, z, h1, h2, h3, h4 _ q.1, h5 _ q.2⟩
end MZ

-- of 12
set_option Elab.async false
set_option linter.all false
set_option maxRecDepth 100000
set_option maxHeartbeats 4000000
/-! ### need_fractions, _powers_up_to -/
namespace QP
open PySem PySem.Spec PyProof.Rows L2 KX KP KT QR QD FR
abbrev sNeedFr : Stmt := top 36
abbrev sPowsUp : Stmt := top 37
def rp (x : Fr) : Nat → Fr
  | 0 => (1, 1)
  | k + 1 => mulF (rp x k) x
def powsF (x : Fr) (k : Nat) : List Fr := (List.range (k + 1)).map (rp x)
theorem powsF_succ (x : Fr) (k : Nat) : powsF x (k + 1) = powsF x k ++ [rp x (k + 1)] := by
  unfold powsF
  rw [List.range_succ, List.map_append]
  rfl
def spNeedFr (K : PySem.W.Frag) : Sp := fun vs H Q _ => ∃ (n : Nat) (y : V) (xs : List Fr), vs = [.int (n : Nat), y] ∧ RowT K H y xs ∧ xs.length = n ∧ (∀ x ∈ xs, isR (fD x) = true) ∧ ∀ H', Same H H' → Q .non H'
def spPowsUp (K : PySem.W.Frag) : Sp := fun vs H Q _ => ∃ (y : V) (x : Fr) (k : Nat), vs = [y, .int (k : Nat)] ∧ FrV K H y x ∧ k ≤ 1000 ∧ Sz 4000 x ∧ (∀ i, i ≤ k → Sz 4000 (rp x i)) ∧ ∀ l us H', H l = none → Same H H' → H' l = some (.lst us) → FrL K H' us (powsF x k) → Q (.ref l) H'
theorem rowD {K : PySem.W.Frag} {H : Hp} {b : Addr} {ys : List V} {xs : List Fr} (eb : tO H b = some (.tup ys)) (fl : FrL K H ys xs) : Dk K H (.ref b) (.tuple (xs.map fD)) :=
  Dk.ofDp (.tup (SqT.of (tO_same H _ _ eb)) (KP.dpAll_of fl.len fun k v x a b => KP.dp_fr (fl.get k v x a b)))
section
variable {P : Program} {w : World} {K : PySem.W.Frag} {mg : Str → Option Value} {base : Heap}
theorem scNf : FnScope ["many", "assignment", "index", "share"] ["many", "assignment"] (defScope sNeedFr) := ⟨rfl, rfl, rfl, by decide +kernel, rfl, by decide +kernel, by decide +kernel⟩
theorem ok_needfr {f fF : Addr} {fd fdF : FuncData} (F : Fun K "need_fractions" "need_fractions" sNeedFr f fd) (T : TxT mg)
    (FF : FnOk P w K mg base CX0 3 fF fdF ["value"] (spIsK K isR)) (mF : mg "is_fraction" = some (.ref fF)) (kF : PySem.W.keepIn K (.ref fF) = true) (bF : Binds K fdF ["value"] []) :
    FnOk P w K mg base CX0 4 f fd ["many", "assignment"] (spNeedFr K) := by
  refine F.ok scNf (fun vs H Q E h => ?_) (fun cdv A outer s H vs Q E hr h => ?_)
  · obtain ⟨_, _, _, rfl, _⟩ := h
    rfl
  · obtain ⟨n, y, xs, rfl, ⟨b, ys, rfl, eb, fl⟩, hl, hx, k⟩ := h
    refine ⟨_, pss_cons (ps_if (pw_or (pt_cmpR op_notTyB (pe_callTy call_type1 (by rfl) T.type (by decide +kernel) (pa_cons (pv 1) pa_nil)) (pe_bltn (v := .ty "tuple") (by rfl) T.tuple (by decide +kernel) rfl) (nomark _))
        (pw_or1 (pt_cmpR op_ne (pe_callB call_len_seq (by rfl) T.len PySem.boot_len (pa_cons (pv 1) pa_nil)) (pv 0) (nomark _)))).pt (pss_one ps_never) pss_nil)
      (pss_one (ps_for PassesOwn.never rfl (pi_enumT (by rfl) T.enumerate (pa_cons (pv 1) pa_nil)) (pg_tup rfl (pgs_cons (pg_name (i := 2) scNf.nd rfl (Or.inl rfl)) (pgs_cons (pg_name (i := 3) scNf.nd rfl (Or.inl rfl)) pgs_nil)))
        (pss_one (ps_if (pt_not (pt_val (pe_call FF hr rfl mF kF bF .nil pass0 (pa_cons (pv 3) pa_nil)))) (pss_one ps_never) pss_nil)))), ?_⟩
    have dk := rowD eb fl
    refine i_when (D := { nx := fun _ H' => Q .non H', rt := Q }) (b := (!decide (tyN (.tuple (xs.map fD)) = "tuple") || !decide (V.int (lenT (.tuple (xs.map fD)) : Nat) = V.int (n : Nat)))) (ti_or (QD.ti_notTup (vi_var rfl) dk) fun z => ti_test (vi_op (QD.vi_lenT (ai_cons (vi_var rfl) ai_nil) dk rfl) (vi_var rfl) fun Q q => ⟨rfl, q⟩)) (fun z => ?_) (fun _ => ?_)
    · exfalso
      rw [int_dec] at z
      have e : lenT (.tuple (xs.map fD)) = n := by show (xs.map fD).length = n; rw [List.length_map]; exact hl
      rw [decide_eq_true e] at z
      simp [tyN] at z
    · refine ⟨_, rfl, b, ys, rfl, SqT.of (tO_same H _ _ eb), ?_⟩
      refine for_it (walk_enumT (K := K) (a := b) (xs := ys)) (fun i σ H' => (∃ o2 o3, σ = [some (.int (n : Nat)), some (.ref b), o2, o3]) ∧ Same H H') ⟨⟨none, none, rfl⟩, Same.refl _⟩ (fun i σ H' _ z => SqT.of (z.2.rd (tO_same H _ _ eb))) ?_ ?_
      · rintro i v σ H' H'' hi ⟨⟨o2, o3, rfl⟩, s1⟩ ⟨U, x1, y1, rfl, hU, rfl, hx1, hy1⟩
        cases hx1
        have sU := same_upd (o := .tup [V.int (i : Nat), y1]) hU
        have s2 : Same H _ := s1.trans sU
        have hi' : i < xs.length := by rw [← fl.len]; exact (List.getElem?_eq_some_iff.mp hy1).1
        have ex := List.getElem?_eq_getElem hi'
        have fv := (fl.get i y1 _ hy1 ex).tk (Tk.same s2)
        refine ⟨U, _, rfl, SqT.of (.inl upd_same), rfl, _, _, rfl, _, _, rfl, rfl, ?_⟩
        refine ⟨_, rfl, y1, fD xs[i], rfl, Dk.ofDp (KP.dp_fr fv), _, rfl, iteB (fun z => ?_) (fun _ => ⟨⟨_, _, rfl⟩, s2⟩)⟩
        rw [hx _ (List.getElem_mem hi')] at z
        cases z
      · rintro σ H' ⟨_, s1⟩
        exact k H' s1
theorem scPu : FnScope ["share", "degree", "powers", "_"] ["share", "degree"] (defScope sPowsUp) := ⟨rfl, rfl, rfl, by decide +kernel, rfl, by decide +kernel, by decide +kernel⟩
theorem ok_powsup {f fX : Addr} {fd fdX : FuncData} {aU aN : Addr} (F : Fun K "_powers_up_to" "_powers_up_to" sPowsUp f fd) (T : TxD mg) (C : Cst K mg aU aN)
    (FX : FnOk P w K mg base CX0 2 fX fdX ["one", "two"] (spBin K mulF)) (mX : mg "multiplied" = some (.ref fX)) (kX : PySem.W.keepIn K (.ref fX) = true) (bX : Binds K fdX ["one", "two"] []) :
    FnOk P w K mg base CX0 3 f fd ["share", "degree"] (spPowsUp K) := by
  refine F.ok scPu (fun vs H Q E h => ?_) (fun cdv A outer s H vs Q E hr h => ?_)
  · obtain ⟨_, _, _, rfl, _⟩ := h
    rfl
  · obtain ⟨y, x, n, rfl, fv, hn, sx, sp, k⟩ := h
    refine ⟨_, pss_cons (ps_set (i := 2) scPu.nd rfl (Or.inl rfl) (pe_lst (pa_cons (pe_glob (v := .ref aU) (by rfl) C.mU rfl) pa_nil)))
      (pss_cons (ps_for PassesOwn.never rfl (pi_range1 rfl T.range (pa_cons (pv 1) pa_nil)) (pg_name (i := 3) scPu.nd rfl (Or.inl rfl))
        (pss_one (ps_expr (pe_bm PySem.F.plainAttrs_list PySem.F.slot_list_append PySem.F.type_list_append mt_append (pv 2) (pa_cons (pe_call FX hr (by rfl) mX kX bX .nil pass0 (pa_cons (pe_ix ix_list (pv 2) (pe_un un_neg pe_int) (fun _ _ => rfl)) (pa_cons (pv 0) pa_nil))) pa_nil)))))
      (pss_one (ps_ret (pv 2)))), ?_⟩
    refine i_asg ⟨by show 1 ≤ sizeLine; decide, fun l hl0 => ?_⟩
    have s0 := same_upd (o := .lst [V.ref aU]) hl0
    refine ⟨_, rfl, _, rfl, by omega, by omega, ?_⟩
    have f0 : FrL K (upd H l (.lst [V.ref aU])) [V.ref aU] (powsF x 0) := ⟨rfl, fun i v z a b => by
      cases i with
      | zero =>
        cases a
        cases b
        exact FrV.cst C.cU
      | succ i => cases a⟩
    refine for_range (lo := 0) (n := n) (fun i σ H' => ∃ (o3 : Option V) (us : List V) (u : V), σ = [some y, some (.int (n : Nat)), some (.ref l), o3] ∧ Same H H' ∧ H' l = some (.lst (us ++ [u])) ∧ FrL K H' (us ++ [u]) (powsF x i)) ⟨_, [], .ref aU, rfl, s0, upd_same, f0⟩ ?_ ?_
    · rintro i σ H1 hi ⟨o3, us, u, rfl, s1, el, fl⟩
      have lu : us.length = i := by
        have := fl.len
        unfold powsF at this
        rw [List.length_append, List.length_map, List.length_range] at this
        simpa using this
      have fu : FrV K H1 u (rp x i) := fl.get i u _ (by rw [← lu]; simp) (by unfold powsF; rw [List.getElem?_map, List.getElem?_range (by omega)]; rfl)
      refine ⟨_, rfl, .inl ⟨rfl, _, SqL.of el⟩, ?_⟩
      refine ⟨_, rfl, _, rfl, l, _, _, _, rfl, rfl, SqL.of el, atI_last _ _, _, rfl, u, y, rp x i, x, rfl, fu, fv.tk (Tk.same s1), sp i (by omega), sx, fun r H2 s2 fr => ?_⟩
      have el2 := s2 _ _ el
      have ttp : Tt H2 (upd H2 l (.lst (us ++ [u] ++ [r]))) := Tt.put el2 (fun _ z => by cases z) (fun _ _ z => by cases z)
      refine ⟨l, _, _, rfl, rfl, el2, by rw [List.length_append, lu]; exact Nat.lt_of_le_of_lt (show i + 1 ≤ 1001 by omega) (by decide), ?_⟩
      refine ⟨_, us ++ [u], r, rfl, same_put (s1.trans s2) hl0, upd_same, ?_⟩
      rw [powsF_succ]
      exact (FrL.snoc (fl.tk (Tk.same s2)) fr).tk ttp.tk
    · rintro σ H1 ⟨o3, us, u, rfl, s1, el, fl⟩
      exact ⟨_, rfl, k l _ H1 hl0 s1 el fl⟩
end
end QP

-- of 12
set_option Elab.async false
set_option linter.all false
set_option maxRecDepth 100000
set_option maxHeartbeats 4000000
/-! ### worth -/
namespace QP
open PySem PySem.Spec PyProof.Rows L2 KX KP KT QR QD FR
abbrev sWorth : Stmt := top 35
def termW (xs : List Fr) (t : Mon × Fr) : Fr := (List.zip xs t.1).foldl (fun y e => mulF y (rp e.1 e.2.toNat)) t.2
def worthF (xs : List Fr) (p : Poly) : Fr := p.foldl (fun y t => addF y (termW xs t)) (0, 1)
theorem termW_succ {xs : List Fr} {m : Mon} {f x : Fr} {e : Int} {i : Nat} (hx : xs[i]? = some x) (he : m[i]? = some e) : termW (xs.take (i + 1)) (m.take (i + 1), f) = mulF (termW (xs.take i) (m.take i, f)) (rp x e.toNat) := by
  have : List.zip (xs.take (i + 1)) (m.take (i + 1)) = List.zip (xs.take i) (m.take i) ++ [(x, e)] := by
    unfold List.zip
    rw [← List.take_zipWith, ← List.take_zipWith, List.take_add_one, List.getElem?_zipWith, hx, he]
    rfl
  unfold termW
  rw [this, List.foldl_append]
  rfl
theorem worthF_succ {xs : List Fr} {p : Poly} {t : Mon × Fr} {i : Nat} (h : p[i]? = some t) : worthF xs (p.take (i + 1)) = addF (worthF xs (p.take i)) (termW xs t) := by
  unfold worthF
  rw [List.take_add_one, h, List.foldl_append]
  rfl
structure WorthOk (n : Nat) (xs : List Fr) (p : Poly) : Prop where
  len : xs.length = n
  frs : ∀ x ∈ xs, isR (fD x) = true
  deg : degP p ≤ 40
  mon : ∀ t ∈ p, t.1.length = n ∧ ∀ e ∈ t.1, 0 ≤ e ∧ e ≤ degP p
  szx : ∀ x ∈ xs, Sz 4000 x
  szp : ∀ x ∈ xs, ∀ k, k ≤ 40 → Sz 4000 (rp x k)
  szt : ∀ t ∈ p, ∀ i, Sz 4000 (termW (xs.take i) (t.1.take i, t.2))
  sza : ∀ i, Sz 4000 (worthF xs (p.take i))
/-- lists of powers, off D -/
structure PowsL (K : PySem.W.Frag) (D : Addr) (H : Hp) (us : List V) (xs : List Fr) (d : Nat) : Prop where
  len : us.length = xs.length
  get : ∀ (i : Nat) (u : V) (x : Fr), us[i]? = some u → xs[i]? = some x → ∃ l ws, u = .ref l ∧ l ≠ D ∧ H l = some (.lst ws) ∧ FrL K H ws (powsF x d)
theorem PowsL.same {K : PySem.W.Frag} {D : Addr} {H H' : Hp} {us : List V} {xs : List Fr} {d : Nat} (h : PowsL K D H us xs d) (s : Same H H') : PowsL K D H' us xs d := ⟨h.len, fun i u x a b => by
  obtain ⟨l, ws, e, n, q, f⟩ := h.get i u x a b
  exact ⟨l, ws, e, n, s _ _ q, f.tk (Tk.same s)⟩⟩
theorem PowsL.put {K : PySem.W.Frag} {D : Addr} {H : Hp} {us vs : List V} {xs : List Fr} {d : Nat} {ys : List V} (h : PowsL K D H us xs d) (e : H D = some (.lst ys)) : PowsL K D (upd H D (.lst vs)) us xs d := ⟨h.len, fun i u x a b => by
  obtain ⟨l, ws, e1, n, q, f⟩ := h.get i u x a b
  exact ⟨l, ws, e1, n, by rw [upd_ne n]; exact q, f.tk (Tt.put e (fun _ z => by cases z) (fun _ _ z => by cases z)).tk⟩⟩
theorem PowsL.snoc {K : PySem.W.Frag} {D : Addr} {H : Hp} {us : List V} {xs : List Fr} {d : Nat} (h : PowsL K D H us xs d) {l : Addr} {ws : List V} {x : Fr} (n : l ≠ D) (q : H l = some (.lst ws)) (f : FrL K H ws (powsF x d)) : PowsL K D H (us ++ [.ref l]) (xs ++ [x]) d := by
  have hl := h.len
  refine ⟨by rw [List.length_append, List.length_append, hl]; rfl, fun i u y a b => ?_⟩
  by_cases c : i < us.length
  · rw [List.getElem?_append_left c] at a
    rw [List.getElem?_append_left (by omega)] at b
    exact h.get i u y a b
  · rw [List.getElem?_append_right (by omega)] at a b
    have : i - us.length = 0 := by
      have := (List.getElem?_eq_some_iff.mp a).1
      simp at this
      omega
    rw [this] at a
    rw [← hl, this] at b
    cases a
    cases b
    exact ⟨l, ws, rfl, n, q, f⟩
def spWorth (K : PySem.W.Frag) (Ps : List Addr) : Sp := fun vs H Q _ => ∃ (n : Nat) (x y : V) (p : Poly) (xs : List Fr), vs = [.int (n : Nat), x, y] ∧ n ≤ 4 ∧ PolV K H x p ∧ isPoly n (polyD p) = true ∧ p.length ≤ 900 ∧ RowT K H y xs ∧ WorthOk n xs p ∧ Tbs Ps H ∧ ∀ r H', Grown Ps H H' → FrV K H' r (worthF xs p) → Q r H'
section
variable {P : Program} {w : World} {K : PySem.W.Frag} {mg : Str → Option Value} {base : Heap}
abbrev nWo : List Str := ["many", "one", "assignment", "powers_of", "total", "powers", "fraction", "product", "risen", "power", "share"]
theorem scWo : FnScope nWo ["many", "one", "assignment"] (defScope sWorth) := ⟨rfl, rfl, rfl, by decide +kernel, rfl, by decide +kernel, by decide +kernel⟩
theorem ok_worth {f fM fP fF fU fD' fX fA : Addr} {fd fdM fdP fdF fdU fdD fdX fdA : FuncData} {Ps : List Addr} {aU aN : Addr} (F : Fun K "worth" "worth" sWorth f fd) (T : TxD mg) (C : Cst K mg aU aN)
    (FM : FnOk P w K mg base CX0 3 fM fdM ["many"] spNeedMany) (mM : mg "need_many" = some (.ref fM)) (kM : PySem.W.keepIn K (.ref fM) = true) (bM : Binds K fdM ["many"] [])
    (FP : FnOk P w K mg base CX0 7 fP fdP ["many", "one"] (spNeedPoly K Ps)) (mP : mg "need_polynomial" = some (.ref fP)) (kP : PySem.W.keepIn K (.ref fP) = true) (bP : Binds K fdP ["many", "one"] [])
    (FF : FnOk P w K mg base CX0 4 fF fdF ["many", "assignment"] (spNeedFr K)) (mF : mg "need_fractions" = some (.ref fF)) (kF : PySem.W.keepIn K (.ref fF) = true) (bF : Binds K fdF ["many", "assignment"] [])
    (FU : FnOk P w K mg base CX0 3 fU fdU ["share", "degree"] (spPowsUp K)) (mU : mg "_powers_up_to" = some (.ref fU)) (kU : PySem.W.keepIn K (.ref fU) = true) (bU : Binds K fdU ["share", "degree"] [])
    (FD : FnOk P w K mg base CX0 1 fD' fdD ["one"] (spDeg K)) (mD : mg "degree_of" = some (.ref fD')) (kD : PySem.W.keepIn K (.ref fD') = true) (bD : Binds K fdD ["one"] [])
    (FX : FnOk P w K mg base CX0 2 fX fdX ["one", "two"] (spBin K mulF)) (mX : mg "multiplied" = some (.ref fX)) (kX : PySem.W.keepIn K (.ref fX) = true) (bX : Binds K fdX ["one", "two"] [])
    (FA : FnOk P w K mg base CX0 2 fA fdA ["one", "two"] (spBin K addF)) (mA : mg "added" = some (.ref fA)) (kA : PySem.W.keepIn K (.ref fA) = true) (bA : Binds K fdA ["one", "two"] []) :
    FnOk P w K mg base CX0 8 f fd ["many", "one", "assignment"] (spWorth K Ps) := by
  refine F.ok scWo (fun vs H Q E h => ?_) (fun cdv A outer s H vs Q E hr h => ?_)
  · obtain ⟨_, _, _, _, _, rfl, _⟩ := h
    rfl
  · obtain ⟨n, x, y, p, xs, rfl, hn, px, ip, hl, ry, ok, tb, k⟩ := h
    have hr1 : Room 1 _ := hr.mono (by decide)
    have hr2 : Room 2 _ := hr.mono (by decide)
    have hr3 : Room 3 _ := hr.mono (by decide)
    have hr4 : Room 4 _ := hr.mono (by decide)
    refine ⟨_, pss_cons (ps_expr (pe_call FM hr3 (by rfl) mM kM bM .nil pass0 (pa_cons (pv 0) pa_nil)))
      (pss_cons (ps_expr (pe_call FP hr (by rfl) mP kP bP .nil pass0 (pa_cons (pv 0) (pa_cons (pv 1) pa_nil))))
      (pss_cons (ps_expr (pe_call FF hr4 (by rfl) mF kF bF .nil pass0 (pa_cons (pv 0) (pa_cons (pv 2) pa_nil))))
      (pss_cons (ps_setLc (i := 3) (own := [("share", 10)]) (g := gName 10) (tt := tYes) (by rfl) scWo.nd rfl rfl (sw_true rfl rfl rfl (by decide +kernel)) (pi_tup (pv 2)) (blkOk_by (N := nWo) (sc := defScope sWorth) (by decide +kernel))
          (fun _ _ _ _ _ => pg_name (i := 10) scWo.nd rfl (Or.inl rfl)) (fun _ _ _ _ _ => pts_nil) (fun _ _ _ _ _ => pe_call FU hr3 (by rfl) mU kU bU .nil pass0 (pa_cons (pv 10) (pa_cons (pe_call FD hr1 (by rfl) mD kD bD .nil pass0 (pa_cons (pv 1) pa_nil)) pa_nil))))
      (pss_cons (ps_set (i := 4) scWo.nd rfl (Or.inl rfl) (pe_glob (v := .ref aN) (by rfl) C.mN rfl))
      (pss_cons (ps_for PassesOwn.never rfl (pi_tup (pv 1)) (by exact pg_tup rfl (pgs_cons (pg_name (i := 5) scWo.nd rfl (Or.inl rfl)) (pgs_cons (pg_name (i := 6) scWo.nd rfl (Or.inl rfl)) pgs_nil)))
        (pss_cons (ps_set (i := 7) scWo.nd rfl (Or.inl rfl) (pv 6))
        (pss_cons (ps_for PassesOwn.never rfl (MZ.pi_zipN (by rfl) T.zip (pa_cons (pv 3) (pa_cons (pv 5) pa_nil))) (by exact pg_tup rfl (pgs_cons (pg_name (i := 8) scWo.nd rfl (Or.inl rfl)) (pgs_cons (pg_name (i := 9) scWo.nd rfl (Or.inl rfl)) pgs_nil)))
          (pss_one (ps_set (i := 7) scWo.nd rfl (Or.inl rfl) (pe_call FX hr2 (by rfl) mX kX bX .nil pass0 (pa_cons (pv 7) (pa_cons (pe_ix ix_list (pv 8) (pv 9) (fun _ _ => rfl)) pa_nil))))))
        (pss_one (ps_set (i := 4) scWo.nd rfl (Or.inl rfl) (pe_call FA hr2 (by rfl) mA kA bA .nil pass0 (pa_cons (pv 4) (pa_cons (pv 7) pa_nil))))))))
      (pss_one (ps_ret (pv 4)))))))), ?_⟩
    refine ⟨_, rfl, (n : Int), rfl, by omega, by omega, ?_⟩
    refine ⟨_, rfl, _, rfl, x, _, (n : Int), rfl, by omega, by omega, Dk.ofDp px.dp, ip, tb, fun H1 g1 => ?_⟩
    refine ⟨_, rfl, _, rfl, n, y, xs, rfl, ry.tk (Tk.sm g1.sm), ok.len, ok.frs, fun H2 s2 => ?_⟩
    have g2 := g1.trans (Grown.same s2 g1.tbs)
    have px2 := px.tt (Tt.sm g2.sm)
    obtain ⟨b, ys, rfl, eb, fl⟩ := ry.tk (Tk.sm g2.sm)
    dsimp only
    have eSq : SqT K H2 b ys := SqT.of (tO_same H2 _ _ eb)
    have d0 : 0 ≤ degP p := by
      unfold degP
      cases p with
      | nil => exact Int.le_refl _
      | cons t p => exact QL.sum_nn fun e he => ((ok.mon t List.mem_cons_self).2 e he).1
    have hd := ok.deg
    have lys := fl.len
    have lxs := ok.len
    refine ⟨_, rfl, b, rfl, ⟨ys, eSq⟩, fun D hD => ?_⟩
    refine lc_it (walk_tup (K := K) (a := b) (xs := ys)) (fun i H' => Same H2 H' ∧ ∃ us, H' D = some (.lst us) ∧ PowsL K D H' us (xs.take i) (degP p).toNat) ⟨same_upd hD, [], upd_same, ⟨rfl, fun i u x a => by simp at a⟩⟩ (fun i H' _ z => SqT.same z.1 eSq) ?_ ?_
    · rintro i v _ H' hi ⟨s3, us, eD, pl⟩ ⟨rfl, hx⟩
      have hi' : i < xs.length := by omega
      have ex := List.getElem?_eq_getElem hi'
      have mx := List.getElem_mem hi'
      have fv := (fl.get i v _ hx ex).tk (Tk.same s3)
      refine ⟨rfl, ?_⟩
      dsimp only [tYes]
      rw [if_pos rfl]
      refine ⟨_, rfl, _, rfl, x, p, rfl, px2.tt (Tt.same s3), v, xs[i], (degP p).toNat, by rw [Int.toNat_of_nonneg d0]; rfl, fv, by omega, ok.szx _ mx, fun k hk => ok.szp _ mx k (by omega), fun l ws H4 hl s4 el fl' => ?_⟩
      have nlD : l ≠ D := fun z => by rw [z, eD] at hl; cases hl
      have lu := pl.len
      rw [List.length_take] at lu
      refine ⟨us, s4 _ _ eD, Nat.lt_of_le_of_lt (show us.length ≤ 4 by omega) (by decide), same_put (s3.trans s4) hD, us ++ [.ref l], upd_same, ?_⟩
      rw [List.take_add_one, ex]
      exact ((pl.same s4).snoc nlD el fl').put (s4 _ _ eD)
    rintro H3 ⟨s3, us, eD, pl⟩
    rw [List.take_of_length_le (by omega)] at pl
    have g3 := g2.trans (Grown.same s3 g2.tbs)
    obtain ⟨a, vs1, rfl, ea, tp⟩ := px2.tt (Tt.same s3)
    have lus := pl.len
    dsimp only
    refine i_asg ?_
    refine ⟨_, rfl, a, rfl, ⟨vs1, ea⟩, ?_⟩
    refine for_tup (K := K) (a := a) (xs := vs1) (fun i σ H' => ∃ (tot : V) (o5 o6 o7 o8 o9 : Option V), σ = [some (.int (n : Nat)), some (.ref a), some (.ref b), some (.ref D), some tot, o5, o6, o7, o8, o9, none] ∧ Same H3 H' ∧ FrV K H' tot (worthF xs (p.take i)))
      ⟨.ref aN, _, _, _, _, _, rfl, Same.refl _, FrV.cst C.cN⟩ (fun i σ H' _ z => by obtain ⟨_, _, _, _, _, _, _, s, _⟩ := z; exact SqT.same s ea) ?_ ?_
    · rintro i xv σ H4 hx ⟨tot, o5, o6, o7, o8, o9, rfl, s4, ft⟩
      obtain ⟨t, ht, tm⟩ := tp.at hx
      have mt : t ∈ p := List.mem_of_getElem? ht
      obtain ⟨c, vm, vx, rfl, ec, ⟨m, rfl, em⟩, fx⟩ := tm.tt (Tt.same s4)
      obtain ⟨lm, hm⟩ := ok.mon t mt
      refine ⟨_, _, rfl, ec, rfl, _, _, rfl, _, _, rfl, rfl, ?_⟩
      refine i_asg ⟨_, rfl, ?_⟩
      refine ⟨_, rfl, _, rfl, D, m, us, t.1.map V.int, rfl, SqL.of (s4 _ _ eD), SqT.of (.inl em), ?_⟩
      refine for_it (MZ.walk_zipN (K := K) (a := D) (b := m) (xs := us) (ys := t.1.map V.int) (n := n) (by rw [List.length_map]; omega)) (fun j σ H' => ∃ (pr : V) (o8 o9 : Option V), σ = [some (.int (n : Nat)), some (.ref a), some (.ref b), some (.ref D), some tot, some (.ref m), some vx, some pr, o8, o9, none] ∧ Same H4 H' ∧ FrV K H' pr (termW (xs.take j) (t.1.take j, t.2)))
        ⟨vx, _, _, rfl, Same.refl _, fx⟩ (fun j σ H' _ z => by obtain ⟨_, _, _, _, s, _⟩ := z; exact ⟨SqL.of (s _ _ (s4 _ _ eD)), SqT.of (.inl (s _ _ em))⟩) ?_ ?_
      · rintro j v σ H5 H6 hj ⟨pr, o8, o9, rfl, s5, fp⟩ ⟨U, x1, y1, rfl, hU, rfl, hx1, hy1⟩
        have hjx : j < xs.length := by omega
        have hjm : j < t.1.length := by omega
        have ex := List.getElem?_eq_getElem hjx
        have em2 := List.getElem?_eq_getElem hjm
        have sU := same_upd (o := .tup [x1, y1]) hU
        simp only [List.getElem?_map, em2, Option.map_some, Option.some.injEq] at hy1
        subst hy1
        have s6 := (s4.trans s5).trans sU
        obtain ⟨l, ws, rfl, _, el, fw⟩ := (pl.same s6).get j x1 _ hx1 ex
        obtain ⟨e0, e1⟩ := hm _ (List.getElem_mem hjm)
        have lw : ws.length = (degP p).toNat + 1 := by
          have := fw.len
          unfold powsF at this
          rwa [List.length_map, List.length_range] at this
        have hk : t.1[j].toNat < ws.length := by omega
        have ew := List.getElem?_eq_getElem hk
        have fw' : FrV K _ ws[t.1[j].toNat] (rp xs[j] t.1[j].toNat) := fw.get _ _ _ ew (by unfold powsF; rw [List.getElem?_map, List.getElem?_range (by omega)]; rfl)
        refine ⟨U, _, rfl, SqT.of (.inl upd_same), rfl, _, _, rfl, _, _, rfl, rfl, ?_⟩
        refine ⟨_, rfl, _, rfl, _, rfl, l, ws, t.1[j], ws[t.1[j].toNat], rfl, rfl, SqL.of el, ?_, ?_⟩
        · have := at_nat ew
          rwa [Int.toNat_of_nonneg e0] at this
        refine ⟨_, _, _, _, rfl, fp.tk (Tk.same sU), fw', ok.szt t mt j, ok.szp _ (List.getElem_mem hjx) _ (by omega), fun r H7 s7 fr => ⟨r, _, _, rfl, (s5.trans sU).trans s7, ?_⟩⟩
        rw [termW_succ ex em2]
        exact fr
      · rintro σ H5 ⟨pr, o8, o9, rfl, s5, fp⟩
        refine ⟨_, rfl, _, rfl, _, _, _, _, rfl, ft.tk (Tk.same s5), fp, ok.sza i, ok.szt t mt n, fun r H6 s6 fr => ⟨r, _, _, _, _, _, rfl, (s4.trans s5).trans s6, ?_⟩⟩
        rw [worthF_succ ht]
        rw [show xs.take n = xs from List.take_of_length_le (by omega), show t.1.take n = t.1 from List.take_of_length_le (by omega)] at fr
        exact fr
    · rintro σ H4 ⟨tot, o5, o6, o7, o8, o9, rfl, s4, ft⟩
      rw [List.take_of_length_le (by rw [tp.len]; exact Nat.le_refl _)] at ft
      exact ⟨_, rfl, k tot H4 (g3.trans (Grown.same s4 g3.tbs)) ft⟩
end
end QP

-- of 12
set_option Elab.async false
set_option linter.all false
set_option maxRecDepth 100000
set_option maxHeartbeats 4000000
/-! ### the law's sums, products, worths -/
namespace QP
open PySem PySem.Spec PyProof.Rows L2 KX KP KT QR QD FR
abbrev lAdd : Stmt := top 45
abbrev lMul : Stmt := top 46
abbrev lProduct : Stmt := top 52
abbrev lRaised : Stmt := top 53
abbrev lWorth : Stmt := top 54
def spRaised (K : PySem.W.Frag) : Sp := fun vs H Q _ => ∃ (y : V) (x : Fr) (e : Nat), vs = [y, .int (e : Nat)] ∧ FrV K H y x ∧ e ≤ 1000 ∧ Sz 4000 x ∧ (∀ i, i ≤ e → Sz 4000 (rp x i)) ∧ ∀ r H', Same H H' → FrV K H' r (rp x e) → Q r H'
def spLWorth (K : PySem.W.Frag) : Sp := fun vs H Q _ => ∃ (n : Nat) (x y : V) (p : Poly) (xs : List Fr), vs = [x, y] ∧ n ≤ 4 ∧ PolV K H x p ∧ p.length ≤ 900 ∧ RowT K H y xs ∧ WorthOk n xs p ∧ ∀ r H', Same H H' → FrV K H' r (worthF xs p) → Q r H'
section
variable {P : Program} {w : World} {K : PySem.W.Frag} {mg : Str → Option Value} {base : Heap}
theorem scLad : FnScope ["one", "two"] ["one", "two"] (defScope lAdd) := ⟨rfl, rfl, rfl, by decide +kernel, rfl, by decide +kernel, by decide +kernel⟩
theorem ok_ladd {f fL : Addr} {fd fdL : FuncData} (F : Fun K "_law_add" "_law_add" lAdd f fd) (FL : FnOk P w K mg base CX0 2 fL fdL ["top", "low"] spLow) (mL : mg "_law_frac" = some (.ref fL)) (kL : PySem.W.keepIn K (.ref fL) = true) (bL : Binds K fdL ["top", "low"] []) :
    FnOk P w K mg base CX0 3 f fd ["one", "two"] (spBin K addF) := by
  refine F.ok scLad (fun vs H Q E h => ?_) (fun cdv A outer s H vs Q E hr h => ?_)
  · obtain ⟨u, v, x, y, rfl, _⟩ := h
    rfl
  · obtain ⟨u, v, x, y, rfl, hx, hy, zx, zy, k⟩ := h
    refine ⟨_, pss_one (ps_ret (pe_call FL hr (by rfl) mL kL bL .nil pass0 (pa_cons (pe_op op_add (pe_op op_mulW (pe_ix ix_tup (pv 0) pe_int (fun _ _ => rfl)) (pe_ix ix_tup (pv 1) pe_int (fun _ _ => rfl))) (pe_op op_mulW (pe_ix ix_tup (pv 1) pe_int (fun _ _ => rfl)) (pe_ix ix_tup (pv 0) pe_int (fun _ _ => rfl))))
        (pa_cons (pe_op op_mulW (pe_ix ix_tup (pv 0) pe_int (fun _ _ => rfl)) (pe_ix ix_tup (pv 1) pe_int (fun _ _ => rfl))) pa_nil)))), ?_⟩
    obtain ⟨z1, z2⟩ := z9 zx zy
    refine ret_call (K := K) (D := { nx := _, rt := Q }) (ai_cons (vi_add (vi_mul (vi_ix0 rfl hx) (vi_ix1 rfl hy) (cmul (a := 3999) (b := 3999) zx.n zy.d (by decide))) (vi_mul (vi_ix0 rfl hy) (vi_ix1 rfl hx) (cmul (a := 3999) (b := 3999) zy.n zx.d (by decide)))) (ai_cons (vi_mul (vi_ix1 rfl hx) (vi_ix1 rfl hy) (cmul (a := 3999) (b := 3999) zx.d zy.d (by decide))) ai_nil)) ?_
    exact ⟨_, _, rfl, z1, z2, fun p hp => k _ _ (same_upd hp) (FrV.new (x := addF x y))⟩
theorem scLml : FnScope ["one", "two"] ["one", "two"] (defScope lMul) := ⟨rfl, rfl, rfl, by decide +kernel, rfl, by decide +kernel, by decide +kernel⟩
theorem ok_lmul {f fL : Addr} {fd fdL : FuncData} (F : Fun K "_law_mul" "_law_mul" lMul f fd) (FL : FnOk P w K mg base CX0 2 fL fdL ["top", "low"] spLow) (mL : mg "_law_frac" = some (.ref fL)) (kL : PySem.W.keepIn K (.ref fL) = true) (bL : Binds K fdL ["top", "low"] []) :
    FnOk P w K mg base CX0 3 f fd ["one", "two"] (spBin K mulF) := by
  refine F.ok scLml (fun vs H Q E h => ?_) (fun cdv A outer s H vs Q E hr h => ?_)
  · obtain ⟨u, v, x, y, rfl, _⟩ := h
    rfl
  · obtain ⟨u, v, x, y, rfl, hx, hy, zx, zy, k⟩ := h
    refine ⟨_, pss_one (ps_ret (pe_call FL hr (by rfl) mL kL bL .nil pass0 (pa_cons (pe_op op_mulW (pe_ix ix_tup (pv 0) pe_int (fun _ _ => rfl)) (pe_ix ix_tup (pv 1) pe_int (fun _ _ => rfl)))
        (pa_cons (pe_op op_mulW (pe_ix ix_tup (pv 0) pe_int (fun _ _ => rfl)) (pe_ix ix_tup (pv 1) pe_int (fun _ _ => rfl))) pa_nil)))), ?_⟩
    obtain ⟨z1, z2⟩ := z9 zx zy
    refine ret_call (K := K) (D := { nx := _, rt := Q }) (ai_cons (vi_mul (vi_ix0 rfl hx) (vi_ix0 rfl hy) (cmul (a := 3999) (b := 3999) zx.n zy.n (by decide))) (ai_cons (vi_mul (vi_ix1 rfl hx) (vi_ix1 rfl hy) (cmul (a := 3999) (b := 3999) zx.d zy.d (by decide))) ai_nil)) ?_
    exact ⟨_, _, rfl, z1, z2, fun p hp => k _ _ (same_upd hp) (FrV.new (x := mulF x y))⟩
theorem scLra : FnScope ["amount", "power", "found", "turn"] ["amount", "power"] (defScope lRaised) := ⟨rfl, rfl, rfl, by decide +kernel, rfl, by decide +kernel, by decide +kernel⟩
theorem ok_lraised {f fX : Addr} {fd fdX : FuncData} (F : Fun K "_law_raised" "_law_raised" lRaised f fd) (T : TxD mg)
    (FX : FnOk P w K mg base CX0 3 fX fdX ["one", "two"] (spBin K mulF)) (mX : mg "_law_mul" = some (.ref fX)) (kX : PySem.W.keepIn K (.ref fX) = true) (bX : Binds K fdX ["one", "two"] []) :
    FnOk P w K mg base CX0 4 f fd ["amount", "power"] (spRaised K) := by
  refine F.ok scLra (fun vs H Q E h => ?_) (fun cdv A outer s H vs Q E hr h => ?_)
  · obtain ⟨_, _, _, rfl, _⟩ := h
    rfl
  · obtain ⟨y, x, e, rfl, fv, he, sx, sp, k⟩ := h
    refine ⟨_, pss_cons (ps_set (i := 2) scLra.nd rfl (Or.inl rfl) (pe_tup (pa_cons pe_int (pa_cons pe_int pa_nil))))
      (pss_cons (ps_for PassesOwn.never rfl (pi_range1 rfl T.range (pa_cons (pv 1) pa_nil)) (pg_name (i := 3) scLra.nd rfl (Or.inl rfl))
        (pss_one (ps_set (i := 2) scLra.nd rfl (Or.inl rfl) (pe_call FX hr (by rfl) mX kX bX .nil pass0 (pa_cons (pv 2) (pa_cons (pv 0) pa_nil))))))
      (pss_one (ps_ret (pv 2)))), ?_⟩
    refine i_asg ⟨by show 2 ≤ sizeLine; decide, fun q hq => ?_⟩
    have s0 := same_upd (o := .tup [V.int 1, .int 1]) hq
    refine ⟨_, rfl, _, rfl, by omega, by omega, ?_⟩
    refine for_range (lo := 0) (n := e) (fun i σ H' => ∃ (u : V) (o3 : Option V), σ = [some y, some (.int (e : Nat)), some u, o3] ∧ Same H H' ∧ FrV K H' u (rp x i)) ⟨_, _, rfl, s0, FrV.at (x := (1, 1)) upd_same⟩ ?_ ?_
    · rintro i σ H1 hi ⟨u, o3, rfl, s1, fu⟩
      exact ⟨_, rfl, _, rfl, _, _, _, _, rfl, fu, fv.tk (Tk.same s1), sp i (by omega), sx, fun r H2 s2 fr => ⟨r, _, rfl, s1.trans s2, fr⟩⟩
    · rintro σ H1 ⟨u, o3, rfl, s1, fu⟩
      exact ⟨_, rfl, k u H1 s1 fu⟩
abbrev nLw : List Str := ["one", "numbers", "found", "powers", "amount", "power", "base"]
theorem scLw : FnScope nLw ["one", "numbers"] (defScope lWorth) := ⟨rfl, rfl, rfl, by decide +kernel, rfl, by decide +kernel, by decide +kernel⟩
theorem ok_lworth {f fX fA fR : Addr} {fd fdX fdA fdR : FuncData} (F : Fun K "_law_worth" "_law_worth" lWorth f fd) (T : TxD mg)
    (FX : FnOk P w K mg base CX0 3 fX fdX ["one", "two"] (spBin K mulF)) (mX : mg "_law_mul" = some (.ref fX)) (kX : PySem.W.keepIn K (.ref fX) = true) (bX : Binds K fdX ["one", "two"] [])
    (FA : FnOk P w K mg base CX0 3 fA fdA ["one", "two"] (spBin K addF)) (mA : mg "_law_add" = some (.ref fA)) (kA : PySem.W.keepIn K (.ref fA) = true) (bA : Binds K fdA ["one", "two"] [])
    (FR : FnOk P w K mg base CX0 4 fR fdR ["amount", "power"] (spRaised K)) (mR : mg "_law_raised" = some (.ref fR)) (kR : PySem.W.keepIn K (.ref fR) = true) (bR : Binds K fdR ["amount", "power"] []) :
    FnOk P w K mg base CX0 5 f fd ["one", "numbers"] (spLWorth K) := by
  refine F.ok scLw (fun vs H Q E h => ?_) (fun cdv A outer s H vs Q E hr h => ?_)
  · obtain ⟨_, _, _, _, _, rfl, _⟩ := h
    rfl
  · obtain ⟨n, x, y, p, xs, rfl, hn, ⟨a, vs1, rfl, ea, tp⟩, hl, ⟨b, ys, rfl, eb, fl⟩, ok, k⟩ := h
    have hr3 : Room 3 _ := hr.mono (by decide)
    refine ⟨_, pss_cons (ps_set (i := 2) scLw.nd rfl (Or.inl rfl) (pe_tup (pa_cons pe_int (pa_cons pe_int pa_nil))))
      (pss_cons (ps_for PassesOwn.never rfl (pi_tup (pv 0)) (by exact pg_tup rfl (pgs_cons (pg_name (i := 3) scLw.nd rfl (Or.inl rfl)) (pgs_cons (pg_name (i := 4) scLw.nd rfl (Or.inl rfl)) pgs_nil)))
        (pss_cons (ps_for PassesOwn.never rfl (RZ.pi_zipA (by rfl) T.zip (pa_cons (pv 3) (pa_cons (pv 1) pa_nil))) (by exact pg_tup rfl (pgs_cons (pg_name (i := 5) scLw.nd rfl (Or.inl rfl)) (pgs_cons (pg_name (i := 6) scLw.nd rfl (Or.inl rfl)) pgs_nil)))
          (pss_one (ps_set (i := 4) scLw.nd rfl (Or.inl rfl) (pe_call FX hr3 (by rfl) mX kX bX .nil pass0 (pa_cons (pv 4) (pa_cons (pe_call FR hr (by rfl) mR kR bR .nil pass0 (pa_cons (pv 6) (pa_cons (pv 5) pa_nil))) pa_nil))))))
        (pss_one (ps_set (i := 2) scLw.nd rfl (Or.inl rfl) (pe_call FA hr3 (by rfl) mA kA bA .nil pass0 (pa_cons (pv 2) (pa_cons (pv 4) pa_nil)))))))
      (pss_one (ps_ret (pv 2)))), ?_⟩
    have eSq : SqT K H b ys := SqT.of (tO_same H _ _ eb)
    have lys := fl.len
    have lxs := ok.len
    have hd := ok.deg
    refine i_asg ⟨by show 2 ≤ sizeLine; decide, fun q hq => ?_⟩
    have s0 := same_upd (o := .tup [V.int 0, .int 1]) hq
    refine ⟨_, rfl, a, rfl, ⟨vs1, SqT.same s0 ea⟩, ?_⟩
    refine for_tup (K := K) (a := a) (xs := vs1) (fun i σ H' => ∃ (tot : V) (o3 o4 o5 o6 : Option V), σ = [some (.ref a), some (.ref b), some tot, o3, o4, o5, o6] ∧ Same H H' ∧ FrV K H' tot (worthF xs (p.take i)))
      ⟨_, _, _, _, _, rfl, s0, FrV.at (x := (0, 1)) upd_same⟩ (fun i σ H' _ z => by obtain ⟨_, _, _, _, _, _, s, _⟩ := z; exact SqT.same s ea) ?_ ?_
    · rintro i xv σ H4 hx ⟨tot, o3, o4, o5, o6, rfl, s4, ft⟩
      obtain ⟨t, ht, tm⟩ := tp.at hx
      have mt : t ∈ p := List.mem_of_getElem? ht
      obtain ⟨c, vm, vx, rfl, ec, ⟨m, rfl, em⟩, fx⟩ := tm.tt (Tt.same s4)
      obtain ⟨lm, hm⟩ := ok.mon t mt
      refine ⟨_, _, rfl, ec, rfl, _, _, rfl, _, _, rfl, rfl, ?_⟩
      refine ⟨_, rfl, _, rfl, m, b, t.1.map V.int, ys, rfl, .inr ⟨SqT.of (.inl em), SqT.same s4 eSq, ?_⟩⟩
      refine for_it (walk_zipT (K := K) (a := m) (b := b) (xs := t.1.map V.int) (ys := ys) (n := n) (by rw [List.length_map]; omega)) (fun j σ H' => ∃ (pr : V) (o5 o6 : Option V), σ = [some (.ref a), some (.ref b), some tot, some (.ref m), some pr, o5, o6] ∧ Same H4 H' ∧ FrV K H' pr (termW (xs.take j) (t.1.take j, t.2)))
        ⟨vx, _, _, rfl, Same.refl _, fx⟩ (fun j σ H' _ z => by obtain ⟨_, _, _, _, s, _⟩ := z; exact ⟨SqT.of (.inl (s _ _ em)), SqT.same (s4.trans s) eSq⟩) ?_ ?_
      · rintro j v σ H5 H6 hj ⟨pr, o5, o6, rfl, s5, fp⟩ ⟨U, x1, y1, rfl, hU, rfl, hx1, hy1⟩
        have hjx : j < xs.length := by omega
        have hjm : j < t.1.length := by omega
        have ex := List.getElem?_eq_getElem hjx
        have em2 := List.getElem?_eq_getElem hjm
        have sU := same_upd (o := .tup [x1, y1]) hU
        simp only [List.getElem?_map, em2, Option.map_some, Option.some.injEq] at hx1
        subst hx1
        have s6 := (s4.trans s5).trans sU
        have fy := (fl.get j y1 _ hy1 ex).tk (Tk.same s6)
        obtain ⟨e0, e1⟩ := hm _ (List.getElem_mem hjm)
        refine ⟨U, _, rfl, SqT.of (.inl upd_same), rfl, _, _, rfl, _, _, rfl, rfl, ?_⟩
        refine ⟨_, rfl, _, rfl, _, rfl, y1, xs[j], t.1[j].toNat, by rw [Int.toNat_of_nonneg e0]; rfl, fy, by omega, ok.szx _ (List.getElem_mem hjx), fun i hi => ok.szp _ (List.getElem_mem hjx) i (by omega), fun r H7 s7 fr => ?_⟩
        refine ⟨_, _, _, _, rfl, fp.tk (Tk.same (sU.trans s7)), fr, ok.szt t mt j, ok.szp _ (List.getElem_mem hjx) _ (by omega), fun r2 H8 s8 fr2 => ⟨r2, _, _, rfl, ((s5.trans sU).trans s7).trans s8, ?_⟩⟩
        rw [termW_succ ex em2]
        exact fr2
      · rintro σ H5 ⟨pr, o5, o6, rfl, s5, fp⟩
        refine ⟨_, rfl, _, rfl, _, _, _, _, rfl, ft.tk (Tk.same s5), fp, ok.sza i, ok.szt t mt n, fun r H6 s6 fr => ⟨r, _, _, _, _, rfl, (s4.trans s5).trans s6, ?_⟩⟩
        rw [worthF_succ ht]
        rw [show xs.take n = xs from List.take_of_length_le (by omega), show t.1.take n = t.1 from List.take_of_length_le (by omega)] at fr
        exact fr
    · rintro σ H4 ⟨tot, o3, o4, o5, o6, rfl, s4, ft⟩
      rw [List.take_of_length_le (by rw [tp.len]; exact Nat.le_refl _)] at ft
      exact ⟨_, rfl, k tot H4 s4 ft⟩
end
end QP

-- of 12
set_option Elab.async false
set_option linter.all false
set_option maxRecDepth 100000
set_option maxHeartbeats 4000000
/-! ### the law's products; drawn fractions -/
namespace QP
open PySem PySem.Spec PyProof.Rows L2 KX KP KT QR QD FR
open QL (spToldOf ZeroOk)
theorem addF_zero {x y : Fr} (hx : 0 < x.2) (hy : 0 < y.2) (z : (addF x y).1 = 0) : addF x y = (0, 1) := by
  have h := Int.mul_pos hx hy
  obtain ⟨e1, e2⟩ := low_abs (t := x.1 * y.2 + y.1 * x.2) h
  have hg := gcd_pos (t := x.1 * y.2 + y.1 * x.2) h
  have z' : (low (x.1 * y.2 + y.1 * x.2) (x.2 * y.2)).1 = 0 := z
  rw [z', Int.natAbs_zero] at e1
  have d1 := Nat.div_mul_cancel (Nat.gcd_dvd_left (x.1 * y.2 + y.1 * x.2).natAbs (x.2 * y.2).natAbs)
  rw [← e1, Nat.zero_mul] at d1
  have g2 : Nat.gcd (x.1 * y.2 + y.1 * x.2).natAbs (x.2 * y.2).natAbs = (x.2 * y.2).natAbs := by rw [← d1, Nat.gcd_zero_left]
  rw [g2, Nat.div_self (by rw [← g2]; exact hg)] at e2
  exact Prod.ext z' e2
theorem putD_mem' {D : Poly} {m : Mon} {x : Fr} {t : Mon × Fr} (h : t ∈ putD D m x) : t ∈ D ∨ t = (m, x) := putD_mem h
theorem colD_zero {L : Poly} : ∀ {D : Poly}, (∀ t ∈ D, 0 < t.2.2 ∧ (t.2.1 = 0 → t.2 = (0, 1))) → (∀ t ∈ L, 0 < t.2.2) → ∀ t ∈ colD D L, 0 < t.2.2 ∧ (t.2.1 = 0 → t.2 = (0, 1)) := by
  induction L with
  | nil => exact fun h _ => h
  | cons u L ih =>
    refine fun {D} h hL => ih (D := addD D u.1 u.2) (fun t ht => ?_) fun t ht => hL t (List.mem_cons_of_mem _ ht)
    rcases putD_mem ht with ht | rfl
    · exact h t ht
    · have p1 : 0 < ((atD D u.1).getD (0, 1)).2 := by
        cases q : atD D u.1 with
        | none => decide
        | some y => exact (h _ (atD_of q)).1
      have p2 := hL u List.mem_cons_self
      have := low_abs (t := ((atD D u.1).getD (0, 1)).1 * u.2.2 + u.2.1 * ((atD D u.1).getD (0, 1)).2) (Int.mul_pos p1 p2)
      refine ⟨?_, addF_zero p1 p2⟩
      have e2 := this.2
      have g := gcd_pos (t := ((atD D u.1).getD (0, 1)).1 * u.2.2 + u.2.1 * ((atD D u.1).getD (0, 1)).2) (Int.mul_pos p1 p2)
      show 0 < (low _ _).2
      rw [e2]
      have hp := Int.mul_pos p1 p2
      have := Nat.div_pos (Nat.le_of_dvd (by omega) (Nat.gcd_dvd_right (((atD D u.1).getD (0, 1)).1 * u.2.2 + u.2.1 * ((atD D u.1).getD (0, 1)).2).natAbs (((atD D u.1).getD (0, 1)).2 * u.2.2).natAbs)) g
      omega
theorem colD_zeroOk {L : Poly} (h : ∀ t ∈ L, 0 < t.2.2) : ZeroOk (colD [] L) := fun t ht => (colD_zero (D := []) (fun _ h => by cases h) h t ht).2
def spLProd (K : PySem.W.Frag) : Sp := fun vs H Q _ => ∃ (n : Nat) (x y : V) (p q : Poly) (M N M' N' : Nat), vs = [x, y] ∧ n ≤ 4 ∧ PolV K H x p ∧ PolV K H y q ∧ (∀ t ∈ p, t.1.length = n) ∧ (∀ t ∈ q, t.1.length = n) ∧ p.length * q.length ≤ 900 ∧
  Small M N 1 ∧ Small M' N' 1 ∧ Small (M * M') (N * N') 1300 ∧ (∀ t ∈ p, Bd M N t.2) ∧ (∀ t ∈ q, Bd M' N' t.2) ∧ ∀ v H', Same H H' → PolV K H' v (inOrd (colD [] (prodL p q))) → Q v H'
section
variable {P : Program} {w : World} {K : PySem.W.Frag} {mg : Str → Option Value} {base : Heap}
abbrev nLp : List Str := ["one", "two", "found", "powers", "amount", "others", "factor", "both", "here", "there"]
theorem scLpr : FnScope nLp ["one", "two"] (defScope lProduct) := ⟨rfl, rfl, rfl, by decide +kernel, rfl, by decide +kernel, by decide +kernel⟩
theorem ok_lproduct {f fA fX fT : Addr} {fd fdA fdX fdT : FuncData} (F : Fun K "_law_product" "_law_product" lProduct f fd) (T : TxD mg)
    (FA : FnOk P w K mg base CX0 3 fA fdA ["one", "two"] (spBin K addF)) (mA : mg "_law_add" = some (.ref fA)) (kA : PySem.W.keepIn K (.ref fA) = true) (bA : Binds K fdA ["one", "two"] [])
    (FX : FnOk P w K mg base CX0 3 fX fdX ["one", "two"] (spBin K mulF)) (mX : mg "_law_mul" = some (.ref fX)) (kX : PySem.W.keepIn K (.ref fX) = true) (bX : Binds K fdX ["one", "two"] [])
    (FT : FnOk P w K mg base CX0 4 fT fdT ["terms"] (spToldOf K)) (mT : mg "_law_told_of" = some (.ref fT)) (kT : PySem.W.keepIn K (.ref fT) = true) (bT : Binds K fdT ["terms"] []) :
    FnOk P w K mg base CX0 5 f fd ["one", "two"] (spLProd K) := by
  refine F.ok scLpr (fun vs H Q E h => ?_) (fun cdv A outer s H vs Q E hr h => ?_)
  · obtain ⟨_, _, _, _, _, _, _, _, _, rfl, _⟩ := h
    rfl
  · obtain ⟨n, x, y, p, q, M, N, M', N', rfl, hn, px2, py2, lp, lq, hl, sm1, sm2, sm, hbp, hbq, k⟩ := h
    have hr3 : Room 3 _ := hr.mono (by decide)
    have hu1 : (A.deeper (envOfC "_law_product" (defScope lProduct) s.heap.objs.size f cdv)).units + 1 < cLine := by have := hr.un; omega
    refine ⟨_, pss_cons (ps_set (i := 2) scLpr.nd rfl (Or.inl rfl) pe_dnewT)
      (pss_cons (ps_for PassesOwn.never rfl (pi_tup (pv 0)) (by exact pg_tup rfl (pgs_cons (pg_name (i := 3) scLpr.nd rfl (Or.inl rfl)) (pgs_cons (pg_name (i := 4) scLpr.nd rfl (Or.inl rfl)) pgs_nil)))
        (pss_one (ps_for PassesOwn.never rfl (pi_tup (pv 1)) (by exact pg_tup rfl (pgs_cons (pg_name (i := 5) scLpr.nd rfl (Or.inl rfl)) (pgs_cons (pg_name (i := 6) scLpr.nd rfl (Or.inl rfl)) pgs_nil)))
          (pss_cons (ps_set (i := 7) scLpr.nd rfl (Or.inl rfl) (pe_tupleOf (by rfl) T.tuple (pe_lc (own := [("here", 8), ("there", 9)]) (g := gTup K 2 (gCons (gName 8) (gCons (gName 9) gNil))) (tt := tYes) rfl scLpr.nd (RZ.pi_zipA (by rfl) T.zip (pa_cons (pv 3) (pa_cons (pv 5) pa_nil)))
              (blkOk_by (N := nLp) (sc := defScope lProduct) (by decide +kernel)) (fun _ _ _ _ _ => by exact pg_tup rfl (pgs_cons (pg_name (i := 8) scLpr.nd rfl (Or.inl rfl)) (pgs_cons (pg_name (i := 9) scLpr.nd rfl (Or.inl rfl)) pgs_nil))) (fun _ _ _ _ _ => pts_nil)
              (fun _ _ _ _ _ => pe_op op_add (pv 8) (pv 9)))))
          (pss_one (ps_dput hu1 (pv 2) (pv 7) (pe_call FA hr3 (by rfl) mA kA bA .nil pass0 (pa_cons (pe_dget2 hu1 (pv 2) (pv 7) (pe_tup (pa_cons pe_int (pa_cons pe_int pa_nil))) ⟨rfl, rfl, rfl, rfl⟩) (pa_cons (pe_call FX hr3 (by rfl) mX kX bX .nil pass0 (pa_cons (pv 4) (pa_cons (pv 6) pa_nil))) pa_nil))) rfl)))))) 
      (pss_one (ps_ret (pe_call FT hr (by rfl) mT kT bT .nil pass0 (pa_cons (pv 2) pa_nil))))), ?_⟩
    obtain ⟨a, us, rfl, ea, tp⟩ := px2
    obtain ⟨b, ws, rfl, eb, tq⟩ := py2
    refine i_asg fun d hd0 => ?_
    have s0 := same_upd (o := .dT []) hd0
    refine ⟨_, rfl, a, rfl, ⟨us, SqT.same s0 ea⟩, ?_⟩
    refine for_tup (K := K) (a := a) (xs := us) (fun i σ H' => ∃ o5 o6 o7 o8 o9 : Option V, σ = [some (.ref a), some (.ref b), some (.ref d), o5, o6, o7, o8, o9, none, none] ∧ Same H H' ∧ DicV K H' d (colD [] (prodL (p.take i) q)))
      ⟨_, _, _, _, _, rfl, s0, ⟨[], upd_same, .nil⟩⟩ (fun i σ H' _ z => by obtain ⟨_, _, _, _, _, _, s, _⟩ := z; exact SqT.same s ea) ?_ ?_
    · rintro i xv σ H3 hx ⟨o5, o6, o7, o8, o9, rfl, s3, dv3⟩
      obtain ⟨t, ht, tm⟩ := tp.at hx
      have hi : i < p.length := (List.getElem?_eq_some_iff.mp ht).1
      have mt : t ∈ p := List.mem_of_getElem? ht
      obtain ⟨c, vm, vx, rfl, ec, ⟨m, rfl, em⟩, fx⟩ := tm
      refine ⟨_, _, rfl, SqT.same s3 ec, rfl, _, _, rfl, _, _, rfl, rfl, ?_⟩
      refine ⟨_, rfl, b, rfl, ⟨ws, SqT.same s3 eb⟩, ?_⟩
      refine for_tup (K := K) (a := b) (xs := ws) (fun j σ H' => ∃ o7 o8 o9 : Option V, σ = [some (.ref a), some (.ref b), some (.ref d), some (.ref m), some vx, o7, o8, o9, none, none] ∧ Same H H' ∧ DicV K H' d (colD [] (prodU p q t i j)))
        ⟨_, _, _, rfl, s3, by rw [show prodU p q t i 0 = prodL (p.take i) q by simp [prodU]]; exact dv3⟩ (fun i σ H' _ z => by obtain ⟨_, _, _, _, s, _⟩ := z; exact SqT.same s eb) ?_ ?_
      · rintro j yv σ H4 hy ⟨o7, o8, o9, rfl, s4, dv4⟩
        obtain ⟨u, hu, um⟩ := tq.at hy
        have hj : j < q.length := (List.getElem?_eq_some_iff.mp hu).1
        have mu : u ∈ q := List.mem_of_getElem? hu
        obtain ⟨c', vm', vy, rfl, ec', ⟨m', rfl, em'⟩, fy⟩ := um
        refine ⟨_, _, rfl, SqT.same s4 ec', rfl, _, _, rfl, _, _, rfl, rfl, ?_⟩
        have lmm : t.1.length = u.1.length := by rw [lp t mt, lq u mu]
        refine i_asg ⟨_, rfl, _, rfl, m, m', _, _, rfl, .inr ⟨SqT.of (.inl (s4 _ _ em)), SqT.of (.inl (s4 _ _ em')), fun D hD => ?_⟩⟩
        refine lc_add (m1 := t.1) (m2 := u.1) (i := 8) (j := 9) (SqT.of (.inl (s4 _ _ em))) (SqT.of (.inl (s4 _ _ em'))) lmm (by rw [lp t mt]; omega) hD (fun x y => rfl) (fun x y => rfl) (fun x y => rfl) fun H5 s5 eD => .inl ⟨D, _, rfl, SqL.of eD, fun k' hk' => ?_⟩
        have s6 := same_upd (o := .tup ((addM t.1 u.1).map V.int)) hk'
        have ek5 : (upd H5 k' (.tup ((addM t.1 u.1).map V.int))) k' = some (.tup ((addM t.1 u.1).map V.int)) := upd_same
        have s45 := s5.trans s6
        generalize upd H5 k' (.tup ((addM t.1 u.1).map V.int)) = H5' at *
        have dv5 : DicV K H5' d (colD [] (prodU p q t i j)) := by
          obtain ⟨kv, e, hD⟩ := dv4
          exact ⟨kv, s45 _ _ e, hD.tt (Tt.same s45)⟩
        refine ⟨_, rfl, d, rfl, isD_dic dv5, _, rfl, by show 2 ≤ sizeLine; decide, fun z hz => ?_⟩
        have sz := same_upd (o := .tup [V.int 0, .int 1]) hz
        have fN : FrV K (upd H5' z (.tup [V.int 0, .int 1])) (.ref z) (0, 1) := FrV.at (x := (0, 1)) upd_same
        have ek := sz _ _ ek5
        have s46 := s45.trans sz
        have s26 := s4.trans s46
        generalize upd H5' z (.tup [V.int 0, .int 1]) = H6 at *
        have dv6 : DicV K H6 d (colD [] (prodU p q t i j)) := by
          obtain ⟨kv, e, hD⟩ := dv5
          exact ⟨kv, sz _ _ e, hD.tt (Tt.same sz)⟩
        have lU : (prodU p q t i j).length ≤ 900 := Nat.le_trans (prodU_len hi (by omega)) hl
        have bdU : ∀ e ∈ colD [] (prodU p q t i j), Bd (M * M') ((prodU p q t i j).length * (N * N')) e.2 := fun e he => by
          have := colD_bd (M := M * M') (N := N * N') (D := []) (a := 0) (L := prodU p q t i j) (fun _ h => by cases h) (prodU_bd mt hbp hbq) e he
          rwa [Nat.zero_add] at this
        obtain ⟨o, og, fo⟩ := dic_get dv6 ek fN
        have sz1 : Sz 4000 ((atD (colD [] (prodU p q t i j)) (addM t.1 u.1)).getD (0, 1)) := by
          refine sm.sz (i := (prodU p q t i j).length) (by omega) ?_
          cases z : atD (colD [] (prodU p q t i j)) (addM t.1 u.1) with
          | none => exact bd0 _
          | some y => exact bdU _ (atD_of z)
        have sz2 : Sz 4000 (mulF t.2 u.2) := sm.sz (i := 1) (by decide) (by rw [Nat.one_mul]; exact (hbp t mt).mul (hbq u mu))
        refine ⟨o, og, _, rfl, _, rfl, vx, vy, t.2, u.2, rfl, fx.tk (Tk.same s26), fy.tk (Tk.same s26), sm1.one (hbp t mt), sm2.one (hbq u mu), fun r H7 s7 fr => ?_⟩
        refine ⟨_, _, _, _, rfl, fo.tk (Tk.same s7), fr, sz1, sz2, fun r2 H8 s8 fr2 => ?_⟩
        have s68 := s7.trans s8
        obtain ⟨kvs, dp, tt, dv8⟩ := dic_put (by
          obtain ⟨kv, e, hD⟩ := dv6
          exact (⟨kv, s68 _ _ e, hD.tt (Tt.same s68)⟩ : DicV K H8 d _)) (s68 _ _ ek) fr2 (by have := colD_len (D := []) (L := prodU p q t i j); simp at this; omega)
        refine ⟨_, rfl, _, rfl, d, _, rfl, dp, ?_⟩
        refine ⟨_, _, _, rfl, same_put (s26.trans s68) hd0, ?_⟩
        rw [prodU_succ hu, colD_snoc]
        exact dv8
      · rintro σ H4 ⟨o7, o8, o9, rfl, s4, dv4⟩
        refine ⟨_, _, _, _, _, rfl, s4, ?_⟩
        rw [prodL_snoc ht]
        unfold prodU at dv4
        rw [show q.take ws.length = q from List.take_of_length_le (by rw [tq.len]; exact Nat.le_refl _)] at dv4
        exact dv4
    · rintro σ H3 ⟨o5, o6, o7, o8, o9, rfl, s3, dv3⟩
      rw [List.take_of_length_le (by rw [tp.len]; exact Nat.le_refl _)] at dv3
      have lc := colD_len (D := []) (L := prodL p q)
      rw [prodL_len] at lc
      have pos : ∀ t ∈ prodL p q, 0 < t.2.2 := fun t ht => (prodL_bd hbp hbq t ht).pos
      exact ⟨_, rfl, d, _, rfl, dv3, colD_nodup (by simp), by simp at lc; omega, colD_zeroOk pos, fun v H4 s4 _ pv4 => k v H4 (s3.trans s4) pv4⟩
end
end QP

set_option Elab.async false
set_option linter.all false
set_option maxRecDepth 100000
set_option maxHeartbeats 4000000
/-! ### dict(a tuple of pairs), the keys tuples -/
namespace QR
open PySem PySem.Spec PyProof.Rows L2 KX KP
section
variable {X : Cx}
def PairT (K : PySem.W.Frag) (H : Hp) (u : V) (kv : List Key × V) : Prop := ∃ b c, u = .ref b ∧ SqT K H b [.ref c, kv.2] ∧ H c = some (.tup (kv.1.map kV))
def rDictT (K : PySem.W.Frag) : List V → Hp → VK → Prop := fun vs H Q => ∃ (a : Addr) (o : Obj) (ws : List V) (kvs : List (List Key × V)), vs = [.ref a] ∧ o.dict = none ∧ H a = some (.frz o (.tup ws)) ∧ Paired (PairT K H) ws kvs ∧ (kvs.map (·.1)).Nodup ∧ kvs.length ≤ 1000 ∧ ∀ d, H d = none → Q (.ref d) (upd H d (.dT kvs))
theorem pairsT_of {pins : List (Addr × Obj)} {σ : L2.St} {H : Hp} {s : Shared} (I : Inv X pins σ H s) : ∀ {ws : List V} {kvs : List (List Key × V)} {its : List Value}, Paired (PairT X.K H) ws kvs → Vals ws its →
    ∃ (ps : List (List Key × Addr × Value)) (bs : List Addr), KT H kvs ps ∧ its = bs.map Value.ref ∧ ps.length = its.length ∧ ∀ (j : Nat) (x : List Key × Addr × Value), ps[j]? = some x → ∃ b, bs[j]? = some b ∧ s.heap.IsTuple b #[.ref x.2.1, x.2.2]
  | _, _, _, .nil, .nil => ⟨[], [], .nil, rfl, rfl, fun j x e => by simp at e⟩
  | _, _, _, .cons h t, .cons rv rt => by
    obtain ⟨ps, bs, kt, ei, hl, hp⟩ := pairsT_of I t rt
    obtain ⟨b, c, rfl, hb, hc⟩ := h
    cases rv
    obtain ⟨its2, rv2, ht, _⟩ := I.tuple hb
    obtain ⟨u, y, e2, ru, ry⟩ := vals2 rv2
    subst e2
    cases ru
    refine ⟨(_, c, y) :: ps, b :: bs, .cons ⟨rfl, hc, ry⟩ kt, by rw [ei]; rfl, by rw [List.length_cons, List.length_cons, hl], fun j x e => ?_⟩
    cases j with
    | zero =>
      cases e
      exact ⟨b, rfl, ht⟩
    | succ j =>
      obtain ⟨b', e1, e2⟩ := hp j x (by simpa using e)
      exact ⟨b', by simpa using e1, e2⟩
theorem call_dictT (hcalm : X.calm = true) (hu : X.A.units + 2 < cLine) : CallR X (.type "dict") (rDictT X.K) := by
  intro pins s σ H vs us Q I r h
  obtain ⟨a, o, ws, kvs, rfl, hod, ha, hp, hn, hl, q⟩ := h
  obtain rfl := Vals.ref1 r
  obtain ⟨h1, hz, its, rv, ht⟩ := (show ObjOk X.prog X.w H s.heap a (.frz o (.tup ws)) from I.hok a _ ha)
  obtain ⟨ps, bs, kt, ei, hlen, hps⟩ := pairsT_of I hp rv
  subst ei
  have hb : bs.length = ps.length := by rw [hlen, List.length_map]
  have hk : ps.map (·.1) = kvs.map (·.1) := by
    have : ∀ {l : List (List Key × V)} {m : List (List Key × Addr × Value)}, KT H l m → m.map (·.1) = l.map (·.1) := by
      intro l m z
      induction z with
      | nil => rfl
      | cons z _ ih => rw [List.map_cons, List.map_cons, ih, z.1]
    exact this kt
  have lk : ps.length = kvs.length := by
    have := congrArg List.length hk
    rwa [List.length_map, List.length_map] at this
  have is0 : ∀ x ∈ ps, (tupleKind (mixKind X.prog X.w)).is s.heap x.1 x.2.1 := by
    have : ∀ {l : List (List Key × V)} {m : List (List Key × Addr × Value)}, KT H l m → ∀ x ∈ m, (tupleKind (mixKind X.prog X.w)).is s.heap x.1 x.2.1 := by
      intro l m z
      induction z with
      | nil => intro x hx; cases hx
      | cons z _ ih =>
        intro x hx
        rcases List.mem_cons.mp hx with rfl | hx
        · exact key_of I.hok (by rw [← z.1]; exact z.2.1)
        · exact ih x hx
    exact this kt
  have P := PairArg.tuple (prog := X.prog) (w := X.w) a (bs.map Value.ref).toArray (fun j => bs.getD j 0) (ps.map fun x => (Value.ref x.2.1, x.2.2))
  refine call_dict_pairsH (knd := tupleKind (mixKind X.prog X.w)) (ps := ps) P (I.ok.hd hcalm) (tupleKind_room_in1 (by show X.A.units + 1 + 1 < cLine; omega)) ⟨?_, ?_, ?_⟩ ⟨by rw [List.length_map], ?_⟩ (fun h' hk' x hx => ?_) (by rw [List.length_map, lk]; exact Nat.le_trans hl (by decide)) ?_
  · obtain ⟨o', e1, c1, n, d1⟩ := ht
    rw [h1] at e1
    cases e1
    exact ⟨o, n, h1, c1, hod, d1⟩
  · simp [hb]
  · intro j k v e
    rw [List.getElem?_map] at e
    cases z : ps[j]? with
    | none => rw [z] at e; cases e
    | some x =>
      rw [z] at e
      obtain ⟨b, eb, it⟩ := hps j x z
      cases e
      refine ⟨?_, .inl ?_⟩
      · simp [eb]
      · show s.heap.IsTuple (bs.getD j 0) _
        rw [List.getD_eq_getElem?_getD, eb]
        exact it
  · intro i key v e
    have e : (ps.map fun x => (Value.ref x.2.1, x.2.2))[i]? = some (key, v) := e
    rw [List.getElem?_map] at e
    cases z : ps[i]? with
    | none => rw [z] at e; cases e
    | some x =>
      rw [z] at e
      cases e
      exact ⟨x.1, x.2.1, rfl, rfl⟩
  · obtain ⟨o2, it2, n2, e1, e2, e3, e4⟩ := is0 x hx
    exact ⟨o2, it2, n2, hk' _ _ (Nat.ne_of_lt (Heap.lt_size e1)) (fun z => nomatch z) e1, e2, e3, e4⟩
  · intro h' tk hd' hk'
    rw [storedAllH_nil_of_nodup ps (by rw [hk]; exact hn)] at hd'
    have hf := I.hok.fresh (Nat.le_refl s.heap.objs.size)
    obtain ⟨o2, es, ep, hq, h2, h3, h4, _, h5⟩ := hd'
    refine ⟨.ref s.heap.objs.size, _, I.laid (a := s.heap.objs.size) (o := .dT kvs) (h' := h') (t' := tk) (fun b ob e => hk' _ _ (fun z => nomatch z) e) (Nat.le_refl _) ?_, rfl, q _ hf⟩
    refine ⟨Nat.le_trans hl (by decide), beq_eq_false_iff_ne.mpr (Ne.symm (Nat.ne_of_lt I.big)), ps, KT.keeps kt fun b ys e => by rw [upd_ne (fun z => by rw [z, hf] at e; cases e)]; exact e, o2, es, ep, hq, h2, h3, h4, h5⟩
end
end QR

-- of 12
set_option Elab.async false
set_option linter.all false
set_option maxRecDepth 100000
set_option maxHeartbeats 4000000
/-! ### the law's sums; drawn fractions -/
namespace QP
open PySem PySem.Spec PyProof.Rows L2 KX KP KT QR QD FR
open QL (spToldOf ZeroOk PolF NumOk spNum)
open KJ (JarAt But spDip spOne)
abbrev lSum : Stmt := top 51
abbrev lNumbers : Stmt := top 56
theorem pairs_terms {K : PySem.W.Frag} {H : Hp} : ∀ {us : List V} {p : Poly}, TermsV K H us p → ∃ kvs : List (List Key × V), Paired (PairT K H) us kvs ∧ DicsV K H kvs p ∧ kvs.map (·.1) = p.map fun t => keyM t.1
  | _, _, .nil => ⟨[], .nil, .nil, rfl⟩
  | _, _, .cons h r => by
    obtain ⟨kvs, h1, h2, h3⟩ := pairs_terms r
    obtain ⟨b, vm, vx, rfl, eb, ⟨c, rfl, ec⟩, fx⟩ := h
    exact ⟨(keyM _, vx) :: kvs, .cons ⟨b, c, rfl, eb, by rw [keyM_v]; exact ec⟩ h1, .cons fx h2, by rw [List.map_cons, h3]; rfl⟩
def scaL (c : Fr) (q : Poly) : Poly := q.map fun t => (t.1, mulF c t.2)
def spLSum (K : PySem.W.Frag) : Sp := fun vs H Q _ => ∃ (x y z : V) (p q : Poly) (c : Fr) (M N : Nat), vs = [x, y, z] ∧ PolF K H x p ∧ PolV K H y q ∧ FrV K H z c ∧ Sz 4000 c ∧ (p.map (·.1)).Nodup ∧ p.length + q.length ≤ 900 ∧ Small M N 1300 ∧ (∀ t ∈ p, Bd M N t.2 ∧ (t.2.1 = 0 → t.2 = (0, 1))) ∧ (∀ t ∈ q, Sz 4000 t.2) ∧ (∀ t ∈ scaL c q, Bd M N t.2) ∧
  ∀ v H', Same H H' → PolV K H' v (inOrd (colD p (scaL c q))) → Q v H'
def spNums (K : PySem.W.Frag) : Sp := fun vs H Q _ => ∃ j n many, vs = [.ref j, .int (many : Nat)] ∧ JarAt H j n ∧ n ≤ 800000 ∧ many ≤ 4 ∧ ∀ v xs H', RowT K H' v xs → xs.length = many → (∀ x ∈ xs, NumOk x) → But j H H' → JarAt H' j (n + 40) → Q v H'
section
variable {P : Program} {w : World} {K : PySem.W.Frag} {mg : Str → Option Value} {base : Heap}
abbrev nLs : List Str := ["one", "two", "by", "found", "powers", "amount"]
theorem scLsu : FnScope nLs ["one", "two", "by"] (defScope lSum) := ⟨rfl, rfl, rfl, by decide +kernel, rfl, by decide +kernel, by decide +kernel⟩
theorem ok_lsum {f fA fX fT : Addr} {fd fdA fdX fdT : FuncData} (F : Fun K "_law_sum" "_law_sum" lSum f fd) (mD : mg "dict" = none)
    (FA : FnOk P w K mg base CX0 3 fA fdA ["one", "two"] (spBin K addF)) (mA : mg "_law_add" = some (.ref fA)) (kA : PySem.W.keepIn K (.ref fA) = true) (bA : Binds K fdA ["one", "two"] [])
    (FX : FnOk P w K mg base CX0 3 fX fdX ["one", "two"] (spBin K mulF)) (mX : mg "_law_mul" = some (.ref fX)) (kX : PySem.W.keepIn K (.ref fX) = true) (bX : Binds K fdX ["one", "two"] [])
    (FT : FnOk P w K mg base CX0 4 fT fdT ["terms"] (spToldOf K)) (mT : mg "_law_told_of" = some (.ref fT)) (kT : PySem.W.keepIn K (.ref fT) = true) (bT : Binds K fdT ["terms"] []) :
    FnOk P w K mg base CX0 5 f fd ["one", "two", "by"] (spLSum K) := by
  refine F.ok scLsu (fun vs H Q E h => ?_) (fun cdv A outer s H vs Q E hr h => ?_)
  · obtain ⟨_, _, _, _, _, _, _, _, rfl, _⟩ := h
    rfl
  · obtain ⟨x, y, z, p, q, c, M, N, rfl, ⟨a, oa, us, rfl, hoa, ea, tp⟩, ⟨b, ws, rfl, eb, tq⟩, fz, szc, nd, hl, sm, hbp, szq, hbq, k⟩ := h
    have hr3 : Room 3 _ := hr.mono (by decide)
    have hu1 : (A.deeper (envOfC "_law_sum" (defScope lSum) s.heap.objs.size f cdv)).units + 1 < cLine := by have := hr.un; omega
    have hu2 : (A.deeper (envOfC "_law_sum" (defScope lSum) s.heap.objs.size f cdv)).units + 2 < cLine := by have := hr.un; omega
    refine ⟨_, pss_cons (ps_set (i := 3) scLsu.nd rfl (Or.inl rfl) (pe_callTy (call_dictT rfl hu2) (by rfl) mD (by decide +kernel) (pa_cons (pv 0) pa_nil)))
      (pss_cons (ps_for PassesOwn.never rfl (pi_tup (pv 1)) (by exact pg_tup rfl (pgs_cons (pg_name (i := 4) scLsu.nd rfl (Or.inl rfl)) (pgs_cons (pg_name (i := 5) scLsu.nd rfl (Or.inl rfl)) pgs_nil)))
        (pss_one (ps_dput hu1 (pv 3) (pv 4) (pe_call FA hr3 (by rfl) mA kA bA .nil pass0 (pa_cons (pe_dget2 hu1 (pv 3) (pv 4) (pe_tup (pa_cons pe_int (pa_cons pe_int pa_nil))) ⟨rfl, rfl, rfl, rfl⟩) (pa_cons (pe_call FX hr3 (by rfl) mX kX bX .nil pass0 (pa_cons (pv 2) (pa_cons (pv 5) pa_nil))) pa_nil))) rfl)))
      (pss_one (ps_ret (pe_call FT hr (by rfl) mT kT bT .nil pass0 (pa_cons (pv 3) pa_nil))))), ?_⟩
    obtain ⟨kvs, pk, dk, ek⟩ := pairs_terms tp
    have lk : kvs.length = p.length := by
      have := congrArg List.length ek
      rwa [List.length_map, List.length_map] at this
    have ndk : (kvs.map (·.1)).Nodup := by
      rw [ek, show (p.map fun t => keyM t.1) = (p.map (·.1)).map keyM by rw [List.map_map]; rfl, List.Nodup, List.pairwise_map]
      exact nd.imp fun ne e => ne (keyM_inj e)
    refine i_asg ⟨_, rfl, a, oa, us, kvs, rfl, hoa, ea, pk, ndk, by omega, fun d hd0 => ?_⟩
    have s0 := same_upd (o := .dT kvs) hd0
    refine ⟨_, rfl, b, rfl, ⟨ws, SqT.same s0 eb⟩, ?_⟩
    refine for_tup (K := K) (a := b) (xs := ws) (fun i σ H' => ∃ o4 o5 : Option V, σ = [some (.ref a), some (.ref b), some z, some (.ref d), o4, o5] ∧ Same H H' ∧ DicV K H' d (colD p (scaL c (q.take i))))
      ⟨_, _, rfl, s0, ⟨kvs, upd_same, dk.tt (Tt.same s0)⟩⟩ (fun i σ H' _ z => by obtain ⟨_, _, _, s, _⟩ := z; exact SqT.same s eb) ?_ ?_
    · rintro i xv σ H4 hx ⟨o4, o5, rfl, s4, dv4⟩
      obtain ⟨t, ht, tm⟩ := tq.at hx
      have hi : i < q.length := (List.getElem?_eq_some_iff.mp ht).1
      have mt : t ∈ q := List.mem_of_getElem? ht
      obtain ⟨e, vm, vx, rfl, ec, ⟨m, rfl, em⟩, fx⟩ := tm.tt (Tt.same s4)
      refine ⟨_, _, rfl, ec, rfl, _, _, rfl, _, _, rfl, rfl, ?_⟩
      refine ⟨_, rfl, d, rfl, isD_dic dv4, _, rfl, by show 2 ≤ sizeLine; decide, fun u hu => ?_⟩
      have su := same_upd (o := .tup [V.int 0, .int 1]) hu
      have fN : FrV K (upd H4 u (.tup [V.int 0, .int 1])) (.ref u) (0, 1) := FrV.at (x := (0, 1)) upd_same
      have dv6 : DicV K (upd H4 u (.tup [V.int 0, .int 1])) d (colD p (scaL c (q.take i))) := by
        obtain ⟨kv, e, hD⟩ := dv4
        exact ⟨kv, su _ _ e, hD.tt (Tt.same su)⟩
      have ek6 := su _ _ em
      have s46 := s4.trans su
      generalize upd H4 u (.tup [V.int 0, .int 1]) = H6 at *
      have lsc : (scaL c (q.take i)).length = i := by unfold scaL; rw [List.length_map, List.length_take]; omega
      have bdU : ∀ e ∈ colD p (scaL c (q.take i)), Bd M ((i + 1) * N) e.2 := fun e he => by
        have := colD_bd (M := M) (N := N) (D := p) (a := N) (L := scaL c (q.take i)) (fun t ht => (hbp t ht).1) (fun t ht => by
          obtain ⟨u, hu, rfl⟩ := List.mem_map.mp ht
          exact hbq _ (List.mem_map.mpr ⟨u, List.mem_of_mem_take hu, rfl⟩)) e he
        rw [lsc] at this
        rw [Nat.succ_mul, Nat.add_comm]
        exact this
      obtain ⟨o, og, fo⟩ := dic_get dv6 ek6 fN
      have sz1 : Sz 4000 ((atD (colD p (scaL c (q.take i))) t.1).getD (0, 1)) := by
        refine sm.sz (i := i + 1) (by omega) ?_
        cases z : atD (colD p (scaL c (q.take i))) t.1 with
        | none => exact bd0 _
        | some y => exact bdU _ (atD_of z)
      have sz2 : Sz 4000 (mulF c t.2) := sm.sz (i := 1) (by decide) (by rw [Nat.one_mul]; exact hbq _ (List.mem_map.mpr ⟨t, mt, rfl⟩))
      refine ⟨o, og, _, rfl, _, rfl, z, vx, c, t.2, rfl, fz.tk (Tk.same s46), fx.tk (Tk.same su), szc, szq t mt, fun r H7 s7 fr => ?_⟩
      refine ⟨_, _, _, _, rfl, fo.tk (Tk.same s7), fr, sz1, sz2, fun r2 H8 s8 fr2 => ?_⟩
      have s68 := s7.trans s8
      obtain ⟨kvs8, dp, tt, dv8⟩ := dic_put (by
        obtain ⟨kv, e, hD⟩ := dv6
        exact (⟨kv, s68 _ _ e, hD.tt (Tt.same s68)⟩ : DicV K H8 d _)) (s68 _ _ ek6) fr2 (by have := colD_len (D := p) (L := scaL c (q.take i)); omega)
      refine ⟨_, rfl, _, rfl, d, _, rfl, dp, ?_⟩
      refine ⟨_, _, rfl, same_put (s46.trans s68) hd0, ?_⟩
      rw [show scaL c (q.take (i + 1)) = scaL c (q.take i) ++ [(t.1, mulF c t.2)] by unfold scaL; rw [List.take_add_one, ht, List.map_append]; rfl, colD_snoc]
      exact dv8
    · rintro σ H4 ⟨o4, o5, rfl, s4, dv4⟩
      rw [List.take_of_length_le (by rw [tq.len]; exact Nat.le_refl _)] at dv4
      have lc := colD_len (D := p) (L := scaL c q)
      have lsq : (scaL c q).length = q.length := List.length_map _
      exact ⟨_, rfl, d, _, rfl, dv4, colD_nodup nd, by omega, fun t ht => (colD_zero (fun t ht => ⟨(hbp t ht).1.pos, (hbp t ht).2⟩) (fun t ht => (hbq t ht).pos) t ht).2, fun v H5 s5 _ pv5 => k v H5 (s4.trans s5) pv5⟩
end
end QP

-- of 12
set_option Elab.async false
set_option linter.all false
set_option maxRecDepth 100000
set_option maxHeartbeats 4000000
/-! ### drawn fractions -/
namespace QP
open PySem PySem.Spec PyProof.Rows L2 KX KP KT QR QD FR
open QL (NumOk spNum)
open KJ (JarAt But spDip spOne)
theorem bt_but {j : Addr} {H H' : Hp} {p : Addr} {o : HO} (hp : H p = none) (b : But j H H') : But j H (upd H' p o) := fun c u n e => by
  rw [upd_ne (fun z => by rw [z, hp] at e; cases e)]
  exact b c u n e
section
variable {P : Program} {w : World} {K : PySem.W.Frag} {mg : Str → Option Value} {base : Heap}
theorem scLnu : FnScope ["jar", "many", "found", "turn"] ["jar", "many"] (defScope lNumbers) := ⟨rfl, rfl, rfl, by decide +kernel, rfl, by decide +kernel, by decide +kernel⟩
theorem ok_lnumbers {f fO fN : Addr} {fd fdO fdN : FuncData} (F : Fun K "_law_numbers" "_law_numbers" lNumbers f fd) (T : TxD mg)
    (FO : FnOk P w K mg base CX0 2 fO fdO ["jar", "some"] (spOne K)) (mO : mg "_law_of" = some (.ref fO)) (kO : PySem.W.keepIn K (.ref fO) = true) (bO : Binds K fdO ["jar", "some"] [])
    (FN : FnOk P w K mg base CX0 3 fN fdN ["jar"] spNum) (mN : mg "_law_number" = some (.ref fN)) (kN : PySem.W.keepIn K (.ref fN) = true) (bN : Binds K fdN ["jar"] []) :
    FnOk P w K mg base CX0 4 f fd ["jar", "many"] (spNums K) := by
  refine F.ok scLnu (fun vs H Q E h => ?_) (fun cdv A outer s H vs Q E hr h => ?_)
  · obtain ⟨_, _, _, rfl, _⟩ := h
    rfl
  · obtain ⟨j, n, many, rfl, hj, hn, h4, k⟩ := h
    have hr2 : Room 2 _ := hr.mono (by decide)
    refine ⟨_, pss_cons (ps_set (i := 2) scLnu.nd rfl (Or.inl rfl) (pe_lst pa_nil))
      (pss_cons (ps_for PassesOwn.never rfl (pi_range1 rfl T.range (pa_cons (pv 1) pa_nil)) (pg_name (i := 3) scLnu.nd rfl (Or.inl rfl))
        (pss_one (ps_expr (pe_bm PySem.F.plainAttrs_list PySem.F.slot_list_append PySem.F.type_list_append mt_append (pv 2) (pa_cons (pe_call FO hr2 (by rfl) mO kO bO .nil pass0 (pa_cons (pv 0) (pa_cons (pe_tup (pa_cons (pe_tup (pa_cons pe_int (pa_cons pe_int pa_nil))) (pa_cons (pe_call FN hr (by rfl) mN kN bN .nil pass0 (pa_cons (pv 0) pa_nil)) (pa_cons (pe_call FN hr (by rfl) mN kN bN .nil pass0 (pa_cons (pv 0) pa_nil)) pa_nil)))) pa_nil))) pa_nil)))))
      (pss_one (ps_ret (pe_tupleOf (by rfl) T.tuple (pv 2))))), ?_⟩
    refine i_asg ⟨Nat.zero_le _, fun l hl0 => ?_⟩
    have s0 := same_upd (o := .lst ([] : List V)) hl0
    have nlj : l ≠ j := jar_new hj hl0
    refine ⟨_, rfl, _, rfl, by omega, by omega, ?_⟩
    refine for_range (lo := 0) (n := many) (fun i σ H' => ∃ (o3 : Option V) (us : List V) (xs : List Fr), σ = [some (.ref j), some (.int (many : Nat)), some (.ref l), o3] ∧ JarAt H' j (n + 7 * i) ∧ But j H H' ∧ H' l = some (.lst us) ∧ FrL K H' us xs ∧ xs.length = i ∧ ∀ x ∈ xs, NumOk x)
      ⟨_, [], [], rfl, jar_same hj s0, But.same s0, upd_same, FrL.nil, rfl, fun x hx => by cases hx⟩ ?_ ?_
    · rintro i σ H1 hi ⟨o3, us, xs, rfl, j1, b1, el, fl, lx, ok⟩
      refine ⟨_, rfl, .inl ⟨rfl, _, SqL.of el⟩, ?_⟩
      refine ⟨_, rfl, by show 2 ≤ sizeLine; decide, fun q1 hq1 => ?_⟩
      have sq := same_upd (o := .tup [V.int 0, .int 1]) hq1
      have jq := jar_same j1 sq
      have nq1 : q1 ≠ j := jar_new j1 hq1
      refine ⟨_, rfl, j, _, rfl, jq, by omega, fun a2 x2 H2 e2 na2 ok2 b2 j2 => ?_⟩
      have n2 : a2 ≠ j := jar_new jq na2
      refine ⟨_, rfl, j, _, rfl, j2, by omega, fun a3 x3 H3 e3 na3 ok3 b3 j3 => ?_⟩
      have n3 : a3 ≠ j := jar_new j2 na3
      refine ⟨by show 3 ≤ sizeLine; decide, fun q4 hq4 => ?_⟩
      have sq4 := same_upd (o := .tup [V.ref q1, .ref a2, .ref a3]) hq4
      have j4 := jar_same j3 sq4
      refine ⟨j, q4, [V.ref q1, .ref a2, .ref a3], _, rfl, jar_new j3 hq4, .inr (.inl upd_same), by simp, by show 3 < 1000000; decide, j4, by omega, fun tv H5 htv b5 j5 => ?_⟩
      have eq1 := b5 _ _ nq1 (sq4 _ _ (b3 _ _ nq1 (b2 _ _ nq1 (upd_same (H := H1) (a := q1) (o := .tup [V.int 0, .int 1])))))
      have ea2 := b5 _ _ n2 (sq4 _ _ (b3 _ _ n2 e2))
      have ea3 := b5 _ _ n3 (sq4 _ _ e3)
      have bb : But j H1 H5 := ((But.same sq).trans b2).trans (b3.trans ((But.same sq4).trans b5))
      have el5 := bb _ _ nlj el
      have fl5 := fl.tk (Tk.jar j1 bb)
      obtain ⟨fr, frv, frok⟩ : ∃ fr : Fr, FrV K H5 tv fr ∧ NumOk fr := by
        simp only [List.mem_cons, List.not_mem_nil, or_false] at htv
        rcases htv with rfl | rfl | rfl
        · exact ⟨(0, 1), FrV.at eq1, ⟨by decide, by decide, by decide, by decide⟩⟩
        · exact ⟨x2, FrV.at ea2, ok2⟩
        · exact ⟨x3, FrV.at ea3, ok3⟩
      have lu : us.length = i := by rw [fl.len, lx]
      have ttp : Tt H5 (upd H5 l (.lst (us ++ [tv]))) := Tt.put el5 (fun _ z => by cases z) (fun _ _ z => by cases z)
      refine ⟨l, _, _, rfl, rfl, el5, by rw [lu]; exact Nat.lt_of_le_of_lt (show i ≤ 4 by omega) (by decide), ?_⟩
      refine ⟨_, us ++ [tv], xs ++ [fr], rfl, ?_, bt_but hl0 (b1.trans bb), upd_same, (FrL.snoc fl5 frv).tk ttp.tk, by rw [List.length_append, lx]; rfl, fun x hx => ?_⟩
      · obtain ⟨c1, c2, c3, e5, r0, r1, r2, r3, r4⟩ := j5
        exact ⟨c1, c2, c3, by rw [upd_ne (Ne.symm nlj)]; exact e5, r0, r1, r2, r3, by omega⟩
      · rcases List.mem_append.mp hx with hx | hx
        · exact ok x hx
        · rw [List.mem_singleton.mp hx]
          exact frok
    · rintro σ H1 ⟨o3, us, xs, rfl, j1, b1, el, fl, lx, ok⟩
      refine ⟨_, rfl, .inl ⟨l, us, rfl, SqL.of el, fun c hc => ?_⟩⟩
      have sc := same_upd (o := .tup us) hc
      exact k _ xs _ ⟨c, us, rfl, tO_of upd_same, fl.tk (Tk.same sc)⟩ lx ok (b1.trans (But.same sc)) (jar_more (jar_same j1 sc) (by omega))
end
end QP

set_option Elab.async false
set_option linter.all false
set_option maxRecDepth 100000
set_option maxHeartbeats 4000000
/-! ### polynomials that agree on a grid are the same -/
namespace QG
open PySem FR QR QP
open QL (rowsM)
theorem low_pos {t l : Int} (h : 0 < l) : 0 < (low t l).2 := by
  obtain ⟨_, e2⟩ := low_abs (t := t) h
  have g := gcd_pos (t := t) h
  rw [e2]
  have := Nat.div_pos (Nat.le_of_dvd (by omega) (Nat.gcd_dvd_right t.natAbs l.natAbs)) g
  omega
theorem mul_pos' {x y : Fr} (hx : 0 < x.2) (hy : 0 < y.2) : 0 < (mulF x y).2 := low_pos (Int.mul_pos hx hy)
theorem add_pos' {x y : Fr} (hx : 0 < x.2) (hy : 0 < y.2) : 0 < (addF x y).2 := low_pos (Int.mul_pos hx hy)
theorem rp_val {x : Fr} (hx : 0 < x.2) : ∀ k, 0 < (rp x k).2 ∧ val (rp x k) = val x ^ k
  | 0 => ⟨by show (0 : Int) < 1; decide, by show val (1, 1) = _; rw [val1]; grind⟩
  | k + 1 => by
    obtain ⟨h1, h2⟩ := rp_val hx k
    refine ⟨mul_pos' h1 hx, ?_⟩
    show val (mulF (rp x k) x) = _
    rw [val_mul h1 hx, h2]
    grind
theorem term_val : ∀ (xs : List Fr) (m : Mon) (f : Fr), (∀ x ∈ xs, 0 < x.2) → 0 < f.2 → xs.length = m.length → 0 < (termW xs (m, f)).2 ∧ val (termW xs (m, f)) = val f * mono (m.map Int.toNat) (xs.map val)
  | [], [], f, _, hf, _ => ⟨hf, by show val f = val f * 1; grind⟩
  | [], _ :: _, _, _, _, h => by simp at h
  | _ :: _, [], _, _, _, h => by simp at h
  | x :: xs, e :: m, f, hx, hf, hl => by
    have px := hx x List.mem_cons_self
    obtain ⟨r1, r2⟩ := rp_val px e.toNat
    have p1 := mul_pos' hf r1
    obtain ⟨h1, h2⟩ := term_val xs m (mulF f (rp x e.toNat)) (fun y hy => hx y (List.mem_cons_of_mem _ hy)) p1 (by simpa using hl)
    refine ⟨h1, ?_⟩
    show val (termW xs (m, mulF f (rp x e.toNat))) = val f * (val x ^ e.toNat * mono (m.map Int.toNat) (xs.map val))
    rw [h2, val_mul hf r1, r2]
    grind
def valL (p : Poly) : List (List Nat × Rat) := p.map fun t => (t.1.map Int.toNat, val t.2)
theorem fold_val (xs : List Fr) (hx : ∀ x ∈ xs, 0 < x.2) : ∀ (p : Poly) (y : Fr), (∀ t ∈ p, xs.length = t.1.length ∧ 0 < t.2.2) → 0 < y.2 → val (p.foldl (fun y t => addF y (termW xs t)) y) = val y + evM (valL p) (xs.map val)
  | [], y, _, _ => by show val y = val y + 0; grind
  | t :: p, y, h, hy => by
    obtain ⟨hl, ht⟩ := h t List.mem_cons_self
    obtain ⟨t1, t2⟩ := term_val xs t.1 t.2 hx ht hl
    have ih := fold_val xs hx p (addF y (termW xs t)) (fun t ht => h t (List.mem_cons_of_mem _ ht)) (add_pos' hy t1)
    show val (p.foldl _ (addF y (termW xs t))) = _
    rw [ih, val_add hy t1, t2]
    show _ = val y + ((valL (t :: p)).map fun t => t.2 * mono t.1 (xs.map val)).sum
    unfold valL
    rw [List.map_cons, List.map_cons, List.sum_cons]
    show val y + _ + evM (p.map fun t => (t.1.map Int.toNat, val t.2)) (xs.map val) = _
    unfold evM
    grind
theorem worth_val {xs : List Fr} {p : Poly} (hx : ∀ x ∈ xs, 0 < x.2) (h : ∀ t ∈ p, xs.length = t.1.length ∧ 0 < t.2.2) : val (worthF xs p) = evM (valL p) (xs.map val) := by
  unfold worthF
  rw [fold_val xs hx p (0, 1) h (by decide), val0]
  grind
theorem rows_all : ∀ (n : Nat) (top : Nat) (r : Mon), r.length = n → (∀ x ∈ r, 0 ≤ x ∧ x ≤ (top : Int)) → r ∈ rowsM n top
  | 0, top, r, hl, _ => by rw [List.eq_nil_of_length_eq_zero hl]; exact List.mem_singleton.mpr rfl
  | n + 1, top, r, hl, h => by
    have ne : r ≠ [] := fun z => by rw [z] at hl; cases hl
    rw [rowsM, List.mem_flatMap]
    have hd := List.dropLast_concat_getLast ne
    have hlast := h _ (List.getLast_mem ne)
    refine ⟨r.dropLast, rows_all n top _ (by rw [List.length_dropLast, hl]; rfl) fun x hx => h x (List.dropLast_subset r hx), List.mem_map.mpr ⟨(r.getLast ne).toNat, List.mem_range.mpr (by omega), ?_⟩⟩
    rw [Int.toNat_of_nonneg hlast.1]
    exact hd
theorem toNat_inj : ∀ {m m' : Mon}, (∀ x ∈ m, 0 ≤ x) → (∀ x ∈ m', 0 ≤ x) → m.map Int.toNat = m'.map Int.toNat → m = m'
  | [], [], _, _, _ => rfl
  | [], _ :: _, _, _, h => by simp at h
  | _ :: _, [], _, _, h => by simp at h
  | x :: m, y :: m', hm, hm', h => by
    rw [List.map_cons, List.map_cons] at h
    injection h with h1 h2
    have := hm x List.mem_cons_self
    have := hm' y List.mem_cons_self
    rw [toNat_inj (fun z hz => hm z (List.mem_cons_of_mem _ hz)) (fun z hz => hm' z (List.mem_cons_of_mem _ hz)) h2, show x = y by omega]
/-- a polynomial in n unknowns with powers up to top -/
structure Nice (n top : Nat) (p : Poly) : Prop where
  ord : p.Pairwise fun a b => gtM a.1 b.1 = true
  mon : ∀ t ∈ p, t.1.length = n ∧ ∀ x ∈ t.1, 0 ≤ x ∧ x ≤ (top : Int)
  num : ∀ t ∈ p, Lo t.2 ∧ t.2 ≠ (0, 1)
theorem gt_asym {a b : Mon} (h : gtM a b = true) : gtM b a = false := by
  have := geM_total.total a b
  unfold geM at this
  rw [h] at this
  simpa using this
theorem Nice.nodup {n top : Nat} {p : Poly} (h : Nice n top p) : (p.map (·.1)).Nodup := by
  rw [List.Nodup, List.pairwise_map]
  exact h.ord.imp fun {a b} g e => by
    rw [e] at g
    have := gt_asym g
    rw [g] at this
    cases this
theorem cf_val {n top : Nat} : ∀ {p : Poly}, (p.map (·.1)).Nodup → (∀ t ∈ p, ∀ x ∈ t.1, 0 ≤ x) → ∀ m : Mon, (∀ x ∈ m, 0 ≤ x) → cf (valL p) (m.map Int.toNat) = ((atD p m).map val).getD 0
  | [], _, _, m, _ => rfl
  | t :: p, hn, h, m, hm => by
    have hn' := List.nodup_cons.mp hn
    have ih := cf_val (n := n) (top := top) hn'.2 (fun t ht => h t (List.mem_cons_of_mem _ ht)) m hm
    have e1 : cf (valL (t :: p)) (m.map Int.toNat) = (if t.1.map Int.toNat = m.map Int.toNat then val t.2 else 0) + cf (valL p) (m.map Int.toNat) := by
      unfold cf valL
      rw [List.map_cons, List.map_cons, List.sum_cons]
    rw [e1]
    by_cases c : t.1 = m
    · subst c
      rw [if_pos rfl, ih]
      have e2 : atD p t.1 = none := by
        cases q : atD p t.1 with
        | none => rfl
        | some y => exact absurd (List.mem_map.mpr ⟨_, atD_of q, rfl⟩) hn'.1
      have e3 : atD (t :: p) t.1 = some t.2 := by simp [atD]
      rw [e2, e3]
      show val t.2 + 0 = val t.2
      grind
    · rw [if_neg (fun z => c (toNat_inj (h t List.mem_cons_self) hm z)), ih]
      have e3 : atD (t :: p) m = atD p m := by simp [atD, c]
      rw [e3]
      grind
theorem evM_app (L M : List (List Nat × Rat)) (r : List Rat) : evM (L ++ M) r = evM L r + evM M r := by
  unfold evM
  rw [List.map_append, List.sum_append]
theorem cf_app (L M : List (List Nat × Rat)) (m : List Nat) : cf (L ++ M) m = cf L m + cf M m := by
  unfold cf
  rw [List.map_append, List.sum_append]
def negL (L : List (List Nat × Rat)) : List (List Nat × Rat) := L.map fun t => (t.1, -t.2)
theorem evM_neg (r : List Rat) : ∀ L : List (List Nat × Rat), evM (negL L) r = -evM L r
  | [] => by show (0 : Rat) = -0; grind
  | t :: L => by
    have ih := evM_neg r L
    unfold evM negL at ih ⊢
    rw [List.map_cons, List.map_cons, List.sum_cons, List.map_cons, List.sum_cons, ih]
    grind
theorem cf_neg (m : List Nat) : ∀ L : List (List Nat × Rat), cf (negL L) m = -cf L m
  | [] => by show (0 : Rat) = -0; grind
  | t :: L => by
    have ih := cf_neg m L
    unfold cf negL at ih ⊢
    rw [List.map_cons, List.map_cons, List.sum_cons, List.map_cons, List.sum_cons, ih]
    split <;> grind
def gridF (r : Mon) : List Fr := r.map fun x => (x, 1)
theorem same_on_grid {n top : Nat} {p q : Poly} (hp : Nice n top p) (hq : Nice n top q) (h : ∀ r ∈ rowsM n top, worthF (gridF r) p = worthF (gridF r) q) : p = q := by
  have hz : ∀ m, cf (valL p ++ negL (valL q)) m = 0 := by
    refine grid n top _ (fun t ht => ?_) fun r hr hx => ?_
    · rcases List.mem_append.mp ht with ht | ht
      · obtain ⟨u, hu, rfl⟩ := List.mem_map.mp ht
        obtain ⟨l, b⟩ := hp.mon u hu
        refine ⟨by rw [List.length_map]; exact l, fun e he => ?_⟩
        obtain ⟨x, hx, rfl⟩ := List.mem_map.mp he
        have := b x hx
        omega
      · obtain ⟨v, hv, rfl⟩ := List.mem_map.mp ht
        obtain ⟨u, hu, rfl⟩ := List.mem_map.mp hv
        obtain ⟨l, b⟩ := hq.mon u hu
        refine ⟨by show (u.1.map Int.toNat).length = n; rw [List.length_map]; exact l, fun e he => ?_⟩
        obtain ⟨x, hx, rfl⟩ := List.mem_map.mp (show e ∈ u.1.map Int.toNat from he)
        have := b x hx
        omega
    · have hm := h (r.map fun i : Nat => (i : Int)) (rows_all n top _ (by rw [List.length_map]; exact hr) fun x hx' => by
        obtain ⟨i, hi, rfl⟩ := List.mem_map.mp hx'
        have := hx i hi
        omega)
      have hpos : ∀ x ∈ gridF (r.map fun i : Nat => (i : Int)), 0 < x.2 := fun x hx => by
        obtain ⟨y, _, rfl⟩ := List.mem_map.mp hx
        show (0 : Int) < 1
        decide
      have lg : (gridF (r.map fun i : Nat => (i : Int))).length = n := by unfold gridF; rw [List.length_map, List.length_map]; exact hr
      have v1 := worth_val (p := p) hpos fun t ht => ⟨by rw [lg, (hp.mon t ht).1], (hp.num t ht).1.pos⟩
      have v2 := worth_val (p := q) hpos fun t ht => ⟨by rw [lg, (hq.mon t ht).1], (hq.num t ht).1.pos⟩
      have ev : (gridF (r.map fun i : Nat => (i : Int))).map val = r.map fun i : Nat => (i : Rat) := by
        unfold gridF
        rw [List.map_map, List.map_map]
        refine List.map_congr_left fun i _ => ?_
        show val ((i : Int), 1) = (i : Rat)
        unfold val
        have : (((i : Nat) : Int) : Rat) = (i : Rat) := by exact_mod_cast rfl
        show (((i : Nat) : Int) : Rat) / ((1 : Int) : Rat) = _
        rw [this]
        grind
      rw [ev] at v1 v2
      rw [evM_app, evM_neg, ← v1, ← v2, hm]
      grind
  have hv : ∀ m : Mon, (∀ x ∈ m, 0 ≤ x) → ((atD p m).map val).getD 0 = ((atD q m).map val).getD 0 := fun m hm => by
    rw [← cf_val (n := n) (top := top) hp.nodup (fun t ht x hx => ((hp.mon t ht).2 x hx).1) m hm, ← cf_val (n := n) (top := top) hq.nodup (fun t ht x hx => ((hq.mon t ht).2 x hx).1) m hm]
    have := hz (m.map Int.toNat)
    rw [cf_app, cf_neg] at this
    grind
  have sub : ∀ {p q : Poly}, Nice n top p → Nice n top q → (∀ m : Mon, (∀ x ∈ m, 0 ≤ x) → ((atD p m).map val).getD 0 = ((atD q m).map val).getD 0) → ∀ t ∈ p, t ∈ q := fun {p q} hp hq hv t ht => by
    have e := hv t.1 fun x hx => ((hp.mon t ht).2 x hx).1
    rw [atD_mem hp.nodup ht] at e
    obtain ⟨lo, nz⟩ := hp.num t ht
    cases z : atD q t.1 with
    | none =>
      rw [z] at e
      have e : val t.2 = 0 := e
      exact absurd (val_inj lo lo0 (by rw [e, val0])) nz
    | some y =>
      rw [z] at e
      have e : val t.2 = val y := e
      have my := atD_of z
      have ey := val_inj lo (hq.num _ my).1 e
      have : t = (t.1, y) := Prod.ext rfl ey
      rw [this]
      exact my
  have perm : p.Perm q := (List.perm_ext_iff_of_nodup (List.Pairwise.of_map _ (fun a b ne e => ne (by rw [e])) hp.nodup) (List.Pairwise.of_map _ (fun a b ne e => ne (by rw [e])) hq.nodup)).mpr fun t => ⟨sub hp hq hv t, sub hq hp (fun m hm => (hv m hm).symm) t⟩
  have e1 := sort_is hq.nodup perm (hp.ord.imp fun g => gt_asym g)
  have e2 := sort_is hq.nodup (List.Perm.refl q) (hq.ord.imp fun g => gt_asym g)
  rw [e1, ← e2]
end QG

set_option Elab.async false
set_option linter.all false
set_option maxRecDepth 100000
set_option maxHeartbeats 4000000
/-! ### a product is nought only if one of both is -/
namespace QG
open PySem FR QR QP
theorem atD_map {m m' : Mon} {x : Fr} (h : m' ≠ m) : ∀ D : Poly, atD (D.map fun t => if t.1 = m then (t.1, x) else t) m' = atD D m'
  | [] => rfl
  | t :: D => by
    have ih := atD_map (x := x) h D
    unfold atD at ih ⊢
    rw [List.map_cons]
    by_cases c : t.1 = m
    · rw [if_pos c, List.find?_cons_of_neg (by simp only [decide_eq_true_eq]; exact fun z => h (by rw [← z, c])), List.find?_cons_of_neg (by simp only [decide_eq_true_eq]; exact fun z => h (by rw [← z, c]))]
      exact ih
    · rw [if_neg c]
      by_cases c2 : t.1 = m'
      · rw [List.find?_cons_of_pos (by simp [c2]), List.find?_cons_of_pos (by simp [c2])]
      · rw [List.find?_cons_of_neg (by simp [c2]), List.find?_cons_of_neg (by simp [c2])]
        exact ih
theorem atD_mapS {m : Mon} {x : Fr} : ∀ D : Poly, (D.any fun t => decide (t.1 = m)) = true → atD (D.map fun t => if t.1 = m then (t.1, x) else t) m = some x
  | [], h => by simp at h
  | t :: D, h => by
    unfold atD
    rw [List.map_cons]
    by_cases c : t.1 = m
    · rw [if_pos c, List.find?_cons_of_pos (by simp [c])]
      rfl
    · rw [if_neg c, List.find?_cons_of_neg (by simp [c])]
      exact atD_mapS D (by simpa [c] using h)
theorem atD_put (D : Poly) (m m' : Mon) (x : Fr) : atD (putD D m x) m' = if m' = m then some x else atD D m' := by
  unfold putD
  by_cases h : (D.any fun t => decide (t.1 = m)) = true
  · rw [if_pos h]
    by_cases c : m' = m
    · subst c
      rw [if_pos rfl, atD_mapS D h]
    · rw [if_neg c, atD_map c]
  · rw [if_neg h]
    unfold atD
    rw [List.find?_append]
    by_cases c : m' = m
    · subst c
      have : D.find? (fun t => decide (t.1 = m')) = none := by
        rw [List.find?_eq_none]
        intro t ht z
        exact h (List.any_eq_true.mpr ⟨t, ht, z⟩)
      rw [if_pos rfl, this]
      simp
    · rw [if_neg c]
      have : [((m, x) : Mon × Fr)].find? (fun t => decide (t.1 = m')) = none := by
        rw [List.find?_cons_of_neg (by simp only [decide_eq_true_eq]; exact fun z => c z.symm)]
        rfl
      rw [this, Option.or_none]
def vD (D : Poly) (m : Mon) : Rat := ((atD D m).map val).getD 0
theorem getD_pos {D : Poly} (h : ∀ t ∈ D, 0 < t.2.2) (m : Mon) : 0 < ((atD D m).getD (0, 1)).2 ∧ val ((atD D m).getD (0, 1)) = vD D m := by
  unfold vD
  cases q : atD D m with
  | none => exact ⟨by show (0 : Int) < 1; decide, val0⟩
  | some y => exact ⟨h _ (atD_of q), rfl⟩
theorem addD_pos {D : Poly} (h : ∀ t ∈ D, 0 < t.2.2) {m : Mon} {x : Fr} (hx : 0 < x.2) : ∀ t ∈ addD D m x, 0 < t.2.2 := fun t ht => by
  rcases putD_mem ht with ht | rfl
  · exact h t ht
  · exact add_pos' (getD_pos h m).1 hx
theorem colD_val : ∀ (L D : Poly) (m : Mon), (∀ t ∈ D, 0 < t.2.2) → (∀ t ∈ L, 0 < t.2.2) → vD (colD D L) m = vD D m + (L.map fun t => if t.1 = m then val t.2 else 0).sum
  | [], D, m, _, _ => by show vD D m = vD D m + 0; grind
  | t :: L, D, m, hD, hL => by
    have ht := hL t List.mem_cons_self
    have ih := colD_val L (addD D t.1 t.2) m (addD_pos hD ht) fun u hu => hL u (List.mem_cons_of_mem _ hu)
    show vD (colD (addD D t.1 t.2) L) m = _
    rw [ih, List.map_cons, List.sum_cons]
    have e : vD (addD D t.1 t.2) m = vD D m + if t.1 = m then val t.2 else 0 := by
      obtain ⟨g1, g2⟩ := getD_pos hD t.1
      unfold addD vD
      rw [atD_put]
      by_cases c : m = t.1
      · subst c
        rw [if_pos rfl, if_pos rfl]
        show val (addF _ _) = _
        rw [val_add g1 ht, g2]
        rfl
      · rw [if_neg c, if_neg (fun z => c z.symm)]
        grind
    rw [e]
    grind
theorem addM_sum : ∀ {a c : Mon}, a.length = c.length → (addM a c).sum = a.sum + c.sum
  | [], [], _ => rfl
  | [], _ :: _, h => by simp at h
  | _ :: _, [], h => by simp at h
  | x :: a, y :: c, h => by
    have := addM_sum (a := a) (c := c) (by simpa using h)
    show ((x + y) :: addM a c).sum = _
    rw [List.sum_cons, List.sum_cons, List.sum_cons, this]
    omega
theorem gtL_add : ∀ {a b c : Mon}, a.length = c.length → b.length = c.length → gtL (addM a c) (addM b c) = gtL a b
  | [], [], [], _, _ => rfl
  | x :: a, y :: b, z :: c, h1, h2 => by
    have ih := gtL_add (a := a) (b := b) (c := c) (by simpa using h1) (by simpa using h2)
    show gtL ((x + z) :: addM a c) ((y + z) :: addM b c) = gtL (x :: a) (y :: b)
    simp only [gtL]
    rw [ih]
    by_cases e : x = y
    · rw [if_pos e, if_pos (by rw [e])]
    · rw [if_neg e, if_neg (by omega), Bool.eq_iff_iff, decide_eq_true_iff, decide_eq_true_iff]
      omega
  | [], _ :: _, [], _, h => by simp at h
  | _ :: _, _, [], h, _ => by simp at h
  | [], _, _ :: _, h, _ => by simp at h
  | _ :: _, [], _ :: _, _, h => by simp at h
theorem gtM_add {a b c : Mon} (h1 : a.length = c.length) (h2 : b.length = c.length) : gtM (addM a c) (addM b c) = gtM a b := by
  unfold gtM gtK
  rw [addM_sum h1, addM_sum h2, gtL_add h1 h2]
  by_cases e : a.sum = b.sum
  · rw [if_pos e, if_pos (by rw [e])]
  · rw [if_neg e, if_neg (by omega), Bool.eq_iff_iff, decide_eq_true_iff, decide_eq_true_iff]
    omega
theorem addM_comm : ∀ (a c : Mon), addM a c = addM c a
  | [], [] => rfl
  | [], _ :: _ => rfl
  | _ :: _, [] => rfl
  | x :: a, y :: c => by
    show (x + y) :: addM a c = (y + x) :: addM c a
    rw [addM_comm a c, Int.add_comm]
theorem gtM_addL {a b c : Mon} (h1 : a.length = c.length) (h2 : b.length = c.length) : gtM (addM c a) (addM c b) = gtM a b := by
  rw [addM_comm c a, addM_comm c b, gtM_add h1 h2]
theorem gtM_irr (a : Mon) : gtM a a = false := by
  cases h : gtM a a with
  | false => rfl
  | true => have := gt_asym h; rw [h] at this; exact this
theorem prod_nil {n top : Nat} {p q : Poly} (hp : Nice n top p) (hq : Nice n top q) : (inOrd (colD [] (prodL p q)) = []) ↔ (p = [] ∨ q = []) := by
  constructor
  · intro h
    cases p with
    | nil => exact .inl rfl
    | cons t p => cases q with
      | nil => exact .inr rfl
      | cons u q =>
        exfalso
        have lt := (hp.mon t List.mem_cons_self).1
        have lu := (hq.mon u List.mem_cons_self).1
        obtain ⟨lo1, nz1⟩ := hp.num t List.mem_cons_self
        obtain ⟨lo2, nz2⟩ := hq.num u List.mem_cons_self
        have v1 : val t.2 ≠ 0 := fun z => nz1 (val_inj lo1 lo0 (by rw [z, val0]))
        have v2 : val u.2 ≠ 0 := fun z => nz2 (val_inj lo2 lo0 (by rw [z, val0]))
        have po := hp.ord
        have qo := hq.ord
        rw [List.pairwise_cons] at po qo
        have pos : ∀ e ∈ prodL (t :: p) (u :: q), 0 < e.2.2 := fun e he => by
          unfold prodL at he
          obtain ⟨a, ha, he⟩ := List.mem_flatMap.mp he
          obtain ⟨b, hb, rfl⟩ := List.mem_map.mp he
          exact mul_pos' (hp.num a ha).1.pos (hq.num b hb).1.pos
        have hv := colD_val (prodL (t :: p) (u :: q)) [] (addM t.1 u.1) (fun _ h => by cases h) pos
        have rest : ∀ e ∈ q.map (fun b => (addM t.1 b.1, mulF t.2 b.2)) ++ prodL p (u :: q), e.1 ≠ addM t.1 u.1 := fun e he z => by
          rcases List.mem_append.mp he with he | he
          · obtain ⟨b, hb, rfl⟩ := List.mem_map.mp he
            have lb := (hq.mon b (List.mem_cons_of_mem _ hb)).1
            have g := gtM_addL (a := u.1) (b := b.1) (c := t.1) (by rw [lu, lt]) (by rw [lb, lt])
            rw [qo.1 b hb, show addM t.1 b.1 = addM t.1 u.1 from z, gtM_irr] at g
            cases g
          · unfold prodL at he
            obtain ⟨a, ha, he⟩ := List.mem_flatMap.mp he
            obtain ⟨b, hb, rfl⟩ := List.mem_map.mp he
            have la := (hp.mon a (List.mem_cons_of_mem _ ha)).1
            have lb := (hq.mon b hb).1
            have g1 := gtM_add (a := t.1) (b := a.1) (c := b.1) (by rw [lt, lb]) (by rw [la, lb])
            rw [po.1 a ha, show addM a.1 b.1 = addM t.1 u.1 from z] at g1
            rcases List.mem_cons.mp hb with rfl | hb
            · rw [gtM_irr] at g1
              cases g1
            · have g2 := gtM_addL (a := u.1) (b := b.1) (c := t.1) (by rw [lu, lt]) (by rw [lb, lt])
              rw [qo.1 b hb] at g2
              have := gt_asym g2
              rw [g1] at this
              cases this
        have hs : ((prodL (t :: p) (u :: q)).map fun e => if e.1 = addM t.1 u.1 then val e.2 else 0).sum = val (mulF t.2 u.2) := by
          have e1 : prodL (t :: p) (u :: q) = (addM t.1 u.1, mulF t.2 u.2) :: (q.map (fun b => (addM t.1 b.1, mulF t.2 b.2)) ++ prodL p (u :: q)) := by
            unfold prodL
            rw [List.flatMap_cons, List.map_cons]
            rfl
          rw [e1, List.map_cons, List.sum_cons, if_pos rfl]
          have z0 : ∀ R : Poly, (∀ e ∈ R, e.1 ≠ addM t.1 u.1) → (R.map fun e => if e.1 = addM t.1 u.1 then val e.2 else 0).sum = 0 := fun R hR => by
            induction R with
            | nil => rfl
            | cons e R ih =>
              rw [List.map_cons, List.sum_cons, if_neg (hR e List.mem_cons_self), ih fun x hx => hR x (List.mem_cons_of_mem _ hx)]
              grind
          rw [z0 _ rest]
          grind
        rw [hs, val_mul lo1.pos lo2.pos] at hv
        have e0 : vD [] (addM t.1 u.1) = 0 := rfl
        rw [e0] at hv
        unfold vD at hv
        cases z : atD (colD [] (prodL (t :: p) (u :: q))) (addM t.1 u.1) with
        | none =>
          rw [z] at hv
          have hv : (0 : Rat) = 0 + val t.2 * val u.2 := hv
          have : val t.2 * val u.2 = 0 := by grind
          rcases Rat.mul_eq_zero.mp this with w | w
          · exact v1 w
          · exact v2 w
        | some y =>
          rw [z] at hv
          have hv : val y = 0 + val t.2 * val u.2 := hv
          have my := atD_of z
          have ny : y ≠ (0, 1) := fun w => by
            rw [w, val0] at hv
            have : val t.2 * val u.2 = 0 := by grind
            rcases Rat.mul_eq_zero.mp this with w | w
            · exact v1 w
            · exact v2 w
          have : (addM t.1 u.1, y) ∈ inOrd (colD [] (prodL (t :: p) (u :: q))) := QL.inOrd_mem.mpr ⟨my, by unfold nz; simp [ny]⟩
          rw [h] at this
          cases this
  · have z : inOrd (colD [] []) = [] := by
      show inOrd [] = []
      unfold inOrd
      simp
    rintro (rfl | rfl)
    · exact z
    · have : prodL p [] = [] := by unfold prodL; simp
      rw [this]
      exact z
end QG

set_option Elab.async false
set_option linter.all false
set_option maxRecDepth 100000
set_option maxHeartbeats 4000000
/-! ### what is drawn and what comes of it are polynomials -/
namespace QG
open PySem FR QR QP QD KP
theorem lo_num {x : Fr} (h : QL.NumOk x) : Lo x := ⟨h.pos, h.g⟩
theorem entry_le : ∀ {m : Mon}, (∀ x ∈ m, 0 ≤ x) → ∀ x ∈ m, x ≤ m.sum
  | [], _, x, h => by cases h
  | y :: m, hm, x, h => by
    have h0 := QL.sum_nn fun z hz => hm z (List.mem_cons_of_mem _ hz)
    have hy := hm y List.mem_cons_self
    rw [List.sum_cons]
    rcases List.mem_cons.mp h with rfl | h
    · omega
    · have := entry_le (fun z hz => hm z (List.mem_cons_of_mem _ hz)) x h
      omega
theorem nice_drawn {n deg : Nat} {p : Poly} (h : QL.PolyOk n deg p) : Nice n deg p := ⟨h.ord, fun t ht => ⟨(h.mon t ht).len, fun x hx => ⟨(h.mon t ht).pos x hx, by
  have := entry_le (h.mon t ht).pos x hx
  have := (h.mon t ht).sum
  omega⟩⟩, fun t ht => ⟨lo_num (h.num t ht).1, fun z => (h.num t ht).2 (by rw [z])⟩⟩
theorem ints_of : ∀ m : Mon, intsD (m.map PyData.int) = m
  | [] => rfl
  | i :: m => by rw [List.map_cons, intsD, ints_of m]
theorem isTerm_of {n : Nat} {t : Mon × Fr} (hl : t.1.length = n) (hx : ∀ x ∈ t.1, 0 ≤ x) (hs : t.1.sum ≤ 40) (lo : Lo t.2) (nz' : t.2 ≠ (0, 1)) : isTerm n (termD t) = true := by
  obtain ⟨m, x⟩ := t
  dsimp only at hl hx hs lo nz'
  have e : isTerm n (termD (m, x)) = ((decide (((m.map PyData.int).length : Int) = n)) && ((m.map PyData.int).all (fun e => isW e 0 40) && (decide ((intsD (m.map PyData.int)).sum ≤ 40) && (isR (fD x) && !PyData.eqv (fD x) nought)))) := by
    unfold isTerm
    have e3 : shp 2 (termD (m, x)) = true := rfl
    have e4 : decide (tyN (ith 0 (termD (m, x))) = "tuple") = true := rfl
    rw [e3, e4, Bool.true_and, Bool.true_and]
    rfl
  have er : isR (fD x) = true := by
    have e : isR (fD x) = (decide (0 < x.2) && decide (Nat.gcd x.1.natAbs x.2.natAbs = 1)) := rfl
    obtain ⟨l1, l2⟩ := lo
    rw [e, decide_eq_true l1, decide_eq_true l2]
    rfl
  have en : (!PyData.eqv (fD x) nought) = true := by
    have := nz_eq x
    rw [show nought = fD (0, 1) from rfl, this]
    simp [nz']
  have ea : ((m.map PyData.int).all (fun e => isW e 0 40)) = true := by
    rw [List.all_map]
    refine List.all_eq_true.mpr fun y hy => ?_
    show (decide (0 ≤ y) && decide (y ≤ 40)) = true
    have := entry_le hx y hy
    rw [decide_eq_true (hx y hy), decide_eq_true (by omega)]
    rfl
  rw [e, ea, er, en, ints_of, List.length_map, decide_eq_true hs, decide_eq_true (by omega)]
  rfl
theorem isPoly_of {n top : Nat} {p : Poly} (h : Nice n top p) (hl : p.length ≤ 600) (hs : ∀ t ∈ p, t.1.sum ≤ 40) : isPoly n (polyD p) = true := by
  have e : isPoly n (polyD p) = (decide (((p.map termD).length : Int) ≤ 600) && ((p.map termD).all (isTerm n) && descB (p.map termD))) := rfl
  have e1 : (p.map termD).all (isTerm n) = true := List.all_eq_true.mpr fun d hd => by
    obtain ⟨t, ht, rfl⟩ := List.mem_map.mp hd
    obtain ⟨l, b⟩ := h.mon t ht
    exact isTerm_of l (fun x hx => (b x hx).1) (hs t ht) (h.num t ht).1 (h.num t ht).2
  have e2 : descB (p.map termD) = true := by
    unfold descB
    refine List.all_eq_true.mpr fun i hi => ?_
    have hi := List.mem_range.mp hi
    rw [List.length_map] at hi
    have h1 : i < p.length := by omega
    have h2 : i + 1 < p.length := by omega
    rw [List.getD_eq_getElem?_getD, List.getD_eq_getElem?_getD, List.getElem?_map, List.getElem?_map, List.getElem?_eq_getElem h1, List.getElem?_eq_getElem h2]
    show gtM (monD (termD p[i])) (monD (termD p[i + 1])) = true
    have em : ∀ t : Mon × Fr, monD (termD t) = t.1 := fun t => ints_of t.1
    rw [em, em]
    exact List.pairwise_iff_getElem.mp h.ord i (i + 1) h1 h2 (by omega)
  rw [e, e1, e2, List.length_map, decide_eq_true (by omega)]
  rfl
theorem getD_lo {D : Poly} (h : ∀ t ∈ D, Lo t.2) (m : Mon) : Lo ((atD D m).getD (0, 1)) := by
  cases q : atD D m with
  | none => exact lo0
  | some y => exact h _ (atD_of q)
theorem colD_lo : ∀ {L D : Poly}, (∀ t ∈ D, Lo t.2) → (∀ t ∈ L, Lo t.2) → ∀ t ∈ colD D L, Lo t.2
  | [], _, h, _ => h
  | u :: L, D, h, hL => colD_lo (L := L) (D := addD D u.1 u.2) (fun t ht => by
      rcases putD_mem ht with ht | rfl
      · exact h t ht
      · exact lo_add (getD_lo h _) (hL u List.mem_cons_self)) fun t ht => hL t (List.mem_cons_of_mem _ ht)
/-- what is collected and put in order is a polynomial -/
theorem nice_ord {n top : Nat} {D : Poly} (nd : (D.map (·.1)).Nodup) (hm : ∀ t ∈ D, t.1.length = n ∧ ∀ x ∈ t.1, 0 ≤ x ∧ x ≤ (top : Int)) (hl : ∀ t ∈ D, Lo t.2) : Nice n top (inOrd D) := ⟨QL.inOrd_ord nd, fun t ht => hm t (QL.inOrd_mem.mp ht).1, fun t ht => ⟨hl t (QL.inOrd_mem.mp ht).1, fun z => by
  have := (QL.inOrd_mem.mp ht).2
  unfold nz at this
  rw [z] at this
  simp at this⟩⟩
theorem colD_self : ∀ {L D : Poly}, ((D ++ L).map (·.1)).Nodup → (∀ t ∈ L, Lo t.2) → colD D L = D ++ L
  | [], D, _, _ => by rw [List.append_nil]; rfl
  | u :: L, D, nd, hL => by
    have nu : ∀ t ∈ D, t.1 ≠ u.1 := fun t ht z => by
      rw [List.map_append, List.nodup_append] at nd
      exact nd.2.2 t.1 (List.mem_map.mpr ⟨t, ht, rfl⟩) u.1 (by simp) z
    have e0 : atD D u.1 = none := by
      cases q : atD D u.1 with
      | none => rfl
      | some y => exact absurd rfl (nu (u.1, y) (atD_of q))
    have e1 : addD D u.1 u.2 = D ++ [u] := by
      unfold addD
      rw [e0]
      show putD D u.1 (addF (0, 1) u.2) = _
      rw [add_zero' (hL u List.mem_cons_self)]
      unfold putD
      rw [if_neg (fun z => by
        obtain ⟨t, ht, w⟩ := List.any_eq_true.mp z
        exact nu t ht (of_decide_eq_true w))]
    show colD (addD D u.1 u.2) L = _
    rw [e1, colD_self (by rw [List.append_assoc]; exact nd) fun t ht => hL t (List.mem_cons_of_mem _ ht), List.append_assoc]
    rfl
theorem sum_eq {p q : Poly} (nd : (p.map (·.1)).Nodup) (lp : ∀ t ∈ p, Lo t.2) : colD [] (p ++ q) = colD p q := by
  rw [colD_app, colD_self (D := []) (L := p) (by simpa using nd) lp]
  rfl
theorem sca_one {q : Poly} (h : ∀ t ∈ q, Lo t.2) : scaL (1, 1) q = q := by
  unfold scaL
  conv => rhs; rw [← List.map_id q]
  exact List.map_congr_left fun t ht => by rw [mul_one' (h t ht)]; rfl
theorem lo_neg {x : Fr} (h : Lo x) : Lo (negF x) := by
  obtain ⟨h1, h2⟩ := h
  exact ⟨h1, by show Nat.gcd (-x.1).natAbs x.2.natAbs = 1; rw [Int.natAbs_neg]; exact h2⟩
theorem sca_neg {q : Poly} (h : ∀ t ∈ q, Lo t.2) : scaL (-1, 1) q = negP q := by
  unfold scaL negP
  refine List.map_congr_left fun t ht => ?_
  have e : mulF (-1, 1) t.2 = negF t.2 := by
    have := low_self (lo_neg (h t ht))
    rw [← this]
    show low (-1 * t.2.1) (1 * t.2.2) = low (-t.2.1) t.2.2
    rw [Int.one_mul, Int.neg_mul, Int.one_mul]
  rw [e]
end QG

-- of 12
set_option Elab.async false
set_option linter.all false
set_option maxRecDepth 100000
set_option maxHeartbeats 4000000
/-! ### sums, differences, products told as due -/
namespace QG
open PySem PySem.Spec PyProof.Rows L2 KX KP KT KJ KS QR QD QP FR
open QL (PolF spTermL)
abbrev lAreRight : Stmt := top 58
theorem small12 : Small 27720 20 1300 := ⟨by decide, by decide +kernel⟩
theorem small1 : Small 27720 20 1 := ⟨by decide, by decide +kernel⟩
theorem small2 : Small (27720 * 27720) (20 * 20) 1300 := ⟨by decide, by decide +kernel⟩
theorem bd_lt {M N : Nat} {x : Fr} (b : Bd M N x) (hM : 0 < M) (h : M * (N + 1) < 2 ^ 1920) : x.1.natAbs < 2 ^ 1920 ∧ x.2.natAbs < 2 ^ 1920 := by
  have h2 : x.2.natAbs ≤ M := Nat.le_of_dvd hM (by
    have := b.dvd
    have p := b.pos
    have e : x.2 = ((x.2.natAbs : Nat) : Int) := by omega
    rw [e] at this
    exact Int.natCast_dvd_natCast.mp this)
  have h1 := b.le
  have h3 : N * x.2.natAbs ≤ N * M := Nat.mul_le_mul_left _ h2
  rw [Nat.mul_add, Nat.mul_one, Nat.mul_comm M N] at h
  constructor <;> omega
theorem sw_poly {p : Poly} (hl : p.length ≤ 30) (hm : ∀ t ∈ p, t.1.length ≤ 4 ∧ (∀ i ∈ t.1, i.natAbs ≤ 1000) ∧ t.2.1.natAbs < 2 ^ 1920 ∧ t.2.2.natAbs < 2 ^ 1920) : Sw 4000000 5 (polyD p) := by
  have z := sw_tup (k := 30) (L := 15397) (n := 3) (ds := p.map termD) (fun d hd => by
    obtain ⟨t, ht, rfl⟩ := List.mem_map.mp hd
    obtain ⟨h1, h2, h3, h4⟩ := hm t ht
    refine (sw_tup (k := 2) (L := 7695) (n := 2) (fun d hd => ?_) (by simp)).le (by decide) (by decide)
    simp only [List.mem_cons, List.not_mem_nil, or_false] at hd
    rcases hd with rfl | rfl
    · refine (sw_tup (k := 4) (L := 1921) (n := 1) (fun d hd => ?_) (by rw [List.length_map]; exact h1)).le (by decide) (by decide)
      obtain ⟨i, hi, rfl⟩ := List.mem_map.mp hd
      exact sw_int (num_lt (Nat.le_trans (h2 i hi) (by decide)))
    · refine (sw_tup (k := 2) (L := 1921) (n := 1) (fun d hd => ?_) (by simp)).le (by decide) (by decide)
      simp only [List.mem_cons, List.not_mem_nil, or_false] at hd
      rcases hd with rfl | rfl
      · exact sw_int h3
      · exact sw_int h4) (by rw [List.length_map]; exact hl)
  exact z.le (by decide) (by decide)
/-- a small polynomial -/
structure Tiny (n deg len : Nat) (p : Poly) : Prop where
  nice : Nice n deg p
  sum : ∀ t ∈ p, t.1.sum ≤ deg
  len : p.length ≤ len
  bd : ∀ t ∈ p, Bd 27720 20 t.2
theorem degP_le {p : Poly} {k : Int} (h : ∀ t ∈ p, t.1.sum ≤ k) (hk : 0 ≤ k) : degP p ≤ k := by
  unfold degP
  cases p with
  | nil => exact hk
  | cons t p => exact h t List.mem_cons_self
theorem Tiny.is {n deg len : Nat} {p : Poly} (h : Tiny n deg len p) (hd : deg ≤ 40) (hl : len ≤ 600) : isPoly n (polyD p) = true :=
  isPoly_of h.nice (Nat.le_trans h.len hl) fun t ht => by have := h.sum t ht; omega
/-- what is told of collected terms -/
theorem told_ok {n deg M N : Nat} {L : Poly} (hn : n ≤ 4) (hd : deg ≤ 40) (hl : L.length ≤ 30) (hm : ∀ t ∈ L, t.1.length = n ∧ (∀ x ∈ t.1, 0 ≤ x) ∧ t.1.sum ≤ deg) (lo : ∀ t ∈ L, Lo t.2) (hb : ∀ t ∈ L, Bd M N t.2) (hM : 0 < M) (hz : M * (30 * N + 1) < 2 ^ 1920) :
    Nice n deg (inOrd (colD [] L)) ∧ (∀ t ∈ inOrd (colD [] L), t.1.sum ≤ deg) ∧ (inOrd (colD [] L)).length ≤ L.length ∧ degP (inOrd (colD [] L)) ≤ 40 ∧ (inOrd (colD [] L)).length ≤ 600 ∧ Sw 4000000 5 (polyD (inOrd (colD [] L))) := by
  have kk := colD_keys (A := fun m => m.length = n ∧ (∀ x ∈ m, 0 ≤ x) ∧ m.sum ≤ deg) (L := L) (D := []) (fun _ h => by cases h) hm
  have ll := colD_lo (L := L) (D := []) (fun _ h => by cases h) lo
  have lc := colD_len (D := []) (L := L)
  have lo' := QL.inOrd_len (colD [] L)
  have hlen : (inOrd (colD [] L)).length ≤ L.length := by simp at lc; omega
  have km : ∀ t ∈ inOrd (colD [] L), t.1.length = n ∧ (∀ x ∈ t.1, 0 ≤ x) ∧ t.1.sum ≤ deg := fun t ht => kk t (QL.inOrd_mem.mp ht).1
  have bb : ∀ t ∈ colD [] L, Bd M (0 + L.length * N) t.2 := colD_bd (fun _ h => by cases h) hb
  refine ⟨nice_ord (colD_nodup (by simp)) (fun t ht => ⟨(kk t ht).1, fun x hx => ⟨(kk t ht).2.1 x hx, by have := entry_le (kk t ht).2.1 x hx; have := (kk t ht).2.2; omega⟩⟩) ll, fun t ht => (km t ht).2.2, hlen, ?_, by omega, ?_⟩
  · exact degP_le (fun t ht => by have := (km t ht).2.2; omega) (by decide)
  · refine sw_poly (by omega) fun t ht => ?_
    obtain ⟨k1, k2, k3⟩ := km t ht
    have b := (bb t (QL.inOrd_mem.mp ht).1).mono (M' := M) (N' := 30 * N) (Nat.dvd_refl _) (by rw [Nat.zero_add]; exact Nat.mul_le_mul_right _ hl)
    obtain ⟨z1, z2⟩ := bd_lt b hM hz
    refine ⟨by omega, fun i hi => ?_, z1, z2⟩
    have := k2 i hi
    have := entry_le k2 i hi
    omega
end QG

-- of 12
set_option Elab.async false
set_option linter.all false
set_option maxRecDepth 100000
set_option maxHeartbeats 4000000
/-! ### _law_are_right -/
namespace QG
open PySem PySem.Spec PyProof.Rows L2 KX KP KT KJ KS QR QD QP FR
open QL (PolF)
theorem polF_pol {K : PySem.W.Frag} {H : Hp} {v : V} {p : Poly} (h : PolF K H v p) : PolV K H v p := by
  obtain ⟨a, o, us, rfl, _, e, t⟩ := h
  exact ⟨a, us, rfl, SqT.of (.inr ⟨o, e⟩), t⟩
theorem polF_sm {K : PySem.W.Frag} {H H' : Hp} {v : V} {p : Poly} (h : PolF K H v p) (s : Sm H H') : PolF K H' v p := h.but (fun a o us e => s _ _ e fun _ z => by cases z) (Tt.sm s)
theorem addM_nn : ∀ {a b : Mon}, (∀ x ∈ a, 0 ≤ x) → (∀ x ∈ b, 0 ≤ x) → ∀ x ∈ addM a b, 0 ≤ x
  | [], _, _, _, x, h => by simp [addM] at h
  | _ :: _, [], _, _, x, h => by simp [addM] at h
  | y :: a, z :: b, ha, hb, x, h => by
    rcases List.mem_cons.mp (show x ∈ (y + z) :: addM a b from h) with rfl | h
    · have := ha y List.mem_cons_self
      have := hb z List.mem_cons_self
      omega
    · exact addM_nn (fun w hw => ha w (List.mem_cons_of_mem _ hw)) (fun w hw => hb w (List.mem_cons_of_mem _ hw)) x h
theorem lo_zero {x : Fr} (h : Lo x) (z : x.1 = 0) : x = (0, 1) := by
  obtain ⟨p, g⟩ := h
  rw [z, Int.natAbs_zero, Nat.gcd_zero_left] at g
  exact Prod.ext z (by show x.2 = 1; omega)
theorem eqv_nil (r : Poly) : PyData.eqv (polyD r) (.tuple []) = decide (r = []) := by
  cases r with
  | nil => simp [polyD, PyData.eqv, PyData.eqvAll]
  | cons t r => simp [polyD, PyData.eqv, PyData.eqvAll]
theorem poly_shaped {n top : Nat} {r : Poly} (h : Nice n top r) (hn : n ≤ 4) (hl : r.length ≤ 600) : SeqAt.shaped (polyD r) = true :=
  (QL.ti_poly (by omega) fun t ht => by rw [(h.mon t ht).1]; omega).shaped (by decide)
theorem vi_nil {K : PySem.W.Frag} {σ : L2.St} {H : Hp} {Q : VK} {te : TE} {v : V} {r : Poly} (h : Vi te σ H v) (pv : PolV K H v r) (sh : SeqAt.shaped (polyD r) = true) (k : ∀ H', Same H H' → Q (.bl (decide (r = []))) H') : tOp (rEqD K) te (tTup tNil) σ H Q :=
  h _ ⟨Nat.zero_le _, fun c hc => by
    have sc := same_upd (o := .tup ([] : List V)) hc
    refine ⟨polyD r, .tuple [], (pv.tt (Tt.same sc)).dp, .tup (SqT.of (.inl upd_same)) .nil, sh, by decide, ?_⟩
    rw [eqv_nil]
    exact k _ sc⟩
def spAreRight (K : PySem.W.Frag) (Ps : List Addr) : Sp := fun vs H Q _ => ∃ (n : Nat) (x y : V) (p q : Poly), vs = [.int (n : Nat), x, y] ∧ n ≤ 4 ∧ PolF K H x p ∧ PolV K H y q ∧ Tiny n 4 4 p ∧ Tiny n 4 4 q ∧ Tbs Ps H ∧ ∀ H', Grown Ps H H' → Q (.bl true) H'
section
variable {P : Program} {w : World} {K : PySem.W.Frag} {mg : Str → Option Value} {base : Heap}
abbrev nAr : List Str := ["many", "one", "two", "total", "rest", "both"]
theorem scAr : FnScope nAr ["many", "one", "two"] (defScope lAreRight) := ⟨rfl, rfl, rfl, by decide +kernel, rfl, by decide +kernel, by decide +kernel⟩
theorem ok_areright {f fS fP fM fT fX fE : Addr} {fd fdS fdP fdM fdT fdX fdE : FuncData} {Ps : List Addr} (F : Fun K "_law_are_right" "_law_are_right" lAreRight f fd)
    (FS : FnOk P w K mg base CX0 5 fS fdS ["one", "two", "by"] (spLSum K)) (mS : mg "_law_sum" = some (.ref fS)) (kS : PySem.W.keepIn K (.ref fS) = true) (bS : Binds K fdS ["one", "two", "by"] [])
    (FP : FnOk P w K mg base CX0 8 fP fdP ["many", "one", "two"] (spPlus K Ps)) (mP : mg "plus" = some (.ref fP)) (kP : PySem.W.keepIn K (.ref fP) = true) (bP : Binds K fdP ["many", "one", "two"] []) (bPk : KBinds K fdP ["many", "one", "two"] ["two", "one", "many"] gRev gRevV)
    (FM : FnOk P w K mg base CX0 8 fM fdM ["many", "one", "two"] (spMinus K Ps)) (mM : mg "minus" = some (.ref fM)) (kM : PySem.W.keepIn K (.ref fM) = true) (bM : Binds K fdM ["many", "one", "two"] []) (bMk : KBinds K fdM ["many", "one", "two"] ["two", "one", "many"] gRev gRevV)
    (FT : FnOk P w K mg base CX0 8 fT fdT ["many", "one", "two"] (spTimes K Ps)) (mT : mg "times" = some (.ref fT)) (kT : PySem.W.keepIn K (.ref fT) = true) (bT : Binds K fdT ["many", "one", "two"] []) (bTk : KBinds K fdT ["many", "one", "two"] ["two", "one", "many"] gRev gRevV)
    (FX : FnOk P w K mg base CX0 5 fX fdX ["one", "two"] (spLProd K)) (mX : mg "_law_product" = some (.ref fX)) (kX : PySem.W.keepIn K (.ref fX) = true) (bX : Binds K fdX ["one", "two"] [])
    (FE : FnG P w K mg base 1 fE fdE ["told", "due"] (spSame3 K)) (mE : mg "_law_same" = some (.ref fE)) (kE : PySem.W.keepIn K (.ref fE) = true) (bE : Binds K fdE ["told", "due"] []) :
    FnG P w K mg base 9 f fd ["many", "one", "two"] (spAreRight K Ps) := by
  refine FnG.mk' F scAr (fun {vs H Q E} h => ?_) (fun cdv A outer s H vs Q E qu hr h => ?_)
  · obtain ⟨_, _, _, _, _, rfl, _⟩ := h
    rfl
  · obtain ⟨n, x, y, p, q, rfl, hn, px, py, tp, tq, tb, k⟩ := h
    have hr1 : Room 1 _ := hr.mono (by decide)
    have hr5 : Room 5 _ := hr.mono (by decide)
    have qu' : Quiet (A.deeper (envOfC "_law_are_right" (defScope lAreRight) s.heap.objs.size f cdv)) := qu
    have hu64 : (A.deeper (envOfC "_law_are_right" (defScope lAreRight) s.heap.objs.size f cdv)).units + 64 < cLine := by have := hr.un; omega
    refine ⟨_, pss_cons (ps_par (i := 3) (j := 4) (by rfl) scAr.nd rfl rfl (by decide) rfl rfl (pa_cons (pe_call FS hr5 (by rfl) mS kS bS .nil pass0 (pa_cons (pv 1) (pa_cons (pv 2) (pa_cons (pe_tup (pa_cons pe_int (pa_cons pe_int pa_nil))) pa_nil)))) (pa_cons (pe_call FS hr5 (by rfl) mS kS bS .nil pass0 (pa_cons (pv 1) (pa_cons (pv 2) (pa_cons (pe_tup (pa_cons (pe_un un_neg pe_int) (pa_cons pe_int pa_nil))) pa_nil)))) pa_nil)) (by rfl))
      (pss_cons (ps_if (pt_not (pt_val (pe_quiet FE qu' hr1 (by rfl) mE kE bE (pa_cons (pe_lst (pa_cons (pe_call FP hr (by rfl) mP kP bP .nil pass0 (pa_cons (pv 0) (pa_cons (pv 1) (pa_cons (pv 2) pa_nil)))) (pa_cons (pe_callK0 FP hr (by rfl) mP kP bPk pass0 (pk_cons (pv 2) (pk_cons (pv 1) (pk_cons (pv 0) pk_nil)))) pa_nil)))
          (pa_cons (pe_lst (pa_cons (pv 3) (pa_cons (pv 3) pa_nil))) pa_nil))))) (pss_one (ps_ret pe_bl)) pss_nil)
      (pss_cons (ps_if (pt_not (pt_val (pe_quiet FE qu' hr1 (by rfl) mE kE bE (pa_cons (pe_lst (pa_cons (pe_call FM hr (by rfl) mM kM bM .nil pass0 (pa_cons (pv 0) (pa_cons (pv 1) (pa_cons (pv 2) pa_nil)))) (pa_cons (pe_callK0 FM hr (by rfl) mM kM bMk pass0 (pk_cons (pv 2) (pk_cons (pv 1) (pk_cons (pv 0) pk_nil)))) pa_nil)))
          (pa_cons (pe_lst (pa_cons (pv 4) (pa_cons (pv 4) pa_nil))) pa_nil))))) (pss_one (ps_ret pe_bl)) pss_nil)
      (pss_cons (ps_set (i := 5) scAr.nd rfl (Or.inl rfl) (pe_call FX hr5 (by rfl) mX kX bX .nil pass0 (pa_cons (pv 1) (pa_cons (pv 2) pa_nil))))
      (pss_cons (ps_if (pt_not (pt_val (pe_quiet FE qu' hr1 (by rfl) mE kE bE (pa_cons (pe_lst (pa_cons (pe_call FT hr (by rfl) mT kT bT .nil pass0 (pa_cons (pv 0) (pa_cons (pv 1) (pa_cons (pv 2) pa_nil)))) (pa_cons (pe_callK0 FT hr (by rfl) mT kT bTk pass0 (pk_cons (pv 2) (pk_cons (pv 1) (pk_cons (pv 0) pk_nil)))) pa_nil)))
          (pa_cons (pe_lst (pa_cons (pv 5) (pa_cons (pv 5) pa_nil))) pa_nil))))) (pss_one (ps_ret pe_bl)) pss_nil)
      (pss_one (ps_ret (pe_cmpR op_eq (pe_cmpR (op_eqD hu64) (pv 5) (pe_tup pa_nil) (nomark _)) (pe_or (pe_cmpR (op_eqD hu64) (pv 1) (pe_tup pa_nil) (nomark _)) (pe_one (pe_cmpR (op_eqD hu64) (pv 2) (pe_tup pa_nil) (nomark _)))) (nomark _)))))))), ?_⟩
    have nd := tp.nice.nodup
    have lop : ∀ t ∈ p, Lo t.2 := fun t ht => (tp.nice.num t ht).1
    have loq : ∀ t ∈ q, Lo t.2 := fun t ht => (tq.nice.num t ht).1
    have lp := tp.len
    have lq := tq.len
    have mon : ∀ {r : Poly}, Tiny n 4 4 r → ∀ t ∈ r, t.1.length = n ∧ (∀ x ∈ t.1, 0 ≤ x) ∧ t.1.sum ≤ 4 := fun h t ht => ⟨(h.nice.mon t ht).1, fun x hx => ((h.nice.mon t ht).2 x hx).1, h.sum t ht⟩
    have lnq : (negP q).length = q.length := List.length_map _
    have negm : ∀ t ∈ negP q, ∃ u ∈ q, t = (u.1, negF u.2) := fun t ht => by
      obtain ⟨u, hu, rfl⟩ := List.mem_map.mp ht
      exact ⟨u, hu, rfl⟩
    have bd1 : ∀ t ∈ p ++ q, Bd 27720 20 t.2 := fun t ht => (List.mem_append.mp ht).elim (tp.bd t) (tq.bd t)
    have bd2 : ∀ t ∈ p ++ negP q, Bd 27720 20 t.2 := fun t ht => (List.mem_append.mp ht).elim (tp.bd t) fun h => by
      obtain ⟨u, hu, rfl⟩ := negm t h
      exact (tq.bd u hu).neg
    have T1 := told_ok (n := n) (deg := 4) (M := 27720) (N := 20) (L := p ++ q) hn (by decide) (by rw [List.length_append]; omega) (fun t ht => (List.mem_append.mp ht).elim (mon tp t) (mon tq t)) (fun t ht => (List.mem_append.mp ht).elim (lop t) (loq t)) bd1 (by decide) (by decide +kernel)
    have T2 := told_ok (n := n) (deg := 4) (M := 27720) (N := 20) (L := p ++ negP q) hn (by decide) (by rw [List.length_append, lnq]; omega) (fun t ht => (List.mem_append.mp ht).elim (mon tp t) fun h => by
      obtain ⟨u, hu, rfl⟩ := negm t h
      exact mon tq u hu) (fun t ht => (List.mem_append.mp ht).elim (lop t) fun h => by
      obtain ⟨u, hu, rfl⟩ := negm t h
      exact lo_neg (loq u hu)) bd2 (by decide) (by decide +kernel)
    have lm : p.length * q.length ≤ 16 := Nat.mul_le_mul lp lq
    have T3 := told_ok (n := n) (deg := 8) (M := 27720 * 27720) (N := 20 * 20) (L := prodL p q) hn (by decide) (by rw [prodL_len]; omega) (fun t ht => by
      unfold prodL at ht
      obtain ⟨a, ha, ht⟩ := List.mem_flatMap.mp ht
      obtain ⟨b, hb, rfl⟩ := List.mem_map.mp ht
      obtain ⟨a1, a2, a3⟩ := mon tp a ha
      obtain ⟨b1, b2, b3⟩ := mon tq b hb
      refine ⟨by show (addM a.1 b.1).length = n; rw [addM_len (by rw [a1, b1]), a1], addM_nn a2 b2, ?_⟩
      show (addM a.1 b.1).sum ≤ 8
      rw [addM_sum (by rw [a1, b1])]
      omega) (fun t ht => by
      unfold prodL at ht
      obtain ⟨a, ha, ht⟩ := List.mem_flatMap.mp ht
      obtain ⟨b, hb, rfl⟩ := List.mem_map.mp ht
      exact lo_mul (lop a ha) (loq b hb)) (prodL_bd tp.bd tq.bd) (by decide) (by decide +kernel)
    have e1 : inOrd (colD p (scaL (1, 1) q)) = inOrd (colD [] (p ++ q)) := by rw [sca_one loq, sum_eq nd lop]
    have e2 : inOrd (colD p (scaL (-1, 1) q)) = inOrd (colD [] (p ++ negP q)) := by rw [sca_neg loq, sum_eq nd lop]
    have b11 : Bd 27720 20 (1, 1) := ⟨by decide, ⟨27720, rfl⟩, by decide⟩
    have bm1 : Bd 27720 20 (-1, 1) := ⟨by decide, ⟨27720, rfl⟩, by decide⟩
    have zp : ∀ t ∈ p, Bd 27720 20 t.2 ∧ (t.2.1 = 0 → t.2 = (0, 1)) := fun t ht => ⟨tp.bd t ht, lo_zero (lop t ht)⟩
    have isP := tp.is (by decide) (by decide)
    have isQ := tq.is (by decide) (by decide)
    -- total, rest
    refine QL.par_go2 ?_
    refine ⟨_, rfl, _, rfl, by show 2 ≤ sizeLine; decide, fun u hu => ?_⟩
    have su := same_upd (o := .tup [V.int 1, .int 1]) hu
    refine ⟨x, y, .ref u, p, q, (1, 1), 27720, 20, rfl, polF_sm px (Sm.same su), py.tt (Tt.same su), FrV.at (x := (1, 1)) upd_same, small1.one b11, nd, by omega, small12, zp, fun t ht => small1.one (tq.bd t ht), by rw [sca_one loq]; exact tq.bd, fun v1 H1 s1 pv1 => ?_⟩
    have s01 := su.trans s1
    refine ⟨_, rfl, _, rfl, 1, rfl, by show 2 ≤ sizeLine; decide, fun u2 hu2 => ?_⟩
    have su2 := same_upd (o := .tup [V.int (-1), .int 1]) hu2
    refine ⟨x, y, .ref u2, p, q, (-1, 1), 27720, 20, rfl, polF_sm px (Sm.same (s01.trans su2)), py.tt (Tt.same (s01.trans su2)), FrV.at (x := (-1, 1)) upd_same, small1.one bm1, nd, by omega, small12, zp, fun t ht => small1.one (tq.bd t ht), by rw [sca_neg loq]; exact fun t ht => bd2 t (List.mem_append.mpr (.inr ht)), fun v2 H2 s2 pv2 => ?_⟩
    have s02 := (s01.trans su2).trans s2
    have g2 : Grown Ps H H2 := Grown.same s02 tb
    refine ⟨v1, v2, rfl, ?_⟩
    rw [e1] at pv1
    rw [e2] at pv2
    have pv1' := pv1.tt (Tt.same (su2.trans s2))
    have pP : ∀ {H' : Hp}, Grown Ps H H' → PolV K H' x p := fun g => polF_pol (polF_sm px g.sm)
    have pQ : ∀ {H' : Hp}, Grown Ps H H' → PolV K H' y q := fun g => py.tt (Tt.sm g.sm)
    -- plus
    refine KP.i_same2 ⟨_, rfl, _, rfl, _, rfl, n, x, y, p, q, 27720, 20, rfl, hn, pP g2, pQ g2, isP, isQ, by omega, small12, bd1, T1.2.2.2.1, T1.2.2.2.2.1, g2.tbs, fun v3 H3 g3 pv3 => ?_⟩
    have g03 := g2.trans g3
    refine ⟨_, rfl, _, rfl, _, rfl, n, x, y, p, q, 27720, 20, rfl, hn, pP g03, pQ g03, isP, isQ, by omega, small12, bd1, T1.2.2.2.1, T1.2.2.2.2.1, g03.tbs, fun v4 H4 g4 pv4 => ?_⟩
    have g04 := g03.trans g4
    refine KP.same_tail (K := K) (i := 3) (v4 := v1) rfl T1.2.2.2.2.2 (Dk.ofDp (pv3.tt (Tt.sm g4.sm)).dp) (Dk.ofDp pv4.dp) (Dk.ofDp (pv1'.tt (Tt.sm (g3.trans g4).sm)).dp) fun H5 s5 => ?_
    have g05 := g04.trans (Grown.same s5 g04.tbs)
    have pv25 := pv2.tt (Tt.sm ((g3.trans g4).trans (Grown.same s5 g04.tbs)).sm)
    -- minus
    refine KP.i_same2 ⟨_, rfl, _, rfl, _, rfl, n, x, y, p, q, 27720, 20, rfl, hn, pP g05, pQ g05, isP, isQ, by omega, small12, bd1, T2.2.2.2.1, T2.2.2.2.2.1, g05.tbs, fun v6 H6 g6 pv6 => ?_⟩
    have g06 := g05.trans g6
    refine ⟨_, rfl, _, rfl, _, rfl, n, x, y, p, q, 27720, 20, rfl, hn, pP g06, pQ g06, isP, isQ, by omega, small12, bd1, T2.2.2.2.1, T2.2.2.2.2.1, g06.tbs, fun v7 H7 g7 pv7 => ?_⟩
    have g07 := g06.trans g7
    refine KP.same_tail (K := K) (i := 4) (v4 := v2) rfl T2.2.2.2.2.2 (Dk.ofDp (pv6.tt (Tt.sm g7.sm)).dp) (Dk.ofDp pv7.dp) (Dk.ofDp (pv25.tt (Tt.sm (g6.trans g7).sm)).dp) fun H8 s8 => ?_
    have g08 := g07.trans (Grown.same s8 g07.tbs)
    -- times
    have lenp : ∀ t ∈ p, t.1.length = n := fun t ht => (tp.nice.mon t ht).1
    have lenq : ∀ t ∈ q, t.1.length = n := fun t ht => (tq.nice.mon t ht).1
    have dP := degP_le (p := p) (k := 4) tp.sum (by decide)
    have dQ := degP_le (p := q) (k := 4) tq.sum (by decide)
    refine i_asg ⟨_, rfl, _, rfl, n, x, y, p, q, 27720, 20, 27720, 20, rfl, hn, pP g08, pQ g08, lenp, lenq, by omega, small1, small1, small2, tp.bd, tq.bd, fun v9 H9 s9 pv9 => ?_⟩
    have g09 := g08.trans (Grown.same s9 g08.tbs)
    refine KP.i_same2 ⟨_, rfl, _, rfl, _, rfl, n, x, y, p, q, 27720, 20, 27720, 20, rfl, hn, pP g09, pQ g09, isP, isQ, lenp, lenq, by omega, small1, small1, small2, tp.bd, tq.bd, by omega, T3.2.2.2.1, T3.2.2.2.2.1, g09.tbs, fun v10 H10 g10 pv10 => ?_⟩
    have g0a := g09.trans g10
    refine ⟨_, rfl, _, rfl, _, rfl, n, x, y, p, q, 27720, 20, 27720, 20, rfl, hn, pP g0a, pQ g0a, isP, isQ, lenp, lenq, by omega, small1, small1, small2, tp.bd, tq.bd, by omega, T3.2.2.2.1, T3.2.2.2.2.1, g0a.tbs, fun v11 H11 g11 pv11 => ?_⟩
    have g0b := g0a.trans g11
    have pv9b := pv9.tt (Tt.sm (g10.trans g11).sm)
    refine KP.same_tail (K := K) (i := 5) (v4 := v9) rfl T3.2.2.2.2.2 (Dk.ofDp (pv10.tt (Tt.sm g11.sm)).dp) (Dk.ofDp pv11.dp) (Dk.ofDp pv9b.dp) fun H12 s12 => ?_
    have g0c := g0b.trans (Grown.same s12 g0b.tbs)
    have pv9c := pv9b.tt (Tt.same s12)
    -- nought
    have shB := poly_shaped T3.1 hn T3.2.2.2.2.1
    have shP := poly_shaped tp.nice hn (by omega)
    have shQ := poly_shaped tq.nice hn (by omega)
    have key := prod_nil tp.nice tq.nice
    refine vi_nil (K := K) (v := v9) (vi_var rfl) pv9c shB fun H13 s13 => ?_
    have g0d := g0c.trans (Grown.same s13 g0c.tbs)
    refine vi_nil (K := K) (v := x) (vi_var rfl) (pP g0d) shP fun H14 s14 => ?_
    have g0e := g0d.trans (Grown.same s14 g0d.tbs)
    refine ⟨_, rfl, iteB (fun c => ?_) (fun c => ?_)⟩
    · have : inOrd (colD [] (prodL p q)) = [] := key.mpr (.inl (of_decide_eq_true c))
      refine ⟨rfl, ?_⟩
      rw [decide_eq_true this, decide_eq_true rfl]
      exact k H14 g0e
    · refine vi_nil (K := K) (v := y) (vi_var rfl) (pQ g0e) shQ fun H15 s15 => ⟨rfl, ?_⟩
      have : decide (inOrd (colD [] (prodL p q)) = []) = decide (q = []) := by
        rw [Bool.eq_iff_iff, decide_eq_true_iff, decide_eq_true_iff, key]
        exact ⟨fun h => h.resolve_left (of_decide_eq_false c), .inr⟩
      rw [this, decide_eq_true rfl]
      exact k H15 (g0e.trans (Grown.same s15 g0e.tbs))
end
end QG

set_option Elab.async false
set_option linter.all false
set_option maxRecDepth 100000
set_option maxHeartbeats 4000000
/-! ### max of a tuple of whole numbers -/
namespace QR
open PySem PySem.Spec PyProof.Rows L2 KX KP
section
variable {prog : Program} {w : World} {A : Around} {E : Value → Shared → Prop} {s : Shared} {t : Addr}
theorem maxT_int {xs : Array (Int × Tok)} {Q : Value → Shared → Prop} (hh : A.handled = none) (ht : s.heap.IsTuple t (intItems xs)) (hne : 0 < xs.size)
    (h : ∀ v h' tk, (intItems xs)[argBest (fun i j => decide (numAt xs i > numAt xs j)) (xs.size - 1)]? = some v → (∀ b o, s.heap.get? b = some o → h'.get? b = some o) → Q v { s with heap := h', toks := tk }) :
    wpAny (model prog w) A (call (.builtin "max") [.ref t]) Q E s := by
  obtain ⟨o, ho, hc, n, hd⟩ := id ht
  have hn : t ≠ s.heap.objs.size := Nat.ne_of_lt (Heap.lt_size ho)
  refine call_max_walk (wpAny_pyIter_tuple ht ?_)
  refine ⟨s.heap.objs.size, _, _, _, _, _, _, rfl, Walks.tuple (prog := prog) (w := w) (A := A.in1) hh s.heap.objs.size t hn (intItems xs), ⟨⟨_, Heap.get?_push_size _ rfl, rfl, rfl⟩, ht.at fun o e => Heap.get?_push_of_some _ e⟩, fun b hb => ?_, by simpa [intItems] using hne, CmpOf.ints_gt (numAt xs) (fun _ _ => intItems_at), fun v h' tk hP hk => ?_⟩
  · rcases List.mem_cons.mp hb with rfl | hb
    · exact Heap.lt_size (Heap.get?_push_size _ rfl)
    · obtain rfl := List.mem_singleton.mp hb
      exact Heap.lt_size (Heap.get?_push_of_some _ ho)
  · exact h v h' tk (by simpa [intItems] using hP) fun b o e => hk b o (fun hb => absurd (Heap.lt_size e) ((List.mem_singleton.mp hb) ▸ Nat.lt_irrefl _)) (Heap.get?_push_of_some _ e)
theorem maxT_raw {its : List Value} {ns : List Int} {Q : Value → Shared → Prop} (hh : A.handled = none) (hl : s.heap.IsTuple t its.toArray) (hi : IntsAre its ns) (hne : 0 < ns.length)
    (h : ∀ h' tk M t', (∀ b o, s.heap.get? b = some o → h'.get? b = some o) → M ∈ ns → (∀ a, a ∈ ns → a ≤ M) → Q (.int M t') { s with heap := h', toks := tk }) : wpAny (model prog w) A (call (.builtin "max") [.ref t]) Q E s := by
  obtain ⟨xs, e⟩ := hi.allInts.items
  have hn : numsOf (intItems xs).toList = ns := by rw [← e]; exact hi.numsOf
  rw [nums_intItems] at hn
  subst hn
  rw [e] at hl
  have hsz : 0 < xs.size := by simpa using hne
  refine maxT_int hh hl hsz fun v h' tk hv hk => ?_
  obtain ⟨t, rfl⟩ := intItems_at hv
  obtain ⟨h1, h2⟩ := argBest_gt (numAt xs) (xs.size - 1)
  refine h h' tk _ t hk ?_ fun a ha => ?_
  · rw [numAt_eq]; exact PySem.getD_mem (by rw [List.length_map, Array.length_toList]; omega)
  · obtain ⟨j, hj, rfl⟩ := mem_getD ha
    rw [List.length_map, Array.length_toList] at hj
    rw [← numAt_eq]; exact h2 j (by omega)
end
section
variable {X : Cx}
def rMaxT (K : PySem.W.Frag) : List V → Hp → VK → Prop := fun vs H Q => ∃ (a : Addr) (ns : List Int), vs = [V.ref a] ∧ SqT K H a (ns.map V.int) ∧ 0 < ns.length ∧ ∀ m, m ∈ ns → (∀ y, y ∈ ns → y ≤ m) → Q (.int m) H
theorem cr_maxT (hc : X.calm = true) : CallR X (.builtin "max") (rMaxT X.K) := by
  intro pins s σ H vs us Q I r h
  obtain ⟨a, ns, rfl, hs, hne, q⟩ := h
  obtain ⟨its, rv, hl, _⟩ := I.tuple hs
  rw [Vals.ref1 r]
  exact maxT_raw (I.ok.hd hc) hl rv.ints hne fun h' tk m t' hk h1 h2 => ⟨.int _, H, I.kept hk, ⟨_, rfl⟩, q m h1 h2⟩
theorem cr_maxTK {K0 : PySem.W.Frag} (h : X.K = K0) (hc : X.calm = true) : CallR X (.builtin "max") (rMaxT K0) := h ▸ cr_maxT hc
end
end QR

-- of 12
set_option Elab.async false
set_option linter.all false
set_option maxRecDepth 100000
set_option maxHeartbeats 4000000
/-! ### _law_are_told_apart -/
namespace QG
open PySem PySem.Spec PyProof.Rows L2 KX KP KT KJ KS QR QD QP FR
open QL (rowsM spRows kR)
abbrev lApart : Stmt := top 59
theorem cat_any {K : PySem.W.Frag} {H : Hp} {a b : Addr} {xs ys : List V} {Q : VK} (ea : SqT K H a xs) (eb : SqT K H b ys) (hl : xs.length + ys.length ≤ 10000) (k : ∀ c H', Same H H' → SqT K H' c (xs ++ ys) → Q (.ref c) H') : rCatA K (.ref a) (.ref b) H Q := by
  refine ⟨a, b, xs, ys, rfl, rfl, ea, eb, Nat.le_trans hl (by decide), fun z => ?_, fun _ z => ?_, fun _ _ p hp => k p _ (same_upd hp) (SqT.of (.inl upd_same))⟩
  · subst z
    exact k b H (Same.refl H) eb
  · subst z
    exact k a H (Same.refl H) (by rw [List.append_nil]; exact ea)
theorem eqv_fr (x y : Fr) : PyData.eqv (fD x) (fD y) = decide (x = y) := by
  obtain ⟨a, b⟩ := x
  obtain ⟨c, d⟩ := y
  rw [Bool.eq_iff_iff, decide_eq_true_iff]
  simp [fD, PyData.eqv, PyData.eqvAll]
theorem eqv_mon : ∀ m m' : Mon, PyData.eqvAll (m.map PyData.int) (m'.map PyData.int) = decide (m = m')
  | [], [] => by simp [PyData.eqvAll]
  | [], _ :: _ => by simp [PyData.eqvAll]
  | _ :: _, [] => by simp [PyData.eqvAll]
  | x :: m, y :: m' => by
    have ih := eqv_mon m m'
    rw [List.map_cons, List.map_cons, PyData.eqvAll, ih, Bool.eq_iff_iff, decide_eq_true_iff]
    simp [PyData.eqv]
theorem eqv_terms : ∀ p q : Poly, PyData.eqvAll (p.map termD) (q.map termD) = decide (p = q)
  | [], [] => by simp [PyData.eqvAll]
  | [], _ :: _ => by simp [PyData.eqvAll]
  | _ :: _, [] => by simp [PyData.eqvAll]
  | t :: p, u :: q => by
    have ih := eqv_terms p q
    have e1 : PyData.eqv (termD t) (termD u) = decide (t = u) := by
      obtain ⟨m, x⟩ := t
      obtain ⟨m', x'⟩ := u
      have h1 := eqv_mon m m'
      have h2 := eqv_fr x x'
      have : PyData.eqv (termD (m, x)) (termD (m', x')) = (PyData.eqvAll (m.map PyData.int) (m'.map PyData.int) && (PyData.eqv (fD x) (fD x') && true)) := by
        simp [termD, PyData.eqv, PyData.eqvAll]
      rw [this, h1, h2, Bool.eq_iff_iff, decide_eq_true_iff]
      simp
    rw [List.map_cons, List.map_cons, PyData.eqvAll, ih, e1, Bool.eq_iff_iff, decide_eq_true_iff]
    simp
theorem eqv_poly (p q : Poly) : PyData.eqv (polyD p) (polyD q) = decide (p = q) := by
  have := eqv_terms p q
  unfold polyD
  rw [PyData.eqv]
  exact this
def spApart (K : PySem.W.Frag) (Ps : List Addr) : Sp := fun vs H Q _ => ∃ (n : Nat) (x y : V) (p q : Poly), vs = [.int (n : Nat), x, y] ∧ n ≤ 3 ∧ PolV K H x p ∧ PolV K H y q ∧ Nice n 4 p ∧ Nice n 4 q ∧ p.length ≤ 30 ∧ q.length ≤ 30 ∧ isPoly n (polyD p) = true ∧ isPoly n (polyD q) = true ∧
  (∀ r : Mon, r.length = n → (∀ e ∈ r, 0 ≤ e ∧ e ≤ 4) → WorthOk n (gridF r) p ∧ WorthOk n (gridF r) q) ∧ Tbs Ps H ∧ ∀ H', Grown Ps H H' → Q (.bl true) H'
section
variable {P : Program} {w : World} {K : PySem.W.Frag} {mg : Str → Option Value} {base : Heap}
abbrev nAp : List Str := ["many", "one", "two", "top", "row", "numbers", "powers", "amount", "each"]
theorem scAp : FnScope nAp ["many", "one", "two"] (defScope lApart) := ⟨rfl, rfl, rfl, by decide +kernel, rfl, by decide +kernel, by decide +kernel⟩
theorem ok_apart {f fR fW : Addr} {fd fdR fdW : FuncData} {Ps : List Addr} (F : Fun K "_law_are_told_apart" "_law_are_told_apart" lApart f fd) (T : TxD mg)
    (FR : FnOk P w K mg base CX0 1 fR fdR ["many", "top"] spRows) (mR : mg "_law_rows_of" = some (.ref fR)) (kR' : PySem.W.keepIn K (.ref fR) = true) (bR : Binds K fdR ["many", "top"] [])
    (FW : FnOk P w K mg base CX0 8 fW fdW ["many", "one", "assignment"] (spWorth K Ps)) (mW : mg "worth" = some (.ref fW)) (kW : PySem.W.keepIn K (.ref fW) = true) (bW : Binds K fdW ["many", "one", "assignment"] []) :
    FnOk P w K mg base CX0 9 f fd ["many", "one", "two"] (spApart K Ps) := by
  refine F.ok scAp (fun vs H Q E h => ?_) (fun cdv A outer s H vs Q E hr h => ?_)
  · obtain ⟨_, _, _, _, _, rfl, _⟩ := h
    rfl
  · obtain ⟨n, x, y, p, q, rfl, hn, px, py, np, nq, lp, lq, isP, isQ, wo, tb, k⟩ := h
    have hr1 : Room 1 _ := hr.mono (by decide)
    have hu64 : (A.deeper (envOfC "_law_are_told_apart" (defScope lApart) s.heap.objs.size f cdv)).units + 64 < cLine := by have := hr.un; omega
    refine ⟨_, pss_cons (ps_set (i := 3) scAp.nd rfl (Or.inl rfl) (pe_callB (cr_max rfl) (by rfl) T.max (by decide +kernel) (pa_cons (pe_op op_cat (pe_lst (pa_cons pe_int pa_nil)) (pe_lc (own := [("powers", 6), ("amount", 7)]) (g := gTup K 2 (gCons (gName 6) (gCons (gName 7) gNil))) (tt := tYes) rfl scAp.nd (pi_tup (pe_op op_catA (pv 1) (pv 2)))
          (blkOk_by (N := nAp) (sc := defScope lApart) (by decide +kernel)) (fun _ _ _ _ _ => by exact pg_tup rfl (pgs_cons (pg_name (i := 6) scAp.nd rfl (Or.inl rfl)) (pgs_cons (pg_name (i := 7) scAp.nd rfl (Or.inl rfl)) pgs_nil))) (fun _ _ _ _ _ => pts_nil)
          (fun _ _ _ _ _ => pe_callB (cr_maxTK (K0 := K) rfl rfl) (by rfl) T.max (by decide +kernel) (pa_cons (pe_op (QL.op_catK (K0 := K) rfl) (pe_tup (pa_cons pe_int pa_nil)) (pv 6)) pa_nil)))) pa_nil)))
      (pss_cons (ps_for PassesOwn.never rfl (pi_list (pe_call FR hr1 (by rfl) mR kR' bR .nil pass0 (pa_cons (pv 0) (pa_cons (pv 3) pa_nil)))) (pg_name (i := 4) scAp.nd rfl (Or.inl rfl))
        (pss_cons (ps_set (i := 5) scAp.nd rfl (Or.inl rfl) (pe_tupleOf (by rfl) T.tuple (pe_lc (own := [("each", 8)]) (g := gName 8) (tt := tYes) rfl scAp.nd (pi_tup (pv 4)) (blkOk_by (N := nAp) (sc := defScope lApart) (by decide +kernel))
            (fun _ _ _ _ _ => pg_name (i := 8) scAp.nd rfl (Or.inl rfl)) (fun _ _ _ _ _ => pts_nil) (fun _ _ _ _ _ => pe_tup (pa_cons (pv 8) (pa_cons pe_int pa_nil))))))
        (pss_one (ps_if (pt_cmpR (op_neD hu64) (pe_call FW hr (by rfl) mW kW bW .nil pass0 (pa_cons (pv 0) (pa_cons (pv 1) (pa_cons (pv 5) pa_nil)))) (pe_call FW hr (by rfl) mW kW bW .nil pass0 (pa_cons (pv 0) (pa_cons (pv 2) (pa_cons (pv 5) pa_nil)))) (nomark _))
          (pss_one (ps_ret (pe_cmpR (op_neD hu64) (pv 1) (pv 2) (nomark _)))) pss_nil))))
      (pss_one (ps_ret (pe_cmpR (op_eqD hu64) (pv 1) (pv 2) (nomark _))))), ?_⟩
    have px0 := px
    have py0 := py
    obtain ⟨a, us, rfl, ea, tp⟩ := px
    obtain ⟨b, ws, rfl, eb, tq⟩ := py
    have shP := poly_shaped np (by omega) (by omega)
    have shQ := poly_shaped nq (by omega) (by omega)
    have me : ∀ t ∈ p ++ q, t.1.length = n ∧ ∀ e ∈ t.1, 0 ≤ e ∧ e ≤ 4 := fun t ht => (List.mem_append.mp ht).elim (fun h => np.mon t h) (fun h => nq.mon t h)
    have tpq : TermsV K H (us ++ ws) (p ++ q) := tp.append tq
    have lpq : (p ++ q).length ≤ 60 := by rw [List.length_append]; omega
    refine i_asg ⟨by show 1 ≤ sizeLine; decide, fun l0 hl0 => ?_⟩
    have s1 := same_upd (o := .lst [V.int 0]) hl0
    have el0 := upd_same (H := H) (a := l0) (o := .lst [V.int 0])
    refine ⟨_, rfl, _, rfl, cat_any (SqT.same s1 ea) (SqT.same s1 eb) (by rw [tp.len, tq.len]; omega) fun c H2 s2 ec => ?_⟩
    refine ⟨c, rfl, ⟨_, ec⟩, fun D hD => ?_⟩
    have s12 := s1.trans s2
    refine lc_it (walk_tup (K := K) (a := c) (xs := us ++ ws)) (fun i H' => Same H2 H' ∧ ∃ ms : List Int, H' D = some (.lst (ms.map V.int)) ∧ ms.length = i ∧ (∀ m ∈ ms, 0 ≤ m ∧ m ≤ 4) ∧ ∀ t ∈ (p ++ q).take i, ∀ e ∈ t.1, ∃ m ∈ ms, e ≤ m)
      ⟨same_upd hD, [], upd_same, rfl, (fun m h => by cases h), (fun t h => by simp at h)⟩ (fun i H' _ z => SqT.same z.1 ec) ?_ ?_
    · rintro i xv _ H' hi ⟨s3, ms, eD, lms, bms, cms⟩ ⟨rfl, hx⟩
      obtain ⟨t, ht, tm⟩ := tpq.at hx
      have hi2 : i < (p ++ q).length := (List.getElem?_eq_some_iff.mp ht).1
      have mt := me t (List.mem_of_getElem? ht)
      obtain ⟨c', vm, vx, rfl, ec', ⟨m, rfl, em⟩, fx⟩ := tm.tt (Tt.same (s12.trans s3))
      refine ⟨_, _, rfl, ec', rfl, _, _, rfl, _, _, rfl, rfl, rfl, ?_⟩
      dsimp only [tYes]
      rw [if_pos rfl]
      refine ⟨by show 1 ≤ sizeLine; decide, fun u hu => ?_⟩
      have su := same_upd (o := .tup [V.int 0]) hu
      refine ⟨_, rfl, cat_any (xs := [V.int 0]) (ys := t.1.map V.int) (SqT.of (.inl upd_same)) (SqT.of (.inl (su _ _ em))) (by rw [List.length_map, mt.1]; simp; omega) fun c3 H5 s5 e5 => ?_⟩
      refine ⟨c3, 0 :: t.1, rfl, e5, by simp, fun mx hmx hle => ?_⟩
      have s35 := su.trans s5
      refine ⟨_, s35 _ _ eD, by rw [List.length_map, lms]; exact Nat.lt_of_le_of_lt (show i ≤ 60 by omega) (by decide), same_put (s3.trans s35) hD, ms ++ [mx], by rw [upd_same, List.map_append]; rfl, by rw [List.length_append, lms]; rfl, fun m' hm' => ?_, fun t' ht' e he => ?_⟩
      · rcases List.mem_append.mp hm' with h | h
        · exact bms m' h
        · rw [List.mem_singleton.mp h]
          rcases List.mem_cons.mp hmx with rfl | h2
          · exact ⟨by decide, by decide⟩
          · exact mt.2 _ h2
      · rw [List.take_add_one, ht] at ht'
        rcases List.mem_append.mp ht' with h | h
        · obtain ⟨m', h1, h2⟩ := cms t' h e he
          exact ⟨m', List.mem_append.mpr (.inl h1), h2⟩
        · have : t' = t := by simpa using h
          subst this
          exact ⟨mx, by simp, hle e (List.mem_cons_of_mem _ he)⟩
    rintro H3 ⟨s3, ms, eD, lms, bms, cms⟩
    rw [List.take_of_length_le (by rw [← tpq.len]; exact Nat.le_refl _)] at cms
    have s13 := s2.trans s3
    refine ⟨l0, D, [V.int 0], ms.map V.int, rfl, rfl, s13 _ _ el0, eD, ?_, fun l3 hl3 => ?_⟩
    · rw [List.length_map, lms, tpq.len]
      exact Nat.le_trans (show 1 + (p ++ q).length ≤ 100 by omega) (by decide)
    have s4 := same_upd (o := .lst ([V.int 0] ++ ms.map V.int)) hl3
    refine ⟨l3, 0 :: ms, rfl, SqL.of upd_same, by simp, fun tn htn hle => ?_⟩
    have g4 : Grown Ps H _ := Grown.same ((s1.trans s13).trans s4) tb
    generalize upd H3 l3 (.lst ([V.int 0] ++ ms.map V.int)) = H4 at g4 ⊢
    have t04 : 0 ≤ tn ∧ tn ≤ 4 := by
      rcases List.mem_cons.mp htn with rfl | h
      · exact ⟨by decide, by decide⟩
      · exact bms tn h
    obtain ⟨tn, rfl⟩ : ∃ k : Nat, tn = (k : Int) := ⟨tn.toNat, by omega⟩
    have all : ∀ t ∈ p ++ q, ∀ e ∈ t.1, e ≤ (tn : Int) := fun t ht e he => by
      obtain ⟨m, hm, h⟩ := cms t ht e he
      have := hle m (List.mem_cons_of_mem _ hm)
      omega
    have np' : Nice n tn p := ⟨np.ord, fun t ht => ⟨(np.mon t ht).1, fun e he => ⟨((np.mon t ht).2 e he).1, all t (List.mem_append.mpr (.inl ht)) e he⟩⟩, np.num⟩
    have nq' : Nice n tn q := ⟨nq.ord, fun t ht => ⟨(nq.mon t ht).1, fun e he => ⟨((nq.mon t ht).2 e he).1, all t (List.mem_append.mpr (.inr ht)) e he⟩⟩, nq.num⟩
    have lrow : (tn + 1) ^ n ≤ 5000 := Nat.le_trans (Nat.pow_le_pow_left (show tn + 1 ≤ 5 by omega) n) (Nat.le_trans (Nat.pow_le_pow_right (by decide) hn) (by decide))
    -- rows
    refine ⟨_, rfl, _, rfl, n, tn, rfl, by omega, by omega, lrow, fun pr ks H5 _ s5 er kr em => ⟨pr, rfl, ⟨_, SqL.of er⟩, ?_⟩⟩
    have g5 := g4.trans (Grown.same s5 g4.tbs)
    refine for_list (K := K) (a := pr) (xs := kR ks) (fun i σ H' => ∃ o4 o5 : Option V, σ = [some (.int (n : Nat)), some (.ref a), some (.ref b), some (.int (tn : Nat)), o4, o5, none, none, none] ∧ Grown Ps H H' ∧ SqL K H' pr (kR ks) ∧ QP.KeysAt H' ks ∧ ∀ r ∈ (rowsM n tn).take i, worthF (gridF r) p = worthF (gridF r) q)
      ⟨_, _, rfl, g5, SqL.of er, kr, fun r h => by simp at h⟩ (fun i σ H' _ z => by obtain ⟨_, _, _, _, e, _⟩ := z; exact e) ?_ ?_
    · rintro i xv σ H6 hx ⟨o4, o5, rfl, g6, er6, kr6, hw⟩
      have hi : i < ks.length := by
        have := (List.getElem?_eq_some_iff.mp hx).1
        rwa [kR, List.length_map] at this
      have ey := List.getElem?_eq_getElem hi
      rw [kR, List.getElem?_map, ey] at hx
      cases hx
      have ek := kr6 _ (List.getElem_mem hi)
      have hr2 : (rowsM n tn)[i]? = some ks[i].2 := by rw [← em, List.getElem?_map, ey]; rfl
      obtain ⟨lr, br⟩ := QL.rowsM_mem (List.mem_of_getElem? hr2)
      have br4 : ∀ e ∈ ks[i].2, 0 ≤ e ∧ e ≤ 4 := fun e he => by have := br e he; omega
      obtain ⟨wp, wq⟩ := wo _ lr br4
      refine i_asg ⟨_, rfl, ks[i].1, rfl, ⟨_, SqT.of (.inl ek)⟩, fun D hD => ?_⟩
      refine lc_it (walk_tup (K := K) (a := ks[i].1) (xs := ks[i].2.map V.int)) (fun j H' => Same H6 H' ∧ ∃ zs, H' D = some (.lst zs) ∧ FrL K H' zs ((gridF ks[i].2).take j)) ⟨same_upd hD, [], upd_same, FrL.nil⟩ (fun j H' _ z => SqT.same z.1 (SqT.of (.inl ek))) ?_ ?_
      · rintro j xv _ H7 hj ⟨s7, zs, eD, fl⟩ ⟨rfl, hx⟩
        rw [List.length_map] at hj
        have ej := List.getElem?_eq_getElem hj
        rw [List.getElem?_map, ej] at hx
        cases hx
        refine ⟨rfl, ?_⟩
        dsimp only [tYes]
        rw [if_pos rfl]
        refine ⟨_, rfl, by show 2 ≤ sizeLine; decide, fun u hu => ?_⟩
        have su := same_upd (o := .tup [V.int ks[i].2[j], .int 1]) hu
        have lz : zs.length ≤ 4 := by rw [fl.len, List.length_take]; unfold gridF; rw [List.length_map]; omega
        have ttp : Tt (upd H7 u (.tup [V.int ks[i].2[j], .int 1])) (upd (upd H7 u (.tup [V.int ks[i].2[j], .int 1])) D (.lst (zs ++ [.ref u]))) := Tt.put (su _ _ eD) (fun _ z => by cases z) (fun _ _ z => by cases z)
        refine ⟨zs, su _ _ eD, Nat.lt_of_le_of_lt lz (by decide), same_put (s7.trans su) hD, zs ++ [.ref u], upd_same, ?_⟩
        have eg : (gridF ks[i].2).take (j + 1) = (gridF ks[i].2).take j ++ [(ks[i].2[j], 1)] := by
          rw [List.take_add_one]
          congr 1
          unfold gridF
          rw [List.getElem?_map, ej]
          rfl
        rw [eg]
        exact (FrL.snoc (fl.tk (Tk.same su)) (FrV.at (x := (ks[i].2[j], 1)) upd_same)).tk ttp.tk
      rintro H7 ⟨s7, zs, eD, fl⟩
      rw [List.take_of_length_le (by unfold gridF; rw [List.length_map, List.length_map]; exact Nat.le_refl _)] at fl
      refine .inl ⟨D, zs, rfl, SqL.of eD, fun c7 hc7 => ?_⟩
      have sc := same_upd (o := .tup zs) hc7
      have row : RowT K (upd H7 c7 (.tup zs)) (.ref c7) (gridF ks[i].2) := ⟨c7, zs, rfl, tO_of upd_same, fl.tk (Tk.same sc)⟩
      have s68 := s7.trans sc
      generalize upd H7 c7 (.tup zs) = H8 at row s68 ⊢
      have g8 := g6.trans (Grown.same s68 g6.tbs)
      refine ⟨_, rfl, _, rfl, _, rfl, n, .ref a, .ref c7, p, gridF ks[i].2, rfl, by omega, px0.tt (Tt.sm g8.sm), isP, by omega, row, wp, g8.tbs, fun r1 H9 g9 fr1 => ?_⟩
      have g09 := g8.trans g9
      refine ⟨_, rfl, _, rfl, _, rfl, n, .ref b, .ref c7, q, gridF ks[i].2, rfl, by omega, py0.tt (Tt.sm g09.sm), isQ, by omega, row.tk (Tk.sm g9.sm), wq, g09.tbs, fun r2 H10 g10 fr2 => ?_⟩
      have g0a := g09.trans g10
      refine ⟨_, _, KP.dp_fr (fr1.tk (Tk.sm g10.sm)), KP.dp_fr fr2, fD_shaped _, fD_shaped _, _, rfl, ?_⟩
      rw [eqv_fr]
      refine iteB (fun c => ?_) (fun c => ?_)
      · have ne : p ≠ q := fun z => by
          subst z
          simp at c
        refine ⟨_, rfl, _, rfl, polyD p, polyD q, (px0.tt (Tt.sm g0a.sm)).dp, (py0.tt (Tt.sm g0a.sm)).dp, shP, shQ, ?_⟩
        rw [eqv_poly, decide_eq_false ne]
        exact k H10 g0a
      · have ew : worthF (gridF ks[i].2) p = worthF (gridF ks[i].2) q := by simpa using c
        have sm6 := ((Sm.same s68).trans (g9.trans g10).sm)
        refine ⟨_, _, rfl, g0a, sqL_sm sm6 er6, QL.keysAt_tt kr6 (Tt.sm sm6), fun r hr => ?_⟩
        rw [List.take_add_one, hr2] at hr
        rcases List.mem_append.mp hr with h | h
        · exact hw r h
        · have : r = ks[i].2 := by simpa using h
          rw [this]
          exact ew
    · rintro σ H6 ⟨o4, o5, rfl, g6, _, _, hw⟩
      rw [List.take_of_length_le (by rw [← em, kR, List.length_map, List.length_map]; exact Nat.le_refl _)] at hw
      have e := same_on_grid np' nq' hw
      refine ⟨_, rfl, _, rfl, polyD p, polyD q, (px0.tt (Tt.sm g6.sm)).dp, (py0.tt (Tt.sm g6.sm)).dp, shP, shQ, ?_⟩
      rw [eqv_poly, decide_eq_true e]
      exact k H6 g6
end
end QG

set_option Elab.async false
set_option linter.all false
set_option maxRecDepth 100000
set_option maxHeartbeats 4000000
/-! ### worths are of moderate size -/
namespace QG
open PySem FR QR QP KP
theorem rp_bd {A B : Nat} {x : Fr} (h : Bd A B x) : ∀ k, Bd (A ^ k) (B ^ k) (rp x k)
  | 0 => ⟨by show (0 : Int) < 1; decide, by show (1 : Int) ∣ _; exact Int.one_dvd _, by show (1 : Int).natAbs ≤ 1 * (1 : Int).natAbs; decide⟩
  | k + 1 => by
    rw [Nat.pow_succ, Nat.pow_succ]
    exact (rp_bd h k).mul h
theorem pow_two {A a k : Nat} (h : A ≤ 2 ^ a) : A ^ k < 2 ^ (a * k + 1) := by
  refine Nat.lt_of_le_of_lt (Nat.pow_le_pow_left h k) ?_
  rw [← Nat.pow_mul]
  exact Nat.pow_lt_pow_right (by decide) (Nat.lt_succ_self _)
theorem rp_sz {x : Fr} (h : Bd 27720 20 x) {k : Nat} (hk : k ≤ 40) : Sz 4000 (rp x k) :=
  ((rp_bd h k).sz (Nat.pow_pos (by decide)) (pow_two (a := 15) (by decide)) (pow_two (a := 5) (by decide))).mono (by omega)
theorem fold_bd {A B : Nat} (hB : 0 < B) : ∀ (z : List (Fr × Int)) (f : Fr) (M N : Nat), (∀ e ∈ z, Bd A B e.1 ∧ e.2 ≤ 4) → Bd M N f → Bd (M * (A ^ 4) ^ z.length) (N * (B ^ 4) ^ z.length) (z.foldl (fun y e => mulF y (rp e.1 e.2.toNat)) f)
  | [], f, M, N, _, hf => by simpa using hf
  | e :: z, f, M, N, h, hf => by
    obtain ⟨h1, h2⟩ := h e List.mem_cons_self
    have b1 : Bd (A ^ 4) (B ^ 4) (rp e.1 e.2.toNat) := (rp_bd h1 e.2.toNat).mono (Nat.pow_dvd_pow _ (by omega)) (Nat.pow_le_pow_right hB (by omega))
    have ih := fold_bd hB z (mulF f (rp e.1 e.2.toNat)) (M * A ^ 4) (N * B ^ 4) (fun u hu => h u (List.mem_cons_of_mem _ hu)) (hf.mul b1)
    have e9 : ∀ m a k : Nat, m * a ^ (k + 1) = m * a * a ^ k := fun m a k => by rw [Nat.pow_succ, Nat.mul_comm (a ^ k) a, ← Nat.mul_assoc]
    rw [List.length_cons, e9 M (A ^ 4), e9 N (B ^ 4)]
    exact ih
theorem term_bd {A B M N : Nat} {xs : List Fr} {m : Mon} {f : Fr} (hB : 0 < B) (hl : xs.length ≤ 3) (hx : ∀ x ∈ xs, Bd A B x) (hm : ∀ e ∈ m, e ≤ 4) (hf : Bd M N f) : Bd (M * (A ^ 4) ^ 3) (N * (B ^ 4) ^ 3) (termW xs (m, f)) := by
  have h := fold_bd hB (List.zip xs m) f M N (fun e he => ⟨hx _ (List.of_mem_zip he).1, hm _ (List.of_mem_zip he).2⟩) hf
  have l3 : (List.zip xs m).length ≤ 3 := by rw [List.length_zip]; omega
  exact h.mono (Nat.mul_dvd_mul_left _ (Nat.pow_dvd_pow _ l3)) (Nat.mul_le_mul_left _ (Nat.pow_le_pow_right (Nat.pow_pos hB) l3))
theorem sum_bd {M N : Nat} {xs : List Fr} : ∀ (p : Poly) (y : Fr) (a : Nat), (∀ t ∈ p, Bd M N (termW xs t)) → Bd M a y → Bd M (a + p.length * N) (p.foldl (fun y t => addF y (termW xs t)) y)
  | [], y, a, _, hy => by simpa using hy
  | t :: p, y, a, h, hy => by
    have ih := sum_bd p (addF y (termW xs t)) (a + N) (fun u hu => h u (List.mem_cons_of_mem _ hu)) (hy.add (h t List.mem_cons_self))
    rw [List.length_cons, Nat.succ_mul, show a + (p.length * N + N) = a + N + p.length * N by omega]
    exact ih
theorem sum_head {n top : Nat} {p : Poly} (h : Nice n top p) : ∀ t ∈ p, t.1.sum ≤ degP p := fun t ht => by
  cases p with
  | nil => cases ht
  | cons u p =>
    rcases List.mem_cons.mp ht with rfl | ht
    · exact Int.le_refl _
    · have g := (List.pairwise_cons.mp h.ord).1 t ht
      unfold gtM gtK at g
      show t.1.sum ≤ u.1.sum
      split at g
      · omega
      · have := of_decide_eq_true g
        omega
theorem worth_ok {n M N : Nat} {xs : List Fr} {p : Poly} (hn : n ≤ 3) (lx : xs.length = n) (bx : ∀ x ∈ xs, Bd 27720 20 x) (rx : ∀ x ∈ xs, isR (fD x) = true) (np : Nice n 4 p) (hs : ∀ t ∈ p, t.1.sum ≤ 40) (hl : p.length ≤ 30) (bp : ∀ t ∈ p, Bd M N t.2) (hM : M < 2 ^ 1000) (hM0 : 0 < M) (hN : N < 2 ^ 1000) : WorthOk n xs p := by
  have e1 : (27720 ^ 4) ^ 3 < 2 ^ 200 := by decide +kernel
  have e2 : (20 ^ 4) ^ 3 < 2 ^ 60 := by decide +kernel
  have z1 : M * (27720 ^ 4) ^ 3 < 2 ^ 1200 := by
    rw [show 1200 = 1000 + 200 from rfl, Nat.pow_add]
    exact Nat.mul_lt_mul'' hM e1
  have z2 : N * (20 ^ 4) ^ 3 < 2 ^ 1060 := by
    rw [show 1060 = 1000 + 60 from rfl, Nat.pow_add]
    exact Nat.mul_lt_mul'' hN e2
  have z0 : 0 < M * (27720 ^ 4) ^ 3 := Nat.mul_pos hM0 (by decide)
  have tb : ∀ t ∈ p, ∀ i j, Bd (M * (27720 ^ 4) ^ 3) (N * (20 ^ 4) ^ 3) (termW (xs.take i) (t.1.take j, t.2)) := fun t ht i j =>
    term_bd (by decide) (by rw [List.length_take]; omega) (fun x hx => bx x (List.mem_of_mem_take hx)) (fun e he => ((np.mon t ht).2 e (List.mem_of_mem_take he)).2) (bp t ht)
  refine ⟨lx, rx, degP_le hs (by decide), fun t ht => ⟨(np.mon t ht).1, fun e he => ⟨((np.mon t ht).2 e he).1, ?_⟩⟩, fun x hx => small1.one (bx x hx), fun x hx k hk => rp_sz (bx x hx) hk, fun t ht i => ((tb t ht i i).sz z0 z1 z2).mono (by decide), fun i => ?_⟩
  · have := entry_le (fun x hx => ((np.mon t ht).2 x hx).1) e he
    have := sum_head np t ht
    omega
  · have b := sum_bd (M := M * (27720 ^ 4) ^ 3) (N := N * (20 ^ 4) ^ 3) (xs := xs) (p.take i) (0, 1) 0 (fun t ht => by
      have := tb t (List.mem_of_mem_take ht) n n
      rw [show xs.take n = xs from List.take_of_length_le (by omega), show t.1.take n = t.1 from List.take_of_length_le (by rw [(np.mon t (List.mem_of_mem_take ht)).1]; exact Nat.le_refl _)] at this
      exact this) (bd0 0)
    have z3 : 0 + (p.take i).length * (N * (20 ^ 4) ^ 3) < 2 ^ 1065 := by
      rw [Nat.zero_add, show 1065 = 5 + 1060 from rfl, Nat.pow_add]
      exact Nat.mul_lt_mul'' (by rw [List.length_take]; omega) z2
    exact (b.sz z0 z1 z3).mono (by decide)
end QG

-- of 12
set_option Elab.async false
set_option linter.all false
set_option maxRecDepth 100000
set_option maxHeartbeats 4000000
/-! ### small facts for the law's check of one jar -/
namespace QG
open PySem PySem.Spec PyProof.Rows L2 KX KP KT KJ KS QR QD QP FR
open QL (PolF)
theorem bd_num {x : Fr} (h : QL.NumOk x) : Bd 27720 20 x := ⟨h.pos, by
  have h1 := h.pos
  have h2 := h.d
  obtain ⟨a, b⟩ := x
  dsimp only at h1 h2 ⊢
  have : b = 1 ∨ b = 2 ∨ b = 3 ∨ b = 4 ∨ b = 5 ∨ b = 6 ∨ b = 7 ∨ b = 8 ∨ b = 9 ∨ b = 10 ∨ b = 11 ∨ b = 12 := by omega
  rcases this with rfl | rfl | rfl | rfl | rfl | rfl | rfl | rfl | rfl | rfl | rfl | rfl <;> decide, by
  have := h.n
  have := h.pos
  have : 1 ≤ x.2.natAbs := by omega
  omega⟩
theorem tiny_of {n deg : Nat} {p : Poly} (h : QL.PolyOk n deg p) (hd : deg ≤ 4) (hl : p.length ≤ 4) : Tiny n 4 4 p :=
  ⟨nice_drawn ⟨h.ord, fun t ht => ⟨(h.mon t ht).len, (h.mon t ht).pos, by have := (h.mon t ht).sum; omega⟩, h.num⟩, fun t ht => by have := (h.mon t ht).sum; omega, hl, fun t ht => bd_num (h.num t ht).1⟩
theorem tiny_nil {n deg len : Nat} : Tiny n deg len [] := ⟨⟨.nil, (fun _ h => by cases h), (fun _ h => by cases h)⟩, (fun _ h => by cases h), Nat.zero_le _, (fun _ h => by cases h)⟩
theorem grid_bd {r : Mon} (h : ∀ e ∈ r, 0 ≤ e ∧ e ≤ 4) : ∀ x ∈ gridF r, Bd 27720 20 x := fun x hx => by
  obtain ⟨e, he, rfl⟩ := List.mem_map.mp hx
  have := h e he
  exact ⟨by show (0 : Int) < 1; decide, Int.one_dvd _, by show e.natAbs ≤ 20 * 1; omega⟩
theorem grid_is {r : Mon} : ∀ x ∈ gridF r, isR (fD x) = true := fun x hx => by
  obtain ⟨e, he, rfl⟩ := List.mem_map.mp hx
  have e2 : decide (Nat.gcd e.natAbs 1 = 1) = true := decide_eq_true (Nat.gcd_one_right _)
  exact Bool.and_eq_true_iff.mpr ⟨rfl, e2⟩
theorem grid_ok {n M N : Nat} {p : Poly} (hn : n ≤ 3) (np : Nice n 4 p) (hs : ∀ t ∈ p, t.1.sum ≤ 40) (hl : p.length ≤ 30) (bp : ∀ t ∈ p, Bd M N t.2) (hM : M < 2 ^ 1000) (hM0 : 0 < M) (hN : N < 2 ^ 1000) : ∀ r : Mon, r.length = n → (∀ e ∈ r, 0 ≤ e ∧ e ≤ 4) → WorthOk n (gridF r) p := fun r lr br =>
  worth_ok hn (by unfold gridF; rw [List.length_map, lr]) (grid_bd br) grid_is np hs hl bp hM hM0 hN
theorem told_bd {M N k : Nat} {L : Poly} (hb : ∀ t ∈ L, Bd M N t.2) (hl : L.length ≤ k) : ∀ t ∈ inOrd (colD [] L), Bd M (k * N) t.2 := fun t ht =>
  ((colD_bd (D := []) (a := 0) (fun _ h => by cases h) hb) t (QL.inOrd_mem.mp ht).1).mono (Nat.dvd_refl _) (by rw [Nat.zero_add]; exact Nat.mul_le_mul_right _ hl)
theorem sw_frac {x : Fr} (h1 : x.1.natAbs < 2 ^ 1920) (h2 : x.2.natAbs < 2 ^ 1920) : Sw 4000000 5 (fD x) := (sw_tup (k := 2) (L := 1921) (n := 1) (fun d hd => by
  simp only [List.mem_cons, List.not_mem_nil, or_false] at hd
  rcases hd with rfl | rfl
  · exact sw_int h1
  · exact sw_int h2) (by simp)).le (by decide) (by decide)
theorem worth_sw {n : Nat} {xs : List Fr} {p : Poly} (hn : n ≤ 3) (lx : xs.length = n) (bx : ∀ x ∈ xs, Bd 27720 20 x) (np : Nice n 4 p) (hl : p.length ≤ 30) (bp : ∀ t ∈ p, Bd 27720 20 t.2) : Sw 4000000 5 (fD (worthF xs p)) := by
  have tb : ∀ t ∈ p, Bd (27720 * (27720 ^ 4) ^ 3) (20 * (20 ^ 4) ^ 3) (termW xs t) := fun t ht =>
    term_bd (m := t.1) (f := t.2) (by decide) (by omega) bx (fun e he => ((np.mon t ht).2 e he).2) (bp t ht)
  have b := (sum_bd p (0, 1) 0 tb (bd0 0)).mono (M' := 27720 * (27720 ^ 4) ^ 3) (N' := 30 * (20 * (20 ^ 4) ^ 3)) (Nat.dvd_refl _) (by rw [Nat.zero_add]; exact Nat.mul_le_mul_right _ hl)
  obtain ⟨z1, z2⟩ := bd_lt b (by decide) (by decide +kernel)
  exact sw_frac z1 z2
theorem polF_but {K : PySem.W.Frag} {H H' : Hp} {v : V} {p : Poly} {j : Addr} {n : Nat} (h : PolF K H v p) (hj : JarAt H j n) (b : KJ.But j H H') : PolF K H' v p := h.but (fun a o us e => b _ _ (fun z => by
  subst z
  obtain ⟨_, _, _, e', _⟩ := hj
  rw [e'] at e
  cases e) e) (Tt.jar hj b)
theorem small160 : Small 27720 160 1300 := ⟨by decide, by decide +kernel⟩
end QG

-- of 12
set_option Elab.async false
set_option linter.all false
set_option maxRecDepth 100000
set_option maxHeartbeats 4000000
/-! ### law k12's check of one jar -/
namespace QG
open PySem PySem.Spec PyProof.Rows L2 KX KP KT KJ KS QR QD QP FR
open QL (spLPoly spPows spNum)
abbrev nR12 : List Str := ["jar", "many", "one", "two", "turn", "numbers", "due", "less", "near"]
theorem scR12 : FnScope nR12 ["jar"] (defScope lRight3) := ⟨rfl, rfl, rfl, by decide +kernel, rfl, by decide +kernel, by decide +kernel⟩
section
variable {P : Program} {w : World} {K : PySem.W.Frag} {mg : Str → Option Value} {base : Heap}
theorem ok_right12 {f fD fP fA fN fW fV fM fL fS fX fO fY fE : Addr} {fd fdD fdP fdA fdN fdW fdV fdM fdL fdS fdX fdO fdY fdE : FuncData} {Ps : List Addr} (F : Fun K "_law_right" "_law_right" lRight3 f fd) (T : TxD mg)
    (FD : FnOk P w K mg base CX0 1 fD fdD ["jar", "many"] spDip) (mD : mg "_law_draw" = some (.ref fD)) (kD : PySem.W.keepIn K (.ref fD) = true) (bD : Binds K fdD ["jar", "many"] [])
    (FP : FnOk P w K mg base CX0 5 fP fdP ["jar", "many", "terms", "degree"] (spLPoly K)) (mP : mg "_law_poly" = some (.ref fP)) (kP : PySem.W.keepIn K (.ref fP) = true) (bP : Binds K fdP ["jar", "many", "terms", "degree"] [])
    (FA : FnG P w K mg base 9 fA fdA ["many", "one", "two"] (spAreRight K Ps)) (mA : mg "_law_are_right" = some (.ref fA)) (kA : PySem.W.keepIn K (.ref fA) = true) (bA : Binds K fdA ["many", "one", "two"] [])
    (FN : FnOk P w K mg base CX0 4 fN fdN ["jar", "many"] (spNums K)) (mN : mg "_law_numbers" = some (.ref fN)) (kN : PySem.W.keepIn K (.ref fN) = true) (bN : Binds K fdN ["jar", "many"] [])
    (FW : FnOk P w K mg base CX0 5 fW fdW ["one", "numbers"] (spLWorth K)) (mW : mg "_law_worth" = some (.ref fW)) (kW : PySem.W.keepIn K (.ref fW) = true) (bW : Binds K fdW ["one", "numbers"] [])
    (FV : FnOk P w K mg base CX0 8 fV fdV ["many", "one", "assignment"] (spWorth K Ps)) (mV : mg "worth" = some (.ref fV)) (kV : PySem.W.keepIn K (.ref fV) = true) (bV : Binds K fdV ["many", "one", "assignment"] []) (bVk : KBinds K fdV ["many", "one", "assignment"] ["assignment", "one", "many"] gRev gRevV)
    (FM : FnOk P w K mg base CX0 8 fM fdM ["many", "one", "two"] (spMinus K Ps)) (mM : mg "minus" = some (.ref fM)) (kM : PySem.W.keepIn K (.ref fM) = true) (bM : Binds K fdM ["many", "one", "two"] [])
    (FL : FnOk P w K mg base CX0 8 fL fdL ["many", "one", "two"] (spPlus K Ps)) (mL : mg "plus" = some (.ref fL)) (kL : PySem.W.keepIn K (.ref fL) = true) (bL : Binds K fdL ["many", "one", "two"] [])
    (FS : FnOk P w K mg base CX0 5 fS fdS ["one", "two", "by"] (spLSum K)) (mS : mg "_law_sum" = some (.ref fS)) (kS : PySem.W.keepIn K (.ref fS) = true) (bS : Binds K fdS ["one", "two", "by"] [])
    (FX : FnOk P w K mg base CX0 2 fX fdX ["jar", "many", "most"] spPows) (mX : mg "_law_powers" = some (.ref fX)) (kX : PySem.W.keepIn K (.ref fX) = true) (bX : Binds K fdX ["jar", "many", "most"] [])
    (FO : FnOk P w K mg base CX0 3 fO fdO ["jar"] spNum) (mO : mg "_law_number" = some (.ref fO)) (kO : PySem.W.keepIn K (.ref fO) = true) (bO : Binds K fdO ["jar"] [])
    (FY : FnOk P w K mg base CX0 9 fY fdY ["many", "one", "two"] (spApart K Ps)) (mY : mg "_law_are_told_apart" = some (.ref fY)) (kY : PySem.W.keepIn K (.ref fY) = true) (bY : Binds K fdY ["many", "one", "two"] [])
    (FE : FnG P w K mg base 1 fE fdE ["told", "due"] (spSame3 K)) (mE : mg "_law_same" = some (.ref fE)) (kE : PySem.W.keepIn K (.ref fE) = true) (bE : Binds K fdE ["told", "due"] []) :
    FnG P w K mg base 14 f fd ["jar"] (spRight3 Ps) := by
  refine FnG.mk' F scR12 (fun {vs H Q E} h => ?_) (fun cdv A outer s H vs Q E qu hr h => ?_)
  · obtain ⟨j, rfl, _⟩ := h
    rfl
  · obtain ⟨j, rfl, hj, tb, k⟩ := h
    have hr1 : Room 1 _ := hr.mono (by decide)
    have hr2 : Room 2 _ := hr.mono (by decide)
    have hr3 : Room 3 _ := hr.mono (by decide)
    have hr4 : Room 4 _ := hr.mono (by decide)
    have hr5 : Room 5 _ := hr.mono (by decide)
    have hr8 : Room 8 _ := hr.mono (by decide)
    have hr9 : Room 9 _ := hr.mono (by decide)
    have qu' : Quiet (A.deeper (envOfC "_law_right" (defScope lRight3) s.heap.objs.size f cdv)) := qu
    refine ⟨_, pss_cons (ps_set (i := 1) scR12.nd rfl (Or.inl rfl) (pe_call FD hr1 (by rfl) mD kD bD .nil pass0 (pa_cons (pv 0) (pa_cons pe_int pa_nil))))
      (pss_cons (ps_par (i := 2) (j := 3) (by rfl) scR12.nd rfl rfl (by decide) rfl rfl (pa_cons (pe_call FP hr5 (by rfl) mP kP bP .nil pass0 (pa_cons (pv 0) (pa_cons (pv 1) (pa_cons pe_int (pa_cons pe_int pa_nil))))) (pa_cons (pe_call FP hr5 (by rfl) mP kP bP .nil pass0 (pa_cons (pv 0) (pa_cons (pv 1) (pa_cons pe_int (pa_cons pe_int pa_nil))))) pa_nil)) (by rfl))
      (pss_cons (ps_if (PW.pt (pw_or (pt_not (pt_val (pe_quiet FA qu' hr9 (by rfl) mA kA bA (pa_cons (pv 1) (pa_cons (pv 2) (pa_cons (pv 3) pa_nil)))))) (pw_or (pt_not (pt_val (pe_quiet FA qu' hr9 (by rfl) mA kA bA (pa_cons (pv 1) (pa_cons (pv 2) (pa_cons (pe_tup pa_nil) pa_nil))))))
          (pw_or1 (pt_not (pt_val (pe_quiet FA qu' hr9 (by rfl) mA kA bA (pa_cons (pv 1) (pa_cons (pv 2) (pa_cons (pv 2) pa_nil)))))))))) (pss_one (ps_ret pe_bl)) pss_nil)
      (pss_cons (ps_for PassesOwn.never rfl (pi_range1 rfl T.range (pa_cons pe_int pa_nil)) (pg_name (i := 4) scR12.nd rfl (Or.inl rfl))
        (pss_cons (ps_set (i := 5) scR12.nd rfl (Or.inl rfl) (pe_call FN hr4 (by rfl) mN kN bN .nil pass0 (pa_cons (pv 0) (pa_cons (pv 1) pa_nil))))
        (pss_cons (ps_set (i := 6) scR12.nd rfl (Or.inl rfl) (pe_call FW hr5 (by rfl) mW kW bW .nil pass0 (pa_cons (pv 2) (pa_cons (pv 5) pa_nil))))
        (pss_one (ps_if (pt_not (pt_val (pe_quiet FE qu' hr1 (by rfl) mE kE bE (pa_cons (pe_lst (pa_cons (pe_call FV hr8 (by rfl) mV kV bV .nil pass0 (pa_cons (pv 1) (pa_cons (pv 2) (pa_cons (pv 5) pa_nil)))) (pa_cons (pe_callK0 FV hr8 (by rfl) mV kV bVk pass0 (pk_cons (pv 5) (pk_cons (pv 2) (pk_cons (pv 1) pk_nil)))) pa_nil)))
          (pa_cons (pe_lst (pa_cons (pv 6) (pa_cons (pv 6) pa_nil))) pa_nil))))) (pss_one (ps_ret pe_bl)) pss_nil)))))
      (pss_cons (ps_set (i := 7) scR12.nd rfl (Or.inl rfl) (pe_call FM hr8 (by rfl) mM kM bM .nil pass0 (pa_cons (pv 1) (pa_cons (pe_call FL hr8 (by rfl) mL kL bL .nil pass0 (pa_cons (pv 1) (pa_cons (pv 2) (pa_cons (pv 3) pa_nil)))) (pa_cons (pv 3) pa_nil)))))
      (pss_cons (ps_set (i := 8) scR12.nd rfl (Or.inl rfl) (pe_call FS hr5 (by rfl) mS kS bS .nil pass0 (pa_cons (pv 2) (pa_cons (pe_tup (pa_cons (pe_tup (pa_cons (pe_call FX hr2 (by rfl) mX kX bX .nil pass0 (pa_cons (pv 0) (pa_cons (pv 1) (pa_cons pe_int pa_nil)))) (pa_cons (pe_call FO hr3 (by rfl) mO kO bO .nil pass0 (pa_cons (pv 0) pa_nil)) pa_nil))) pa_nil)) (pa_cons (pe_tup (pa_cons pe_int (pa_cons pe_int pa_nil))) pa_nil)))))
      (pss_one (ps_ret (pe_and (pe_call FY hr9 (by rfl) mY kY bY .nil pass0 (pa_cons (pv 1) (pa_cons (pv 2) (pa_cons (pv 7) pa_nil)))) (pe_one (pe_call FY hr9 (by rfl) mY kY bY .nil pass0 (pa_cons (pv 1) (pa_cons (pv 2) (pa_cons (pv 8) pa_nil))))))))))))), ?_⟩
    -- many
    refine i_asg ⟨_, rfl, j, 4, 0, rfl, by decide, by decide, hj, by decide, fun r H1 r0 r1 b1 j1 => ?_⟩
    obtain ⟨m, rfl⟩ : ∃ m : Nat, r = (m : Int) := ⟨r.toNat, by omega⟩
    have sta0 : Sta Ps j H H 0 := ⟨hj, tb, fun _ _ _ e _ => e⟩
    have sta1 := sta0.but b1 j1
    have m3 : m ≤ 3 := by omega
    -- one, two
    refine QL.par_go2 ?_
    refine ⟨_, rfl, _, rfl, j, _, m, 4, 4, rfl, j1, by omega, by omega, by decide, by decide, fun v p H2 _ pf2 pok lp b2 j2 => ?_⟩
    have sta2 := sta1.but b2 j2
    refine ⟨_, rfl, _, rfl, j, _, m, 4, 3, rfl, j2, by omega, by omega, by decide, by decide, fun w q H3 pw3 _ qok lq b3 j3 => ?_⟩
    have sta3 := sta2.but b3 j3
    refine ⟨v, w, rfl, ?_⟩
    have pf3 := polF_but pf2 j2 b3
    have tp := tiny_of pok (by decide) lp
    have tq := tiny_of qok (by decide) lq
    have isP := tp.is (by decide) (by decide)
    have isQ := tq.is (by decide) (by decide)
    have nd := tp.nice.nodup
    have lop : ∀ t ∈ p, Lo t.2 := fun t ht => (tp.nice.num t ht).1
    have loq : ∀ t ∈ q, Lo t.2 := fun t ht => (tq.nice.num t ht).1
    have mon : ∀ {r : Poly}, Tiny m 4 4 r → ∀ t ∈ r, t.1.length = m ∧ (∀ x ∈ t.1, 0 ≤ x) ∧ t.1.sum ≤ 4 := fun h t ht => ⟨(h.nice.mon t ht).1, fun x hx => ((h.nice.mon t ht).2 x hx).1, h.sum t ht⟩
    have sump : ∀ t ∈ p, t.1.sum ≤ 40 := fun t ht => by have := tp.sum t ht; omega
    have bd1 : ∀ t ∈ p ++ q, Bd 27720 20 t.2 := fun t ht => (List.mem_append.mp ht).elim (tp.bd t) (tq.bd t)
    have T1 := told_ok (n := m) (deg := 4) (M := 27720) (N := 20) (L := p ++ q) (by omega) (by decide) (by rw [List.length_append]; omega) (fun t ht => (List.mem_append.mp ht).elim (mon tp t) (mon tq t)) (fun t ht => (List.mem_append.mp ht).elim (lop t) (loq t)) bd1 (by decide) (by decide +kernel)
    have bds : ∀ t ∈ inOrd (colD [] (p ++ q)), Bd 27720 160 t.2 := told_bd (k := 8) bd1 (by rw [List.length_append]; omega)
    have lpq : (p ++ q).length ≤ 8 := by rw [List.length_append]; omega
    obtain ⟨ns, ss, ls, ds, ls6, _⟩ := T1
    generalize es : inOrd (colD [] (p ++ q)) = s at ns ss ls ds ls6 bds
    have isS : isPoly m (polyD s) = true := isPoly_of ns ls6 fun t ht => by have := ss t ht; omega
    have lnq : (negP q).length = q.length := List.length_map _
    have negm : ∀ t ∈ negP q, ∃ u ∈ q, t = (u.1, negF u.2) := fun t ht => by
      obtain ⟨u, hu, rfl⟩ := List.mem_map.mp ht
      exact ⟨u, hu, rfl⟩
    have bd4 : ∀ t ∈ s ++ negP q, Bd 27720 160 t.2 := fun t ht => (List.mem_append.mp ht).elim (bds t) fun h => by
      obtain ⟨u, hu, rfl⟩ := negm t h
      exact ((tq.bd u hu).neg).mono (Nat.dvd_refl _) (by decide)
    have lsq : (s ++ negP q).length ≤ 12 := by rw [List.length_append, lnq]; omega
    have T4 := told_ok (n := m) (deg := 4) (M := 27720) (N := 160) (L := s ++ negP q) (by omega) (by decide) (by omega) (fun t ht => (List.mem_append.mp ht).elim (fun h => ⟨(ns.mon t h).1, fun x hx => ((ns.mon t h).2 x hx).1, ss t h⟩) fun h => by
      obtain ⟨u, hu, rfl⟩ := negm t h
      exact mon tq u hu) (fun t ht => (List.mem_append.mp ht).elim (fun h => (ns.num t h).1) fun h => by
      obtain ⟨u, hu, rfl⟩ := negm t h
      exact lo_neg (loq u hu)) bd4 (by decide) (by decide +kernel)
    have bdl : ∀ t ∈ inOrd (colD [] (s ++ negP q)), Bd 27720 (12 * 160) t.2 := told_bd bd4 lsq
    obtain ⟨nl, sl, ll, dl, ll6, _⟩ := T4
    generalize el : inOrd (colD [] (s ++ negP q)) = l at nl sl ll dl ll6 bdl
    have isL : isPoly m (polyD l) = true := isPoly_of nl ll6 fun t ht => by have := sl t ht; omega
    have wgP := grid_ok m3 tp.nice sump (by omega) tp.bd (by decide +kernel) (by decide) (by decide +kernel)
    have wgL := grid_ok m3 nl (fun t ht => by have := sl t ht; omega) (by omega) bdl (by decide +kernel) (by decide) (by decide +kernel)
    -- are they right
    refine QL.i_or ?_
    refine ⟨_, rfl, _, rfl, _, rfl, m, v, w, p, q, rfl, by omega, pf3, pw3, tp, tq, sta3.tb, fun H4 g4 => ⟨true, rfl, iteB (fun c => absurd c (by decide)) (fun _ => ?_)⟩⟩
    have sta4 := sta3.grown g4
    have pf4 := polF_sm pf3 g4.sm
    have pw4 := pw3.tt (Tt.sm g4.sm)
    refine QL.i_or ?_
    refine ⟨_, rfl, _, rfl, Nat.zero_le _, fun c hc => ?_⟩
    have sc := same_upd (o := .tup ([] : List V)) hc
    have sta4' := sta4.same sc
    refine ⟨m, v, .ref c, p, [], rfl, by omega, polF_sm pf4 (Sm.same sc), ⟨c, [], rfl, SqT.of (.inl upd_same), .nil⟩, tp, tiny_nil, sta4'.tb, fun H5 g5 => ⟨true, rfl, iteB (fun c => absurd c (by decide)) (fun _ => ?_)⟩⟩
    have sta5 := sta4'.grown g5
    have pf5 := polF_sm pf4 ((Sm.same sc).trans g5.sm)
    have pw5 := pw4.tt (Tt.sm ((Sm.same sc).trans g5.sm))
    refine QL.i_end ?_
    refine ⟨_, rfl, _, rfl, _, rfl, m, v, v, p, p, rfl, by omega, pf5, polF_pol pf5, tp, tp, sta5.tb, fun H6 g6 => ⟨true, rfl, iteB (fun c => absurd c (by decide)) (fun _ => ?_)⟩⟩
    have sta6 := sta5.grown g6
    have pf6 := polF_sm pf5 g6.sm
    have pw6 := pw5.tt (Tt.sm g6.sm)
    -- worths
    refine ⟨3, rfl, by decide, by decide, ?_⟩
    have sta6' := sta6.more (m := 601) (by omega)
    refine for_range (lo := 0) (n := 3) (fun i σ H' => ∃ o4 o5 o6 : Option V, σ = [some (.ref j), some (.int (m : Nat)), some v, some w, o4, o5, o6, none, none] ∧ Sta Ps j H H' (601 + 40 * i) ∧ QL.PolF K H' v p ∧ PolV K H' w q) ⟨none, none, none, rfl, sta6', pf6, pw6⟩ ?_ ?_
    · rintro i σ H7 hi ⟨o4, o5, o6, rfl, sta7, pf7, pw7⟩
      refine i_asg ⟨_, rfl, _, rfl, j, _, m, rfl, sta7.jr, by omega, by omega, fun nv xs H8 row8 lx nok b8 j8 => ?_⟩
      have sta8 := sta7.but b8 j8
      have pf8 := polF_but pf7 sta7.jr b8
      have pw8 := pw7.tt (Tt.jar sta7.jr b8)
      have bx : ∀ x ∈ xs, Bd 27720 20 x := fun x hx => bd_num (nok x hx)
      have wok : WorthOk m xs p := worth_ok m3 lx bx (fun x hx => KP.isR_num (nok x hx)) tp.nice sump (by omega) tp.bd (by decide +kernel) (by decide) (by decide +kernel)
      refine i_asg ⟨_, rfl, _, rfl, m, v, nv, p, xs, rfl, by omega, polF_pol pf8, by omega, row8, wok, fun dv H9 s9 fr9 => ?_⟩
      have sta9 := sta8.same s9
      have pf9 := polF_sm pf8 (Sm.same s9)
      have row9 := row8.tk (Tk.same s9)
      refine KP.i_same2' (KP.i_same2 ⟨_, rfl, _, rfl, _, rfl, m, v, nv, p, xs, rfl, by omega, polF_pol pf9, isP, by omega, row9, wok, sta9.tb, fun r1 H10 g10 fr10 => ?_⟩)
      have sta10 := sta9.grown g10
      refine ⟨_, rfl, _, rfl, _, rfl, m, v, nv, p, xs, rfl, by omega, polF_pol (polF_sm pf9 g10.sm), isP, by omega, row9.tk (Tk.sm g10.sm), wok, sta10.tb, fun r2 H11 g11 fr11 => ?_⟩
      have sta11 := sta10.grown g11
      refine KP.same_tail (K := K) (i := 6) (v4 := dv) rfl (worth_sw m3 lx bx tp.nice (by omega) tp.bd) (Dk.ofDp (KP.dp_fr (fr10.tk (Tk.sm g11.sm)))) (Dk.ofDp (KP.dp_fr fr11)) (Dk.ofDp (KP.dp_fr (fr9.tk (Tk.sm (g10.trans g11).sm)))) fun H12 s12 => ?_
      have sm := ((Sm.same s9).trans (g10.trans g11).sm).trans (Sm.same s12)
      exact ⟨_, _, _, rfl, (sta11.same s12).more (by omega), polF_sm pf8 sm, pw8.tt (Tt.sm sm)⟩
    rintro σ H7 ⟨o4, o5, o6, rfl, sta7, pf7, pw7⟩
    dsimp only
    -- less
    refine i_asg ⟨_, rfl, _, rfl, _, rfl, _, rfl, m, v, w, p, q, 27720, 20, rfl, by omega, polF_pol pf7, pw7, isP, isQ, by omega, small12, bd1, by rw [es]; exact ds, by rw [es]; exact ls6, sta7.tb, fun sv H8 g8 pv8 => ?_⟩
    rw [es] at pv8
    have sta8 := sta7.grown g8
    refine ⟨_, rfl, m, sv, w, s, q, 27720, 160, rfl, by omega, pv8, pw7.tt (Tt.sm g8.sm), isS, isQ, by omega, small160, (fun t ht => (List.mem_append.mp ht).elim (bds t) fun h => (tq.bd t h).mono (Nat.dvd_refl _) (by decide)), by rw [el]; exact dl, by rw [el]; exact ll6, sta8.tb, fun lv H9 g9 pv9 => ?_⟩
    rw [el] at pv9
    have sta9 := sta8.grown g9
    have pf9 := polF_sm pf7 (g8.trans g9).sm
    -- near
    refine i_asg ?_
    refine ⟨_, rfl, _, rfl, _, rfl, j, _, m, 3, rfl, sta9.jr, by omega, by omega, by decide, fun pb pm H10 eb10 nb10 mok b10 j10 => ?_⟩
    have sta10 := sta9.but b10 j10
    refine ⟨_, rfl, j, _, rfl, sta10.jr, by omega, fun xa x H11 ex11 nx11 xok b11 j11 => ?_⟩
    have sta11 := sta10.but b11 j11
    have njb : pb ≠ j := fun z => sta9.st.new nb10 (by rw [z]; simp)
    have eb11 := b11 _ _ njb eb10
    refine ⟨by show 2 ≤ sizeLine; decide, fun t1 ht1 => ⟨by show 1 ≤ sizeLine; decide, fun t2 ht2 => ⟨by show 2 ≤ sizeLine; decide, fun u hu => ?_⟩⟩⟩
    have s1 := same_upd (o := .tup [V.ref pb, .ref xa]) ht1
    have s2 := same_upd (o := .tup [V.ref t1]) ht2
    have s3 := same_upd (o := .tup [V.int 1, .int 1]) hu
    have s13 := (s1.trans s2).trans s3
    have pf11 := polF_but (polF_but pf9 sta9.jr b10) sta10.jr b11
    have lv11 := (pv9.tt (Tt.jar sta9.jr b10)).tt (Tt.jar sta10.jr b11)
    have near : PolV K _ (.ref t2) [(pm, x)] := ⟨t2, [.ref t1], rfl, SqT.of (.inl (s3 _ _ upd_same)), .cons ⟨t1, .ref pb, .ref xa, rfl, SqT.of (.inl (s3 _ _ (s2 _ _ upd_same))), ⟨pb, rfl, s13 _ _ eb11⟩, FrV.at (s13 _ _ ex11)⟩ .nil⟩
    have lox : ∀ t ∈ [(pm, x)], Lo t.2 := fun t ht => by rw [List.mem_singleton.mp ht]; exact lo_num xok
    have bdx : ∀ t ∈ [(pm, x)], Bd 27720 20 t.2 := fun t ht => by rw [List.mem_singleton.mp ht]; exact bd_num xok
    have b11 : Bd 27720 20 (1, 1) := ⟨by decide, ⟨27720, rfl⟩, by decide⟩
    have zp : ∀ t ∈ p, Bd 27720 20 t.2 ∧ (t.2.1 = 0 → t.2 = (0, 1)) := fun t ht => ⟨tp.bd t ht, lo_zero (lop t ht)⟩
    refine ⟨v, .ref t2, .ref u, p, [(pm, x)], (1, 1), 27720, 20, rfl, polF_sm pf11 (Sm.same s13), near, FrV.at (x := (1, 1)) upd_same, small1.one b11, nd, by rw [List.length_singleton]; omega, small12, zp, fun t ht => small1.one (bdx t ht), by rw [sca_one lox]; exact bdx, fun nv H12 s12 pn => ?_⟩
    rw [sca_one lox, ← sum_eq nd lop] at pn
    have sta12 := (sta11.same s13).same s12
    have pf12 := polF_sm pf11 (Sm.same (s13.trans s12))
    have lv12 := lv11.tt (Tt.same (s13.trans s12))
    have bd5 : ∀ t ∈ p ++ [(pm, x)], Bd 27720 20 t.2 := fun t ht => (List.mem_append.mp ht).elim (tp.bd t) (bdx t)
    have l5 : (p ++ [(pm, x)]).length ≤ 5 := by rw [List.length_append, List.length_singleton]; omega
    have T5 := told_ok (n := m) (deg := 4) (M := 27720) (N := 20) (L := p ++ [(pm, x)]) (by omega) (by decide) (by omega) (fun t ht => (List.mem_append.mp ht).elim (mon tp t) fun h => by
      rw [List.mem_singleton.mp h]
      exact ⟨mok.len, mok.pos, by have := mok.sum; show pm.sum ≤ 4; omega⟩) (fun t ht => (List.mem_append.mp ht).elim (lop t) (lox t)) bd5 (by decide) (by decide +kernel)
    have bdn : ∀ t ∈ inOrd (colD [] (p ++ [(pm, x)])), Bd 27720 (5 * 20) t.2 := told_bd bd5 l5
    obtain ⟨nn, sn, ln, dn, ln6, _⟩ := T5
    generalize inOrd (colD [] (p ++ [(pm, x)])) = z at pn nn sn ln dn ln6 bdn
    have isZ : isPoly m (polyD z) = true := isPoly_of nn ln6 fun t ht => by have := sn t ht; omega
    have wgZ := grid_ok m3 nn (fun t ht => by have := sn t ht; omega) (by omega) bdn (by decide +kernel) (by decide) (by decide +kernel)
    -- told apart
    refine ⟨_, rfl, _, rfl, _, rfl, m, v, lv, p, l, rfl, m3, polF_pol pf12, lv12, tp.nice, nl, by omega, by omega, isP, isL, fun r lr br => ⟨wgP r lr br, wgL r lr br⟩, sta12.tb, fun H13 g13 => ⟨true, rfl, iteB (fun _ => ?_) (fun c => absurd c (by decide))⟩⟩
    have sta13 := sta12.grown g13
    refine ⟨_, rfl, _, rfl, _, rfl, m, v, nv, p, z, rfl, m3, polF_pol (polF_sm pf12 g13.sm), pn.tt (Tt.sm g13.sm), tp.nice, nn, by omega, by omega, isP, isZ, fun r lr br => ⟨wgP r lr br, wgZ r lr br⟩, sta13.tb, fun H14 g14 => ?_⟩
    have sta14 := sta13.grown g14
    exact k H14 sta14.bt sta14.tb
end
end QG

set_option Elab.async false
set_option linter.all false
set_option maxRecDepth 100000
set_option maxHeartbeats 4000000
/-! ### what the top has written -/
namespace KP
open PySem PySem.Spec PyProof.Rows L2 KX KT KJ KS KG FR
theorem bindsN3 {K : PySem.W.Frag} {fd : FuncData} {x0 x1 x2 : Str} (h0 : ∀ (s : Shared) (v0 v1 v2 : Value), BindsTo s fd ⟨[], [(x2, v2), (x1, v1), (x0, v0)]⟩ [(x0, v0), (x1, v1), (x2, v2)]) (h1 : ∀ (s : Shared) (v0 v1 v2 : Value), BindsTo s fd ⟨[v0], [(x2, v2), (x1, v1)]⟩ [(x0, v0), (x1, v1), (x2, v2)]) (h2 : ∀ (s : Shared) (v0 v1 v2 : Value), BindsTo s fd ⟨[v0, v1], [(x2, v2)]⟩ [(x0, v0), (x1, v1), (x2, v2)]) (h3 : ∀ (s : Shared) (v0 v1 v2 : Value), BindsTo s fd ⟨[v0, v1, v2], []⟩ [(x0, v0), (x1, v1), (x2, v2)]) :
    KBinds K fd [x0, x1, x2] [x2, x1, x0] gRev gRevV := by
  refine ⟨fun s us ws _ hl => ?_, fun r rz => r.append rz.reverse⟩
  have hl : us.length + ws.length = 3 := by
    rw [gRev, List.length_append, List.length_reverse] at hl
    exact hl
  match us, ws with
  | [], [v2, v1, v0] => exact h0 s v0 v1 v2
  | [v0], [v2, v1] => exact h1 s v0 v1 v2
  | [v0, v1], [v2] => exact h2 s v0 v1 v2
  | [v0, v1, v2], [] => exact h3 s v0 v1 v2
  | [], [] => exact absurd hl (by simp)
  | [], [_] => exact absurd hl (by simp)
  | [], [_, _] => exact absurd hl (by simp)
  | [], _ :: _ :: _ :: _ :: _ => exact absurd hl (by simp only [List.length_cons, List.length_nil]; omega)
  | [_], [] => exact absurd hl (by simp)
  | [_], [_] => exact absurd hl (by simp)
  | [_], _ :: _ :: _ :: _ => exact absurd hl (by simp only [List.length_cons, List.length_nil]; omega)
  | [_, _], [] => exact absurd hl (by simp)
  | [_, _], _ :: _ :: _ => exact absurd hl (by simp only [List.length_cons, List.length_nil]; omega)
  | [_, _, _], _ :: _ => exact absurd hl (by simp only [List.length_cons, List.length_nil]; omega)
  | _ :: _ :: _ :: _ :: _, _ => exact absurd hl (by simp only [List.length_cons, List.length_nil]; omega)
theorem all_mk12 {l : PySem.W.OpenLaw} {w : World} {K : PySem.W.Frag} {h : Heap} {mg : Str → Option Value} {fa : Addr} {f_is_whole f_is_within f_is_ratio f_lowest f_added f_negative f_multiplied f_is_fraction f_is_polynomial f__is_term f__standing f_need_many f_need_polynomial f_plus f_minus f_times f_told_sum f__collected f__in_order f_degree_of f_told_terms f_worth f_need_fractions f__powers_up_to f__law_draw f__law_of f__law_same f__law_jar f__law_common f__law_frac f__law_add f__law_mul f__law_number f__law_powers f__law_keyed f__law_told_of f__law_sum f__law_product f__law_raised f__law_worth f__law_poly f__law_numbers f__law_rows_of f__law_are_right f__law_are_told_apart f__law_right f_law : Addr} (X : K.In h) (G : h.Ns mainGlobals mg) (hfa : mg "law" = some (.ref fa)) (tf_is_polynomial : TabFact mg h "is_polynomial") (tf__is_term : TabFact mg h "_is_term")
    (a_is_whole : PySem.W.nsIn K mainGlobals "is_whole" = some (some (.ref f_is_whole)))
    {oc_is_whole : Value} {od_is_whole an_is_whole : Option Addr} {sl_is_whole : Array (Option Value)} {kV_is_whole dc_is_whole pm_is_whole cd_is_whole ct_is_whole : Value}
    (l_is_whole : K.lookup f_is_whole = some ⟨oc_is_whole, od_is_whole, .func (PySem.W.fnOf "is_whole" "is_whole" (defArgs KP.sWhole) (defBody KP.sWhole) (defScope KP.sWhole) .none kV_is_whole dc_is_whole pm_is_whole an_is_whole cd_is_whole ct_is_whole), sl_is_whole⟩)
    (c_is_whole : PySem.W.codeIn K cd_is_whole "is_whole" = true)
    (k_is_whole : PySem.W.keepIn K (.ref f_is_whole) = true)
    (a_is_within : PySem.W.nsIn K mainGlobals "is_within" = some (some (.ref f_is_within)))
    {oc_is_within : Value} {od_is_within an_is_within : Option Addr} {sl_is_within : Array (Option Value)} {kV_is_within dc_is_within pm_is_within cd_is_within ct_is_within : Value}
    (l_is_within : K.lookup f_is_within = some ⟨oc_is_within, od_is_within, .func (PySem.W.fnOf "is_within" "is_within" (defArgs KP.sWithin) (defBody KP.sWithin) (defScope KP.sWithin) .none kV_is_within dc_is_within pm_is_within an_is_within cd_is_within ct_is_within), sl_is_within⟩)
    (c_is_within : PySem.W.codeIn K cd_is_within "is_within" = true)
    (k_is_within : PySem.W.keepIn K (.ref f_is_within) = true)
    (a_is_ratio : PySem.W.nsIn K mainGlobals "is_ratio" = some (some (.ref f_is_ratio)))
    {oc_is_ratio : Value} {od_is_ratio an_is_ratio : Option Addr} {sl_is_ratio : Array (Option Value)} {kV_is_ratio dc_is_ratio pm_is_ratio cd_is_ratio ct_is_ratio : Value}
    (l_is_ratio : K.lookup f_is_ratio = some ⟨oc_is_ratio, od_is_ratio, .func (PySem.W.fnOf "is_ratio" "is_ratio" (defArgs KP.sRatio) (defBody KP.sRatio) (defScope KP.sRatio) .none kV_is_ratio dc_is_ratio pm_is_ratio an_is_ratio cd_is_ratio ct_is_ratio), sl_is_ratio⟩)
    (c_is_ratio : PySem.W.codeIn K cd_is_ratio "is_ratio" = true)
    (k_is_ratio : PySem.W.keepIn K (.ref f_is_ratio) = true)
    (a_lowest : PySem.W.nsIn K mainGlobals "lowest" = some (some (.ref f_lowest)))
    {oc_lowest : Value} {od_lowest an_lowest : Option Addr} {sl_lowest : Array (Option Value)} {kV_lowest dc_lowest pm_lowest cd_lowest ct_lowest : Value}
    (l_lowest : K.lookup f_lowest = some ⟨oc_lowest, od_lowest, .func (PySem.W.fnOf "lowest" "lowest" (defArgs KP.sLowest) (defBody KP.sLowest) (defScope KP.sLowest) .none kV_lowest dc_lowest pm_lowest an_lowest cd_lowest ct_lowest), sl_lowest⟩)
    (c_lowest : PySem.W.codeIn K cd_lowest "lowest" = true)
    (k_lowest : PySem.W.keepIn K (.ref f_lowest) = true)
    (a_added : PySem.W.nsIn K mainGlobals "added" = some (some (.ref f_added)))
    {oc_added : Value} {od_added an_added : Option Addr} {sl_added : Array (Option Value)} {kV_added dc_added pm_added cd_added ct_added : Value}
    (l_added : K.lookup f_added = some ⟨oc_added, od_added, .func (PySem.W.fnOf "added" "added" (defArgs KP.sAdded) (defBody KP.sAdded) (defScope KP.sAdded) .none kV_added dc_added pm_added an_added cd_added ct_added), sl_added⟩)
    (c_added : PySem.W.codeIn K cd_added "added" = true)
    (k_added : PySem.W.keepIn K (.ref f_added) = true)
    (a_negative : PySem.W.nsIn K mainGlobals "negative" = some (some (.ref f_negative)))
    {oc_negative : Value} {od_negative an_negative : Option Addr} {sl_negative : Array (Option Value)} {kV_negative dc_negative pm_negative cd_negative ct_negative : Value}
    (l_negative : K.lookup f_negative = some ⟨oc_negative, od_negative, .func (PySem.W.fnOf "negative" "negative" (defArgs KP.sNeg) (defBody KP.sNeg) (defScope KP.sNeg) .none kV_negative dc_negative pm_negative an_negative cd_negative ct_negative), sl_negative⟩)
    (c_negative : PySem.W.codeIn K cd_negative "negative" = true)
    (k_negative : PySem.W.keepIn K (.ref f_negative) = true)
    (a_multiplied : PySem.W.nsIn K mainGlobals "multiplied" = some (some (.ref f_multiplied)))
    {oc_multiplied : Value} {od_multiplied an_multiplied : Option Addr} {sl_multiplied : Array (Option Value)} {kV_multiplied dc_multiplied pm_multiplied cd_multiplied ct_multiplied : Value}
    (l_multiplied : K.lookup f_multiplied = some ⟨oc_multiplied, od_multiplied, .func (PySem.W.fnOf "multiplied" "multiplied" (defArgs KP.sMul) (defBody KP.sMul) (defScope KP.sMul) .none kV_multiplied dc_multiplied pm_multiplied an_multiplied cd_multiplied ct_multiplied), sl_multiplied⟩)
    (c_multiplied : PySem.W.codeIn K cd_multiplied "multiplied" = true)
    (k_multiplied : PySem.W.keepIn K (.ref f_multiplied) = true)
    (a_is_fraction : PySem.W.nsIn K mainGlobals "is_fraction" = some (some (.ref f_is_fraction)))
    {oc_is_fraction : Value} {od_is_fraction an_is_fraction : Option Addr} {sl_is_fraction : Array (Option Value)} {kV_is_fraction dc_is_fraction pm_is_fraction cd_is_fraction ct_is_fraction : Value}
    (l_is_fraction : K.lookup f_is_fraction = some ⟨oc_is_fraction, od_is_fraction, .func (PySem.W.fnOf "is_fraction" "is_fraction" (defArgs QD.sIsFrac) (defBody QD.sIsFrac) (defScope QD.sIsFrac) .none kV_is_fraction dc_is_fraction pm_is_fraction an_is_fraction cd_is_fraction ct_is_fraction), sl_is_fraction⟩)
    (c_is_fraction : PySem.W.codeIn K cd_is_fraction "is_fraction" = true)
    (k_is_fraction : PySem.W.keepIn K (.ref f_is_fraction) = true)
    (a_is_polynomial : PySem.W.nsIn K mainGlobals "is_polynomial" = some (some (.ref f_is_polynomial)))
    {oc_is_polynomial : Value} {od_is_polynomial an_is_polynomial : Option Addr} {sl_is_polynomial : Array (Option Value)} {kV_is_polynomial dc_is_polynomial pm_is_polynomial cd_is_polynomial ct_is_polynomial : Value}
    (l_is_polynomial : K.lookup f_is_polynomial = some ⟨oc_is_polynomial, od_is_polynomial, .func (PySem.W.fnOf "is_polynomial" "is_polynomial" (defArgs QD.sIsPoly) (defBody QD.sIsPoly) (defScope QD.sIsPoly) .none kV_is_polynomial dc_is_polynomial pm_is_polynomial an_is_polynomial cd_is_polynomial ct_is_polynomial), sl_is_polynomial⟩)
    (c_is_polynomial : PySem.W.codeIn K cd_is_polynomial "is_polynomial" = true)
    (k_is_polynomial : PySem.W.keepIn K (.ref f_is_polynomial) = true)
    (a__is_term : PySem.W.nsIn K mainGlobals "_is_term" = some (some (.ref f__is_term)))
    {oc__is_term : Value} {od__is_term an__is_term : Option Addr} {sl__is_term : Array (Option Value)} {kV__is_term dc__is_term pm__is_term cd__is_term ct__is_term : Value}
    (l__is_term : K.lookup f__is_term = some ⟨oc__is_term, od__is_term, .func (PySem.W.fnOf "_is_term" "_is_term" (defArgs QD.sIsTerm) (defBody QD.sIsTerm) (defScope QD.sIsTerm) .none kV__is_term dc__is_term pm__is_term an__is_term cd__is_term ct__is_term), sl__is_term⟩)
    (c__is_term : PySem.W.codeIn K cd__is_term "_is_term" = true)
    (k__is_term : PySem.W.keepIn K (.ref f__is_term) = true)
    (a__standing : PySem.W.nsIn K mainGlobals "_standing" = some (some (.ref f__standing)))
    {oc__standing : Value} {od__standing an__standing : Option Addr} {sl__standing : Array (Option Value)} {kV__standing dc__standing pm__standing cd__standing ct__standing : Value}
    (l__standing : K.lookup f__standing = some ⟨oc__standing, od__standing, .func (PySem.W.fnOf "_standing" "_standing" (defArgs QR.sStanding) (defBody QR.sStanding) (defScope QR.sStanding) .none kV__standing dc__standing pm__standing an__standing cd__standing ct__standing), sl__standing⟩)
    (c__standing : PySem.W.codeIn K cd__standing "_standing" = true)
    (k__standing : PySem.W.keepIn K (.ref f__standing) = true)
    (a_need_many : PySem.W.nsIn K mainGlobals "need_many" = some (some (.ref f_need_many)))
    {oc_need_many : Value} {od_need_many an_need_many : Option Addr} {sl_need_many : Array (Option Value)} {kV_need_many dc_need_many pm_need_many cd_need_many ct_need_many : Value}
    (l_need_many : K.lookup f_need_many = some ⟨oc_need_many, od_need_many, .func (PySem.W.fnOf "need_many" "need_many" (defArgs QD.sNeedMany) (defBody QD.sNeedMany) (defScope QD.sNeedMany) .none kV_need_many dc_need_many pm_need_many an_need_many cd_need_many ct_need_many), sl_need_many⟩)
    (c_need_many : PySem.W.codeIn K cd_need_many "need_many" = true)
    (k_need_many : PySem.W.keepIn K (.ref f_need_many) = true)
    (a_need_polynomial : PySem.W.nsIn K mainGlobals "need_polynomial" = some (some (.ref f_need_polynomial)))
    {oc_need_polynomial : Value} {od_need_polynomial an_need_polynomial : Option Addr} {sl_need_polynomial : Array (Option Value)} {kV_need_polynomial dc_need_polynomial pm_need_polynomial cd_need_polynomial ct_need_polynomial : Value}
    (l_need_polynomial : K.lookup f_need_polynomial = some ⟨oc_need_polynomial, od_need_polynomial, .func (PySem.W.fnOf "need_polynomial" "need_polynomial" (defArgs QP.sNeedPoly) (defBody QP.sNeedPoly) (defScope QP.sNeedPoly) .none kV_need_polynomial dc_need_polynomial pm_need_polynomial an_need_polynomial cd_need_polynomial ct_need_polynomial), sl_need_polynomial⟩)
    (c_need_polynomial : PySem.W.codeIn K cd_need_polynomial "need_polynomial" = true)
    (k_need_polynomial : PySem.W.keepIn K (.ref f_need_polynomial) = true)
    (a_plus : PySem.W.nsIn K mainGlobals "plus" = some (some (.ref f_plus)))
    {oc_plus : Value} {od_plus an_plus : Option Addr} {sl_plus : Array (Option Value)} {kV_plus dc_plus pm_plus cd_plus ct_plus : Value}
    (l_plus : K.lookup f_plus = some ⟨oc_plus, od_plus, .func (PySem.W.fnOf "plus" "plus" (defArgs QP.sPlus) (defBody QP.sPlus) (defScope QP.sPlus) .none kV_plus dc_plus pm_plus an_plus cd_plus ct_plus), sl_plus⟩)
    (c_plus : PySem.W.codeIn K cd_plus "plus" = true)
    (k_plus : PySem.W.keepIn K (.ref f_plus) = true)
    (a_minus : PySem.W.nsIn K mainGlobals "minus" = some (some (.ref f_minus)))
    {oc_minus : Value} {od_minus an_minus : Option Addr} {sl_minus : Array (Option Value)} {kV_minus dc_minus pm_minus cd_minus ct_minus : Value}
    (l_minus : K.lookup f_minus = some ⟨oc_minus, od_minus, .func (PySem.W.fnOf "minus" "minus" (defArgs QP.sMinus) (defBody QP.sMinus) (defScope QP.sMinus) .none kV_minus dc_minus pm_minus an_minus cd_minus ct_minus), sl_minus⟩)
    (c_minus : PySem.W.codeIn K cd_minus "minus" = true)
    (k_minus : PySem.W.keepIn K (.ref f_minus) = true)
    (a_times : PySem.W.nsIn K mainGlobals "times" = some (some (.ref f_times)))
    {oc_times : Value} {od_times an_times : Option Addr} {sl_times : Array (Option Value)} {kV_times dc_times pm_times cd_times ct_times : Value}
    (l_times : K.lookup f_times = some ⟨oc_times, od_times, .func (PySem.W.fnOf "times" "times" (defArgs QP.sTimes) (defBody QP.sTimes) (defScope QP.sTimes) .none kV_times dc_times pm_times an_times cd_times ct_times), sl_times⟩)
    (c_times : PySem.W.codeIn K cd_times "times" = true)
    (k_times : PySem.W.keepIn K (.ref f_times) = true)
    (a_told_sum : PySem.W.nsIn K mainGlobals "told_sum" = some (some (.ref f_told_sum)))
    {oc_told_sum : Value} {od_told_sum an_told_sum : Option Addr} {sl_told_sum : Array (Option Value)} {kV_told_sum dc_told_sum pm_told_sum cd_told_sum ct_told_sum : Value}
    (l_told_sum : K.lookup f_told_sum = some ⟨oc_told_sum, od_told_sum, .func (PySem.W.fnOf "told_sum" "told_sum" (defArgs QP.sToldSum) (defBody QP.sToldSum) (defScope QP.sToldSum) .none kV_told_sum dc_told_sum pm_told_sum an_told_sum cd_told_sum ct_told_sum), sl_told_sum⟩)
    (c_told_sum : PySem.W.codeIn K cd_told_sum "told_sum" = true)
    (k_told_sum : PySem.W.keepIn K (.ref f_told_sum) = true)
    (a__collected : PySem.W.nsIn K mainGlobals "_collected" = some (some (.ref f__collected)))
    {oc__collected : Value} {od__collected an__collected : Option Addr} {sl__collected : Array (Option Value)} {kV__collected dc__collected pm__collected cd__collected ct__collected : Value}
    (l__collected : K.lookup f__collected = some ⟨oc__collected, od__collected, .func (PySem.W.fnOf "_collected" "_collected" (defArgs QP.sColl) (defBody QP.sColl) (defScope QP.sColl) .none kV__collected dc__collected pm__collected an__collected cd__collected ct__collected), sl__collected⟩)
    (c__collected : PySem.W.codeIn K cd__collected "_collected" = true)
    (k__collected : PySem.W.keepIn K (.ref f__collected) = true)
    (a__in_order : PySem.W.nsIn K mainGlobals "_in_order" = some (some (.ref f__in_order)))
    {oc__in_order : Value} {od__in_order an__in_order : Option Addr} {sl__in_order : Array (Option Value)} {kV__in_order dc__in_order pm__in_order cd__in_order ct__in_order : Value}
    (l__in_order : K.lookup f__in_order = some ⟨oc__in_order, od__in_order, .func (PySem.W.fnOf "_in_order" "_in_order" (defArgs QP.sInOrder) (defBody QP.sInOrder) (defScope QP.sInOrder) .none kV__in_order dc__in_order pm__in_order an__in_order cd__in_order ct__in_order), sl__in_order⟩)
    (c__in_order : PySem.W.codeIn K cd__in_order "_in_order" = true)
    (k__in_order : PySem.W.keepIn K (.ref f__in_order) = true)
    (a_degree_of : PySem.W.nsIn K mainGlobals "degree_of" = some (some (.ref f_degree_of)))
    {oc_degree_of : Value} {od_degree_of an_degree_of : Option Addr} {sl_degree_of : Array (Option Value)} {kV_degree_of dc_degree_of pm_degree_of cd_degree_of ct_degree_of : Value}
    (l_degree_of : K.lookup f_degree_of = some ⟨oc_degree_of, od_degree_of, .func (PySem.W.fnOf "degree_of" "degree_of" (defArgs QP.sDegOf) (defBody QP.sDegOf) (defScope QP.sDegOf) .none kV_degree_of dc_degree_of pm_degree_of an_degree_of cd_degree_of ct_degree_of), sl_degree_of⟩)
    (c_degree_of : PySem.W.codeIn K cd_degree_of "degree_of" = true)
    (k_degree_of : PySem.W.keepIn K (.ref f_degree_of) = true)
    (a_told_terms : PySem.W.nsIn K mainGlobals "told_terms" = some (some (.ref f_told_terms)))
    {oc_told_terms : Value} {od_told_terms an_told_terms : Option Addr} {sl_told_terms : Array (Option Value)} {kV_told_terms dc_told_terms pm_told_terms cd_told_terms ct_told_terms : Value}
    (l_told_terms : K.lookup f_told_terms = some ⟨oc_told_terms, od_told_terms, .func (PySem.W.fnOf "told_terms" "told_terms" (defArgs QP.sToldTerms) (defBody QP.sToldTerms) (defScope QP.sToldTerms) .none kV_told_terms dc_told_terms pm_told_terms an_told_terms cd_told_terms ct_told_terms), sl_told_terms⟩)
    (c_told_terms : PySem.W.codeIn K cd_told_terms "told_terms" = true)
    (k_told_terms : PySem.W.keepIn K (.ref f_told_terms) = true)
    (a_worth : PySem.W.nsIn K mainGlobals "worth" = some (some (.ref f_worth)))
    {oc_worth : Value} {od_worth an_worth : Option Addr} {sl_worth : Array (Option Value)} {kV_worth dc_worth pm_worth cd_worth ct_worth : Value}
    (l_worth : K.lookup f_worth = some ⟨oc_worth, od_worth, .func (PySem.W.fnOf "worth" "worth" (defArgs QP.sWorth) (defBody QP.sWorth) (defScope QP.sWorth) .none kV_worth dc_worth pm_worth an_worth cd_worth ct_worth), sl_worth⟩)
    (c_worth : PySem.W.codeIn K cd_worth "worth" = true)
    (k_worth : PySem.W.keepIn K (.ref f_worth) = true)
    (a_need_fractions : PySem.W.nsIn K mainGlobals "need_fractions" = some (some (.ref f_need_fractions)))
    {oc_need_fractions : Value} {od_need_fractions an_need_fractions : Option Addr} {sl_need_fractions : Array (Option Value)} {kV_need_fractions dc_need_fractions pm_need_fractions cd_need_fractions ct_need_fractions : Value}
    (l_need_fractions : K.lookup f_need_fractions = some ⟨oc_need_fractions, od_need_fractions, .func (PySem.W.fnOf "need_fractions" "need_fractions" (defArgs QP.sNeedFr) (defBody QP.sNeedFr) (defScope QP.sNeedFr) .none kV_need_fractions dc_need_fractions pm_need_fractions an_need_fractions cd_need_fractions ct_need_fractions), sl_need_fractions⟩)
    (c_need_fractions : PySem.W.codeIn K cd_need_fractions "need_fractions" = true)
    (k_need_fractions : PySem.W.keepIn K (.ref f_need_fractions) = true)
    (a__powers_up_to : PySem.W.nsIn K mainGlobals "_powers_up_to" = some (some (.ref f__powers_up_to)))
    {oc__powers_up_to : Value} {od__powers_up_to an__powers_up_to : Option Addr} {sl__powers_up_to : Array (Option Value)} {kV__powers_up_to dc__powers_up_to pm__powers_up_to cd__powers_up_to ct__powers_up_to : Value}
    (l__powers_up_to : K.lookup f__powers_up_to = some ⟨oc__powers_up_to, od__powers_up_to, .func (PySem.W.fnOf "_powers_up_to" "_powers_up_to" (defArgs QP.sPowsUp) (defBody QP.sPowsUp) (defScope QP.sPowsUp) .none kV__powers_up_to dc__powers_up_to pm__powers_up_to an__powers_up_to cd__powers_up_to ct__powers_up_to), sl__powers_up_to⟩)
    (c__powers_up_to : PySem.W.codeIn K cd__powers_up_to "_powers_up_to" = true)
    (k__powers_up_to : PySem.W.keepIn K (.ref f__powers_up_to) = true)
    (a__law_draw : PySem.W.nsIn K mainGlobals "_law_draw" = some (some (.ref f__law_draw)))
    {oc__law_draw : Value} {od__law_draw an__law_draw : Option Addr} {sl__law_draw : Array (Option Value)} {kV__law_draw dc__law_draw pm__law_draw cd__law_draw ct__law_draw : Value}
    (l__law_draw : K.lookup f__law_draw = some ⟨oc__law_draw, od__law_draw, .func (PySem.W.fnOf "_law_draw" "_law_draw" (defArgs KJ.sDip) (defBody KJ.sDip) (defScope KJ.sDip) .none kV__law_draw dc__law_draw pm__law_draw an__law_draw cd__law_draw ct__law_draw), sl__law_draw⟩)
    (c__law_draw : PySem.W.codeIn K cd__law_draw "_law_draw" = true)
    (k__law_draw : PySem.W.keepIn K (.ref f__law_draw) = true)
    (a__law_of : PySem.W.nsIn K mainGlobals "_law_of" = some (some (.ref f__law_of)))
    {oc__law_of : Value} {od__law_of an__law_of : Option Addr} {sl__law_of : Array (Option Value)} {kV__law_of dc__law_of pm__law_of cd__law_of ct__law_of : Value}
    (l__law_of : K.lookup f__law_of = some ⟨oc__law_of, od__law_of, .func (PySem.W.fnOf "_law_of" "_law_of" (defArgs KJ.sOne) (defBody KJ.sOne) (defScope KJ.sOne) .none kV__law_of dc__law_of pm__law_of an__law_of cd__law_of ct__law_of), sl__law_of⟩)
    (c__law_of : PySem.W.codeIn K cd__law_of "_law_of" = true)
    (k__law_of : PySem.W.keepIn K (.ref f__law_of) = true)
    (a__law_same : PySem.W.nsIn K mainGlobals "_law_same" = some (some (.ref f__law_same)))
    {oc__law_same : Value} {od__law_same an__law_same : Option Addr} {sl__law_same : Array (Option Value)} {kV__law_same dc__law_same pm__law_same cd__law_same ct__law_same : Value}
    (l__law_same : K.lookup f__law_same = some ⟨oc__law_same, od__law_same, .func (PySem.W.fnOf "_law_same" "_law_same" (defArgs KP.lSame) (defBody KP.lSame) (defScope KP.lSame) .none kV__law_same dc__law_same pm__law_same an__law_same cd__law_same ct__law_same), sl__law_same⟩)
    (c__law_same : PySem.W.codeIn K cd__law_same "_law_same" = true)
    (k__law_same : PySem.W.keepIn K (.ref f__law_same) = true)
    (a__law_jar : PySem.W.nsIn K mainGlobals "_law_jar" = some (some (.ref f__law_jar)))
    {oc__law_jar : Value} {od__law_jar an__law_jar : Option Addr} {sl__law_jar : Array (Option Value)} {kV__law_jar dc__law_jar pm__law_jar cd__law_jar ct__law_jar : Value}
    (l__law_jar : K.lookup f__law_jar = some ⟨oc__law_jar, od__law_jar, .func (PySem.W.fnOf "_law_jar" "_law_jar" (defArgs KP.lJar) (defBody KP.lJar) (defScope KP.lJar) .none kV__law_jar dc__law_jar pm__law_jar an__law_jar cd__law_jar ct__law_jar), sl__law_jar⟩)
    (c__law_jar : PySem.W.codeIn K cd__law_jar "_law_jar" = true)
    (k__law_jar : PySem.W.keepIn K (.ref f__law_jar) = true)
    (a__law_common : PySem.W.nsIn K mainGlobals "_law_common" = some (some (.ref f__law_common)))
    {oc__law_common : Value} {od__law_common an__law_common : Option Addr} {sl__law_common : Array (Option Value)} {kV__law_common dc__law_common pm__law_common cd__law_common ct__law_common : Value}
    (l__law_common : K.lookup f__law_common = some ⟨oc__law_common, od__law_common, .func (PySem.W.fnOf "_law_common" "_law_common" (defArgs QL.lCommon) (defBody QL.lCommon) (defScope QL.lCommon) .none kV__law_common dc__law_common pm__law_common an__law_common cd__law_common ct__law_common), sl__law_common⟩)
    (c__law_common : PySem.W.codeIn K cd__law_common "_law_common" = true)
    (k__law_common : PySem.W.keepIn K (.ref f__law_common) = true)
    (a__law_frac : PySem.W.nsIn K mainGlobals "_law_frac" = some (some (.ref f__law_frac)))
    {oc__law_frac : Value} {od__law_frac an__law_frac : Option Addr} {sl__law_frac : Array (Option Value)} {kV__law_frac dc__law_frac pm__law_frac cd__law_frac ct__law_frac : Value}
    (l__law_frac : K.lookup f__law_frac = some ⟨oc__law_frac, od__law_frac, .func (PySem.W.fnOf "_law_frac" "_law_frac" (defArgs QL.lFracP) (defBody QL.lFracP) (defScope QL.lFracP) .none kV__law_frac dc__law_frac pm__law_frac an__law_frac cd__law_frac ct__law_frac), sl__law_frac⟩)
    (c__law_frac : PySem.W.codeIn K cd__law_frac "_law_frac" = true)
    (k__law_frac : PySem.W.keepIn K (.ref f__law_frac) = true)
    (a__law_add : PySem.W.nsIn K mainGlobals "_law_add" = some (some (.ref f__law_add)))
    {oc__law_add : Value} {od__law_add an__law_add : Option Addr} {sl__law_add : Array (Option Value)} {kV__law_add dc__law_add pm__law_add cd__law_add ct__law_add : Value}
    (l__law_add : K.lookup f__law_add = some ⟨oc__law_add, od__law_add, .func (PySem.W.fnOf "_law_add" "_law_add" (defArgs QP.lAdd) (defBody QP.lAdd) (defScope QP.lAdd) .none kV__law_add dc__law_add pm__law_add an__law_add cd__law_add ct__law_add), sl__law_add⟩)
    (c__law_add : PySem.W.codeIn K cd__law_add "_law_add" = true)
    (k__law_add : PySem.W.keepIn K (.ref f__law_add) = true)
    (a__law_mul : PySem.W.nsIn K mainGlobals "_law_mul" = some (some (.ref f__law_mul)))
    {oc__law_mul : Value} {od__law_mul an__law_mul : Option Addr} {sl__law_mul : Array (Option Value)} {kV__law_mul dc__law_mul pm__law_mul cd__law_mul ct__law_mul : Value}
    (l__law_mul : K.lookup f__law_mul = some ⟨oc__law_mul, od__law_mul, .func (PySem.W.fnOf "_law_mul" "_law_mul" (defArgs QP.lMul) (defBody QP.lMul) (defScope QP.lMul) .none kV__law_mul dc__law_mul pm__law_mul an__law_mul cd__law_mul ct__law_mul), sl__law_mul⟩)
    (c__law_mul : PySem.W.codeIn K cd__law_mul "_law_mul" = true)
    (k__law_mul : PySem.W.keepIn K (.ref f__law_mul) = true)
    (a__law_number : PySem.W.nsIn K mainGlobals "_law_number" = some (some (.ref f__law_number)))
    {oc__law_number : Value} {od__law_number an__law_number : Option Addr} {sl__law_number : Array (Option Value)} {kV__law_number dc__law_number pm__law_number cd__law_number ct__law_number : Value}
    (l__law_number : K.lookup f__law_number = some ⟨oc__law_number, od__law_number, .func (PySem.W.fnOf "_law_number" "_law_number" (defArgs QL.lNumber) (defBody QL.lNumber) (defScope QL.lNumber) .none kV__law_number dc__law_number pm__law_number an__law_number cd__law_number ct__law_number), sl__law_number⟩)
    (c__law_number : PySem.W.codeIn K cd__law_number "_law_number" = true)
    (k__law_number : PySem.W.keepIn K (.ref f__law_number) = true)
    (a__law_powers : PySem.W.nsIn K mainGlobals "_law_powers" = some (some (.ref f__law_powers)))
    {oc__law_powers : Value} {od__law_powers an__law_powers : Option Addr} {sl__law_powers : Array (Option Value)} {kV__law_powers dc__law_powers pm__law_powers cd__law_powers ct__law_powers : Value}
    (l__law_powers : K.lookup f__law_powers = some ⟨oc__law_powers, od__law_powers, .func (PySem.W.fnOf "_law_powers" "_law_powers" (defArgs QL.lPowers) (defBody QL.lPowers) (defScope QL.lPowers) .none kV__law_powers dc__law_powers pm__law_powers an__law_powers cd__law_powers ct__law_powers), sl__law_powers⟩)
    (c__law_powers : PySem.W.codeIn K cd__law_powers "_law_powers" = true)
    (k__law_powers : PySem.W.keepIn K (.ref f__law_powers) = true)
    (a__law_keyed : PySem.W.nsIn K mainGlobals "_law_keyed" = some (some (.ref f__law_keyed)))
    {oc__law_keyed : Value} {od__law_keyed an__law_keyed : Option Addr} {sl__law_keyed : Array (Option Value)} {kV__law_keyed dc__law_keyed pm__law_keyed cd__law_keyed ct__law_keyed : Value}
    (l__law_keyed : K.lookup f__law_keyed = some ⟨oc__law_keyed, od__law_keyed, .func (PySem.W.fnOf "_law_keyed" "_law_keyed" (defArgs QL.lKeyed) (defBody QL.lKeyed) (defScope QL.lKeyed) .none kV__law_keyed dc__law_keyed pm__law_keyed an__law_keyed cd__law_keyed ct__law_keyed), sl__law_keyed⟩)
    (c__law_keyed : PySem.W.codeIn K cd__law_keyed "_law_keyed" = true)
    (k__law_keyed : PySem.W.keepIn K (.ref f__law_keyed) = true)
    (a__law_told_of : PySem.W.nsIn K mainGlobals "_law_told_of" = some (some (.ref f__law_told_of)))
    {oc__law_told_of : Value} {od__law_told_of an__law_told_of : Option Addr} {sl__law_told_of : Array (Option Value)} {kV__law_told_of dc__law_told_of pm__law_told_of cd__law_told_of ct__law_told_of : Value}
    (l__law_told_of : K.lookup f__law_told_of = some ⟨oc__law_told_of, od__law_told_of, .func (PySem.W.fnOf "_law_told_of" "_law_told_of" (defArgs QL.lToldOf) (defBody QL.lToldOf) (defScope QL.lToldOf) .none kV__law_told_of dc__law_told_of pm__law_told_of an__law_told_of cd__law_told_of ct__law_told_of), sl__law_told_of⟩)
    (c__law_told_of : PySem.W.codeIn K cd__law_told_of "_law_told_of" = true)
    (k__law_told_of : PySem.W.keepIn K (.ref f__law_told_of) = true)
    (a__law_sum : PySem.W.nsIn K mainGlobals "_law_sum" = some (some (.ref f__law_sum)))
    {oc__law_sum : Value} {od__law_sum an__law_sum : Option Addr} {sl__law_sum : Array (Option Value)} {kV__law_sum dc__law_sum pm__law_sum cd__law_sum ct__law_sum : Value}
    (l__law_sum : K.lookup f__law_sum = some ⟨oc__law_sum, od__law_sum, .func (PySem.W.fnOf "_law_sum" "_law_sum" (defArgs QP.lSum) (defBody QP.lSum) (defScope QP.lSum) .none kV__law_sum dc__law_sum pm__law_sum an__law_sum cd__law_sum ct__law_sum), sl__law_sum⟩)
    (c__law_sum : PySem.W.codeIn K cd__law_sum "_law_sum" = true)
    (k__law_sum : PySem.W.keepIn K (.ref f__law_sum) = true)
    (a__law_product : PySem.W.nsIn K mainGlobals "_law_product" = some (some (.ref f__law_product)))
    {oc__law_product : Value} {od__law_product an__law_product : Option Addr} {sl__law_product : Array (Option Value)} {kV__law_product dc__law_product pm__law_product cd__law_product ct__law_product : Value}
    (l__law_product : K.lookup f__law_product = some ⟨oc__law_product, od__law_product, .func (PySem.W.fnOf "_law_product" "_law_product" (defArgs QP.lProduct) (defBody QP.lProduct) (defScope QP.lProduct) .none kV__law_product dc__law_product pm__law_product an__law_product cd__law_product ct__law_product), sl__law_product⟩)
    (c__law_product : PySem.W.codeIn K cd__law_product "_law_product" = true)
    (k__law_product : PySem.W.keepIn K (.ref f__law_product) = true)
    (a__law_raised : PySem.W.nsIn K mainGlobals "_law_raised" = some (some (.ref f__law_raised)))
    {oc__law_raised : Value} {od__law_raised an__law_raised : Option Addr} {sl__law_raised : Array (Option Value)} {kV__law_raised dc__law_raised pm__law_raised cd__law_raised ct__law_raised : Value}
    (l__law_raised : K.lookup f__law_raised = some ⟨oc__law_raised, od__law_raised, .func (PySem.W.fnOf "_law_raised" "_law_raised" (defArgs QP.lRaised) (defBody QP.lRaised) (defScope QP.lRaised) .none kV__law_raised dc__law_raised pm__law_raised an__law_raised cd__law_raised ct__law_raised), sl__law_raised⟩)
    (c__law_raised : PySem.W.codeIn K cd__law_raised "_law_raised" = true)
    (k__law_raised : PySem.W.keepIn K (.ref f__law_raised) = true)
    (a__law_worth : PySem.W.nsIn K mainGlobals "_law_worth" = some (some (.ref f__law_worth)))
    {oc__law_worth : Value} {od__law_worth an__law_worth : Option Addr} {sl__law_worth : Array (Option Value)} {kV__law_worth dc__law_worth pm__law_worth cd__law_worth ct__law_worth : Value}
    (l__law_worth : K.lookup f__law_worth = some ⟨oc__law_worth, od__law_worth, .func (PySem.W.fnOf "_law_worth" "_law_worth" (defArgs QP.lWorth) (defBody QP.lWorth) (defScope QP.lWorth) .none kV__law_worth dc__law_worth pm__law_worth an__law_worth cd__law_worth ct__law_worth), sl__law_worth⟩)
    (c__law_worth : PySem.W.codeIn K cd__law_worth "_law_worth" = true)
    (k__law_worth : PySem.W.keepIn K (.ref f__law_worth) = true)
    (a__law_poly : PySem.W.nsIn K mainGlobals "_law_poly" = some (some (.ref f__law_poly)))
    {oc__law_poly : Value} {od__law_poly an__law_poly : Option Addr} {sl__law_poly : Array (Option Value)} {kV__law_poly dc__law_poly pm__law_poly cd__law_poly ct__law_poly : Value}
    (l__law_poly : K.lookup f__law_poly = some ⟨oc__law_poly, od__law_poly, .func (PySem.W.fnOf "_law_poly" "_law_poly" (defArgs QL.lPoly) (defBody QL.lPoly) (defScope QL.lPoly) .none kV__law_poly dc__law_poly pm__law_poly an__law_poly cd__law_poly ct__law_poly), sl__law_poly⟩)
    (c__law_poly : PySem.W.codeIn K cd__law_poly "_law_poly" = true)
    (k__law_poly : PySem.W.keepIn K (.ref f__law_poly) = true)
    (a__law_numbers : PySem.W.nsIn K mainGlobals "_law_numbers" = some (some (.ref f__law_numbers)))
    {oc__law_numbers : Value} {od__law_numbers an__law_numbers : Option Addr} {sl__law_numbers : Array (Option Value)} {kV__law_numbers dc__law_numbers pm__law_numbers cd__law_numbers ct__law_numbers : Value}
    (l__law_numbers : K.lookup f__law_numbers = some ⟨oc__law_numbers, od__law_numbers, .func (PySem.W.fnOf "_law_numbers" "_law_numbers" (defArgs QP.lNumbers) (defBody QP.lNumbers) (defScope QP.lNumbers) .none kV__law_numbers dc__law_numbers pm__law_numbers an__law_numbers cd__law_numbers ct__law_numbers), sl__law_numbers⟩)
    (c__law_numbers : PySem.W.codeIn K cd__law_numbers "_law_numbers" = true)
    (k__law_numbers : PySem.W.keepIn K (.ref f__law_numbers) = true)
    (a__law_rows_of : PySem.W.nsIn K mainGlobals "_law_rows_of" = some (some (.ref f__law_rows_of)))
    {oc__law_rows_of : Value} {od__law_rows_of an__law_rows_of : Option Addr} {sl__law_rows_of : Array (Option Value)} {kV__law_rows_of dc__law_rows_of pm__law_rows_of cd__law_rows_of ct__law_rows_of : Value}
    (l__law_rows_of : K.lookup f__law_rows_of = some ⟨oc__law_rows_of, od__law_rows_of, .func (PySem.W.fnOf "_law_rows_of" "_law_rows_of" (defArgs QL.lRowsM) (defBody QL.lRowsM) (defScope QL.lRowsM) .none kV__law_rows_of dc__law_rows_of pm__law_rows_of an__law_rows_of cd__law_rows_of ct__law_rows_of), sl__law_rows_of⟩)
    (c__law_rows_of : PySem.W.codeIn K cd__law_rows_of "_law_rows_of" = true)
    (k__law_rows_of : PySem.W.keepIn K (.ref f__law_rows_of) = true)
    (a__law_are_right : PySem.W.nsIn K mainGlobals "_law_are_right" = some (some (.ref f__law_are_right)))
    {oc__law_are_right : Value} {od__law_are_right an__law_are_right : Option Addr} {sl__law_are_right : Array (Option Value)} {kV__law_are_right dc__law_are_right pm__law_are_right cd__law_are_right ct__law_are_right : Value}
    (l__law_are_right : K.lookup f__law_are_right = some ⟨oc__law_are_right, od__law_are_right, .func (PySem.W.fnOf "_law_are_right" "_law_are_right" (defArgs QG.lAreRight) (defBody QG.lAreRight) (defScope QG.lAreRight) .none kV__law_are_right dc__law_are_right pm__law_are_right an__law_are_right cd__law_are_right ct__law_are_right), sl__law_are_right⟩)
    (c__law_are_right : PySem.W.codeIn K cd__law_are_right "_law_are_right" = true)
    (k__law_are_right : PySem.W.keepIn K (.ref f__law_are_right) = true)
    (a__law_are_told_apart : PySem.W.nsIn K mainGlobals "_law_are_told_apart" = some (some (.ref f__law_are_told_apart)))
    {oc__law_are_told_apart : Value} {od__law_are_told_apart an__law_are_told_apart : Option Addr} {sl__law_are_told_apart : Array (Option Value)} {kV__law_are_told_apart dc__law_are_told_apart pm__law_are_told_apart cd__law_are_told_apart ct__law_are_told_apart : Value}
    (l__law_are_told_apart : K.lookup f__law_are_told_apart = some ⟨oc__law_are_told_apart, od__law_are_told_apart, .func (PySem.W.fnOf "_law_are_told_apart" "_law_are_told_apart" (defArgs QG.lApart) (defBody QG.lApart) (defScope QG.lApart) .none kV__law_are_told_apart dc__law_are_told_apart pm__law_are_told_apart an__law_are_told_apart cd__law_are_told_apart ct__law_are_told_apart), sl__law_are_told_apart⟩)
    (c__law_are_told_apart : PySem.W.codeIn K cd__law_are_told_apart "_law_are_told_apart" = true)
    (k__law_are_told_apart : PySem.W.keepIn K (.ref f__law_are_told_apart) = true)
    (a__law_right : PySem.W.nsIn K mainGlobals "_law_right" = some (some (.ref f__law_right)))
    {oc__law_right : Value} {od__law_right an__law_right : Option Addr} {sl__law_right : Array (Option Value)} {kV__law_right dc__law_right pm__law_right cd__law_right ct__law_right : Value}
    (l__law_right : K.lookup f__law_right = some ⟨oc__law_right, od__law_right, .func (PySem.W.fnOf "_law_right" "_law_right" (defArgs KP.lRight) (defBody KP.lRight) (defScope KP.lRight) .none kV__law_right dc__law_right pm__law_right an__law_right cd__law_right ct__law_right), sl__law_right⟩)
    (c__law_right : PySem.W.codeIn K cd__law_right "_law_right" = true)
    (k__law_right : PySem.W.keepIn K (.ref f__law_right) = true)
    (a_law : PySem.W.nsIn K mainGlobals "law" = some (some (.ref f_law)))
    {oc_law : Value} {od_law an_law : Option Addr} {sl_law : Array (Option Value)} {kV_law dc_law pm_law cd_law ct_law : Value}
    (l_law : K.lookup f_law = some ⟨oc_law, od_law, .func (PySem.W.fnOf "law" "law" (defArgs KP.lLaw) (defBody KP.lLaw) (defScope KP.lLaw) .none kV_law dc_law pm_law an_law cd_law ct_law), sl_law⟩)
    (c_law : PySem.W.codeIn K cd_law "law" = true)
    (k_law : PySem.W.keepIn K (.ref f_law) = true)
    (q0_type : PySem.W.nsIn K mainGlobals "type" = some none)
    (q0_int : PySem.W.nsIn K mainGlobals "int" = some none)
    (q0_tuple : PySem.W.nsIn K mainGlobals "tuple" = some none)
    (q0_str : PySem.W.nsIn K mainGlobals "str" = some none)
    (q0_len : PySem.W.nsIn K mainGlobals "len" = some none)
    (q0_abs : PySem.W.nsIn K mainGlobals "abs" = some none)
    (q0_all : PySem.W.nsIn K mainGlobals "all" = some none)
    (q0_enumerate : PySem.W.nsIn K mainGlobals "enumerate" = some none)
    (q0_zip : PySem.W.nsIn K mainGlobals "zip" = some none)
    (q0_isinstance : PySem.W.nsIn K mainGlobals "isinstance" = some none)
    (q0_bool : PySem.W.nsIn K mainGlobals "bool" = some none)
    (q0_range : PySem.W.nsIn K mainGlobals "range" = some none)
    (q0_any : PySem.W.nsIn K mainGlobals "any" = some none)
    (q0_set : PySem.W.nsIn K mainGlobals "set" = some none)
    (q0_sorted : PySem.W.nsIn K mainGlobals "sorted" = some none)
    (q0_list : PySem.W.nsIn K mainGlobals "list" = some none)
    (q0_repr : PySem.W.nsIn K mainGlobals "repr" = some none)
    (q0_max : PySem.W.nsIn K mainGlobals "max" = some none)
    (q0_min : PySem.W.nsIn K mainGlobals "min" = some none)
    (q0_divmod : PySem.W.nsIn K mainGlobals "divmod" = some none)
    (q0_sum : PySem.W.nsIn K mainGlobals "sum" = some none)
    (q0_dict : PySem.W.nsIn K mainGlobals "dict" = some none)
    {tk_MOST_UNKNOWNS : Tok}
    (qc_MOST_UNKNOWNS : PySem.W.nsIn K mainGlobals "MOST_UNKNOWNS" = some (some (.int 4 tk_MOST_UNKNOWNS)))
    {tk_MOST_TERMS : Tok}
    (qc_MOST_TERMS : PySem.W.nsIn K mainGlobals "MOST_TERMS" = some (some (.int 600 tk_MOST_TERMS)))
    {tk_MOST_DEGREE : Tok}
    (qc_MOST_DEGREE : PySem.W.nsIn K mainGlobals "MOST_DEGREE" = some (some (.int 40 tk_MOST_DEGREE)))
    {aU : Addr} {odU : Option Addr} {taU tbU : Tok} {nU : Nat} {slU : Array (Option Value)}
    (qU : PySem.W.nsIn K mainGlobals "UNIT" = some (some (.ref aU)))
    (lU : K.lookup aU = some ⟨.type "tuple", odU, .seq #[.int 1 taU, .int 1 tbU] nU, slU⟩)
    {aN : Addr} {odN : Option Addr} {taN tbN : Tok} {nN : Nat} {slN : Array (Option Value)}
    (qN : PySem.W.nsIn K mainGlobals "NOUGHT" = some (some (.ref aN)))
    (lN : K.lookup aN = some ⟨.type "tuple", odN, .seq #[.int 0 taN, .int 1 tbN] nN, slN⟩)
    (qg : PySem.W.nsIn K mainGlobals "gcd" = some (some (.builtin "math.gcd")))
    (nt : PySem.W.noTabs K = true)
    : ∃ (fd : FuncData) (cs : List (Addr × Addr)) (sp : Sp), (∀ p ∈ cs, h.get? p.2 = some { cls := .none, data := .fields #[] }) ∧ (∀ p ∈ cs, K.lookup p.2 = none) ∧ (∀ p ∈ cs, PySem.W.CodeHd h p.1 p.2) ∧ (∀ (s : Shared) (u : Value), BindsTo s fd ⟨[u], []⟩ [("script", u)]) ∧
        (∀ (H : Hp) (a : Addr) (ns : List Int), ns.length ≤ 63 → (∀ p ∈ cs, H p.2 = some (.tbl #[])) → SqL K H a (ns.map V.int) → sp [.ref a] H (fun v _ => v = .bl true) fun _ _ _ => False) ∧
        ∀ base : Heap, K.In base → base.Ns mainGlobals mg → (∀ p ∈ cs, GxR.TabB base mg p.1 p.2) → FnG l.prog w K mg base 15 fa fd ["script"] sp := by
  have e := hfa.symm.trans (PySem.W.mg_of X G a_law)
  cases e
  have F_is_whole := fun_mk (st := KP.sWhole) l_is_whole c_is_whole k_is_whole
  have m_is_whole := PySem.W.mg_of X G a_is_whole
  have b_is_whole := F_is_whole.binds (ps := ["value"]) fun _ _ _ _ _ _ us hl => match us, hl with | [_], _ => rfl
  have F_is_within := fun_mk (st := KP.sWithin) l_is_within c_is_within k_is_within
  have m_is_within := PySem.W.mg_of X G a_is_within
  have b_is_within := F_is_within.binds (ps := ["value", "least", "most"]) fun _ _ _ _ _ _ us hl => match us, hl with | [_, _, _], _ => rfl
  have F_is_ratio := fun_mk (st := KP.sRatio) l_is_ratio c_is_ratio k_is_ratio
  have m_is_ratio := PySem.W.mg_of X G a_is_ratio
  have b_is_ratio := F_is_ratio.binds (ps := ["value"]) fun _ _ _ _ _ _ us hl => match us, hl with | [_], _ => rfl
  have F_lowest := fun_mk (st := KP.sLowest) l_lowest c_lowest k_lowest
  have m_lowest := PySem.W.mg_of X G a_lowest
  have b_lowest := F_lowest.binds (ps := ["above", "below"]) fun _ _ _ _ _ _ us hl => match us, hl with | [_, _], _ => rfl
  have F_added := fun_mk (st := KP.sAdded) l_added c_added k_added
  have m_added := PySem.W.mg_of X G a_added
  have b_added := F_added.binds (ps := ["one", "two"]) fun _ _ _ _ _ _ us hl => match us, hl with | [_, _], _ => rfl
  have F_negative := fun_mk (st := KP.sNeg) l_negative c_negative k_negative
  have m_negative := PySem.W.mg_of X G a_negative
  have b_negative := F_negative.binds (ps := ["one"]) fun _ _ _ _ _ _ us hl => match us, hl with | [_], _ => rfl
  have F_multiplied := fun_mk (st := KP.sMul) l_multiplied c_multiplied k_multiplied
  have m_multiplied := PySem.W.mg_of X G a_multiplied
  have b_multiplied := F_multiplied.binds (ps := ["one", "two"]) fun _ _ _ _ _ _ us hl => match us, hl with | [_, _], _ => rfl
  have F_is_fraction := fun_mk (st := QD.sIsFrac) l_is_fraction c_is_fraction k_is_fraction
  have m_is_fraction := PySem.W.mg_of X G a_is_fraction
  have b_is_fraction := F_is_fraction.binds (ps := ["value"]) fun _ _ _ _ _ _ us hl => match us, hl with | [_], _ => rfl
  have F_is_polynomial := fun_mk (st := QD.sIsPoly) l_is_polynomial c_is_polynomial k_is_polynomial
  have m_is_polynomial := PySem.W.mg_of X G a_is_polynomial
  have b_is_polynomial := F_is_polynomial.binds (ps := ["many", "value"]) fun _ _ _ _ _ _ us hl => match us, hl with | [_, _], _ => rfl
  have F__is_term := fun_mk (st := QD.sIsTerm) l__is_term c__is_term k__is_term
  have m__is_term := PySem.W.mg_of X G a__is_term
  have b__is_term := F__is_term.binds (ps := ["many", "term"]) fun _ _ _ _ _ _ us hl => match us, hl with | [_, _], _ => rfl
  have F__standing := fun_mk (st := QR.sStanding) l__standing c__standing k__standing
  have m__standing := PySem.W.mg_of X G a__standing
  have b__standing := F__standing.binds (ps := ["powers"]) fun _ _ _ _ _ _ us hl => match us, hl with | [_], _ => rfl
  have F_need_many := fun_mk (st := QD.sNeedMany) l_need_many c_need_many k_need_many
  have m_need_many := PySem.W.mg_of X G a_need_many
  have b_need_many := F_need_many.binds (ps := ["many"]) fun _ _ _ _ _ _ us hl => match us, hl with | [_], _ => rfl
  have F_need_polynomial := fun_mk (st := QP.sNeedPoly) l_need_polynomial c_need_polynomial k_need_polynomial
  have m_need_polynomial := PySem.W.mg_of X G a_need_polynomial
  have b_need_polynomial := F_need_polynomial.binds (ps := ["many", "one"]) fun _ _ _ _ _ _ us hl => match us, hl with | [_, _], _ => rfl
  have F_plus := fun_mk (st := QP.sPlus) l_plus c_plus k_plus
  have m_plus := PySem.W.mg_of X G a_plus
  have b_plus := F_plus.binds (ps := ["many", "one", "two"]) fun _ _ _ _ _ _ us hl => match us, hl with | [_, _, _], _ => rfl
  have F_minus := fun_mk (st := QP.sMinus) l_minus c_minus k_minus
  have m_minus := PySem.W.mg_of X G a_minus
  have b_minus := F_minus.binds (ps := ["many", "one", "two"]) fun _ _ _ _ _ _ us hl => match us, hl with | [_, _, _], _ => rfl
  have F_times := fun_mk (st := QP.sTimes) l_times c_times k_times
  have m_times := PySem.W.mg_of X G a_times
  have b_times := F_times.binds (ps := ["many", "one", "two"]) fun _ _ _ _ _ _ us hl => match us, hl with | [_, _, _], _ => rfl
  have F_told_sum := fun_mk (st := QP.sToldSum) l_told_sum c_told_sum k_told_sum
  have m_told_sum := PySem.W.mg_of X G a_told_sum
  have b_told_sum := F_told_sum.binds (ps := ["terms"]) fun _ _ _ _ _ _ us hl => match us, hl with | [_], _ => rfl
  have F__collected := fun_mk (st := QP.sColl) l__collected c__collected k__collected
  have m__collected := PySem.W.mg_of X G a__collected
  have b__collected := F__collected.binds (ps := ["terms"]) fun _ _ _ _ _ _ us hl => match us, hl with | [_], _ => rfl
  have F__in_order := fun_mk (st := QP.sInOrder) l__in_order c__in_order k__in_order
  have m__in_order := PySem.W.mg_of X G a__in_order
  have b__in_order := F__in_order.binds (ps := ["kept"]) fun _ _ _ _ _ _ us hl => match us, hl with | [_], _ => rfl
  have F_degree_of := fun_mk (st := QP.sDegOf) l_degree_of c_degree_of k_degree_of
  have m_degree_of := PySem.W.mg_of X G a_degree_of
  have b_degree_of := F_degree_of.binds (ps := ["one"]) fun _ _ _ _ _ _ us hl => match us, hl with | [_], _ => rfl
  have F_told_terms := fun_mk (st := QP.sToldTerms) l_told_terms c_told_terms k_told_terms
  have m_told_terms := PySem.W.mg_of X G a_told_terms
  have b_told_terms := F_told_terms.binds (ps := ["terms"]) fun _ _ _ _ _ _ us hl => match us, hl with | [_], _ => rfl
  have F_worth := fun_mk (st := QP.sWorth) l_worth c_worth k_worth
  have m_worth := PySem.W.mg_of X G a_worth
  have b_worth := F_worth.binds (ps := ["many", "one", "assignment"]) fun _ _ _ _ _ _ us hl => match us, hl with | [_, _, _], _ => rfl
  have F_need_fractions := fun_mk (st := QP.sNeedFr) l_need_fractions c_need_fractions k_need_fractions
  have m_need_fractions := PySem.W.mg_of X G a_need_fractions
  have b_need_fractions := F_need_fractions.binds (ps := ["many", "assignment"]) fun _ _ _ _ _ _ us hl => match us, hl with | [_, _], _ => rfl
  have F__powers_up_to := fun_mk (st := QP.sPowsUp) l__powers_up_to c__powers_up_to k__powers_up_to
  have m__powers_up_to := PySem.W.mg_of X G a__powers_up_to
  have b__powers_up_to := F__powers_up_to.binds (ps := ["share", "degree"]) fun _ _ _ _ _ _ us hl => match us, hl with | [_, _], _ => rfl
  have F__law_draw := fun_mk (st := KJ.sDip) l__law_draw c__law_draw k__law_draw
  have m__law_draw := PySem.W.mg_of X G a__law_draw
  have b__law_draw := F__law_draw.binds (ps := ["jar", "many"]) fun _ _ _ _ _ _ us hl => match us, hl with | [_, _], _ => rfl
  have F__law_of := fun_mk (st := KJ.sOne) l__law_of c__law_of k__law_of
  have m__law_of := PySem.W.mg_of X G a__law_of
  have b__law_of := F__law_of.binds (ps := ["jar", "some"]) fun _ _ _ _ _ _ us hl => match us, hl with | [_, _], _ => rfl
  have F__law_same := fun_mk (st := KP.lSame) l__law_same c__law_same k__law_same
  have m__law_same := PySem.W.mg_of X G a__law_same
  have b__law_same := F__law_same.binds (ps := ["told", "due"]) fun _ _ _ _ _ _ us hl => match us, hl with | [_, _], _ => rfl
  have F__law_jar := fun_mk (st := KP.lJar) l__law_jar c__law_jar k__law_jar
  have m__law_jar := PySem.W.mg_of X G a__law_jar
  have b__law_jar := F__law_jar.binds (ps := ["script", "turn"]) fun _ _ _ _ _ _ us hl => match us, hl with | [_, _], _ => rfl
  have F__law_common := fun_mk (st := QL.lCommon) l__law_common c__law_common k__law_common
  have m__law_common := PySem.W.mg_of X G a__law_common
  have b__law_common := F__law_common.binds (ps := ["one", "two"]) fun _ _ _ _ _ _ us hl => match us, hl with | [_, _], _ => rfl
  have F__law_frac := fun_mk (st := QL.lFracP) l__law_frac c__law_frac k__law_frac
  have m__law_frac := PySem.W.mg_of X G a__law_frac
  have b__law_frac := F__law_frac.binds (ps := ["top", "low"]) fun _ _ _ _ _ _ us hl => match us, hl with | [_, _], _ => rfl
  have F__law_add := fun_mk (st := QP.lAdd) l__law_add c__law_add k__law_add
  have m__law_add := PySem.W.mg_of X G a__law_add
  have b__law_add := F__law_add.binds (ps := ["one", "two"]) fun _ _ _ _ _ _ us hl => match us, hl with | [_, _], _ => rfl
  have F__law_mul := fun_mk (st := QP.lMul) l__law_mul c__law_mul k__law_mul
  have m__law_mul := PySem.W.mg_of X G a__law_mul
  have b__law_mul := F__law_mul.binds (ps := ["one", "two"]) fun _ _ _ _ _ _ us hl => match us, hl with | [_, _], _ => rfl
  have F__law_number := fun_mk (st := QL.lNumber) l__law_number c__law_number k__law_number
  have m__law_number := PySem.W.mg_of X G a__law_number
  have b__law_number := F__law_number.binds (ps := ["jar"]) fun _ _ _ _ _ _ us hl => match us, hl with | [_], _ => rfl
  have F__law_powers := fun_mk (st := QL.lPowers) l__law_powers c__law_powers k__law_powers
  have m__law_powers := PySem.W.mg_of X G a__law_powers
  have b__law_powers := F__law_powers.binds (ps := ["jar", "many", "most"]) fun _ _ _ _ _ _ us hl => match us, hl with | [_, _, _], _ => rfl
  have F__law_keyed := fun_mk (st := QL.lKeyed) l__law_keyed c__law_keyed k__law_keyed
  have m__law_keyed := PySem.W.mg_of X G a__law_keyed
  have b__law_keyed := F__law_keyed.binds (ps := ["powers"]) fun _ _ _ _ _ _ us hl => match us, hl with | [_], _ => rfl
  have F__law_told_of := fun_mk (st := QL.lToldOf) l__law_told_of c__law_told_of k__law_told_of
  have m__law_told_of := PySem.W.mg_of X G a__law_told_of
  have b__law_told_of := F__law_told_of.binds (ps := ["terms"]) fun _ _ _ _ _ _ us hl => match us, hl with | [_], _ => rfl
  have F__law_sum := fun_mk (st := QP.lSum) l__law_sum c__law_sum k__law_sum
  have m__law_sum := PySem.W.mg_of X G a__law_sum
  have b__law_sum := F__law_sum.binds (ps := ["one", "two", "by"]) fun _ _ _ _ _ _ us hl => match us, hl with | [_, _, _], _ => rfl
  have F__law_product := fun_mk (st := QP.lProduct) l__law_product c__law_product k__law_product
  have m__law_product := PySem.W.mg_of X G a__law_product
  have b__law_product := F__law_product.binds (ps := ["one", "two"]) fun _ _ _ _ _ _ us hl => match us, hl with | [_, _], _ => rfl
  have F__law_raised := fun_mk (st := QP.lRaised) l__law_raised c__law_raised k__law_raised
  have m__law_raised := PySem.W.mg_of X G a__law_raised
  have b__law_raised := F__law_raised.binds (ps := ["amount", "power"]) fun _ _ _ _ _ _ us hl => match us, hl with | [_, _], _ => rfl
  have F__law_worth := fun_mk (st := QP.lWorth) l__law_worth c__law_worth k__law_worth
  have m__law_worth := PySem.W.mg_of X G a__law_worth
  have b__law_worth := F__law_worth.binds (ps := ["one", "numbers"]) fun _ _ _ _ _ _ us hl => match us, hl with | [_, _], _ => rfl
  have F__law_poly := fun_mk (st := QL.lPoly) l__law_poly c__law_poly k__law_poly
  have m__law_poly := PySem.W.mg_of X G a__law_poly
  have b__law_poly := F__law_poly.binds (ps := ["jar", "many", "terms", "degree"]) fun _ _ _ _ _ _ us hl => match us, hl with | [_, _, _, _], _ => rfl
  have F__law_numbers := fun_mk (st := QP.lNumbers) l__law_numbers c__law_numbers k__law_numbers
  have m__law_numbers := PySem.W.mg_of X G a__law_numbers
  have b__law_numbers := F__law_numbers.binds (ps := ["jar", "many"]) fun _ _ _ _ _ _ us hl => match us, hl with | [_, _], _ => rfl
  have F__law_rows_of := fun_mk (st := QL.lRowsM) l__law_rows_of c__law_rows_of k__law_rows_of
  have m__law_rows_of := PySem.W.mg_of X G a__law_rows_of
  have b__law_rows_of := F__law_rows_of.binds (ps := ["many", "top"]) fun _ _ _ _ _ _ us hl => match us, hl with | [_, _], _ => rfl
  have F__law_are_right := fun_mk (st := QG.lAreRight) l__law_are_right c__law_are_right k__law_are_right
  have m__law_are_right := PySem.W.mg_of X G a__law_are_right
  have b__law_are_right := F__law_are_right.binds (ps := ["many", "one", "two"]) fun _ _ _ _ _ _ us hl => match us, hl with | [_, _, _], _ => rfl
  have F__law_are_told_apart := fun_mk (st := QG.lApart) l__law_are_told_apart c__law_are_told_apart k__law_are_told_apart
  have m__law_are_told_apart := PySem.W.mg_of X G a__law_are_told_apart
  have b__law_are_told_apart := F__law_are_told_apart.binds (ps := ["many", "one", "two"]) fun _ _ _ _ _ _ us hl => match us, hl with | [_, _, _], _ => rfl
  have F__law_right := fun_mk (st := KP.lRight) l__law_right c__law_right k__law_right
  have m__law_right := PySem.W.mg_of X G a__law_right
  have b__law_right := F__law_right.binds (ps := ["jar"]) fun _ _ _ _ _ _ us hl => match us, hl with | [_], _ => rfl
  have F_law := fun_mk (st := KP.lLaw) l_law c_law k_law
  have m_law := PySem.W.mg_of X G a_law
  have b_law := F_law.binds (ps := ["script"]) fun _ _ _ _ _ _ us hl => match us, hl with | [_], _ => rfl
  obtain ⟨c_t0_, Pt0, ect0, cdt0, gt0, nnt0⟩ := tab_def X m_is_polynomial l_is_polynomial nt tf_is_polynomial
  have ect0 : cd_is_polynomial = .ref c_t0_ := ect0
  have FC_is_polynomial : FunC K "is_polynomial" "is_polynomial" QD.sIsPoly f_is_polynomial _ c_t0_ := ⟨_, _, _, _, _, _, _, _, by rw [ect0], l_is_polynomial, by rw [← ect0]; exact c_is_polynomial⟩
  obtain ⟨c_t1_, Pt1, ect1, cdt1, gt1, nnt1⟩ := tab_def X m__is_term l__is_term nt tf__is_term
  have ect1 : cd__is_term = .ref c_t1_ := ect1
  have FC__is_term : FunC K "_is_term" "_is_term" QD.sIsTerm f__is_term _ c_t1_ := ⟨_, _, _, _, _, _, _, _, by rw [ect1], l__is_term, by rw [← ect1]; exact c__is_term⟩
  have TT : TxT mg := ⟨PySem.W.mg_none_of X G q0_type, PySem.W.mg_none_of X G q0_int, PySem.W.mg_none_of X G q0_tuple, PySem.W.mg_none_of X G q0_str, PySem.W.mg_none_of X G q0_len, PySem.W.mg_none_of X G q0_abs, PySem.W.mg_none_of X G q0_all, PySem.W.mg_none_of X G q0_enumerate, PySem.W.mg_none_of X G q0_zip⟩
  have TL : TxL mg := { toTxT := TT, isinstance := PySem.W.mg_none_of X G q0_isinstance, bool := PySem.W.mg_none_of X G q0_bool, range := PySem.W.mg_none_of X G q0_range, any := PySem.W.mg_none_of X G q0_any }
  have TD : TxD mg := { toTxL := TL, set := PySem.W.mg_none_of X G q0_set, sorted := PySem.W.mg_none_of X G q0_sorted, list := PySem.W.mg_none_of X G q0_list, repr := PySem.W.mg_none_of X G q0_repr, max := PySem.W.mg_none_of X G q0_max, min := PySem.W.mg_none_of X G q0_min }
  have TJ : TxJ mg := ⟨PySem.W.mg_none_of X G q0_int, PySem.W.mg_none_of X G q0_len, PySem.W.mg_none_of X G q0_abs, PySem.W.mg_none_of X G q0_divmod⟩
  have z_type : mg "type" = none := PySem.W.mg_none_of X G q0_type
  have z_int : mg "int" = none := PySem.W.mg_none_of X G q0_int
  have z_tuple : mg "tuple" = none := PySem.W.mg_none_of X G q0_tuple
  have z_str : mg "str" = none := PySem.W.mg_none_of X G q0_str
  have z_len : mg "len" = none := PySem.W.mg_none_of X G q0_len
  have z_abs : mg "abs" = none := PySem.W.mg_none_of X G q0_abs
  have z_all : mg "all" = none := PySem.W.mg_none_of X G q0_all
  have z_enumerate : mg "enumerate" = none := PySem.W.mg_none_of X G q0_enumerate
  have z_zip : mg "zip" = none := PySem.W.mg_none_of X G q0_zip
  have z_isinstance : mg "isinstance" = none := PySem.W.mg_none_of X G q0_isinstance
  have z_bool : mg "bool" = none := PySem.W.mg_none_of X G q0_bool
  have z_range : mg "range" = none := PySem.W.mg_none_of X G q0_range
  have z_any : mg "any" = none := PySem.W.mg_none_of X G q0_any
  have z_set : mg "set" = none := PySem.W.mg_none_of X G q0_set
  have z_sorted : mg "sorted" = none := PySem.W.mg_none_of X G q0_sorted
  have z_list : mg "list" = none := PySem.W.mg_none_of X G q0_list
  have z_repr : mg "repr" = none := PySem.W.mg_none_of X G q0_repr
  have z_max : mg "max" = none := PySem.W.mg_none_of X G q0_max
  have z_min : mg "min" = none := PySem.W.mg_none_of X G q0_min
  have z_divmod : mg "divmod" = none := PySem.W.mg_none_of X G q0_divmod
  have z_sum : mg "sum" = none := PySem.W.mg_none_of X G q0_sum
  have z_dict : mg "dict" = none := PySem.W.mg_none_of X G q0_dict
  have mc_MOST_UNKNOWNS := PySem.W.mg_of X G qc_MOST_UNKNOWNS
  have mc_MOST_TERMS := PySem.W.mg_of X G qc_MOST_TERMS
  have mc_MOST_DEGREE := PySem.W.mg_of X G qc_MOST_DEGREE
  have mg1 := PySem.W.mg_of X G qg
  have CU : ∀ H, SqT K H aU [.int 1, .int 1] := fun H => .inr ⟨_, _, _, lU, rfl, rfl, (by show 2 ≤ sizeLine; decide), .cons ⟨_, rfl⟩ (.cons ⟨_, rfl⟩ .nil)⟩
  have CN : ∀ H, SqT K H aN [.int 0, .int 1] := fun H => .inr ⟨_, _, _, lN, rfl, rfl, (by show 2 ≤ sizeLine; decide), .cons ⟨_, rfl⟩ (.cons ⟨_, rfl⟩ .nil)⟩
  have CC : Cst K mg aU aN := ⟨PySem.W.mg_of X G qU, PySem.W.mg_of X G qN, CU, CN⟩
  have bk_plus : KBinds K (PySem.W.fnOf "plus" "plus" (defArgs QP.sPlus) (defBody QP.sPlus) (defScope QP.sPlus) .none kV_plus dc_plus pm_plus an_plus cd_plus ct_plus) ["many", "one", "two"] ["two", "one", "many"] gRev gRevV := bindsN3 (fun s v0 v1 v2 => .of_eq rfl) (fun s v0 v1 v2 => .of_eq rfl) (fun s v0 v1 v2 => .of_eq rfl) (fun s v0 v1 v2 => .of_eq rfl)
  have bk_minus : KBinds K (PySem.W.fnOf "minus" "minus" (defArgs QP.sMinus) (defBody QP.sMinus) (defScope QP.sMinus) .none kV_minus dc_minus pm_minus an_minus cd_minus ct_minus) ["many", "one", "two"] ["two", "one", "many"] gRev gRevV := bindsN3 (fun s v0 v1 v2 => .of_eq rfl) (fun s v0 v1 v2 => .of_eq rfl) (fun s v0 v1 v2 => .of_eq rfl) (fun s v0 v1 v2 => .of_eq rfl)
  have bk_times : KBinds K (PySem.W.fnOf "times" "times" (defArgs QP.sTimes) (defBody QP.sTimes) (defScope QP.sTimes) .none kV_times dc_times pm_times an_times cd_times ct_times) ["many", "one", "two"] ["two", "one", "many"] gRev gRevV := bindsN3 (fun s v0 v1 v2 => .of_eq rfl) (fun s v0 v1 v2 => .of_eq rfl) (fun s v0 v1 v2 => .of_eq rfl) (fun s v0 v1 v2 => .of_eq rfl)
  have bk_worth : KBinds K (PySem.W.fnOf "worth" "worth" (defArgs QP.sWorth) (defBody QP.sWorth) (defScope QP.sWorth) .none kV_worth dc_worth pm_worth an_worth cd_worth ct_worth) ["many", "one", "assignment"] ["assignment", "one", "many"] gRev gRevV := bindsN3 (fun s v0 v1 v2 => .of_eq rfl) (fun s v0 v1 v2 => .of_eq rfl) (fun s v0 v1 v2 => .of_eq rfl) (fun s v0 v1 v2 => .of_eq rfl)
  refine ⟨PySem.W.fnOf "law" "law" (defArgs KP.lLaw) (defBody KP.lLaw) (defScope KP.lLaw) .none kV_law dc_law pm_law an_law cd_law ct_law, [(c_t0_, Pt0), (c_t1_, Pt1)], spLaw3 K [Pt0, Pt1], ?_, ?_, ?_, fun s v => .of_eq rfl, fun H a ns hl ht hS => ⟨a, ns, rfl, hS, hl, ?_, fun _ => rfl⟩, fun base _ _ TB => ?_⟩
  · intro p hp
    simp only [List.mem_cons, List.not_mem_nil, or_false] at hp
    rcases hp with rfl | rfl <;> assumption
  · intro p hp
    simp only [List.mem_cons, List.not_mem_nil, or_false] at hp
    rcases hp with rfl | rfl <;> assumption
  · intro p hp
    simp only [List.mem_cons, List.not_mem_nil, or_false] at hp
    rcases hp with rfl | rfl <;> assumption
  · intro p hp
    simp only [List.mem_cons, List.not_mem_nil, or_false] at hp
    rcases hp with rfl | rfl
    · exact ⟨#[], ht (c_t0_, p) (by simp), trivial⟩
    · exact ⟨#[], ht (c_t1_, p) (by simp), trivial⟩
  have TB_is_polynomial := TB (c_t0_, Pt0) (by simp)
  have TB__is_term := TB (c_t1_, Pt1) (by simp)
  have G__law_draw_0 := KJ.ok_dip (P := l.prog) (w := w) (base := base) (mg := mg) F__law_draw TJ
  have G__law_powers_0 := QL.ok_lpowers (P := l.prog) (w := w) (base := base) (mg := mg) F__law_powers TD G__law_draw_0 m__law_draw k__law_draw b__law_draw
  have G__law_common_0 := QL.ok_common (P := l.prog) (w := w) (base := base) (mg := mg) F__law_common TT
  have G__law_frac_0 := QL.ok_fracP (P := l.prog) (w := w) (base := base) (mg := mg) F__law_frac G__law_common_0 m__law_common k__law_common b__law_common
  have G__law_number_0 := QL.ok_lnumber (P := l.prog) (w := w) (base := base) (mg := mg) F__law_number G__law_draw_0 m__law_draw k__law_draw b__law_draw G__law_frac_0 m__law_frac k__law_frac b__law_frac
  have G__law_keyed_0 := QL.ok_lkeyed (P := l.prog) (w := w) (base := base) (mg := mg) F__law_keyed z_sum
  have G__law_told_of_0 := QL.ok_toldof (P := l.prog) (w := w) (base := base) (mg := mg) F__law_told_of TD G__law_keyed_0 m__law_keyed k__law_keyed b__law_keyed
  have G__law_poly_0 := QL.ok_lpoly (P := l.prog) (w := w) (base := base) (mg := mg) F__law_poly TD G__law_draw_0 m__law_draw k__law_draw b__law_draw G__law_powers_0 m__law_powers k__law_powers b__law_powers G__law_number_0 m__law_number k__law_number b__law_number G__law_told_of_0 m__law_told_of k__law_told_of b__law_told_of
  have G__law_add_0 := QP.ok_ladd (P := l.prog) (w := w) (base := base) (mg := mg) F__law_add G__law_frac_0 m__law_frac k__law_frac b__law_frac
  have G__law_mul_0 := QP.ok_lmul (P := l.prog) (w := w) (base := base) (mg := mg) F__law_mul G__law_frac_0 m__law_frac k__law_frac b__law_frac
  have G__law_sum_0 := QP.ok_lsum (P := l.prog) (w := w) (base := base) (mg := mg) F__law_sum z_dict G__law_add_0 m__law_add k__law_add b__law_add G__law_mul_0 m__law_mul k__law_mul b__law_mul G__law_told_of_0 m__law_told_of k__law_told_of b__law_told_of
  have G_is_whole_0 := QD.ok_wholeK (P := l.prog) (w := w) (base := base) (mg := mg) F_is_whole TT
  have G_is_within_0 := QD.ok_withinK (P := l.prog) (w := w) (base := base) (mg := mg) F_is_within G_is_whole_0 m_is_whole k_is_whole b_is_whole
  have G_need_many_0 := QD.ok_needmany (P := l.prog) (w := w) (base := base) (mg := mg) F_need_many mc_MOST_UNKNOWNS ⟨_, rfl⟩ G_is_within_0 m_is_within k_is_within b_is_within
  have G_is_ratio_0 := QD.ok_ratioK (P := l.prog) (w := w) (base := base) (mg := mg) F_is_ratio TT mg1 G_is_whole_0 m_is_whole k_is_whole b_is_whole
  have G__is_term_0 := QD.ok_isterm (P := l.prog) (w := w) (base := base) (mg := mg) (Ps := [Pt0, Pt1]) FC__is_term TT z_sum CC TB__is_term (by simp) mc_MOST_DEGREE ⟨_, rfl⟩ G_is_within_0 m_is_within k_is_within b_is_within G_is_ratio_0 m_is_ratio k_is_ratio b_is_ratio
  have G__standing_0 := QD.ok_standing (P := l.prog) (w := w) (base := base) (mg := mg) F__standing z_sum
  have G_is_polynomial_0 := QD.ok_ispoly (P := l.prog) (w := w) (base := base) (mg := mg) (Ps := [Pt0, Pt1]) FC_is_polynomial TT TB_is_polynomial (by simp) mc_MOST_TERMS ⟨_, rfl⟩ G_need_many_0 m_need_many k_need_many b_need_many G__is_term_0 m__is_term k__is_term b__is_term G__standing_0 m__standing k__standing b__standing
  have G_need_polynomial_0 := QP.ok_needpoly (P := l.prog) (w := w) (base := base) (mg := mg) (Ps := [Pt0, Pt1]) F_need_polynomial G_is_polynomial_0 m_is_polynomial k_is_polynomial b_is_polynomial
  have G_degree_of_0 := QP.ok_degof (P := l.prog) (w := w) (base := base) (mg := mg) F_degree_of z_sum
  have G_told_terms_0 := QP.ok_toldterms (P := l.prog) (w := w) (base := base) (mg := mg) F_told_terms TT mc_MOST_DEGREE ⟨_, rfl⟩ mc_MOST_TERMS ⟨_, rfl⟩ G_degree_of_0 m_degree_of k_degree_of b_degree_of
  have G__in_order_0 := QP.ok_inorder (P := l.prog) (w := w) (base := base) (mg := mg) F__in_order TD z_sum CC F__standing m__standing b__standing
  have G_lowest_0 := KP.ok_lowest (P := l.prog) (w := w) (base := base) (mg := mg) F_lowest mg1
  have G_added_0 := KP.ok_added (P := l.prog) (w := w) (base := base) (mg := mg) F_added G_lowest_0 m_lowest k_lowest b_lowest
  have G__collected_0 := QP.ok_coll (P := l.prog) (w := w) (base := base) (mg := mg) F__collected CC G_added_0 m_added k_added b_added
  have G_told_sum_0 := QP.ok_toldsum (P := l.prog) (w := w) (base := base) (mg := mg) F_told_sum G_told_terms_0 m_told_terms k_told_terms b_told_terms G__in_order_0 m__in_order k__in_order b__in_order G__collected_0 m__collected k__collected b__collected
  have G_plus_0 := QP.ok_plus (P := l.prog) (w := w) (base := base) (mg := mg) (Ps := [Pt0, Pt1]) F_plus G_need_many_0 m_need_many k_need_many b_need_many G_need_polynomial_0 m_need_polynomial k_need_polynomial b_need_polynomial G_told_sum_0 m_told_sum k_told_sum b_told_sum
  have G_negative_0 := KP.ok_negative (P := l.prog) (w := w) (base := base) (mg := mg) F_negative
  have G_minus_0 := QP.ok_minus (P := l.prog) (w := w) (base := base) (mg := mg) (Ps := [Pt0, Pt1]) F_minus TD G_need_many_0 m_need_many k_need_many b_need_many G_need_polynomial_0 m_need_polynomial k_need_polynomial b_need_polynomial G_negative_0 m_negative k_negative b_negative G_told_sum_0 m_told_sum k_told_sum b_told_sum
  have G_multiplied_0 := KP.ok_multiplied (P := l.prog) (w := w) (base := base) (mg := mg) F_multiplied G_lowest_0 m_lowest k_lowest b_lowest
  have G_times_0 := QP.ok_times (P := l.prog) (w := w) (base := base) (mg := mg) (Ps := [Pt0, Pt1]) F_times TD CC mc_MOST_DEGREE ⟨_, rfl⟩ G_need_many_0 m_need_many k_need_many b_need_many G_need_polynomial_0 m_need_polynomial k_need_polynomial b_need_polynomial G_degree_of_0 m_degree_of k_degree_of b_degree_of G_added_0 m_added k_added b_added G_multiplied_0 m_multiplied k_multiplied b_multiplied G_told_terms_0 m_told_terms k_told_terms b_told_terms G__in_order_0 m__in_order k__in_order b__in_order
  have G__law_product_0 := QP.ok_lproduct (P := l.prog) (w := w) (base := base) (mg := mg) F__law_product TD G__law_add_0 m__law_add k__law_add b__law_add G__law_mul_0 m__law_mul k__law_mul b__law_mul G__law_told_of_0 m__law_told_of k__law_told_of b__law_told_of
  have G__law_same_0 := KP.ok_same3 (P := l.prog) (w := w) (base := base) (mg := mg) F__law_same TD
  have G__law_are_right_0 := QG.ok_areright (P := l.prog) (w := w) (base := base) (mg := mg) (Ps := [Pt0, Pt1]) F__law_are_right G__law_sum_0 m__law_sum k__law_sum b__law_sum G_plus_0 m_plus k_plus b_plus bk_plus G_minus_0 m_minus k_minus b_minus bk_minus G_times_0 m_times k_times b_times bk_times G__law_product_0 m__law_product k__law_product b__law_product G__law_same_0 m__law_same k__law_same b__law_same
  have G__law_of_0 := KJ.ok_one (P := l.prog) (w := w) (base := base) (mg := mg) F__law_of TJ G__law_draw_0 m__law_draw k__law_draw b__law_draw
  have G__law_numbers_0 := QP.ok_lnumbers (P := l.prog) (w := w) (base := base) (mg := mg) F__law_numbers TD G__law_of_0 m__law_of k__law_of b__law_of G__law_number_0 m__law_number k__law_number b__law_number
  have G__law_raised_0 := QP.ok_lraised (P := l.prog) (w := w) (base := base) (mg := mg) F__law_raised TD G__law_mul_0 m__law_mul k__law_mul b__law_mul
  have G__law_worth_0 := QP.ok_lworth (P := l.prog) (w := w) (base := base) (mg := mg) F__law_worth TD G__law_mul_0 m__law_mul k__law_mul b__law_mul G__law_add_0 m__law_add k__law_add b__law_add G__law_raised_0 m__law_raised k__law_raised b__law_raised
  have G_is_fraction_0 := QD.ok_isfrac (P := l.prog) (w := w) (base := base) (mg := mg) F_is_fraction G_is_ratio_0 m_is_ratio k_is_ratio b_is_ratio
  have G_need_fractions_0 := QP.ok_needfr (P := l.prog) (w := w) (base := base) (mg := mg) F_need_fractions TT G_is_fraction_0 m_is_fraction k_is_fraction b_is_fraction
  have G__powers_up_to_0 := QP.ok_powsup (P := l.prog) (w := w) (base := base) (mg := mg) F__powers_up_to TD CC G_multiplied_0 m_multiplied k_multiplied b_multiplied
  have G_worth_0 := QP.ok_worth (P := l.prog) (w := w) (base := base) (mg := mg) (Ps := [Pt0, Pt1]) F_worth TD CC G_need_many_0 m_need_many k_need_many b_need_many G_need_polynomial_0 m_need_polynomial k_need_polynomial b_need_polynomial G_need_fractions_0 m_need_fractions k_need_fractions b_need_fractions G__powers_up_to_0 m__powers_up_to k__powers_up_to b__powers_up_to G_degree_of_0 m_degree_of k_degree_of b_degree_of G_multiplied_0 m_multiplied k_multiplied b_multiplied G_added_0 m_added k_added b_added
  have G__law_rows_of_0 := QL.ok_lrows (P := l.prog) (w := w) (base := base) (mg := mg) F__law_rows_of TD
  have G__law_are_told_apart_0 := QG.ok_apart (P := l.prog) (w := w) (base := base) (mg := mg) (Ps := [Pt0, Pt1]) F__law_are_told_apart TD G__law_rows_of_0 m__law_rows_of k__law_rows_of b__law_rows_of G_worth_0 m_worth k_worth b_worth
  have G__law_right_0 := QG.ok_right12 (P := l.prog) (w := w) (base := base) (mg := mg) (Ps := [Pt0, Pt1]) F__law_right TD G__law_draw_0 m__law_draw k__law_draw b__law_draw G__law_poly_0 m__law_poly k__law_poly b__law_poly G__law_are_right_0 m__law_are_right k__law_are_right b__law_are_right G__law_numbers_0 m__law_numbers k__law_numbers b__law_numbers G__law_worth_0 m__law_worth k__law_worth b__law_worth G_worth_0 m_worth k_worth b_worth bk_worth G_minus_0 m_minus k_minus b_minus G_plus_0 m_plus k_plus b_plus G__law_sum_0 m__law_sum k__law_sum b__law_sum G__law_powers_0 m__law_powers k__law_powers b__law_powers G__law_number_0 m__law_number k__law_number b__law_number G__law_are_told_apart_0 m__law_are_told_apart k__law_are_told_apart b__law_are_told_apart G__law_same_0 m__law_same k__law_same b__law_same
  have G__law_jar_0 := KJ.ok_jar (P := l.prog) (w := w) (base := base) (mg := mg) F__law_jar TJ
  have G_law_0 := KP.ok_law3 (P := l.prog) (w := w) (base := base) (mg := mg) (Ps := [Pt0, Pt1]) F_law TD G__law_right_0 m__law_right k__law_right b__law_right G__law_jar_0 m__law_jar k__law_jar b__law_jar
  exact G_law_0
end KP

set_option Elab.async false
set_option linter.all false
open PySem PySem.W PyProof.Rows in
set_option maxRecDepth 100000 in
set_option maxHeartbeats 0 in
theorem PySem.Challenge.cw_hiddenrates_k12_whole_sums_products_and_holds : PySem.Challenge.rw_hiddenrates_k12_whole_sums_products_and.Holds := by
  w_on; o_law; k_head; (case hw => w_witness2)
  k_fill
  refine KG.walkGT (l := PySem.Challenge.rw_hiddenrates_k12_whole_sums_products_and) (n := 63) (k := 15) (x := "script") rfl (by decide) rfl ⟨rfl, by decide, by decide⟩ (fun w h Y => PySem.W.kIn_of Y) ?F
  case F =>
    intro w mg fa h inK G hmg tab
    refine' _root_.KP.all_mk12 inK G hmg (tab _ ?tf_is_polynomial) (tab _ ?tf__is_term) ?a_is_whole ?l_is_whole ?c_is_whole ?k_is_whole ?a_is_within ?l_is_within ?c_is_within ?k_is_within ?a_is_ratio ?l_is_ratio ?c_is_ratio ?k_is_ratio ?a_lowest ?l_lowest ?c_lowest ?k_lowest ?a_added ?l_added ?c_added ?k_added ?a_negative ?l_negative ?c_negative ?k_negative ?a_multiplied ?l_multiplied ?c_multiplied ?k_multiplied ?a_is_fraction ?l_is_fraction ?c_is_fraction ?k_is_fraction ?a_is_polynomial ?l_is_polynomial ?c_is_polynomial ?k_is_polynomial ?a__is_term ?l__is_term ?c__is_term ?k__is_term ?a__standing ?l__standing ?c__standing ?k__standing ?a_need_many ?l_need_many ?c_need_many ?k_need_many ?a_need_polynomial ?l_need_polynomial ?c_need_polynomial ?k_need_polynomial ?a_plus ?l_plus ?c_plus ?k_plus ?a_minus ?l_minus ?c_minus ?k_minus ?a_times ?l_times ?c_times ?k_times ?a_told_sum ?l_told_sum ?c_told_sum ?k_told_sum ?a__collected ?l__collected ?c__collected ?k__collected ?a__in_order ?l__in_order ?c__in_order ?k__in_order ?a_degree_of ?l_degree_of ?c_degree_of ?k_degree_of ?a_told_terms ?l_told_terms ?c_told_terms ?k_told_terms ?a_worth ?l_worth ?c_worth ?k_worth ?a_need_fractions ?l_need_fractions ?c_need_fractions ?k_need_fractions ?a__powers_up_to ?l__powers_up_to ?c__powers_up_to ?k__powers_up_to ?a__law_draw ?l__law_draw ?c__law_draw ?k__law_draw ?a__law_of ?l__law_of ?c__law_of ?k__law_of ?a__law_same ?l__law_same ?c__law_same ?k__law_same ?a__law_jar ?l__law_jar ?c__law_jar ?k__law_jar ?a__law_common ?l__law_common ?c__law_common ?k__law_common ?a__law_frac ?l__law_frac ?c__law_frac ?k__law_frac ?a__law_add ?l__law_add ?c__law_add ?k__law_add ?a__law_mul ?l__law_mul ?c__law_mul ?k__law_mul ?a__law_number ?l__law_number ?c__law_number ?k__law_number ?a__law_powers ?l__law_powers ?c__law_powers ?k__law_powers ?a__law_keyed ?l__law_keyed ?c__law_keyed ?k__law_keyed ?a__law_told_of ?l__law_told_of ?c__law_told_of ?k__law_told_of ?a__law_sum ?l__law_sum ?c__law_sum ?k__law_sum ?a__law_product ?l__law_product ?c__law_product ?k__law_product ?a__law_raised ?l__law_raised ?c__law_raised ?k__law_raised ?a__law_worth ?l__law_worth ?c__law_worth ?k__law_worth ?a__law_poly ?l__law_poly ?c__law_poly ?k__law_poly ?a__law_numbers ?l__law_numbers ?c__law_numbers ?k__law_numbers ?a__law_rows_of ?l__law_rows_of ?c__law_rows_of ?k__law_rows_of ?a__law_are_right ?l__law_are_right ?c__law_are_right ?k__law_are_right ?a__law_are_told_apart ?l__law_are_told_apart ?c__law_are_told_apart ?k__law_are_told_apart ?a__law_right ?l__law_right ?c__law_right ?k__law_right ?a_law ?l_law ?c_law ?k_law ?q0_type ?q0_int ?q0_tuple ?q0_str ?q0_len ?q0_abs ?q0_all ?q0_enumerate ?q0_zip ?q0_isinstance ?q0_bool ?q0_range ?q0_any ?q0_set ?q0_sorted ?q0_list ?q0_repr ?q0_max ?q0_min ?q0_divmod ?q0_sum ?q0_dict ?qc_MOST_UNKNOWNS ?qc_MOST_TERMS ?qc_MOST_DEGREE ?qU ?lU ?qN ?lN ?qg ?nt
    (case a_is_whole => k_is)
    (case l_is_whole => k_is)
    (case c_is_whole => k_is)
    (case k_is_whole => k_is)
    (case a_is_within => k_is)
    (case l_is_within => k_is)
    (case c_is_within => k_is)
    (case k_is_within => k_is)
    (case a_is_ratio => k_is)
    (case l_is_ratio => k_is)
    (case c_is_ratio => k_is)
    (case k_is_ratio => k_is)
    (case a_lowest => k_is)
    (case l_lowest => k_is)
    (case c_lowest => k_is)
    (case k_lowest => k_is)
    (case a_added => k_is)
    (case l_added => k_is)
    (case c_added => k_is)
    (case k_added => k_is)
    (case a_negative => k_is)
    (case l_negative => k_is)
    (case c_negative => k_is)
    (case k_negative => k_is)
    (case a_multiplied => k_is)
    (case l_multiplied => k_is)
    (case c_multiplied => k_is)
    (case k_multiplied => k_is)
    (case a_is_fraction => k_is)
    (case l_is_fraction => k_is)
    (case c_is_fraction => k_is)
    (case k_is_fraction => k_is)
    (case a_is_polynomial => k_is)
    (case l_is_polynomial => k_is)
    (case c_is_polynomial => k_is)
    (case k_is_polynomial => k_is)
    (case a__is_term => k_is)
    (case l__is_term => k_is)
    (case c__is_term => k_is)
    (case k__is_term => k_is)
    (case a__standing => k_is)
    (case l__standing => k_is)
    (case c__standing => k_is)
    (case k__standing => k_is)
    (case a_need_many => k_is)
    (case l_need_many => k_is)
    (case c_need_many => k_is)
    (case k_need_many => k_is)
    (case a_need_polynomial => k_is)
    (case l_need_polynomial => k_is)
    (case c_need_polynomial => k_is)
    (case k_need_polynomial => k_is)
    (case a_plus => k_is)
    (case l_plus => k_is)
    (case c_plus => k_is)
    (case k_plus => k_is)
    (case a_minus => k_is)
    (case l_minus => k_is)
    (case c_minus => k_is)
    (case k_minus => k_is)
    (case a_times => k_is)
    (case l_times => k_is)
    (case c_times => k_is)
    (case k_times => k_is)
    (case a_told_sum => k_is)
    (case l_told_sum => k_is)
    (case c_told_sum => k_is)
    (case k_told_sum => k_is)
    (case a__collected => k_is)
    (case l__collected => k_is)
    (case c__collected => k_is)
    (case k__collected => k_is)
    (case a__in_order => k_is)
    (case l__in_order => k_is)
    (case c__in_order => k_is)
    (case k__in_order => k_is)
    (case a_degree_of => k_is)
    (case l_degree_of => k_is)
    (case c_degree_of => k_is)
    (case k_degree_of => k_is)
    (case a_told_terms => k_is)
    (case l_told_terms => k_is)
    (case c_told_terms => k_is)
    (case k_told_terms => k_is)
    (case a_worth => k_is)
    (case l_worth => k_is)
    (case c_worth => k_is)
    (case k_worth => k_is)
    (case a_need_fractions => k_is)
    (case l_need_fractions => k_is)
    (case c_need_fractions => k_is)
    (case k_need_fractions => k_is)
    (case a__powers_up_to => k_is)
    (case l__powers_up_to => k_is)
    (case c__powers_up_to => k_is)
    (case k__powers_up_to => k_is)
    (case a__law_draw => k_is)
    (case l__law_draw => k_is)
    (case c__law_draw => k_is)
    (case k__law_draw => k_is)
    (case a__law_of => k_is)
    (case l__law_of => k_is)
    (case c__law_of => k_is)
    (case k__law_of => k_is)
    (case a__law_same => k_is)
    (case l__law_same => k_is)
    (case c__law_same => k_is)
    (case k__law_same => k_is)
    (case a__law_jar => k_is)
    (case l__law_jar => k_is)
    (case c__law_jar => k_is)
    (case k__law_jar => k_is)
    (case a__law_common => k_is)
    (case l__law_common => k_is)
    (case c__law_common => k_is)
    (case k__law_common => k_is)
    (case a__law_frac => k_is)
    (case l__law_frac => k_is)
    (case c__law_frac => k_is)
    (case k__law_frac => k_is)
    (case a__law_add => k_is)
    (case l__law_add => k_is)
    (case c__law_add => k_is)
    (case k__law_add => k_is)
    (case a__law_mul => k_is)
    (case l__law_mul => k_is)
    (case c__law_mul => k_is)
    (case k__law_mul => k_is)
    (case a__law_number => k_is)
    (case l__law_number => k_is)
    (case c__law_number => k_is)
    (case k__law_number => k_is)
    (case a__law_powers => k_is)
    (case l__law_powers => k_is)
    (case c__law_powers => k_is)
    (case k__law_powers => k_is)
    (case a__law_keyed => k_is)
    (case l__law_keyed => k_is)
    (case c__law_keyed => k_is)
    (case k__law_keyed => k_is)
    (case a__law_told_of => k_is)
    (case l__law_told_of => k_is)
    (case c__law_told_of => k_is)
    (case k__law_told_of => k_is)
    (case a__law_sum => k_is)
    (case l__law_sum => k_is)
    (case c__law_sum => k_is)
    (case k__law_sum => k_is)
    (case a__law_product => k_is)
    (case l__law_product => k_is)
    (case c__law_product => k_is)
    (case k__law_product => k_is)
    (case a__law_raised => k_is)
    (case l__law_raised => k_is)
    (case c__law_raised => k_is)
    (case k__law_raised => k_is)
    (case a__law_worth => k_is)
    (case l__law_worth => k_is)
    (case c__law_worth => k_is)
    (case k__law_worth => k_is)
    (case a__law_poly => k_is)
    (case l__law_poly => k_is)
    (case c__law_poly => k_is)
    (case k__law_poly => k_is)
    (case a__law_numbers => k_is)
    (case l__law_numbers => k_is)
    (case c__law_numbers => k_is)
    (case k__law_numbers => k_is)
    (case a__law_rows_of => k_is)
    (case l__law_rows_of => k_is)
    (case c__law_rows_of => k_is)
    (case k__law_rows_of => k_is)
    (case a__law_are_right => k_is)
    (case l__law_are_right => k_is)
    (case c__law_are_right => k_is)
    (case k__law_are_right => k_is)
    (case a__law_are_told_apart => k_is)
    (case l__law_are_told_apart => k_is)
    (case c__law_are_told_apart => k_is)
    (case k__law_are_told_apart => k_is)
    (case a__law_right => k_is)
    (case l__law_right => k_is)
    (case c__law_right => k_is)
    (case k__law_right => k_is)
    (case a_law => k_is)
    (case l_law => k_is)
    (case c_law => k_is)
    (case k_law => k_is)
    (case q0_type => k_is)
    (case q0_int => k_is)
    (case q0_tuple => k_is)
    (case q0_str => k_is)
    (case q0_len => k_is)
    (case q0_abs => k_is)
    (case q0_all => k_is)
    (case q0_enumerate => k_is)
    (case q0_zip => k_is)
    (case q0_isinstance => k_is)
    (case q0_bool => k_is)
    (case q0_range => k_is)
    (case q0_any => k_is)
    (case q0_set => k_is)
    (case q0_sorted => k_is)
    (case q0_list => k_is)
    (case q0_repr => k_is)
    (case q0_max => k_is)
    (case q0_min => k_is)
    (case q0_divmod => k_is)
    (case q0_sum => k_is)
    (case q0_dict => k_is)
    (case qc_MOST_UNKNOWNS => k_is)
    (case qc_MOST_TERMS => k_is)
    (case qc_MOST_DEGREE => k_is)
    (case qU => k_is)
    (case lU => k_is)
    (case qN => k_is)
    (case lN => k_is)
    (case qg => k_is)
    (case nt => kernel_rfl)
    (case tf_is_polynomial => kernel_rfl)
    (case tf__is_term => kernel_rfl)


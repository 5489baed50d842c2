import PyProof.Rows.All
import Wide.All
import OpenK.AllK
import Wide.FinOn
import HandS.ForMost
import HandS.Evl
import HandS.ExcInit
import HandS.ExcIs
import HandS.ExcField
import HandS.WideBits
import PyProof.ReprRoads
import KE.KExcIs
import HandS.IsInst
import HandS.ExcValue
import HandS.Wide
import HandS.Walk
import PySem.Challenge.RW_hiddenrates_k08_whole_texts_there_and_ba
import HandS.Gcd
import HandS.More
import HandS.AnyAll
import HandS.GenList
import HandS.Zip
import KE.GoesEnum
import HandS.Iter
import HandS.Deep
import HandS.TupAny
import HandS.Conv
import HandS.SetFor
import HandS.Strs
import KE.KRevSl
import KE.GoesZip
import KE.GoesMore
import HandS.TupMul
import HandS.Steps
import PyProof.ReprLen
import HandS.EndTab
import KE.KNest
import HandS.Codes
import HandS.Text
import KE.IntTextText
import HandS.StrMore
import HandS.Style
import HandS.ExcOwn
import HandS.WordsExc
import HandS.TryMany
import HandS.FStr
set_option Elab.async false
set_option linter.all false
set_option maxRecDepth 100000
set_option maxHeartbeats 4000000
/-! ### calls made where no repr is under way: the promise of a def for such callers alone -/
namespace KX
open PySem PySem.Spec PyProof.Rows L2

abbrev Quiet (A : Around) : Prop := A.guards = some []
structure FnG (P : Program) (w : World) (K : PySem.W.Frag) (mg : Str → Option Value) (base : Heap) (k : Nat) (f : Addr) (fd : FuncData) (ps : List Str) (sp : Sp) : Prop where
  arity : ∀ {vs H Q E}, sp vs H Q E → vs.length = ps.length
  goes : ∀ {A outer s H args us vs Q E}, Quiet A → Room k A → Env0 P w K mg base A outer s H → BindsTo s fd args (ps.zip us) → Vals vs us → sp vs H Q E →
    codeAny (model P w) A (.call (.ref f) args) (CR CX0 outer P w H s Q E) s

section
variable {P : Program} {w : World} {K : PySem.W.Frag} {mg : Str → Option Value} {base : Heap} {k : Nat} {f : Addr} {fd : FuncData} {ps : List Str} {sp : Sp}
theorem FnG.of (F : FnOk P w K mg base CX0 k f fd ps sp) : FnG P w K mg base k f fd ps sp := ⟨fun h => F.len _ _ _ _ h, fun _ a b c d e => F.run _ _ _ _ _ _ _ _ _ a b c d e⟩
theorem FnG.lift {j : Nat} (F : FnG P w K mg base j f fd ps sp) (h : j ≤ k) : FnG P w K mg base k f fd ps sp := ⟨F.arity, fun q r => F.goes q (r.mono h)⟩
end

section
variable {X : Cx} {k : Nat} {f : Addr} {fd : FuncData} {ps : List Str} {sp : Sp} {x : Str} {p pos : Pos} {e : Expr} {es : List Expr} {t : TA}
theorem FnG.callee {pins : List (Addr × Obj)} {σ : L2.St} {H : Hp} {s : Shared} {Q : VK} {us : List Value} {vs : List V} (F : FnG X.prog X.w X.K X.mg X.base k f fd ps sp) (qu : Quiet X.A) (hr : Room k X.A) (hb : Binds X.K fd ps [])
    (I : Inv X pins σ H s) (r : Vals vs us) (h : sp vs H Q E0) : wpAny (model X.prog X.w) X.A (call (.ref f) us) (EP X pins σ Q) X.xe s := by
  have bt := hb s us I.kIn (by rw [List.append_nil, ← r.length]; exact F.arity h)
  rw [List.append_nil] at bt
  refine wpAny_call (codeAny_mono (F.goes qu hr I.env0 bt r h) ?_)
  rintro (e | fl) s' z
  · exact z.elim
  · cases fl <;> first | exact I.after z | exact False.elim z
def tQuiet (sp : Sp) (t : TA) : TE := fun σ H Q => t σ H fun vs H1 => sp vs H1 Q E0
theorem pe_quiet (F : FnG X.prog X.w X.K X.mg X.base k f fd ps sp) (qu : Quiet X.A) (hr : Room k X.A) (hg : Gl X x) (hm : X.mg x = some (.ref f)) (hk : PySem.W.keepIn X.K (.ref f) = true) (hb : Binds X.K fd ps [])
    (ha : PA X (e :: es) t) (h1 : (x == ("__debug__" : Str)) = false := by decide) (h2 : starEach (e :: es) X.env = (false, eval e X.env) :: starEach es X.env := by rfl) (h3 : (backTo pos (starEach es X.env)).any (·.1) = false := by rfl) :
    PE X (.Call (.Name x p) (e :: es) [] pos) (tQuiet sp t) :=
  ⟨fun pins s σ H Q I h => wpAny_Call_Name_kw (ld_glob I hg hm (PySem.W.callWith_K (h₀ := X.base) I.ok.mod.kin hk
    (thn (ha.run pos pins s σ H _ I h) fun us s1 ⟨vs, H1, I1, r, q⟩ => ⟨I1.kIn, F.callee qu hr hb I1 r q⟩) h2 h3) h1)⟩
end

/-- a def's body, entered where no repr is under way -/
theorem FnG.mk' {P : Program} {w : World} {K : PySem.W.Frag} {mg : Str → Option Value} {base : Heap} {x qual : Str} {st : Stmt} {f : Addr} {fd : FuncData} {N ps : List Str} {k : Nat} {sp : Sp} (F : Fun K x qual st f fd) (S : FnScope N ps (defScope st)) (len : ∀ {vs H Q E}, sp vs H Q E → vs.length = ps.length)
    (body : ∀ (cdv : Value) (A : Around) (outer : List Env) (s : Shared) (H : Hp) (vs : List V) (Q : VK) (E : XK), Quiet A → Room k (A.deeper (envOfC qual (defScope st) s.heap.objs.size f cdv)) → sp vs H Q E →
      ∃ t, PSs (cxOf CX0 P w K mg base N qual (defScope st) f cdv A outer s H E).nox (defBody st) t ∧ t { nx := fun _ H' => Q .non H', rt := Q } (start N vs) H) : FnG P w K mg base (k + 1) f fd ps sp := by
  obtain ⟨oc, od, kV, doc, pm, an, cdv, ct, osl, rfl, lk, hcd⟩ := F.ex
  refine ⟨len, fun {A outer s H args us vs Q E} qu hr e0 hb r hsp => ?_⟩
  have inK : K.In s.heap := e0.mod.kin.keeps fun b o z => (e0.bs b o z).1
  refine Att.call_fn inK (e0.mod.nolimit.keeps fun b o z => (e0.bs b o z).1) lk hcd hr.depth hb ?_ (fun s1 ic => ?_) S.co S.gen S.kind
  · refine List.all_eq_true.mpr fun ⟨y, v⟩ hy => ?_
    rcases S.par y (List.of_mem_zip hy).1 with z | z <;> simp [z]
  · obtain ⟨t, ht, hq⟩ := body cdv A outer s H vs Q E qu (hr.deeper _) hsp
    have I0 := inv_start (CX := CX0) (N := N) (E := E) S hr.hd e0 (len hsp) r ic
    refine wpAny_mono (ht.nox.run [] s1 _ H _ I0 hq) ?_ fun _ _ z => z
    rintro (_ | _ | _ | u) s' z
    · obtain ⟨_, H', J, q⟩ := z
      exact ⟨.non, H', J.os, J.bare, J.base, J.hok, rfl, q⟩
    · obtain ⟨_, _, _, q⟩ := z
      exact q.elim
    · obtain ⟨_, _, _, q⟩ := z
      exact q.elim
    · obtain ⟨v, _, H', J, rv, q⟩ := z
      exact ⟨v, H', J.os, J.bare, J.base, J.hok, rv, q⟩

/-! ### the end of a law whose def is quiet -/
open Classical in
theorem lawG {P : Program} {w : World} {K : PySem.W.Frag} {mg mb : Str → Option Value} {k : Nat} {fa a : Addr} {fd : FuncData} {x : Str} {sp : Sp} {s₁ : Shared} {vs : List Value} {ns : List Int}
    (inK : K.In s₁.heap) (hns : s₁.heap.Ns mainGlobals mg) (hb : s₁.heap.Ns builtinsNs mb) (hbb : ∀ y : Str, y ≠ "__name__" → mb y = bootBuiltins y) (hlim : s₁.heap.NoLimit) (hg : s₁.gens = #[])
    (ha : s₁.heap.get? a = some { cls := .type "list", data := .seq vs.toArray }) (hi : IntsAre vs ns) (hl : ns.length ≤ sizeLine) (hr : Room k callerA)
    (F : ∀ base : Heap, K.In base → base.Ns mainGlobals mg → FnG P w K mg base k fa fd [x] sp) (hbind : ∀ (s : Shared) (u : Value), BindsTo s fd ⟨[u], []⟩ [(x, u)])
    (hsp : ∀ H : Hp, Only H → SqL K H a (ns.map V.int) → sp [.ref a] H (fun v _ => v = .bl true) fun _ _ _ => False) :
    codeAny (model P w) callerA (.call (.ref fa) ⟨[.ref a], []⟩) (fun r s' => r = .ok (.ret (.bool true)) ∧ OldK s₁.heap s'.heap ∧ s'.os = s₁.os ∧ AllBare s'.gens) s₁ := by
  let scr : Obj := { cls := .type "list", data := .seq vs.toArray }
  let H : Hp := fun b => if K.lookup a = none ∧ b = a then some (.frz scr (.lst (ns.map V.int))) else none
  have rv := vals_ints hi
  have hA : ∀ {b u}, H b = some u → K.lookup a = none ∧ b = a ∧ u = .frz scr (.lst (ns.map V.int)) := fun {b u} z => by
    by_cases c : K.lookup a = none ∧ b = a
    · have z' : some (HO.frz scr (.lst (ns.map V.int))) = some u := (if_pos c).symm.trans z
      exact ⟨c.1, c.2, (Option.some.inj z').symm⟩
    · have z' : none = some u := (if_neg c).symm.trans z
      cases z'
  have nK : ∀ {b o}, K.lookup b = some o → H b = none := fun {b o} e => by
    cases z : H b with
    | none => rfl
    | some u =>
      obtain ⟨z1, z2, _⟩ := hA z
      rw [z2, z1] at e
      cases e
  have nD : ∀ {b m}, s₁.heap.Ns b m → (hidT s₁.heap H).Ns b m := by
    rintro b m ⟨o, es, ep, e, d, r⟩
    refine ⟨o, es, ep, hidT_get e ?_, d, r⟩
    cases z : H b with
    | none => rfl
    | some u =>
      obtain ⟨_, z2, _⟩ := hA z
      rw [z2, ha] at e
      cases e
      cases d
  have inB : K.In (hidT s₁.heap H) := fun b o e => hidT_get (inK b o e) (nK e)
  have hok : HOk P w H s₁.heap := fun b u z => by
    obtain ⟨_, rfl, rfl⟩ := hA z
    exact ⟨ha, by rw [List.length_map]; exact hl, vs, _, rv, ha⟩
  have only : Only H := fun b => by
    cases z : H b with
    | none => exact .inl rfl
    | some u => exact .inr ⟨scr, ns.map V.int, by rw [(hA z).2.2]⟩
  have sq : SqL K H a (ns.map V.int) := by
    cases z : K.lookup a with
    | none => exact .inl (.inr ⟨scr, if_pos ⟨z, rfl⟩⟩)
    | some o =>
      have e := inK a o z
      rw [ha] at e
      cases e
      exact .inr ⟨_, vs.toArray, _, z, rfl, rfl, rfl, by rw [List.size_toArray, hi.length]; exact hl, by simpa using rv⟩
  have e0 : Env0 P w K mg (hidT s₁.heap H) callerA [] s₁ H :=
    ⟨rfl, ⟨inB, nD hns, ⟨mb, nD hb, hbb⟩, let ⟨mc, h1, h2⟩ := hlim; ⟨mc, nD h1, h2⟩⟩, fun b o e => of_hidT e, Nat.le_of_eq (hidT_size _ _), trivial, fun b z => (nomatch z), hok, .of_eq hg⟩
  refine codeAny_mono ((F _ inB (nD hns)).goes (us := [.ref a]) (vs := [.ref a]) rfl hr e0 (hbind s₁ (.ref a)) (.cons rfl .nil) (hsp H only sq)) ?_
  rintro (e | (_ | _ | _ | u)) s' z
  · exact z.elim
  · exact False.elim z
  · exact False.elim z
  · exact False.elim z
  · obtain ⟨v, H', os, bare, un, hok', r', q⟩ := z
    subst q
    obtain rfl : u = Value.bool true := r'
    refine ⟨rfl, OldK.of_keep fun b o e => ?_, os, bare⟩
    cases c : H b with
    | none => exact un.keep b o e c (fun z => nomatch z) (fun z => nomatch z)
    | some y =>
      obtain ⟨_, rfl, rfl⟩ := hA c
      have e1 := (hok _ _ c).1
      have e2 := (hok' _ _ (un.frzs _ _ _ c)).1
      rw [e1] at e
      cases e
      exact e2

theorem walkG {l : PySem.W.OpenLaw} {n k : Nat} {q : Program} {loose : List Str} {XP : (Str → Option Value) → Heap → Prop} {YP : World → Heap → Prop} {d : DefRec} {K : Params → PySem.W.Frag} {sp : PySem.W.Frag → Sp} {x : Str}
    (hn : l.most = some n) (hn2 : n ≤ sizeLine) (hdf : d.params.defaults = []) (hr : Room k callerA) (hY : ∀ (w : World) (h : Heap), YP w h → (K w.params).In h)
    (F : ∀ (w : World) (mg : Str → Option Value) (fa : Addr) (h : Heap), (K w.params).In h → h.Ns mainGlobals mg → mg d.name = some (.ref fa) →
      ∃ fd : FuncData, (∀ (s : Shared) (u : Value), BindsTo s fd ⟨[u], []⟩ [(x, u)]) ∧ ∀ base : Heap, (K w.params).In base → base.Ns mainGlobals mg → FnG l.prog w (K w.params) mg base k fa fd [x] (sp (K w.params)))
    (hsp : ∀ (K : PySem.W.Frag) (H : Hp) (a : Addr) (ns : List Int), ns.length ≤ n → Only H → SqL K H a (ns.map V.int) → sp K [.ref a] H (fun v _ => v = .bl true) fun _ _ _ => False) :
    PySem.W.WalkO q loose XP YP l.row.toRowW d [] (fun f vs => PySem.call f vs) :=
  Att.attach_call hn hdf fun w s₀ s₁ mg mb fa o pm cd doc a vs ns G Y ho hd hcd hmg hobj hints hlen hg => by
    obtain ⟨fd, b, f⟩ := F w mg fa _ (hY w _ Y) G.T.g hmg
    exact lawG (hY w _ Y) G.T.g G.T.b G.T.builtins G.T.nolimit hg hobj hints (Nat.le_trans hlen hn2) hr f b fun H h1 h2 => hsp _ H a ns hlen h1 h2

/-! ### repr of data -/
/-- what x is as data: anything of the data's kinds, or the empty dict -/
def Shw (K : PySem.W.Frag) (H : Hp) (x : V) (d : PyData) : Prop :=
  d.showable = true ∧ d.shown.length ≤ sizeLine ∧ d.depth ≤ 60 ∧ ((d.hasDict = false ∧ Dp K H x d) ∨ (d = .dict [] ∧ ∃ a, x = .ref a ∧ H a = some (.dK [])))
def rRepr (K : PySem.W.Frag) : List V → Hp → VK → Prop := fun xs H Q => ∃ x d, xs = [x] ∧ Shw K H x d ∧ Q (.str d.shown) H
theorem call_repr_none' {P : Program} {w : World} {A : Around} {E : Value → Shared → Prop} {s : Shared} {Q : Value → Shared → Prop} (h : Q (.str "None" s.toks) { s with toks := s.toks + 1 }) : wpAny (model P w) A (call (.builtin "repr") [.none]) Q E s :=
  PySem.P.repr_of_none h
theorem cr_repr {X : Cx} (qu : Quiet X.A) (hu : X.A.units + 64 < cLine) : CallR X (.builtin "repr") (rRepr X.K) := by
  rintro pins s σ H xs us Q I r ⟨x, d, rfl, ⟨hs, hz, hd, hx⟩, q⟩
  obtain ⟨u, rfl, rx⟩ := vals1 r
  have big : ∀ {y : Value} {b : Addr} {as : List Addr}, y = .ref b → Reads s.heap y d as → (d.hasDict = true → sysModules ∉ as) → wpAny (model X.prog X.w) X.A (call (.builtin "repr") [y]) (EP X pins σ Q) X.xe s := by
    rintro y b as rfl rd hm
    refine repr_of_reads' rd hs hm qu (by omega) (fun _ _ z => z) (fun h' u tk k => ?_) hz
    exact ⟨.str d.shown, H, I.kept k, ⟨_, rfl⟩, q⟩
  rcases hx with ⟨hn, hx⟩ | ⟨rfl, a, rfl, ha⟩
  · have nd : d.hasDict = true → ∀ as : List Addr, sysModules ∉ as := fun z => by
      rw [hn] at z
      cases z
    have tx : ∀ (y : Str) (t : Tok) (tk : Nat), Q (.str y) H → EP X pins σ Q (.str y t) { s with toks := tk } := fun y t tk z => ⟨.str y, H, I.tok _, ⟨_, rfl⟩, z⟩
    cases hx with
    | non =>
      obtain rfl : u = Value.none := rx
      exact PySem.P.repr_of_none (tx _ _ _ q)
    | bl b =>
      obtain rfl : u = Value.bool b := rx
      refine PySem.P.repr_of_bool (tx _ _ _ ?_)
      cases b <;> exact q
    | int i =>
      obtain ⟨t, rfl⟩ := rx
      exact PySem.P.repr_of_int (of_decide_eq_true hs) (tx _ _ _ q)
    | str y =>
      obtain ⟨t, rfl⟩ := rx
      exact PySem.P.repr_of_str (tx _ _ _ q) hz
    | lst h1 h2 =>
      obtain ⟨as, rd⟩ := Dp.reads I _ _ u (.lst h1 h2) rx
      exact big rx rd fun z => nd z _
    | tup h1 h2 =>
      obtain ⟨as, rd⟩ := Dp.reads I _ _ u (.tup h1 h2) rx
      exact big rx rd fun z => nd z _
  · obtain ⟨_, hne, vs, kv, o, es, ep, h1, h2, h3, h4⟩ := (show ObjOk X.prog X.w H s.heap a (.dK []) from I.hok a _ ha)
    cases kv
    have h5 : es.toList = [] := by
      have z := h4.2.1
      generalize es.toList = l at z
      cases z
      rfl
    obtain rfl : u = Value.ref a := rx
    refine big rfl (Reads.dict (kvs := []) (as := []) (bs := []) h1 h2.1 h3 (by rw [h5]; exact .nil) (by rw [h5]; exact .nil)) fun _ z => ?_
    have z' : sysModules ∈ [a] := z
    rw [List.mem_singleton] at z'
    rw [z'] at hne
    simp at hne
end KX

set_option Elab.async false
set_option linter.all false
set_option maxRecDepth 100000
set_option maxHeartbeats 1000000
/-! ### things as data; whole numbers, fractions -/
namespace KP
open PySem PySem.Spec PyProof.Rows L2 KX
def top (i : Nat) : Stmt := PySem.Challenge.pw_hiddenrates_k08_whole_texts_there_and_ba.main.body.getD i (.Pass ⟨0, 0, 0, 0⟩)
abbrev sWhole : Stmt := top 7
abbrev sWithin : Stmt := top 8
abbrev sRatio : Stmt := top 9
abbrev sTold : Stmt := top 10
abbrev sNet : Stmt := top 16
abbrev sPipes : Stmt := top 17
abbrev sPipe : Stmt := top 18
abbrev sShare : Stmt := top 19
abbrev sTanks : Stmt := top 20
end KP
namespace KX
open PySem PySem.Spec PyProof.Rows L2
theorem SqT.of {K : PySem.W.Frag} {H : Hp} {a : Addr} {xs : List V} (h : Rd H a (.tup xs)) : L2.SqT K H a xs := .inl h
end KX
namespace L2
open PySem PySem.Spec PyProof.Rows
theorem Same.rd {H H' : Hp} (s : Same H H') {a : Addr} {u : HO} (h : Rd H a u) : Rd H' a u := h.elim (fun e => .inl (s _ _ e)) fun ⟨o, e⟩ => .inr ⟨o, s _ _ e⟩
end L2
namespace KP
open PySem PySem.Spec PyProof.Rows L2 KX
mutual
/-- what x is as data (tracked lists, tuples, the empty dict) -/
inductive Th (H : Hp) : V → PyData → Prop
  | non : Th H .non .none
  | bl (b : Bool) : Th H (.bl b) (.bool b)
  | int (i : Int) : Th H (.int i) (.int i)
  | str (x : Str) : Th H (.str x) (.str x)
  | lst {a : Addr} {xs : List V} {ds : List PyData} : H a = some (.lst xs) → ThAll H xs ds → Th H (.ref a) (.list ds)
  | tup' {a : Addr} {xs : List V} {ds : List PyData} : Rd H a (.tup xs) → ThAll H xs ds → Th H (.ref a) (.tuple ds)
  | emp {a : Addr} : H a = some (.dK []) → Th H (.ref a) (.dict [])
inductive ThAll (H : Hp) : List V → List PyData → Prop
  | nil : ThAll H [] []
  | cons {v : V} {vs : List V} {d : PyData} {ds : List PyData} : Th H v d → ThAll H vs ds → ThAll H (v :: vs) (d :: ds)
end
theorem Th.tup {H : Hp} {a : Addr} {xs : List V} {ds : List PyData} (e : H a = some (.tup xs)) (h : ThAll H xs ds) : Th H (.ref a) (.tuple ds) := .tup' (.inl e) h
/-- all but tables as it was -/
def Sm (H H' : Hp) : Prop := ∀ b u, H b = some u → (∀ q, u ≠ .tbl q) → H' b = some u
theorem Sm.refl (H : Hp) : Sm H H := fun _ _ e _ => e
theorem Sm.trans {H H1 H2 : Hp} (a : Sm H H1) (b : Sm H1 H2) : Sm H H2 := fun c u e n => b c u (a c u e n) n
theorem Sm.same {H H1 : Hp} (a : Same H H1) : Sm H H1 := fun c u e _ => a c u e
theorem Sm.rd {H H' : Hp} (s : Sm H H') {a : Addr} {xs : List V} (h : Rd H a (.tup xs)) : Rd H' a (.tup xs) := h.elim (fun e => .inl (s _ _ e fun _ z => by cases z)) fun ⟨o, e⟩ => .inr ⟨o, s _ _ e fun _ z => by cases z⟩
theorem Th.mono {H H' : Hp} (s : Sm H H') {v : V} {d : PyData} (h : Th H v d) : Th H' v d := by
  refine Th.rec (motive_1 := fun v d _ => Th H' v d) (motive_2 := fun vs ds _ => ThAll H' vs ds) .non (fun b => .bl b) (fun i => .int i) (fun x => .str x) (fun q _ ih => .lst (s _ _ q fun _ z => by cases z) ih) (fun q _ ih => .tup' (s.rd q) ih) (fun q => .emp (s _ _ q fun _ z => by cases z)) .nil (fun _ _ a b => .cons a b) h
def tyN : PyData → String
  | .none => "NoneType"
  | .bool _ => "bool"
  | .int _ => "int"
  | .str _ => "str"
  | .list _ => "list"
  | .tuple _ => "tuple"
  | .dict _ => "dict"
theorem Th.ty {K : PySem.W.Frag} {H : Hp} {v : V} {d : PyData} (h : Th H v d) : TyB K H v (tyN d) := by
  cases h with
  | non => exact .non
  | bl b => exact .bl b
  | int i => exact .int i
  | str x => exact .str x
  | lst e _ => exact .lst (SqL.of e)
  | tup' e _ => exact .tup (SqT.of e)
  | emp e => exact .dK e
def isI : PyData → Bool
  | .int _ => true
  | _ => false
def isW : PyData → Int → Int → Bool
  | .int i, lo, hi => decide (lo ≤ i) && decide (i ≤ hi)
  | _, _, _ => false
structure TxT (mg : Str → Option Value) : Prop where
  type : mg "type" = none
  int : mg "int" = none
  tuple : mg "tuple" = none
  str : mg "str" = none
  len : mg "len" = none
  abs : mg "abs" = none
  all : mg "all" = none
  enumerate : mg "enumerate" = none
  zip : mg "zip" = none
theorem isI_ty (d : PyData) : decide (tyN d = "int") = isI d := by cases d <;> simp [tyN, isI]
def spWhole : Sp := fun vs H Q _ => ∃ x d, vs = [x] ∧ Th H x d ∧ Q (.bl (isI d)) H
def spWithin : Sp := fun vs H Q _ => ∃ x d lo hi, vs = [x, .int lo, .int hi] ∧ Th H x d ∧ Q (.bl (isW d lo hi)) H
section
variable {P : Program} {w : World} {K : PySem.W.Frag} {mg : Str → Option Value} {base : Heap}
theorem scWhole : FnScope ["value"] ["value"] (defScope sWhole) := ⟨rfl, rfl, rfl, by decide +kernel, rfl, by decide +kernel, by decide +kernel⟩
theorem ok_whole {f : Addr} {fd : FuncData} (F : Fun K "is_whole" "is_whole" sWhole f fd) (T : TxT mg) : FnOk P w K mg base CX0 1 f fd ["value"] spWhole := by
  refine F.ok scWhole (fun vs H Q E h => ?_) (fun cdv A outer s H vs Q E hr h => ?_)
  · obtain ⟨x, d, rfl, _⟩ := h
    rfl
  · obtain ⟨x, d, rfl, hx, k⟩ := h
    refine ⟨_, pss_one (ps_ret (pe_cmpR op_isTyB (pe_callTy call_type1 (by rfl) T.type (by decide +kernel) (pa_cons (pv 0) pa_nil)) (pe_bltn (v := .ty "int") (by rfl) T.int (by decide +kernel) rfl) (nomark _))), ?_⟩
    refine ⟨_, rfl, _, _, rfl, Th.ty hx, _, _, rfl, rfl, ?_⟩
    show Q (.bl (decide (tyN d = "int"))) H
    rw [isI_ty]
    exact k
theorem scWithin : FnScope ["value", "least", "most"] ["value", "least", "most"] (defScope sWithin) := ⟨rfl, rfl, rfl, by decide +kernel, rfl, by decide +kernel, by decide +kernel⟩
theorem ok_within {f fW : Addr} {fd fdW : FuncData} (F : Fun K "is_within" "is_within" sWithin f fd) (FW : FnOk P w K mg base CX0 1 fW fdW ["value"] spWhole) (mW : mg "is_whole" = some (.ref fW)) (kW : PySem.W.keepIn K (.ref fW) = true) (bW : Binds K fdW ["value"] []) :
    FnOk P w K mg base CX0 2 f fd ["value", "least", "most"] spWithin := by
  refine F.ok scWithin (fun vs H Q E h => ?_) (fun cdv A outer s H vs Q E hr h => ?_)
  · obtain ⟨x, d, lo, hi, rfl, _⟩ := h
    rfl
  · obtain ⟨x, d, lo, hi, rfl, hx, k⟩ := h
    refine ⟨_, pss_one (ps_ret (pe_and (pe_call FW hr rfl mW kW bW .nil pass0 (pa_cons (pv 0) pa_nil)) (pe_one (pe_chain op_le op_le (pv 1) (pv 0) (pv 2))))), ?_⟩
    refine ⟨_, rfl, x, d, rfl, hx, _, rfl, ?_⟩
    cases hx with
    | int i =>
      refine ⟨_, rfl, _, rfl, _, _, rfl, rfl, _, rfl, ?_⟩
      by_cases c : lo ≤ i
      · rw [if_pos (decide_eq_true c)]
        refine ⟨_, rfl, _, _, rfl, rfl, ?_⟩
        have e : isW (.int i) lo hi = decide (i ≤ hi) := by simp [isW, c]
        rw [e] at k
        exact k
      · rw [if_neg (by simpa using c)]
        have e : isW (.int i) lo hi = false := by simp [isW, c]
        rw [e] at k
        exact k
    | _ => exact k
end
end KP

set_option Elab.async false
set_option linter.all false
set_option maxRecDepth 100000
set_option maxHeartbeats 1000000
/-! ### readings that change nothing; fractions, shares, pipes -/
namespace KP
open PySem PySem.Spec PyProof.Rows L2 KX
def Vi (t : TE) (σ : L2.St) (H : Hp) (v : V) : Prop := ∀ Q : VK, Q v H → t σ H Q
def Ti (t : TT) (σ : L2.St) (H : Hp) (b : Bool) : Prop := ∀ Q : Bool → Hp → Prop, Q b H → t σ H Q
def Ai (t : TA) (σ : L2.St) (H : Hp) (vs : List V) : Prop := ∀ Q : List V → Hp → Prop, Q vs H → t σ H Q
section
variable {K : PySem.W.Frag} {σ : L2.St} {H : Hp}
theorem vi_var {i : Nat} {v : V} (h : σ[i]? = some (some v)) : Vi (tVar i) σ H v := fun _ q => ⟨v, h, q⟩
theorem vi_c {v : V} : Vi (tC v) σ H v := fun _ q => q
theorem ai_nil : Ai tNil σ H [] := fun _ q => q
theorem ai_cons {te : TE} {ta : TA} {v : V} {vs : List V} (h : Vi te σ H v) (h2 : Ai ta σ H vs) : Ai (tCons te ta) σ H (v :: vs) := fun _ q => h _ (h2 _ q)
theorem vi_op {r : R2} {ta tb : TE} {x y v : V} (ha : Vi ta σ H x) (hb : Vi tb σ H y) (hr : ∀ Q : VK, Q v H → r x y H Q) : Vi (tOp r ta tb) σ H v := fun Q q => ha _ (hb _ (hr Q q))
theorem vi_cb {r : List V → Hp → VK → Prop} {t : TA} {vs : List V} {v : V} (ha : Ai t σ H vs) (hr : ∀ Q : VK, Q v H → r vs H Q) : Vi (tCB r t) σ H v := fun Q q => ha _ (hr Q q)
theorem vi_call {sp : Sp} {E : XK} {t : TA} {vs : List V} {v : V} (ha : Ai t σ H vs) (hr : ∀ Q : VK, Q v H → sp vs H Q E) : Vi (tCall sp [] E t) σ H v := fun Q q => ha _ (by rw [List.append_nil]; exact hr Q q)
theorem ti_test {te : TE} {b : Bool} (h : Vi te σ H (.bl b)) : Ti (tTest te) σ H b := fun Q q => h _ ⟨b, rfl, q⟩
theorem ti_val {te : TE} {b : Bool} (h : Vi te σ H (.bl b)) : Ti (tB te) σ H b := fun Q q => h _ ⟨b, rfl, q⟩
theorem ti_or {t u : TT} {a b : Bool} (h : Ti t σ H a) (h2 : a = false → Ti u σ H b) : Ti (tOr t u) σ H (a || b) := fun Q q => h _ (by
  cases a with
  | true => rw [if_pos rfl]; simpa using q
  | false => rw [if_neg Bool.false_ne_true]; exact h2 rfl _ (by simpa using q))
theorem ti_not {t : TT} {a : Bool} (h : Ti t σ H a) : Ti (tNot t) σ H (!a) := fun Q q => h _ q
theorem vi_and {ta tb : TE} {a b : Bool} (h : Vi ta σ H (.bl a)) (h2 : a = true → Vi tb σ H (.bl b)) : Vi (tAndV ta tb) σ H (.bl (a && b)) := fun Q q => h _ ⟨a, rfl, by
  cases a with
  | true => rw [if_pos rfl]; exact h2 rfl _ (by simpa using q)
  | false => rw [if_neg Bool.false_ne_true]; simpa using q⟩
theorem vi_or {ta tb : TE} {a b : Bool} (h : Vi ta σ H (.bl a)) (h2 : a = false → Vi tb σ H (.bl b)) : Vi (tOrV ta tb) σ H (.bl (a || b)) := fun Q q => h _ ⟨a, rfl, by
  cases a with
  | true => rw [if_pos rfl]; simpa using q
  | false => rw [if_neg Bool.false_ne_true]; exact h2 rfl _ (by simpa using q)⟩
theorem i_if {t : TT} {tu tw : TS} {b : Bool} {D : Ends} (h : Ti t σ H b) (h1 : b = true → tu D σ H) (h2 : b = false → tw D σ H) : tIfS t tu tw D σ H := h _ (by
  cases b with
  | true => rw [if_pos rfl]; exact h1 rfl
  | false => rw [if_neg Bool.false_ne_true]; exact h2 rfl)
theorem i_ret {te : TE} {v : V} {D : Ends} (h : Vi te σ H v) (k : D.rt v H) : tRet te D σ H := h _ k
/-- if test: return False -/
theorem i_guard {t : TT} {tz : TS} {b : Bool} {D : Ends} (h : Ti t σ H b) (h1 : b = true → D.rt (.bl false) H) (h2 : b = false → tz D σ H) : tSeq (tIfS t (tRet (tC (.bl false))) tNext) tz D σ H :=
  i_if (D := { D with nx := tz D }) h (fun z => i_ret vi_c (h1 z)) h2
theorem vi_type {K : PySem.W.Frag} {t : TA} {x : V} {d : PyData} (ha : Ai t σ H [x]) (h : Th H x d) : Vi (tCB (rTyp K) t) σ H (.ty (tyN d)) := vi_cb ha fun Q q => ⟨x, _, rfl, h.ty, q⟩
theorem ti_notTup {K : PySem.W.Frag} {te : TE} {x : V} {d : PyData} (ha : Vi te σ H x) (h : Th H x d) : Ti (tTest (tOp rNT (tCB (rTyp K) (tCons te tNil)) (tC (.ty "tuple")))) σ H (!decide (tyN d = "tuple")) :=
  ti_test (vi_op (vi_type (ai_cons ha ai_nil) h) vi_c fun Q q => ⟨_, _, rfl, rfl, q⟩)
end
def lenT : PyData → Nat
  | .tuple ds => ds.length
  | _ => 0
theorem all2 {H : Hp} {xs : List V} {ds : List PyData} (h : ThAll H xs ds) : xs.length = ds.length := by
  induction ds generalizing xs with
  | nil => cases h; rfl
  | cons d ds ih => cases h with | cons a b => rw [List.length_cons, List.length_cons, ih b]
def rLen (K : PySem.W.Frag) : List V → Hp → VK → Prop := fun xs H Q => ∃ p ys, xs = [.ref p] ∧ (SqL K H p ys ∨ SqT K H p ys) ∧ Q (.int ys.length) H
section
variable {K : PySem.W.Frag} {σ : L2.St} {H : Hp}
theorem tupOf {x : V} {d : PyData} (h : Th H x d) (z : tyN d = "tuple") : ∃ a xs ds, x = .ref a ∧ d = .tuple ds ∧ Rd H a (.tup xs) ∧ ThAll H xs ds := by
  cases h with
  | tup' e ha => exact ⟨_, _, _, rfl, rfl, e, ha⟩
  | _ => exact absurd z (by simp [tyN])
theorem vi_lenT {t : TA} {x : V} {d : PyData} (ha : Ai t σ H [x]) (h : Th H x d) (z : tyN d = "tuple") : Vi (tCB (rLen K) t) σ H (.int (lenT d)) := vi_cb ha fun Q q => by
  obtain ⟨a, xs, ds, rfl, rfl, e, hl⟩ := tupOf h z
  exact ⟨a, xs, rfl, .inr (SqT.of e), by rw [all2 hl]; exact q⟩
/-- the shape that is asked first -/
def shp (n : Nat) (d : PyData) : Bool := decide (tyN d = "tuple") && decide (lenT d = n)
theorem int_dec (a b : Nat) : decide ((V.int (a : Int)) = .int (b : Int)) = decide (a = b) := by
  rw [Bool.eq_iff_iff, decide_eq_true_eq, decide_eq_true_eq]
  constructor
  · intro y
    have := V.int.inj y
    omega
  · intro y
    rw [y]
theorem ti_shape {te : TE} {x : V} {d : PyData} {n : Nat} {m : Int} (hm : m = (n : Int)) (ha : Vi te σ H x) (h : Th H x d) :
    Ti (tOr (tTest (tOp rNT (tCB (rTyp K) (tCons te tNil)) (tC (.ty "tuple")))) (tTest (tOp rNe (tCB (rLen K) (tCons te tNil)) (tC (.int m))))) σ H (!shp n d) := by
  subst hm
  have e : (!shp n d) = ((!decide (tyN d = "tuple")) || !decide (lenT d = n)) := by unfold shp; rw [Bool.not_and]
  rw [e]
  refine ti_or (ti_notTup ha h) fun z => ti_test (vi_op (vi_lenT (ai_cons ha ai_nil) h (by simpa using z)) vi_c fun Q q => ⟨rfl, ?_⟩)
  rw [int_dec]
  exact q
theorem shp_of {x : V} {d : PyData} {n : Nat} (h : Th H x d) (z : (!shp n d) = false) : ∃ a xs ds, x = .ref a ∧ d = .tuple ds ∧ Rd H a (.tup xs) ∧ ThAll H xs ds ∧ ds.length = n := by
  have z : shp n d = true := by simpa using z
  unfold shp at z
  rw [Bool.and_eq_true, decide_eq_true_eq, decide_eq_true_eq] at z
  obtain ⟨a, xs, ds, e1, rfl, e2, hl⟩ := tupOf h z.1
  exact ⟨a, xs, ds, e1, rfl, e2, hl, z.2⟩
theorem not_shp {d : PyData} {n : Nat} (z : (!shp n d) = true) : ∀ ds, d = .tuple ds → ds.length ≠ n := by
  rintro ds rfl e
  simp [shp, tyN, lenT, e] at z
end
def ith (i : Nat) : PyData → PyData
  | .tuple ds => ds.getD i .none
  | _ => .none
def ratio2 : PyData → PyData → Bool
  | .int a, .int b => decide (0 < b) && decide (Nat.gcd a.natAbs b.natAbs = 1)
  | _, _ => false
def isR (d : PyData) : Bool := shp 2 d && ratio2 (ith 0 d) (ith 1 d)
def small2 : PyData → PyData → Bool
  | .int a, .int b => decide ((if a < 0 then -a else a) ≤ 999) && decide (b ≤ 999)
  | _, _ => false
def isTold (d : PyData) : Bool := isR d && small2 (ith 0 d) (ith 1 d)
def isX : PyData → Bool
  | .str s => decide (s = "x")
  | _ => false
def isShare (u : Int) (d : PyData) : Bool := shp 2 d && (if tyN (ith 0 d) = "str" then isX (ith 0 d) && isW (ith 1 d) 0 (u - 1) else isTold d)
def eqI : PyData → PyData → Bool
  | .int i, .int j => decide (i = j)
  | _, _ => false
def isNon : PyData → Bool
  | .none => true
  | _ => false
def isPipe (m u : Int) (d : PyData) : Bool := shp 3 d && (!(!isW (ith 0 d) 0 (m - 1) || !isShare u (ith 2 d)) && (isNon (ith 1 d) || (isW (ith 1 d) 0 (m - 1) && !eqI (ith 1 d) (ith 0 d))))
theorem len2 {α : Type} {l : List α} (h : l.length = 2) : ∃ a b, l = [a, b] := by
  match l, h with
  | [a, b], _ => exact ⟨a, b, rfl⟩
theorem len3 {α : Type} {l : List α} (h : l.length = 3) : ∃ a b c, l = [a, b, c] := by
  match l, h with
  | [a, b, c], _ => exact ⟨a, b, c, rfl⟩
theorem len5 {α : Type} {l : List α} (h : l.length = 5) : ∃ a b c d e, l = [a, b, c, d, e] := by
  match l, h with
  | [a, b, c, d, e], _ => exact ⟨a, b, c, d, e, rfl⟩
def spIs (p : PyData → Bool) : Sp := fun vs H Q _ => ∃ x d, vs = [x] ∧ Th H x d ∧ Q (.bl (p d)) H
section
variable {P : Program} {w : World} {K : PySem.W.Frag} {mg : Str → Option Value} {base : Heap}
theorem scRatio : FnScope ["value", "above", "below"] ["value"] (defScope sRatio) := ⟨rfl, rfl, rfl, by decide +kernel, rfl, by decide +kernel, by decide +kernel⟩
theorem ok_ratio {f fW : Addr} {fd fdW : FuncData} (F : Fun K "is_ratio" "is_ratio" sRatio f fd) (T : TxT mg) (mG : mg "gcd" = some (.builtin "math.gcd")) (FW : FnOk P w K mg base CX0 1 fW fdW ["value"] spWhole) (mW : mg "is_whole" = some (.ref fW)) (kW : PySem.W.keepIn K (.ref fW) = true) (bW : Binds K fdW ["value"] []) :
    FnOk P w K mg base CX0 2 f fd ["value"] (spIs isR) := by
  refine F.ok scRatio (fun vs H Q E h => ?_) (fun cdv A outer s H vs Q E hr h => ?_)
  · obtain ⟨x, d, rfl, _⟩ := h
    rfl
  · obtain ⟨x, d, rfl, hx, k⟩ := h
    refine ⟨_, pss_cons (ps_if (pw_or (pt_cmpR op_notTyB (pe_callTy call_type1 (by rfl) T.type (by decide +kernel) (pa_cons (pv 0) pa_nil)) (pe_bltn (v := .ty "tuple") (by rfl) T.tuple (by decide +kernel) rfl) (nomark _))
        (pw_or1 (pt_cmpR op_ne (pe_callB call_len_seq (by rfl) T.len PySem.boot_len (pa_cons (pv 0) pa_nil)) pe_int (nomark _)))).pt (pss_one (ps_ret pe_bl)) pss_nil)
      (pss_cons (ps_asg (pv 0) (pg_tup rfl (pgs_cons (pg_name (i := 1) scRatio.nd rfl (Or.inl rfl)) (pgs_cons (pg_name (i := 2) scRatio.nd rfl (Or.inl rfl)) pgs_nil))))
      (pss_one (ps_ret (pe_and (pe_call FW hr rfl mW kW bW .nil pass0 (pa_cons (pv 1) pa_nil)) (pe_and (pe_call FW hr rfl mW kW bW .nil pass0 (pa_cons (pv 2) pa_nil)) (pe_and (pe_cmpR op_gt (pv 2) pe_int (nomark _)) (pe_one (pe_cmpR op_eq (pe_callBfun cr_gcd (by rfl) mG (pa_cons (pv 1) (pa_cons (pv 2) pa_nil))) pe_int (nomark _))))))))), ?_⟩
    refine i_guard (ti_shape rfl (vi_var rfl) hx) (fun z => ?_) (fun z => ?_)
    · have e : isR d = false := by
        have z : shp 2 d = false := by simpa using z
        simp [isR, z]
      rw [e] at k
      exact k
    · obtain ⟨a, xs, ds, rfl, rfl, e, ha, l2⟩ := shp_of hx z
      obtain ⟨d1, d2, rfl⟩ := len2 l2
      cases ha with
      | cons h1 hr1 => cases hr1 with
          | cons h2 hr2 =>
            cases hr2
            refine ⟨_, rfl, a, _, rfl, SqT.of e, rfl, _, _, rfl, _, _, rfl, rfl, ?_⟩
            have e9 : isR (.tuple [d1, d2]) = (isI d1 && (isI d2 && ratio2 d1 d2)) := by cases d1 <;> cases d2 <;> simp [isI, isR, shp, ith, ratio2, tyN, lenT]
            rw [e9] at k
            dsimp only
            refine i_ret (v := .bl (isI d1 && (isI d2 && ratio2 d1 d2))) ?_ k
            refine vi_and (vi_call (ai_cons (vi_var rfl) ai_nil) fun Q q => ⟨_, _, rfl, h1, q⟩) fun c1 => ?_
            refine vi_and (vi_call (ai_cons (vi_var rfl) ai_nil) fun Q q => ⟨_, _, rfl, h2, q⟩) fun c2 => ?_
            cases h1 with
            | int i1 => cases h2 with
              | int i2 =>
                refine vi_and (vi_op (vi_var rfl) vi_c fun Q q => ⟨_, _, rfl, rfl, q⟩) fun c3 => ?_
                refine vi_op (vi_cb (v := .int ((Nat.gcd i1.natAbs i2.natAbs : Nat) : Int)) (ai_cons (vi_var rfl) (ai_cons (vi_var rfl) ai_nil)) fun Q q => ⟨_, _, rfl, q⟩) vi_c (fun Q q => ⟨rfl, ?_⟩)
                rw [show (V.int 1) = V.int ((1 : Nat) : Int) from rfl, int_dec]
                exact q
              | _ => simp [isI] at c2
            | _ => simp [isI] at c1
end
end KP

set_option Elab.async false
set_option linter.all false
set_option maxRecDepth 100000
set_option maxHeartbeats 1000000
/-! ### told fractions, shares, pipes -/
namespace KP
open PySem PySem.Spec PyProof.Rows L2 KX
theorem ratio_of {H : Hp} {x : V} {d : PyData} (h : Th H x d) (z : isR d = true) : ∃ a i j, x = .ref a ∧ d = .tuple [.int i, .int j] ∧ Rd H a (.tup [.int i, .int j]) := by
  unfold isR at z
  rw [Bool.and_eq_true] at z
  obtain ⟨a, xs, ds, rfl, rfl, e, ha, l2⟩ := shp_of h (by rw [z.1]; rfl)
  obtain ⟨d1, d2, rfl⟩ := len2 l2
  have z2 : ratio2 d1 d2 = true := z.2
  cases ha with
  | cons h1 hr1 => cases hr1 with
    | cons h2 hr2 =>
      cases hr2
      cases h1 with
      | int i => cases h2 with
        | int j => exact ⟨a, i, j, rfl, rfl, e⟩
        | _ => simp [ratio2] at z2
      | _ => cases h2 <;> simp [ratio2] at z2
theorem isW_int {x : V} {H : Hp} {d : PyData} {lo hi : Int} (h : Th H x d) (z : isW d lo hi = true) : ∃ i, x = .int i ∧ d = .int i := by
  cases h with
  | int i => exact ⟨i, rfl, rfl⟩
  | _ => simp [isW] at z
def spShare : Sp := fun vs H Q _ => ∃ x d u, vs = [x, .int u] ∧ Th H x d ∧ Q (.bl (isShare u d)) H
def spPipe : Sp := fun vs H Q _ => ∃ x d m u, vs = [x, .int m, .int u] ∧ Th H x d ∧ Q (.bl (isPipe m u d)) H
theorem spWithin_at {x : V} {d : PyData} {lo hi : Int} {H : Hp} {Q : VK} {E : XK} (h : Th H x d) (q : Q (.bl (isW d lo hi)) H) : spWithin [x, .int lo, .int hi] H Q E := ⟨x, d, lo, hi, rfl, h, q⟩
section
variable {P : Program} {w : World} {K : PySem.W.Frag} {mg : Str → Option Value} {base : Heap}
theorem scTold : FnScope ["value"] ["value"] (defScope sTold) := ⟨rfl, rfl, rfl, by decide +kernel, rfl, by decide +kernel, by decide +kernel⟩
theorem ok_told {f fR : Addr} {fd fdR : FuncData} {uB : Value} (F : Fun K "is_told" "is_told" sTold f fd) (T : TxT mg) (mB : mg "TOLD_BOUND" = some uB) (rB : RelV (.int 999) uB) (FR : FnOk P w K mg base CX0 2 fR fdR ["value"] (spIs isR)) (mR : mg "is_ratio" = some (.ref fR)) (kR : PySem.W.keepIn K (.ref fR) = true) (bR : Binds K fdR ["value"] []) :
    FnOk P w K mg base CX0 3 f fd ["value"] (spIs isTold) := by
  refine F.ok scTold (fun vs H Q E h => ?_) (fun cdv A outer s H vs Q E hr h => ?_)
  · obtain ⟨x, d, rfl, _⟩ := h
    rfl
  · obtain ⟨x, d, rfl, hx, k⟩ := h
    refine ⟨_, pss_one (ps_ret (pe_and (pe_call FR hr rfl mR kR bR .nil pass0 (pa_cons (pv 0) pa_nil)) (pe_and (pe_cmpR op_le (pe_callB call_abs (by rfl) T.abs (by decide +kernel) (pa_cons (pe_ix ix_seq (pv 0) pe_int (fun _ _ => rfl)) pa_nil)) (pe_glob (by rfl) mB rB) (nomark _))
      (pe_one (pe_cmpR op_le (pe_ix ix_seq (pv 0) pe_int (fun _ _ => rfl)) (pe_glob (by rfl) mB rB) (nomark _)))))), ?_⟩
    refine i_ret (D := { nx := fun _ H' => Q .non H', rt := Q }) (v := .bl (isR d && small2 (ith 0 d) (ith 1 d))) ?_ k
    refine vi_and (vi_call (ai_cons (vi_var rfl) ai_nil) fun Q q => ⟨_, _, rfl, hx, q⟩) fun c1 => ?_
    obtain ⟨a, i, j, rfl, rfl, e⟩ := ratio_of hx c1
    have x0 : ∀ {c : Int} {v : V}, atI [V.int i, V.int j] c = some v → Vi (tOp (rIx K) (tVar 0) (tC (.int c))) (L2.start ["value"] [V.ref a]) H v := fun {c v} h => vi_op (vi_var rfl) vi_c fun Q q => .inr (.inl ⟨a, _, c, v, rfl, rfl, SqT.of e, h, q⟩)
    refine vi_and (vi_op (vi_cb (ai_cons (x0 rfl) ai_nil) fun Q q => ⟨i, rfl, q⟩) vi_c fun Q q => ⟨_, _, rfl, rfl, q⟩) fun c2 => ?_
    exact vi_op (x0 rfl) vi_c fun Q q => ⟨_, _, rfl, rfl, q⟩
theorem scShare : FnScope ["share", "unknowns", "mark", "unknown"] ["share", "unknowns"] (defScope sShare) := ⟨rfl, rfl, rfl, by decide +kernel, rfl, by decide +kernel, by decide +kernel⟩
theorem ok_share {f fI fD : Addr} {fd fdI fdD : FuncData} (F : Fun K "_is_share" "_is_share" sShare f fd) (T : TxT mg) (FI : FnOk P w K mg base CX0 2 fI fdI ["value", "least", "most"] spWithin) (mI : mg "is_within" = some (.ref fI)) (kI : PySem.W.keepIn K (.ref fI) = true) (bI : Binds K fdI ["value", "least", "most"] [])
    (FD : FnOk P w K mg base CX0 3 fD fdD ["value"] (spIs isTold)) (mD : mg "is_told" = some (.ref fD)) (kD : PySem.W.keepIn K (.ref fD) = true) (bD : Binds K fdD ["value"] []) :
    FnOk P w K mg base CX0 4 f fd ["share", "unknowns"] spShare := by
  refine F.ok scShare (fun vs H Q E h => ?_) (fun cdv A outer s H vs Q E hr h => ?_)
  · obtain ⟨x, d, u, rfl, _⟩ := h
    rfl
  · obtain ⟨x, d, u, rfl, hx, k⟩ := h
    have hr2 : Room 2 _ := hr.mono (by decide)
    refine ⟨_, pss_cons (ps_if (pw_or (pt_cmpR op_notTyB (pe_callTy call_type1 (by rfl) T.type (by decide +kernel) (pa_cons (pv 0) pa_nil)) (pe_bltn (v := .ty "tuple") (by rfl) T.tuple (by decide +kernel) rfl) (nomark _))
        (pw_or1 (pt_cmpR op_ne (pe_callB call_len_seq (by rfl) T.len PySem.boot_len (pa_cons (pv 0) pa_nil)) pe_int (nomark _)))).pt (pss_one (ps_ret pe_bl)) pss_nil)
      (pss_cons (ps_asg (pv 0) (pg_tup rfl (pgs_cons (pg_name (i := 2) scShare.nd rfl (Or.inl rfl)) (pgs_cons (pg_name (i := 3) scShare.nd rfl (Or.inl rfl)) pgs_nil))))
      (pss_cons (ps_if (pt_cmpR op_isTyB (pe_callTy call_type1 (by rfl) T.type (by decide +kernel) (pa_cons (pv 2) pa_nil)) (pe_bltn (v := .ty "str") (by rfl) T.str (by decide +kernel) rfl) (nomark _))
        (pss_one (ps_ret (pe_and (pe_cmpR op_eq (pv 2) pe_str (nomark _)) (pe_one (pe_call FI hr2 rfl mI kI bI .nil pass0 (pa_cons (pv 3) (pa_cons pe_int (pa_cons (pe_op op_sub (pv 1) pe_int) pa_nil)))))))) pss_nil)
      (pss_one (ps_ret (pe_call FD hr rfl mD kD bD .nil pass0 (pa_cons (pv 0) pa_nil)))))), ?_⟩
    refine i_guard (ti_shape rfl (vi_var rfl) hx) (fun z => ?_) (fun z => ?_)
    · have z : shp 2 d = false := by simpa using z
      have e : isShare u d = false := by simp [isShare, z]
      rw [e] at k
      exact k
    · have hx0 := hx
      have z0 : shp 2 d = true := by simpa using z
      obtain ⟨a, xs, ds, rfl, rfl, e, ha, l2⟩ := shp_of hx z
      obtain ⟨d1, d2, rfl⟩ := len2 l2
      cases ha with
      | cons h1 hr1 => cases hr1 with
        | cons h2 hr2 =>
          cases hr2
          refine ⟨_, rfl, a, _, rfl, SqT.of e, rfl, _, _, rfl, _, _, rfl, rfl, ?_⟩
          have e8 : isShare u (.tuple [d1, d2]) = if tyN d1 = "str" then isX d1 && isW d2 0 (u - 1) else isTold (.tuple [d1, d2]) := by
            unfold isShare
            rw [z0, Bool.true_and]
            rfl
          rw [e8] at k
          dsimp only
          refine i_if (D := { nx := _, rt := Q }) (ti_test (vi_op (vi_type (ai_cons (vi_var rfl) ai_nil) h1) vi_c fun Q q => ⟨_, _, rfl, rfl, q⟩)) (fun c => ?_) (fun c => ?_)
          · have c : tyN d1 = "str" := of_decide_eq_true c
            rw [if_pos c] at k
            cases h1 with
            | str s =>
              refine i_ret (D := { nx := _, rt := Q }) (v := .bl (isX (.str s) && isW d2 0 (u - 1))) ?_ k
              refine vi_and (vi_op (vi_var rfl) vi_c fun Q q => ⟨rfl, ?_⟩) fun c1 => ?_
              · have e7 : decide (V.str s = V.str "x") = isX (.str s) := by simp [isX]
                rw [e7]
                exact q
              · exact vi_call (ai_cons (vi_var rfl) (ai_cons vi_c (ai_cons (vi_op (vi_var rfl) vi_c fun Q q => ⟨_, _, rfl, rfl, q⟩) ai_nil))) fun Q q => spWithin_at h2 q
            | _ => exact absurd c (by simp [tyN])
          · have c : ¬ tyN d1 = "str" := of_decide_eq_false c
            rw [if_neg c] at k
            refine i_ret (D := { nx := _, rt := Q }) (v := .bl (isTold (.tuple [d1, d2]))) (vi_call (ai_cons (vi_var rfl) ai_nil) fun Q q => ⟨_, _, rfl, hx0, q⟩) k
end
end KP

set_option Elab.async false
set_option linter.all false
set_option maxRecDepth 100000
set_option maxHeartbeats 1000000
/-! ### pipes -/
namespace KP
open PySem PySem.Spec PyProof.Rows L2 KX
section
variable {P : Program} {w : World} {K : PySem.W.Frag} {mg : Str → Option Value} {base : Heap}
theorem isNon_dec {x : V} {H : Hp} {d : PyData} (h : Th H x d) : decide (x = .non) = isNon d := by cases h <;> simp [isNon]
theorem scPipe : FnScope ["pipe", "many", "unknowns", "start", "end", "share"] ["pipe", "many", "unknowns"] (defScope sPipe) := ⟨rfl, rfl, rfl, by decide +kernel, rfl, by decide +kernel, by decide +kernel⟩
theorem ok_pipe {f fI fS : Addr} {fd fdI fdS : FuncData} (F : Fun K "_is_pipe" "_is_pipe" sPipe f fd) (T : TxT mg) (FI : FnOk P w K mg base CX0 2 fI fdI ["value", "least", "most"] spWithin) (mI : mg "is_within" = some (.ref fI)) (kI : PySem.W.keepIn K (.ref fI) = true) (bI : Binds K fdI ["value", "least", "most"] [])
    (FS : FnOk P w K mg base CX0 4 fS fdS ["share", "unknowns"] spShare) (mS : mg "_is_share" = some (.ref fS)) (kS : PySem.W.keepIn K (.ref fS) = true) (bS : Binds K fdS ["share", "unknowns"] []) :
    FnOk P w K mg base CX0 5 f fd ["pipe", "many", "unknowns"] spPipe := by
  refine F.ok scPipe (fun vs H Q E h => ?_) (fun cdv A outer s H vs Q E hr h => ?_)
  · obtain ⟨x, d, m, u, rfl, _⟩ := h
    rfl
  · obtain ⟨x, d, m, u, rfl, hx, k⟩ := h
    have hr2 : Room 2 _ := hr.mono (by decide)
    refine ⟨_, pss_cons (ps_if (pw_or (pt_cmpR op_notTyB (pe_callTy call_type1 (by rfl) T.type (by decide +kernel) (pa_cons (pv 0) pa_nil)) (pe_bltn (v := .ty "tuple") (by rfl) T.tuple (by decide +kernel) rfl) (nomark _))
        (pw_or1 (pt_cmpR op_ne (pe_callB call_len_seq (by rfl) T.len PySem.boot_len (pa_cons (pv 0) pa_nil)) pe_int (nomark _)))).pt (pss_one (ps_ret pe_bl)) pss_nil)
      (pss_cons (ps_asg (pv 0) (pg_tup rfl (pgs_cons (pg_name (i := 3) scPipe.nd rfl (Or.inl rfl)) (pgs_cons (pg_name (i := 4) scPipe.nd rfl (Or.inl rfl)) (pgs_cons (pg_name (i := 5) scPipe.nd rfl (Or.inl rfl)) pgs_nil)))))
      (pss_cons (ps_if (pw_or (pt_not (pt_val (pe_call FI hr2 (by rfl) mI kI bI .nil pass0 (pa_cons (pv 3) (pa_cons pe_int (pa_cons (pe_op op_sub (pv 1) pe_int) pa_nil))))))
          (pw_or1 (pt_not (pt_val (pe_call FS hr (by rfl) mS kS bS .nil pass0 (pa_cons (pv 5) (pa_cons (pv 2) pa_nil))))))).pt (pss_one (ps_ret pe_bl)) pss_nil)
      (pss_one (ps_ret (pe_or (pe_cmpR op_isN (pv 4) pe_non (nomark _)) (pe_one (pe_and (pe_call FI hr2 (by rfl) mI kI bI .nil pass0 (pa_cons (pv 4) (pa_cons pe_int (pa_cons (pe_op op_sub (pv 1) pe_int) pa_nil)))) (pe_one (pe_cmpR op_ne (pv 4) (pv 3) (nomark _)))))))))), ?_⟩
    refine i_guard (ti_shape rfl (vi_var rfl) hx) (fun z => ?_) (fun z => ?_)
    · have z : shp 3 d = false := by simpa using z
      have e : isPipe m u d = false := by simp [isPipe, z]
      rw [e] at k
      exact k
    · have z0 : shp 3 d = true := by simpa using z
      obtain ⟨a, xs, ds, rfl, rfl, e, ha, l2⟩ := shp_of hx z
      obtain ⟨d1, d2, d3, rfl⟩ := len3 l2
      cases ha with
      | cons h1 hr1 => cases hr1 with
        | cons h2 hr2' => cases hr2' with
          | cons h3 hr3 =>
            cases hr3
            refine ⟨_, rfl, a, _, rfl, SqT.of e, rfl, _, _, rfl, _, _, rfl, _, _, rfl, rfl, ?_⟩
            have e8 : isPipe m u (.tuple [d1, d2, d3]) = (!(!isW d1 0 (m - 1) || !isShare u d3) && (isNon d2 || (isW d2 0 (m - 1) && !eqI d2 d1))) := by
              unfold isPipe
              rw [z0, Bool.true_and]
              rfl
            rw [e8] at k
            dsimp only
            refine i_guard (D := { nx := _, rt := Q }) (ti_or (ti_not (ti_val (vi_call (ai_cons (vi_var rfl) (ai_cons vi_c (ai_cons (vi_op (vi_var rfl) vi_c fun Q q => ⟨_, _, rfl, rfl, q⟩) ai_nil))) fun Q q => spWithin_at h1 q)))
              fun _ => ti_not (ti_val (vi_call (ai_cons (vi_var rfl) (ai_cons (vi_var rfl) ai_nil)) fun Q q => ⟨_, _, _, rfl, h3, q⟩))) (fun z => ?_) (fun z => ?_)
            · rw [z] at k
              exact k
            · rw [z] at k
              have zw : isW d1 0 (m - 1) = true := by
                rw [Bool.or_eq_false_iff] at z
                simpa using z.1
              refine i_ret (D := { nx := _, rt := Q }) (v := .bl (isNon d2 || (isW d2 0 (m - 1) && !eqI d2 d1))) ?_ (by simpa using k)
              refine vi_or (vi_op (vi_var rfl) vi_c fun Q q => ⟨rfl, ?_⟩) fun c1 => ?_
              · rw [isNon_dec h2]
                exact q
              · refine vi_and (vi_call (ai_cons (vi_var rfl) (ai_cons vi_c (ai_cons (vi_op (vi_var rfl) vi_c fun Q q => ⟨_, _, rfl, rfl, q⟩) ai_nil))) fun Q q => spWithin_at h2 q) fun c2 => ?_
                obtain ⟨i, rfl, rfl⟩ := isW_int h1 zw
                obtain ⟨j, rfl, rfl⟩ := isW_int h2 c2
                refine vi_op (vi_var rfl) (vi_var rfl) fun Q q => ⟨rfl, ?_⟩
                have e7 : decide (V.int j = V.int i) = eqI (.int j) (.int i) := by simp [eqI]
                rw [e7]
                exact q
end
end KP

set_option Elab.async false
set_option linter.all false
set_option maxRecDepth 100000
set_option maxHeartbeats 1000000
/-! ### a generator expression whose element calls own functions: its body's segments, all(..) over it -/
namespace KG
open PySem PySem.Spec PyProof.Rows L2 GenW
/-- the body's turns: Lp m: at the loop's head, at most m items are left; Yd m: an item is just handed out, at most m are left; Dn: nothing is left -/
structure GWalk (P : Program) (w : World) (B : Around) (tg elt : Expr) (I : Addr) (cenv : Env) (Lp : Nat → Shared → Prop) (Yd : Nat → Value → Shared → Prop) (Dn : Shared → Prop) : Prop where
  turn : ∀ m s, Lp m s → wpAny (model P w) B (pyNext (.ref I)) (fun r s1 => match r with
    | none => Dn s1
    | some v => wpAny (model P w) B (letOwnedTupleGo tg (.ref I) v) (fun _ s2 => wpAny (model P w) B (assign tg cenv v) (fun _ s3 =>
        wpAny (model P w) B (eval elt cenv) (fun y s4 => ∃ m', m = m' + 1 ∧ Yd m' y s4) (fun _ _ => False) s3) (fun _ _ => False) s2) (fun _ _ => False) s1) (fun _ _ => False) s
  self : ∀ (A' : Around) m s (Q : Value → Shared → Prop) (E : Value → Shared → Prop), Lp m s → Q (.ref I) s → wpAny (model P w) A' (pyIter (.ref I)) Q E s
def RG (Dn : Shared → Prop) : GenEnd := fun _ _ r s₁ => ((r = .ok (.ret .none) ∨ r = .ok .next) ∧ Dn s₁) ∨ ∃ e : Value, r = .error e ∧ False
def YG (Lp : Nat → Shared → Prop) (Yd : Nat → Value → Shared → Prop) : Protocol := fun n _ v s kap => ∃ m', m' ≤ n ∧ Yd m' v s ∧ ∀ s'', Lp m' s'' → kap (.send .none) s''
section
variable {P : Program} {w : World} {A B : Around} {tg elt iter : Expr} {scope : Scope} {pos : Pos} {I : Addr} {cenv : Env} {Lp : Nat → Shared → Prop} {Yd : Nat → Value → Shared → Prop} {Dn : Shared → Prop}
theorem seg_loop (hB : A.over (.compLoop (.GeneratorExp elt [⟨tg, iter, [], 0⟩] scope pos) 0 (.ref I) .none cenv) [] = B) (hco : cenv.scope.isCoroutine = false) (W : GWalk P w B tg elt I cenv Lp Yd Dn) :
    ∀ (m n : Nat) (s₀ s : Shared), m ≤ n → Lp m s → Seg (model P w) A (RG Dn) (YG Lp Yd) n s₀ (.compLoop (.GeneratorExp elt [⟨tg, iter, [], 0⟩] scope pos) 0 (.ref I) .none cenv)
      ((model P w).den (.compLoop (.GeneratorExp elt [⟨tg, iter, [], 0⟩] scope pos) 0 (.ref I) .none cenv)) [] s := by
  have hy : ∀ v, yieldOut cenv v = yieldValue v := fun v => by simp only [yieldOut, hco, Bool.false_eq_true, if_false]
  intro m
  induction m using Nat.strongRecOn with
  | ind m ih =>
    intro n s₀ s hmn hL
    show Seg _ A _ _ _ s₀ _ ((compTurn (.GeneratorExp elt [⟨tg, iter, [], 0⟩] scope pos) 0 (.ref I) .none cenv).onRaise (leaving cenv)) [] s
    rw [compTurn_gen, Sem.onRaise_eq_wrap]
    refine seg_bind_wrap (wpAny_standAt ?_)
    refine seg_bind_wrap ?_
    rw [hB]
    refine wpAny_mono (W.turn m s hL) (fun r s1 h1 => ?_) (fun _ _ z => False.elim z)
    cases r with
    | none => exact seg_end (.ok .next) (.inl ⟨.inr rfl, h1⟩)
    | some v =>
      refine seg_bind_wrap ?_
      rw [hB]
      refine wpAny_mono h1 (fun _ s2 h2 => ?_) (fun _ _ z => False.elim z)
      refine seg_bind_wrap ?_
      rw [hB]
      refine wpAny_mono h2 (fun _ s3 h3 => ?_) (fun _ _ z => False.elim z)
      refine seg_bind_wrap (wpAny_tests_nil ?_)
      simp only [if_true]
      simp only [hy]
      rw [Sem.bind_eq_wrap', Sem.bind_eq_wrap', Sem.wrap_wrap, Sem.wrap_wrap]
      refine seg_wrap ?_
      rw [hB]
      refine wpAny_mono h3 (fun y s4 h4 => ?_) (fun _ _ z => False.elim z)
      obtain ⟨m', em, hY⟩ := h4
      obtain ⟨k, rfl⟩ : ∃ k, n = k + 1 := ⟨n - 1, by omega⟩
      refine seg_at (seg_yield rfl rfl rfl ⟨m', by omega, hY, fun s'' hL'' => ?_⟩)
      exact seg_again rfl (ih m' (by omega) k s'' s'' (by omega) hL'')
theorem seg_start (hB : A.over (.compLoop (.GeneratorExp elt [⟨tg, iter, [], 0⟩] scope pos) 0 (.ref I) .none cenv) [] = B) (hco : cenv.scope.isCoroutine = false) (W : GWalk P w B tg elt I cenv Lp Yd Dn)
    {m n : Nat} {s₀ s : Shared} (hmn : m ≤ n) (hL : Lp m s) : Seg (model P w) A (RG Dn) (YG Lp Yd) n s₀ (.compStart (.GeneratorExp elt [⟨tg, iter, [], 0⟩] scope pos) 0 (.ref I) .none cenv)
      ((model P w).den (.compStart (.GeneratorExp elt [⟨tg, iter, [], 0⟩] scope pos) 0 (.ref I) .none cenv)) [] s := by
  have loop := seg_loop (iter := iter) (scope := scope) (pos := pos) hB hco W m n s₀ s hmn hL
  show Seg _ A _ _ _ s₀ _ ((compStart (.GeneratorExp elt [⟨tg, iter, [], 0⟩] scope pos) 0 (.ref I) .none cenv).onRaise (leaving cenv)) [] s
  unfold compStart
  rw [Sem.onRaise_eq_wrap]
  show Seg _ A _ _ _ s₀ _ ((ask >>= _).wrap _ _ _ _) [] s
  refine seg_bind_wrap (wpAny_askSetting ?_)
  split
  · exact seg_again rfl loop
  · first
      | exact seg_bind_wrap (wpAny_rule (seg_bind_wrap (wpAny_standAt (seg_bind_wrap (W.self _ m s _ _ hL (seg_again rfl loop))))))
      | (refine seg_bind_wrap (wpAny_rule ?_); show Seg _ A _ _ _ s₀ _ ((standAt iter.pos >>= _).wrap _ _ _ _) [] s; exact seg_bind_wrap (wpAny_standAt (seg_bind_wrap (W.self _ m s _ _ hL (seg_again rfl loop)))))
/-- but for generators, counters, the same -/
structure Alike (s s' : Shared) : Prop where
  heap : s'.heap = s.heap
  os : s'.os = s.os
  bare : AllBare s'.gens
theorem all_loop {R : Result → Shared → Prop} {a : Addr} {g : Nat} (hh : A.handled = none) (hd : A.depth < recursionLimit)
    (item : ∀ m v s, Yd m v s → s.heap.NoLimit ∧ s.heap.IsGen a g ∧ AllBare s.gens ∧ ∃ b, v = .bool b ∧ ∀ s'', Alike s s'' → if b = true then Lp m s'' else R (.ok (.ret (.bool false))) s'')
    (done : ∀ s s', Dn s → (∀ b o, s.heap.get? b = some o → s'.heap.get? b = some o) → s'.os = s.os → s'.gens = (s.setGen g .finished).gens → R (.ok (.ret (.bool true))) s') :
    ∀ (n : Nat) (s : Shared) (gs : GenState), s.heap.NoLimit → s.heap.IsGen a g → s.gens[g]? = some gs → gs.Goes (model P w) A.in1.in1 (RG Dn) (YG Lp Yd) n (.send .none) (s.setGen g .running) →
      codeAny (model P w) A (.builtin "all.loop" ⟨[.ref a], []⟩) R s := by
  intro n
  induction n with
  | zero =>
    intro s gs hl hg hgs hgo
    refine codeAny_builtin F.entry_all_loop ?_
    rw [Around.under_plainId F.plain_all_loop _]
    show wpAny _ A.in1 (pyNext (.ref a) >>= _) _ _ s
    refine wpAny_bind (next_genG (A := A.in1) (F := fun _ _ s1 => Dn s1) (Er := fun _ _ => False) hh hl hd hg hgs hgo (fun v s₁ gs' hbare hv => ?_) (fun s₁ hp h' hk => ?_) fun e s₁ he => False.elim he)
    · obtain ⟨m', hm, hY, hk⟩ := hv
      obtain ⟨hl1, hg1, hb1, b, rfl, hR⟩ := item m' v s₁ hY
      have hal : Alike s₁ (s₁.setGen g gs') := ⟨rfl, rfl, allBare_setGen hb1 hbare⟩
      have hq := hR _ hal
      refine wpAny_bind (wpAny_holding (wpAny_truthy_bool ?_))
      refine wpAny_bind (wpAny_letGo ?_)
      cases b with
      | true => exact False.elim (hk _ (by simpa using hq))
      | false =>
        simp only [Bool.false_eq_true, if_false] at hq ⊢
        exact wpAny_bind (wpAny_rule (wpAny_pure hq))
    · refine wpAny_bind (wpAny_rule (wpAny_pure ?_))
      exact done s₁ _ hp hk rfl rfl
  | succ n ih =>
    intro s gs hl hg hgs hgo
    have hgl : g < s.gens.size := (Array.getElem?_eq_some_iff.mp hgs).1
    refine codeAny_builtin F.entry_all_loop ?_
    rw [Around.under_plainId F.plain_all_loop _]
    show wpAny _ A.in1 (pyNext (.ref a) >>= _) _ _ s
    refine wpAny_bind (wpAny_gsz (n := g + 1) hgl (next_genG (A := A.in1) (F := fun _ _ s1 => Dn s1) (Er := fun _ _ => False) hh hl hd hg hgs hgo (fun v s₁ gs' hbare hv => ?_) (fun s₁ hp h' hk => ?_) fun e s₁ he => False.elim he))
    · intro hsz
      obtain ⟨m', hm, hY, hk⟩ := hv
      obtain ⟨hl1, hg1, hb1, b, rfl, hR⟩ := item m' v s₁ hY
      have hal : Alike s₁ (s₁.setGen g gs') := ⟨rfl, rfl, allBare_setGen hb1 hbare⟩
      have hsz1 : g < s₁.gens.size := by
        have q : (s₁.setGen g gs').gens.size = s₁.gens.size := setGen_size _ _ _
        have hsz' : g + 1 ≤ (s₁.setGen g gs').gens.size := hsz
        omega
      refine wpAny_bind (wpAny_holding (wpAny_truthy_bool ?_))
      refine wpAny_bind (wpAny_letGo ?_)
      cases b with
      | true =>
        simp only [if_true]
        refine wpAny_pure ⟨plainId_quiet F.plain_all_loop _, ih _ gs' hl1 hg1 (setGen_at hsz1) ?_⟩
        refine hk _ ?_
        have q := hR ((s₁.setGen g gs').setGen g .running) ⟨rfl, rfl, allBare_setGen (s := s₁.setGen g gs') (allBare_setGen hb1 hbare) rfl⟩
        simpa using q
      | false =>
        have hq := hR _ hal
        simp only [Bool.false_eq_true, if_false] at hq ⊢
        exact wpAny_bind (wpAny_rule (wpAny_pure hq))
    · intro hsz
      refine wpAny_bind (wpAny_rule (wpAny_pure ?_))
      exact done s₁ _ hp hk rfl rfl
end
end KG

set_option Elab.async false
set_option linter.all false
set_option maxRecDepth 100000
set_option maxHeartbeats 1000000
/-! ### the context within a generator expression's body -/
namespace KG
open PySem PySem.Spec PyProof.Rows L2 GenW
/-- the generator's names: as a block's; a generator has a frame of its own, no cells of its own -/
structure GOk (N : List Str) (sc scope : Scope) (own : List (Str × Nat)) : Prop where
  blk : BlkOk N sc scope own
  co : scope.isCoroutine = false
  nocell : ∀ y ∈ scope.names, y.2 ≠ .cell
  dot : scope.names.lookup (".0" : Str) = some NameKind.local
abbrev gcx (X : Cx) (B : Around) (s : Shared) (H : Hp) (cenv : Env) (fp : List Addr) (pn : List (Addr × Obj)) : Cx :=
  { X with A := B, s_0 := s, H_0 := H, env := cenv, outer := X.stack, stack := cenv :: X.stack, ex := fp, fn := fun _ => false, pn := pn, xe := fun _ _ => False }
section
variable {X : Cx} {pins : List (Addr × Obj)} {σ : L2.St} {H : Hp} {s : Shared}
theorem Inv.alike {s' : Shared} (I : Inv X pins σ H s) (h : Alike s s') : Inv X pins σ H s' :=
  ⟨I.ok, h.os.trans I.os, h.bare, by rw [h.heap]; exact I.base, by rw [h.heap]; exact I.loc, by rw [h.heap]; exact I.cell, I.free, I.freeC, by rw [h.heap]; exact I.pin, by rw [h.heap]; exact I.hok, I.len⟩
theorem gen_start {B : Around} {scope : Scope} {own : List (Str × Nat)} {code : Value} {fp : List Addr} {pn : List (Addr × Obj)} {s' : Shared} {m : Str → Option Value} (I : Inv X pins σ H s) (ok : GOk X.N X.env.scope scope own) (hN : X.N.Nodup) (hfp : ∀ b ∈ fp, FpOk X pins H b ∧ b < s.heap.objs.size)
    (hB : B.handled = none) (hBf : B.frames = some (genEnv scope (cloFrom X.env.cells scope.names []) s.heap.objs.size code builtinsNs X.env :: X.stack))
    (os : s'.os = s.os) (bare : AllBare s'.gens) (kp : ∀ b o, s.heap.get? b = some o → s'.heap.get? b = some o) (hn : s'.heap.Ns s.heap.objs.size m)
    (hpn : ∀ p ∈ pn, s'.heap.get? p.1 = some p.2 ∧ s.heap.objs.size < p.1 ∧ ∀ v, p.2.data ≠ .cell v) :
    Inv (gcx X B s H (genEnv scope (cloFrom X.env.cells scope.names []) s.heap.objs.size code builtinsNs X.env) fp pn) [] (wipe σ (own.map (·.2))) H s' := by
  have hfree : ∀ y ∈ scope.names, y.2 = .free → ∃ c, X.env.cells.lookup y.1 = some c := fun y hy e => by
    rcases ok.blk.free y hy e with k | k
    · exact I.ok.has _ (.inl k)
    · exact I.ok.has _ (.inr k)
  generalize hcenv : genEnv scope (cloFrom X.env.cells scope.names []) s.heap.objs.size code builtinsNs X.env = cenv at hBf ⊢
  have hL : cenv.locals = s.heap.objs.size := by rw [← hcenv]; rfl
  have hcl : cenv.cells = cloFrom X.env.cells scope.names [] := by rw [← hcenv]; rfl
  have hsc : cenv.scope = scope := by rw [← hcenv]; rfl
  have hfrm : cenv.frame = some cenv.locals := by rw [← hcenv]; rfl
  have cm : ∀ {y c}, cenv.cells.lookup y = some c → X.env.cells.lookup y = some c ∧ c < s.heap.objs.size := fun {y c} e => by
    rw [hcl] at e
    rcases cloFrom_mem (PySem.mem_of_lookup e) with hm | ⟨h1, rfl⟩
    · cases hm
    · obtain ⟨c, hc⟩ := hfree _ h1 rfl
      rw [hc]
      obtain ⟨w, z⟩ := I.cell _ _ hc
      exact ⟨rfl, z.lt⟩
  have look : ∀ {y}, scope.names.lookup y = some .free → ∃ c, cenv.cells.lookup y = some c ∧ X.env.cells.lookup y = some c := fun {y} hl => by
    obtain ⟨c', e'⟩ := L2.mem_lookup (cloFrom_has (cells := X.env.cells) (acc := []) (PySem.mem_of_lookup hl))
    rw [← hcl] at e'
    exact ⟨c', e', (cm e').1⟩
  have okB : (gcx X B s H cenv fp pn).Ok := by
    refine ⟨I.ok.mod, by show cenv.scope.kind = _; rw [hsc]; exact ok.blk.kind, by show cenv.globals = _; rw [← hcenv]; exact I.ok.glob, by show cenv.builtins = _; rw [← hcenv]; rfl, by show s.heap.objs.size ≤ cenv.locals; rw [hL]; exact Nat.le_refl _,
      fun y z c e1 e2 => I.ok.inj y z c (cm e1).1 (cm e2).1, fun y hy => ?_, fun y c z e => absurd (show false = true from z) Bool.false_ne_true, fun _ => hB, hBf, .inr ⟨rfl, hfrm⟩, fun b hb => ⟨?_, fun y c e z => ?_⟩, I.bs, Nat.le_trans I.ok.bsz I.sz, fun b o e hb => ?_, fun b hb z => ?_, I.stack, I.stkFree⟩
    · show ∃ c, cenv.cells.lookup y = some c
      have key : ∀ k, cenv.kindOf y = some k → (k = .cell ∨ k = .free) → ∃ c, cenv.cells.lookup y = some c := fun k hk hk' => by
        unfold Env.kindOf at hk
        rw [hsc] at hk
        rcases hk' with rfl | rfl
        · exact absurd rfl (ok.nocell _ (PySem.mem_of_lookup hk))
        · obtain ⟨c, h1, _⟩ := look hk
          exact ⟨c, h1⟩
      rcases hy with hy | hy
      · exact key _ hy (.inl rfl)
      · exact key _ hy (.inr rfl)
    · show b ≠ cenv.locals
      rw [hL]; exact Nat.ne_of_lt (hfp b hb).2
    · exact (hfp b hb).1.2.2.2.2.1 y c (cm e).1 z
    · rcases (hfp b hb).1.2.2.2.1 with z | z
      · exact I.ok.noex b o e z
      · exact absurd (Nat.lt_of_lt_of_le (Heap.lt_size e) (Nat.le_trans I.ok.bsz z)) (Nat.lt_irrefl _)
    · rcases List.mem_cons.mp (I.stkSub b z) with z | z
      · exact (hfp b hb).1.2.1 z
      · exact (hfp b hb).1.2.2.1 z
  refine ⟨okB, os, bare, Un.kept kp, ⟨m, by show s'.heap.Ns cenv.locals m; rw [hL]; exact hn, fun i y av e1 e2 e3 => ?_⟩, fun y c e => ?_, ?_, fun y c e => ?_, fun p hp => ?_, I.hok.kept kp, by rw [wipe_length]; exact I.len⟩
  · obtain ⟨e2, hne⟩ := wipe_some e2
    have e3 : Vis cenv.scope y := e3
    have hk : scope.names.lookup y = some .free := by
      have no : ∀ k, scope.names.lookup y = some k → ¬ (k = .local ∨ k = .cell) := fun k e hh => by
        rcases ok.blk.own _ (PySem.mem_of_lookup e) hh with e' | e'
        · obtain ⟨p, hp, hpy⟩ := List.mem_map.mp e'
          have e3 := ok.blk.ix p hp
          have : p.1 = y := hpy
          rw [this] at e3
          exact hne (List.mem_map.mpr ⟨p, hp, nodup_ix hN e3 e1⟩)
        · exact e' (List.mem_of_getElem? e1)
      rw [hsc] at e3
      rcases e3 with e3 | e3 | e3
      · exact absurd (.inl rfl) (no _ e3)
      · exact absurd (.inr rfl) (no _ e3)
      · exact e3
    obtain ⟨m0, hn0, hl⟩ := I.loc
    have hvis : Vis X.env.scope y := (ok.blk.free _ (PySem.mem_of_lookup hk) rfl).elim (fun k => .inr (.inl k)) (fun k => .inr (.inr k))
    obtain ⟨w, r, q⟩ := hl i y av e1 e2 hvis
    refine ⟨w, r, .inr ⟨.inr (by show cenv.scope.names.lookup y = _; rw [hsc]; exact hk), ?_⟩⟩
    obtain ⟨c, h1, h2⟩ := look hk
    rcases q with ⟨k, _⟩ | ⟨_, c', e', z⟩
    · have k : X.env.scope.names.lookup y = some .local := k
      rcases ok.blk.free _ (PySem.mem_of_lookup hk) rfl with k' | k' <;> rw [show X.env.scope.names.lookup y = _ from k'] at k <;> cases k
    · rw [h2] at e'; cases e'
      exact ⟨c, h1, z.keeps kp⟩
  · obtain ⟨w, z⟩ := I.cell y c (cm e).1
    exact ⟨w, z.keeps kp⟩
  · show H cenv.locals = none
    rw [hL]; exact I.hok.fresh (Nat.le_refl _)
  · exact I.freeC y c (cm e).1
  · have hp : p ∈ pn ++ [] := hp
    rw [List.append_nil] at hp
    obtain ⟨h1, h2, h3⟩ := hpn p hp
    refine ⟨h1, I.hok.fresh (Nat.le_of_lt h2), by show p.1 ≠ cenv.locals; rw [hL]; exact Nat.ne_of_gt h2, fun hb => ?_, h3⟩
    have hb : p.1 ∈ frs X.stack := hb
    rcases List.mem_cons.mp (I.stkSub _ hb) with z | z
    · exact absurd (Nat.lt_trans I.lt h2) (by rw [z]; exact Nat.lt_irrefl _)
    · exact I.nofs (Nat.le_of_lt h2) z
end
end KG

set_option Elab.async false
set_option linter.all false
set_option maxRecDepth 100000
set_option maxHeartbeats 1000000
/-! ### all(elt for tg in iter), the element may call own functions -/
namespace KG
open PySem PySem.Spec PyProof.Rows L2 GenW
/-- W: by the turn and a measure; behind it the def's table may have grown -/
def tAllG (P : Addr) (wi : TI) (g : TG) (te : TE) (vs : List Nat) : TE := fun σ H Q => wi σ H fun J H1 => GxR.TabG H1 P ∧ ∀ H2, GxR.Tabbed P H1 H2 → ∃ W : Nat → Nat → Hp → Prop, (∃ m, W 0 m H2) ∧ ∀ i m H, W i m H →
  (J.stop i H ∧ Q (.bl true) H) ∨ (J.go i H ∧ ∀ x H', J.yld i H x H' → g x (wipe σ vs) H' fun σ2 H3 => wipe σ2 vs = wipe σ vs ∧ te σ2 H3 fun y H4 =>
    (y = .bl true ∧ ∃ m', m' < m ∧ W (i + 1) m' H4) ∨ (y = .bl false ∧ Q (.bl false) H4))
section
variable {X : Cx}
def LpG (Y : Cx) (σw : L2.St) (fp : List Addr) (tn : Nat → Heap → Prop) (W : Nat → Nat → Hp → Prop) (m : Nat) (s : Shared) : Prop :=
  ∃ i m0 H', m0 + 1 ≤ m ∧ Inv Y [] σw H' s ∧ tn i s.heap ∧ (∀ b ∈ fp, H' b = none) ∧ W i m0 H'
def YdG (Y : Cx) (σw : L2.St) (fp : List Addr) (tn : Nat → Heap → Prop) (W : Nat → Nat → Hp → Prop) (Q : VK) (m : Nat) (y : Value) (s : Shared) : Prop :=
  (y = .bool true ∧ LpG Y σw fp tn W m s) ∨ (y = .bool false ∧ ∃ σ' H', Inv Y [] σ' H' s ∧ Q (.bl false) H')
def DnG (Y : Cx) (σw : L2.St) (Q : VK) (s : Shared) : Prop := ∃ H', Inv Y [] σw H' s ∧ Q (.bl true) H'
theorem gwalk {Y : Cx} {σ : L2.St} {vs : List Nat} {fp : List Addr} {it : Addr} {tn : Nat → Heap → Prop} {J : It} {W : Nat → Nat → Hp → Prop} {Q : VK} {tg elt : Expr} {g : TG} {te : TE} (hc : Y.calm = true) (hex : Y.ex = fp) (hxe : Y.xe = fun _ _ => False)
    (hpn : ∀ p ∈ Y.pn, ∀ b ∈ fp, p.1 ≠ b) (T : Turn Y.prog Y.w Y.K tg J fp it tn) (pg : PG Y tg g) (pe : PE Y elt te)
    (turn : ∀ i m H, W i m H → (J.stop i H ∧ Q (.bl true) H) ∨ (J.go i H ∧ ∀ x H', J.yld i H x H' → g x (wipe σ vs) H' fun σ2 H3 => wipe σ2 vs = wipe σ vs ∧ te σ2 H3 fun y H4 =>
      (y = .bl true ∧ ∃ m', m' < m ∧ W (i + 1) m' H4) ∨ (y = .bl false ∧ Q (.bl false) H4))) :
    GWalk Y.prog Y.w Y.A tg elt it Y.env (LpG Y (wipe σ vs) fp tn W) (YdG Y (wipe σ vs) fp tn W Q) (DnG Y (wipe σ vs) Q) := by
  have stat : ∀ {σ' : L2.St} {H' : Hp} {s' : Shared}, Inv Y [] σ' H' s' → (∀ b ∈ fp, H' b = none) → ∀ b ∈ fp, FpOk Y [] H' b := fun {σ' H' s'} I' hn b hb =>
    ⟨hn b hb, (I'.ok.exf b (hex ▸ hb)).1, I'.ok.exfs b (hex ▸ hb), .inl (hex ▸ hb), fun x c e => (I'.ok.exf b (hex ▸ hb)).2 x c e, fun p hp => hpn p (by simpa using hp) b hb⟩
  have pgr := pg.run
  have per := pe.run
  rw [hxe] at pgr per
  refine ⟨?_, ?_⟩
  · rintro m s ⟨i, m0, H5, hm0, I5, st5, n5, w5⟩
    rcases turn i m0 H5 w5 with ⟨stop, qq⟩ | ⟨go, step⟩
    · refine thn (T.done Y rfl rfl rfl hc i [] s _ H5 (fun _ _ => False) I5 (stat I5 n5) st5 stop) fun r s6 ⟨hr, I6⟩ => ?_
      subst hr
      exact ⟨H5, I6, qq⟩
    · refine thn (T.item Y rfl rfl rfl hc i [] s _ H5 (fun _ _ => False) I5 (stat I5 n5) st5 go) fun r s6 ⟨u, hr, h6⟩ => ?_
      subst hr
      refine thn h6 fun _ s7 ⟨x, H7, I7, r7, y7, st7, n7⟩ => ?_
      have I7' := I7.pinned (stat I7 n7) (T.obj _ _ st7)
      refine thn (pgr _ s7 _ H7 x u _ I7' r7 (step x H7 y7)) fun _ s8 ⟨σ8, H8, I8, hw8, q8⟩ => ?_
      refine thn (per _ s8 σ8 H8 _ I8 q8) fun z s10 ⟨yv, H10, I10, r10, q10⟩ => ?_
      obtain ⟨m, rfl⟩ : ∃ k, m = k + 1 := ⟨m - 1, by omega⟩
      refine ⟨m, rfl, ?_⟩
      rcases q10 with ⟨rfl, m', hm, w'⟩ | ⟨rfl, q10⟩
      · refine .inl ⟨r10, i + 1, m', H10, by omega, ?_, ?_, ?_, w'⟩
        · have hl : (wipe σ vs).length = σ8.length := by rw [← hw8, wipe_length]
          refine (I10.unpinned (pins := [])).weak hl fun j v e => ?_
          rw [← hw8] at e
          exact (wipe_some e).1
        · refine T.keep _ _ _ st7 fun b hb o e => ?_
          exact (I10.pin (b, o) (List.mem_append_right _ (List.mem_append_right _ (mem_pinsAt hb e)))).1
        · intro b hb
          obtain ⟨o, e, _⟩ := T.obj _ _ st7 b hb
          exact (I10.pin (b, o) (List.mem_append_right _ (List.mem_append_right _ (mem_pinsAt hb e)))).2.1
      · exact .inr ⟨r10, _, H10, I10.unpinned (pins := []), q10⟩
  · rintro A' m s Q' E' ⟨i, m0, H5, hm0, I5, st5, n5, w5⟩ h
    exact T.self A' i s Q' E' st5 h
end
end KG

set_option Elab.async false
set_option linter.all false
set_option maxRecDepth 100000
set_option maxHeartbeats 1000000
/-! ### the rule -/
namespace KG
open PySem PySem.Spec PyProof.Rows L2 GenW
section
variable {X : Cx}
theorem pe_allG {c P : Addr} {elt tg iter : Expr} {scope : Scope} {own : List (Str × Nat)} {p pos gpos : Pos} {wi : TI} {g : TG} {te : TE} {k : Nat}
    (hc : X.calm = true) (hN : X.N.Nodup) (hr : Room (k + 1) X.A) (hg : Gl X "all") (hm : X.mg "all" = none) (hb : bootBuiltins "all" = some (.builtin "all")) (TB : GxR.TabB X.base X.mg c P) (hcode : X.env.code = .ref c) (ok : GOk X.N X.env.scope scope own) (hi : PI X tg iter wi)
    (hpg : ∀ (B : Around) (s : Shared) (H : Hp) (cl : List (Str × Addr)) (C : Addr) (code : Value) (fp : List Addr) (pn : List (Addr × Obj)), PG (gcx X B s H (genEnv scope cl C code builtinsNs X.env) fp pn) tg g)
    (hpe : ∀ (B : Around) (s : Shared) (H : Hp) (cl : List (Str × Addr)) (C : Addr) (code : Value) (fp : List Addr) (pn : List (Addr × Obj)), Room k B → PE (gcx X B s H (genEnv scope cl C code builtinsNs X.env) fp pn) elt te)
    (hs : ∀ v, genFold iter X.env v = pure v)
    (he : starEach [.GeneratorExp elt [⟨tg, iter, [], 0⟩] scope gpos] X.env = (false, eval (.GeneratorExp elt [⟨tg, iter, [], 0⟩] scope gpos) X.env) :: starEach [] X.env := by rfl) :
    PE X (.Call (.Name "all" p) [.GeneratorExp elt [⟨tg, iter, [], 0⟩] scope gpos] [] pos) (tAllG P wi g te (own.map (·.2))) := by
  refine ⟨fun pins s σ H Q I h => ?_⟩
  have hfree : ∀ y ∈ scope.names, y.2 = .free → ∃ c, X.env.cells.lookup y.1 = some c := fun y hy e => by
    rcases ok.blk.free y hy e with k | k
    · exact I.ok.has _ (.inl k)
    · exact I.ok.has _ (.inr k)
  refine wpAny_Call_Name_kw (ld_blt I hg hm hb ?_)
  refine PyProof.Rows.callWith_builtin1 ?_ he (by rfl)
  rw [he]
  show wpAny _ _ (spliced ((false, eval (.GeneratorExp elt [⟨tg, iter, [], 0⟩] scope gpos) X.env) :: backTo pos (starEach [] X.env))) _ _ s
  refine Calls.spliced_cons ?_
  refine wpAny_GeneratorExp_make ok.co (closure_ok hfree) ok.nocell ok.dot ok.blk.kind (by have := hr.dp; omega) ?_ hs
  refine wpAny_mono (hi.run pins s σ H _ I h) (fun xv s1 hx => wpAny_mono hx (fun itv s2 h2 => ?_) fun _ _ e => e) fun _ _ e => e
  obtain ⟨it, fp, tn, J, H2, e, I2, T, st2, f2, ⟨ps, hP, ht⟩, q⟩ := h2
  subst e
  refine ⟨I2.nolimit, ?_⟩
  have hPs : s2.heap.get? P = some { cls := .none, data := .fields ps } := I2.hok P _ hP
  have hPlt : P < s2.heap.objs.size := Heap.lt_size hPs
  have cd : PySem.W.CodeHd s2.heap c P := TB.code.keeps fun b u e => I2.bk b u e
  have cont : ∀ (code : Value) (h3 : Heap) (tk : Nat) (ps' : Array Value), Heap.ExtBut P s2.heap h3 → s2.heap.objs.size ≤ h3.objs.size → h3.get? P = some { cls := .none, data := .fields ps' } → (∃ more, ps' = ps ++ more) → TriplesOk ps'.toList →
      wpAny (model X.prog X.w) X.A (builtinsFor X.env.globals X.env.builtins) (fun bi s₄ =>
        ∀ h', h'.Ns s₄.heap.objs.size (fun y => if y = ".0" then some (.ref it) else none) → Heap.SameBut s₄.heap.objs.size (s₄.heap.push { cls := .type "frame", data := .dict #[] }) h' →
          wpAny (model X.prog X.w) X.A (spliced (backTo pos (starEach [] X.env))) (fun r s1 => wpAny (model X.prog X.w) X.A (call (.builtin "all") (.ref h'.objs.size :: r)) (EP X pins σ Q) X.xe s1) X.xe { s₄ with
            gens := s₄.gens.push (.fresh (.compStart (.GeneratorExp elt [⟨tg, iter, [], 0⟩] scope gpos) 0 (.ref it) .none (genEnv scope (cloFrom X.env.cells scope.names []) s₄.heap.objs.size code bi X.env))),
            toks := s₄.toks + 1 + 1 + 1,
            heap := h'.push { cls := .type "generator", data := .fields #[.int s₄.gens.size 0, .str "<genexpr>" (s₄.toks + 1), .str (X.env.qual ++ "<genexpr>") (s₄.toks + 1 + 1)] } }) X.xe { s2 with heap := h3, toks := tk } := by
    intro code h3 tk ps' hx hsz hP3 hmore ht3
    obtain ⟨bm, ob, e1, e2, e3, e4, e5, e6, e7, e8⟩ := TB.bm
    have keep3 : ∀ b u, b ≠ P → s2.heap.get? b = some u → h3.get? b = some u := fun b u hb e => hx b u hb e
    refine wpAny_builtinsFor (m := X.mg) (by rw [I2.ok.glob]; exact (I2.mod.glob.keeps I2.bk).extBut hx TB.gP) e1 e2 (keep3 _ _ e4 (I2.bk _ _ e5)) e6 e7 e8 ?_
    obtain ⟨more, rfl⟩ := hmore
    have I4 := GxR.inv_tab (more := more) (h' := h3) (g' := s2.gens) (d' := s2.drawn) (t' := tk) I2 hP (fun b u hb e => keep3 b u hb e) hP3 I2.bare
    have hT : GxR.Tabbed P H2 (upd H2 P (.tbl (ps ++ more))) := ⟨⟨ps ++ more, upd_same, ht3⟩, fun b hb => upd_ne hb⟩
    obtain ⟨W, ⟨m0, w0⟩, turn⟩ := q _ hT
    generalize upd H2 P (.tbl (ps ++ more)) = H3 at I4 hT w0
    have nP : ∀ b ∈ fp, b ≠ P := fun b hb z => by
      have := (f2 b hb).1
      rw [z, hP] at this
      cases this
    have lt2 : ∀ b ∈ fp, b < s2.heap.objs.size := fun b hb => by
      obtain ⟨o, e, _⟩ := T.obj _ _ st2 b hb
      exact Heap.lt_size e
    have f4 : ∀ b ∈ fp, FpOk X pins H3 b ∧ b < h3.objs.size := fun b hb => by
      refine ⟨⟨?_, (f2 b hb).2⟩, Nat.lt_of_lt_of_le (lt2 b hb) hsz⟩
      rw [hT.2 b (nP b hb)]
      exact (f2 b hb).1
    have st4 : tn 0 h3 := T.keep _ _ _ st2 fun b hb o e => keep3 b o (nP b hb) e
    generalize hs4 : ({ s2 with heap := h3, toks := tk } : Shared) = s4 at I4
    have eh4 : s4.heap = h3 := by rw [← hs4]
    have eg4 : s4.gens = s2.gens := by rw [← hs4]
    have eo4 : s4.os = s2.os := by rw [← hs4]
    rw [← eh4] at f4 st4
    intro h' hn' hs'
    have hsz' : h'.objs.size = s4.heap.objs.size + 1 := by rw [hs'.1, Heap.size_push]
    have keep' : ∀ b o, s4.heap.get? b = some o → h'.get? b = some o := fun b o e => hs'.extBut b o (Nat.ne_of_lt (Heap.lt_size e)) (Heap.get?_push_of_some _ e)
    generalize hgo : ({ cls := .type "generator", data := .fields #[.int s4.gens.size 0, .str "<genexpr>" (s4.toks + 1), .str (X.env.qual ++ "<genexpr>") (s4.toks + 1 + 1)] } : Obj) = go
    have keep5 : ∀ b o, s4.heap.get? b = some o → (h'.push go).get? b = some o := fun b o e => Heap.get?_push_of_some _ (keep' b o e)
    have ga : (h'.push go).get? h'.objs.size = some go := Heap.get?_push_size _ (by rw [← hgo]; rfl)
    generalize hcenv : genEnv scope (cloFrom X.env.cells scope.names []) s4.heap.objs.size code builtinsNs X.env = cenv
    generalize hs5 : ({ s4 with gens := s4.gens.push (.fresh (.compStart (.GeneratorExp elt [⟨tg, iter, [], 0⟩] scope gpos) 0 (.ref it) .none cenv)), toks := s4.toks + 1 + 1 + 1, heap := h'.push go } : Shared) = s5
    have eh5 : s5.heap = h'.push go := by rw [← hs5]
    have eo5 : s5.os = s4.os := by rw [← hs5]
    have eg5 : s5.gens = s4.gens.push (.fresh (.compStart (.GeneratorExp elt [⟨tg, iter, [], 0⟩] scope gpos) 0 (.ref it) .none cenv)) := by rw [← hs5]
    have hgen : ∀ h : Heap, h.get? h'.objs.size = some go → h.IsGen h'.objs.size s4.gens.size := fun h e => ⟨go, _, _, e, by rw [← hgo], by rw [← hgo], by rw [← hgo]⟩
    have gb5 : AllBare s5.gens := by rw [eg5]; exact I4.bare.push rfl
    generalize hB : X.A.in1.in1.over (.compLoop (.GeneratorExp elt [⟨tg, iter, [], 0⟩] scope gpos) 0 (.ref it) .none cenv) [] = B
    have hBh : B.handled = none := by rw [← hB]; exact hr.hd
    have hBf : B.frames = some (cenv :: X.stack) := by
      rw [← hB]
      have q : (X.A.in1.in1.over (.compLoop (.GeneratorExp elt [⟨tg, iter, [], 0⟩] scope gpos) 0 (.ref it) .none cenv) []).frames = pushEnvs (Code.envs (.compLoop (.GeneratorExp elt [⟨tg, iter, [], 0⟩] scope gpos) 0 (.ref it) .none cenv)) (pushEnvs (envsOf []) X.A.in1.in1.frames) := rfl
      rw [q, show X.A.in1.in1.frames = X.A.frames from rfl, I.ok.frames]
      rfl
    have hBr : Room k B := ⟨hBh, by rw [← hB]; have := hr.dp; show X.A.depth + 0 + 1 + 3 * k + 5 < _; omega, by rw [← hB]; have := hr.un; show X.A.units + 1 + 1 + 0 + 3 + 16 * k + 200 < _; omega⟩
    have hn5 : s5.heap.Ns s4.heap.objs.size (fun y => if y = ".0" then some (.ref it) else none) := by rw [eh5]; exact hn'.push _
    have I5 : Inv (gcx X B s4 H3 cenv fp [(h'.objs.size, go)]) [] (wipe σ (own.map (·.2))) H3 s5 := by
      have z := gen_start (B := B) (code := code) (s' := s5) (pn := [(h'.objs.size, go)]) I4 ok hN f4 hBh (by rw [hcenv]; exact hBf) eo5 gb5 (fun b o e => by rw [eh5]; exact keep5 b o e) hn5 (fun p hp => by
        have e := List.mem_singleton.mp hp
        rw [e]
        exact ⟨by rw [eh5]; exact ga, by show _ < h'.objs.size; omega, fun v z => by rw [← hgo] at z; cases z⟩)
      rw [hcenv] at z
      exact z
    have hapart : ∀ p ∈ [(h'.objs.size, go)], ∀ b ∈ fp, p.1 ≠ b := fun p hp b hb => by
      have e := List.mem_singleton.mp hp
      have l := (f4 b hb).2
      rw [e]
      exact Nat.ne_of_gt (Nat.lt_trans l (by rw [hsz']; exact Nat.lt_succ_self _))
    have pg := hpg B s4 H3 (cloFrom X.env.cells scope.names []) s4.heap.objs.size code fp [(h'.objs.size, go)]
    have pe := hpe B s4 H3 (cloFrom X.env.cells scope.names []) s4.heap.objs.size code fp [(h'.objs.size, go)] hBr
    rw [hcenv] at pg pe
    have Wk := gwalk (Y := gcx X B s4 H3 cenv fp [(h'.objs.size, go)]) (σ := σ) (vs := own.map (·.2)) hc rfl rfl hapart T pg pe turn
    have back : ∀ {σ' : L2.St} {H' : Hp} {s' : Shared}, Inv (gcx X B s4 H3 cenv fp [(h'.objs.size, go)]) [] σ' H' s' → Inv X pins σ H' s' := fun {σ' H' s'} I6 =>
      I4.call' (ch := fp) I6.os I6.base I6.hok I6.bare fun b hb => ⟨(f4 b hb).1.2.2.2.1, (f4 b hb).1.2.1, (f4 b hb).1.2.2.2.2.1, (f4 b hb).1.2.2.2.2.2⟩
    have gat : ∀ {σ' : L2.St} {H' : Hp} {s' : Shared}, Inv (gcx X B s4 H3 cenv fp [(h'.objs.size, go)]) [] σ' H' s' → s'.heap.IsGen h'.objs.size s4.gens.size := fun {σ' H' s'} I6 =>
      hgen _ (I6.pin (h'.objs.size, go) (List.mem_append_left _ List.mem_cons_self)).1
    refine Calls.spliced_nil ?_
    refine call_function_tree F.kind_all F.plain_all F.entry_all (F.args_all1 _) ?_
    unfold Builtin.«all»
    refine wpAny_bind (m := oneArg "all" _) (wpAny_pure ?_)
    refine wpAny_bind (wpAny_pyIter_gen (gat I5) ?_)
    refine wpAny_pure ⟨plainId_quiet F.plain_all_loop _, ?_⟩
    refine all_loop (P := X.prog) (w := X.w) (g := s4.gens.size) (Lp := LpG (gcx X B s4 H3 cenv fp [(h'.objs.size, go)]) (wipe σ (own.map (·.2))) fp tn W) (Yd := YdG (gcx X B s4 H3 cenv fp [(h'.objs.size, go)]) (wipe σ (own.map (·.2))) fp tn W Q) (Dn := DnG (gcx X B s4 H3 cenv fp [(h'.objs.size, go)]) (wipe σ (own.map (·.2))) Q)
      hr.hd (by have := hr.dp; omega) (fun m v s hY => ?_) (fun s s' hD hk ho hg => ?_) (m0 + 1) s5 (.fresh (.compStart (.GeneratorExp elt [⟨tg, iter, [], 0⟩] scope gpos) 0 (.ref it) .none cenv)) I5.nolimit (gat I5) (by rw [eg5]; exact Array.getElem?_push_size ..) ⟨rfl, ?_⟩
    · rcases hY with ⟨rfl, i, m1, H', hm1, I6, st6, n6, w6⟩ | ⟨rfl, σ', H', I6, q6⟩
      · refine ⟨I6.nolimit, gat I6, I6.bare, true, rfl, fun s'' hal => ?_⟩
        rw [if_pos rfl]
        exact ⟨i, m1, H', hm1, Inv.alike I6 hal, by rw [hal.heap]; exact st6, n6, w6⟩
      · refine ⟨I6.nolimit, gat I6, I6.bare, false, rfl, fun s'' hal => ?_⟩
        rw [if_neg Bool.false_ne_true]
        exact ⟨.bl false, H', back (Inv.alike I6 hal), rfl, q6⟩
    · obtain ⟨H', I6, q6⟩ := hD
      have I7 := I6.kept (t' := s.toks) hk
      refine ⟨.bl true, H', back (Inv.alike I7 ⟨rfl, ho, ?_⟩), rfl, q6⟩
      rw [hg]
      exact allBare_setGen I6.bare rfl
    · refine seg_start hB (by rw [← hcenv]; exact ok.co) Wk (Nat.le_refl _) ⟨0, m0, H3, Nat.le_refl _, Inv.alike I5 ⟨rfl, rfl, allBare_setGen gb5 rfl⟩, ?_, fun b hb => (f4 b hb).1.1, w0⟩
      show tn 0 s5.heap
      rw [eh5]
      exact T.keep _ _ _ st4 fun b hb o e => keep5 b o e
  cases hf : codeAmong gpos ps.toList with
  | none =>
    refine wpAny_genexprCodeX hcode (cd.code hPs ht) (cd.tab hPs) hf fun c' h' tk hx hge hlt hco' _ htab' _ => ?_
    obtain ⟨o1, vs, f1, tf, fl, tg, inF, tx, tt, op, _, _, _, _, _, _, _, _, _, htr, _⟩ := hco'
    exact cont _ h' tk _ hx (Nat.le_trans hge (Nat.le_of_lt hlt)) htab'.2 ⟨_, rfl⟩ htr
  | some cv =>
    refine wpAny_genexprCode_hit hcode (cd.code hPs ht) hf ?_
    exact cont cv s2.heap s2.toks ps (Heap.ExtBut.refl _ _) (Nat.le_refl _) hPs ⟨#[], by simp⟩ ht
end
end KG

set_option Elab.async false
set_option linter.all false
set_option maxRecDepth 100000
set_option maxHeartbeats 1000000
/-! ### defs with generator expressions: the reading of all(..) over a tuple -/
namespace KP
open PySem PySem.Spec PyProof.Rows L2 KX
/-- a def whose code object is known -/
structure FunC (K : PySem.W.Frag) (x qual : Str) (st : Stmt) (f : Addr) (fd : FuncData) (c : Addr) : Prop where
  ex : ∃ (oc : Value) (od : Option Addr) (kV doc pm : Value) (an : Option Addr) (ct : Value) (osl : Array (Option Value)),
    fd = PySem.W.fnOf x qual (defArgs st) (defBody st) (defScope st) .none kV doc pm an (.ref c) ct ∧ K.lookup f = some ⟨oc, od, .func fd, osl⟩ ∧ PySem.W.codeIn K (.ref c) qual = true
theorem FunC.ok {P : Program} {w : World} {K : PySem.W.Frag} {mg : Str → Option Value} {base : Heap} {x qual : Str} {st : Stmt} {f c : Addr} {fd : FuncData} {N ps : List Str} {k : Nat} {sp : Sp} (F : FunC K x qual st f fd c) (S : FnScope N ps (defScope st)) (len : ∀ {vs H Q E}, sp vs H Q E → vs.length = ps.length)
    (body : ∀ (A : Around) (outer : List Env) (s : Shared) (H : Hp) (vs : List V) (Q : VK) (E : XK), Room k (A.deeper (envOfC qual (defScope st) s.heap.objs.size f (.ref c))) → sp vs H Q E →
      ∃ t, PSs (cxOf CX0 P w K mg base N qual (defScope st) f (.ref c) A outer s H E).nox (defBody st) t ∧ t { nx := fun _ H' => Q .non H', rt := Q } (start N vs) H) : FnOk P w K mg base CX0 (k + 1) f fd ps sp := by
  obtain ⟨oc, od, kV, doc, pm, an, ct, osl, rfl, lk, hcd⟩ := F.ex
  exact fn_of lk hcd S (fun _ _ _ _ h => len h) fun A outer s H vs Q E hr hsp => let ⟨t, h, q⟩ := body A outer s H vs Q E hr hsp; ⟨t, h.nox, q⟩
theorem all_get {H : Hp} : ∀ {xs : List V} {ds : List PyData} {i : Nat} {x : V}, ThAll H xs ds → xs[i]? = some x → ∃ d, ds[i]? = some d ∧ Th H x d
  | _, _, 0, _, .cons h _, e => by
    cases e
    exact ⟨_, rfl, h⟩
  | _ :: _, _ :: _, _ + 1, _, .cons _ t, e => by
    obtain ⟨d, h1, h2⟩ := all_get t (show _ = _ from (List.getElem?_cons_succ ▸ e))
    exact ⟨d, by rw [List.getElem?_cons_succ]; exact h1, h2⟩
theorem ThAll.mono {H H' : Hp} (s : Sm H H') : ∀ {xs : List V} {ds : List PyData}, ThAll H xs ds → ThAll H' xs ds
  | _, _, .nil => .nil
  | _, _, .cons a b => .cons (a.mono s) (ThAll.mono s b)
/-- the tables stand -/
def Tbs (Ps : List Addr) (H : Hp) : Prop := ∀ P ∈ Ps, GxR.TabG H P
structure Grown (Ps : List Addr) (H H' : Hp) : Prop where
  sm : Sm H H'
  tbs : Tbs Ps H'
theorem Grown.trans {Ps : List Addr} {H H1 H2 : Hp} (a : Grown Ps H H1) (b : Grown Ps H1 H2) : Grown Ps H H2 := ⟨a.sm.trans b.sm, b.tbs⟩
theorem Grown.same {Ps : List Addr} {H H1 : Hp} (a : Same H H1) (t : Tbs Ps H) : Grown Ps H H1 := ⟨Sm.same a, fun P hP => let ⟨ps, e, k⟩ := t P hP; ⟨ps, a _ _ e, k⟩⟩
theorem Grown.tabbed {Ps : List Addr} {P : Addr} {H H1 : Hp} (a : GxR.Tabbed P H H1) (t : Tbs Ps H) (hP : P ∈ Ps) : Grown Ps H H1 := by
  obtain ⟨ps, e, _⟩ := t P hP
  refine ⟨fun b u eb n => ?_, fun R hR => ?_⟩
  · rw [a.2 b fun z => by rw [z, e] at eb; exact n ps (Option.some.inj eb).symm]
    exact eb
  · by_cases z : R = P
    · rw [z]; exact a.1
    · obtain ⟨qs, e2, k2⟩ := t R hR
      exact ⟨qs, (a.2 R z).trans e2, k2⟩
theorem all_vi {K : PySem.W.Frag} {Ps : List Addr} {P a : Addr} {i0 j : Nat} {te : TE} {vs : List Nat} {σ : L2.St} {H : Hp} {Q : VK} {xs : List V} {ds : List PyData} {pd : PyData → Bool} (h0 : σ[i0]? = some (some (.ref a))) (hx : Rd H a (.tup xs)) (hd : ThAll H xs ds) (ht : Tbs Ps H) (hP : P ∈ Ps)
    (hw : ∀ x : V, wipe ((wipe σ vs).set j (some x)) vs = wipe σ vs) (he : ∀ H2 x d, Th H2 x d → Vi te ((wipe σ vs).set j (some x)) H2 (.bl (pd d))) (q : ∀ H2, Grown Ps H H2 → Q (.bl (ds.all pd)) H2) : KG.tAllG P (iTup K (tVar i0)) (gName j) te vs σ H Q := by
  refine ⟨_, h0, a, rfl, ⟨xs, SqT.of hx⟩, ht P hP, fun H2 hT => ?_⟩
  have gr := Grown.tabbed hT ht hP
  have hx2 : Rd H2 a (.tup xs) := gr.sm.rd hx
  have hl := all2 hd
  refine ⟨fun i m H' => H' = H2 ∧ i ≤ xs.length ∧ m = xs.length - i ∧ (ds.take i).all pd = true, ⟨_, rfl, Nat.zero_le _, rfl, rfl⟩, ?_⟩
  rintro i m H' ⟨rfl, hi, rfl, hall⟩
  by_cases c : i < xs.length
  · refine .inr ⟨⟨xs, xs[i], SqT.of hx2, by simp [c]⟩, fun x H3 ⟨e, hy⟩ => ?_⟩
    subst e
    have hxi := hy xs (SqT.of hx2)
    obtain ⟨d, hdi, hth⟩ := all_get hd hxi
    refine ⟨hw x, he _ x d (hth.mono gr.sm) _ ?_⟩
    cases hp : pd d with
    | true =>
      refine .inl ⟨rfl, xs.length - (i + 1), by omega, rfl, c, rfl, ?_⟩
      rw [List.take_add_one, hdi, List.all_append, hall]
      simp [hp]
    | false =>
      refine .inr ⟨rfl, ?_⟩
      have e : ds.all pd = false := by
        rw [Bool.eq_false_iff]
        intro z
        have := List.all_eq_true.mp z d (List.mem_of_getElem? hdi)
        rw [hp] at this
        cases this
      rw [← e]
      exact q _ gr
  · refine .inl ⟨⟨xs, SqT.of hx2, by omega⟩, ?_⟩
    have e : ds.take i = ds := List.take_of_length_le (by omega)
    rw [e] at hall
    rw [← hall]
    exact q _ gr
end KP

set_option Elab.async false
set_option linter.all false
set_option maxRecDepth 100000
set_option maxHeartbeats 1000000
/-! ### tanks -/
namespace KP
open PySem PySem.Spec PyProof.Rows L2 KX
def itms : PyData → List PyData
  | .tuple ds => ds
  | _ => []
def ltI : PyData → PyData → Bool
  | .int i, .int j => decide (i < j)
  | _, _ => false
def ascB (ds : List PyData) : Bool := (List.range (ds.length - 1)).all fun i => ltI (ds.getD i .none) (ds.getD (i + 1) .none)
def areT (m : Int) (d : PyData) : Bool := decide (tyN d = "tuple") && (decide (1 ≤ (lenT d : Int)) && decide ((lenT d : Int) ≤ m)) && ((itms d).all (fun e => isW e 0 (m - 1)) && ascB (itms d))
def spTanks (Ps : List Addr) : Sp := fun vs H Q _ => ∃ x d m, vs = [x, .int m] ∧ Th H x d ∧ Tbs Ps H ∧ m ≤ 1000 ∧ ∀ H', Grown Ps H H' → Q (.bl (areT m d)) H'
theorem walk_zipT {K : PySem.W.Frag} {a b : Addr} {xs ys : List V} {n : Nat} (hn : n = min xs.length ys.length) : Walk (RZ.ItzT K a b) n (fun H => SqT K H a xs ∧ SqT K H b ys) (YPair (fun i => xs[i]?) (fun i => ys[i]?)) := by
  subst hn
  refine ⟨fun i H hi q => ?_, fun H q => ⟨xs, ys, q.1, q.2, by omega⟩, fun i H v H' _ q y => ?_⟩
  · exact ⟨xs, ys, xs[i]'(by omega), ys[i]'(by omega), q.1, q.2, List.getElem?_eq_getElem _, List.getElem?_eq_getElem _⟩
  · obtain ⟨T, x, z, h1, h2, h3, h4, h5⟩ := y
    exact ⟨T, x, z, h1, h2, h3, h4 _ (q.1), h5 _ (q.2)⟩
theorem i_guardE {te : TE} {tz : TS} {D : Ends} {σ : L2.St} {H : Hp} (h : te σ H (fun x H1 => ∃ c, x = .bl c ∧ (if (!c) = true then D.rt (.bl false) H1 else tz D σ H1))) : tSeq (tIfS (tNot (tB te)) (tRet (tC (.bl false))) tNext) tz D σ H := h
theorem vi_chain {σ : L2.St} {H : Hp} {r r' : R2} {ta tb tc : TE} {x y z : V} {a b : Bool} (ha : Vi ta σ H x) (hb : Vi tb σ H y) (h1 : ∀ Q : VK, Q (.bl a) H → r x y H Q) (hc : a = true → Vi tc σ H z) (h2 : a = true → ∀ Q : VK, Q (.bl b) H → r' y z H Q) : Vi (tChain r r' ta tb tc) σ H (.bl (a && b)) :=
  fun Q q => ha _ (hb _ (h1 _ ⟨a, rfl, by
    cases a with
    | true => rw [if_pos rfl]; exact hc rfl _ (h2 rfl _ (by simpa using q))
    | false => rw [if_neg Bool.false_ne_true]; simpa using q⟩))
theorem same_upd {H : Hp} {p : Addr} {o : HO} (hp : H p = none) : Same H (upd H p o) := fun b u e => by
  rw [upd_ne (ne_of_none e hp)]
  exact e
theorem sIx_one {n : Nat} (h : 1 ≤ n) : HT.sIx n 0 (some 1) = 1 := by
  have := HT.sIx_nat n 0 1
  rw [Nat.min_eq_left h] at this
  exact this
theorem cut_one {xs : List V} (h : 1 ≤ xs.length) : cutV xs (some 1) none = xs.drop 1 := by
  unfold cutV
  rw [sIx_one h]
  exact List.take_of_length_le (by rw [List.length_drop]; exact Nat.le_refl _)
section
variable {P : Program} {w : World} {K : PySem.W.Frag} {mg : Str → Option Value} {base : Heap}
theorem scTanks : FnScope ["tanks", "many", "tank", "one", "two"] ["tanks", "many"] (defScope sTanks) := ⟨rfl, rfl, rfl, by decide +kernel, rfl, by decide +kernel, by decide +kernel⟩
theorem ok_tanks {f fI c PT' : Addr} {fd fdI : FuncData} {Ps : List Addr} (F : FunC K "_are_tanks" "_are_tanks" sTanks f fd c) (T : TxT mg) (TB : GxR.TabB base mg c PT') (hP : PT' ∈ Ps) (FI : FnOk P w K mg base CX0 2 fI fdI ["value", "least", "most"] spWithin) (mI : mg "is_within" = some (.ref fI)) (kI : PySem.W.keepIn K (.ref fI) = true) (bI : Binds K fdI ["value", "least", "most"] []) :
    FnOk P w K mg base CX0 4 f fd ["tanks", "many"] (spTanks Ps) := by
  refine F.ok scTanks (fun {vs H Q E} h => ?_) (fun A outer s H vs Q E hr h => ?_)
  · obtain ⟨x, d, m, rfl, _⟩ := h
    rfl
  · obtain ⟨x, d, m, rfl, hx, ht, hlen, k⟩ := h
    refine ⟨_, pss_cons (ps_if (pw_or (pt_cmpR op_notTyB (pe_callTy call_type1 (by rfl) T.type (by decide +kernel) (pa_cons (pv 0) pa_nil)) (pe_bltn (v := .ty "tuple") (by rfl) T.tuple (by decide +kernel) rfl) (nomark _))
        (pw_or1 (pt_not (pt_chain op_le op_le pe_int (pe_callB call_len_seq (by rfl) T.len PySem.boot_len (pa_cons (pv 0) pa_nil)) (pv 1))))).pt (pss_one (ps_ret pe_bl)) pss_nil)
      (pss_cons (ps_if (pt_not (pt_val (KG.pe_allG (k := 2) (own := [("tank", 2)]) (g := gName 2) rfl scTanks.nd hr (by rfl) T.all (by decide +kernel) TB rfl ⟨blkOk_by (N := ["tanks", "many", "tank", "one", "two"]) (sc := defScope sTanks) (by decide +kernel), rfl, by decide +kernel, by decide +kernel⟩ (pi_tup (pv 0))
          (fun _ _ _ _ _ _ _ _ => pg_name (i := 2) scTanks.nd rfl (Or.inl rfl)) (fun _ _ _ _ _ _ _ _ hB => pe_call FI hB (by rfl) mI kI bI .nil pass0 (pa_cons (pv 2) (pa_cons pe_int (pa_cons (pe_op op_sub (pv 1) pe_int) pa_nil)))) (fun _ => rfl)))) (pss_one (ps_ret pe_bl)) pss_nil)
      (pss_one (ps_ret (pe_callB (cr_all rfl) (by rfl) T.all (by decide +kernel) (pa_cons (pe_lc (own := [("one", 3), ("two", 4)]) (g := gTup K 2 (gCons (gName 3) (gCons (gName 4) gNil))) (tt := tYes) rfl scTanks.nd (RZ.pi_zipA (by rfl) T.zip (pa_cons (pv 0) (pa_cons (pe_slice sl_tup (pv 0) (po_some pe_int) po_none) pa_nil)))
        (blkOk_by (N := ["tanks", "many", "tank", "one", "two"]) (sc := defScope sTanks) (by decide +kernel)) (fun _ _ _ _ _ => by exact pg_tup rfl (pgs_cons (pg_name (i := 3) scTanks.nd rfl (Or.inl rfl)) (pgs_cons (pg_name (i := 4) scTanks.nd rfl (Or.inl rfl)) pgs_nil))) (fun _ _ _ _ _ => pts_nil) (fun _ _ _ _ _ => pe_cmpR op_lt (pv 3) (pv 4) (nomark _))) pa_nil))))), ?_⟩
    have b1 : ∀ {σ : L2.St} {i0 i1 : Nat}, σ[i0]? = some (some x) → σ[i1]? = some (some (.int m)) → Ti (tOr (tTest (tOp rNT (tCB (rTyp K) (tCons (tVar i0) tNil)) (tC (.ty "tuple")))) (tNot (tTest (tChain (rI0 fun i j => .bl (decide (i ≤ j))) (rI0 fun i j => .bl (decide (i ≤ j))) (tC (.int 1)) (tCB (rLen K) (tCons (tVar i0) tNil)) (tVar i1))))) σ H
        (!decide (tyN d = "tuple") || !(decide (1 ≤ (lenT d : Int)) && decide ((lenT d : Int) ≤ m))) := fun e0 e1 =>
      ti_or (ti_notTup (vi_var e0) hx) fun z => ti_not (ti_test (vi_chain vi_c (vi_lenT (ai_cons (vi_var e0) ai_nil) hx (by simpa using z)) (fun Q q => ⟨_, _, rfl, rfl, q⟩) (fun _ => vi_var e1) (fun _ Q q => ⟨_, _, rfl, rfl, q⟩)))
    refine i_guard (b1 rfl rfl) (fun z => ?_) (fun z => ?_)
    · have e : areT m d = false := by
        unfold areT
        rw [Bool.or_eq_true, Bool.not_eq_true', Bool.not_eq_true'] at z
        rcases z with z | z <;> rw [z] <;> simp
      have := k H (Grown.same (Same.refl H) ht)
      rw [e] at this
      exact this
    rw [Bool.or_eq_false_iff, Bool.not_eq_false', Bool.not_eq_false'] at z
    obtain ⟨z1, z2⟩ := z
    obtain ⟨a, xs, ds, rfl, rfl, e, ha⟩ := tupOf hx (of_decide_eq_true z1)
    have e8 : areT m (.tuple ds) = (ds.all (fun e => isW e 0 (m - 1)) && ascB ds) := by
      unfold areT
      rw [z1, z2, Bool.true_and, Bool.true_and]
      rfl
    rw [e8] at k
    refine i_guardE (D := { nx := fun _ H' => Q .non H', rt := Q }) ?_
    refine all_vi (Ps := Ps) (pd := fun d => isW d 0 (m - 1)) rfl e ha ht hP (fun x => rfl) (fun H2 x d h => vi_call (ai_cons (vi_var rfl) (ai_cons vi_c (ai_cons (vi_op (vi_var rfl) vi_c fun Q q => ⟨_, _, rfl, rfl, q⟩) ai_nil))) fun Q q => spWithin_at h q) (fun H2 gr => ⟨_, rfl, ?_⟩)
    cases hall : ds.all (fun e => isW e 0 (m - 1)) with
    | false =>
      rw [hall] at k
      exact k _ gr
    | true =>
      rw [hall, Bool.true_and] at k
      rw [Bool.and_eq_true, decide_eq_true_eq, decide_eq_true_eq] at z2
      have e2 : Rd H2 a (.tup xs) := gr.sm.rd e
      have hl := all2 ha
      have n1 : 1 ≤ xs.length := by
        have := z2.1
        simp only [lenT] at this
        omega
      have hln : xs.length ≤ 2000 := by
        have := z2.2
        simp only [lenT] at this
        omega
      have isI : ∀ {i : Nat} {x : V}, xs[i]? = some x → ∃ j, x = .int j ∧ ds.getD i .none = .int j := fun {i x} hxi => by
        obtain ⟨d, hdi, hth⟩ := all_get ha hxi
        obtain ⟨j, rfl, rfl⟩ := isW_int hth (List.all_eq_true.mp hall d (List.mem_of_getElem? hdi))
        exact ⟨j, rfl, by rw [List.getD_eq_getElem?_getD, hdi]; rfl⟩
      refine ⟨_, rfl, _, rfl, _, rfl, a, xs, rfl, SqT.of e2, fun z => ?_, fun p hp => ?_⟩
      · have := z.1
        rw [sIx_one n1] at this
        cases this
      rw [cut_one n1]
      have sp := same_upd (o := .tup (xs.drop 1)) hp
      refine ⟨a, p, xs, xs.drop 1, rfl, .inr ⟨SqT.of (sp.rd e2), SqT.of upd_same, fun D hD => ?_⟩⟩
      refine lc_it (walk_zipT (K := K) (a := a) (b := p) (xs := xs) (ys := xs.drop 1) (n := xs.length - 1) (by rw [List.length_drop]; omega)) (fun n H' => Same (upd H2 p (.tup (xs.drop 1))) H' ∧ H' D = some (.lst ((List.range n).map fun i => V.bl (ltI (ds.getD i .none) (ds.getD (i + 1) .none))))) ⟨same_upd hD, upd_same⟩
        (fun n H' _ z => ⟨SqT.of (z.1.rd (sp.rd e2)), SqT.of (z.1 _ _ upd_same)⟩) ?_ ?_
      · rintro i x H' H'' hi ⟨s7, hD'⟩ ⟨U, x1, y1, rfl, hU, rfl, hx1, hy1⟩
        have hy2 : xs[i + 1]? = some y1 := by
          rw [← hy1]
          show _ = (xs.drop 1)[i]?
          rw [List.getElem?_drop, Nat.add_comm]
        obtain ⟨i1, rfl, g1⟩ := isI hx1
        obtain ⟨j1, rfl, g2⟩ := isI hy2
        have sU := same_upd (o := .tup [V.int i1, .int j1]) hU
        refine ⟨U, _, rfl, SqT.of upd_same, rfl, _, _, rfl, _, _, rfl, rfl, rfl, ?_⟩
        dsimp only [tYes]
        rw [if_pos rfl]
        refine ⟨_, rfl, _, rfl, _, _, rfl, rfl, _, sU _ _ hD', ?_, fun b o eb => ?_, ?_⟩
        · rw [List.length_map, List.length_range]
          exact Nat.lt_of_le_of_lt (show i ≤ 2000 by omega) (by decide)
        · have nb : b ≠ D := fun z => by
            rw [z, hD] at eb
            cases eb
          rw [upd_ne nb]
          exact sU _ _ (s7 _ _ eb)
        · rw [upd_same, List.range_succ, List.map_append, List.map_cons, List.map_nil, g1, g2]
          rfl
      · rintro H' ⟨s7, hD'⟩
        refine ⟨D, (List.range (xs.length - 1)).map fun i => ltI (ds.getD i .none) (ds.getD (i + 1) .none), rfl, SqL.of ?_, ?_⟩
        · rw [hD', List.map_map]
          rfl
        · have e3 : ((List.range (xs.length - 1)).map fun i => ltI (ds.getD i .none) (ds.getD (i + 1) .none)).all id = ascB ds := by
            rw [List.all_map, hl]
            rfl
          rw [e3]
          exact k _ (gr.trans (Grown.same (sp.trans s7) gr.tbs))
end
end KP

set_option Elab.async false
set_option linter.all false
set_option maxRecDepth 100000
set_option maxHeartbeats 1000000
/-! ### enumerate(tuple); x in tuple of data -/
namespace KT
open PySem PySem.Spec PyProof.Rows L2
theorem meets_enumB {v : Value} {o : Obj} {H : Heap → Prop} (B : Begins v o H) :
    Meets (Builtin.«enumerate.__new__» ⟨[.type "enumerate", v], []⟩) (fun _ R s => H s.heap ∧
      R (.ok (.ret (.ref (s.heap.push o).objs.size))) { s with heap := (s.heap.push o).push { cls := .type "enumerate", data := .fields #[.none, .bool false, .ref s.heap.objs.size, rawInt 0, .none, .none] } }) :=
  .of_wp fun prog w A R s h => by
    obtain ⟨hp, g, d, tk, os⟩ := s
    obtain ⟨h1, h⟩ := h
    have hsub := sub_enumerate
    have q1 : ∀ {A' : Around} {E : Value → Shared → Prop} {Q : Value → Shared → Prop}, Q (.ref hp.objs.size) ⟨hp.push o, g, d, tk, os⟩ → wpAny (model prog w) A' (pyIter v) Q E ⟨hp, g, d, tk, os⟩ :=
      fun q => B.iter prog w _ _ ⟨hp, g, d, tk, os⟩ _ h1 q
    wp_walk using q1
    refine wpAny_stack_any fun st => wpAny_pure ?_
    split
    · rename_i c _ _ _ _ _
      cases (c == Value.type "enumerate")
      · wp_walk using q1
        exact ⟨_, rfl, h⟩
      · wp_walk using q1
        exact ⟨_, rfl, h⟩
    · wp_walk using q1
      exact ⟨_, rfl, h⟩
theorem call_enumB {prog : Program} {w : World} {A : Around} {E : Value → Shared → Prop} {s : Shared} {v : Value} {o : Obj} {H : Heap → Prop} {Q : Value → Shared → Prop} (B : Begins v o H) (h1 : H s.heap)
    (h : ∀ h', IsEnum h' (s.heap.objs.size + 1) s.heap.objs.size 0 .none → h'.get? s.heap.objs.size = some o → (∀ b o, s.heap.get? b = some o → h'.get? b = some o) → Q (.ref (s.heap.objs.size + 1)) { s with heap := h' }) :
    wpAny (model prog w) A (call (.type "enumerate") [v]) Q E s := by
  refine callType_new F.called_enumerate (by decide) (F.typeCall_enumerate_1 _) (F.newCall_enumerate_1 _) (fun obj => F.args_object_init_2 obj _) F.entry_enumerate_new (meets_enumB B) ⟨h1, ?_⟩
  have hz : (s.heap.push o).objs.size = s.heap.objs.size + 1 := Heap.size_push ..
  show _ ∧ _
  rw [hz]
  have he : IsEnum ((s.heap.push o).push { cls := .type "enumerate", data := .fields #[.none, .bool false, .ref s.heap.objs.size, rawInt 0, .none, .none] }) (s.heap.objs.size + 1) s.heap.objs.size 0 .none := by
    have := Heap.get?_push_size (s.heap.push o) (o := { cls := .type "enumerate", data := .fields #[.none, .bool false, .ref s.heap.objs.size, rawInt 0, .none, .none] }) rfl
    rw [hz] at this
    exact this
  exact ⟨⟨_, he, rfl⟩, h _ he (Heap.get?_push_of_some _ (Heap.get?_push_size _ B.free)) fun b o x => Heap.get?_push_of_some _ (Heap.get?_push_of_some _ x)⟩
def IteT (K : PySem.W.Frag) (a : Addr) : It :=
  ⟨fun i H => ∃ (xs : List V) (x : V), SqT K H a xs ∧ xs[i]? = some x, fun i H v H' => ∃ T x, v = .ref T ∧ H T = none ∧ H' = upd H T (.tup [.int (i : Nat), x]) ∧ ∀ xs, SqT K H a xs → xs[i]? = some x, fun i H => ∃ xs : List V, SqT K H a xs ∧ xs.length = i⟩
theorem turn_enumT {P : Program} {w : World} {K : PySem.W.Frag} {elts : List Expr} {kk : Nat} {tpos : Pos} (a e it : Addr) :
    Turn P w K (.Tuple elts kk tpos) (IteT K a) [e, it] e (fun i h => (∃ old, IsEnum h e it ((i : Nat) : Int) old) ∧ h.IsTupleIter it a i ∧ e ≠ it ∧ a ≠ it ∧ a ≠ e) where
  mem := by simp
  obj := fun i h st b hb => by
    obtain ⟨⟨old, he⟩, ⟨o, ho, hc, hd⟩, _⟩ := st
    have e' : b = e ∨ b = it := by simpa using hb
    rcases e' with z | z
    · rw [z]; exact ⟨_, he, fun v q => nomatch q⟩
    · rw [z]; exact ⟨o, ho, fun v q => by rw [hd] at q; cases q⟩
  keep := fun i h h' st k => let ⟨⟨old, he⟩, hi, hne⟩ := st; ⟨⟨old, k e (by simp) _ he⟩, hi.at fun o q => k it (by simp) o q, hne⟩
  item := by
    intro X hP hw hK hc i pins s σ H E I hf st hg
    subst hP hw hK
    obtain ⟨⟨old, he⟩, hit, hne, hai, hae⟩ := st
    obtain ⟨xs, x, hq, hx⟩ := hg
    obtain ⟨its, rv, p, hz⟩ := I.tuple hq
    obtain ⟨u, hu, ru⟩ := rv.get hx
    have hel : e < s.heap.objs.size := Heap.lt_size he
    have hil : it < s.heap.objs.size := by obtain ⟨_, q, _⟩ := hit; exact Heap.lt_size q
    have hi : i < its.toArray.size := by
      have := (List.getElem?_eq_some_iff.mp hu).1
      simpa using this
    refine wpAny_pyNext_enum_itemD (Draws.tuple (A := X.A.in1) (I.ok.hd hc) it a hai its.toArray) he ⟨hit, p⟩ hi hne (by simp [hne, Ne.symm hae]) fun y h' tk hy ho hst hT hsz hk => ?_
    obtain rfl : u = y := by
      have : its[i]? = some y := by simpa using hy
      rw [hu] at this
      exact Option.some.inj this
    refine ⟨_, rfl, wpAny_letOwnedTupleGo_enum (s := { s with heap := h', toks := tk + 1 }) ho fun h'' he' sb => ?_⟩
    have hT2 : h''.get? s.heap.objs.size = some { cls := .type "tuple", data := .seq #[.int i tk, u] } := (sb.2 _ (Nat.ne_of_gt hel)).trans hT
    have new : ObjOk X.prog X.w (upd H s.heap.objs.size (.tup [.int (i : Nat), x])) h'' s.heap.objs.size (.tup [.int (i : Nat), x]) :=
      ⟨by show 2 ≤ sizeLine; decide, [.int i tk, u], .cons ⟨_, rfl⟩ (.cons ru .nil), ⟨_, hT2, rfl, _, rfl⟩⟩
    have I1 : Inv X pins σ (upd H s.heap.objs.size (.tup [.int (i : Nat), x])) { s with heap := h'', toks := tk + 1 } :=
      I.turnedNew (ch := [e, it]) (fun b ob hb q => (sb.2 b (fun z => hb (by simp [z]))).trans (hk b ob (fun z => hb (by simp [z])) (fun z => hb (by simp [z])) q)) hf (Nat.le_refl _) new
    refine ⟨.ref s.heap.objs.size, _, I1, rfl, ⟨_, x, rfl, I.hok.fresh (Nat.le_refl _), rfl, fun ys hy => by rw [I.tuple_inj hy hq]; exact hx⟩, ⟨⟨u, ?_⟩, hst.1.at fun o q => (sb.2 it (Ne.symm hne)).trans q, hne, hai, hae⟩, fun b hb => ?_⟩
    · have e1 : ((i + 1 : Nat) : Int) = (i : Int) + 1 := by omega
      rw [e1]; exact he'
    · have hb' : b < s.heap.objs.size := by
        have e' : b = e ∨ b = it := by simpa using hb
        rcases e' with z | z
        · rw [z]; exact hel
        · rw [z]; exact hil
      rw [upd_ne (Nat.ne_of_lt hb')]
      exact (hf b hb).1
  done := by
    intro X hP hw hK hc i pins s σ H E I hf st hg
    subst hP hw hK
    obtain ⟨⟨old, he⟩, hit, hne, hai, hae⟩ := st
    obtain ⟨xs, hq, hx⟩ := hg
    obtain ⟨its, rv, p, hz⟩ := I.tuple hq
    obtain ⟨f0, f1, f2, f3, f4, f5⟩ := hf it (by simp)
    have hl := rv.length
    have e1 : i = its.toArray.size := by simp; omega
    subst e1
    exact wpAny_pyNext_enum_endD (Draws.tuple (A := X.A.in1) (I.ok.hd hc) it a hai its.toArray) he ⟨hit, p⟩ fun h' eb => ⟨rfl, I.turned (t' := s.toks) (fun b o hb q => eb b o hb q) f0 f1 f3 f4 f5⟩
  self := fun A i s Q E st h => let ⟨⟨_, he⟩, _⟩ := st; wpAny_pyIter_enum he h
def iEnumT (K : PySem.W.Frag) (ta : TA) : TI := fun σ H R => ta σ H fun vs H1 => ∃ a xs, vs = [.ref a] ∧ SqT K H1 a xs ∧ R (IteT K a) H1
theorem pi_enumT {X : Cx} {e : Expr} {ta : TA} {p pos tpos : Pos} {elts : List Expr} {kk : Nat} (hg : Gl X "enumerate") (hm : X.mg "enumerate" = none) (ha : PA X [e] ta) (hs : starEach [e] X.env = [(false, eval e X.env)] := by rfl) :
    PI X (.Tuple elts kk tpos) (.Call (.Name "enumerate" p) [e] [] pos) (iEnumT X.K ta) := by
  refine ⟨fun pins s σ H R I h => ?_⟩
  refine Call_ (ld_blt I hg hm boot_enumerate (PyProof.Rows.callWith_type1 (thn (ha.run pos pins s σ H _ I h) fun us s1 ⟨vs, H1, I1, r1, q1⟩ => ?_) hs rfl))
  obtain ⟨a, xs, ex, hq, q⟩ := q1
  subst ex
  cases r1 with
  | cons r rr =>
    cases rr
    cases r
    obtain ⟨its, rv, p', hz⟩ := I1.tuple hq
    have hp : s1.heap.IsTuple a its.toArray := p'
    have hal : a < s1.heap.objs.size := by
      obtain ⟨o, e, _⟩ := hp
      exact Heap.lt_size e
    refine call_enumB (begins_tuple a its.toArray) hp fun h' he ho hk => wpAny_pyIter_enum he ?_
    have I2 : Inv X pins σ H1 { s1 with heap := h' } := I1.kept (t' := s1.toks) hk
    refine ⟨s1.heap.objs.size + 1, [s1.heap.objs.size + 1, s1.heap.objs.size], _, _, H1, rfl, I2, turn_enumT a (s1.heap.objs.size + 1) s1.heap.objs.size, ⟨⟨.none, he⟩, ⟨_, ho, rfl, rfl⟩, Nat.succ_ne_self _, Nat.ne_of_lt hal, Nat.ne_of_lt (Nat.lt_succ_of_lt hal)⟩, fun b hb => ?_, q⟩
    have e' : b = s1.heap.objs.size + 1 ∨ b = s1.heap.objs.size := by simpa using hb
    have hle : s1.heap.objs.size ≤ b := by
      rcases e' with z | z
      · rw [z]; exact Nat.le_add_right _ _
      · rw [z]; exact Nat.le_refl _
    exact I1.fpOk hle (I1.hok.fresh hle)
theorem walk_enumT {K : PySem.W.Frag} {a : Addr} {xs : List V} : Walk (IteT K a) xs.length (fun H => SqT K H a xs) (YPair (fun i => some (.int (i : Nat))) (fun i => xs[i]?)) := by
  refine ⟨fun i _ hi q => ⟨xs, xs[i], q, List.getElem?_eq_getElem _⟩, fun _ q => ⟨xs, q, rfl⟩, fun i H v H' _ q y => ?_⟩
  obtain ⟨T, x, h1, h2, h3, h4⟩ := y
  exact ⟨T, .int (i : Nat), x, h1, h2, h3, rfl, h4 xs q⟩
/-- x in t, x not in t: t a tuple of data -/
def rInT (K : PySem.W.Frag) : R2 := fun x y H Q => ∃ d ds, Dp K H x d ∧ Dp K H y (.tuple ds) ∧ SeqAt.shaped d = true ∧ SeqAt.shaped (.tuple ds) = true ∧ Q (.bl (ds.any fun z => PyData.eqv z d)) H
def rNotInT (K : PySem.W.Frag) : R2 := fun x y H Q => ∃ d ds, Dp K H x d ∧ Dp K H y (.tuple ds) ∧ SeqAt.shaped d = true ∧ SeqAt.shaped (.tuple ds) = true ∧ Q (.bl (!ds.any fun z => PyData.eqv z d)) H
theorem op_inT {X : Cx} (hu : X.A.units + 65 < cLine) : OpR X (compareOp .In) (rInT X.K) := fun pins s σ H x y v u Q I rx ry ⟨d, ds, hd, he, sd, se, q⟩ => by
  obtain ⟨as, r1⟩ := Dp.reads I d x v hd rx
  obtain ⟨bs, r2⟩ := Dp.reads I (.tuple ds) y u he ry
  exact SeqAt.in_tuple_reads r2 r1 (SeqAt.canLay_of_shaped se) (SeqAt.canLay_of_shaped sd) (room_in_shaped sd hu) ⟨.bl _, H, I, rfl, q⟩
theorem op_notInT {X : Cx} (hu : X.A.units + 65 < cLine) : OpR X (compareOp .NotIn) (rNotInT X.K) := fun pins s σ H x y v u Q I rx ry ⟨d, ds, hd, he, sd, se, q⟩ => by
  obtain ⟨as, r1⟩ := Dp.reads I d x v hd rx
  obtain ⟨bs, r2⟩ := Dp.reads I (.tuple ds) y u he ry
  exact SeqAt.notIn_tuple_reads r2 r1 (SeqAt.canLay_of_shaped se) (SeqAt.canLay_of_shaped sd) (room_in_shaped sd hu) ⟨.bl _, H, I, rfl, q⟩
end KT

set_option Elab.async false
set_option linter.all false
set_option maxRecDepth 100000
set_option maxHeartbeats 1000000
/-! ### pipes, all of them -/
namespace KP
open PySem PySem.Spec PyProof.Rows L2 KX KT
def distB (ds : List PyData) : Bool := (List.range ds.length).all fun i => !((ds.take i).any fun z => PyData.eqv z (ds.getD i .none))
def areP (m u : Int) (d : PyData) : Bool := decide (tyN d = "tuple") && !decide ((12 : Int) < (lenT d : Int)) && ((itms d).all (isPipe m u) && distB (itms d))
def spPipes (Ps : List Addr) : Sp := fun vs H Q _ => ∃ x d m u, vs = [x, .int m, .int u] ∧ Th H x d ∧ Tbs Ps H ∧ ∀ H', Grown Ps H H' → Q (.bl (areP m u d)) H'
theorem Th.dp {K : PySem.W.Frag} {H : Hp} {v : V} {d : PyData} (h : Th H v d) : d.hasDict = false → Dp K H v d := by
  refine Th.rec (motive_1 := fun v d _ => d.hasDict = false → Dp K H v d) (motive_2 := fun vs ds _ => PyData.hasDictAll ds = false → DpAll K H vs ds) (fun _ => .non) (fun b _ => .bl b) (fun i _ => .int i) (fun x _ => .str x)
    (fun q _ ih z => .lst (SqL.of q) (ih (by simpa [PyData.hasDict] using z))) (fun q _ ih z => .tup (SqT.of q) (ih (by simpa [PyData.hasDict] using z))) (fun q z => by simp [PyData.hasDict] at z) (fun _ => .nil) (fun _ _ a b z => ?_) h
  simp only [PyData.hasDictAll, Bool.or_eq_false_iff] at z
  exact .cons (a z.1) (b z.2)
theorem shp_data {n : Nat} {d : PyData} (z : shp n d = true) : ∃ ds, d = .tuple ds ∧ ds.length = n := by
  unfold shp at z
  rw [Bool.and_eq_true, decide_eq_true_eq, decide_eq_true_eq] at z
  cases d with
  | tuple ds => exact ⟨ds, rfl, z.2⟩
  | _ => exact absurd z.1 (by simp [tyN])
theorem isW_data {d : PyData} {lo hi : Int} (z : isW d lo hi = true) : ∃ i, d = .int i := by
  cases d with
  | int i => exact ⟨i, rfl⟩
  | _ => simp [isW] at z
/-- flat data: two signs of kinds -/
def Flat (d : PyData) : Prop := d.canLay0 = true ∧ d.depth ≤ 2 ∧ d.hasDict = false
theorem share_flat {u : Int} {d : PyData} (z : isShare u d = true) : (∃ i, d = .tuple [.str "x", .int i]) ∨ ∃ i j, d = .tuple [.int i, .int j] := by
  unfold isShare at z
  rw [Bool.and_eq_true] at z
  obtain ⟨ds, rfl, hl⟩ := shp_data z.1
  obtain ⟨a, b, rfl⟩ := len2 hl
  have z2 := z.2
  have e0 : ith 0 (.tuple [a, b]) = a := rfl
  have e1 : ith 1 (.tuple [a, b]) = b := rfl
  rw [e0, e1] at z2
  by_cases c : tyN a = "str"
  · rw [if_pos c, Bool.and_eq_true] at z2
    obtain ⟨i, rfl⟩ := isW_data z2.2
    cases a with
    | str s =>
      have e : s = "x" := of_decide_eq_true z2.1
      rw [e]
      exact .inl ⟨i, rfl⟩
    | _ => exact absurd c (by simp [tyN])
  · rw [if_neg c] at z2
    unfold isTold isR at z2
    simp only [Bool.and_eq_true] at z2
    have z3 := z2.1.2
    rw [e0, e1] at z3
    cases a with
    | int i =>
      cases b with
      | int j => exact .inr ⟨i, j, rfl⟩
      | _ => simp [ratio2] at z3
    | _ => cases b <;> simp [ratio2] at z3
theorem pipe_flat {m u : Int} {d : PyData} (z : isPipe m u d = true) : Flat d := by
  unfold isPipe at z
  rw [Bool.and_eq_true] at z
  obtain ⟨ds, rfl, hl⟩ := shp_data z.1
  obtain ⟨a, b, c, rfl⟩ := len3 hl
  have z2 := z.2
  rw [show ith 0 (.tuple [a, b, c]) = a from rfl, show ith 1 (.tuple [a, b, c]) = b from rfl, show ith 2 (.tuple [a, b, c]) = c from rfl] at z2
  simp only [Bool.and_eq_true, Bool.not_eq_true', Bool.or_eq_false_iff, Bool.not_eq_false', Bool.or_eq_true] at z2
  obtain ⟨⟨h1, h2⟩, h3⟩ := z2
  obtain ⟨i, rfl⟩ := isW_data h1
  have hb : b = .none ∨ ∃ j, b = .int j := by
    rcases h3 with h3 | h3
    · cases b with
      | none => exact .inl rfl
      | _ => simp [isNon] at h3
    · exact .inr (isW_data h3.1)
  have ok : PyData.strOk "x" = true := by decide +kernel
  rcases share_flat h2 with ⟨j, rfl⟩ | ⟨j, k, rfl⟩ <;> rcases hb with rfl | ⟨l, rfl⟩ <;>
    exact ⟨by simp [PyData.canLay0, PyData.canLayAll0, ok], by simp [PyData.depth, PyData.depthAll], by simp [PyData.hasDict, PyData.hasDictAll]⟩
theorem flat_all : ∀ {ds : List PyData}, (∀ d ∈ ds, Flat d) → PyData.canLayAll0 ds = true ∧ PyData.depthAll ds ≤ 2 ∧ PyData.hasDictAll ds = false
  | [], _ => by simp [PyData.canLayAll0, PyData.depthAll, PyData.hasDictAll]
  | d :: ds, h => by
    obtain ⟨a, b, c⟩ := h d List.mem_cons_self
    obtain ⟨a', b', c'⟩ := flat_all (ds := ds) fun e he => h e (List.mem_cons_of_mem _ he)
    refine ⟨by simp [PyData.canLayAll0, a, a'], ?_, by simp [PyData.hasDictAll, c, c']⟩
    simp only [PyData.depthAll]
    omega
theorem shaped_of {d : PyData} (a : d.canLay0 = true) (b : d.depth ≤ 64) : SeqAt.shaped d = true := by
  show (d.canLay0 && decide (d.depth ≤ 64)) = true
  rw [a, decide_eq_true b]
  rfl
theorem flat_shaped {ds : List PyData} (h : ∀ d ∈ ds, Flat d) : SeqAt.shaped (.tuple ds) = true ∧ (PyData.tuple ds).hasDict = false := by
  obtain ⟨a, b, c⟩ := flat_all h
  refine ⟨shaped_of (by simpa [PyData.canLay0] using a) ?_, by simpa [PyData.hasDict] using c⟩
  simp only [PyData.depth]
  omega
end KP

set_option Elab.async false
set_option linter.all false
set_option maxRecDepth 100000
set_option maxHeartbeats 1000000
namespace KP
open PySem PySem.Spec PyProof.Rows L2 KX KT
theorem sIx_nat0 {n i : Nat} (h : i ≤ n) (d : Nat) : HT.sIx n d (some (i : Int)) = i := by
  rw [HT.sIx_nat, Nat.min_eq_left h]
theorem cut_to {xs : List V} {i : Nat} (h : i ≤ xs.length) : cutV xs none (some (i : Int)) = xs.take i := by
  unfold cutV
  rw [sIx_nat0 h]
  rfl
theorem ThAll.take {H : Hp} : ∀ {xs : List V} {ds : List PyData} (i : Nat), ThAll H xs ds → ThAll H (xs.take i) (ds.take i)
  | _, _, 0, _ => by
    rw [List.take_zero, List.take_zero]
    exact .nil
  | _, _, _ + 1, .nil => .nil
  | _, _, i + 1, .cons a b => by
    rw [List.take_succ_cons, List.take_succ_cons]
    exact .cons a (ThAll.take i b)
section
variable {P : Program} {w : World} {K : PySem.W.Frag} {mg : Str → Option Value} {base : Heap}
theorem scPipes : FnScope ["pipes", "many", "unknowns", "pipe", "index"] ["pipes", "many", "unknowns"] (defScope sPipes) := ⟨rfl, rfl, rfl, by decide +kernel, rfl, by decide +kernel, by decide +kernel⟩
theorem ok_pipes {f fI c PT' : Addr} {fd fdI : FuncData} {Ps : List Addr} {uB : Value} (F : FunC K "_are_pipes" "_are_pipes" sPipes f fd c) (T : TxT mg) (TB : GxR.TabB base mg c PT') (hP : PT' ∈ Ps) (mB : mg "MOST_PIPES" = some uB) (rB : RelV (.int 12) uB)
    (FI : FnOk P w K mg base CX0 5 fI fdI ["pipe", "many", "unknowns"] spPipe) (mI : mg "_is_pipe" = some (.ref fI)) (kI : PySem.W.keepIn K (.ref fI) = true) (bI : Binds K fdI ["pipe", "many", "unknowns"] []) :
    FnOk P w K mg base CX0 7 f fd ["pipes", "many", "unknowns"] (spPipes Ps) := by
  refine F.ok scPipes (fun {vs H Q E} h => ?_) (fun A outer s H vs Q E hr h => ?_)
  · obtain ⟨x, d, m, u, rfl, _⟩ := h
    rfl
  · obtain ⟨x, d, m, u, rfl, hx, ht, k⟩ := h
    have hu : (A.deeper (envOfC "_are_pipes" (defScope sPipes) s.heap.objs.size f (.ref c))).units + 65 < cLine := by have := hr.un; omega
    refine ⟨_, pss_cons (ps_if (pw_or (pt_cmpR op_notTyB (pe_callTy call_type1 (by rfl) T.type (by decide +kernel) (pa_cons (pv 0) pa_nil)) (pe_bltn (v := .ty "tuple") (by rfl) T.tuple (by decide +kernel) rfl) (nomark _))
        (pw_or1 (pt_cmpR op_gt (pe_callB call_len_seq (by rfl) T.len PySem.boot_len (pa_cons (pv 0) pa_nil)) (pe_glob (by rfl) mB rB) (nomark _)))).pt (pss_one (ps_ret pe_bl)) pss_nil)
      (pss_cons (ps_if (pt_not (pt_val (KG.pe_allG (k := 5) (own := [("pipe", 3)]) (g := gName 3) rfl scPipes.nd hr (by rfl) T.all (by decide +kernel) TB rfl ⟨blkOk_by (N := ["pipes", "many", "unknowns", "pipe", "index"]) (sc := defScope sPipes) (by decide +kernel), rfl, by decide +kernel, by decide +kernel⟩ (pi_tup (pv 0))
          (fun _ _ _ _ _ _ _ _ => pg_name (i := 3) scPipes.nd rfl (Or.inl rfl)) (fun _ _ _ _ _ _ _ _ hB => pe_call FI hB (by rfl) mI kI bI .nil pass0 (pa_cons (pv 3) (pa_cons (pv 1) (pa_cons (pv 2) pa_nil)))) (fun _ => rfl)))) (pss_one (ps_ret pe_bl)) pss_nil)
      (pss_one (ps_ret (pe_callB (cr_all rfl) (by rfl) T.all (by decide +kernel) (pa_cons (pe_lc (own := [("index", 4), ("pipe", 3)]) (g := gTup K 2 (gCons (gName 4) (gCons (gName 3) gNil))) (tt := tYes) rfl scPipes.nd (pi_enumT (by rfl) T.enumerate (pa_cons (pv 0) pa_nil))
        (blkOk_by (N := ["pipes", "many", "unknowns", "pipe", "index"]) (sc := defScope sPipes) (by decide +kernel)) (fun _ _ _ _ _ => by exact pg_tup rfl (pgs_cons (pg_name (i := 4) scPipes.nd rfl (Or.inl rfl)) (pgs_cons (pg_name (i := 3) scPipes.nd rfl (Or.inl rfl)) pgs_nil))) (fun _ _ _ _ _ => pts_nil)
        (fun _ _ _ _ _ => pe_cmpR (r := rNotInT K) (by exact op_notInT hu) (pv 3) (pe_slice (r := rSlT K) (by exact sl_tup) (pv 0) po_none (po_some (pv 4))) (by rfl))) pa_nil))))), ?_⟩
    have b1 : ∀ {σ : L2.St} {i0 : Nat}, σ[i0]? = some (some x) → Ti (tOr (tTest (tOp rNT (tCB (rTyp K) (tCons (tVar i0) tNil)) (tC (.ty "tuple")))) (tTest (tOp (rI0 fun i j => .bl (decide (j < i))) (tCB (rLen K) (tCons (tVar i0) tNil)) (tC (.int 12))))) σ H
        (!decide (tyN d = "tuple") || decide ((12 : Int) < (lenT d : Int))) := fun e0 =>
      ti_or (ti_notTup (vi_var e0) hx) fun z => ti_test (vi_op (vi_lenT (ai_cons (vi_var e0) ai_nil) hx (by simpa using z)) vi_c fun Q q => ⟨_, _, rfl, rfl, q⟩)
    refine i_guard (b1 rfl) (fun z => ?_) (fun z => ?_)
    · have e : areP m u d = false := by
        unfold areP
        rw [Bool.or_eq_true, Bool.not_eq_true'] at z
        rcases z with z | z <;> rw [z] <;> simp
      have := k H (Grown.same (Same.refl H) ht)
      rw [e] at this
      exact this
    rw [Bool.or_eq_false_iff, Bool.not_eq_false'] at z
    obtain ⟨z1, z2⟩ := z
    obtain ⟨a, xs, ds, rfl, rfl, e, ha⟩ := tupOf hx (of_decide_eq_true z1)
    have e8 : areP m u (.tuple ds) = (ds.all (isPipe m u) && distB ds) := by
      unfold areP
      rw [z1, z2, Bool.true_and]
      rfl
    rw [e8] at k
    refine i_guardE (D := { nx := fun _ H' => Q .non H', rt := Q }) ?_
    refine all_vi (Ps := Ps) (pd := isPipe m u) rfl e ha ht hP (fun x => rfl) (fun H2 x d h => vi_call (ai_cons (vi_var rfl) (ai_cons (vi_var rfl) (ai_cons (vi_var rfl) ai_nil))) fun Q q => ⟨_, _, _, _, rfl, h, q⟩) (fun H2 gr => ⟨_, rfl, ?_⟩)
    cases hall : ds.all (isPipe m u) with
    | false =>
      rw [hall] at k
      exact k _ gr
    | true =>
      rw [hall, Bool.true_and] at k
      have z2 := of_decide_eq_false z2
      simp only [lenT] at z2
      have e2 : Rd H2 a (.tup xs) := gr.sm.rd e
      have ha2 := ThAll.mono gr.sm ha
      have hl := all2 ha
      have hfl : ∀ d ∈ ds, Flat d := fun d hd => pipe_flat (List.all_eq_true.mp hall d hd)
      refine ⟨_, rfl, a, xs, rfl, SqT.of e2, fun D hD => ?_⟩
      refine lc_it (walk_enumT (K := K) (a := a) (xs := xs)) (fun n H' => Same H2 H' ∧ H' D = some (.lst ((List.range n).map fun i => V.bl (!((ds.take i).any fun z => PyData.eqv z (ds.getD i .none)))))) ⟨same_upd hD, upd_same⟩
        (fun n H' _ z => SqT.of (z.1.rd e2)) ?_ ?_
      · rintro i x H' H'' hi ⟨s7, hD'⟩ ⟨U, x1, y1, rfl, hU, rfl, hx1, hy1⟩
        cases hx1
        obtain ⟨d, hdi, hth⟩ := all_get ha2 hy1
        have sU := same_upd (o := .tup [V.int (i : Nat), y1]) hU
        have s8 : Same H2 (upd H' U (.tup [V.int (i : Nat), y1])) := s7.trans sU
        refine ⟨U, _, rfl, SqT.of upd_same, rfl, _, _, rfl, _, _, rfl, rfl, rfl, ?_⟩
        dsimp only [tYes]
        rw [if_pos rfl]
        refine ⟨_, rfl, _, rfl, _, rfl, _, rfl, a, xs, rfl, SqT.of (s8.rd e2), fun z => ?_, fun p hp => ?_⟩
        · have := z.2
          rw [sIx_nat0 (Nat.le_of_lt hi)] at this
          omega
        rw [cut_to (Nat.le_of_lt hi)]
        have s9 := s8.trans (same_upd (o := .tup (xs.take i)) hp)
        have ed : ds.getD i .none = d := by rw [List.getD_eq_getElem?_getD, hdi]; rfl
        have hd : Flat d := hfl d (List.mem_of_getElem? hdi)
        have htk : ∀ e ∈ ds.take i, Flat e := fun e he => hfl e (List.mem_of_mem_take he)
        have t1 := flat_shaped htk
        refine ⟨d, ds.take i, Th.dp (hth.mono (Sm.same s9)) hd.2.2, Th.dp (.tup upd_same ((ThAll.mono (Sm.same s9) ha2).take i)) t1.2, shaped_of hd.1 (by have := hd.2.1; omega), t1.1, ?_⟩
        refine ⟨_, (sU.trans (same_upd hp)) _ _ hD', ?_, fun b o eb => ?_, ?_⟩
        · rw [List.length_map, List.length_range]
          exact Nat.lt_of_le_of_lt (show i ≤ 2000 by omega) (by decide)
        · have nb : b ≠ D := fun z => by
            rw [z, hD] at eb
            cases eb
          rw [upd_ne nb]
          exact s9 _ _ eb
        · rw [upd_same, List.range_succ, List.map_append, List.map_cons, List.map_nil, ed]
      · rintro H' ⟨s7, hD'⟩
        refine ⟨D, (List.range xs.length).map fun i => (!((ds.take i).any fun z => PyData.eqv z (ds.getD i .none))), rfl, SqL.of ?_, ?_⟩
        · rw [hD', List.map_map]
          rfl
        · have e3 : ((List.range xs.length).map fun i => (!((ds.take i).any fun z => PyData.eqv z (ds.getD i .none)))).all id = distB ds := by
            rw [List.all_map, hl]
            rfl
          rw [e3]
          exact k _ (gr.trans (Grown.same s7 gr.tbs))
end
end KP

set_option Elab.async false
set_option linter.all false
set_option maxRecDepth 100000
set_option maxHeartbeats 1000000
/-! ### is_net -/
namespace KP
open PySem PySem.Spec PyProof.Rows L2 KX KT
def netAt (a b c d e : PyData) : Bool :=
  match a, b with
  | .int m, .int u => !decide (7 < m + u) && (areP m u c && (areT m d && areT m e))
  | _, _ => false
def isNet (d : PyData) : Bool := shp 5 d && (!(!isW (ith 0 d) 1 4 || !isW (ith 1 d) 0 4) && netAt (ith 0 d) (ith 1 d) (ith 2 d) (ith 3 d) (ith 4 d))
def spNet (Ps : List Addr) : Sp := fun vs H Q _ => ∃ x d, vs = [x] ∧ Th H x d ∧ Tbs Ps H ∧ ∀ H', Grown Ps H H' → Q (.bl (isNet d)) H'
section
variable {P : Program} {w : World} {K : PySem.W.Frag} {mg : Str → Option Value} {base : Heap}
theorem scNet : FnScope ["value", "many", "unknowns", "pipes", "filled", "seen"] ["value"] (defScope sNet) := ⟨rfl, rfl, rfl, by decide +kernel, rfl, by decide +kernel, by decide +kernel⟩
theorem ok_net {f fI fP fT : Addr} {fd fdI fdP fdT : FuncData} {Ps : List Addr} {u1 u2 u3 : Value} (F : Fun K "is_net" "is_net" sNet f fd) (T : TxT mg) (m1 : mg "MOST_TANKS" = some u1) (r1 : RelV (.int 4) u1) (m2 : mg "MOST_UNKNOWNS" = some u2) (r2 : RelV (.int 4) u2) (m3 : mg "MOST_TOGETHER" = some u3) (r3 : RelV (.int 7) u3)
    (FI : FnOk P w K mg base CX0 2 fI fdI ["value", "least", "most"] spWithin) (mI : mg "is_within" = some (.ref fI)) (kI : PySem.W.keepIn K (.ref fI) = true) (bI : Binds K fdI ["value", "least", "most"] [])
    (FP : FnOk P w K mg base CX0 7 fP fdP ["pipes", "many", "unknowns"] (spPipes Ps)) (mP : mg "_are_pipes" = some (.ref fP)) (kP : PySem.W.keepIn K (.ref fP) = true) (bP : Binds K fdP ["pipes", "many", "unknowns"] [])
    (FT : FnOk P w K mg base CX0 4 fT fdT ["tanks", "many"] (spTanks Ps)) (mT : mg "_are_tanks" = some (.ref fT)) (kT : PySem.W.keepIn K (.ref fT) = true) (bT : Binds K fdT ["tanks", "many"] []) :
    FnOk P w K mg base CX0 8 f fd ["value"] (spNet Ps) := by
  refine F.ok scNet (fun vs H Q E h => ?_) (fun cdv A outer s H vs Q E hr h => ?_)
  · obtain ⟨x, d, rfl, _⟩ := h
    rfl
  · obtain ⟨x, d, rfl, hx, ht, k⟩ := h
    have hr2 : Room 2 _ := hr.mono (by decide)
    have hr4 : Room 4 _ := hr.mono (by decide)
    refine ⟨_, pss_cons (ps_if (pw_or (pt_cmpR op_notTyB (pe_callTy call_type1 (by rfl) T.type (by decide +kernel) (pa_cons (pv 0) pa_nil)) (pe_bltn (v := .ty "tuple") (by rfl) T.tuple (by decide +kernel) rfl) (nomark _))
        (pw_or1 (pt_cmpR op_ne (pe_callB call_len_seq (by rfl) T.len PySem.boot_len (pa_cons (pv 0) pa_nil)) pe_int (nomark _)))).pt (pss_one (ps_ret pe_bl)) pss_nil)
      (pss_cons (ps_asg (pv 0) (pg_tup rfl (pgs_cons (pg_name (i := 1) scNet.nd rfl (Or.inl rfl)) (pgs_cons (pg_name (i := 2) scNet.nd rfl (Or.inl rfl)) (pgs_cons (pg_name (i := 3) scNet.nd rfl (Or.inl rfl)) (pgs_cons (pg_name (i := 4) scNet.nd rfl (Or.inl rfl)) (pgs_cons (pg_name (i := 5) scNet.nd rfl (Or.inl rfl)) pgs_nil)))))))
      (pss_cons (ps_if (pw_or (pt_not (pt_val (pe_call FI hr2 (by rfl) mI kI bI .nil pass0 (pa_cons (pv 1) (pa_cons pe_int (pa_cons (pe_glob (by rfl) m1 r1) pa_nil))))))
          (pw_or1 (pt_not (pt_val (pe_call FI hr2 (by rfl) mI kI bI .nil pass0 (pa_cons (pv 2) (pa_cons pe_int (pa_cons (pe_glob (by rfl) m2 r2) pa_nil)))))))).pt (pss_one (ps_ret pe_bl)) pss_nil)
      (pss_cons (ps_if (pw_or (pt_cmpR op_gt (pe_op op_add (pv 1) (pv 2)) (pe_glob (by rfl) m3 r3) (nomark _)) (pw_or1 (pt_not (pt_val (pe_call FP hr (by rfl) mP kP bP .nil pass0 (pa_cons (pv 3) (pa_cons (pv 1) (pa_cons (pv 2) pa_nil)))))))).pt (pss_one (ps_ret pe_bl)) pss_nil)
      (pss_one (ps_ret (pe_and (pe_call FT hr4 rfl mT kT bT .nil pass0 (pa_cons (pv 4) (pa_cons (pv 1) pa_nil))) (pe_one (pe_call FT hr4 rfl mT kT bT .nil pass0 (pa_cons (pv 5) (pa_cons (pv 1) pa_nil)))))))))), ?_⟩
    have g0 : Grown Ps H H := Grown.same (Same.refl H) ht
    refine i_guard (ti_shape rfl (vi_var rfl) hx) (fun z => ?_) (fun z => ?_)
    · have z : shp 5 d = false := by simpa using z
      have e : isNet d = false := by simp [isNet, z]
      have := k H g0
      rw [e] at this
      exact this
    have z0 : shp 5 d = true := by simpa using z
    obtain ⟨a, xs, ds, rfl, rfl, e, ha, l2⟩ := shp_of hx z
    obtain ⟨d1, d2, d3, d4, d5, rfl⟩ := len5 l2
    cases ha with
    | cons h1 hr1 => cases hr1 with
      | cons h2 hr2' => cases hr2' with
        | cons h3 hr3 => cases hr3 with
          | cons h4 hr4' => cases hr4' with
            | cons h5 hr5 =>
              cases hr5
              refine ⟨_, rfl, a, _, rfl, SqT.of e, rfl, _, _, rfl, _, _, rfl, _, _, rfl, _, _, rfl, _, _, rfl, rfl, ?_⟩
              have e8 : isNet (.tuple [d1, d2, d3, d4, d5]) = (!(!isW d1 1 4 || !isW d2 0 4) && netAt d1 d2 d3 d4 d5) := by
                unfold isNet
                rw [z0, Bool.true_and]
                rfl
              rw [e8] at k
              dsimp only
              refine i_guard (D := { nx := _, rt := Q }) (ti_or (ti_not (ti_val (vi_call (ai_cons (vi_var rfl) (ai_cons vi_c (ai_cons vi_c ai_nil))) fun Q q => spWithin_at h1 q)))
                fun _ => ti_not (ti_val (vi_call (ai_cons (vi_var rfl) (ai_cons vi_c (ai_cons vi_c ai_nil))) fun Q q => spWithin_at h2 q))) (fun z => ?_) (fun z => ?_)
              · have := k H g0
                rw [z] at this
                exact this
              rw [z, Bool.not_false, Bool.true_and] at k
              rw [Bool.or_eq_false_iff, Bool.not_eq_false', Bool.not_eq_false'] at z
              have hm4 : ∀ {i}, d1 = .int i → i ≤ 4 := fun {i} e => by
                have := z.1
                rw [e] at this
                simp only [isW, Bool.and_eq_true, decide_eq_true_eq] at this
                exact this.2
              obtain ⟨m, rfl, rfl⟩ := isW_int h1 z.1
              obtain ⟨u, rfl, rfl⟩ := isW_int h2 z.2
              have hm4 := hm4 rfl
              have e9 : netAt (.int m) (.int u) d3 d4 d5 = (!decide (7 < m + u) && (areP m u d3 && (areT m d4 && areT m d5))) := rfl
              rw [e9] at k
              refine ⟨_, rfl, _, rfl, _, _, rfl, rfl, _, _, rfl, rfl, _, rfl, ?_⟩
              cases c7 : decide (7 < m + u) with
              | true =>
                rw [c7] at k
                exact k H g0
              | false =>
                rw [c7, Bool.not_false, Bool.true_and] at k
                dsimp only
                rw [if_neg Bool.false_ne_true]
                refine ⟨_, rfl, _, rfl, _, rfl, _, _, _, _, rfl, h3, ht, fun H1 g1 => ⟨_, rfl, ?_⟩⟩
                cases cp : areP m u d3 with
                | false =>
                  rw [cp] at k
                  exact k H1 g1
                | true =>
                  rw [cp, Bool.true_and] at k
                  refine ⟨_, rfl, _, rfl, _, _, _, rfl, h4.mono g1.sm, g1.tbs, by omega, fun H2 g2 => ⟨_, rfl, ?_⟩⟩
                  cases ct : areT m d4 with
                  | false =>
                    rw [ct] at k
                    exact k H2 (g1.trans g2)
                  | true =>
                    rw [ct, Bool.true_and] at k
                    dsimp only
                    rw [if_pos rfl]
                    exact ⟨_, rfl, _, rfl, _, _, _, rfl, (h5.mono g1.sm).mono g2.sm, g2.tbs, by omega, fun H3 g3 => k H3 ((g1.trans g2).trans g3)⟩
end
end KP

set_option Elab.async false
set_option linter.all false
set_option maxRecDepth 100000
set_option maxHeartbeats 1000000
/-! ### the law's own look: whole numbers -/
namespace KP
open PySem PySem.Spec PyProof.Rows L2 KX KT
abbrev lJar : Stmt := top 40
abbrev lDip : Stmt := top 41
abbrev lOne : Stmt := top 42
abbrev lSame : Stmt := top 43
abbrev lFrac : Stmt := top 44
abbrev lToldPart : Stmt := top 45
abbrev lLot : Stmt := top 46
abbrev lNet : Stmt := top 47
abbrev lRight : Stmt := top 62
abbrev lLaw : Stmt := top 63
structure TxL (mg : Str → Option Value) : Prop extends TxT mg where
  isinstance : mg "isinstance" = none
  bool : mg "bool" = none
  range : mg "range" = none
  any : mg "any" = none
theorem Th.tyx {K : PySem.W.Frag} {H : Hp} {v : V} {d : PyData} (h : Th H v d) : TyX K H v (.type (tyN d)) := by
  cases h with
  | non => exact .base .non
  | bl b => exact .base (.bl b)
  | int i => exact .base (.int i)
  | str x => exact .base (.str x)
  | lst e _ => exact .base (.lst e)
  | tup' e _ => exact e.elim (fun e => .base (.tup e)) fun ⟨_, e⟩ => .fTuple e
  | emp e => exact .base (.dK e)
def isin (a n : String) : Bool := decide (a = n) || (decide (a = "bool") && decide (n = "int"))
theorem kit_all : ∀ a ∈ ["NoneType", "bool", "int", "str", "list", "tuple", "dict"], ∀ n ∈ ["int", "bool", "tuple", "str"], kitB a n = some (isin a n) := by decide +kernel
theorem tyN_mem (d : PyData) : tyN d ∈ ["NoneType", "bool", "int", "str", "list", "tuple", "dict"] := by cases d <;> simp [tyN]
section
variable {K : PySem.W.Frag} {σ : L2.St} {H : Hp}
theorem vi_isi {te : TE} {x : V} {d : PyData} {n : String} (ha : Vi te σ H x) (h : Th H x d) (hn : n ∈ ["int", "bool", "tuple", "str"]) : Vi (tCB (rIsi K) (tCons te (tCons (tC (.ty n)) tNil))) σ H (.bl (isin (tyN d) n)) :=
  vi_cb (ai_cons ha (ai_cons vi_c ai_nil)) fun Q q => ⟨_, _, _, _, _, rfl, .ty n, h.tyx, kit_ty (kit_all _ (tyN_mem d) _ hn), q⟩
theorem vi_not {ta : TE} {a : Bool} (h : Vi ta σ H (.bl a)) : Vi (tNotV ta) σ H (.bl (!a)) := fun Q q => h _ ⟨a, rfl, q⟩
end
section
variable {P : Program} {w : World} {K : PySem.W.Frag} {mg : Str → Option Value} {base : Heap}
end
end KP

set_option Elab.async false
set_option linter.all false
set_option maxRecDepth 100000
set_option maxHeartbeats 1000000
/-! ### readings behind which the heap has only grown; all([.. for x in tuple]) -/
namespace KP
open PySem PySem.Spec PyProof.Rows L2 KX KT
def Vg (t : TE) (σ : L2.St) (H : Hp) (v : V) : Prop := ∀ Q : VK, (∀ H', Same H H' → Q v H') → t σ H Q
def Tg (t : TT) (σ : L2.St) (H : Hp) (b : Bool) : Prop := ∀ Q : Bool → Hp → Prop, (∀ H', Same H H' → Q b H') → t σ H Q
section
variable {K : PySem.W.Frag} {σ : L2.St} {H : Hp}
theorem tg_of {t : TT} {b : Bool} (h : Ti t σ H b) : Tg t σ H b := fun Q q => h _ (q H (Same.refl H))
theorem vg_of {t : TE} {v : V} (h : Vi t σ H v) : Vg t σ H v := fun Q q => h _ (q H (Same.refl H))
theorem tg_or {t u : TT} {a b : Bool} (h : Tg t σ H a) (h2 : a = false → ∀ H', Same H H' → Tg u σ H' b) : Tg (tOr t u) σ H (a || b) := fun Q q => h _ fun H' s => by
  cases a with
  | true => rw [if_pos rfl]; simpa using q H' s
  | false => rw [if_neg Bool.false_ne_true]; exact h2 rfl H' s _ fun H2 s2 => by simpa using q H2 (s.trans s2)
theorem tg_not {t : TT} {a : Bool} (h : Tg t σ H a) : Tg (tNot t) σ H (!a) := fun Q q => h _ fun H' s => q H' s
theorem tg_val {te : TE} {b : Bool} (h : Vg te σ H (.bl b)) : Tg (tB te) σ H b := fun Q q => h _ fun H' s => ⟨b, rfl, q H' s⟩
theorem tg_test {te : TE} {b : Bool} (h : Vg te σ H (.bl b)) : Tg (tTest te) σ H b := fun Q q => h _ fun H' s => ⟨b, rfl, q H' s⟩
theorem g_guard {t : TT} {tz : TS} {b : Bool} {D : Ends} (h : Tg t σ H b) (h1 : b = true → ∀ H', Same H H' → D.rt (.bl false) H') (h2 : b = false → ∀ H', Same H H' → tz D σ H') : tSeq (tIfS t (tRet (tC (.bl false))) tNext) tz D σ H := h _ fun H' s => by
  cases b with
  | true => rw [if_pos rfl]; exact h1 rfl H' s
  | false => rw [if_neg Bool.false_ne_true]; exact h2 rfl H' s
theorem g_ret {te : TE} {v : V} {D : Ends} (h : Vg te σ H v) (k : ∀ H', Same H H' → D.rt v H') : tRet te D σ H := h _ k
theorem vg_and {ta tb : TE} {a b : Bool} (h : Vg ta σ H (.bl a)) (h2 : a = true → ∀ H', Same H H' → Vg tb σ H' (.bl b)) : Vg (tAndV ta tb) σ H (.bl (a && b)) := fun Q q => h _ fun H' s => ⟨a, rfl, by
  cases a with
  | true => rw [if_pos rfl]; exact h2 rfl H' s _ fun H2 s2 => by simpa using q H2 (s.trans s2)
  | false => rw [if_neg Bool.false_ne_true]; simpa using q H' s⟩
/-- all([elt for x in te]) -/
theorem vg_all {te tel : TE} {a : Addr} {j : Nat} {vs : List Nat} {xs : List V} {ds : List PyData} {pd : PyData → Bool} (h : Vi te σ H (.ref a)) (e : Rd H a (.tup xs)) (ha : ThAll H xs ds) (hl : ds.length ≤ 2000) (hw : ∀ x : V, wipe ((wipe σ vs).set j (some x)) vs = wipe σ vs)
    (he : ∀ H2 x d, Same H H2 → Th H2 x d → Vg tel ((wipe σ vs).set j (some x)) H2 (.bl (pd d))) : Vg (tCB (rAll K) (tCons (tLc (iTup K te) (gName j) tYes tel vs) tNil)) σ H (.bl (ds.all pd)) := fun Q q => by
  have hlen := all2 ha
  refine h _ ⟨a, rfl, ⟨xs, SqT.of e⟩, fun D hD => ?_⟩
  refine lc_it (walk_tup (K := K) (a := a) (xs := xs)) (fun n H' => Same H H' ∧ H' D = some (.lst ((ds.take n).map fun d => V.bl (pd d)))) ⟨same_upd hD, upd_same⟩ (fun n H' _ z => SqT.of (z.1.rd e)) ?_ ?_
  · rintro i x H' H'' hi ⟨s7, hD'⟩ ⟨rfl, hx⟩
    obtain ⟨d, hdi, hth⟩ := all_get ha hx
    refine ⟨hw x, ?_⟩
    dsimp only [tYes]
    rw [if_pos rfl]
    refine he _ x d s7 (hth.mono (Sm.same s7)) _ fun H2 s2 => ⟨_, s2 _ _ hD', ?_, fun b o eb => ?_, ?_⟩
    · rw [List.length_map, List.length_take]
      exact Nat.lt_of_le_of_lt (show min i ds.length ≤ 2000 by omega) (by decide)
    · have nb : b ≠ D := fun z => by
        rw [z, hD] at eb
        cases eb
      rw [upd_ne nb]
      exact s2 _ _ (s7 _ _ eb)
    · rw [upd_same, List.take_add_one, hdi, List.map_append]
      rfl
  · rintro H' ⟨s7, hD'⟩
    have e1 : ds.take xs.length = ds := List.take_of_length_le (by omega)
    rw [e1] at hD'
    refine ⟨D, ds.map pd, rfl, SqL.of (by rw [hD', List.map_map]; rfl), ?_⟩
    have e2 : (ds.map pd).all id = ds.all pd := by rw [List.all_map]; rfl
    rw [e2]
    exact q _ s7
end
end KP

set_option Elab.async false
set_option linter.all false
set_option maxRecDepth 100000
set_option maxHeartbeats 4000000
/-! ### the law's draws -/
namespace KJ
open PySem PySem.Spec PyProof.Rows L2 KX KP
abbrev sJar : Stmt := top 40
abbrev sDip : Stmt := top 41
abbrev sOne : Stmt := top 42

/-- a jar at j: a number to be parted, a mixed one, how often it was dipped (at most n) -/
def JarAt (H : Hp) (j : Addr) (n : Nat) : Prop := ∃ a b c : Int, H j = some (.lst [.int a, .int b, .int c]) ∧ 0 ≤ a ∧ 0 ≤ b ∧ b < 2147483399 ∧ 0 ≤ c ∧ c ≤ n
/-- all but j as it was -/
def But (j : Addr) (H H' : Hp) : Prop := ∀ b o, b ≠ j → H b = some o → H' b = some o
theorem But.trans {j : Addr} {H H1 H2 : Hp} (a : But j H H1) (b : But j H1 H2) : But j H H2 := fun c o n h => b c o n (a c o n h)
theorem But.same {j : Addr} {H H1 : Hp} (a : Same H H1) : But j H H1 := fun c o _ h => a c o h
def spJar (K : PySem.W.Frag) : Sp := fun vs H Q _ => ∃ (a : Addr) (ns : List Int) (t : Nat), vs = [.ref a, .int t] ∧ SqL K H a (ns.map V.int) ∧ ns.length ≤ 63 ∧ t ≤ 100 ∧ ∀ j H', H j = none → Same H H' → JarAt H' j 0 → Q (.ref j) H'
def spDip : Sp := fun vs H Q _ => ∃ (j : Addr) (top : Int) (n : Nat), vs = [.ref j, .int top] ∧ 0 < top ∧ top < 1000000 ∧ JarAt H j n ∧ n < 1000000 ∧ ∀ r H', 0 ≤ r → r < top → But j H H' → JarAt H' j (n + 1) → Q (.int r) H'
/-- one of some things: a list or a tuple -/
def spOne (K : PySem.W.Frag) : Sp := fun vs H Q _ => ∃ (j p : Addr) (xs : List V) (n : Nat), vs = [.ref j, .ref p] ∧ p ≠ j ∧ (H p = some (.lst xs) ∨ Rd H p (.tup xs)) ∧ xs ≠ [] ∧ xs.length < 1000000 ∧ JarAt H j n ∧ n < 1000000 ∧
  ∀ x H', x ∈ xs → But j H H' → JarAt H' j (n + 1) → Q x H'
structure TxJ (mg : Str → Option Value) : Prop where
  int : mg "int" = none
  len : mg "len" = none
  abs : mg "abs" = none
  dvm : mg "divmod" = none
section
variable {P : Program} {w : World} {K : PySem.W.Frag} {mg : Str → Option Value} {base : Heap}
theorem scJar : FnScope ["script", "turn", "mixed", "cell", "own"] ["script", "turn"] (defScope sJar) := ⟨rfl, rfl, rfl, by decide +kernel, rfl, by decide +kernel, by decide +kernel⟩
theorem ok_jar {f : Addr} {fd : FuncData} (F : Fun K "_law_jar" "_law_jar" sJar f fd) (T : TxJ mg) : FnOk P w K mg base CX0 1 f fd ["script", "turn"] (spJar K) := by
  refine F.ok scJar (fun vs H Q E h => ?_) (fun cdv A outer s H vs Q E hr h => ?_)
  · obtain ⟨a, ns, t, rfl, _⟩ := h
    rfl
  · obtain ⟨a, ns, t, rfl, hS, hn, ht, k⟩ := h
    refine ⟨_, pss_cons (ps_set (i := 2) scJar.nd rfl (Or.inl rfl) (pe_op op_add pe_int (pe_op op_mul pe_int (pv 1))))
      (pss_cons (ps_for PassesOwn.never rfl (pi_list (pe_slice sl_list (pv 0) po_none (po_some pe_int))) (pg_name (i := 3) scJar.nd rfl (Or.inl rfl))
        (pss_one (ps_set (i := 2) scJar.nd rfl (Or.inl rfl) (pe_op op_mod (pe_callTy call_int1 (by rfl) T.int (by decide +kernel) (pa_cons
          (pe_op op_add (pe_op op_add (pe_op op_mul (pv 2) pe_int) (pe_op op_mul (pe_op op_mod (pe_callTy call_int1 (by rfl) T.int (by decide +kernel) (pa_cons (pv 3) pa_nil)) pe_int) pe_int)) pe_int) pa_nil)) pe_int))))
      (Evl.pss_cut (ps_set (i := 4) scJar.nd rfl (Or.inl rfl) (pe_ifExp (pt_cmpR op_lt (pv 1) (pe_callB call_len_seq (by rfl) T.len PySem.boot_len (pa_cons (pv 0) pa_nil)) (nomark _))
          (pe_callTy call_int1 (by rfl) T.int (by decide +kernel) (pa_cons (pe_ix ix_list (pv 0) (pv 1) (fun _ _ => rfl)) pa_nil)) pe_int))
      (pss_one (ps_ret (pe_lst (pa_cons (pe_ifExp (PW.pt (pw_or (pt_cmpR op_lt (pv 4) pe_int (nomark _)) (pw_or1 (pt_cmpR op_ge (pv 4) (pe_op op_pow pe_int pe_int) (nomark _)))))
          (pe_callB call_abs (by rfl) T.abs (by decide +kernel) (pa_cons (pv 4) pa_nil)) pe_int) (pa_cons (pv 2) (pa_cons pe_int pa_nil)))))))), ?_⟩
    refine ⟨_, rfl, _, _, rfl, rfl, .inl ⟨by decide, by decide⟩, _, _, rfl, rfl, ?_⟩
    refine ⟨_, rfl, _, rfl, a, _, rfl, hS, fun p hp => ⟨p, rfl, ⟨_, SqL.of upd_same⟩, ?_⟩⟩
    have allI : ∀ x ∈ cutV (ns.map V.int) none (some 10), ∃ i, x = V.int i := fun x hx => by
      have h1 := List.mem_of_mem_drop (List.mem_of_mem_take hx)
      obtain ⟨i, _, rfl⟩ := List.mem_map.mp h1
      exact ⟨i, rfl⟩
    refine for_list (xs := cutV (ns.map V.int) none (some 10)) (fun i σ H' => ∃ (m : Int) (v : Option V), σ = [some (.ref a), some (.int t), some (.int m), v, none] ∧ 0 ≤ m ∧ m < 2147483399 ∧ Same (upd H p (.lst (cutV (ns.map V.int) none (some 10)))) H')
      ⟨_, none, rfl, by omega, by omega, Same.refl _⟩ (fun i σ H' _ ⟨_, _, _, _, _, z⟩ => SqL.of (z _ _ upd_same)) ?_ ?_
    · rintro i x σ H' hi ⟨m, v, rfl, m0, m1, sm⟩
      obtain ⟨c, rfl⟩ := allI x (List.mem_of_getElem? hi)
      have hc0 := Int.emod_nonneg c (show (2147483399 : Int) ≠ 0 by decide)
      have hc1 := Int.emod_lt_of_pos c (show (0 : Int) < 2147483399 by decide)
      refine ⟨_, rfl, _, _, rfl, rfl, .inl ⟨by omega, by omega⟩, _, rfl, .inl ⟨_, rfl, _, _, rfl, rfl, (by decide : (0 : Int) < 2147483399), _, _, rfl, rfl, .inl ⟨by omega, by omega⟩, _, _, rfl, rfl, _, _, rfl, rfl, .inl ⟨_, rfl, _, _, rfl, rfl, (by decide : (0 : Int) < 2147483399), ?_⟩⟩⟩
      exact ⟨_, _, rfl, Int.emod_nonneg _ (by decide), Int.emod_lt_of_pos _ (by decide), sm⟩
    · rintro σ H' ⟨m, v, rfl, m0, m1, sm⟩
      have sm0 : Same H H' := fun b o e => sm b o (by rw [upd_ne (ne_of_none e hp)]; exact e)
      refine ⟨fun σ' H2 => ∃ own : Int, σ' = [some (.ref a), some (.int t), some (.int m), v, some (.int own)] ∧ Same H H2, ?_, ?_⟩
      · refine ⟨_, rfl, _, rfl, a, _, rfl, .inl (sm0.seq hS), _, _, rfl, rfl, _, rfl, ?_⟩
        refine ite2 (fun c => ?_) (fun c => ⟨_, rfl, sm0⟩)
        have c' := of_decide_eq_true c
        rw [List.length_map] at c'
        have ht' : t < ns.length := by omega
        exact ⟨_, rfl, _, rfl, a, _, _, .int ns[t], rfl, rfl, sm0.seq hS, atI_nat (by rw [List.getElem?_map, List.getElem?_eq_getElem ht']; rfl), .inl ⟨_, rfl, _, rfl, sm0⟩⟩
      · rintro σ' H2 ⟨own, rfl, sm2⟩
        have fin : ∀ x : Int, 0 ≤ x → ∀ j, H2 j = none → Q (.ref j) (upd H2 j (.lst [.int x, .int m, .int 0])) := fun x hx j hj =>
          k j _ (sm2.free hj) (fun b o e => by rw [upd_ne (ne_of_none (sm2 b o e) hj)]; exact sm2 b o e) ⟨x, m, 0, upd_same, hx, m0, m1, by decide, by decide⟩
        have l3 : ([V.int 0, .int 0, .int 0] : List V).length ≤ sizeLine := by decide
        refine ⟨_, rfl, _, _, rfl, rfl, _, rfl, ?_⟩
        refine ite2 (fun c => iteT ⟨_, rfl, _, rfl, _, rfl, l3, fin _ ?_⟩) (fun c => ⟨_, rfl, _, _, rfl, rfl, ⟨by decide, by decide, by decide⟩, _, _, rfl, rfl, _, rfl, ?_⟩)
        · split <;> omega
        · refine ite2 (fun c => ⟨_, rfl, _, rfl, _, rfl, l3, fin _ ?_⟩) (fun c => ⟨_, rfl, l3, fin _ (by decide)⟩)
          split <;> omega
theorem scDip : FnScope ["jar", "top", "figure", "stirred"] ["jar", "top"] (defScope sDip) := ⟨rfl, rfl, rfl, by decide +kernel, rfl, by decide +kernel, by decide +kernel⟩
theorem ok_dip {f : Addr} {fd : FuncData} (F : Fun K "_law_dip" "_law_dip" sDip f fd) (T : TxJ mg) : FnOk P w K mg base CX0 1 f fd ["jar", "top"] spDip := by
  refine F.ok scDip (fun vs H Q E h => ?_) (fun cdv A outer s H vs Q E hr h => ?_)
  · obtain ⟨j, t, n, rfl, _⟩ := h
    rfl
  · obtain ⟨j, t, n, rfl, t0, t1, ⟨a, b, c, hj, a0, b0, b1, c0, c1⟩, hn, k⟩ := h
    refine ⟨_, pss_cons (ps_if (pt_cmpR op_gt (pe_ix ix_list (pv 0) pe_int (fun _ _ => rfl)) pe_int (nomark _))
        (pss_cons (ps_asg (pe_callB call_divmodW (by rfl) T.dvm (by decide +kernel) (pa_cons (pe_ix ix_list (pv 0) pe_int (fun _ _ => rfl)) (pa_cons (pv 1) pa_nil)))
            (pg_tup rfl (pgs_cons (pg_sub (pv 0) pe_int set_list) (pgs_cons (pg_name (i := 2) scDip.nd rfl (Or.inl rfl)) pgs_nil))))
          (pss_one (ps_ret (pv 2)))) pss_nil)
      (pss_cons (ps_asg (pe_op op_add (pe_ix ix_list (pv 0) pe_int (fun _ _ => rfl)) pe_int) (pg_sub (pv 0) pe_int set_list))
      (pss_cons (ps_set (i := 3) scDip.nd rfl (Or.inl rfl) (pe_op op_mod (pe_callTy call_int1 (by rfl) T.int (by decide +kernel) (pa_cons
          (pe_op op_add (pe_ix ix_list (pv 0) pe_int (fun _ _ => rfl)) (pe_op op_mul pe_int (pe_ix ix_list (pv 0) pe_int (fun _ _ => rfl)))) pa_nil)) pe_int))
      (pss_cons (ps_asg (pe_op op_mod (pe_callTy call_int1 (by rfl) T.int (by decide +kernel) (pa_cons
          (pe_op op_add (pe_op op_mul (pv 3) (pe_op op_add (pe_op op_mod (pe_callTy call_int1 (by rfl) T.int (by decide +kernel) (pa_cons (pv 3) pa_nil)) pe_int) pe_int))
            (pe_op op_mul pe_int (pe_ix ix_list (pv 0) pe_int (fun _ _ => rfl)))) pa_nil)) pe_int) (pg_sub (pv 0) pe_int set_list))
      (pss_one (ps_ret (pe_op op_mod (pe_callTy call_int1 (by rfl) T.int (by decide +kernel) (pa_cons (pe_op op_fdiv (pe_ix ix_list (pv 0) pe_int (fun _ _ => rfl)) pe_int) pa_nil)) (pv 1))))))), ?_⟩
    have at0 : ∀ x y z : Int, atI [V.int x, .int y, .int z] 0 = some (.int x) := fun _ _ _ => rfl
    have at1 : ∀ x y z : Int, atI [V.int x, .int y, .int z] 1 = some (.int y) := fun _ _ _ => rfl
    have at2 : ∀ x y z : Int, atI [V.int x, .int y, .int z] 2 = some (.int z) := fun _ _ _ => rfl
    refine ⟨_, rfl, _, _, _, _, rfl, rfl, SqL.of hj, at0 _ _ _, _, _, rfl, rfl, _, rfl, ?_⟩
    refine ite2 (fun ca => ?_) (fun ca => ?_)
    · have ha := of_decide_eq_true ca
      refine ⟨_, rfl, _, _, _, _, rfl, rfl, SqL.of hj, at0 _ _ _, _, rfl, _, _, rfl, ⟨t0, PyProof.noPylong_of_log2 ?_⟩, fun p hp => ?_⟩
      · refine PySem.Flt.log2_lt_of (by decide) (Nat.lt_of_lt_of_le (show t.natAbs < 1000000 by omega) ?_)
        exact Nat.le_trans (by decide : 1000000 ≤ 2 ^ 20) (Nat.pow_le_pow_right (by decide) (by decide))
      · have npj : j ≠ p := ne_of_none hj hp
        refine ⟨p, _, rfl, SqT.of upd_same, rfl, _, _, rfl, ⟨_, rfl, j, _, 0, 0, rfl, rfl, Eq.trans (upd_ne npj) hj, rfl, ?_⟩⟩
        refine ⟨_, _, rfl, rfl, _, rfl, k _ _ (Int.emod_nonneg _ (by omega)) (Int.emod_lt_of_pos _ t0) (fun x o nx e => ?_) ⟨a / t, b, c, upd_same, Int.ediv_nonneg a0 (by omega), b0, b1, c0, by omega⟩⟩
        rw [upd_ne nx, upd_ne (ne_of_none e hp)]
        exact e
    · have c2 : (28657 : Int) * (c + 1) = (c + 1) * 28657 := Int.mul_comm _ _
      refine ⟨_, rfl, _, _, _, _, rfl, rfl, SqL.of hj, at2 _ _ _, _, _, rfl, rfl, _, rfl, j, _, 2, 2, rfl, rfl, hj, rfl, ?_⟩
      have h1 : (upd H j (.lst ([V.int a, .int b, .int c].set 2 (.int (c + 1))))) j = some (.lst [.int a, .int b, .int (c + 1)]) := upd_same
      refine ⟨_, rfl, _, _, _, _, rfl, rfl, SqL.of h1, at1 _ _ _, _, rfl, _, _, _, _, rfl, rfl, SqL.of h1, at2 _ _ _, _, _, rfl, rfl, .inl ⟨by decide, by decide⟩, _, _, rfl, rfl, .inl ⟨_, rfl, _, _, rfl, rfl, (by decide : (0 : Int) < 2147483399), ?_⟩⟩
      have s0 := Int.emod_nonneg (b + 28657 * (c + 1)) (show (2147483399 : Int) ≠ 0 by decide)
      have s1 := Int.emod_lt_of_pos (b + 28657 * (c + 1)) (show (0 : Int) < 2147483399 by decide)
      refine ⟨_, rfl, _, rfl, .inl ⟨_, rfl, _, _, rfl, rfl, (by decide : (0 : Int) < 5003), _, _, rfl, rfl, _, _, rfl, rfl, .inl ⟨by omega, by omega⟩, _, rfl, _, _, _, _, rfl, rfl, SqL.of h1, at2 _ _ _, _, _, rfl, rfl, .inl ⟨by decide, by decide⟩, _, _, rfl, rfl,
        .inl ⟨_, rfl, _, _, rfl, rfl, (by decide : (0 : Int) < 2147483399), _, rfl, j, _, 1, 1, rfl, rfl, h1, rfl, ?_⟩⟩⟩
      refine ⟨_, rfl, _, _, _, _, rfl, rfl, SqL.of upd_same, at1 _ _ _, _, _, rfl, rfl, ⟨by decide, by decide⟩, .inl ⟨_, rfl, _, rfl, _, _, rfl, rfl, t0, ?_⟩⟩
      refine k _ _ (Int.emod_nonneg _ (by omega)) (Int.emod_lt_of_pos _ t0) (fun x o nx e => ?_) ⟨a, _, c + 1, upd_same, a0, Int.emod_nonneg _ (by decide), Int.emod_lt_of_pos _ (by decide), by omega, by omega⟩
      rw [upd_ne nx, upd_ne nx]
      exact e
theorem scOne : FnScope ["jar", "some"] ["jar", "some"] (defScope sOne) := ⟨rfl, rfl, rfl, by decide +kernel, rfl, by decide +kernel, by decide +kernel⟩
theorem ok_one {f fD : Addr} {fd fdD : FuncData} (F : Fun K "_law_one_of" "_law_one_of" sOne f fd) (T : TxJ mg) (FD : FnOk P w K mg base CX0 1 fD fdD ["jar", "top"] spDip) (mD : mg "_law_dip" = some (.ref fD)) (kD : PySem.W.keepIn K (.ref fD) = true) (bD : Binds K fdD ["jar", "top"] []) :
    FnOk P w K mg base CX0 2 f fd ["jar", "some"] (spOne K) := by
  refine F.ok scOne (fun vs H Q E h => ?_) (fun cdv A outer s H vs Q E hr h => ?_)
  · obtain ⟨j, p, xs, n, rfl, _⟩ := h
    rfl
  · obtain ⟨j, p, xs, n, rfl, npj, hp, hx, hl, hj, hn, k⟩ := h
    have sq : SqL K H p xs ∨ SqT K H p xs := hp.elim (fun z => .inl (SqL.of z)) (fun z => .inr (.inl z))
    refine ⟨_, pss_one (ps_ret (pe_ix ix_seq (pv 1) (pe_call FD hr rfl mD kD bD .nil pass0 (pa_cons (pv 0) (pa_cons (pe_callB call_len_seq (by rfl) T.len PySem.boot_len (pa_cons (pv 1) pa_nil)) pa_nil))) (fun _ _ => rfl))), ?_⟩
    refine ⟨_, rfl, _, rfl, _, rfl, p, xs, rfl, sq, j, _, n, rfl, ?_, ?_, hj, hn, fun r H' r0 r1 bt hj' => ?_⟩
    · have := List.length_pos_iff.mpr hx
      omega
    · omega
    · obtain ⟨i, rfl⟩ := Int.eq_ofNat_of_zero_le r0
      have hi : i < xs.length := by omega
      have ha : atI xs ((i : Nat) : Int) = some xs[i] := atI_nat (List.getElem?_eq_getElem hi)
      have kk := k xs[i] H' (List.getElem_mem hi) bt hj'
      rcases hp with z | z
      · exact .inl ⟨p, _, _, _, rfl, rfl, SqL.of (bt _ _ npj z), ha, kk⟩
      · exact .inr (.inl ⟨p, _, _, _, rfl, rfl, z.elim (fun z => .inl (.inl (bt _ _ npj z))) (fun ⟨o, z⟩ => .inl (.inr ⟨o, bt _ _ npj z⟩)), ha, kk⟩)
end
end KJ

set_option Elab.async false
set_option linter.all false
set_option maxRecDepth 100000
set_option maxHeartbeats 1000000
/-! ### written data, beside a jar; drawn told fractions -/
namespace KP
open PySem PySem.Spec PyProof.Rows L2 KX KT KJ
/-- the heap without the jar -/
def hid (j : Addr) (H : Hp) : Hp := fun b => if b = j then none else H b
theorem hid_ne {j b : Addr} {H : Hp} (h : b ≠ j) : hid j H b = H b := if_neg h
theorem hid_same (j : Addr) (H : Hp) : Same (hid j H) H := fun b o e => by
  by_cases c : b = j
  · rw [c] at e
    have : hid j H j = none := if_pos rfl
    rw [this] at e
    cases e
  · rw [hid_ne c] at e
    exact e
theorem hid_but {j : Addr} {H H' : Hp} (h : KJ.But j H H') : Same (hid j H) (hid j H') := fun b o e => by
  by_cases c : b = j
  · rw [c] at e
    have : hid j H j = none := if_pos rfl
    rw [this] at e
    cases e
  · rw [hid_ne c] at e ⊢
    exact h b o c e
theorem Thj.but {j : Addr} {H H' : Hp} {v : V} {d : PyData} (h : Th (hid j H) v d) (b : KJ.But j H H') : Th (hid j H') v d := h.mono (Sm.same (hid_but b))
theorem Thj.same {j : Addr} {H H' : Hp} {v : V} {d : PyData} (h : Th (hid j H) v d) (b : Same H H') : Th (hid j H') v d := Thj.but h (KJ.But.same b)
theorem ThAllj.same {j : Addr} {H H' : Hp} {v : List V} {d : List PyData} (h : ThAll (hid j H) v d) (b : Same H H') : ThAll (hid j H') v d := ThAll.mono (Sm.same (hid_but (KJ.But.same b))) h
theorem Thj.th {j : Addr} {H : Hp} {v : V} {d : PyData} (h : Th (hid j H) v d) : Th H v d := h.mono (Sm.same (hid_same j H))
/-- a written datum -/
def Lit (j : Addr) (t : TE) (σ : L2.St) (d : PyData) : Prop := ∀ H Q, H j ≠ none → (∀ v H', Same H H' → Th (hid j H') v d → Q v H') → t σ H Q
def LitA (j : Addr) (t : TA) (σ : L2.St) (ds : List PyData) : Prop := ∀ (H : Hp) (Q : List V → Hp → Prop), H j ≠ none → (∀ vs H', Same H H' → ThAll (hid j H') vs ds → Q vs H') → t σ H Q
section
variable {j : Addr} {σ : L2.St}
theorem same_ne {H H' : Hp} (h : Same H H') (e : H j ≠ none) : H' j ≠ none := by
  cases c : H j with
  | none => exact absurd c e
  | some o =>
    rw [h j o c]
    simp
theorem lit_int {i : Int} : Lit j (tC (.int i)) σ (.int i) := fun H Q _ q => q _ _ (Same.refl H) (.int i)
theorem lit_str {x : Str} : Lit j (tC (.str x)) σ (.str x) := fun H Q _ q => q _ _ (Same.refl H) (.str x)
theorem lit_bl {b : Bool} : Lit j (tC (.bl b)) σ (.bool b) := fun H Q _ q => q _ _ (Same.refl H) (.bl b)
theorem lit_non : Lit j (tC .non) σ .none := fun H Q _ q => q _ _ (Same.refl H) .non
theorem lit_neg {i : Int} : Lit j (tUn (rU fun i => .int (-i)) (tC (.int i))) σ (.int (-i)) := fun H Q _ q => ⟨i, rfl, q _ _ (Same.refl H) (.int (-i))⟩
theorem litA_nil : LitA j tNil σ [] := fun H Q _ q => q _ _ (Same.refl H) .nil
theorem litA_cons {te : TE} {ta : TA} {d : PyData} {ds : List PyData} (h : Lit j te σ d) (h2 : LitA j ta σ ds) : LitA j (tCons te ta) σ (d :: ds) := fun H Q n q =>
  h H _ n fun v H1 s1 t1 => h2 H1 _ (same_ne s1 n) fun vs H2 s2 t2 => q _ _ (s1.trans s2) (.cons (Thj.same t1 s2) t2)
theorem new_ne {H : Hp} {p : Addr} (hp : H p = none) (n : H j ≠ none) : p ≠ j := fun z => n (by rw [← z]; exact hp)
theorem lit_tup {ta : TA} {ds : List PyData} (h : LitA j ta σ ds) (hl : ds.length ≤ 1000) : Lit j (tTup ta) σ (.tuple ds) := fun H Q n q =>
  h H _ n fun vs H1 s1 t1 => ⟨Nat.le_trans (by rw [all2 t1]; exact hl) (by decide), fun p hp => by
    have sp := same_upd (o := .tup vs) hp
    have np := new_ne hp (same_ne s1 n)
    exact q _ _ (s1.trans sp) (.tup (by rw [hid_ne np]; exact upd_same) (ThAllj.same t1 sp))⟩
theorem lit_lst {ta : TA} {ds : List PyData} (h : LitA j ta σ ds) (hl : ds.length ≤ 1000) : Lit j (tLst ta) σ (.list ds) := fun H Q n q =>
  h H _ n fun vs H1 s1 t1 => ⟨Nat.le_trans (by rw [all2 t1]; exact hl) (by decide), fun p hp => by
    have sp := same_upd (o := .lst vs) hp
    have np := new_ne hp (same_ne s1 n)
    exact q _ _ (s1.trans sp) (.lst (by rw [hid_ne np]; exact upd_same) (ThAllj.same t1 sp))⟩
theorem lit_emp : Lit j tDNewK σ (.dict []) := fun H Q n q p hp => by
  have sp := same_upd (o := .dK []) hp
  have np := new_ne hp n
  exact q _ _ sp (.emp (by rw [hid_ne np]; exact upd_same))
theorem all_mem {H : Hp} : ∀ {xs : List V} {ds : List PyData} {x : V}, ThAll H xs ds → x ∈ xs → ∃ d ∈ ds, Th H x d
  | _ :: _, _ :: _, x, .cons a b, h => by
    rcases List.mem_cons.mp h with e | h
    · rw [e]
      exact ⟨_, List.mem_cons_self, a⟩
    · obtain ⟨d, hd, t⟩ := all_mem b h
      exact ⟨d, List.mem_cons_of_mem _ hd, t⟩
/-- one of a written list (or tuple) -/
theorem one_of {H : Hp} {Q : VK} {E : XK} {p : Addr} {d : PyData} {ds : List PyData} {n : Nat} {K : PySem.W.Frag} (t : Th (hid j H) (.ref p) d) (hd : d = .list ds ∨ d = .tuple ds) (h0 : ds ≠ []) (hl : ds.length ≤ 1000) (hj : JarAt H j n) (hn : n < 1000000)
    (k : ∀ x e H', e ∈ ds → Th (hid j H') x e → KJ.But j H H' → JarAt H' j (n + 1) → Q x H') : spOne K [.ref j, .ref p] H Q E := by
  have fin : ∀ xs : List V, ThAll (hid j H) xs ds → (H p = some (.lst xs) ∨ Rd H p (.tup xs)) → p ≠ j → spOne K [.ref j, .ref p] H Q E := fun xs ta hp np =>
    ⟨j, p, xs, n, rfl, np, hp, fun z => by
      have := all2 ta
      rw [z] at this
      exact h0 (List.length_eq_zero_iff.mp this.symm), by rw [all2 ta]; exact Nat.lt_of_le_of_lt hl (by decide), hj, hn, fun x H' hx b jr => by
      obtain ⟨e, he, te⟩ := all_mem ta hx
      exact k x e H' he (Thj.but te b) b jr⟩
  have np : ∀ {u : HO}, hid j H p = some u → p ≠ j ∧ H p = some u := fun {u} e => by
    refine ⟨fun z => ?_, hid_same j H _ _ e⟩
    rw [z, show hid j H j = none from if_pos rfl] at e
    cases e
  rcases hd with rfl | rfl
  · cases t with
    | lst e ta => exact fin _ ta (.inl (np e).2) (np e).1
  · cases t with
    | tup' e ta => exact fin _ ta (.inr ((hid_same j H).rd e)) (e.elim (fun e => (np e).1) fun ⟨_, e⟩ => (np e).1)
end
theorem jar_ne {H : Hp} {j : Addr} {n : Nat} (h : JarAt H j n) : H j ≠ none := by
  obtain ⟨a, b, c, e, _⟩ := h
  rw [e]
  simp
theorem jar_same {H H' : Hp} {j : Addr} {n : Nat} (h : JarAt H j n) (s : Same H H') : JarAt H' j n := by
  obtain ⟨a, b, c, e, r⟩ := h
  exact ⟨a, b, c, s _ _ e, r⟩
theorem jar_more {H : Hp} {j : Addr} {n m : Nat} (h : JarAt H j n) (hm : n ≤ m) : JarAt H j m := by
  obtain ⟨a, b, c, e, r0, r1, r2, r3, r4⟩ := h
  exact ⟨a, b, c, e, r0, r1, r2, r3, by omega⟩
end KP

set_option Elab.async false
set_option linter.all false
set_option maxRecDepth 100000
set_option maxHeartbeats 1000000
/-! ### readings that make data out of names; how wide data are -/
namespace KP
open PySem PySem.Spec PyProof.Rows L2 KX KT KJ
theorem ThAll.append {H : Hp} : ∀ {xs ys : List V} {ds es : List PyData}, ThAll H xs ds → ThAll H ys es → ThAll H (xs ++ ys) (ds ++ es)
  | _, _, _, _, .nil, b => b
  | _, _, _, _, .cons a t, b => .cons a (ThAll.append t b)
mutual
/-- the greatest length of a tuple or list within -/
def wid : PyData → Nat
  | .tuple ds => max ds.length (widAll ds)
  | .list ds => max ds.length (widAll ds)
  | _ => 0
def widAll : List PyData → Nat
  | [] => 0
  | d :: ds => max (wid d) (widAll ds)
end
theorem widAll_le {n : Nat} : ∀ {ds : List PyData}, (∀ d ∈ ds, wid d ≤ n) → widAll ds ≤ n
  | [], _ => by simp [widAll]
  | d :: ds, h => by
    simp only [widAll]
    have h1 := h d List.mem_cons_self
    have h2 := widAll_le (ds := ds) fun e he => h e (List.mem_cons_of_mem _ he)
    omega
theorem le_widAll : ∀ {ds : List PyData} {d : PyData}, d ∈ ds → wid d ≤ widAll ds
  | e :: ds, d, h => by
    simp only [widAll]
    rcases List.mem_cons.mp h with rfl | h
    · omega
    · have := le_widAll h
      omega
theorem wid_tup {n : Nat} {ds : List PyData} (hl : ds.length ≤ n) (h : ∀ d ∈ ds, wid d ≤ n) : wid (.tuple ds) ≤ n := by
  simp only [wid]
  have := widAll_le h
  omega
theorem wid_lst {n : Nat} {ds : List PyData} (hl : ds.length ≤ n) (h : ∀ d ∈ ds, wid d ≤ n) : wid (.list ds) ≤ n := by
  simp only [wid]
  have := widAll_le h
  omega
theorem wid_mem {ds : List PyData} {d : PyData} (h : d ∈ ds) : wid d ≤ wid (.tuple ds) := by
  simp only [wid]
  have := le_widAll h
  omega
theorem wid_len {ds : List PyData} : ds.length ≤ wid (.tuple ds) := by
  simp only [wid]
  omega
theorem wid_ith {d : PyData} {i : Nat} : wid (ith i d) ≤ wid d := by
  cases d with
  | tuple ds =>
    show wid (ds.getD i .none) ≤ _
    rw [List.getD_eq_getElem?_getD]
    cases e : ds[i]? with
    | none => simp [wid]
    | some a => exact wid_mem (List.mem_of_getElem? e)
  | _ => simp [ith, wid]
theorem lenT_wid {d : PyData} : lenT d ≤ wid d := by
  cases d with
  | tuple ds => exact wid_len
  | _ => simp [lenT]
/-- e makes the datum d, in heaps that have grown from H -/
def Mk (j : Addr) (t : TE) (σ : L2.St) (H : Hp) (d : PyData) : Prop := ∀ H1, Same H H1 → ∀ Q : VK, (∀ v H', Same H1 H' → Th (hid j H') v d → Q v H') → t σ H1 Q
def MkA (j : Addr) (t : TA) (σ : L2.St) (H : Hp) (ds : List PyData) : Prop := ∀ H1, Same H H1 → ∀ Q : List V → Hp → Prop, (∀ vs H', Same H1 H' → ThAll (hid j H') vs ds → Q vs H') → t σ H1 Q
section
variable {j : Addr} {σ : L2.St} {H : Hp}
theorem mk_lit {t : TE} {d : PyData} (hj : H j ≠ none) (h : Lit j t σ d) : Mk j t σ H d := fun H1 s Q q => h H1 Q (same_ne s hj) q
theorem mk_var {i : Nat} {v : V} {d : PyData} (h : σ[i]? = some (some v)) (t : Th (hid j H) v d) : Mk j (tVar i) σ H d := fun H1 s Q q => ⟨v, h, q v H1 (Same.refl H1) (Thj.same t s)⟩
theorem mkA_nil : MkA j tNil σ H [] := fun H1 s Q q => q _ _ (Same.refl H1) .nil
theorem mkA_cons {te : TE} {ta : TA} {d : PyData} {ds : List PyData} (h : Mk j te σ H d) (h2 : MkA j ta σ H ds) : MkA j (tCons te ta) σ H (d :: ds) := fun H1 s Q q =>
  h H1 s _ fun v H2 s2 t2 => h2 H2 (s.trans s2) _ fun vs H3 s3 t3 => q _ _ (s2.trans s3) (.cons (Thj.same t2 s3) t3)
theorem mk_tup {ta : TA} {ds : List PyData} (hj : H j ≠ none) (h : MkA j ta σ H ds) (hl : ds.length ≤ 1000) : Mk j (tTup ta) σ H (.tuple ds) := fun H1 s Q q =>
  h H1 s _ fun vs H2 s2 t2 => ⟨Nat.le_trans (by rw [all2 t2]; exact hl) (by decide), fun p hp => by
    have sp := same_upd (o := .tup vs) hp
    have np := new_ne hp (same_ne (s.trans s2) hj)
    exact q _ _ (s2.trans sp) (.tup (by rw [hid_ne np]; exact upd_same) (ThAllj.same t2 sp))⟩
theorem mk_catA {K : PySem.W.Frag} {ta tb : TE} {ds es : List PyData} (hj : H j ≠ none) (h1 : Mk j ta σ H (.tuple ds)) (h2 : Mk j tb σ H (.tuple es)) (hl : ds.length + es.length ≤ 1000) : Mk j (tOp (rCatA K) ta tb) σ H (.tuple (ds ++ es)) := fun H1 s Q q =>
  h1 H1 s _ fun v H2 s2 t2 => h2 H2 (s.trans s2) _ fun u H3 s3 t3 => by
    have t2' := Thj.same t2 s3
    have s23 := s2.trans s3
    cases t2' with
    | @tup' a xs _ e1 ta1 =>
      have t3' := t3
      cases t3 with
      | @tup' b ys _ e2 ta2 =>
        refine ⟨a, b, xs, ys, rfl, rfl, SqT.of ((hid_same j H3).rd e1), SqT.of ((hid_same j H3).rd e2), Nat.le_trans (by rw [all2 ta1, all2 ta2]; exact hl) (by decide), fun z => ?_, fun _ z => ?_, fun _ _ p hp => ?_⟩
        · subst z
          cases ta1
          exact q _ _ s23 t3'
        · subst z
          cases ta2
          rw [List.append_nil] at q
          exact q _ _ s23 (.tup' e1 ta1)
        · have sp := same_upd (o := .tup (xs ++ ys)) hp
          have np := new_ne hp (same_ne (s.trans s23) hj)
          exact q _ _ (s23.trans sp) (.tup (by rw [hid_ne np]; exact upd_same) (ThAllj.same (ThAll.append ta1 ta2) sp))
theorem mk_ret {te : TE} {D : Ends} {d : PyData} (h : Mk j te σ H d) (k : ∀ v H', Same H H' → Th (hid j H') v d → D.rt v H') : tRet te D σ H := h H (Same.refl H) _ k
end
end KP

set_option Elab.async false
set_option linter.all false
set_option maxRecDepth 100000
set_option maxHeartbeats 1000000
/-! ### slices -/
namespace KP
open PySem PySem.Spec PyProof.Rows L2 KX KT KJ
def cutD (ds : List PyData) (lo hi : Option Int) : List PyData := (ds.drop (HT.sIx ds.length 0 lo)).take (HT.sIx ds.length ds.length hi - HT.sIx ds.length 0 lo)
theorem ThAll.drop {H : Hp} : ∀ {xs : List V} {ds : List PyData} (i : Nat), ThAll H xs ds → ThAll H (xs.drop i) (ds.drop i)
  | _, _, 0, h => h
  | _, _, _ + 1, .nil => .nil
  | _, _, i + 1, .cons a b => ThAll.drop i b
theorem ThAll.cut {H : Hp} {xs : List V} {ds : List PyData} (h : ThAll H xs ds) (lo hi : Option Int) : ThAll H (cutV xs lo hi) (cutD ds lo hi) := by
  unfold cutV cutD
  rw [all2 h]
  exact (h.drop _).take _
theorem cutD_mem {ds : List PyData} {lo hi : Option Int} {d : PyData} (h : d ∈ cutD ds lo hi) : d ∈ ds := List.mem_of_mem_drop (List.mem_of_mem_take h)
theorem cutD_len {ds : List PyData} {lo hi : Option Int} : (cutD ds lo hi).length ≤ ds.length := by
  unfold cutD
  rw [List.length_take, List.length_drop]
  omega
theorem cutD_to {ds : List PyData} {k : Nat} : (cutD ds none (some (k : Int))).length ≤ k := by
  unfold cutD
  rw [HT.sIx_nat, List.length_take]
  omega
section
variable {j : Addr} {σ : L2.St} {H : Hp}
theorem mk_slice {K : PySem.W.Frag} {te : TE} {tl th : TO} {lo hi : Option Int} {ds : List PyData} (hj : H j ≠ none) (h : Mk j te σ H (.tuple ds)) (hl : ∀ H1 Q, Q lo H1 → tl σ H1 Q) (hh : ∀ H1 Q, Q hi H1 → th σ H1 Q) : Mk j (tSl (rSlA K) te tl th) σ H (.tuple (cutD ds lo hi)) := fun H1 s Q q =>
  h H1 s _ fun v H2 s2 t2 => hl _ _ (hh _ _ (by
    have t2' := t2
    cases t2 with
    | @tup' a xs _ e1 ta1 =>
      refine ⟨a, xs, rfl, SqT.of ((hid_same j H2).rd e1), fun z => ?_, fun _ p hp => ?_⟩
      · have e : cutD ds lo hi = ds := by
          unfold cutD
          rw [all2 ta1] at z
          rw [z.1, z.2]
          simp
        rw [e] at q
        exact q _ _ s2 t2'
      · have sp := same_upd (o := .tup (cutV xs lo hi)) hp
        have np := new_ne hp (same_ne (s.trans s2) hj)
        exact q _ _ (s2.trans sp) (.tup (by rw [hid_ne np]; exact upd_same) (ThAllj.same (ta1.cut lo hi) sp))))
theorem p_none {H1 : Hp} {Q : Option Int → Hp → Prop} (q : Q none H1) : tNoPart σ H1 Q := q
theorem p_int {te : TE} {i : Int} (h : ∀ H1, Vi te σ H1 (.int i)) {H1 : Hp} {Q : Option Int → Hp → Prop} (q : Q (some i) H1) : tPart te σ H1 Q := h H1 _ ⟨i, rfl, q⟩
end
end KP

set_option Elab.async false
set_option linter.all false
set_option maxRecDepth 100000
set_option maxHeartbeats 2000000
/-! ### more that makes data -/
namespace KP
open PySem PySem.Spec PyProof.Rows L2 KX KT KJ
section
variable {j : Addr} {σ : L2.St} {H : Hp}
theorem mk_vi {t : TE} {i : Int} (h : ∀ H1, Vi t σ H1 (.int i)) : Mk j t σ H (.int i) := fun H1 s Q q => h H1 _ (q _ _ (Same.refl H1) (.int i))
theorem thAll_ints {H : Hp} : ∀ l : List Int, ThAll H (l.map V.int) (l.map PyData.int)
  | [] => .nil
  | i :: l => .cons (.int i) (thAll_ints l)
theorem mk_rg {ta : TE} {n : Int} (hj : H j ≠ none) (h : ∀ H1, Vi ta σ H1 (.int n)) (h0 : 0 ≤ n) (h1 : n ≤ 1000) : Mk j (tTupRg (tRg1 ta)) σ H (.tuple (((List.range (n - 0).toNat).map fun i => (0 : Int) + (i : Nat)).map PyData.int)) := fun H1 s Q q => h H1 _
  ⟨n, rfl, RgOk.of_le (by decide) (by omega) (by decide) h0, fun p hp => by
    have sp := same_upd (o := .tup (rgV 0 n)) hp
    have np := new_ne hp (same_ne s hj)
    refine q _ _ sp (.tup (by rw [hid_ne np]; exact upd_same) ?_)
    have e : rgV 0 n = ((List.range (n - 0).toNat).map fun i => (0 : Int) + (i : Nat)).map V.int := by
      unfold rgV
      rw [List.map_map]
      rfl
    rw [e]
    exact thAll_ints _⟩
theorem mk_if {c : TT} {ta tb : TE} {b : Bool} {d e : PyData} (h : ∀ H1, Ti c σ H1 b) (h1 : Mk j ta σ H d) (h2 : Mk j tb σ H e) : Mk j (tIf c ta tb) σ H (if b = true then d else e) := fun H1 s Q q => h H1 _ (by
  cases b with
  | true => exact h1 H1 s Q q
  | false => exact h2 H1 s Q q)
end
end KP

set_option Elab.async false
set_option linter.all false
set_option maxRecDepth 100000
set_option maxHeartbeats 4000000
/-! ### set(a list of ints); t[::-1] of a tuple -/
namespace KS
open PySem PySem.Spec PyProof.Rows L2
section
variable {P : Program} {w : World} {A : Around} {E : Value → Shared → Prop} {s : Shared}
/-- a set object with nothing in it -/
abbrev eSet (w : World) : Obj := { cls := .type "set", dict := none, data := .set #[] 0 (.fresh 0 0 (!w.params.followText "set-order")) }
abbrev Grew (h h' : Heap) : Prop := ∀ b o, h.get? b = some o → h'.get? b = some o
/-- what set.__init__ leaves -/
abbrev Made (w : World) (ns : List Int) (s : Shared) (r : Value) (z : Shared) : Prop :=
  r = .none ∧ ∃ g t n, z = { s with heap := g, toks := t } ∧ SetR w g s.heap.objs.size (fun j => decide (j ∈ ns)) n ∧ n ≤ ns.length ∧ Grew s.heap g
set_option maxHeartbeats 8000000 in
theorem set_of_list {a : Addr} {us : Array Value} (ns : List Int) {Q : Value → Shared → Prop} (hn : A.handled = none) (la : s.heap.IsList a us) (iu : IntsAre us.toList ns) (few : ns.length + 1 < scanBound)
    (q : ∀ (g : Heap) (t n : Nat), SetR w g s.heap.objs.size (fun j => decide (j ∈ ns)) n → n ≤ ns.length → Grew s.heap g → Q (.ref s.heap.objs.size) { s with heap := g, toks := t }) :
    wpAny (model P w) A (call (.type "set") [.ref a]) Q E s := by
  have us_len : us.size = ns.length := (Array.length_toList (xs := us)).symm.trans iu.length
  obtain ⟨_, _, hmro⟩ := F.called_set.mro
  have m0 := F.called_set.made
  have m1 := F.called_set.sub
  refine wpAny_call (codeAny_of_tree ?_)
  show wpAny _ _ (callAny (.type "set") _) _ _ _
  refine wpAny_pure ⟨Code.quiet_builtin _ (by decide +kernel), codeAny_builtin F.entry_type_call ?_⟩
  rw [Around.under_plain (weight_type_call_type "set" [.ref a] []) rfl]
  have m2 := F.called_set.notType
  have m3 := F.called_set.canCreate
  have m4 := F.typeCall_set_1 (.ref a)
  repeat (any_goals (first | assumption | wp_step))
  refine codeAny_mono (code_set_led1 (.ref a) (E := E) (Q₁ := fun x z => x = .ref s.heap.objs.size ∧ z = { s with heap := s.heap.push (eSet w) }) ⟨rfl, rfl⟩) fun r s₁ hr => ?_
  rcases r with e | (_ | _ | _ | x)
  · exact hr
  · exact hr.elim
  · exact hr.elim
  · exact hr.elim
  obtain ⟨rfl, rfl⟩ := hr
  have gS : (s.heap.push (eSet w)).get? s.heap.objs.size = some (eSet w) := Heap.get?_push_size _ rfl
  have tS : Shared.TypeIs { s with heap := s.heap.push (eSet w) } (.ref s.heap.objs.size) "set" := ⟨_, gS, rfl⟩
  have m5 := F.called_set.init.lookup
  have m6 := F.called_set.init.bind (.ref s.heap.objs.size)
  repeat (any_goals (first | assumption | wp_step))
  refine codeAny_mono (codeAny_call_builtin (R := wants (Made w ns s) E) F.called_set.init.plain F.entry_set_init (check_set_init_1 tS ?_)) fun r2 s2 hr2 => ?_
  · obtain ⟨⟨lc, ld, lda, lsl⟩, gl, lcls, nl, ldat⟩ := la
    simp only at lcls ldat
    subst lcls; subst ldat
    have gl1 : (s.heap.push (eSet w)).get? a = some { cls := .type "list", dict := ld, data := .seq us nl, slots := lsl } := Heap.get?_push_of_some _ gl
    have f1 := F.sub_list_set
    have f2 := F.sub_list_frozenset
    have f3 : (Value.type "list" == Value.type "dict") = false := by decide
    have la1 : (s.heap.push (eSet w)).IsList a us := ⟨_, gl1, rfl, nl, rfl⟩
    unfold Builtin.«set.__init__» noKeywords Builtin.Frozenset.updateFrom
    generalize kept : pyIter = it
    wp_walk
    subst kept
    refine wpAny_pyIter_list la1 (wpAny_bind (wpAny_runValue ?_))
    have lt : a < s.heap.objs.size := Heap.lt_size gl
    have sz : (s.heap.push (eSet w)).objs.size = s.heap.objs.size + 1 := Heap.size_push ..
    have n1 : a ≠ (s.heap.push (eSet w)).objs.size := by rw [sz]; exact Nat.ne_of_lt (Nat.lt_succ_of_lt lt)
    have n2 : s.heap.objs.size ∉ [(s.heap.push (eSet w)).objs.size, a] := by
      rw [sz]
      simp only [List.mem_cons, List.not_mem_nil, or_false, not_or]
      exact ⟨Nat.ne_of_lt (Nat.lt_succ_self _), Nat.ne_of_gt lt⟩
    have at' : ∀ (i : Nat) (v : Value), us[i]? = some v → ∃ k t, ns[i]? = some k ∧ v = .int k t := fun i v hv => by
      have hi : i < ns.length := by rw [← us_len]; exact (Array.getElem?_eq_some_iff.mp hv).1
      obtain ⟨t, e⟩ := IntsAre.int_at iu i v (by rw [Array.getElem?_toList]; exact hv)
      refine ⟨ns[i], t, List.getElem?_eq_getElem hi, e.trans ?_⟩
      rw [List.getD_eq_getElem?_getD, List.getElem?_eq_getElem hi] <;> rfl
    refine set_update_ints ((Walks.list (by simp [hn]) _ a n1 us).toS) s.heap.objs.size n2 ns us_len few at' (us.size - 0) 0 _ (by omega) (Nat.zero_le _)
      ⟨⟨_, Heap.get?_push_size _ rfl, rfl, rfl⟩, (la1.push _)⟩ ⟨0, Nat.le_refl 0, setR_new_at (Heap.get?_push_of_some _ gS)⟩ fun z n mv hz hR => ?_
    obtain ⟨g, gg, dd, tk, oo⟩ := z
    obtain rfl : gg = s.gens := mv.gens
    obtain rfl : dd = s.drawn := mv.drawn
    obtain rfl : oo = s.os := mv.os
    refine wpAny_pure ?_
    show wpAny _ _ (ret Value.none) _ _ _
    rw [us_len] at hz
    refine wpAny_pure ⟨rfl, g, tk, n, rfl, hR, hz, fun b o e => mv.heap b o ?_ (Heap.get?_push_of_some _ (Heap.get?_push_of_some _ e))⟩
    have hb : b < s.heap.objs.size := Heap.lt_size e
    simp only [List.mem_cons, List.not_mem_nil, or_false, not_or]
    exact ⟨Nat.ne_of_lt hb, by rw [sz]; exact Nat.ne_of_lt (Nat.lt_succ_of_lt hb)⟩
  · rcases r2 with e | (_ | _ | _ | x)
    · exact hr2
    · exact hr2.elim
    · exact hr2.elim
    · exact hr2.elim
    obtain ⟨rfl, g, tk, n, rfl, hR, hz, gr⟩ := hr2
    repeat (any_goals (first | assumption | wp_step))
    exact q _ _ _ hR hz gr
end
section
variable {X : Cx}
/-- set(xs), xs a list of ints -/
def rSetL (K : PySem.W.Frag) (w : World) : List V → Hp → VK → Prop := fun vs H Q => ∃ (a : Addr) (ns : List Int), vs = [.ref a] ∧ SqL K H a (ns.map V.int) ∧ ns.length ≤ 1000 ∧
  ∀ p n, H p = none → n ≤ ns.length → Q (.ref p) (upd H p (SetO w p (fun j => decide (j ∈ ns)) n))
theorem cr_setL (hc : X.calm = true) : CallR X (.type "set") (rSetL X.K X.w) := by
  intro pins s σ H vs us Q I r h
  obtain ⟨a, ns, rfl, hs, hl, q⟩ := h
  rw [Vals.ref1 r]
  obtain ⟨its, rv, pl, hz⟩ := I.list hs
  refine set_of_list ns (I.ok.hd hc) pl.isList (by simpa using intsAre_of rv) (by unfold scanBound; omega) fun g t n R hn gr => ?_
  exact ⟨.ref _, upd H s.heap.objs.size (SetO X.w s.heap.objs.size (fun j => decide (j ∈ ns)) n), I.laid (t' := t) (fun b u e => gr b u e) (Nat.le_refl _) (setO_new R), rfl, q _ _ (I.hok.fresh (Nat.le_refl _)) hn⟩
end

/-! ### t[::-1] -/
section
variable {prog : Program} {w : World} {A : Around} {E : Value → Shared → Prop} {s : Shared}
open HT
theorem adj_rev (n : Nat) : Builtin.Slice.sliceAdjust none none (-1) (n : Int) = ((n : Int) - 1, -1) := by
  unfold Builtin.Slice.sliceAdjust
  simp
theorem places_rev (n : Nat) : Builtin.Slice.slicePlaces ((n : Int) - 1) (-1) (-1) = n := by
  unfold Builtin.Slice.slicePlaces
  have h1 : ¬ ((-1 : Int) > 0) := by omega
  rw [if_neg h1]
  split
  · rw [show (- -1 : Int) = 1 by decide, Int.ediv_one]
    omega
  · omega
theorem applied_rev {sl : Addr} {n : Nat} {u : Tok} {Q : Int × Int × Nat → Shared → Prop} (hs : s.heap.IsSliceOf sl .none .none (.int (-1) u)) (h : Q ((n : Int) - 1, -1, n) s) :
    wpAny (model prog w) A (Builtin.Slice.sliceApplied (.ref sl) (pure (n : Int))) Q E s := by
  obtain ⟨so, hso, _, hf⟩ := id hs
  unfold Builtin.Slice.sliceApplied Builtin.Slice.sliceFields
  refine wpAny_bind (wpAny_bind (wpAny_field hso hf (x := .none) rfl (wpAny_bind (wpAny_field hso hf (x := .none) rfl (wpAny_bind (wpAny_field hso hf (x := .int (-1) u) rfl (wpAny_pure ?_)))))))
  refine wpAny_bind (slicePart_int ?_)
  show wpAny _ _ (if ((-1 : Int) == 0) = true then _ else _) _ _ s
  rw [if_neg (by decide)]
  refine wpAny_bind (slicePart_none (wpAny_bind (slicePart_none (wpAny_bind (wpAny_pure ?_)))))
  show wpAny _ _ (match Builtin.Slice.sliceAdjust none none (-1) (n : Int) with | (lo, hi) => pure (lo, (-1 : Int), Builtin.Slice.slicePlaces lo hi (-1))) _ _ s
  rw [adj_rev n]
  show wpAny _ _ (pure ((n : Int) - 1, (-1 : Int), Builtin.Slice.slicePlaces ((n : Int) - 1) (-1) (-1))) _ _ s
  rw [places_rev]
  exact wpAny_pure h
theorem fm_congr {α β : Type} {f g : α → Option β} : ∀ {l : List α}, (∀ x ∈ l, f x = g x) → l.filterMap f = l.filterMap g
  | [], _ => rfl
  | x :: l, h => by rw [List.filterMap_cons, List.filterMap_cons, h x List.mem_cons_self, fm_congr (l := l) fun y hy => h y (List.mem_cons_of_mem _ hy)]
theorem pick_rev (xs : Array Value) : ((List.range xs.size).filterMap fun (k : Nat) => xs[((xs.size : Int) - 1 + (k : Int) * (-1)).toNat]?).toArray = xs.toList.reverse.toArray := by
  have e : (List.range xs.size).filterMap (fun (k : Nat) => xs[((xs.size : Int) - 1 + (k : Int) * (-1)).toNat]?) = ((List.range xs.size).map fun k => xs.size - 1 - k).filterMap (xs[·]?) := by
    rw [List.filterMap_map]
    refine fm_congr fun k hk => ?_
    have := List.mem_range.mp hk
    show xs[((xs.size : Int) - 1 + (k : Int) * (-1)).toNat]? = xs[xs.size - 1 - k]?
    congr 1
    omega
  rw [e, PySem.W.krv_range, List.filterMap_reverse, PySem.W.krv_all]
theorem rev_tup {t sl : Addr} {us : Array Value} {u : Tok} {Q : Value → Shared → Prop} (ht : IsTup s.heap t us) (hs : s.heap.IsSliceOf sl .none .none (.int (-1) u)) (hz : us.size ≤ sizeLine)
    (h : Q (.ref s.heap.objs.size) { s with heap := s.heap.push { cls := .type "tuple", data := .seq us.toList.reverse.toArray } }) : wpAny (model prog w) A (getItem (.ref t) (.ref sl)) Q E s := by
  have ok : sizeOk (.seq us.toList.reverse.toArray) := by
    show us.toList.reverse.toArray.size ≤ sizeLine
    rw [List.size_toArray, List.length_reverse, Array.length_toList]
    exact hz
  obtain ⟨so, hso, hsc, _⟩ := id hs
  have tS : s.TypeIs (.ref sl) "slice" := ⟨so, hso, hsc⟩
  unfold getItem
  try with_reducible refine wpAny_holding ?_
  first | refine wpAny_bind (wpAny_pure ?_) | skip
  refine wpAny_bind (wpAny_sequenceKey ht.typeIs (by decide) ?_)
  refine wpAny_bind (wpAny_callSpecial?_slot (name := Str.ofString "__getitem__") ht.typeIs PyProof.Rows.slot_tuple_getitem (wpAny_call_entry PyProof.Rows.slot_tuple_getitem ht.typeIs entry_tuple_getitem ?_ (args_tuple_getitem _ _)))
  show wpAny _ _ (Builtin.Tuple.tupleItemsOf (.ref t) >>= _) _ _ s
  refine wpAny_bind (tupleItemsOf_ ht (wpAny_bind (wpAny_typeOf tS ?_)))
  rw [if_pos (by decide)]
  refine wpAny_bind (applied_rev hs ?_)
  have no : ¬ (((us.size : Int) - 1 == 0 && (-1 : Int) == 1 && us.size == us.size) = true) := by
    rw [show ((-1 : Int) == 1) = false by decide, Bool.and_false, Bool.false_and]
    exact Bool.false_ne_true
  show wpAny _ _ (if ((us.size : Int) - 1 == 0 && (-1 : Int) == 1 && us.size == us.size) = true then _ else _) _ _ s
  rw [if_neg no, pick_rev]
  first
    | exact wpAny_bind (m := Builtin.Tuple.tupleExact _) (wpAny_newObj_type (wpAny_pure ⟨_, rfl, wpAny_pure h⟩) ok)
    | exact wpAny_bind (m := Builtin.Tuple.tupleExact _) (wpAny_newObj_type (wpAny_bind (wpAny_pure (wpAny_pure ⟨_, rfl, wpAny_pure h⟩))) ok)
    | exact wpAny_bind (wpAny_bind (m := Builtin.Tuple.tupleExact _) (wpAny_newObj_type (wpAny_pure (wpAny_pure ⟨_, rfl, wpAny_pure h⟩)) ok))
    | exact wpAny_bind (wpAny_bind (m := Builtin.Tuple.tupleExact _) (wpAny_newObj_type (wpAny_pure ⟨_, rfl, wpAny_pure h⟩) ok))
end
section
variable {X : Cx}
def tRevT (K : PySem.W.Frag) (te : TE) : TE := fun σ H Q => te σ H fun x H1 => ∃ a xs, x = .ref a ∧ SqT K H1 a xs ∧ ∀ p, H1 p = none → Q (.ref p) (upd H1 p (.tup xs.reverse))
theorem pe_revT {e : Expr} {te : TE} {k : Nat} {p1 p2 p3 pos : Pos} (he : PE X e te) : PE X (.Subscript e (.Slice none none (some (.UnaryOp .USub (.Constant (.int 1) k p1) p2)) p3) pos) (tRevT X.K te) := by
  refine ⟨fun pins s σ H Q I h => Subscript_ (thn (he.run pins s σ H _ I h) fun v s1 ⟨x, H1, I1, r1, q1⟩ => ?_)⟩
  obtain ⟨a, xs, rfl, hx, q⟩ := q1
  cases r1
  have st : PO X (some (.UnaryOp .USub (.Constant (.int 1) k p1) p2)) (tPart (tUn (rU fun i => .int (-i)) (tC (.int 1)))) := po_some (pe_un un_neg pe_int)
  refine wpAny_Slice (thn (po_none.run pins s1 σ H1 (fun o G => o = none ∧ G = H1) I1 ⟨rfl, rfl⟩) fun vl s2 ⟨l, H2, I2, pl, el, e2⟩ => ?_)
  subst el e2
  refine thn (po_none.run pins s2 σ H2 (fun o G => o = none ∧ G = H2) I2 ⟨rfl, rfl⟩) fun vu s3 ⟨u, H3, I3, pu, eu, e3⟩ => ?_
  subst eu e3
  refine thn (st.run pins s3 σ H3 (fun o G => o = some (-1) ∧ G = H3) I3 ⟨1, rfl, -1, rfl, rfl, rfl⟩) fun vs s4 ⟨o, H4, I4, ps, eo, e4⟩ => ?_
  subst eo e4
  cases pl
  cases pu
  cases ps with
  | int _ tk =>
    have I5 : Inv X pins σ H4 { s4 with heap := s4.heap.push { cls := .type "slice", data := .fields #[.none, .none, .int (-1) tk] } } := I4.kept (t' := s4.toks) fun b ob q => Heap.get?_push_of_some _ q
    obtain ⟨its, r, ht, hz⟩ := I5.tuple hx
    have hlen := r.length
    show wpAny (model X.prog X.w) X.A (subscriptTail e (.Slice none none (some (.UnaryOp .USub (.Constant (.int 1) k p1) p2)) p3) (.ref a) (.ref s4.heap.objs.size)) (EP X pins σ Q) X.xe { s4 with heap := s4.heap.push { cls := .type "slice", data := .fields #[.none, .none, .int (-1) tk] } }
    refine tail_any (ops := [.ref a, .ref s4.heap.objs.size]) ht.typeIs PyProof.Rows.slot_tuple_getitem.lookup ?_ (by with_unfolding_all rfl)
    refine rev_tup ht (Heap.IsSliceOf.new _ .none .none (.int (-1) tk)) (by rw [List.size_toArray, ← hlen]; exact hz) ?_
    refine ⟨.ref _, _, I5.laid (t' := s4.toks) (o := .tup xs.reverse) (fun b ob q => Heap.get?_push_of_some _ q) (Nat.le_refl _) ?_, rfl, q _ (I5.hok.fresh (Nat.le_refl _))⟩
    exact ⟨by rw [List.length_reverse]; exact hz, _, r.reverse, IsTup.new _ _⟩
end
end KS

set_option Elab.async false
set_option linter.all false
set_option maxRecDepth 100000
set_option maxHeartbeats 2000000
/-! ### zip(tuple, list); t * 1 -/
namespace MZ
open PySem PySem.Spec PyProof.Rows L2
abbrev G1 (h : Heap) (o1 : Obj) : Heap := h.push o1
abbrev G2 (h : Heap) (o1 o2 : Obj) : Heap := (G1 h o1).push o2
abbrev G3 (h : Heap) (o1 o2 : Obj) : Heap := (G2 h o1 o2).push { cls := .type "tuple", data := .seq #[.ref h.objs.size, .ref (G1 h o1).objs.size] }
abbrev G4 (h : Heap) (o1 o2 : Obj) : Heap := (G3 h o1 o2).push { cls := .type "tuple", data := .seq #[.none, .none] }
abbrev G5 (h : Heap) (o1 o2 : Obj) : Heap := (G4 h o1 o2).push { cls := .type "zip", data := .fields #[.none, .bool false, .bool false, .ref (G2 h o1 o2).objs.size, .ref (G3 h o1 o2).objs.size] }
theorem meets_zipB {v1 v2 : Value} {o1 o2 : Obj} {H1 H2 : Heap → Prop} (B1 : Begins v1 o1 H1) (B2 : Begins v2 o2 H2) :
    Meets (Builtin.«zip.__new__» ⟨[.type "zip", v1, v2], []⟩) (fun _ R s => H1 s.heap ∧ H2 s.heap ∧ R (.ok (.ret (.ref (G4 s.heap o1 o2).objs.size))) { s with heap := G5 s.heap o1 o2 }) :=
  .of_wp fun prog w A R s h => by
    obtain ⟨hp, g, d, tk, os⟩ := s
    obtain ⟨h1, h2, h⟩ := h
    have hsub := sub_zip
    have p1 : ∀ {A' : Around} {E : Value → Shared → Prop} {Q : Value → Shared → Prop}, Q (.ref hp.objs.size) ⟨hp.push o1, g, d, tk, os⟩ → wpAny (model prog w) A' (pyIter v1) Q E ⟨hp, g, d, tk, os⟩ := fun q => B1.iter prog w _ _ ⟨hp, g, d, tk, os⟩ _ h1 q
    have p2 : ∀ {A' : Around} {E : Value → Shared → Prop} {Q : Value → Shared → Prop}, Q (.ref (hp.push o1).objs.size) ⟨(hp.push o1).push o2, g, d, tk, os⟩ → wpAny (model prog w) A' (pyIter v2) Q E ⟨hp.push o1, g, d, tk, os⟩ := fun q =>
      B2.iter prog w _ _ ⟨hp.push o1, g, d, tk, os⟩ _ (B2.keeps _ _ h2 fun b o' e => Heap.get?_push_of_some _ e) q
    wp_walk using p1, p2
    exact ⟨_, rfl, h⟩
section
variable {prog : Program} {w : World} {A : Around} {E : Value → Shared → Prop} {s : Shared}
theorem call_zipB {v1 v2 : Value} {o1 o2 : Obj} {H1 H2 : Heap → Prop} {Q : Value → Shared → Prop} (B1 : Begins v1 o1 H1) (B2 : Begins v2 o2 H2) (q1 : H1 s.heap) (q2 : H2 s.heap)
    (h : ∀ h', IsZip h' (s.heap.objs.size + 4) (s.heap.objs.size + 2) (s.heap.objs.size + 3) .none → IsTupOf2 h' (s.heap.objs.size + 2) (.ref s.heap.objs.size) (.ref (s.heap.objs.size + 1)) → IsTupOf2 h' (s.heap.objs.size + 3) .none .none →
      h'.get? s.heap.objs.size = some o1 → h'.get? (s.heap.objs.size + 1) = some o2 → (∀ c o, s.heap.get? c = some o → h'.get? c = some o) → Q (.ref (s.heap.objs.size + 4)) { s with heap := h' }) :
    wpAny (model prog w) A (call (.type "zip") [v1, v2]) Q E s := by
  refine callType_new F.called_zip (by decide) (F.typeCall_zip_2 _ _) (F.newCall_zip_2 _ _) (fun obj => F.args_object_init_3 obj _ _) F.entry_zip_new (meets_zipB B1 B2) ⟨q1, q2, ?_⟩
  have s1 : (G1 s.heap o1).objs.size = s.heap.objs.size + 1 := Heap.size_push ..
  have s2 : (G2 s.heap o1 o2).objs.size = s.heap.objs.size + 2 := by rw [Heap.size_push, s1]
  have s3 : (G3 s.heap o1 o2).objs.size = s.heap.objs.size + 3 := by rw [Heap.size_push, s2]
  have s4 : (G4 s.heap o1 o2).objs.size = s.heap.objs.size + 4 := by rw [Heap.size_push, s3]
  have r5 : (G5 s.heap o1 o2).get? (G4 s.heap o1 o2).objs.size = some _ := Heap.get?_push_size _ rfl
  have r4 : (G5 s.heap o1 o2).get? (G3 s.heap o1 o2).objs.size = some _ := Heap.get?_push_of_some _ (Heap.get?_push_size _ rfl)
  have r3 : (G5 s.heap o1 o2).get? (G2 s.heap o1 o2).objs.size = some _ := Heap.get?_push_of_some _ (Heap.get?_push_of_some _ (Heap.get?_push_size _ rfl))
  have r2 : (G5 s.heap o1 o2).get? (G1 s.heap o1).objs.size = some _ := Heap.get?_push_of_some _ (Heap.get?_push_of_some _ (Heap.get?_push_of_some _ (Heap.get?_push_size _ B2.free)))
  have r1 : (G5 s.heap o1 o2).get? s.heap.objs.size = some _ := Heap.get?_push_of_some _ (Heap.get?_push_of_some _ (Heap.get?_push_of_some _ (Heap.get?_push_of_some _ (Heap.get?_push_size _ B1.free))))
  show _ ∧ _
  rw [s2, s3, s4] at r5
  rw [s1, s2] at r3
  rw [s3] at r4
  rw [s1] at r2
  rw [s4]
  exact ⟨⟨_, r5, rfl⟩, h _ r5 r3 r4 r1 r2 fun c o x => Heap.get?_push_of_some _ (Heap.get?_push_of_some _ (Heap.get?_push_of_some _ (Heap.get?_push_of_some _ (Heap.get?_push_of_some _ x))))⟩
end
/-- a tuple and a list, in new pairs -/
def ItzM (K : PySem.W.Frag) (a b : Addr) : It :=
  ⟨fun i H => ∃ (xs ys : List V) (x y : V), SqT K H a xs ∧ SqL K H b ys ∧ xs[i]? = some x ∧ ys[i]? = some y,
    fun i H v H' => ∃ T x y, v = .ref T ∧ H T = none ∧ H' = upd H T (.tup [x, y]) ∧ (∀ xs, SqT K H a xs → xs[i]? = some x) ∧ ∀ ys, SqL K H b ys → ys[i]? = some y,
    fun i H => ∃ xs ys : List V, SqT K H a xs ∧ SqL K H b ys ∧ i ≤ xs.length ∧ i ≤ ys.length ∧ (i = xs.length ∨ i = ys.length)⟩
structure Ap (z TI TO i1 i2 a b : Addr) : Prop where
  sep : ZipSep2 z TI TO i1 i2 [i1, a] [i2, b]
  n1 : a ≠ i1
  n2 : b ≠ i2
theorem turn_zipM {P : Program} {w : World} {K : PySem.W.Frag} {elts : List Expr} {kk : Nat} {tpos : Pos} {a b z TI TO i1 i2 : Addr} (D : Ap z TI TO i1 i2 a b) :
    Turn P w K (.Tuple elts kk tpos) (ItzM K a b) [z, TI, TO, i1, i2] z (fun i h => IsZip h z TI TO .none ∧ IsTupOf2 h TI (.ref i1) (.ref i2) ∧ (∃ x y, IsTupOf2 h TO x y) ∧ h.IsTupleIter i1 a i ∧ h.IsListIter i2 b i) where
  mem := by simp
  obj := fun i h st c hc => by
    obtain ⟨hz, hI, ⟨x, y, hO⟩, ⟨o1, e1, _, d1⟩, ⟨o2, e2, _, d2⟩⟩ := st
    simp only [List.mem_cons, List.not_mem_nil, or_false] at hc
    rcases hc with rfl | rfl | rfl | rfl | rfl
    · exact ⟨_, hz, fun v q => nomatch q⟩
    · exact ⟨_, hI, fun v q => nomatch q⟩
    · exact ⟨_, hO, fun v q => nomatch q⟩
    · exact ⟨o1, e1, fun v q => by rw [d1] at q; cases q⟩
    · exact ⟨o2, e2, fun v q => by rw [d2] at q; cases q⟩
  keep := fun i h h' st k => by
    obtain ⟨hz, hI, ⟨x, y, hO⟩, h1, h2⟩ := st
    exact ⟨k z (by simp) _ hz, k TI (by simp) _ hI, ⟨x, y, k TO (by simp) _ hO⟩, h1.at fun o q => k i1 (by simp) o q, h2.at fun o q => k i2 (by simp) o q⟩
  item := by
    intro X hP hw hK hc i pins s σ H E I hf st hg
    subst hP hw hK
    obtain ⟨hz, hI, ⟨x0, y0, hO⟩, h1, h2⟩ := st
    obtain ⟨xs, ys, x, y, hqx, hqy, hx, hy⟩ := hg
    obtain ⟨its, rv, p, _⟩ := I.tuple hqx
    obtain ⟨its2, rv2, p2, _⟩ := I.list hqy
    obtain ⟨u, hu, ru⟩ := rv.get hx
    obtain ⟨u2, hu2, ru2⟩ := rv2.get hy
    have hzl : z < s.heap.objs.size := Heap.lt_size hz
    have hi1 : i < its.toArray.size := by simpa using (List.getElem?_eq_some_iff.mp hu).1
    have hi2 : i < its2.toArray.size := by simpa using (List.getElem?_eq_some_iff.mp hu2).1
    have pt : s.heap.IsTuple a its.toArray := p
    refine wpAny_pyNext_zipD2_item D.sep (Draws.tuple (A := X.A.in1) (I.ok.hd hc) i1 a D.n1 its.toArray) (Draws.list (A := X.A.in1) (I.ok.hd hc) i2 b D.n2 its2.toArray) hz hI hO ⟨h1, pt⟩ ⟨h2, p2.isList⟩ hi1 hi2 fun w1 w2 h' tk y1 y2 z' O' st1 st2 hT hsz hk => ?_
    obtain rfl : u = w1 := by
      have e : its[i]? = some w1 := by simpa using y1
      rw [hu] at e
      exact Option.some.inj e
    obtain rfl : u2 = w2 := by
      have e : its2[i]? = some w2 := by simpa using y2
      rw [hu2] at e
      exact Option.some.inj e
    refine ⟨_, rfl, wpAny_letOwnedTupleGo_zip (s := { s with heap := h', toks := tk }) z' fun h'' z'' sb => ?_⟩
    have hT2 : h''.get? s.heap.objs.size = some { cls := .type "tuple", data := .seq #[u, u2] } := (sb.2 _ (Nat.ne_of_gt hzl)).trans hT
    have new : ObjOk X.prog X.w (upd H s.heap.objs.size (.tup [x, y])) h'' s.heap.objs.size (.tup [x, y]) := ⟨by show 2 ≤ sizeLine; decide, [u, u2], .cons ru (.cons ru2 .nil), ⟨_, hT2, rfl, _, rfl⟩⟩
    have I1 : Inv X pins σ (upd H s.heap.objs.size (.tup [x, y])) { s with heap := h'', toks := tk } :=
      I.turnedNew (ch := [z, TI, TO, i1, i2]) (fun c o hb q => (sb.2 c (fun q' => hb (by simp [q']))).trans (hk c o (fun q' => hb (by simp [q'])) (fun q' => hb (by simp [q'])) (fun q' => hb (by simp [q'])) (fun q' => hb (by simp [q'])) q)) hf (Nat.le_refl _) new
    have m1 : i1 ≠ z := fun e => D.sep.zf1 (by simp [e])
    have m2 : i2 ≠ z := fun e => D.sep.zf2 (by simp [e])
    refine ⟨.ref s.heap.objs.size, _, I1, rfl, ⟨_, x, y, rfl, I.hok.fresh (Nat.le_refl _), rfl, fun l hl => by rw [I.tuple_inj hl hqx]; exact hx, fun l hl => by rw [I.list_inj hl hqy]; exact hy⟩, ⟨z'', ?_, ⟨u, u2, ?_⟩, ?_, ?_⟩, fun c hcm => ?_⟩
    · exact (sb.2 _ D.sep.TIz).trans (hk _ _ D.sep.TIz D.sep.TITO D.sep.TIi1 D.sep.TIi2 hI)
    · exact (sb.2 _ D.sep.TOz).trans O'
    · exact st1.1.at fun o q => (sb.2 _ m1).trans q
    · exact st2.1.at fun o q => (sb.2 _ m2).trans q
    · have hlt : c < s.heap.objs.size := by
        simp only [List.mem_cons, List.not_mem_nil, or_false] at hcm
        rcases hcm with rfl | rfl | rfl | rfl | rfl
        · exact hzl
        · exact Heap.lt_size hI
        · exact Heap.lt_size hO
        · obtain ⟨_, e1, _⟩ := h1; exact Heap.lt_size e1
        · obtain ⟨_, e2, _⟩ := h2; exact Heap.lt_size e2
      rw [upd_ne (Nat.ne_of_lt hlt)]
      exact (hf c hcm).1
  done := by
    intro X hP hw hK hc i pins s σ H E I hf st hg
    subst hP hw hK
    obtain ⟨hz, hI, ⟨x0, y0, hO⟩, h1, h2⟩ := st
    obtain ⟨xs, ys, hqx, hqy, hl1, hl2, hend⟩ := hg
    obtain ⟨its, rv, p, _⟩ := I.tuple hqx
    obtain ⟨its2, rv2, p2, _⟩ := I.list hqy
    have l1 := rv.length
    have l2 := rv2.length
    have pt : s.heap.IsTuple a its.toArray := p
    refine wpAny_pyNext_zipD2_end D.sep (Draws.tuple (A := X.A.in1) (I.ok.hd hc) i1 a D.n1 its.toArray) (Draws.list (A := X.A.in1) (I.ok.hd hc) i2 b D.n2 its2.toArray) hz hI hO ⟨h1, pt⟩ ⟨h2, p2.isList⟩ (by simp; omega) (by simp; omega) (by simp; omega) fun h' tk hk => ?_
    exact ⟨rfl, I.turnedL (t' := tk) (ch := [z, TI, TO, i1, i2]) (fun c o hb q => hk c o (fun q' => hb (by simp [q'])) (fun q' => hb (by simp [q'])) (fun q' => hb (by simp [q'])) (fun q' => hb (by simp [q'])) q) hf⟩
  self := fun A i s Q E st h => wpAny_pyIter_zip st.1 h
def iZipM (K : PySem.W.Frag) (ta : TA) : TI := fun σ H R => ta σ H fun vs H1 => ∃ a b xs ys, vs = [.ref a, .ref b] ∧ SqT K H1 a xs ∧ SqL K H1 b ys ∧ R (ItzM K a b) H1
theorem pi_zipM {X : Cx} {e e2 : Expr} {ta : TA} {p pos tpos : Pos} {elts : List Expr} {kk : Nat} (hg : Gl X "zip") (hm : X.mg "zip" = none) (ha : PA X [e, e2] ta)
    (hs : starEach [e, e2] X.env = (false, eval e X.env) :: starEach [e2] X.env := by rfl) (hpl : (backTo pos (starEach [e2] X.env)).any (·.1) = false := by rfl) : PI X (.Tuple elts kk tpos) (.Call (.Name "zip" p) [e, e2] [] pos) (iZipM X.K ta) := by
  refine ⟨fun pins s σ H R I h => Call_ (ld_blt I hg hm PyProof.Rows.boot_zip (PyProof.Rows.callWith_type1 (thn (ha.run pos pins s σ H _ I h) fun us s1 ⟨vs, H1, I1, r1, q1⟩ => ?_) hs hpl))⟩
  obtain ⟨a, b, xs, ys, rfl, hqx, hqy, q⟩ := q1
  cases r1 with
  | cons r rr => cases rr with
    | cons r' rr =>
      cases rr
      cases r
      cases r'
      obtain ⟨its, rv, p1, _⟩ := I1.tuple hqx
      obtain ⟨its2, rv2, p2, _⟩ := I1.list hqy
      have pt : s1.heap.IsTuple a its.toArray := p1
      obtain ⟨oa, ea, _⟩ := id pt
      obtain ⟨ob, eb, _⟩ := id p2.isList
      have la := Heap.lt_size ea
      have lb := Heap.lt_size eb
      refine call_zipB (begins_tuple a its.toArray) (begins_list b its2.toArray) pt p2.isList fun h' hz hI hO h1 h2 hk => wpAny_pyIter_zip hz ?_
      have I2 : Inv X pins σ H1 { s1 with heap := h' } := I1.kept (t' := s1.toks) hk
      have ad : ∀ {m n : Nat}, m ≠ n → s1.heap.objs.size + m ≠ s1.heap.objs.size + n := fun h e => h (Nat.add_left_cancel e)
      have ap : Ap (s1.heap.objs.size + 4) (s1.heap.objs.size + 2) (s1.heap.objs.size + 3) s1.heap.objs.size (s1.heap.objs.size + 1) a b := by
        have lt : ∀ {c : Addr} {n : Nat}, c < s1.heap.objs.size → s1.heap.objs.size + n ≠ c := fun h e => Nat.not_lt.mpr (Nat.le_add_right _ _) (e ▸ h)
        have z0 : ∀ {n : Nat}, n ≠ 0 → s1.heap.objs.size + n ≠ s1.heap.objs.size := fun h => ad (n := 0) h
        refine ⟨⟨ad (by decide), ad (by decide), ad (by decide), z0 (by decide), by simp, ?_, ?_, ad (by decide), by simp, ?_, ?_, ?_, ?_⟩, Nat.ne_of_lt la, (lt lb).symm⟩
        · simp only [List.mem_cons, List.not_mem_nil, or_false, not_or]; exact ⟨z0 (by decide), lt la⟩
        · simp only [List.mem_cons, List.not_mem_nil, or_false, not_or]; exact ⟨z0 (by decide), lt la⟩
        · simp only [List.mem_cons, List.not_mem_nil, or_false, not_or]; exact ⟨ad (by decide), lt lb⟩
        · simp only [List.mem_cons, List.not_mem_nil, or_false, not_or]; exact ⟨ad (by decide), lt lb⟩
        · simp only [List.mem_cons, List.not_mem_nil, or_false, not_or]; exact ⟨(z0 (by decide)).symm, Nat.ne_of_gt lb⟩
        · simp only [List.mem_cons, List.not_mem_nil, or_false, not_or]; exact ⟨z0 (by decide), lt la⟩
      refine ⟨s1.heap.objs.size + 4, [s1.heap.objs.size + 4, s1.heap.objs.size + 2, s1.heap.objs.size + 3, s1.heap.objs.size, s1.heap.objs.size + 1], _, _, H1, rfl, I2, turn_zipM ap, ⟨hz, hI, ⟨_, _, hO⟩, ⟨_, h1, rfl, rfl⟩, ⟨_, h2, rfl, rfl⟩⟩, fun c hc => ?_, q⟩
      have hle : s1.heap.objs.size ≤ c := by
        simp only [List.mem_cons, List.not_mem_nil, or_false] at hc
        rcases hc with rfl | rfl | rfl | rfl | rfl
        · exact Nat.le_add_right _ _
        · exact Nat.le_add_right _ _
        · exact Nat.le_add_right _ _
        · exact Nat.le_refl _
        · exact Nat.le_add_right _ _
      exact I1.fpOk hle (I1.hok.fresh hle)
theorem walk_zipM {K : PySem.W.Frag} {a b : Addr} {xs ys : List V} {n : Nat} (hn : n = min xs.length ys.length) : Walk (ItzM K a b) n (fun H => SqT K H a xs ∧ SqL K H b ys) (YPair (fun i => xs[i]?) (fun i => ys[i]?)) := by
  subst hn
  refine ⟨fun i H hi q => ⟨xs, ys, xs[i]'(by omega), ys[i]'(by omega), q.1, q.2, List.getElem?_eq_getElem _, List.getElem?_eq_getElem _⟩, fun H q => ⟨xs, ys, q.1, q.2, by omega, by omega, by omega⟩, fun i H v H' _ q y => ?_⟩
  obtain ⟨T, x, z, h1, h2, h3, h4, h5⟩ := y
  exact ⟨T, x, z, h1, h2, h3, h4 _ q.1, h5 _ q.2⟩
theorem walk_zipTT {K : PySem.W.Frag} {a b : Addr} {xs ys : List V} {n : Nat} (hn : n = min xs.length ys.length) : Walk (RZ.ItzT K a b) n (fun H => SqT K H a xs ∧ SqT K H b ys) (YPair (fun i => xs[i]?) (fun i => ys[i]?)) := by
  subst hn
  refine ⟨fun i H hi q => ⟨xs, ys, xs[i]'(by omega), ys[i]'(by omega), q.1, q.2, List.getElem?_eq_getElem _, List.getElem?_eq_getElem _⟩, fun H q => ⟨xs, ys, q.1, q.2, by omega⟩, fun i H v H' _ q y => ?_⟩
  obtain ⟨T, x, z, h1, h2, h3, h4, h5⟩ := y
  exact ⟨T, x, z, h1, h2, h3, h4 _ q.1, h5 _ q.2⟩
end MZ

set_option Elab.async false
set_option linter.all false
set_option maxRecDepth 100000
set_option maxHeartbeats 2000000
/-! ### t * k, k from 1 on -/
namespace MZ
open PySem PySem.Spec PyProof.Rows L2
theorem tuple_once (l : Addr) (items : Array Value) (n : Nat) (dd : Option Addr) (sl : Array (Option Value)) (u : Tok) :
    Meets (Builtin.«tuple.__mul__» ⟨[.ref l, .int 1 u], []⟩) (fun _ R s => s.heap.get? l = some { cls := .type "tuple", dict := dd, data := .seq items n, slots := sl } ∧ R (.ok (.ret (Value.ref l))) s) :=
  .of_wp fun prog w A R s h => by
    obtain ⟨hp, g, d, tk, os⟩ := s
    obtain ⟨hl, h⟩ := h
    have f1 := AutoSeq1.idx_int
    wp_walk using wpAny_loadPart' hl
    repeat (first
      | (refine wpAny_ite_true (by simp) ?_; wp_walk using wpAny_loadPart' hl)
      | (refine wpAny_ite_false (by simp) ?_; wp_walk using wpAny_loadPart' hl))
    first
      | exact ⟨_, rfl, h⟩
      | exact h
def rRepA (K : PySem.W.Frag) : R2 := fun x y H Q => ∃ l k xs, x = .ref l ∧ y = .int k ∧ SqT K H l xs ∧ xs ≠ [] ∧ 1 ≤ k ∧ k ≤ 1000 ∧ xs.length ≤ 1000 ∧ (k = 1 → Q (.ref l) H) ∧ (k ≠ 1 → ∀ p, H p = none → Q (.ref p) (upd H p (.tup (List.replicate k.toNat xs).flatten)))
theorem op_repA {X : Cx} : OpR X (binaryOp .Mult) (rRepA X.K) := by
  intro pins s σ H x y v u Q I rx ry h
  obtain ⟨l, k, xs, rfl, rfl, hT, hne, h1, h2, hz, q1, q2⟩ := h
  by_cases c : k = 1
  · subst c
    cases rx
    obtain ⟨t, rfl⟩ := ry
    obtain ⟨its, r, ⟨⟨cls, dd, data, sl⟩, ho, hc, n, hd⟩, hs⟩ := I.tuple hT
    simp only at hc hd
    subst hc hd
    exact wpAny_binaryOp_repeat_ref (T := "tuple") (U := "int") (by decide) ⟨_, ho, rfl⟩ (fun s' => typeIs_int s' 1 t) noFill_tuple_mul F.fills_int_mul F.slot_int_rmul repeat_tuple F.slot_int_index.lookup
      (call_meets F.slot_int_rmul (typeIs_int s 1 t) F.entry_int_rmul (F.args_int_rmul_2 _ _) (int_rmul_tuple 1 t l its.toArray n dd sl)
        ⟨ho, rfl, ⟨_, ho, rfl⟩, call_meets F.slot_tuple_mul ⟨_, ho, rfl⟩ F.entry_tuple_mul (F.args_tuple_mul_2 _ _) (tuple_once l its.toArray n dd sl t) ⟨ho, ⟨.ref l, H, I, rfl, q1 rfl⟩⟩⟩)
  · exact op_repT pins s σ H _ _ v u Q I rx ry ⟨l, k, xs, rfl, rfl, hT, hne, by omega, h2, hz, q2 c⟩
end MZ

set_option Elab.async false
set_option linter.all false
set_option maxRecDepth 100000
set_option maxHeartbeats 1000000
/-! ### fractions: lowest terms, bounds by a common denominator -/
namespace FR
abbrev Fr := Int × Int
/-- t / l in lowest terms -/
def low (t l : Int) : Fr := (t / (Nat.gcd t.natAbs l.natAbs : Nat), l / (Nat.gcd t.natAbs l.natAbs : Nat))
def addF (x y : Fr) : Fr := low (x.1 * y.2 + y.1 * x.2) (x.2 * y.2)
def lesF (x y : Fr) : Fr := low (x.1 * y.2 - y.1 * x.2) (x.2 * y.2)
def mulF (x y : Fr) : Fr := low (x.1 * y.1) (x.2 * y.2)
def negF (x : Fr) : Fr := (-x.1, x.2)
theorem les_neg (x y : Fr) : addF x (negF y) = lesF x y := by
  unfold addF lesF negF
  have e : x.1 * y.2 + -y.1 * x.2 = x.1 * y.2 - y.1 * x.2 := by rw [Int.neg_mul]; omega
  rw [e]
theorem low_one (t : Int) : low t 1 = (t, 1) := by
  unfold low
  rw [show (1 : Int).natAbs = 1 from rfl, Nat.gcd_one_right]
  simp
theorem add_one {x y : Fr} (h1 : x.2 = 1) (h2 : y.2 = 1) : addF x y = (x.1 + y.1, 1) := by
  unfold addF
  rw [h1, h2, Int.mul_one, Int.mul_one, Int.mul_one, low_one]
theorem mul_one {x y : Fr} (h1 : x.2 = 1) (h2 : y.2 = 1) : mulF x y = (x.1 * y.1, 1) := by
  unfold mulF
  rw [h1, h2, Int.mul_one, low_one]
/-- a denominator of M, at most N -/
structure Bd (M N : Nat) (x : Fr) : Prop where
  pos : 0 < x.2
  dvd : x.2 ∣ (M : Int)
  le : x.1.natAbs ≤ N * x.2.natAbs
theorem gcd_pos {t l : Int} (h : 0 < l) : 0 < Nat.gcd t.natAbs l.natAbs := Nat.gcd_pos_of_pos_right _ (by omega)
theorem low_abs {t l : Int} (h : 0 < l) : (low t l).1.natAbs = t.natAbs / Nat.gcd t.natAbs l.natAbs ∧ (low t l).2 = ((l.natAbs / Nat.gcd t.natAbs l.natAbs : Nat) : Int) := by
  have hg := gcd_pos (t := t) h
  have d1 : ((Nat.gcd t.natAbs l.natAbs : Nat) : Int) ∣ t := Int.ofNat_dvd_left.mpr (Nat.gcd_dvd_left _ _)
  have d2 : Nat.gcd t.natAbs l.natAbs ∣ l.natAbs := Nat.gcd_dvd_right _ _
  constructor
  · show (t / _).natAbs = _
    rw [Int.natAbs_ediv_of_dvd d1]
    rfl
  · show l / _ = _
    have e : l = (l.natAbs : Int) := by omega
    rw [e]
    simp [Int.natAbs_natCast]
theorem low_bd {t l : Int} {M N : Nat} (h : 0 < l) (hd : l ∣ t * (M : Int)) (hn : t.natAbs ≤ N * l.natAbs) : Bd M N (low t l) := by
  have hg := gcd_pos (t := t) h
  obtain ⟨e1, e2⟩ := low_abs (t := t) h
  have g1 : Nat.gcd t.natAbs l.natAbs ∣ t.natAbs := Nat.gcd_dvd_left _ _
  have g2 : Nat.gcd t.natAbs l.natAbs ∣ l.natAbs := Nat.gcd_dvd_right _ _
  have hl : 0 < l.natAbs := by omega
  have q2 : 0 < l.natAbs / Nat.gcd t.natAbs l.natAbs := Nat.div_pos (Nat.le_of_dvd hl g2) hg
  refine ⟨by rw [e2]; omega, ?_, ?_⟩
  · rw [e2]
    refine Int.natCast_dvd_natCast.mpr ?_
    have hd' : l.natAbs ∣ t.natAbs * M := by
      have := Int.natAbs_dvd_natAbs.mpr hd
      rwa [Int.natAbs_mul, Int.natAbs_natCast] at this
    have cp : Nat.Coprime (l.natAbs / Nat.gcd t.natAbs l.natAbs) (t.natAbs / Nat.gcd t.natAbs l.natAbs) := (Nat.coprime_div_gcd_div_gcd hg).symm
    refine cp.dvd_of_dvd_mul_left ?_
    have e3 : l.natAbs = Nat.gcd t.natAbs l.natAbs * (l.natAbs / Nat.gcd t.natAbs l.natAbs) := (Nat.mul_div_cancel' g2).symm
    have e4 : t.natAbs = Nat.gcd t.natAbs l.natAbs * (t.natAbs / Nat.gcd t.natAbs l.natAbs) := (Nat.mul_div_cancel' g1).symm
    generalize Nat.gcd t.natAbs l.natAbs = g at *
    generalize l.natAbs / g = b at *
    generalize t.natAbs / g = a at *
    rw [e3, e4, Nat.mul_assoc] at hd'
    exact Nat.dvd_of_mul_dvd_mul_left hg hd'
  · rw [e1, e2, Int.natAbs_natCast]
    have e3 : l.natAbs = Nat.gcd t.natAbs l.natAbs * (l.natAbs / Nat.gcd t.natAbs l.natAbs) := (Nat.mul_div_cancel' g2).symm
    have e4 : t.natAbs = Nat.gcd t.natAbs l.natAbs * (t.natAbs / Nat.gcd t.natAbs l.natAbs) := (Nat.mul_div_cancel' g1).symm
    generalize Nat.gcd t.natAbs l.natAbs = g at *
    generalize l.natAbs / g = b at *
    generalize t.natAbs / g = a at *
    rw [e3, e4] at hn
    have z : g * a ≤ g * (N * b) := by
      calc g * a ≤ N * (g * b) := hn
        _ = g * (N * b) := by rw [Nat.mul_left_comm]
    exact Nat.le_of_mul_le_mul_left z hg
theorem Bd.mono {M M' N N' : Nat} {x : Fr} (h : Bd M N x) (hm : M ∣ M') (hn : N ≤ N') : Bd M' N' x :=
  ⟨h.pos, Int.dvd_trans h.dvd (Int.natCast_dvd_natCast.mpr hm), Nat.le_trans h.le (Nat.mul_le_mul_right _ hn)⟩
theorem Bd.neg {M N : Nat} {x : Fr} (h : Bd M N x) : Bd M N (negF x) := ⟨h.pos, h.dvd, by show (-x.1).natAbs ≤ _; rw [Int.natAbs_neg]; exact h.le⟩
theorem Bd.add {M N N' : Nat} {x y : Fr} (h : Bd M N x) (h' : Bd M N' y) : Bd M (N + N') (addF x y) := by
  refine low_bd (Int.mul_pos h.pos h'.pos) ?_ ?_
  · rw [Int.add_mul]
    refine Int.dvd_add ?_ ?_
    · have : x.1 * y.2 * (M : Int) = x.1 * ((M : Int) * y.2) := by rw [Int.mul_assoc, Int.mul_comm y.2]
      rw [this]
      exact Int.dvd_mul_of_dvd_right (Int.mul_dvd_mul h.dvd (Int.dvd_refl _))
    · have : y.1 * x.2 * (M : Int) = y.1 * (x.2 * (M : Int)) := Int.mul_assoc _ _ _
      rw [this]
      exact Int.dvd_mul_of_dvd_right (Int.mul_dvd_mul (Int.dvd_refl _) h'.dvd)
  · refine Nat.le_trans (Int.natAbs_add_le _ _) ?_
    rw [Int.natAbs_mul, Int.natAbs_mul, Int.natAbs_mul, Nat.add_mul]
    refine Nat.add_le_add ?_ ?_
    · rw [← Nat.mul_assoc]
      exact Nat.mul_le_mul_right _ h.le
    · rw [Nat.mul_comm x.2.natAbs, ← Nat.mul_assoc]
      exact Nat.mul_le_mul_right _ h'.le
theorem Bd.les {M N N' : Nat} {x y : Fr} (h : Bd M N x) (h' : Bd M N' y) : Bd M (N + N') (lesF x y) := by
  rw [← les_neg]
  exact h.add h'.neg
theorem Bd.mul {M M' N N' : Nat} {x y : Fr} (h : Bd M N x) (h' : Bd M' N' y) : Bd (M * M') (N * N') (mulF x y) := by
  refine low_bd (Int.mul_pos h.pos h'.pos) ?_ ?_
  · refine Int.dvd_mul_of_dvd_right ?_
    rw [Int.natCast_mul]
    exact Int.mul_dvd_mul h.dvd h'.dvd
  · rw [Int.natAbs_mul, Int.natAbs_mul]
    calc x.1.natAbs * y.1.natAbs ≤ (N * x.2.natAbs) * (N' * y.2.natAbs) := Nat.mul_le_mul h.le h'.le
      _ = N * N' * (x.2.natAbs * y.2.natAbs) := by rw [Nat.mul_mul_mul_comm]
/-- how great both numbers are -/
structure Sz (b : Nat) (x : Fr) : Prop where
  pos : 0 < x.2
  n : x.1.natAbs < 2 ^ b
  d : x.2.natAbs < 2 ^ b
theorem Bd.sz {M N a b : Nat} {x : Fr} (h : Bd M N x) (hM : 0 < M) (ha : M < 2 ^ a) (hb : N < 2 ^ b) : Sz (a + b) x := by
  have hd : x.2.natAbs ≤ M := by
    have := Int.natAbs_dvd_natAbs.mpr h.dvd
    rw [Int.natAbs_natCast] at this
    exact Nat.le_of_dvd hM this
  have b1 : 0 < 2 ^ b := Nat.two_pow_pos b
  refine ⟨h.pos, ?_, ?_⟩
  · refine Nat.lt_of_le_of_lt h.le ?_
    refine Nat.lt_of_le_of_lt (Nat.mul_le_mul_left _ hd) ?_
    rw [Nat.mul_comm, Nat.pow_add]
    exact Nat.mul_lt_mul'' ha hb
  · refine Nat.lt_of_le_of_lt hd (Nat.lt_of_lt_of_le ha ?_)
    exact Nat.pow_le_pow_right (by decide) (by omega)
theorem Sz.mono {a b : Nat} {x : Fr} (h : Sz a x) (hab : a ≤ b) : Sz b x := ⟨h.pos, Nat.lt_of_lt_of_le h.n (Nat.pow_le_pow_right (by decide) hab), Nat.lt_of_lt_of_le h.d (Nat.pow_le_pow_right (by decide) hab)⟩
end FR

set_option Elab.async false
set_option linter.all false
set_option maxRecDepth 100000
set_option maxHeartbeats 1000000
/-! ### fractions in the heap, and what is worked out with them -/
namespace KP
open PySem PySem.Spec PyProof.Rows L2 KX KT KJ KS FR
theorem iteB {b : Bool} {A B : Prop} (h1 : b = true → A) (h2 : b = false → B) : if b = true then A else B := by
  cases b with
  | true => rw [if_pos rfl]; exact h1 rfl
  | false => rw [if_neg Bool.false_ne_true]; exact h2 rfl
/-- the heap's tuples alone -/
def tO (H : Hp) : Hp := fun b => match H b with
  | some (.tup xs) => some (.tup xs)
  | some (.frz _ (.tup xs)) => some (.tup xs)
  | _ => none
theorem tO_of {H : Hp} {a : Addr} {xs : List V} (h : H a = some (.tup xs)) : tO H a = some (.tup xs) := by
  unfold tO
  rw [h]
theorem tO_rd {H : Hp} {a : Addr} {xs : List V} (h : Rd H a (.tup xs)) : tO H a = some (.tup xs) := by
  rcases h with h | ⟨o, h⟩
  · exact tO_of h
  · unfold tO
    rw [h]
theorem of_tO {H : Hp} {a : Addr} {u : HO} (h : tO H a = some u) : ∃ xs, u = .tup xs ∧ Rd H a (.tup xs) := by
  unfold tO at h
  split at h
  · rename_i xs e
    cases h
    exact ⟨xs, rfl, .inl e⟩
  · rename_i o xs e
    cases h
    exact ⟨xs, rfl, .inr ⟨o, e⟩⟩
  · cases h
theorem tO_same (H : Hp) (a : Addr) (xs : List V) (e : tO H a = some (.tup xs)) : Rd H a (.tup xs) := by
  obtain ⟨ys, z, r⟩ := of_tO e
  cases z
  exact r
theorem tO_eq {H : Hp} {a : Addr} {xs : List V} (h : Rd (tO H) a (.tup xs)) : tO H a = some (.tup xs) := by
  rcases h with h | ⟨o, h⟩
  · exact h
  · obtain ⟨ys, z, _⟩ := of_tO h
    cases z
/-- all tuples stay -/
def Tk (H H' : Hp) : Prop := Same (tO H) (tO H')
theorem Tk.refl (H : Hp) : Tk H H := Same.refl _
theorem Tk.trans {H H1 H2 : Hp} (a : Tk H H1) (b : Tk H1 H2) : Tk H H2 := Same.trans a b
theorem Tk.same {H H' : Hp} (s : Same H H') : Tk H H' := fun b u e => by
  obtain ⟨xs, rfl, e1⟩ := of_tO e
  exact tO_rd (s.rd e1)
theorem Tk.sm {H H' : Hp} (s : Sm H H') : Tk H H' := fun b u e => by
  obtain ⟨xs, rfl, e1⟩ := of_tO e
  exact tO_rd (s.rd e1)
theorem Tk.but {j : Addr} {H H' : Hp} {xs : List V} (hj : H j = some (.lst xs)) (s : KJ.But j H H') : Tk H H' := fun b u e => by
  obtain ⟨ys, rfl, e1⟩ := of_tO e
  rcases e1 with e1 | ⟨o, e1⟩
  · exact tO_of (s _ _ (fun z => by rw [z, hj] at e1; cases e1) e1)
  · exact tO_rd (.inr ⟨o, s _ _ (fun z => by rw [z, hj] at e1; cases e1) e1⟩)
theorem Tk.jar {j : Addr} {H H' : Hp} {n : Nat} (hj : JarAt H j n) (s : KJ.But j H H') : Tk H H' := by
  obtain ⟨_, _, _, e, _⟩ := hj
  exact Tk.but e s
theorem Tk.put {H : Hp} {p : Addr} {xs ys : List V} (h : H p = some (.lst xs)) : Tk H (upd H p (.lst ys)) := fun b u e => by
  obtain ⟨zs, rfl, e1⟩ := of_tO e
  rcases e1 with e1 | ⟨o, e1⟩
  · exact tO_of (by rw [upd_ne (fun z => by rw [z, h] at e1; cases e1)]; exact e1)
  · exact tO_rd (.inr ⟨o, by rw [upd_ne (fun z => by rw [z, h] at e1; cases e1)]; exact e1⟩)
theorem Th.tk {H H' : Hp} {v : V} {d : PyData} (h : Th (tO H) v d) (s : Tk H H') : Th (tO H') v d := h.mono (Sm.same s)
theorem Th.up {H : Hp} {v : V} {d : PyData} (h : Th (tO H) v d) : Th H v d := by
  refine Th.rec (motive_1 := fun v d _ => Th H v d) (motive_2 := fun vs ds _ => ThAll H vs ds) .non (fun b => .bl b) (fun i => .int i) (fun x => .str x) (fun q _ ih => ?_) (fun q _ ih => .tup' (tO_same H _ _ (tO_eq q)) ih) (fun q => ?_) .nil (fun _ _ a b => .cons a b) h
  · obtain ⟨_, z, _⟩ := of_tO q
    cases z
  · obtain ⟨_, z, _⟩ := of_tO q
    cases z
theorem ThAll.up {H : Hp} : ∀ {vs : List V} {ds : List PyData}, ThAll (tO H) vs ds → ThAll H vs ds
  | [], [], _ => .nil
  | _ :: _, _ :: _, .cons a b => .cons a.up b.up
theorem sqT_up {K : PySem.W.Frag} {H : Hp} {a : Addr} {xs : List V} (h : SqT K (tO H) a xs) : SqT K H a xs := by
  rcases h with h | h
  · exact .inl (tO_same H _ _ (tO_eq h))
  · exact .inr h
theorem same_sqT {K : PySem.W.Frag} {H H' : Hp} {a : Addr} {xs : List V} (e : Same H H') (h : SqT K H a xs) : SqT K H' a xs := by
  rcases h with (h | ⟨o, h⟩) | h
  · exact .inl (.inl (e _ _ h))
  · exact .inl (.inr ⟨o, e _ _ h⟩)
  · exact .inr h
/-- v is the fraction x -/
def FrV (K : PySem.W.Frag) (H : Hp) (v : V) (x : Fr) : Prop := ∃ a, v = .ref a ∧ SqT K (tO H) a [.int x.1, .int x.2]
theorem FrV.tk {K : PySem.W.Frag} {H H' : Hp} {v : V} {x : Fr} (h : FrV K H v x) (s : Tk H H') : FrV K H' v x := by
  obtain ⟨a, e, q⟩ := h
  exact ⟨a, e, same_sqT s q⟩
theorem FrV.new {K : PySem.W.Frag} {H : Hp} {p : Addr} {x : Fr} : FrV K (upd H p (.tup [.int x.1, .int x.2])) (.ref p) x := ⟨p, rfl, SqT.of (tO_of upd_same)⟩
theorem FrV.at {K : PySem.W.Frag} {H : Hp} {p : Addr} {x : Fr} (h : H p = some (.tup [.int x.1, .int x.2])) : FrV K H (.ref p) x := ⟨p, rfl, SqT.of (tO_of h)⟩
section
variable {K : PySem.W.Frag} {σ : L2.St} {H : Hp} {D : Ends}
theorem vi_ix0 {i : Nat} {v : V} {x : Fr} (h : σ[i]? = some (some v)) (f : FrV K H v x) : Vi (tOp (rIxT K) (tVar i) (tC (.int 0))) σ H (.int x.1) := by
  obtain ⟨a, rfl, q⟩ := f
  exact vi_op (vi_var h) vi_c fun Q k => ⟨a, _, 0, _, rfl, rfl, sqT_up q, rfl, k⟩
theorem vi_ix1 {i : Nat} {v : V} {x : Fr} (h : σ[i]? = some (some v)) (f : FrV K H v x) : Vi (tOp (rIxT K) (tVar i) (tC (.int 1))) σ H (.int x.2) := by
  obtain ⟨a, rfl, q⟩ := f
  exact vi_op (vi_var h) vi_c fun Q k => ⟨a, _, 1, _, rfl, rfl, sqT_up q, rfl, k⟩
theorem vi_mul {ta tb : TE} {a b : Int} (ha : Vi ta σ H (.int a)) (hb : Vi tb σ H (.int b)) (c : CMulW a b) : Vi (tOp (rI CMulW fun i j => .int (i * j)) ta tb) σ H (.int (a * b)) := vi_op ha hb fun Q q => ⟨_, _, rfl, rfl, c, q⟩
theorem vi_add {ta tb : TE} {a b : Int} (ha : Vi ta σ H (.int a)) (hb : Vi tb σ H (.int b)) : Vi (tOp (rI0 fun i j => .int (i + j)) ta tb) σ H (.int (a + b)) := vi_op ha hb fun Q q => ⟨_, _, rfl, rfl, q⟩
theorem vi_sub {ta tb : TE} {a b : Int} (ha : Vi ta σ H (.int a)) (hb : Vi tb σ H (.int b)) : Vi (tOp (rI0 fun i j => .int (i - j)) ta tb) σ H (.int (a - b)) := vi_op ha hb fun Q q => ⟨_, _, rfl, rfl, q⟩
theorem ti_and {t u : TT} {a b : Bool} (h : Ti t σ H a) (h2 : a = true → Ti u σ H b) : Ti (tAnd t u) σ H (a && b) := fun Q q => h _ (by
  cases a with
  | true => rw [if_pos rfl]; exact h2 rfl _ q
  | false => rw [if_neg Bool.false_ne_true]; exact q)
theorem i_when {t : TT} {tu tz : TS} {b : Bool} (h : Ti t σ H b) (h1 : b = true → tu { D with nx := tz D } σ H) (h2 : b = false → tz D σ H) : tSeq (tIfS t tu tNext) tz D σ H := i_if (D := { D with nx := tz D }) h h1 h2
theorem i_set {te : TE} {tz : TS} {i : Nat} {v : V} (h : Vi te σ H v) (k : tz D (σ.set i (some v)) H) : tSeq (tAsg te (gName i)) tz D σ H := h _ k
end
theorem ret_call {K : PySem.W.Frag} {σ : L2.St} {H : Hp} {D : Ends} {sp : Sp} {E : XK} {ta : TA} {vs : List V} (h : Ai ta σ H vs) (k : sp vs H D.rt E) : tRet (tCall sp [] E ta) D σ H := h _ (by rw [List.append_nil]; exact k)
theorem ret_tup2 {σ : L2.St} {H : Hp} {D : Ends} {ta tb : TE} {a b : Int} (ha : Vi ta σ H (.int a)) (hb : Vi tb σ H (.int b)) (k : ∀ p, H p = none → D.rt (.ref p) (upd H p (.tup [.int a, .int b]))) : tRet (tTup (tCons ta (tCons tb tNil))) D σ H := ha _ (hb _ ⟨(by show 2 ≤ sizeLine; decide), k⟩)
theorem cmul {x y : Int} {a b : Nat} (hx : x.natAbs < 2 ^ (a + 1)) (hy : y.natAbs < 2 ^ (b + 1)) (h : a + b ≤ 900000) : CMulW x y := wide_mul hx hy (by omega) (by omega) (by omega)
/-- lowest, and the law's own -/
def spLow : Sp := fun vs H Q _ => ∃ t l : Int, vs = [.int t, .int l] ∧ 0 < l ∧ l.natAbs < 2 ^ 9000 ∧ ∀ p, H p = none → Q (.ref p) (upd H p (.tup [.int (low t l).1, .int (low t l).2]))
def spBin (K : PySem.W.Frag) (f : Fr → Fr → Fr) : Sp := fun vs H Q _ => ∃ u v x y, vs = [u, v] ∧ FrV K H u x ∧ FrV K H v y ∧ Sz 4000 x ∧ Sz 4000 y ∧ ∀ r H', Same H H' → FrV K H' r (f x y) → Q r H'
def spNegF (K : PySem.W.Frag) : Sp := fun vs H Q _ => ∃ u x, vs = [u] ∧ FrV K H u x ∧ ∀ r H', Same H H' → FrV K H' r (negF x) → Q r H'
theorem z9 {x y : Fr} (hx : Sz 4000 x) (hy : Sz 4000 y) : 0 < x.2 * y.2 ∧ (x.2 * y.2).natAbs < 2 ^ 9000 := ⟨Int.mul_pos hx.pos hy.pos, Nat.lt_of_lt_of_le (wide_lt hx.d hy.d) (Nat.pow_le_pow_right (by decide) (by decide))⟩
section
variable {P : Program} {w : World} {K : PySem.W.Frag} {mg : Str → Option Value} {base : Heap}
theorem scFrac : FnScope ["top", "low", "one", "two"] ["top", "low"] (defScope lFrac) := ⟨rfl, rfl, rfl, by decide +kernel, rfl, by decide +kernel, by decide +kernel⟩
theorem ok_fracW {f : Addr} {fd : FuncData} (F : Fun K "_law_frac" "_law_frac" lFrac f fd) (T : TxT mg) : FnOk P w K mg base CX0 1 f fd ["top", "low"] spLow := by
  refine F.ok scFrac (fun vs H Q E h => ?_) (fun cdv A outer s H vs Q E hr h => ?_)
  · obtain ⟨t, l, rfl, _⟩ := h
    rfl
  · obtain ⟨t, l, rfl, l0, l9, k⟩ := h
    refine ⟨_, pss_cons (ps_par (i := 2) (j := 3) (by rfl) scFrac.nd rfl rfl (by decide) rfl rfl (pa_cons (pe_callB call_abs (by rfl) T.abs (by decide +kernel) (pa_cons (pv 0) pa_nil)) (pa_cons (pv 1) pa_nil)) (by rfl))
      (pss_cons (ps_while PassesOwn.never (pt_cmpR op_gt (pv 3) pe_int (nomark _)) (pss_one (ps_par (i := 2) (j := 3) (by rfl) scFrac.nd rfl rfl (by decide) rfl rfl (pa_cons (pv 3) (pa_cons (pe_op op_mod (pe_callTy call_int1 (by rfl) T.int (by decide +kernel) (pa_cons (pv 2) pa_nil)) (pv 3)) pa_nil)) (by rfl))))
      (pss_one (ps_ret (pe_tup (pa_cons (pe_op op_fdivW (pv 0) (pv 2)) (pa_cons (pe_op op_fdivW (pv 1) (pv 2)) pa_nil)))))), ?_⟩
    have hg := gcd_pos (t := t) l0
    refine ⟨_, rfl, _, rfl, _, rfl, _, _, rfl, ?_⟩
    refine ⟨fun m σ H' => H' = H ∧ ∃ a b : Nat, σ = [some (.int t), some (.int l), some (.int a), some (.int b)] ∧ Nat.gcd a b = Nat.gcd t.natAbs l.natAbs ∧ m = b, ⟨_, rfl, t.natAbs, l.natAbs, ?_, rfl, rfl⟩, ?_⟩
    · have e1 : (if t < 0 then -t else t) = (t.natAbs : Int) := by split <;> omega
      have e2 : l = (l.natAbs : Int) := by omega
      show [some (V.int t), some (V.int l), some (V.int (if t < 0 then -t else t)), some (V.int l)] = _
      rw [e1, ← e2]
    · rintro m σ H' ⟨rfl, a, b, rfl, hgc, hm⟩
      refine ⟨_, rfl, _, _, rfl, rfl, _, rfl, ?_⟩
      dsimp only
      by_cases c : 0 < b
      · rw [if_pos (decide_eq_true (show (0 : Int) < (b : Int) by omega))]
        refine ⟨fun σ' H2 => H2 = H' ∧ σ' = [some (.int t), some (.int l), some (.int b), some (.int ((a % b : Nat) : Int))], ?_, ?_⟩
        · rintro σ' H2 ⟨rfl, rfl⟩
          have lt := Nat.mod_lt a c
          refine ⟨a % b, by omega, rfl, b, a % b, rfl, ?_, rfl⟩
          rw [← hgc, Nat.gcd_comm a b, Nat.gcd_rec b a, Nat.gcd_comm]
        · refine ⟨_, rfl, _, rfl, .inl ⟨_, rfl, _, rfl, _, _, rfl, rfl, show (0 : Int) < (b : Int) by omega, _, _, rfl, rfl, ?_⟩⟩
          show [some (V.int t), some (V.int l), some (V.int b), some (V.int ((a : Int) % (b : Int)))] = _
          rw [Int.natCast_emod]
      · have b0 : b = 0 := by omega
        subst b0
        rw [if_neg (by decide)]
        rw [Nat.gcd_zero_right] at hgc
        subst hgc
        have hd : CDivW t ((Nat.gcd t.natAbs l.natAbs : Nat) : Int) := wide_div (b := 9000) (by omega) (by rw [Int.natAbs_natCast]; exact Nat.lt_of_le_of_lt (Nat.le_of_dvd (by omega) (Nat.gcd_dvd_right _ _)) l9) (by decide) (Nat.le_refl _)
        exact ⟨_, rfl, _, rfl, _, _, rfl, rfl, hd, _, rfl, _, rfl, _, _, rfl, rfl, hd, (by decide : 2 ≤ sizeLine), fun p hp => k p hp⟩
end
end KP

set_option Elab.async false
set_option linter.all false
set_option maxRecDepth 100000
set_option maxHeartbeats 2000000
/-! ### drawn nets that are nets: the data -/
namespace KP
open PySem PySem.Spec PyProof.Rows L2 KX KT KJ KS FR
structure Told (x : Fr) : Prop where
  pos : 0 < x.2
  d : x.2 ≤ 999
  n : x.1.natAbs ≤ 999
  g : Nat.gcd x.1.natAbs x.2.natAbs = 1
def fD (x : Fr) : PyData := .tuple [.int x.1, .int x.2]
theorem low_told {t l : Int} (h : 0 < l) (hl : l ≤ 999) (ht : t.natAbs ≤ 999) : Told (low t l) := by
  have hg := gcd_pos (t := t) h
  obtain ⟨e1, e2⟩ := low_abs (t := t) h
  have g2 : Nat.gcd t.natAbs l.natAbs ∣ l.natAbs := Nat.gcd_dvd_right _ _
  have q2 : 0 < l.natAbs / Nat.gcd t.natAbs l.natAbs := Nat.div_pos (Nat.le_of_dvd (by omega) g2) hg
  have q3 := Nat.div_le_self l.natAbs (Nat.gcd t.natAbs l.natAbs)
  have q4 := Nat.div_le_self t.natAbs (Nat.gcd t.natAbs l.natAbs)
  refine ⟨by rw [e2]; omega, by rw [e2]; omega, by rw [e1]; omega, ?_⟩
  rw [e1, e2, Int.natAbs_natCast]
  exact Nat.coprime_div_gcd_div_gcd hg
theorem told_is {x : Fr} (h : Told x) : isTold (fD x) = true := by
  obtain ⟨h1, h2, h3, h4⟩ := h
  have e : (if x.1 < 0 then -x.1 else x.1) ≤ 999 := by split <;> omega
  simp [isTold, isR, shp, fD, tyN, lenT, ith, ratio2, small2, h1, h2, h4, e]
theorem told_bd {x : Fr} (h : Told x) : Bd x.2.natAbs 999 x := ⟨h.pos, by have := h.pos; rw [show ((x.2.natAbs : Nat) : Int) = x.2 by omega]; exact Int.dvd_refl _, Nat.le_trans h.n (by have := h.pos; omega)⟩
structure Pp where
  s : Nat
  e : Option Nat
  sh : Nat ⊕ Fr
def shD : Nat ⊕ Fr → PyData
  | .inl j => .tuple [.str "x", .int (j : Nat)]
  | .inr x => fD x
def enD : Option Nat → PyData
  | none => .none
  | some k => .int (k : Nat)
def ppD (p : Pp) : PyData := .tuple [.int (p.s : Nat), enD p.e, shD p.sh]
def natsD (ns : List Nat) : List PyData := ns.map fun i => .int (i : Nat)
structure NetM where
  m : Nat
  u : Nat
  ps : List Pp
  fs : List Nat
  ss : List Nat
def NetM.d (n : NetM) : PyData := .tuple [.int (n.m : Nat), .int (n.u : Nat), .tuple (n.ps.map ppD), .tuple (natsD n.fs), .tuple (natsD n.ss)]
def GoodS (u : Nat) : Nat ⊕ Fr → Prop
  | .inl j => j < u
  | .inr x => Told x
structure GoodP (m u : Nat) (p : Pp) : Prop where
  s : p.s < m
  e : ∀ k, p.e = some k → k < m ∧ k ≠ p.s
  sh : GoodS u p.sh
structure GoodT (m : Nat) (ns : List Nat) : Prop where
  ne : ns ≠ []
  asc : ns.Pairwise (· < ·)
  lt : ∀ i ∈ ns, i < m
  len : ns.length ≤ m
structure GoodN (n : NetM) : Prop where
  m1 : 1 ≤ n.m
  m4 : n.m ≤ 4
  u4 : n.u ≤ 4
  mu : n.m + n.u ≤ 7
  len : n.ps.length ≤ 12
  ps : ∀ p ∈ n.ps, GoodP n.m n.u p
  dist : distB (n.ps.map ppD) = true
  fs : GoodT n.m n.fs
  ss : GoodT n.m n.ss
theorem goodP_is {m u : Nat} {p : Pp} (h : GoodP m u p) : isPipe (m : Nat) (u : Nat) (ppD p) = true := by
  obtain ⟨h1, h2, h3⟩ := h
  have c1 : isW (.int (p.s : Nat)) 0 ((m : Int) - 1) = true := by simp only [isW, Bool.and_eq_true, decide_eq_true_eq]; omega
  have c2 : isShare (u : Nat) (shD p.sh) = true := by
    cases q : p.sh with
    | inl j =>
      rw [q] at h3
      have h3 : j < u := h3
      have : (j : Int) ≤ (u : Int) - 1 := by omega
      simp [shD, isShare, shp, tyN, lenT, ith, isX, isW, this]
    | inr x =>
      rw [q] at h3
      have h3 : Told x := h3
      have z := told_is h3
      show (shp 2 (fD x) && _) = true
      rw [show shp 2 (fD x) = true from rfl, Bool.true_and, if_neg (by simp [ith, shD, fD, tyN])]
      exact z
  have c3 : (isNon (enD p.e) || (isW (enD p.e) 0 ((m : Int) - 1) && !eqI (enD p.e) (.int (p.s : Nat)))) = true := by
    cases q : p.e with
    | none => rfl
    | some k =>
      obtain ⟨a, b⟩ := h2 k q
      have e1 : (k : Int) ≤ (m : Int) - 1 := by omega
      have e2 : ¬ (k : Int) = (p.s : Int) := by omega
      simp [enD, isNon, isW, eqI, e1, e2]
  show (shp 3 (ppD p) && (!(!isW (.int (p.s : Nat)) 0 ((m : Int) - 1) || !isShare (u : Nat) (shD p.sh)) && (isNon (enD p.e) || (isW (enD p.e) 0 ((m : Int) - 1) && !eqI (enD p.e) (.int (p.s : Nat)))))) = true
  rw [c1, c2, c3]
  rfl
theorem nats_get {ns : List Nat} {i : Nat} (h : i < ns.length) : (natsD ns).getD i .none = .int ((ns[i] : Nat) : Int) := by
  rw [List.getD_eq_getElem?_getD]
  simp [natsD, List.getElem?_eq_getElem h]
theorem goodT_is {m : Nat} {ns : List Nat} (h : GoodT m ns) : areT (m : Nat) (.tuple (natsD ns)) = true := by
  obtain ⟨h1, h2, h3, h4⟩ := h
  have hl : (natsD ns).length = ns.length := List.length_map _
  have l1 : 1 ≤ ns.length := List.length_pos_iff.mpr h1
  have e2 : areT (m : Nat) (.tuple (natsD ns)) = ((decide (1 ≤ ((natsD ns).length : Int)) && decide (((natsD ns).length : Int) ≤ (m : Nat))) && ((natsD ns).all (fun e => isW e 0 ((m : Int) - 1)) && ascB (natsD ns))) := by
    unfold areT
    have e0 : decide (tyN (.tuple (natsD ns)) = "tuple") = true := decide_eq_true rfl
    rw [e0, Bool.true_and]
    rfl
  rw [e2, hl, decide_eq_true (show (1 : Int) ≤ (ns.length : Nat) by omega), decide_eq_true (show ((ns.length : Nat) : Int) ≤ (m : Nat) by omega), Bool.true_and, Bool.true_and, Bool.and_eq_true]
  constructor
  · rw [List.all_eq_true]
    intro d hd
    obtain ⟨i, hi, rfl⟩ := List.mem_map.mp hd
    have := h3 i hi
    simp only [isW, Bool.and_eq_true, decide_eq_true_eq]
    omega
  · unfold ascB
    rw [List.all_eq_true]
    intro i hi
    rw [List.mem_range, hl] at hi
    rw [nats_get (by omega), nats_get (by omega)]
    have := List.pairwise_iff_getElem.mp h2 i (i + 1) (by omega) (by omega) (by omega)
    simp only [ltI, decide_eq_true_eq]
    omega
theorem goodN_is {n : NetM} (h : GoodN n) : isNet n.d = true := by
  have c1 : isW (.int (n.m : Nat)) 1 4 = true := by have := h.m1; have := h.m4; simp only [isW, Bool.and_eq_true, decide_eq_true_eq]; omega
  have c2 : isW (.int (n.u : Nat)) 0 4 = true := by have := h.u4; simp only [isW, Bool.and_eq_true, decide_eq_true_eq]; omega
  have c3 : areP (n.m : Nat) (n.u : Nat) (.tuple (n.ps.map ppD)) = true := by
    unfold areP
    have e0 : decide (tyN (.tuple (n.ps.map ppD)) = "tuple") = true := decide_eq_true rfl
    have e1 : decide ((12 : Int) < (lenT (.tuple (n.ps.map ppD)) : Int)) = false := decide_eq_false (by have := h.len; show ¬ (12 : Int) < ((n.ps.map ppD).length : Int); rw [List.length_map]; omega)
    have e2 : (itms (.tuple (n.ps.map ppD))).all (isPipe (n.m : Nat) (n.u : Nat)) = true := by
      rw [List.all_eq_true]
      intro d hd
      obtain ⟨p, hp, rfl⟩ := List.mem_map.mp (show d ∈ n.ps.map ppD from hd)
      exact goodP_is (h.ps p hp)
    rw [e0, e1, e2]
    exact h.dist
  have c4 : decide ((7 : Int) < (n.m : Nat) + (n.u : Nat)) = false := decide_eq_false (by have := h.mu; omega)
  show (shp 5 n.d && (!(!isW (.int (n.m : Nat)) 1 4 || !isW (.int (n.u : Nat)) 0 4) && (!decide ((7 : Int) < (n.m : Nat) + (n.u : Nat)) && (areP (n.m : Nat) (n.u : Nat) (.tuple (n.ps.map ppD)) && (areT (n.m : Nat) (.tuple (natsD n.fs)) && areT (n.m : Nat) (.tuple (natsD n.ss))))))) = true
  rw [c1, c2, c3, c4, goodT_is h.fs, goodT_is h.ss]
  rfl
theorem dist_snoc {ds : List PyData} {d : PyData} (h : distB ds = true) (hn : (ds.any fun z => PyData.eqv z d) = false) : distB (ds ++ [d]) = true := by
  unfold distB at h ⊢
  rw [List.all_eq_true] at h ⊢
  intro i hi
  rw [List.mem_range, List.length_append, List.length_singleton] at hi
  by_cases c : i < ds.length
  · have q := h i (List.mem_range.mpr c)
    rw [List.take_append_of_le_length (Nat.le_of_lt c), List.getD_eq_getElem?_getD, List.getElem?_append_left c, ← List.getD_eq_getElem?_getD]
    exact q
  · have e : i = ds.length := by omega
    subst e
    rw [List.take_append_of_le_length (Nat.le_refl _), List.take_length, List.getD_eq_getElem?_getD, List.getElem?_append_right (Nat.le_refl _), Nat.sub_self]
    show (!ds.any fun z => PyData.eqv z d) = true
    rw [hn]
    rfl
theorem pp_flat {p : Pp} : Flat (ppD p) := by
  have ok : PyData.strOk "x" = true := by decide +kernel
  cases p with
  | mk s e sh =>
    cases sh <;> cases e <;> exact ⟨by simp [ppD, enD, shD, fD, PyData.canLay0, PyData.canLayAll0, ok], by simp [ppD, enD, shD, fD, PyData.depth, PyData.depthAll], by simp [ppD, enD, shD, fD, PyData.hasDict, PyData.hasDictAll]⟩
theorem flat_shapedL {ds : List PyData} (h : ∀ d ∈ ds, Flat d) : SeqAt.shaped (.list ds) = true ∧ (PyData.list ds).hasDict = false := by
  obtain ⟨a, b, c⟩ := flat_all h
  refine ⟨shaped_of (by simpa [PyData.canLay0] using a) ?_, by simpa [PyData.hasDict] using c⟩
  simp only [PyData.depth]
  omega
end KP

set_option Elab.async false
set_option linter.all false
set_option maxRecDepth 100000
set_option maxHeartbeats 2000000
/-! ### tuples whose object is known to have no dict: made by tuple(list), cut, asked for a place -/
namespace KX
open PySem PySem.Spec PyProof.Rows L2
/-- a tuple with no dict of its own -/
def FzV (H : Hp) (v : V) : Prop := ∃ (a : Addr) (xs : List V) (o : Obj), v = .ref a ∧ o.dict = none ∧ H a = some (.frz o (.tup xs))
theorem FzV.same {H H' : Hp} {v : V} (h : FzV H v) (s : Same H H') : FzV H' v := by
  obtain ⟨a, xs, o, e, d, q⟩ := h
  exact ⟨a, xs, o, e, d, s _ _ q⟩
section
variable {X : Cx} {a : Expr} {ta : TE}
def kTupF (K : PySem.W.Frag) (x : V) (H : Hp) (Q : VK) : Prop := ∃ p xs, x = .ref p ∧ SqL K H p xs ∧ ∀ q o, H q = none → o.dict = none → Q (.ref q) (upd H q (.frz o (.tup xs)))
theorem rl_tupleF (pins : List (Addr × Obj)) (s : Shared) (σ : L2.St) (H : Hp) (x : V) (v : Value) (Q : VK) (I : Inv X pins σ H s) (r : RelV x v) (h : kTupF X.K x H Q) :
    wpAny (model X.prog X.w) X.A (call (.type "tuple") [v]) (EP X pins σ Q) X.xe s := by
  obtain ⟨p, xs, rfl, hs, q⟩ := h
  obtain rfl : v = .ref p := r
  obtain ⟨its, rv, pl, hz⟩ := I.list hs
  refine call_tuple_list pl.isList (fun h' hk => ?_) (by rw [List.size_toArray, ← rv.length]; exact hz)
  have I1 : Inv X pins σ H { s with heap := h' } := I.kept (t' := s.toks) hk
  have I2 : Inv X pins σ (upd H h'.objs.size (.frz { cls := .type "tuple", data := .seq its.toArray } (.tup xs))) { s with heap := h'.push { cls := .type "tuple", data := .seq its.toArray } } :=
    I1.laid (t' := s.toks) (fun b o e => Heap.get?_push_of_some _ e) (Nat.le_refl _) (show ObjOk X.prog X.w _ _ _ (.frz _ (.tup xs)) from ⟨Heap.get?_push_size _ rfl, hz, its, rv, IsTup.new _ _⟩)
  exact ⟨.ref h'.objs.size, _, I2, rfl, q _ _ (I1.hok.fresh (Nat.le_refl _)) rfl⟩
theorem pe_tupleOfF {p pos : Pos} (hg : Gl X "tuple") (hm : X.mg "tuple" = none) (ha : PE X a ta) (na : starEach [a] X.env = (false, eval a X.env) :: starEach [] X.env := by rfl) :
    PE X (.Call (.Name "tuple" p) [a] [] pos) (tThen ta (kTupF X.K)) := by
  refine ⟨fun pins s σ H Q I h => ?_⟩
  exact Call_ (ld_blt I hg hm boot_tuple (PyProof.Rows.callWith_type1 (one_arg ha I h (fun v s2 x H2 I2 r q => rl_tupleF pins s2 σ H2 x v Q I2 r q) na) na))
def rSlF (K : PySem.W.Frag) : V → Option Int → Option Int → Hp → VK → Prop := fun x lo hi H Q => ∃ a xs o, x = .ref a ∧ H a = some (.frz o (.tup xs)) ∧ 
  (HT.sIx xs.length 0 lo = 0 ∧ HT.sIx xs.length xs.length hi = xs.length → Q (.ref a) H) ∧ (¬ (HT.sIx xs.length 0 lo = 0 ∧ HT.sIx xs.length xs.length hi = xs.length) → ∀ p o', H p = none → o'.dict = none → Q (.ref p) (upd H p (.frz o' (.tup (cutV xs lo hi)))))
theorem sl_tupF : SlR X (rSlF X.K) := by
  intro pins s σ H x v vl vu lo hi sl Q I rx hs pl pu h
  obtain ⟨a, xs, o, rfl, hx, q1, q2⟩ := h
  cases rx
  obtain ⟨its, r, ht, hz⟩ := I.tuple (show SqT X.K H a xs from .inl (.inr ⟨o, hx⟩))
  have hlen : its.toArray.size = xs.length := by rw [List.size_toArray]; exact r.length.symm
  refine ⟨"tuple", _, PyProof.Rows.slot_tuple_getitem.lookup, ht.typeIs, ?_⟩
  by_cases hw : HT.sIx xs.length 0 lo = 0 ∧ HT.sIx xs.length xs.length hi = xs.length
  · exact getItem_tuple_whole ht hs pl pu (by rw [hlen]; exact hw) ⟨.ref a, H, I, rfl, q1 hw⟩
  · refine HT.getItem_tuple_cut ht hs pl pu (by rw [hlen]; exact hw) ?_ (by rw [hlen]; exact hz)
    rw [hlen]
    refine ⟨.ref s.heap.objs.size, _, I.laid (t' := s.toks) (o := .frz { cls := .type "tuple", data := .seq ((its.toArray.toList.drop (HT.sIx xs.length 0 lo)).take (HT.sIx xs.length xs.length hi - HT.sIx xs.length 0 lo)).toArray } (.tup (cutV xs lo hi))) (fun b ob q => Heap.get?_push_of_some _ q) (Nat.le_refl _) ?_, rfl, q2 hw _ _ (I.hok.fresh (Nat.le_refl _)) rfl⟩
    exact ⟨Heap.get?_push_size _ rfl, Nat.le_trans (cutV_length xs lo hi) hz, _, (r.drop (HT.sIx xs.length 0 lo)).take (HT.sIx xs.length xs.length hi - HT.sIx xs.length 0 lo), IsTup.new _ _⟩
theorem fzV_is {pins : List (Addr × Obj)} {σ : L2.St} {H : Hp} {s : Shared} {x : V} {v : Value} (I : Inv X pins σ H s) (r : RelV x v) (ty : FzV H x) :
    s.TypeIs v "tuple" ∧ ∀ a, v = .ref a → ∃ ob, s.heap.get? a = some ob ∧ ob.dict = none := by
  obtain ⟨a, xs, o, rfl, d, e⟩ := ty
  obtain rfl : v = .ref a := r
  obtain ⟨h1, _, its, _, ht⟩ := (show ObjOk X.prog X.w H s.heap a (.frz o (.tup xs)) from I.hok a _ e)
  exact ⟨ht.typeIs, fun b hb => by cases hb; exact ⟨o, h1, d⟩⟩
def tBMF (r : V → List V → Hp → VK → Prop) (to : TE) (t : TA) : TE := fun σ H Q => to σ H fun x H1 => FzV H1 x ∧ t σ H1 fun xs H2 => r x xs H2 Q
variable {o e : Expr} {es : List Expr} {to : TE} {t : TA} {name : Str} {apos cpos : Pos} {id : String} {r : V → List V → Hp → VK → Prop}
theorem pe_bmF (pa : PlainAttrs "tuple") (slot : Slot "tuple" name id) (hty : typeOf (.builtin id) = pure (.type "method_descriptor")) (hm : MtR X id r) (ho : PE X o to) (ha : PA X (e :: es) t)
    (hbase : attributeBase o name X.env (eval o X.env) = eval o X.env := by rfl)
    (hfew : ((backTo cpos (starEach (e :: es) X.env)).all (fun x => !x.1) && (backToKw cpos (keywordEach [] X.env)).all (fun x => x.1.isSome)
      && decide ((e :: es).length + ([] : List Keyword).length + (if ([] : List Keyword).isEmpty then 0 else 1) < 30)) = true := by rfl)
    (hline : (apos.endLine == cpos.line) = true := by rfl) (hs : starEach (e :: es) X.env = (false, eval e X.env) :: starEach es X.env := by rfl) (hplain : (backTo cpos (starEach es X.env)).any (·.1) = false := by rfl) :
    PE X (.Call (.Attribute o name apos) (e :: es) [] cpos) (tBMF r to t) := by
  refine ⟨fun pins s σ H Q I h => ?_⟩
  refine wpAny_Call_method_late hbase hfew hline rfl (thn (ho.run pins s σ H _ I h) fun v s1 ⟨x, H1, I1, r1, ty, q1⟩ => ?_)
  obtain ⟨h1, h2⟩ := fzV_is I1 r1 ty
  refine ⟨"tuple", id, pa, slot, hty, h1, h2, ?_⟩
  have hA := ha.run cpos pins s1 σ H1 _ I1 q1
  rw [hs] at hA ⊢
  refine Calls.callWith_builtin (by show (false || (backTo cpos (starEach es X.env)).any (·.1)) = false; rw [hplain] <;> rfl) (Calls.evalArgs_plain ?_)
  exact thn hA fun us s2 ⟨vs, H2, I2, r2, q2⟩ => hm pins s2 σ H2 x vs v us Q I2 r1 r2 q2
end
end KX

set_option Elab.async false
set_option linter.all false
set_option maxRecDepth 100000
set_option maxHeartbeats 4000000
/-! ### drawn nets that are nets: the draws -/
namespace KP
open PySem PySem.Spec PyProof.Rows L2 KX KT KJ KS FR
structure TxD (mg : Str → Option Value) : Prop extends TxL mg where
  set : mg "set" = none
  sorted : mg "sorted" = none
  list : mg "list" = none
  repr : mg "repr" = none
  max : mg "max" = none
  min : mg "min" = none
def spPart2 : Sp := fun vs H Q _ => ∃ j n, vs = [.ref j] ∧ JarAt H j n ∧ n ≤ 900000 ∧ ∀ v x H', Told x → Th (hid j H') v (fD x) → KJ.But j H H' → JarAt H' j (n + 3) → Q v H'
def spLot2 : Sp := fun vs H Q _ => ∃ j, ∃ m n : Nat, vs = [.ref j, .int (m : Nat)] ∧ 1 ≤ m ∧ m ≤ 4 ∧ JarAt H j n ∧ n ≤ 900000 ∧ ∀ v ns H', GoodT m ns → Th (hid j H') v (.tuple (natsD ns)) → FzV (hid j H') v → KJ.But j H H' → JarAt H' j (n + 2) → Q v H'
/-- a net whose fifth part has no dict of its own -/
def NetZ (H : Hp) (v : V) : Prop := ∃ (a : Addr) (p0 p1 p2 p3 u : V), v = .ref a ∧ H a = some (.tup [p0, p1, p2, p3, u]) ∧ FzV H u
theorem NetZ.same {H H' : Hp} {v : V} (h : NetZ H v) (s : Same H H') : NetZ H' v := by
  obtain ⟨a, p0, p1, p2, p3, u, e, q, f⟩ := h
  exact ⟨a, p0, p1, p2, p3, u, e, s _ _ q, f.same s⟩
def spMake2 : Sp := fun vs H Q _ => ∃ j n, vs = [.ref j, .int 4] ∧ JarAt H j n ∧ n ≤ 800000 ∧ ∀ v nt H', GoodN nt → Th (hid j H') v nt.d → NetZ (hid j H') v → KJ.But j H H' → JarAt H' j (n + 100) → Q v H'
theorem asc_card : ∀ {ns : List Nat} {m : Nat}, ns.Pairwise (· < ·) → (∀ i ∈ ns, i < m) → ns.length ≤ m := by
  intro ns m h1 h2
  have h : ∀ i (hi : i < ns.length), i ≤ ns[i] := by
    intro i
    induction i with
    | zero => intro _; exact Nat.zero_le _
    | succ i ih =>
      intro hi
      have a := ih (by omega)
      have b := List.pairwise_iff_getElem.mp h1 i (i + 1) (by omega) hi (by omega)
      omega
  by_cases c : ns.length = 0
  · omega
  · have a := h (ns.length - 1) (by omega)
    have b := h2 (ns[ns.length - 1]'(by omega)) (List.getElem_mem _)
    omega
theorem goodT_of {m : Nat} {ms : List Int} (hp : ms.Pairwise (· < ·)) (h0 : ∀ z ∈ ms, 0 ≤ z ∧ z < (m : Nat)) (hn : ms ≠ []) : GoodT m (ms.map Int.toNat) ∧ ms.map PyData.int = natsD (ms.map Int.toNat) := by
  have e : ms.map PyData.int = natsD (ms.map Int.toNat) := by
    unfold natsD
    rw [List.map_map]
    refine List.map_congr_left fun z hz => ?_
    have := (h0 z hz).1
    show PyData.int z = PyData.int ((z.toNat : Nat) : Int)
    rw [Int.toNat_of_nonneg this]
  have lt : ∀ i ∈ ms.map Int.toNat, i < m := fun i hi => by
    obtain ⟨z, hz, rfl⟩ := List.mem_map.mp hi
    have := h0 z hz
    omega
  have asc : (ms.map Int.toNat).Pairwise (· < ·) := by
    rw [List.pairwise_map]
    refine hp.imp_of_mem fun {a b} ha hb h => ?_
    have := h0 a ha
    have := h0 b hb
    omega
  exact ⟨⟨fun z => hn (List.map_eq_nil_iff.mp z), asc, lt, asc_card asc lt⟩, e⟩
theorem cut_map {ms : List Int} {k : Nat} : cutD (ms.map PyData.int) none (some (k : Int)) = (ms.take k).map PyData.int := by
  unfold cutD
  rw [HT.sIx_nat, HT.sIx_none, List.drop_zero, Nat.sub_zero, List.length_map, ← List.map_take]
  congr 1
  rw [← List.take_take, List.take_length]
theorem mk_lst {j : Addr} {σ : L2.St} {H : Hp} {ta : TA} {ds : List PyData} (hj : H j ≠ none) (h : MkA j ta σ H ds) (hl : ds.length ≤ 1000) : Mk j (tLst ta) σ H (.list ds) := fun H1 s Q q =>
  h H1 s _ fun vs H2 s2 t2 => ⟨Nat.le_trans (by rw [all2 t2]; exact hl) (by decide), fun p hp => by
    have sp := same_upd (o := .lst vs) hp
    have np := new_ne hp (same_ne (s.trans s2) hj)
    exact q _ _ (s2.trans sp) (.lst (by rw [hid_ne np]; exact upd_same) (ThAllj.same t2 sp))⟩
theorem mk_i {j : Addr} {σ : L2.St} {H : Hp} {i : Int} : Mk j (tC (.int i)) σ H (.int i) := mk_vi fun _ => vi_c
theorem lit_pair {j : Addr} {σ : L2.St} {a b : Int} : Lit j (tTup (tCons (tC (.int a)) (tCons (tC (.int b)) tNil))) σ (.tuple [.int a, .int b]) := lit_tup (litA_cons lit_int (litA_cons lit_int litA_nil)) (by simp)
abbrev nLot : List Str := ["jar", "many", "found", "keep", "at"]
abbrev nMk : List Str := ["jar", "most", "many", "unknowns", "pipes", "turn", "start", "aims", "share", "pipe", "at"]
section
variable {P : Program} {w : World} {K : PySem.W.Frag} {mg : Str → Option Value} {base : Heap}
theorem scPart : FnScope ["jar", "way"] ["jar"] (defScope lToldPart) := ⟨rfl, rfl, rfl, by decide +kernel, rfl, by decide +kernel, by decide +kernel⟩
theorem ok_part2 {f fD fO fF : Addr} {fd fdD fdO fdF : FuncData} (F : Fun K "_law_told_part" "_law_told_part" lToldPart f fd)
    (FD : FnOk P w K mg base CX0 1 fD fdD ["jar", "top"] spDip) (mD : mg "_law_dip" = some (.ref fD)) (kD : PySem.W.keepIn K (.ref fD) = true) (bD : Binds K fdD ["jar", "top"] [])
    (FO : FnOk P w K mg base CX0 2 fO fdO ["jar", "some"] (spOne K)) (mO : mg "_law_one_of" = some (.ref fO)) (kO : PySem.W.keepIn K (.ref fO) = true) (bO : Binds K fdO ["jar", "some"] [])
    (FF : FnOk P w K mg base CX0 1 fF fdF ["top", "low"] spLow) (mF : mg "_law_frac" = some (.ref fF)) (kF : PySem.W.keepIn K (.ref fF) = true) (bF : Binds K fdF ["top", "low"] []) :
    FnOk P w K mg base CX0 3 f fd ["jar"] spPart2 := by
  refine F.ok scPart (fun vs H Q E h => ?_) (fun cdv A outer s H vs Q E hr h => ?_)
  · obtain ⟨j, n, rfl, _⟩ := h
    rfl
  · obtain ⟨j, n, rfl, hj, hn, k⟩ := h
    have hr1 : Room 1 _ := hr.mono (by decide)
    refine ⟨_, pss_cons (ps_set (i := 1) scPart.nd rfl (Or.inl rfl) (pe_call FD hr1 rfl mD kD bD .nil pass0 (pa_cons (pv 0) (pa_cons pe_int pa_nil))))
      (pss_cons (ps_if (pt_cmpR op_lt (pv 1) pe_int (nomark _)) (pss_one (ps_ret (pe_call FO hr rfl mO kO bO .nil pass0 (pa_cons (pv 0) (pa_cons (pe_lst (pa_cons (pe_tup (pa_cons pe_int (pa_cons pe_int pa_nil))) (pa_cons (pe_tup (pa_cons pe_int (pa_cons pe_int pa_nil))) (pa_cons (pe_tup (pa_cons pe_int (pa_cons pe_int pa_nil))) (pa_cons (pe_tup (pa_cons pe_int (pa_cons pe_int pa_nil)))
          (pa_cons (pe_tup (pa_cons pe_int (pa_cons pe_int pa_nil))) (pa_cons (pe_tup (pa_cons pe_int (pa_cons pe_int pa_nil))) (pa_cons (pe_tup (pa_cons (pe_un un_neg pe_int) (pa_cons pe_int pa_nil))) (pa_cons (pe_tup (pa_cons pe_int (pa_cons pe_int pa_nil))) (pa_cons (pe_tup (pa_cons pe_int (pa_cons pe_int pa_nil))) (pa_cons (pe_tup (pa_cons pe_int (pa_cons pe_int pa_nil))) pa_nil))))))))))) pa_nil))))) pss_nil)
      (pss_cons (ps_if (pt_cmpR op_lt (pv 1) pe_int (nomark _)) (pss_one (ps_ret (pe_call FF hr1 rfl mF kF bF .nil pass0 (pa_cons (pe_op op_sub (pe_call FD hr1 rfl mD kD bD .nil pass0 (pa_cons (pv 0) (pa_cons pe_int pa_nil))) pe_int) (pa_cons (pe_op op_add pe_int (pe_call FD hr1 rfl mD kD bD .nil pass0 (pa_cons (pv 0) (pa_cons pe_int pa_nil)))) pa_nil))))) pss_nil)
      (pss_one (ps_ret (pe_call FF hr1 rfl mF kF bF .nil pass0 (pa_cons (pe_op op_sub (pe_call FD hr1 rfl mD kD bD .nil pass0 (pa_cons (pv 0) (pa_cons pe_int pa_nil))) pe_int) (pa_cons (pe_op op_add pe_int (pe_call FD hr1 rfl mD kD bD .nil pass0 (pa_cons (pv 0) (pa_cons pe_int pa_nil)))) pa_nil))))))), ?_⟩
    have two : ∀ (H1 : Hp) (a1 a2 : Int) (p : Addr), 0 < a2 → a2 ≤ 999 → a1.natAbs ≤ 999 → KJ.But j H H1 → JarAt H1 j (n + 3) → H1 p = none → Q (.ref p) (upd H1 p (.tup [.int (low a1 a2).1, .int (low a1 a2).2])) := fun H1 a1 a2 p h1 h2 h3 b jr hp => by
      have sp := same_upd (o := .tup [V.int (low a1 a2).1, .int (low a1 a2).2]) hp
      exact k _ (low a1 a2) _ (low_told h1 h2 h3) (.tup (by rw [hid_ne (new_ne hp (jar_ne jr))]; exact upd_same) (.cons (.int _) (.cons (.int _) .nil))) (b.trans (KJ.But.same sp)) (jar_same jr sp)
    have p9 : ∀ {l : Int}, 0 < l → l ≤ 999 → l.natAbs < 2 ^ 9000 := fun {l} h1 h2 => Nat.lt_of_lt_of_le (show l.natAbs < 2 ^ 10 by omega) (Nat.pow_le_pow_right (by decide) (by decide))
    refine ⟨_, rfl, j, _, n, rfl, by decide, by decide, hj, by omega, fun way H1 w0 w1 b1 j1 => ?_⟩
    refine ⟨_, rfl, _, _, rfl, rfl, _, rfl, ite2 (fun c => ?_) (fun c => ?_)⟩
    · refine ⟨_, rfl, ?_⟩
      have L : Lit j (tLst (tCons (tTup (tCons (tC (.int 0)) (tCons (tC (.int 1)) tNil))) (tCons (tTup (tCons (tC (.int 1)) (tCons (tC (.int 1)) tNil))) (tCons (tTup (tCons (tC (.int 1)) (tCons (tC (.int 2)) tNil))) (tCons (tTup (tCons (tC (.int 1)) (tCons (tC (.int 3)) tNil))) (tCons (tTup (tCons (tC (.int 1)) (tCons (tC (.int 4)) tNil)))
        (tCons (tTup (tCons (tC (.int 2)) (tCons (tC (.int 3)) tNil))) (tCons (tTup (tCons (tUn (rU fun i => .int (-i)) (tC (.int 1))) (tCons (tC (.int 2)) tNil))) (tCons (tTup (tCons (tC (.int 3)) (tCons (tC (.int 2)) tNil))) (tCons (tTup (tCons (tC (.int 1)) (tCons (tC (.int 5)) tNil))) (tCons (tTup (tCons (tC (.int 2)) (tCons (tC (.int 1)) tNil))) tNil))))))))))) ((L2.start ["jar", "way"] [V.ref j]).set 1 (some (.int way))) _ :=
        lit_lst (litA_cons lit_pair (litA_cons lit_pair (litA_cons lit_pair (litA_cons lit_pair (litA_cons lit_pair (litA_cons lit_pair (litA_cons (lit_tup (litA_cons lit_neg (litA_cons lit_int litA_nil)) (by simp)) (litA_cons lit_pair (litA_cons lit_pair (litA_cons lit_pair litA_nil)))))))))) (by simp)
      refine L H1 _ (jar_ne j1) fun v H2 s2 t2 => ?_
      have tv := t2
      cases t2 with
      | lst e2 ta =>
        refine one_of (K := K) (E := L2.E0) tv (.inl rfl) (by simp) (by simp) (jar_same j1 s2) (by omega) fun x e H3 he te b3 j3 => ?_
        obtain ⟨f, rfl, hf⟩ : ∃ f, e = KP.fD f ∧ Told f := by
          simp only [List.mem_cons, List.not_mem_nil, or_false] at he
          rcases he with rfl | rfl | rfl | rfl | rfl | rfl | rfl | rfl | rfl | rfl
          · exact ⟨(0, 1), rfl, by decide, by decide, by decide, by decide +kernel⟩
          · exact ⟨(1, 1), rfl, by decide, by decide, by decide, by decide +kernel⟩
          · exact ⟨(1, 2), rfl, by decide, by decide, by decide, by decide +kernel⟩
          · exact ⟨(1, 3), rfl, by decide, by decide, by decide, by decide +kernel⟩
          · exact ⟨(1, 4), rfl, by decide, by decide, by decide, by decide +kernel⟩
          · exact ⟨(2, 3), rfl, by decide, by decide, by decide, by decide +kernel⟩
          · exact ⟨(-1, 2), rfl, by decide, by decide, by decide, by decide +kernel⟩
          · exact ⟨(3, 2), rfl, by decide, by decide, by decide, by decide +kernel⟩
          · exact ⟨(1, 5), rfl, by decide, by decide, by decide, by decide +kernel⟩
          · exact ⟨(2, 1), rfl, by decide, by decide, by decide, by decide +kernel⟩
        exact k x f H3 hf te (b1.trans ((KJ.But.same s2).trans b3)) (jar_more j3 (by omega))
    refine ⟨_, rfl, _, _, rfl, rfl, _, rfl, ite2 (fun c2 => ?_) (fun c2 => ?_)⟩
    · refine ⟨_, rfl, j, _, _, rfl, by decide, by decide, j1, by omega, fun r1 H2 r10 r11 b2 j2 => ⟨_, _, rfl, rfl, ?_⟩⟩
      refine ⟨_, rfl, j, _, _, rfl, by decide, by decide, j2, by omega, fun r2 H3 r20 r21 b3 j3 => ⟨_, _, rfl, rfl, ?_⟩⟩
      exact ⟨_, _, rfl, by omega, p9 (by omega) (by omega), fun p hp => two H3 _ _ p (by omega) (by omega) (by omega) (b1.trans (b2.trans b3)) j3 hp⟩
    · refine ⟨_, rfl, j, _, _, rfl, by decide, by decide, j1, by omega, fun r1 H2 r10 r11 b2 j2 => ⟨_, _, rfl, rfl, ?_⟩⟩
      refine ⟨_, rfl, j, _, _, rfl, by decide, by decide, j2, by omega, fun r2 H3 r20 r21 b3 j3 => ⟨_, _, rfl, rfl, ?_⟩⟩
      exact ⟨_, _, rfl, by omega, p9 (by omega) (by omega), fun p hp => two H3 _ _ p (by omega) (by omega) (by omega) (b1.trans (b2.trans b3)) j3 hp⟩
theorem scLot : FnScope nLot ["jar", "many"] (defScope lLot) := ⟨rfl, rfl, rfl, by decide +kernel, rfl, by decide +kernel, by decide +kernel⟩
theorem ok_lot2 {f fD : Addr} {fd fdD : FuncData} (F : Fun K "_law_lot" "_law_lot" lLot f fd) (T : TxD mg)
    (FD : FnOk P w K mg base CX0 1 fD fdD ["jar", "top"] spDip) (mD : mg "_law_dip" = some (.ref fD)) (kD : PySem.W.keepIn K (.ref fD) = true) (bD : Binds K fdD ["jar", "top"] []) :
    FnOk P w K mg base CX0 2 f fd ["jar", "many"] spLot2 := by
  refine F.ok scLot (fun vs H Q E h => ?_) (fun cdv A outer s H vs Q E hr h => ?_)
  · obtain ⟨j, m, n, rfl, _⟩ := h
    rfl
  · obtain ⟨j, m, n, rfl, m1, m4, hj, hn, k⟩ := h
    refine ⟨_, pss_cons (ps_setLc (i := 2) (own := [("at", 4)]) (g := gName 4) rfl scLot.nd rfl rfl (sw_true rfl rfl rfl (by decide +kernel)) (pi_range1 rfl T.range (pa_cons (pv 1) pa_nil)) (blkOk_by (N := nLot) (sc := defScope lLot) (by decide +kernel))
          (fun _ _ _ _ _ => pg_name (i := 4) scLot.nd rfl (Or.inl rfl))
          (fun _ _ _ _ _ => pts_one (pt_cmpR op_eq (pe_op op_and (pe_op op_shr (pe_ix (r := rIx K) (by exact ix_seq) (pv 0) pe_int (fun _ _ => rfl)) (pv 4)) pe_int) pe_int (nomark _)))
          (fun _ _ _ _ _ => pv 4))
      (pss_cons (ps_set (i := 3) scLot.nd rfl (Or.inl rfl) (pe_call FD hr rfl mD kD bD .nil pass0 (pa_cons (pv 0) (pa_cons (pv 1) pa_nil))))
      (pss_one (ps_ret (pe_slice sl_tupF (pe_tupleOfF (by rfl) T.tuple (pe_callB (cr_sortedSet rfl) (by rfl) T.sorted (by decide +kernel) (pa_cons (pe_callTy (cr_setL rfl) (by rfl) T.set (by decide +kernel)
          (pa_cons (pe_op op_cat (pv 2) (pe_lst (pa_cons (pv 3) pa_nil))) pa_nil)) pa_nil))) po_none (po_some (pe_op op_add pe_int (pe_call FD hr rfl mD kD bD .nil pass0 (pa_cons (pv 0) (pa_cons (pv 1) pa_nil))))))))), ?_⟩
    refine ⟨_, rfl, _, rfl, by omega, by omega, fun D hD => ?_⟩
    obtain ⟨ja, jb, jc, ej, _⟩ := id hj
    refine lc_range (lo := 0) (n := (m : Int).toNat) (fun i H' => Same H H' ∧ ∃ ns : List Int, ns.length ≤ i ∧ (∀ z ∈ ns, 0 ≤ z ∧ z < (m : Nat)) ∧ H' D = some (.lst (ns.map V.int))) ⟨same_upd hD, [], Nat.le_refl _, (fun z hz => by cases hz), upd_same⟩ ?_ ?_
    · rintro i H' hi ⟨s7, ns, ln, nz, eD⟩
      refine ⟨rfl, ?_⟩
      refine ⟨_, rfl, .inl ⟨j, _, _, .int jb, rfl, rfl, SqL.of (s7 _ _ ej), rfl, ?_⟩⟩
      refine ⟨_, rfl, _, _, rfl, rfl, (by show (0 : Int) ≤ 0 + (i : Int); omega), _, _, rfl, rfl, rfl, _, rfl, ?_⟩
      refine ite2 (fun c => ?_) (fun c => ?_)
      · refine ⟨_, rfl, _, eD, ?_, fun b o eb => ?_, ns ++ [0 + (i : Int)], ?_, fun z hz => ?_, ?_⟩
        · rw [List.length_map]
          exact Nat.lt_of_le_of_lt (show ns.length ≤ 4 by omega) (by decide)
        · have nb : b ≠ D := fun z => by
            rw [z, hD] at eb
            cases eb
          rw [upd_ne nb]
          exact s7 _ _ eb
        · rw [List.length_append, List.length_singleton]
          omega
        · rcases List.mem_append.mp hz with h | h
          · exact nz z h
          · rw [List.mem_singleton.mp h]
            omega
        · rw [upd_same, List.map_append]
          rfl
      · exact ⟨s7, ns, Nat.le_succ_of_le ln, nz, eD⟩
    · rintro H1 ⟨s1, ns, ln, nz, eD⟩
      have nD : D ≠ j := fun z => by
        rw [z, ej] at hD
        cases hD
      refine ⟨_, rfl, _, rfl, j, (m : Nat), n, rfl, by omega, by omega, jar_same hj s1, by omega, fun kp H2 k0 k1 b2 j2 => ?_⟩
      have eD2 : H2 D = some (.lst (ns.map V.int)) := b2 _ _ nD eD
      obtain ⟨ja2, jb2, jc2, ej2, _⟩ := id j2
      refine ⟨_, rfl, _, rfl, (by show 1 ≤ sizeLine; decide), fun l hl => ?_⟩
      have sl := same_upd (o := .lst [V.int kp]) hl
      refine ⟨D, l, _, _, rfl, rfl, sl _ _ eD2, upd_same, ?_, fun p hp => ?_⟩
      · rw [List.length_map]
        exact Nat.le_trans (show ns.length + 1 ≤ 10 by omega) (by decide)
      have sp := same_upd (o := .lst (ns.map V.int ++ [V.int kp])) hp
      have em : ns.map V.int ++ [V.int kp] = (ns ++ [kp]).map V.int := by rw [List.map_append]; rfl
      have ln5 : (ns ++ [kp]).length ≤ 5 := by rw [List.length_append, List.length_singleton]; omega
      refine ⟨p, ns ++ [kp], rfl, SqL.of (by rw [upd_same, em]), by omega, fun q c hq hc => ?_⟩
      have sq := same_upd (o := SetO w q (fun j => decide (j ∈ ns ++ [kp])) c) hq
      refine ⟨q, _, c, rfl, upd_same, by omega, fun ms r asc mem lm hr' => ?_⟩
      have sr := same_upd (o := .lst (ms.map V.int)) hr'
      refine ⟨r, _, rfl, SqL.of upd_same, fun t o ht od => ?_⟩
      have st := same_upd (o := .frz o (.tup (ms.map V.int))) ht
      have s3 := ((sl.trans sp).trans sq).trans (sr.trans st)
      have nT : t ≠ j := new_ne ht (jar_ne (jar_same j2 (((sl.trans sp).trans sq).trans sr)))
      have j3 := jar_same j2 s3
      have mz : ∀ z ∈ ms, 0 ≤ z ∧ z < (m : Nat) := fun z hz => by
        have := of_decide_eq_true ((mem z).mp hz)
        rcases List.mem_append.mp this with h | h
        · exact nz z h
        · rw [List.mem_singleton.mp h]
          exact ⟨k0, k1⟩
      have kin : kp ∈ ms := (mem kp).mpr (decide_eq_true (List.mem_append_right _ (List.mem_singleton.mpr rfl)))
      refine ⟨_, rfl, _, rfl, j, (m : Nat), _, rfl, by omega, by omega, j3, by omega, fun r2 H3 r0 r1 b3 j4 => ⟨_, _, rfl, rfl, _, rfl, ?_⟩⟩
      have eT3 : H3 t = some (.frz o (.tup (ms.map V.int))) := b3 _ _ nT upd_same
      have bb : KJ.But j H H3 := (KJ.But.same s1).trans (b2.trans ((KJ.But.same s3).trans b3))
      have ta := thAll_ints (H := hid j H3) ms
      refine ⟨t, _, o, rfl, eT3, fun z => ?_, fun _ p2 o2 hp2 od2 => ?_⟩
      · obtain ⟨g, e⟩ := goodT_of asc mz (fun z => by rw [z] at kin; cases kin)
        refine k _ _ H3 g (.tup' (.inr ⟨o, by rw [hid_ne nT]; exact eT3⟩) ?_) ⟨t, _, o, rfl, od, by rw [hid_ne nT]; exact eT3⟩ bb j4
        rw [← e]
        exact ta
      · have s4 := same_upd (o := .frz o2 (.tup (cutV (ms.map V.int) none (some (1 + r2))))) hp2
        have er : (1 : Int) + r2 = ((1 + r2.toNat : Nat) : Int) := by omega
        have tc : ThAll (hid j (upd H3 p2 (.frz o2 (.tup (cutV (ms.map V.int) none (some (1 + r2))))))) (cutV (ms.map V.int) none (some (1 + r2))) ((ms.take (1 + r2.toNat)).map PyData.int) := by
          have z := ThAllj.same (ta.cut none (some (1 + r2))) s4
          have e : cutD (ms.map PyData.int) none (some (1 + r2)) = (ms.take (1 + r2.toNat)).map PyData.int := by rw [er, cut_map]
          rw [e] at z
          exact z
        obtain ⟨g, e⟩ := goodT_of (ms := ms.take (1 + r2.toNat)) (m := m) (asc.sublist (List.take_sublist _ _)) (fun z hz => mz z (List.mem_of_mem_take hz)) (fun z => by
          have := congrArg List.length z
          rw [List.length_take, List.length_nil] at this
          have l0 := List.length_pos_of_mem kin
          omega)
        rw [e] at tc
        exact k _ _ _ g (.tup' (.inr ⟨o2, by rw [hid_ne (new_ne hp2 (jar_ne j4))]; exact upd_same⟩) tc) ⟨p2, _, o2, rfl, od2, by rw [hid_ne (new_ne hp2 (jar_ne j4))]; exact upd_same⟩ (bb.trans (KJ.But.same s4)) (jar_same j4 s4)
end
end KP

set_option Elab.async false
set_option linter.all false
set_option maxRecDepth 100000
set_option maxHeartbeats 4000000
/-! ### drawn nets that are nets -/
namespace KP
open PySem PySem.Spec PyProof.Rows L2 KX KT KJ KS FR
section
variable {P : Program} {w : World} {K : PySem.W.Frag} {mg : Str → Option Value} {base : Heap}
theorem scMk : FnScope nMk ["jar", "most"] (defScope lNet) := ⟨rfl, rfl, rfl, by decide +kernel, rfl, by decide +kernel, by decide +kernel⟩
theorem ok_make2 {f fd1 fO fP fL : Addr} {fd fdD fdO fdP fdL : FuncData} (F : Fun K "_law_net" "_law_net" lNet f fd) (T : TxD mg)
    (FD : FnOk P w K mg base CX0 1 fd1 fdD ["jar", "top"] spDip) (mD : mg "_law_dip" = some (.ref fd1)) (kD : PySem.W.keepIn K (.ref fd1) = true) (bD : Binds K fdD ["jar", "top"] [])
    (FO : FnOk P w K mg base CX0 2 fO fdO ["jar", "some"] (spOne K)) (mO : mg "_law_one_of" = some (.ref fO)) (kO : PySem.W.keepIn K (.ref fO) = true) (bO : Binds K fdO ["jar", "some"] [])
    (FP : FnOk P w K mg base CX0 3 fP fdP ["jar"] spPart2) (mP : mg "_law_told_part" = some (.ref fP)) (kP : PySem.W.keepIn K (.ref fP) = true) (bP : Binds K fdP ["jar"] [])
    (FL : FnOk P w K mg base CX0 2 fL fdL ["jar", "many"] spLot2) (mL : mg "_law_lot" = some (.ref fL)) (kL : PySem.W.keepIn K (.ref fL) = true) (bL : Binds K fdL ["jar", "many"] []) :
    FnOk P w K mg base CX0 4 f fd ["jar", "most"] spMake2 := by
  refine F.ok scMk (fun vs H Q E h => ?_) (fun cdv A outer s H vs Q E hr h => ?_)
  · obtain ⟨j, n, rfl, _⟩ := h
    rfl
  · obtain ⟨j, n, rfl, hj, hn, k⟩ := h
    have hr1 : Room 1 _ := hr.mono (by decide)
    have hr2 : Room 2 _ := hr.mono (by decide)
    have hu : (A.deeper (envOfC "_law_net" (defScope lNet) s.heap.objs.size f cdv)).units + 65 < cLine := by have := hr.un; omega
    refine ⟨_, pss_cons (ps_set (i := 2) scMk.nd rfl (Or.inl rfl) (pe_call FO hr2 rfl mO kO bO .nil pass0 (pa_cons (pv 0) (pa_cons (pe_slice sl_list (pe_lst (pa_cons pe_int (pa_cons pe_int (pa_cons pe_int (pa_cons pe_int (pa_cons pe_int (pa_cons pe_int pa_nil))))))) po_none (po_some (pe_op op_add (pv 1) pe_int))) pa_nil))))
      (pss_cons (ps_par (i := 3) (j := 4) (by rfl) scMk.nd rfl rfl (by decide) rfl rfl (pa_cons (pe_call FO hr2 rfl mO kO bO .nil pass0 (pa_cons (pv 0) (pa_cons (pe_lst (pa_cons pe_int (pa_cons pe_int (pa_cons pe_int (pa_cons pe_int (pa_cons pe_int (pa_cons pe_int
          (pa_cons (pe_ifExp (pt_cmpR op_eq (pv 2) pe_int (nomark _)) pe_int pe_int) pa_nil)))))))) pa_nil))) (pa_cons (pe_lst pa_nil) pa_nil)) (by rfl))
      (pss_cons (ps_for PassesOwn.never rfl (pi_range1 rfl T.range (pa_cons (pe_call FO hr2 rfl mO kO bO .nil pass0 (pa_cons (pv 0) (pa_cons (pe_lst (pa_cons pe_int (pa_cons pe_int (pa_cons pe_int (pa_cons pe_int (pa_cons pe_int (pa_cons pe_int (pa_cons pe_int (pa_cons pe_int (pa_cons pe_int pa_nil)))))))))) pa_nil))) pa_nil)) (pg_name (i := 5) scMk.nd rfl (Or.inl rfl))
        (pss_cons (ps_set (i := 6) scMk.nd rfl (by first | exact Or.inl rfl | exact Or.inr rfl) (pe_call FD hr1 rfl mD kD bD .nil pass0 (pa_cons (pv 0) (pa_cons (pv 2) pa_nil))))
        (pss_cons (ps_set (i := 7) scMk.nd rfl (Or.inl rfl) (pe_op op_cat (pe_lc (own := [("at", 10)]) (g := gName 10) rfl scMk.nd (pi_range1 rfl T.range (pa_cons (pv 2) pa_nil)) (blkOk_by (N := nMk) (sc := defScope lNet) (by decide +kernel))
            (fun _ _ _ _ _ => pg_name (i := 10) scMk.nd rfl (Or.inl rfl)) (fun _ _ _ _ _ => pts_one (pt_cmpR op_ne (pv 10) (pv 6) (nomark _))) (fun _ _ _ _ _ => pv 10)) (pe_lst (pa_cons pe_non pa_nil))))
        (Evl.pss_cut (ps_set (i := 8) scMk.nd rfl (Or.inl rfl) (pe_ifExp (PW.pt (pw_and (pt_cmpR op_gt (pv 3) pe_int (nomark _)) (pw_and1 (pt_cmpR op_gt (pe_call FD hr1 rfl mD kD bD .nil pass0 (pa_cons (pv 0) (pa_cons pe_int pa_nil))) pe_int (nomark _)))))
            (pe_tup (pa_cons pe_str (pa_cons (pe_call FD hr1 rfl mD kD bD .nil pass0 (pa_cons (pv 0) (pa_cons (pv 3) pa_nil))) pa_nil))) (pe_call FP hr rfl mP kP bP .nil pass0 (pa_cons (pv 0) pa_nil))))
        (pss_cons (ps_set (i := 9) scMk.nd rfl (Or.inl rfl) (pe_tup (pa_cons (pv 6) (pa_cons (pe_call FO hr2 rfl mO kO bO .nil pass0 (pa_cons (pv 0) (pa_cons (pv 7) pa_nil))) (pa_cons (pv 8) pa_nil)))))
        (pss_one (ps_set (i := 4) scMk.nd rfl (Or.inl rfl) (pe_op op_cat (pv 4) (pe_ifExp (pt_cmpR (op_notInD hu) (pv 9) (pv 4) (by rfl)) (pe_lst (pa_cons (pv 9) pa_nil)) (pe_lst pa_nil))))))))))
      (pss_one (ps_ret (pe_tup (pa_cons (pv 2) (pa_cons (pv 3) (pa_cons (pe_tupleOf (by rfl) T.tuple (pv 4)) (pa_cons (pe_call FL hr2 rfl mL kL bL .nil pass0 (pa_cons (pv 0) (pa_cons (pv 2) pa_nil))) (pa_cons (pe_call FL hr2 rfl mL kL bL .nil pass0 (pa_cons (pv 0) (pa_cons (pv 2) pa_nil))) pa_nil)))))))))), ?_⟩
    -- many
    have hjn := jar_ne hj
    refine ⟨_, rfl, by decide, fun l0 hl0 => ⟨_, rfl, _, _, rfl, rfl, _, rfl, l0, _, rfl, SqL.of upd_same, fun p0 hp0 => ?_⟩⟩
    have sl0 := same_upd (o := .lst [V.int 1, .int 2, .int 2, .int 3, .int 3, .int 4]) hl0
    have sp0 := same_upd (o := .lst (cutV [V.int 1, .int 2, .int 2, .int 3, .int 3, .int 4] none (some (4 + 2)))) hp0
    have s0 := sl0.trans sp0
    have hj0 := jar_same hj s0
    have np0 := new_ne hp0 (jar_ne (jar_same hj sl0))
    refine one_of (K := K) (E := L2.E0) (ds := cutD [.int 1, .int 2, .int 2, .int 3, .int 3, .int 4] none (some (4 + 2))) (.lst (by rw [hid_ne np0]; exact upd_same) (ThAll.cut (thAll_ints [1, 2, 2, 3, 3, 4]) none (some (4 + 2)))) (.inl rfl)
      (fun z => by have z' : (6 : Nat) = 0 := congrArg List.length z; omega) (Nat.le_trans cutD_len (by decide)) hj0 (by omega) fun x e H1 he te b1 j1 => ?_
    obtain ⟨m, rfl, m1, m4⟩ : ∃ m : Nat, e = .int (m : Nat) ∧ 1 ≤ m ∧ m ≤ 4 := by
      have := cutD_mem he
      simp only [List.mem_cons, List.not_mem_nil, or_false] at this
      rcases this with rfl | rfl | rfl | rfl | rfl | rfl
      · exact ⟨1, rfl, by decide, by decide⟩
      · exact ⟨2, rfl, by decide, by decide⟩
      · exact ⟨2, rfl, by decide, by decide⟩
      · exact ⟨3, rfl, by decide, by decide⟩
      · exact ⟨3, rfl, by decide, by decide⟩
      · exact ⟨4, rfl, by decide, by decide⟩
    cases te
    have b1 := (KJ.But.same s0).trans b1
    clear hj0 s0 sp0 np0
    -- unknowns, pipes
    have hj1 := jar_ne j1
    have M : Mk j (tLst (tCons (tC (.int 0)) (tCons (tC (.int 1)) (tCons (tC (.int 1)) (tCons (tC (.int 2)) (tCons (tC (.int 2)) (tCons (tC (.int 3)) (tCons (tIf (tTest (tOp rEq (tVar 2) (tC (.int 4)))) (tC (.int 3)) (tC (.int 4))) tNil)))))))) ((L2.start nMk [V.ref j, .int 4]).set 2 (some (.int (m : Nat)))) H1
        (.list [.int 0, .int 1, .int 1, .int 2, .int 2, .int 3, if decide (V.int (m : Nat) = V.int 4) = true then .int 3 else .int 4]) :=
      mk_lst hj1 (mkA_cons mk_i (mkA_cons mk_i (mkA_cons mk_i (mkA_cons mk_i (mkA_cons mk_i (mkA_cons mk_i (mkA_cons (mk_if (fun H1 => ti_test (vi_op (vi_var rfl) vi_c fun Q q => ⟨rfl, q⟩)) mk_i mk_i) mkA_nil))))))) (by simp)
    refine ⟨_, rfl, M H1 (Same.refl H1) _ fun v2 H2 s2 tv2 => ?_⟩
    have tv2' := tv2
    cases tv2 with
    | lst e2 ta2 =>
    refine one_of (K := K) (E := L2.E0) tv2' (.inl rfl) (by simp) (by simp) (jar_same j1 s2) (by omega) fun x e H3 he te b3 j3 => ?_
    obtain ⟨u, rfl, u4, mu⟩ : ∃ u : Nat, e = .int (u : Nat) ∧ u ≤ 4 ∧ m + u ≤ 7 := by
      simp only [List.mem_cons, List.not_mem_nil, or_false] at he
      rcases he with rfl | rfl | rfl | rfl | rfl | rfl | rfl
      · exact ⟨0, rfl, by decide, by omega⟩
      · exact ⟨1, rfl, by decide, by omega⟩
      · exact ⟨1, rfl, by decide, by omega⟩
      · exact ⟨2, rfl, by decide, by omega⟩
      · exact ⟨2, rfl, by decide, by omega⟩
      · exact ⟨3, rfl, by decide, by omega⟩
      · by_cases c : m = 4
        · rw [if_pos (by rw [c]; rfl)]
          exact ⟨3, rfl, by decide, by omega⟩
        · rw [if_neg (by
            intro z
            have := V.int.inj (of_decide_eq_true z)
            omega)]
          exact ⟨4, rfl, by decide, by omega⟩
    cases te
    refine ⟨by decide, fun pp hpp => ⟨_, _, rfl, ?_⟩⟩
    have spp := same_upd (o := .lst []) hpp
    have npp : pp ≠ j := new_ne hpp (jar_ne j3)
    have bA := b1.trans ((KJ.But.same s2).trans (b3.trans (KJ.But.same spp)))
    have jA := jar_same j3 spp
    have eA : upd H3 pp (.lst []) pp = some (.lst []) := upd_same
    generalize upd H3 pp (.lst []) = HA at bA jA eA ⊢
    clear spp hpp b3 j3 s2 ta2 tv2' e2 j1 b1
    -- the loop
    have L : ∀ {σ : L2.St}, Lit j (tLst (tCons (tC (.int 0)) (tCons (tC (.int 1)) (tCons (tC (.int 2)) (tCons (tC (.int 3)) (tCons (tC (.int 4)) (tCons (tC (.int 5)) (tCons (tC (.int 6)) (tCons (tC (.int 8)) (tCons (tC (.int 12)) tNil)))))))))) σ (.list [.int 0, .int 1, .int 2, .int 3, .int 4, .int 5, .int 6, .int 8, .int 12]) :=
      lit_lst (litA_cons lit_int (litA_cons lit_int (litA_cons lit_int (litA_cons lit_int (litA_cons lit_int (litA_cons lit_int (litA_cons lit_int (litA_cons lit_int (litA_cons lit_int litA_nil))))))))) (by simp)
    refine ⟨_, rfl, L HA _ (jar_ne jA) fun v2 H2 s2 tv2 => ?_⟩
    have tv2' := tv2
    cases tv2 with
    | lst e2 ta2 =>
    refine one_of (K := K) (E := L2.E0) tv2' (.inl rfl) (by simp) (by simp) (jar_same jA s2) (by omega) fun x e H3 he te b3 j3 => ?_
    obtain ⟨t, rfl, t0, t12⟩ : ∃ t, e = .int t ∧ 0 ≤ t ∧ t ≤ 12 := by
      simp only [List.mem_cons, List.not_mem_nil, or_false] at he
      rcases he with rfl | rfl | rfl | rfl | rfl | rfl | rfl | rfl | rfl <;> exact ⟨_, rfl, by decide, by decide⟩
    cases te
    have bB := bA.trans ((KJ.But.same s2).trans b3)
    have eB : H3 pp = some (.lst []) := b3 _ _ npp (s2 _ _ eA)
    refine ⟨_, rfl, by omega, by omega, ?_⟩
    refine for_range (lo := 0) (n := t.toNat) (fun i σ H' => ∃ (o5 o6 o7 o8 o9 : Option V) (p : Addr) (xs : List V) (ps : List Pp), σ = [some (.ref j), some (.int 4), some (.int (m : Nat)), some (.int (u : Nat)), some (.ref p), o5, o6, o7, o8, o9, none] ∧ KJ.But j H H' ∧
      JarAt H' j (n + 3 + 6 * i) ∧ p ≠ j ∧ H' p = some (.lst xs) ∧ ThAll (hid j H') xs (ps.map ppD) ∧ ps.length ≤ i ∧ (∀ p ∈ ps, GoodP m u p) ∧ distB (ps.map ppD) = true) ⟨none, none, none, none, none, pp, [], [], rfl, bB, jar_more j3 (by omega), npp, eB, .nil, Nat.le_refl _, (fun d hd => by cases hd), rfl⟩ ?_ ?_
    · rintro i σ H' hi ⟨o5, o6, o7, o8, o9, p, xs, ps, rfl, b0, j0, np, ep, ta, ln, hg, hdist⟩
      have i12 : i < 12 := by omega
      refine ⟨_, rfl, _, rfl, j, (m : Nat), _, rfl, by omega, by omega, j0, by omega, fun st H4 st0 st1 b4 j4 => ?_⟩
      refine ⟨_, rfl, _, rfl, by omega, by omega, fun D hD => ?_⟩
      refine lc_range (lo := 0) (n := (m : Int).toNat) (fun i H' => Same H4 H' ∧ ∃ ns : List Int, ns.length ≤ i ∧ (∀ z ∈ ns, 0 ≤ z ∧ z < (m : Nat) ∧ z ≠ st) ∧ H' D = some (.lst (ns.map V.int))) ⟨same_upd hD, [], Nat.le_refl _, (fun z hz => by cases hz), upd_same⟩ ?_ ?_
      · rintro i5 H5 hi5 ⟨s7, ns, lnn, nz, eD⟩
        refine ⟨rfl, ?_⟩
        refine ⟨_, rfl, _, rfl, rfl, _, rfl, iteB (fun c => ?_) (fun c => ?_)⟩
        · refine ⟨_, rfl, _, eD, ?_, fun b o eb => ?_, ns ++ [0 + (i5 : Int)], ?_, fun z hz => ?_, ?_⟩
          · rw [List.length_map]
            exact Nat.lt_of_le_of_lt (show ns.length ≤ 4 by omega) (by decide)
          · have nb : b ≠ D := fun z => by
              rw [z, hD] at eb
              cases eb
            rw [upd_ne nb]
            exact s7 _ _ eb
          · rw [List.length_append, List.length_singleton]
            omega
          · rcases List.mem_append.mp hz with h | h
            · exact nz z h
            · rw [List.mem_singleton.mp h]
              rw [Bool.not_eq_true'] at c
              have c := of_decide_eq_false c
              exact ⟨by omega, by omega, fun e => c (by rw [e])⟩
          · rw [upd_same, List.map_append]
            rfl
        · exact ⟨s7, ns, Nat.le_succ_of_le lnn, nz, eD⟩
      · rintro H5 ⟨s5, ns, lnn, nz, eD⟩
        refine ⟨by decide, fun l hl => ?_⟩
        have sl := same_upd (o := .lst [V.non]) hl
        refine ⟨D, l, _, _, rfl, rfl, sl _ _ eD, upd_same, ?_, fun q hq => ?_⟩
        · rw [List.length_map]
          exact Nat.le_trans (show ns.length + 1 ≤ 10 by omega) (by decide)
        have sq := same_upd (o := .lst (ns.map V.int ++ [V.non])) hq
        have nq : q ≠ j := new_ne hq (jar_ne (jar_same j4 (s5.trans sl)))
        have s6 := s5.trans (sl.trans sq)
        have eq6 : upd (upd H5 l (.lst [V.non])) q (.lst (ns.map V.int ++ [V.non])) q = some (.lst (ns.map V.int ++ [V.non])) := upd_same
        generalize upd (upd H5 l (.lst [V.non])) q (.lst (ns.map V.int ++ [V.non])) = H6 at s6 eq6 ⊢
        have j6 := jar_same j4 s6
        have b6 := b4.trans (KJ.But.same s6)
        -- the share
        refine ⟨fun σ' H7 => ∃ v sh, σ' = [some (.ref j), some (.int 4), some (.int (m : Nat)), some (.int (u : Nat)), some (.ref p), some (.int (0 + (i : Int))), some (.int st), some (.ref q), some v, o9, none] ∧ KJ.But j H6 H7 ∧ JarAt H7 j (n + 3 + 6 * i + 1 + 4) ∧
          Th (hid j H7) v (shD sh) ∧ GoodS u sh, ?_, ?_⟩
        · have part : ∀ (H7 : Hp) (c : Nat), c ≤ n + 3 + 6 * i + 1 + 1 → KJ.But j H6 H7 → JarAt H7 j c → spPart2 [.ref j] H7 (fun v H8 => ∃ v' sh, [some (V.ref j), some (V.int 4), some (.int (m : Nat)), some (.int (u : Nat)), some (.ref p), some (.int (0 + (i : Int))), some (.int st), some (.ref q), some v, o9, none] = [some (.ref j), some (.int 4), some (.int (m : Nat)), some (.int (u : Nat)), some (.ref p), some (.int (0 + (i : Int))), some (.int st), some (.ref q), some v', o9, none] ∧ KJ.But j H6 H8 ∧ JarAt H8 j (n + 3 + 6 * i + 1 + 4) ∧
              Th (hid j H8) v' (shD sh) ∧ GoodS u sh) L2.E0 := fun H7 c hc b7 j7 =>
            ⟨j, c, rfl, j7, by omega, fun v x H8 hx th b8 j8 => ⟨v, .inr x, rfl, b7.trans b8, jar_more j8 (by omega), th, hx⟩⟩
          refine ⟨_, rfl, _, _, rfl, rfl, _, rfl, iteB (fun c => ?_) (fun c => ?_)⟩
          · have c' := of_decide_eq_true c
            refine ⟨_, rfl, j, _, _, rfl, by decide, by decide, j6, by omega, fun r H7 r0 r1 b7 j7 => ⟨_, _, rfl, rfl, _, rfl, iteB (fun c2 => ?_) (fun c2 => ?_)⟩⟩
            · refine ⟨_, rfl, _, rfl, j, (u : Nat), _, rfl, by omega, by omega, j7, by omega, fun r2 H8 q0 q1 b8 j8 => ⟨(by show 2 ≤ sizeLine; decide), fun z hz => ?_⟩⟩
              have sz := same_upd (o := .tup [V.str "x", .int r2]) hz
              refine ⟨_, .inl r2.toNat, rfl, b7.trans (b8.trans (KJ.But.same sz)), jar_more (jar_same j8 sz) (by omega), .tup (by rw [hid_ne (new_ne hz (jar_ne j8))]; exact upd_same) (.cons (.str _) (.cons ?_ .nil)), by show r2.toNat < u; omega⟩
              rw [Int.toNat_of_nonneg q0]
              exact .int _
            · exact ⟨_, rfl, part H7 _ (by omega) b7 j7⟩
          · exact ⟨_, rfl, part H6 _ (by omega) (fun _ _ _ e => e) j6⟩
        · rintro σ' H7 ⟨v, sh, rfl, b7, j7, th, hsh⟩
          refine ⟨_, rfl, _, rfl, _, rfl, j, q, _, _, rfl, nq, .inl (b7 _ _ nq eq6), by simp, ?_, j7, by omega, fun x H8 hx b8 j8 => ⟨_, rfl, by show 3 ≤ sizeLine; decide, fun z hz => ?_⟩⟩
          · rw [List.length_append, List.length_map]
            exact Nat.lt_of_le_of_lt (show ns.length + 1 ≤ 10 by omega) (by decide)
          obtain ⟨a, hxa, haa⟩ : ∃ a, Th (hid j H8) x (enD a) ∧ ∀ k, a = some k → k < m ∧ k ≠ st.toNat := by
            rcases List.mem_append.mp hx with h | h
            · obtain ⟨y, hy, rfl⟩ := List.mem_map.mp h
              obtain ⟨y0, y1, y2⟩ := nz y hy
              refine ⟨some y.toNat, ?_, fun k hk => ?_⟩
              · show Th _ _ (.int ((y.toNat : Nat) : Int))
                rw [Int.toNat_of_nonneg y0]
                exact .int y
              · cases hk
                omega
            · rw [List.mem_singleton.mp h]
              exact ⟨none, .non, fun k hk => by cases hk⟩
          have sz := same_upd (o := .tup [V.int st, x, v]) hz
          have thp : Th (hid j (upd H8 z (.tup [V.int st, x, v]))) (.ref z) (ppD ⟨st.toNat, a, sh⟩) := .tup (by rw [hid_ne (new_ne hz (jar_ne j8))]; exact upd_same) (.cons (by rw [Int.toNat_of_nonneg st0]; exact .int _) (.cons (Thj.same hxa sz) (.cons (Thj.same (Thj.but th b8) sz) .nil)))
          have gp : GoodP m u ⟨st.toNat, a, sh⟩ := ⟨by show st.toNat < m; omega, haa, hsh⟩
          have fl : Flat (ppD ⟨st.toNat, a, sh⟩) := pp_flat
          generalize (⟨st.toNat, a, sh⟩ : Pp) = pd at thp gp fl
          generalize upd H8 z (.tup [V.int st, x, v]) = H9 at sz thp ⊢
          have b9 := b6.trans (b7.trans (b8.trans (KJ.But.same sz)))
          have ep9 : H9 p = some (.lst xs) := b9 _ _ np ep
          have ta9 : ThAll (hid j H9) xs (ps.map ppD) := ThAll.mono (Sm.same (hid_but b9)) ta
          have j9 := jar_same j8 sz
          have sL := flat_shapedL (ds := ps.map ppD) fun e he => by
            obtain ⟨p', _, rfl⟩ := List.mem_map.mp he
            exact pp_flat
          have lx : xs.length ≤ 12 := by rw [all2 ta9, List.length_map]; omega
          refine ⟨_, rfl, _, rfl, _, rfl, ppD pd, ps.map ppD, Th.dp (Thj.th thp) fl.2.2, Th.dp (.lst ep9 (ThAll.mono (Sm.same (hid_same j H9)) ta9)) sL.2, shaped_of fl.1 (by have := fl.2.1; omega), sL.1, _, rfl, iteB (fun c => ?_) (fun c => ?_)⟩
          · rw [Bool.not_eq_true'] at c
            refine ⟨_, rfl, (by show 1 ≤ sizeLine; decide), fun l hl => ⟨p, l, xs, [.ref z], rfl, rfl, (same_upd hl) _ _ ep9, upd_same, Nat.le_trans (show xs.length + 1 ≤ 13 by omega) (by decide), fun r hr' => ?_⟩⟩
            have sr := (same_upd (o := .lst [V.ref z]) hl).trans (same_upd (o := .lst (xs ++ [V.ref z])) hr')
            refine ⟨_, _, _, _, _, r, xs ++ [.ref z], ps ++ [pd], rfl, b0.trans (b9.trans (KJ.But.same sr)), jar_more (jar_same j9 sr) (by omega), new_ne hr' (jar_ne (jar_same j9 (same_upd hl))), upd_same, ?_, by rw [List.length_append, List.length_singleton]; omega, fun e he => ?_, ?_⟩
            · rw [List.map_append]
              exact ThAllj.same (ThAll.append ta9 (.cons thp .nil)) sr
            · rcases List.mem_append.mp he with h | h
              · exact hg e h
              · rw [List.mem_singleton.mp h]
                exact gp
            · rw [List.map_append]
              exact dist_snoc hdist c
          · refine ⟨by decide, fun l hl => ⟨p, l, xs, [], rfl, rfl, (same_upd hl) _ _ ep9, upd_same, Nat.le_trans (show xs.length + 0 ≤ 13 by omega) (by decide), fun r hr' => ?_⟩⟩
            have sr := (same_upd (o := .lst ([] : List V)) hl).trans (same_upd (o := .lst (xs ++ [])) hr')
            exact ⟨_, _, _, _, _, r, xs ++ [], ps, rfl, b0.trans (b9.trans (KJ.But.same sr)), jar_more (jar_same j9 sr) (by omega), new_ne hr' (jar_ne (jar_same j9 (same_upd hl))), upd_same, (by have z := ThAllj.same ta9 sr; rw [List.append_nil] at z ⊢; exact z), by omega, hg, hdist⟩
    · rintro σ H' ⟨o5, o6, o7, o8, o9, p, xs, ps, rfl, b0, j0, np, ep, ta, ln, hg, hdist⟩
      refine ⟨_, rfl, _, rfl, _, rfl, .inl ⟨p, xs, rfl, SqL.of ep, fun q hq => ?_⟩⟩
      have sq := same_upd (o := .tup xs) hq
      have tq : Th (hid j (upd H' q (.tup xs))) (.ref q) (.tuple (ps.map ppD)) := .tup (by rw [hid_ne (new_ne hq (jar_ne j0))]; exact upd_same) (ThAllj.same ta sq)
      generalize upd H' q (.tup xs) = H4 at sq tq ⊢
      refine ⟨_, rfl, _, rfl, j, m, _, rfl, m1, m4, jar_same j0 sq, by omega, fun v5 n5 H5 g5 t5 _ b5 j5 => ?_⟩
      refine ⟨_, rfl, _, rfl, j, m, _, rfl, m1, m4, j5, by omega, fun v6 n6 H6 g6 t6 f6 b6 j6 => ⟨by show 5 ≤ sizeLine; decide, fun z hz => ?_⟩⟩
      have sz := same_upd (o := .tup [V.int (m : Nat), .int (u : Nat), .ref q, v5, v6]) hz
      refine k _ ⟨m, u, ps, n5, n6⟩ _ ⟨m1, m4, u4, mu, by show ps.length ≤ 12; omega, hg, hdist, g5, g6⟩ (.tup (by rw [hid_ne (new_ne hz (jar_ne j6))]; exact upd_same) (.cons (.int _) (.cons (.int _) (.cons (Thj.same (Thj.but (Thj.but tq b5) b6) sz) (.cons (Thj.same (Thj.but t5 b6) sz) (.cons (Thj.same t6 sz) .nil)))))) ⟨z, _, _, _, _, v6, rfl, by rw [hid_ne (new_ne hz (jar_ne j6))]; exact upd_same, f6.same (hid_but (KJ.But.same sz))⟩
        (b0.trans ((KJ.But.same sq).trans (b5.trans (b6.trans (KJ.But.same sz))))) (jar_more (jar_same j6 sz) (by omega))
end
end KP

set_option Elab.async false
set_option linter.all false
set_option maxRecDepth 100000
set_option maxHeartbeats 2000000
/-! ### what is asked of arguments, of nets and told fractions -/
namespace KP
open PySem PySem.Spec PyProof.Rows L2 KX KT KJ KS FR
abbrev sNeedNet : Stmt := top 21
mutual
/-- tuples, ints, texts alone -/
def tpD : PyData → Bool
  | .tuple ds => tpAll ds
  | .list _ => false
  | .dict _ => false
  | _ => true
def tpAll : List PyData → Bool
  | [] => true
  | d :: ds => tpD d && tpAll ds
end
theorem tpAll_of : ∀ {ds : List PyData}, (∀ d ∈ ds, tpD d = true) → tpAll ds = true
  | [], _ => rfl
  | d :: ds, h => by
    simp only [tpAll, Bool.and_eq_true]
    exact ⟨h d List.mem_cons_self, tpAll_of fun e he => h e (List.mem_cons_of_mem _ he)⟩
theorem th_tO {H : Hp} {v : V} {d : PyData} (h : Th H v d) : tpD d = true → Th (tO H) v d := by
  refine Th.rec (motive_1 := fun v d _ => tpD d = true → Th (tO H) v d) (motive_2 := fun vs ds _ => tpAll ds = true → ThAll (tO H) vs ds) (fun _ => .non) (fun b _ => .bl b) (fun i _ => .int i) (fun x _ => .str x)
    (fun _ _ _ z => by simp [tpD] at z) (fun q _ ih z => .tup (tO_rd q) (ih (by simpa [tpD] using z))) (fun _ z => by simp [tpD] at z) (fun _ => .nil) (fun _ _ a b z => ?_) h
  simp only [tpAll, Bool.and_eq_true] at z
  exact .cons (a z.1) (b z.2)
theorem tp_f (x : Fr) : tpD (fD x) = true := by simp [fD, tpD, tpAll]
theorem tp_pp (p : Pp) : tpD (ppD p) = true := by
  cases p with
  | mk s e sh => cases sh <;> cases e <;> simp [ppD, enD, shD, fD, tpD, tpAll]
theorem tp_nats (ns : List Nat) : tpAll (natsD ns) = true := tpAll_of fun d hd => by
  obtain ⟨i, _, rfl⟩ := List.mem_map.mp hd
  rfl
theorem tp_net (n : NetM) : tpD n.d = true := by
  have h : tpAll (n.ps.map ppD) = true := tpAll_of fun d hd => by
    obtain ⟨p, _, rfl⟩ := List.mem_map.mp hd
    exact tp_pp p
  simp [NetM.d, tpD, tpAll, h, tp_nats]
theorem tp_fs (as : List Fr) : tpD (.tuple (as.map fD)) = true := by
  have h : tpAll (as.map fD) = true := tpAll_of fun d hd => by
    obtain ⟨p, _, rfl⟩ := List.mem_map.mp hd
    exact tp_f p
  simp [tpD, h]
/-- a net's parts -/
theorem net_parts {H : Hp} {x : V} {n : NetM} (h : Th (tO H) x n.d) : ∃ a ps fs ss, x = .ref a ∧ tO H a = some (.tup [.int (n.m : Nat), .int (n.u : Nat), ps, fs, ss]) ∧ Th (tO H) ps (.tuple (n.ps.map ppD)) ∧ Th (tO H) fs (.tuple (natsD n.fs)) ∧ Th (tO H) ss (.tuple (natsD n.ss)) := by
  cases h with
  | tup' e h => cases h with
    | cons a1 h => cases h with
      | cons a2 h => cases h with
        | cons a3 h => cases h with
          | cons a4 h => cases h with
            | cons a5 h =>
              cases h
              cases a1
              cases a2
              exact ⟨_, _, _, _, rfl, tO_eq e, a3, a4, a5⟩
theorem tup_parts {H : Hp} {x : V} {ds : List PyData} (h : Th (tO H) x (.tuple ds)) : ∃ a xs, x = .ref a ∧ tO H a = some (.tup xs) ∧ ThAll (tO H) xs ds := by
  cases h with
  | tup' e h => exact ⟨_, _, rfl, tO_eq e, h⟩
theorem frv_of {K : PySem.W.Frag} {H : Hp} {v : V} {x : Fr} (h : Th (tO H) v (fD x)) : FrV K H v x := by
  cases h with
  | tup' e h => cases h with
    | cons a1 h => cases h with
      | cons a2 h =>
        cases h
        cases a1
        cases a2
        exact ⟨_, rfl, SqT.of e⟩
def ToldS (as : List Fr) : Prop := ∀ a ∈ as, Told a
def AsOk (n : NetM) (as : List Fr) : Prop := as.length = n.u ∧ ToldS as
def FiOk (n : NetM) (fl : List (List Fr)) : Prop := fl.length ≤ 30 ∧ ∀ r ∈ fl, r.length = n.fs.length ∧ ToldS r
def flD (fl : List (List Fr)) : PyData := .tuple (fl.map fun r => .tuple (r.map fD))
def spNeedNet (Ps : List Addr) : Sp := fun vs H Q _ => ∃ x n, vs = [x] ∧ GoodN n ∧ Th (tO H) x n.d ∧ Tbs Ps H ∧ ∀ H', Grown Ps H H' → Q .non H'
def spNeedAs : Sp := fun vs H Q _ => ∃ x y n as, vs = [x, y] ∧ Th (tO H) x (NetM.d n) ∧ AsOk n as ∧ Th (tO H) y (.tuple (as.map fD)) ∧ ∀ H', Same H H' → Q .non H'
def spIsFi (Ps : List Addr) : Sp := fun vs H Q _ => ∃ x y n r, vs = [x, y] ∧ Th (tO H) x (NetM.d n) ∧ r.length = n.fs.length ∧ ToldS r ∧ Th (tO H) y (.tuple (r.map fD)) ∧ Tbs Ps H ∧ ∀ H', Grown Ps H H' → Q (.bl true) H'
def spNeedFi (Ps : List Addr) : Sp := fun vs H Q _ => ∃ x y n fl, vs = [x, y] ∧ Th (tO H) x (NetM.d n) ∧ FiOk n fl ∧ Th (tO H) y (flD fl) ∧ Tbs Ps H ∧ ∀ H', Grown Ps H H' → Q .non H'
theorem told_all {as : List Fr} (h : ToldS as) : (as.map fD).all isTold = true := by
  rw [List.all_eq_true]
  intro d hd
  obtain ⟨x, hx, rfl⟩ := List.mem_map.mp hd
  exact told_is (h x hx)
section
variable {P : Program} {w : World} {K : PySem.W.Frag} {mg : Str → Option Value} {base : Heap}
theorem scNeedNet : FnScope ["net"] ["net"] (defScope sNeedNet) := ⟨rfl, rfl, rfl, by decide +kernel, rfl, by decide +kernel, by decide +kernel⟩
theorem ok_neednet {f fN : Addr} {fd fdN : FuncData} {Ps : List Addr} (F : Fun K "need_net" "need_net" sNeedNet f fd) (FN : FnOk P w K mg base CX0 8 fN fdN ["value"] (spNet Ps)) (mN : mg "is_net" = some (.ref fN)) (kN : PySem.W.keepIn K (.ref fN) = true) (bN : Binds K fdN ["value"] []) :
    FnOk P w K mg base CX0 9 f fd ["net"] (spNeedNet Ps) := by
  refine F.ok scNeedNet (fun vs H Q E h => ?_) (fun cdv A outer s H vs Q E hr h => ?_)
  · obtain ⟨x, n, rfl, _⟩ := h
    rfl
  · obtain ⟨x, n, rfl, g, th, tb, k⟩ := h
    refine ⟨_, pss_one (ps_if (pt_not (pt_val (pe_call FN hr rfl mN kN bN .nil pass0 (pa_cons (pv 0) pa_nil)))) (pss_one ps_never) pss_nil), ?_⟩
    refine ⟨_, rfl, x, n.d, rfl, th.up, tb, fun H' gr => ⟨_, rfl, iteB (fun z => ?_) (fun _ => k H' gr)⟩⟩
    rw [goodN_is g] at z
    cases z
abbrev nNA : List Str := ["net", "assignment", "index", "share"]
theorem vi_netix {σ : L2.St} {H : Hp} {i : Nat} {a : Addr} {xs : List V} {k : Int} {v : V} (h : σ[i]? = some (some (.ref a))) (e : tO H a = some (.tup xs)) (hk : atI xs k = some v) : Vi (tOp (rIxT K) (tVar i) (tC (.int k))) σ H v :=
  vi_op (vi_var h) vi_c fun Q q => ⟨a, xs, k, v, rfl, rfl, SqT.of (tO_same H _ _ e), hk, q⟩
abbrev nNF : List Str := ["net", "fillings", "index", "filling"]
end
end KP

set_option Elab.async false
set_option linter.all false
set_option maxRecDepth 100000
set_option maxHeartbeats 2000000
/-! ### tables: the data; lists of lists in the heap -/
namespace KP
open PySem PySem.Spec PyProof.Rows L2 KX KT KJ KS FR
abbrev Tab := List (List Fr)
def gt (t : Tab) (i k : Nat) : Fr := (t.getD i []).getD k (0, 1)
def st (t : Tab) (i k : Nat) (x : Fr) : Tab := t.set i ((t.getD i []).set k x)
def partF (as : List Fr) : Nat ⊕ Fr → Fr
  | .inl j => as.getD j (0, 1)
  | .inr x => x
def step1 (t : Tab) (s : Nat) (x : Fr) : Tab := st t s s (lesF (gt t s s) x)
def stepF (as : List Fr) (t : Tab) (p : Pp) : Tab := match p.e with
  | none => step1 t p.s (partF as p.sh)
  | some k => st (step1 t p.s (partF as p.sh)) k p.s (addF (gt (step1 t p.s (partF as p.sh)) k p.s) (partF as p.sh))
def row0 (m i : Nat) : List Fr := (List.range m).map fun k => if i = k then (1, 1) else (0, 1)
def tab0 (m : Nat) : Tab := (List.range m).map (row0 m)
def tabF (n : NetM) (as : List Fr) : Tab := n.ps.foldl (stepF as) (tab0 n.m)
/-- m rows of m -/
structure Sq (m : Nat) (t : Tab) : Prop where
  len : t.length = m
  row : ∀ i, i < m → (t.getD i []).length = m
theorem Sq.st {m : Nat} {t : Tab} (h : Sq m t) (i k : Nat) (x : Fr) : Sq m (KP.st t i k x) := by
  refine ⟨by unfold KP.st; rw [List.length_set]; exact h.len, fun i' hi' => ?_⟩
  have hr := h.row i' hi'
  unfold KP.st
  rw [List.getD_eq_getElem?_getD, List.getElem?_set]
  rw [List.getD_eq_getElem?_getD] at hr
  by_cases c : i = i'
  · subst c
    rw [if_pos rfl, if_pos (by rw [h.len]; exact hi'), List.getD_eq_getElem?_getD]
    show (List.set _ _ _).length = m
    rw [List.length_set]
    exact hr
  · rw [if_neg c]
    exact hr
theorem Sq.step {m : Nat} {t : Tab} (h : Sq m t) (as : List Fr) (p : Pp) : Sq m (stepF as t p) := by
  unfold stepF step1
  split
  · exact h.st _ _ _
  · exact (h.st _ _ _).st _ _ _
theorem sq0 (m : Nat) : Sq m (tab0 m) := by
  refine ⟨by simp [tab0], fun i hi => ?_⟩
  rw [List.getD_eq_getElem?_getD]
  simp [tab0, hi, row0]
theorem sqF (n : NetM) (as : List Fr) : Sq n.m (tabF n as) := by
  have h : ∀ (ps : List Pp) (t : Tab), Sq n.m t → Sq n.m (ps.foldl (stepF as) t) := by
    intro ps
    induction ps with
    | nil => exact fun t h => h
    | cons p ps ih => exact fun t h => ih _ (h.step as p)
  exact h _ _ (sq0 _)
/-- bounds of all entries -/
def TBd (a : Nat) (N : Nat) (t : Tab) : Prop := ∃ M, 0 < M ∧ M < 2 ^ a ∧ ∀ row ∈ t, ∀ x ∈ row, Bd M N x
theorem told_pow {x : Fr} (h : Told x) : 0 < x.2.natAbs ∧ x.2.natAbs < 2 ^ 10 := by
  have h1 := h.pos
  have h2 := h.d
  exact ⟨by omega, Nat.lt_of_lt_of_le (show x.2.natAbs < 1000 by omega) (by decide)⟩
theorem told_sz {x : Fr} (h : Told x) : Sz 4000 x := ((told_bd h).sz (told_pow h).1 (told_pow h).2 (b := 10) (by decide)).mono (by decide)
theorem gt_mem {m : Nat} {t : Tab} (h : Sq m t) {i k : Nat} (hi : i < m) (hk : k < m) : ∃ row ∈ t, gt t i k ∈ row := by
  have h1 := h.row i hi
  have h2 : i < t.length := by rw [h.len]; exact hi
  have e1 : t.getD i [] = t[i] := by
    rw [List.getD_eq_getElem?_getD, List.getElem?_eq_getElem h2]
    rfl
  rw [e1] at h1
  have h3 : k < (t[i]).length := by omega
  refine ⟨t[i], List.getElem_mem _, ?_⟩
  unfold gt
  rw [e1]
  have e2 : (t[i]).getD k (0, 1) = (t[i])[k] := by
    rw [List.getD_eq_getElem?_getD, List.getElem?_eq_getElem h3]
    rfl
  rw [e2]
  exact List.getElem_mem _
theorem TBd.at {m a N : Nat} {t : Tab} (h : TBd a N t) (sq : Sq m t) {i k : Nat} (hi : i < m) (hk : k < m) : ∃ M, 0 < M ∧ M < 2 ^ a ∧ Bd M N (gt t i k) := by
  obtain ⟨M, h0, h1, h2⟩ := h
  obtain ⟨row, hr, hx⟩ := gt_mem sq hi hk
  exact ⟨M, h0, h1, h2 row hr _ hx⟩
theorem mem_st {t : Tab} {i k : Nat} {x : Fr} {row : List Fr} {y : Fr} (hr : row ∈ st t i k x) (hy : y ∈ row) : y = x ∨ ∃ row ∈ t, y ∈ row := by
  unfold st at hr
  rcases List.mem_or_eq_of_mem_set hr with h | h
  · exact .inr ⟨row, h, hy⟩
  · rw [h] at hy
    rcases List.mem_or_eq_of_mem_set hy with h2 | h2
    · rw [List.getD_eq_getElem?_getD] at h2
      cases e : t[i]? with
      | none =>
        rw [e] at h2
        cases h2
      | some r =>
        rw [e] at h2
        exact .inr ⟨r, List.mem_of_getElem? e, h2⟩
    · exact .inl h2
/-- an entry worked out of entries and a told fraction -/
theorem TBd.put {m a N : Nat} {t : Tab} (h : TBd a N t) (sq : Sq m t) {i k i' k' : Nat} (hi : i' < m) (hk : k' < m) {x : Fr} (hx : Told x) (f : Fr → Fr → Fr) (hf : ∀ {M N N' : Nat} {y z : Fr}, Bd M N y → Bd M N' z → Bd M (N + N') (f y z)) : TBd (a + 10) (N + 999) (st t i k (f (gt t i' k') x)) := by
  obtain ⟨M, h0, h1, h2⟩ := h
  obtain ⟨p0, p1⟩ := told_pow hx
  refine ⟨M * x.2.natAbs, Nat.mul_pos h0 p0, by rw [Nat.pow_add]; exact Nat.mul_lt_mul'' h1 p1, fun row hr y hy => ?_⟩
  have up : ∀ {y}, (∃ row ∈ t, y ∈ row) → Bd (M * x.2.natAbs) N y := fun ⟨r, hr, hy⟩ => (h2 r hr _ hy).mono (Nat.dvd_mul_right _ _) (Nat.le_refl _)
  rcases mem_st hr hy with rfl | h
  · exact hf (up (gt_mem sq hi hk)) ((told_bd hx).mono (Nat.dvd_mul_left _ _) (Nat.le_refl _))
  · exact (up h).mono (Nat.dvd_refl _) (by omega)
theorem tb0 (m : Nat) : TBd 1 1 (tab0 m) := by
  refine ⟨1, by decide, by decide, fun row hr x hx => ?_⟩
  obtain ⟨i, _, rfl⟩ := List.mem_map.mp hr
  obtain ⟨k, _, rfl⟩ := List.mem_map.mp hx
  split <;> exact ⟨by decide, ⟨1, rfl⟩, by decide⟩
theorem part_told {u : Nat} {as : List Fr} {sh : Nat ⊕ Fr} (h : GoodS u sh) (hl : as.length = u) (ht : ToldS as) : Told (partF as sh) := by
  cases sh with
  | inl j =>
    have h : j < u := h
    show Told (as.getD j (0, 1))
    rw [List.getD_eq_getElem?_getD, List.getElem?_eq_getElem (by omega)]
    exact ht _ (List.getElem_mem _)
  | inr x => exact h
theorem bdm_put {m M N : Nat} {t : Tab} (h2 : ∀ row ∈ t, ∀ x ∈ row, Bd M N x) (sq : Sq m t) {i k i' k' : Nat} (hi : i' < m) (hk : k' < m) {x : Fr} (hx : Told x) (hd : x.2.natAbs ∣ M) (f : Fr → Fr → Fr) (hf : ∀ {M N N' : Nat} {y z : Fr}, Bd M N y → Bd M N' z → Bd M (N + N') (f y z)) :
    ∀ row ∈ st t i k (f (gt t i' k') x), ∀ x ∈ row, Bd M (N + 999) x := fun row hr y hy => by
  have up : ∀ {y}, (∃ row ∈ t, y ∈ row) → Bd M N y := fun ⟨r, hr, hy⟩ => h2 r hr _ hy
  rcases mem_st hr hy with rfl | h
  · exact hf (up (gt_mem sq hi hk)) ((told_bd hx).mono hd (Nat.le_refl _))
  · exact (up h).mono (Nat.dvd_refl _) (by omega)
theorem TBd.step {m u a N : Nat} {t : Tab} {as : List Fr} {p : Pp} (h : TBd a N t) (sq : Sq m t) (g : GoodP m u p) (hl : as.length = u) (ht : ToldS as) : TBd (a + 10) (N + 1998) (stepF as t p) := by
  have hp := part_told g.sh hl ht
  obtain ⟨p0, p1⟩ := told_pow hp
  obtain ⟨M, h0, h1, h2⟩ := h
  have z1 : ∀ row ∈ t, ∀ x ∈ row, Bd (M * (partF as p.sh).2.natAbs) N x := fun r hr x hx => (h2 r hr x hx).mono (Nat.dvd_mul_right _ _) (Nat.le_refl _)
  have z2 : ∀ row ∈ step1 t p.s (partF as p.sh), ∀ x ∈ row, Bd (M * (partF as p.sh).2.natAbs) (N + 999) x := bdm_put z1 sq g.s g.s hp (Nat.dvd_mul_left _ _) lesF Bd.les
  refine ⟨M * (partF as p.sh).2.natAbs, Nat.mul_pos h0 p0, by rw [Nat.pow_add]; exact Nat.mul_lt_mul'' h1 p1, ?_⟩
  unfold stepF
  split
  · exact fun r hr x hx => (z2 r hr x hx).mono (Nat.dvd_refl _) (by omega)
  · rename_i k hk
    have := bdm_put (i := k) (k := p.s) z2 (sq.st _ _ _) (g.e k hk).1 g.s hp (Nat.dvd_mul_left _ _) addF Bd.add
    exact this
/-- row by row -/
structure FrL (K : PySem.W.Frag) (H : Hp) (vs : List V) (row : List Fr) : Prop where
  len : vs.length = row.length
  get : ∀ (k : Nat) (v : V) (x : Fr), vs[k]? = some v → row[k]? = some x → FrV K H v x
theorem FrL.tk {K : PySem.W.Frag} {H H' : Hp} {vs : List V} {row : List Fr} (h : FrL K H vs row) (s : Tk H H') : FrL K H' vs row := ⟨h.len, fun k v x a b => (h.get k v x a b).tk s⟩
theorem FrL.set {K : PySem.W.Frag} {H : Hp} {vs : List V} {row : List Fr} (h : FrL K H vs row) (k : Nat) {w : V} {x : Fr} (f : FrV K H w x) : FrL K H (vs.set k w) (row.set k x) := by
  refine ⟨by rw [List.length_set, List.length_set]; exact h.len, fun i v y a b => ?_⟩
  rw [List.getElem?_set] at a b
  have hl := h.len
  by_cases c : k = i
  · rw [if_pos c] at a b
    by_cases c2 : k < vs.length
    · rw [if_pos c2] at a
      rw [if_pos (by omega)] at b
      cases a
      cases b
      exact f
    · rw [if_neg c2] at a
      cases a
  · rw [if_neg c] at a b
    exact h.get i v y a b
theorem FrL.snoc {K : PySem.W.Frag} {H : Hp} {vs : List V} {row : List Fr} (h : FrL K H vs row) {w : V} {x : Fr} (f : FrV K H w x) : FrL K H (vs ++ [w]) (row ++ [x]) := by
  have hl := h.len
  refine ⟨by rw [List.length_append, List.length_append, hl]; rfl, fun i v y a b => ?_⟩
  by_cases c : i < vs.length
  · rw [List.getElem?_append_left c] at a
    rw [List.getElem?_append_left (by omega)] at b
    exact h.get i v y a b
  · rw [List.getElem?_append_right (by omega)] at a
    rw [List.getElem?_append_right (by omega)] at b
    have e : i - vs.length = 0 := by
      have := (List.getElem?_eq_some_iff.mp a).1
      rw [List.length_singleton] at this
      omega
    rw [e] at a
    rw [← hl, e] at b
    cases a
    cases b
    exact f
theorem FrL.nil {K : PySem.W.Frag} {H : Hp} : FrL K H [] [] := ⟨rfl, fun k v x a => by simp at a⟩
theorem frl_of {K : PySem.W.Frag} {H : Hp} : ∀ {vs : List V} {row : List Fr}, ThAll (tO H) vs (row.map fD) → FrL K H vs row := fun {vs row} h => by
  refine ⟨by rw [all2 h, List.length_map], fun k v x a b => ?_⟩
  obtain ⟨d, hd, td⟩ := all_get h a
  rw [List.getElem?_map, b] at hd
  cases hd
  exact frv_of td
/-- a list of lists, all new since H0 -/
structure TabL (K : PySem.W.Frag) (H0 H : Hp) (T : Addr) (rs : List Addr) (t : Tab) : Prop where
  top : H T = some (.lst (rs.map V.ref))
  nd : rs.Nodup
  out : T ∉ rs
  new : ∀ r ∈ rs, H0 r = none
  len : rs.length = t.length
  row : ∀ (i : Nat) (r : Addr) (row : List Fr), rs[i]? = some r → t[i]? = some row → ∃ vs, H r = some (.lst vs) ∧ FrL K H vs row
theorem TabL.same {K : PySem.W.Frag} {H0 H H' : Hp} {T : Addr} {rs : List Addr} {t : Tab} (h : TabL K H0 H T rs t) (s : Same H H') : TabL K H0 H' T rs t :=
  ⟨s _ _ h.top, h.nd, h.out, h.new, h.len, fun i r row a b => let ⟨vs, e, f⟩ := h.row i r row a b; ⟨vs, s _ _ e, f.tk (Tk.same s)⟩⟩
theorem grown_put {Ps : List Addr} {H0 H : Hp} {r : Addr} {xs ys : List V} (g : Grown Ps H0 H) (h0 : H0 r = none) (h : H r = some (.lst xs)) : Grown Ps H0 (upd H r (.lst ys)) := by
  refine ⟨fun b u e n => ?_, fun P hP => ?_⟩
  · rw [upd_ne (ne_of_none e h0)]
    exact g.sm b u e n
  · obtain ⟨ps, e, k⟩ := g.tbs P hP
    exact ⟨ps, by rw [upd_ne (fun z => by rw [z, h] at e; cases e)]; exact e, k⟩
/-- an entry, and storing there -/
theorem tab_at {K : PySem.W.Frag} {H0 H : Hp} {T : Addr} {rs : List Addr} {t : Tab} {m : Nat} (h : TabL K H0 H T rs t) (sq : Sq m t) {i k : Nat} (hi : i < m) (hk : k < m) :
    ∃ r vs v, rs[i]? = some r ∧ H r = some (.lst vs) ∧ vs[k]? = some v ∧ vs.length = m ∧ H0 r = none ∧ FrV K H v (gt t i k) ∧ ∀ {H'} {w x}, Same H H' → FrV K H' w x → TabL K H0 (upd H' r (.lst (vs.set k w))) T rs (st t i k x) := by
  have h2 : i < t.length := by rw [sq.len]; exact hi
  have h3 : i < rs.length := by rw [h.len]; exact h2
  have e1 := List.getElem?_eq_getElem h3
  have e2 := List.getElem?_eq_getElem h2
  obtain ⟨vs, e, f⟩ := h.row i _ _ e1 e2
  have hrow : (t[i]).length = m := by
    have := sq.row i hi
    rw [List.getD_eq_getElem?_getD, e2] at this
    exact this
  have lv : vs.length = m := by rw [f.len, hrow]
  have ek := List.getElem?_eq_getElem (show k < vs.length by omega)
  have er := List.getElem?_eq_getElem (show k < (t[i]).length by omega)
  refine ⟨rs[i], vs, vs[k], e1, e, ek, lv, h.new _ (List.getElem_mem _), ?_, fun {H' w x} s fw => ?_⟩
  · have := f.get k _ _ ek er
    have g1 : t.getD i [] = t[i] := by
      rw [List.getD_eq_getElem?_getD, e2]
      rfl
    have g2 : gt t i k = (t[i])[k] := by
      unfold gt
      rw [g1, List.getD_eq_getElem?_getD, er]
      rfl
    rw [g2]
    exact this
  · have e' := s _ _ e
    have nT : T ≠ rs[i] := fun z => h.out (by rw [z]; exact List.getElem_mem _)
    refine ⟨by rw [upd_ne nT]; exact s _ _ h.top, h.nd, h.out, h.new, by unfold st; rw [List.length_set]; exact h.len, fun i' r' row' a b => ?_⟩
    unfold st at b
    rw [List.getElem?_set] at b
    by_cases c : i = i'
    · subst c
      rw [e1] at a
      cases a
      rw [if_pos rfl, if_pos h2] at b
      cases b
      refine ⟨vs.set k w, upd_same, ?_⟩
      have z := ((f.tk (Tk.same s)).set k fw).tk (Tk.put (ys := vs.set k w) e')
      rw [List.getD_eq_getElem?_getD, e2]
      exact z
    · rw [if_neg c] at b
      obtain ⟨vs', e3, f3⟩ := h.row i' r' row' a b
      have nr : r' ≠ rs[i] := fun z => by
        have h4 := (List.getElem?_eq_some_iff.mp a)
        obtain ⟨h5, h6⟩ := h4
        exact c ((List.getElem_inj h.nd).mp (h6.trans z)).symm
      exact ⟨vs', by rw [upd_ne nr]; exact s _ _ e3, (f3.tk (Tk.same s)).tk (Tk.put e')⟩
/-- a tuple of tuples -/
def RowT (K : PySem.W.Frag) (H : Hp) (u : V) (row : List Fr) : Prop := ∃ b vs, u = .ref b ∧ tO H b = some (.tup vs) ∧ FrL K H vs row
theorem RowT.tk {K : PySem.W.Frag} {H H' : Hp} {u : V} {row : List Fr} (h : RowT K H u row) (s : Tk H H') : RowT K H' u row := by
  obtain ⟨b, vs, e, e2, f⟩ := h
  exact ⟨b, vs, e, s _ _ e2, f.tk s⟩
structure RowsT (K : PySem.W.Frag) (H : Hp) (us : List V) (t : Tab) : Prop where
  len : us.length = t.length
  get : ∀ (i : Nat) (u : V) (row : List Fr), us[i]? = some u → t[i]? = some row → RowT K H u row
theorem RowsT.tk {K : PySem.W.Frag} {H H' : Hp} {us : List V} {t : Tab} (h : RowsT K H us t) (s : Tk H H') : RowsT K H' us t := ⟨h.len, fun i u row a b => (h.get i u row a b).tk s⟩
theorem RowsT.nil {K : PySem.W.Frag} {H : Hp} : RowsT K H [] [] := ⟨rfl, fun k v x a => by simp at a⟩
theorem RowsT.snoc {K : PySem.W.Frag} {H : Hp} {vs : List V} {row : Tab} (h : RowsT K H vs row) {w : V} {x : List Fr} (f : RowT K H w x) : RowsT K H (vs ++ [w]) (row ++ [x]) := by
  have hl := h.len
  refine ⟨by rw [List.length_append, List.length_append, hl]; rfl, fun i v y a b => ?_⟩
  by_cases c : i < vs.length
  · rw [List.getElem?_append_left c] at a
    rw [List.getElem?_append_left (by omega)] at b
    exact h.get i v y a b
  · rw [List.getElem?_append_right (by omega)] at a
    rw [List.getElem?_append_right (by omega)] at b
    have e : i - vs.length = 0 := by
      have := (List.getElem?_eq_some_iff.mp a).1
      rw [List.length_singleton] at this
      omega
    rw [e] at a
    rw [← hl, e] at b
    cases a
    cases b
    exact f
def TabT (K : PySem.W.Frag) (H : Hp) (v : V) (t : Tab) : Prop := ∃ a us, v = .ref a ∧ tO H a = some (.tup us) ∧ RowsT K H us t
theorem TabT.tk {K : PySem.W.Frag} {H H' : Hp} {v : V} {t : Tab} (h : TabT K H v t) (s : Tk H H') : TabT K H' v t := by
  obtain ⟨b, vs, e, e2, f⟩ := h
  exact ⟨b, vs, e, s _ _ e2, f.tk s⟩
theorem ixN_nat {n i : Nat} (h : i < n) : ixN n (i : Nat) = some i := by
  unfold ixN
  rw [if_pos (by omega), if_pos (by omega), Int.toNat_natCast]
end KP

set_option Elab.async false
set_option linter.all false
set_option maxRecDepth 100000
set_option maxHeartbeats 4000000
/-! ### shares; the unit's rows -/
namespace KP
open PySem PySem.Spec PyProof.Rows L2 KX KT KJ KS FR
theorem th_ty {H : Hp} {v : V} {d : PyData} : Th (tO H) v d → Th H v d := Th.up
theorem same_put {H0 H : Hp} {p : Addr} {o : HO} (s : Same H0 H) (h : H0 p = none) : Same H0 (upd H p o) := fun b u e => by
  rw [upd_ne (ne_of_none e h)]
  exact s _ _ e
def spShareV : Sp := fun vs H Q _ => ∃ x y sh as u, vs = [x, y] ∧ Th (tO H) x (shD sh) ∧ GoodS u sh ∧ as.length = u ∧ Th (tO H) y (.tuple (as.map fD)) ∧ ∀ v, Th (tO H) v (fD (partF as sh)) → Q v H
/-- the mark of a share -/
def markV : Nat ⊕ Fr → V
  | .inl _ => .str "x"
  | .inr x => .int x.1
theorem share_parts {H : Hp} {x : V} {sh : Nat ⊕ Fr} (h : Th (tO H) x (shD sh)) : ∃ a y, x = .ref a ∧ tO H a = some (.tup [markV sh, y]) ∧ ∀ j, sh = .inl j → y = .int (j : Nat) := by
  cases sh with
  | inl j =>
    cases h with
    | tup' e h => cases h with
      | cons a1 h => cases h with
        | cons a2 h =>
          cases h
          cases a1
          cases a2
          exact ⟨_, _, rfl, tO_eq e, fun k z => by cases z; rfl⟩
  | inr x =>
    cases h with
    | tup' e h => cases h with
      | cons a1 h => cases h with
        | cons a2 h =>
          cases h
          cases a1
          cases a2
          exact ⟨_, _, rfl, tO_eq e, fun k z => by cases z⟩
theorem mark_scal (sh : Nat ⊕ Fr) : scal (markV sh) (.str "x") = true := by cases sh <;> rfl
theorem as_get {H : Hp} {ys : List V} {as : List Fr} {u j : Nat} (ta : ThAll (tO H) ys (as.map fD)) (hl : as.length = u) (hj : j < u) : ∃ v, ys[j]? = some v ∧ Th (tO H) v (fD (as.getD j (0, 1))) := by
  have ly : ys.length = as.length := by rw [all2 ta, List.length_map]
  have hy : j < ys.length := by omega
  obtain ⟨d, hd, td⟩ := all_get ta (List.getElem?_eq_getElem hy)
  refine ⟨_, List.getElem?_eq_getElem hy, ?_⟩
  rw [List.getElem?_map, List.getElem?_eq_getElem (show j < as.length by omega)] at hd
  cases hd
  rw [List.getD_eq_getElem?_getD, List.getElem?_eq_getElem (show j < as.length by omega)]
  exact td
section
variable {P : Program} {w : World} {K : PySem.W.Frag} {mg : Str → Option Value} {base : Heap}
theorem vi_mark {σ : L2.St} {H : Hp} {i : Nat} {a : Addr} {m y : V} (h : σ[i]? = some (some (.ref a))) (e : tO H a = some (.tup [m, y])) : Vi (tOp (rIxT K) (tVar i) (tC (.int 0))) σ H m := vi_netix h e rfl
end
end KP

set_option Elab.async false
set_option linter.all false
set_option maxRecDepth 100000
set_option maxHeartbeats 4000000
/-! ### comprehensions; the unit's rows -/
namespace KP
open PySem PySem.Spec PyProof.Rows L2 KX KT KJ KS FR
structure Cst (K : PySem.W.Frag) (mg : Str → Option Value) (aU aN : Addr) : Prop where
  mU : mg "UNIT" = some (.ref aU)
  mN : mg "NOUGHT" = some (.ref aN)
  cU : ∀ H, SqT K H aU [.int 1, .int 1]
  cN : ∀ H, SqT K H aN [.int 0, .int 1]
/-- a list of tuples of fractions -/
def RowsL (K : PySem.W.Frag) (H : Hp) (a : Addr) (t : Tab) : Prop := ∃ us, H a = some (.lst us) ∧ RowsT K H us t
def spUnit (K : PySem.W.Frag) : Sp := fun vs H Q _ => ∃ m : Nat, vs = [.int (m : Nat)] ∧ m ≤ 4 ∧ ∀ a H', H a = none → Same H H' → RowsL K H' a (tab0 m) → Q (.ref a) H'
theorem FrV.cst {K : PySem.W.Frag} {H : Hp} {a : Addr} {x : Fr} (h : ∀ H, SqT K H a [.int x.1, .int x.2]) : FrV K H (.ref a) x := ⟨a, rfl, h _⟩
def PvM (H1 : Hp) (D : Addr) (Rr : Hp → List V → Nat → Prop) (i : Nat) (H : Hp) : Prop := Same H1 H ∧ ∃ xs, H D = some (.lst xs) ∧ Rr H xs i
def Aft (H1 : Hp) (D : Addr) (Rr : Hp → List V → Nat → Prop) (k : Nat) : VK := fun y H4 => ∃ acc, H4 D = some (.lst acc) ∧ acc.length < sizeLine ∧ PvM H1 D Rr k (upd H4 D (.lst (acc ++ [y])))
theorem aft {H1 H4 : Hp} {D : Addr} {Rr : Hp → List V → Nat → Prop} {k : Nat} {xs : List V} {y : V} (hD : H1 D = none) (s : Same H1 H4) (e : H4 D = some (.lst xs)) (hl : xs.length < sizeLine) (r : Rr (upd H4 D (.lst (xs ++ [y]))) (xs ++ [y]) k) : Aft H1 D Rr k y H4 :=
  ⟨xs, e, hl, same_put s hD, _, upd_same, r⟩
/-- a comprehension with one name and no condition: the list by the turn -/
theorem lc_map {J : It} {n : Nat} {G : Hp → Prop} {Y : Nat → Hp → V → Hp → Prop} (wk : Walk J n G Y) {j : Nat} {te : TE} {vs : List Nat} {σ : L2.St} {H1 : Hp} {D : Addr} {Qd : Hp → Prop} (Rr : Hp → List V → Nat → Prop) (hD : H1 D = none) (hn : n ≤ 1000)
    (hlen : ∀ H xs i, Rr H xs i → xs.length = i) (r0 : Rr (upd H1 D (.lst [])) [] 0) (hG : ∀ H, Same H1 H → G H) (hw : ∀ x : V, wipe ((wipe σ vs).set j (some x)) vs = wipe σ vs)
    (hs : ∀ i x H H' xs, i < n → Same H1 H → H D = some (.lst xs) → xs.length < sizeLine → Rr H xs i → Y i H x H' → te ((wipe σ vs).set j (some x)) H' (Aft H1 D Rr (i + 1)))
    (hd : ∀ H xs, Same H1 H → H D = some (.lst xs) → Rr H xs n → Qd H) :
    ∃ W : Nat → Nat → Hp → Prop, (∃ m, W 0 m (upd H1 D (.lst []))) ∧ ∀ i m H, W i m H →
      (J.stop i H ∧ Qd H) ∨ (J.go i H ∧ ∃ Nx : Hp → Prop, (∀ H', Nx H' → ∃ m', m' < m ∧ W (i + 1) m' H') ∧ ∀ x H', J.yld i H x H' → gName j x (wipe σ vs) H' fun σ2 H2 => wipe σ2 vs = wipe σ vs ∧ tYes σ2 H2 fun b H3 =>
        if b = true then te σ2 H3 fun y H4 => ∃ acc, H4 D = some (.lst acc) ∧ acc.length < sizeLine ∧ Nx (upd H4 D (.lst (acc ++ [y]))) else Nx H3) := by
  refine lc_it wk (PvM H1 D Rr) ⟨same_put (Same.refl H1) hD, [], upd_same, r0⟩ (fun i H hi p => hG H p.1) ?_ ?_
  · rintro i x H H' hi ⟨s, xs, e, r⟩ y
    refine ⟨hw x, ?_⟩
    have l := hlen _ _ _ r
    exact hs i x H H' xs hi s e (Nat.lt_of_lt_of_le (show xs.length < 1001 by omega) (by decide)) r y
  · rintro H ⟨s, xs, e, r⟩
    exact hd H xs s e r
theorem row0_succ {m i k : Nat} : (List.range (k + 1)).map (fun k => if i = k then ((1, 1) : Fr) else (0, 1)) = (List.range k).map (fun k => if i = k then ((1, 1) : Fr) else (0, 1)) ++ [if i = k then (1, 1) else (0, 1)] := by
  rw [List.range_succ, List.map_append]
  rfl
theorem RowsT.len' {K : PySem.W.Frag} {H : Hp} {xs : List V} {f : Nat → List Fr} {i : Nat} (h : RowsT K H xs ((List.range i).map f)) : xs.length = i := by
  rw [h.len, List.length_map, List.length_range]
theorem FrL.len' {K : PySem.W.Frag} {H : Hp} {xs : List V} {f : Nat → Fr} {i : Nat} (h : FrL K H xs ((List.range i).map f)) : xs.length = i := by
  rw [h.len, List.length_map, List.length_range]
theorem pe_tupK {X : Cx} {K : PySem.W.Frag} {a : Expr} {ta : TE} {p pos : Pos} (hk : X.K = K) (hg : Gl X "tuple") (hm : X.mg "tuple" = none) (ha : PE X a ta) (na : starEach [a] X.env = (false, eval a X.env) :: starEach [] X.env := by rfl) :
    PE X (.Call (.Name "tuple" p) [a] [] pos) (tThen ta (kTup K)) := hk ▸ pe_tupleOf hg hm ha na
abbrev scRow : Scope := { kind := .function, names := [(".0", .local), ("row", .cell), ("tuple", .globalImplicit), ("range", .globalImplicit), ("many", .cell)], isGenerator := false, isCoroutine := false }
abbrev nUn : List Str := ["many", "row", "column"]
section
variable {P : Program} {w : World} {K : PySem.W.Frag} {mg : Str → Option Value} {base : Heap}
end
end KP

set_option Elab.async false
set_option linter.all false
set_option maxRecDepth 100000
set_option maxHeartbeats 4000000
/-! ### tables: storing in them, freezing them -/
namespace KP
open PySem PySem.Spec PyProof.Rows L2 KX KT KJ KS FR
theorem none_same {H H' : Hp} {l : Addr} (s : Same H H') (h : H' l = none) : H l = none := by
  cases e : H l with
  | none => rfl
  | some u => rw [s _ _ e] at h; cases h
def enV : Option Nat → V
  | none => .non
  | some k => .int (k : Nat)
theorem pipe_parts {H : Hp} {x : V} {p : Pp} (h : Th (tO H) x (ppD p)) : ∃ b sv, x = .ref b ∧ tO H b = some (.tup [.int (p.s : Nat), enV p.e, sv]) ∧ Th (tO H) sv (shD p.sh) := by
  cases h with
  | tup' e h => cases h with
    | cons a1 h => cases h with
      | cons a2 h => cases h with
        | cons a3 h =>
          cases h
          cases a1
          obtain ⟨s, en, sh⟩ := p
          cases en with
          | none => cases a2; exact ⟨_, _, rfl, tO_eq e, a3⟩
          | some k => cases a2; exact ⟨_, _, rfl, tO_eq e, a3⟩
section
variable {K : PySem.W.Frag} {σ : L2.St} {H0 H : Hp} {T : Addr} {rs : List Addr} {t : Tab} {m i k : Nat}
theorem i_tabset {Ps : List Addr} {E : XK} {o2 io ko uo : Nat} {u : V} {y : Fr} {f : Fr → Fr → Fr} {D : Ends} (h : TabL K H0 H T rs t) (gr : Grown Ps H0 H) (sq : Sq m t) (hi : i < m) (hk : k < m) (h2 : σ[o2]? = some (some (.ref T))) (h3 : σ[io]? = some (some (.int (i : Nat)))) (h4 : σ[ko]? = some (some (.int (k : Nat))))
    (h6 : σ[uo]? = some (some u)) (fu : FrV K H u y) (z1 : Sz 4000 (gt t i k)) (z2 : Sz 4000 y) (nx : ∀ H', Grown Ps H0 H' → Tk H H' → TabL K H0 H' T rs (st t i k (f (gt t i k) y)) → D.nx σ H') :
    tAsg (tCall (spBin K f) [] E (tCons (tOp (rIxL K) (tOp (rIxL K) (tVar o2) (tVar io)) (tVar ko)) (tCons (tVar uo) tNil))) (gSub (tOp (rIxL K) (tVar o2) (tVar io)) (tVar ko) rSetL) D σ H := by
  obtain ⟨r, vs, v, e1, e2, e3, lv, n0, fv, put⟩ := tab_at h sq hi hk
  have e1' : (rs.map V.ref)[i]? = some (.ref r) := by rw [List.getElem?_map, e1]; rfl
  refine ⟨_, h2, _, h3, T, _, _, _, rfl, rfl, SqL.of h.top, atI_nat e1', _, h4, r, vs, _, v, rfl, rfl, SqL.of e2, atI_nat e3, _, h6, v, u, _, y, rfl, fv, fu, z1, z2, fun w H1 s1 fw => ?_⟩
  have h1 := h.same s1
  have e2' := s1 _ _ e2
  refine ⟨_, h2, _, h3, T, _, _, _, rfl, rfl, SqL.of h1.top, atI_nat e1', _, h4, r, vs, _, k, rfl, rfl, e2', ixN_nat (by omega), ?_⟩
  exact nx _ (grown_put (gr.trans (Grown.same s1 gr.tbs)) n0 e2') ((Tk.same s1).trans (Tk.put e2')) (put s1 fw)
theorem i_freeze {Q : VK} {o2 j : Nat} {vs : List Nat} (h : TabL K H0 H T rs t) (tl : t.length ≤ 4) (h2 : σ[o2]? = some (some (.ref T))) (hw : ∀ x : V, wipe ((wipe σ vs).set j (some x)) vs = wipe σ vs) (hj : ∀ x : V, ((wipe σ vs).set j (some x))[j]? = some (some x))
    (k : ∀ v H', Same H H' → TabT K H' v t → Q v H') : tThen (tLc (iList K (tVar o2)) (gName j) tYes (tThen (tVar j) (kTup K)) vs) (kTup K) σ H Q := by
  refine ⟨_, h2, T, rfl, ⟨_, SqL.of h.top⟩, fun D hD => ?_⟩
  have ll : (rs.map V.ref).length = t.length := by rw [List.length_map, h.len]
  refine lc_map walk_list (fun H' xs i => RowsT K H' xs (t.take i) ∧ i ≤ t.length) hD (by omega) (fun _ _ i r => by rw [r.1.len, List.length_take]; have := r.2; omega) ⟨by rw [List.take_zero]; exact RowsT.nil, Nat.zero_le _⟩ (fun H' s => SqL.of (s _ _ h.top)) hw ?_ ?_
  · rintro i x _ H' xs hi s e hl ⟨r, hle⟩ ⟨rfl, hx⟩
    rw [List.getElem?_map] at hx
    have hr : i < rs.length := by rw [List.length_map] at hi; exact hi
    have ht : i < t.length := by omega
    rw [List.getElem?_eq_getElem hr] at hx
    cases hx
    obtain ⟨vs', e2, f2⟩ := h.row i _ _ (List.getElem?_eq_getElem hr) (List.getElem?_eq_getElem ht)
    refine ⟨_, hj _, .inl ⟨_, vs', rfl, SqL.of (s _ _ e2), fun q hq => ?_⟩⟩
    have sq := same_upd (o := .tup vs') hq
    refine aft hD (s.trans sq) (sq _ _ e) hl ?_
    have tk : Tk (upd H' q (.tup vs')) _ := Tk.put (ys := xs ++ [.ref q]) (sq _ _ e)
    refine ⟨?_, ht⟩
    rw [List.take_add_one, List.getElem?_eq_getElem ht]
    exact (r.tk ((Tk.same sq).trans tk)).snoc ⟨q, vs', rfl, tk _ _ (tO_of upd_same), f2.tk ((Tk.same (s.trans sq)).trans tk)⟩
  · rintro H' xs s e ⟨r, _⟩
    rw [ll, List.take_length] at r
    refine .inl ⟨D, xs, rfl, SqL.of e, fun q hq => ?_⟩
    have sq := same_upd (o := .tup xs) hq
    exact k _ _ (s.trans sq) ⟨q, xs, rfl, tO_of upd_same, r.tk (Tk.same sq)⟩
end
end KP

set_option Elab.async false
set_option linter.all false
set_option maxRecDepth 100000
set_option maxHeartbeats 4000000
/-! ### table_of -/
namespace KP
open PySem PySem.Spec PyProof.Rows L2 KX KT KJ KS FR
def spTable (K : PySem.W.Frag) (Ps : List Addr) : Sp := fun vs H Q _ => ∃ x y n as, vs = [x, y] ∧ GoodN n ∧ Th (tO H) x (NetM.d n) ∧ AsOk n as ∧ Th (tO H) y (.tuple (as.map fD)) ∧ Tbs Ps H ∧ ∀ v H', Grown Ps H H' → TabT K H' v (tabF n as) → Q v H'
abbrev nTb : List Str := ["net", "assignment", "table", "start", "end", "share", "size", "row"]
def rListOf (K : PySem.W.Frag) : List V → Hp → VK → Prop := fun xs H Q => ∃ p ys, xs = [.ref p] ∧ (SqL K H p ys ∨ SqT K H p ys) ∧ ∀ l, H l = none → Q (.ref l) (upd H l (.lst ys))
/-- the table after some pipes -/
def tabI (n : NetM) (as : List Fr) (i : Nat) : Tab := (n.ps.take i).foldl (stepF as) (tab0 n.m)
theorem tabI_zero (n : NetM) (as : List Fr) : tabI n as 0 = tab0 n.m := rfl
theorem tabI_all (n : NetM) (as : List Fr) : tabI n as n.ps.length = tabF n as := by unfold tabI; rw [List.take_length]; rfl
theorem tabI_succ {n : NetM} {as : List Fr} {i : Nat} {p : Pp} (h : n.ps[i]? = some p) : tabI n as (i + 1) = stepF as (tabI n as i) p := by
  unfold tabI
  rw [List.take_add_one, h, List.foldl_append]
  rfl
theorem tabI_sq (n : NetM) (as : List Fr) (i : Nat) : Sq n.m (tabI n as i) := by
  have h : ∀ (ps : List Pp) (t : Tab), Sq n.m t → Sq n.m (ps.foldl (stepF as) t) := by
    intro ps
    induction ps with
    | nil => exact fun t h => h
    | cons p ps ih => exact fun t h => ih _ (h.step as p)
  exact h _ _ (sq0 _)
theorem tabI_bd {n : NetM} {as : List Fr} (g : GoodN n) (ok : AsOk n as) : ∀ {i : Nat}, i ≤ n.ps.length → TBd (1 + 10 * i) (1 + 1998 * i) (tabI n as i)
  | 0, _ => tb0 _
  | i + 1, h => by
    have h2 : i < n.ps.length := by omega
    rw [tabI_succ (List.getElem?_eq_getElem h2)]
    have z := (tabI_bd g ok (i := i) (by omega)).step (tabI_sq n as i) (g.ps _ (List.getElem_mem h2)) ok.1 ok.2
    have e1 : 1 + 10 * (i + 1) = 1 + 10 * i + 10 := by omega
    have e2 : 1 + 1998 * (i + 1) = 1 + 1998 * i + 1998 := by omega
    rw [e1, e2]
    exact z
theorem TBd.sz {m a N : Nat} {t : Tab} (h : TBd a N t) (sq : Sq m t) {i k : Nat} (hi : i < m) (hk : k < m) (ha : a ≤ 300) (hN : N ≤ 30000) : Sz 4000 (gt t i k) := by
  obtain ⟨M, m0, m1, b⟩ := h.at sq hi hk
  exact (b.sz m0 m1 (b := 16) (Nat.lt_of_le_of_lt hN (by decide))).mono (by omega)
section
variable {P : Program} {w : World} {K : PySem.W.Frag} {mg : Str → Option Value} {base : Heap}
end
end KP

set_option Elab.async false
set_option linter.all false
set_option maxRecDepth 100000
set_option maxHeartbeats 4000000
/-! ### the law's own table -/
namespace KP
open PySem PySem.Spec PyProof.Rows L2 KX KT KJ KS FR
def spTableL (K : PySem.W.Frag) : Sp := fun vs H Q _ => ∃ x y n as, vs = [x, y] ∧ GoodN n ∧ Th (tO H) x (NetM.d n) ∧ AsOk n as ∧ Th (tO H) y (.tuple (as.map fD)) ∧ ∀ v H', Same H H' → TabT K H' v (tabF n as) → Q v H'
abbrev nTl : List Str := ["net", "assignment", "many", "rows", "start", "aim", "share", "part", "at", "to", "row"]
abbrev scAt : Scope := { kind := .function, names := [(".0", .local), ("at", .cell), ("range", .globalImplicit), ("many", .cell)], isGenerator := false, isCoroutine := false }
theorem i_tabsetS {K : PySem.W.Frag} {σ : L2.St} {H0 H : Hp} {T : Addr} {rs : List Addr} {t : Tab} {m i k : Nat} {E : XK} {o2 io ko uo : Nat} {u : V} {y : Fr} {f : Fr → Fr → Fr} {D : Ends} (h : TabL K H0 H T rs t) (gr : Same H0 H) (sq : Sq m t) (hi : i < m) (hk : k < m) (h2 : σ[o2]? = some (some (.ref T))) (h3 : σ[io]? = some (some (.int (i : Nat)))) (h4 : σ[ko]? = some (some (.int (k : Nat))))
    (h6 : σ[uo]? = some (some u)) (fu : FrV K H u y) (z1 : Sz 4000 (gt t i k)) (z2 : Sz 4000 y) (nx : ∀ H', Same H0 H' → Tk H H' → TabL K H0 H' T rs (st t i k (f (gt t i k) y)) → D.nx σ H') :
    tAsg (tCall (spBin K f) [] E (tCons (tOp (rIxL K) (tOp (rIxL K) (tVar o2) (tVar io)) (tVar ko)) (tCons (tVar uo) tNil))) (gSub (tOp (rIxL K) (tVar o2) (tVar io)) (tVar ko) rSetL) D σ H := by
  obtain ⟨r, vs, v, e1, e2, e3, lv, n0, fv, put⟩ := tab_at h sq hi hk
  have e1' : (rs.map V.ref)[i]? = some (.ref r) := by rw [List.getElem?_map, e1]; rfl
  refine ⟨_, h2, _, h3, T, _, _, _, rfl, rfl, SqL.of h.top, atI_nat e1', _, h4, r, vs, _, v, rfl, rfl, SqL.of e2, atI_nat e3, _, h6, v, u, _, y, rfl, fv, fu, z1, z2, fun w H1 s1 fw => ?_⟩
  have h1 := h.same s1
  have e2' := s1 _ _ e2
  refine ⟨_, h2, _, h3, T, _, _, _, rfl, rfl, SqL.of h1.top, atI_nat e1', _, h4, r, vs, _, k, rfl, rfl, e2', ixN_nat (by omega), ?_⟩
  exact nx _ (same_put (gr.trans s1) n0) ((Tk.same s1).trans (Tk.put e2')) (put s1 fw)
section
variable {P : Program} {w : World} {K : PySem.W.Frag} {mg : Str → Option Value} {base : Heap}
end
end KP

set_option Elab.async false
set_option linter.all false
set_option maxRecDepth 100000
set_option maxHeartbeats 4000000
/-! ### sums of products -/
namespace KP
open PySem PySem.Spec PyProof.Rows L2 KX KT KJ KS FR
def dotS (s : Fr) (p : Fr × Fr) : Fr := addF s (mulF p.1 p.2)
def dotI (a b : List Fr) (i : Nat) : Fr := ((a.zip b).take i).foldl dotS (0, 1)
def dotF (a b : List Fr) : Fr := dotI a b a.length
/-- bounds of all entries of a row -/
def HB (a b : Nat) (h : List Fr) : Prop := ∃ M N, 0 < M ∧ M < 2 ^ a ∧ N < 2 ^ b ∧ ∀ x ∈ h, Bd M N x
theorem dotI_zero (a b : List Fr) : dotI a b 0 = (0, 1) := rfl
theorem dotI_succ {a b : List Fr} {i : Nat} {x y : Fr} (ha : a[i]? = some x) (hb : b[i]? = some y) : dotI a b (i + 1) = addF (dotI a b i) (mulF x y) := by
  unfold dotI
  have e : (a.zip b)[i]? = some (x, y) := by
    rw [List.getElem?_zip_eq_some]
    exact ⟨ha, hb⟩
  rw [List.take_add_one, e, List.foldl_append]
  rfl
theorem bd0 {M N : Nat} (hM : 0 < M) : Bd M N (0, 1) := ⟨by decide, ⟨M, by omega⟩, by simp⟩
theorem dotI_bd {a b : List Fr} {M N M' N' : Nat} (hM : 0 < M) (hM' : 0 < M') (ha : ∀ x ∈ a, Bd M N x) (hb : ∀ x ∈ b, Bd M' N' x) (hl : a.length = b.length) : ∀ {i : Nat}, i ≤ a.length → Bd (M * M') (i * (N * N')) (dotI a b i)
  | 0, _ => bd0 (Nat.mul_pos hM hM')
  | i + 1, h => by
    have e1 := List.getElem?_eq_getElem (show i < a.length by omega)
    have e2 := List.getElem?_eq_getElem (show i < b.length by omega)
    rw [dotI_succ e1 e2]
    have z := (dotI_bd hM hM' ha hb hl (i := i) (by omega)).add ((ha _ (List.mem_of_getElem? e1)).mul (hb _ (List.mem_of_getElem? e2)))
    rw [show (i + 1) * (N * N') = i * (N * N') + N * N' from Nat.succ_mul _ _]
    exact z
theorem pow_mul_lt {x y a b : Nat} (hx : x < 2 ^ a) (hy : y < 2 ^ b) : x * y < 2 ^ (a + b) := by
  rw [Nat.pow_add]
  exact Nat.mul_lt_mul'' hx hy
/-- all that is worked out on the way is small enough -/
theorem dot_sz {r h : List Fr} {a b a' b' : Nat} (hr : HB a b r) (hh : HB a' b' h) (hl : r.length = h.length) (l4 : r.length ≤ 4) (hz : a + b + a' + b' + 3 ≤ 4000) {i : Nat} (hi : i ≤ r.length) :
    Sz 4000 (dotI r h i) ∧ ∀ x y, r[i]? = some x → h[i]? = some y → Sz 4000 x ∧ Sz 4000 y ∧ Sz 4000 (mulF x y) := by
  obtain ⟨M, N, m0, m1, n1, b1⟩ := hr
  obtain ⟨M', N', m0', m1', n1', b1'⟩ := hh
  have hMM := Nat.mul_pos m0 m0'
  have hm := pow_mul_lt m1 m1'
  have hn := pow_mul_lt n1 n1'
  refine ⟨((dotI_bd m0 m0' b1 b1' hl hi).sz hMM hm (b := 3 + (b + b')) (pow_mul_lt (show i < 2 ^ 3 by omega) hn)).mono (by omega), fun x y hx hy => ?_⟩
  have bx := b1 _ (List.mem_of_getElem? hx)
  have bY := b1' _ (List.mem_of_getElem? hy)
  exact ⟨(bx.sz m0 m1 n1).mono (by omega), (bY.sz m0' m1' n1').mono (by omega), ((bx.mul bY).sz hMM hm hn).mono (by omega)⟩
def DotOk (r h : List Fr) : Prop := r.length = h.length ∧ r.length ≤ 4 ∧ ∃ a b a' b', HB a b r ∧ HB a' b' h ∧ a + b + a' + b' + 3 ≤ 4000
theorem RowT.parts {K : PySem.W.Frag} {H : Hp} {u : V} {row : List Fr} (h : RowT K H u row) : ∃ b vs, u = .ref b ∧ tO H b = some (.tup vs) ∧ FrL K H vs row := h
def spDot (K : PySem.W.Frag) : Sp := fun vs H Q _ => ∃ u v r h, vs = [u, v] ∧ RowT K H u r ∧ RowT K H v h ∧ DotOk r h ∧ ∀ w H', Same H H' → FrV K H' w (dotF r h) → Q w H'
def spDotL (K : PySem.W.Frag) : Sp := fun vs H Q _ => ∃ u c ys r h, vs = [u, .ref c] ∧ RowT K H u r ∧ H c = some (.lst ys) ∧ FrL K H ys h ∧ DotOk r h ∧ ∀ w H', Same H H' → FrV K H' w (dotF r h) → Q w H'
section
variable {P : Program} {w : World} {K : PySem.W.Frag} {mg : Str → Option Value} {base : Heap}
abbrev nRt : List Str := ["row", "other", "worth", "one", "two"]
abbrev nDt : List Str := ["one", "two", "found", "x", "y"]
end
end KP

set_option Elab.async false
set_option linter.all false
set_option maxRecDepth 100000
set_option maxHeartbeats 4000000
/-! ### what tanks hold: the data -/
namespace KP
open PySem PySem.Spec PyProof.Rows L2 KX KT KJ KS FR
def HBN (a N : Nat) (h : List Fr) : Prop := ∃ M, 0 < M ∧ M < 2 ^ a ∧ ∀ x ∈ h, Bd M N x
theorem HBN.hb {a b N : Nat} {h : List Fr} (z : HBN a N h) (hN : N < 2 ^ b) : HB a b h := let ⟨M, m0, m1, b1⟩ := z; ⟨M, N, m0, m1, hN, b1⟩
theorem HBN.mono {a a' N N' : Nat} {h : List Fr} (z : HBN a N h) (ha : a ≤ a') (hN : N ≤ N') : HBN a' N' h := let ⟨M, m0, m1, b1⟩ := z; ⟨M, m0, Nat.lt_of_lt_of_le m1 (Nat.pow_le_pow_right (by decide) ha), fun x hx => (b1 x hx).mono (Nat.dvd_refl _) hN⟩
theorem HBN.sz {a b N : Nat} {h : List Fr} (z : HBN a N h) (hN : N < 2 ^ b) (hz : a + b ≤ 4000) {x : Fr} (hx : x ∈ h) : Sz 4000 x := let ⟨M, m0, m1, b1⟩ := z; ((b1 x hx).sz m0 m1 hN).mono hz
def sentF (t : Tab) (h : List Fr) : List Fr := t.map fun r => dotF r h
def fillS (h : List Fr) (p : Nat × Fr) : List Fr := h.set p.1 (addF (h.getD p.1 (0, 1)) p.2)
def fillI (fs : List Nat) (r : List Fr) (h : List Fr) (i : Nat) : List Fr := ((fs.zip r).take i).foldl fillS h
def fillF (fs : List Nat) (r : List Fr) (h : List Fr) : List Fr := fillI fs r h r.length
def seenF (ss : List Nat) (h : List Fr) : List Fr := ss.map fun i => h.getD i (0, 1)
def held0 (m : Nat) : List Fr := List.replicate m (0, 1)
def heldI (n : NetM) (as : List Fr) (fl : List (List Fr)) (k : Nat) : List Fr := (fl.take k).foldl (fun h r => fillF n.fs r (sentF (tabF n as) h)) (held0 n.m)
def seenAll (n : NetM) (as : List Fr) (fl : List (List Fr)) : Tab := (List.range (fl.length + 1)).map fun k => seenF n.ss (heldI n as fl k)
theorem fillI_succ {fs : List Nat} {r h : List Fr} {i j : Nat} {x : Fr} (ha : fs[i]? = some j) (hb : r[i]? = some x) : fillI fs r h (i + 1) = fillS (fillI fs r h i) (j, x) := by
  unfold fillI
  have e : (fs.zip r)[i]? = some (j, x) := by
    rw [List.getElem?_zip_eq_some]
    exact ⟨ha, hb⟩
  rw [List.take_add_one, e, List.foldl_append]
  rfl
theorem fillS_len (h : List Fr) (p : Nat × Fr) : (fillS h p).length = h.length := List.length_set
theorem fillI_len {fs : List Nat} {r h : List Fr} {i : Nat} : (fillI fs r h i).length = h.length := by
  have z : ∀ (ps : List (Nat × Fr)) (h : List Fr), (ps.foldl fillS h).length = h.length := by
    intro ps
    induction ps with
    | nil => exact fun _ => rfl
    | cons p ps ih => exact fun h => (ih _).trans (fillS_len h p)
  exact z _ _
theorem getD_mem {h : List Fr} {i : Nat} (hi : i < h.length) : h.getD i (0, 1) ∈ h := by
  have e : h.getD i (0, 1) = h[i] := by
    rw [List.getD_eq_getElem?_getD, List.getElem?_eq_getElem hi]
    rfl
  rw [e]
  exact List.getElem_mem _
theorem fillS_bd {a N : Nat} {h : List Fr} {j : Nat} {x : Fr} (z : HBN a N h) (hj : j < h.length) (hx : Told x) : HBN (a + 10) (N + 999) (fillS h (j, x)) := by
  obtain ⟨M, m0, m1, b1⟩ := z
  obtain ⟨p0, p1⟩ := told_pow hx
  refine ⟨M * x.2.natAbs, Nat.mul_pos m0 p0, pow_mul_lt m1 p1, fun y hy => ?_⟩
  have up : ∀ {y}, y ∈ h → Bd (M * x.2.natAbs) N y := fun hy => (b1 _ hy).mono (Nat.dvd_mul_right _ _) (Nat.le_refl _)
  rcases List.mem_or_eq_of_mem_set hy with hy | rfl
  · exact (up hy).mono (Nat.dvd_refl _) (by omega)
  · exact (up (getD_mem hj)).add ((told_bd hx).mono (Nat.dvd_mul_left _ _) (Nat.le_refl _))
theorem fillI_bd {a N : Nat} {fs : List Nat} {r h : List Fr} (z : HBN a N h) (hf : ∀ j ∈ fs, j < h.length) (hr : ToldS r) (hl : r.length = fs.length) : ∀ {i : Nat}, i ≤ r.length → HBN (a + 10 * i) (N + 999 * i) (fillI fs r h i)
  | 0, _ => z
  | i + 1, h' => by
    have e1 := List.getElem?_eq_getElem (show i < fs.length by omega)
    have e2 := List.getElem?_eq_getElem (show i < r.length by omega)
    rw [fillI_succ e1 e2]
    have z2 := fillS_bd (fillI_bd z hf hr hl (i := i) (by omega)) (j := fs[i]) (by rw [fillI_len]; exact hf _ (List.getElem_mem _)) (hr _ (List.getElem_mem (show i < r.length by omega)))
    exact z2.mono (by omega) (by omega)
theorem tab_hb {n : NetM} {as : List Fr} (g : GoodN n) (ok : AsOk n as) {row : List Fr} (h : row ∈ tabF n as) : HBN 121 23977 row := by
  have z := tabI_bd g ok (Nat.le_refl _)
  rw [tabI_all] at z
  obtain ⟨M, m0, m1, b1⟩ := z
  have l := g.len
  exact ⟨M, m0, Nat.lt_of_lt_of_le m1 (Nat.pow_le_pow_right (by decide) (by omega)), fun x hx => (b1 row h x hx).mono (Nat.dvd_refl _) (by omega)⟩
theorem tab_row {n : NetM} {as : List Fr} {row : List Fr} (h : row ∈ tabF n as) : row.length = n.m := by
  obtain ⟨i, hi, rfl⟩ := List.getElem_of_mem h
  have z := (sqF n as).row i (by rw [← (sqF n as).len]; exact hi)
  rw [List.getD_eq_getElem?_getD, List.getElem?_eq_getElem hi] at z
  exact z
theorem sentF_len (n : NetM) (as : List Fr) (h : List Fr) : (sentF (tabF n as) h).length = n.m := by
  unfold sentF
  rw [List.length_map]
  exact (sqF n as).len
theorem sent_bd {n : NetM} {as : List Fr} (g : GoodN n) (ok : AsOk n as) {a N : Nat} {h : List Fr} (z : HBN a N h) (hl : h.length = n.m) : HBN (121 + a) (4 * (23977 * N)) (sentF (tabF n as) h) := by
  have zt := tabI_bd g ok (Nat.le_refl _)
  rw [tabI_all] at zt
  obtain ⟨Mt, m0, m1, b1⟩ := zt
  obtain ⟨M, p0, p1, b2⟩ := z
  have l := g.len
  have m4 := g.m4
  have m1' : Mt < 2 ^ 121 := Nat.lt_of_lt_of_le m1 (Nat.pow_le_pow_right (by decide) (by omega))
  refine ⟨Mt * M, Nat.mul_pos m0 p0, pow_mul_lt m1' p1, fun x hx => ?_⟩
  obtain ⟨row, hrow, rfl⟩ := List.mem_map.mp hx
  have lr := tab_row hrow
  have zz := dotI_bd (N := 23977) (N' := N) m0 p0 (fun x hx => (b1 row hrow x hx).mono (Nat.dvd_refl _) (by omega)) b2 (by omega) (Nat.le_refl row.length)
  exact zz.mono (Nat.dvd_refl _) (Nat.mul_le_mul_right _ (by omega))
theorem sent_ok {n : NetM} {as : List Fr} (g : GoodN n) (ok : AsOk n as) {a N b : Nat} {h : List Fr} (z : HBN a N h) (hN : N < 2 ^ b) (hz : a + b + 300 ≤ 4000) (hl : h.length = n.m) : ∀ row ∈ tabF n as, DotOk row h := fun row hr => by
  have lr := tab_row hr
  have m4 := g.m4
  exact ⟨by omega, by omega, 121, 15, a, b, (tab_hb g ok hr).hb (by decide), z.hb hN, by omega⟩
theorem heldI_zero (n : NetM) (as : List Fr) (fl : List (List Fr)) : heldI n as fl 0 = held0 n.m := rfl
theorem heldI_succ {n : NetM} {as : List Fr} {fl : List (List Fr)} {k : Nat} {r : List Fr} (h : fl[k]? = some r) : heldI n as fl (k + 1) = fillF n.fs r (sentF (tabF n as) (heldI n as fl k)) := by
  unfold heldI
  rw [List.take_add_one, h, List.foldl_append]
  rfl
def FlOk (n : NetM) (fl : List (List Fr)) : Prop := fl.length ≤ 8 ∧ ∀ r ∈ fl, r.length = n.fs.length ∧ ToldS r
theorem held_ok {n : NetM} {as : List Fr} {fl : List (List Fr)} (g : GoodN n) (ok : AsOk n as) (hf : FlOk n fl) : ∀ {k : Nat}, k ≤ fl.length → HBN (1 + 161 * k) (2 ^ (18 * k)) (heldI n as fl k) ∧ (heldI n as fl k).length = n.m
  | 0, _ => ⟨⟨1, by decide, by decide, fun x hx => by
      rw [heldI_zero] at hx
      rw [(List.mem_replicate.mp hx).2]
      exact bd0 (by decide)⟩, by rw [heldI_zero]; exact List.length_replicate⟩
  | k + 1, h => by
    obtain ⟨z, hl⟩ := held_ok g ok hf (k := k) (by omega)
    have e := List.getElem?_eq_getElem (show k < fl.length by omega)
    rw [heldI_succ e]
    obtain ⟨lr, tr⟩ := hf.2 _ (List.getElem_mem (show k < fl.length by omega))
    have zs := sent_bd g ok z hl
    have ls := sentF_len n as (heldI n as fl k)
    have f4 : n.fs.length ≤ 4 := Nat.le_trans g.fs.len g.m4
    have zf := fillI_bd zs (fs := n.fs) (r := fl[k]) (fun j hj => by rw [ls]; exact g.fs.lt j hj) tr lr (Nat.le_refl _)
    refine ⟨zf.mono (by omega) ?_, by unfold fillF; rw [fillI_len, ls]⟩
    have p1 : 1 ≤ 2 ^ (18 * k) := Nat.one_le_two_pow
    have e18 : 2 ^ (18 * (k + 1)) = 2 ^ (18 * k) * 262144 := by rw [Nat.mul_succ, Nat.pow_add]
    rw [e18]
    generalize 2 ^ (18 * k) = X at p1 ⊢
    omega
end KP

set_option Elab.async false
set_option linter.all false
set_option maxRecDepth 100000
set_option maxHeartbeats 4000000
/-! ### sent, filled_up, seen_of; the law's sent -/
namespace KP
open PySem PySem.Spec PyProof.Rows L2 KX KT KJ KS FR
theorem frl_at {K : PySem.W.Frag} {H : Hp} {vs : List V} {h : List Fr} (f : FrL K H vs h) {j : Nat} (hj : j < h.length) : ∃ v, vs[j]? = some v ∧ FrV K H v (h.getD j (0, 1)) := by
  have hv : j < vs.length := by rw [f.len]; exact hj
  refine ⟨_, List.getElem?_eq_getElem hv, ?_⟩
  have e : h.getD j (0, 1) = h[j] := by
    rw [List.getD_eq_getElem?_getD, List.getElem?_eq_getElem hj]
    rfl
  rw [e]
  exact f.get j _ _ (List.getElem?_eq_getElem hv) (List.getElem?_eq_getElem hj)
theorem nats_at {H : Hp} {vs : List V} {ns : List Nat} {i : Nat} {v : V} (h : ThAll H vs (natsD ns)) (e : vs[i]? = some v) : ∃ j, ns[i]? = some j ∧ v = .int (j : Nat) := by
  obtain ⟨d, hd, td⟩ := all_get h e
  unfold natsD at hd
  rw [List.getElem?_map] at hd
  cases z : ns[i]? with
  | none => rw [z] at hd; cases hd
  | some j =>
    rw [z] at hd
    cases hd
    cases td
    exact ⟨j, rfl, rfl⟩
def spSent (K : PySem.W.Frag) : Sp := fun vs H Q _ => ∃ u v t h, vs = [u, v] ∧ TabT K H u t ∧ RowT K H v h ∧ t.length ≤ 4 ∧ (∀ row ∈ t, DotOk row h) ∧ ∀ w H', Same H H' → RowT K H' w (sentF t h) → Q w H'
def spSentL (K : PySem.W.Frag) : Sp := fun vs H Q _ => ∃ u c ys t h, vs = [u, .ref c] ∧ TabT K H u t ∧ H c = some (.lst ys) ∧ FrL K H ys h ∧ t.length ≤ 4 ∧ (∀ row ∈ t, DotOk row h) ∧ ∀ p zs H', Same H H' → H p = none → H' p = some (.lst zs) → FrL K H' zs (sentF t h) → Q (.ref p) H'
def spSeenOf (K : PySem.W.Frag) : Sp := fun vs H Q _ => ∃ x u n h, vs = [x, u] ∧ GoodN n ∧ Th (tO H) x (NetM.d n) ∧ RowT K H u h ∧ h.length = n.m ∧ ∀ w H', Same H H' → RowT K H' w (seenF n.ss h) → Q w H'
def spFilled (K : PySem.W.Frag) : Sp := fun vs H Q _ => ∃ x u z n h r a N, vs = [x, u, z] ∧ GoodN n ∧ Th (tO H) x (NetM.d n) ∧ RowT K H u h ∧ h.length = n.m ∧ Th (tO H) z (.tuple (r.map fD)) ∧ r.length = n.fs.length ∧ ToldS r ∧ HBN a N h ∧ a ≤ 2600 ∧ N < 2 ^ 180 ∧ ∀ w H', Same H H' → RowT K H' w (fillF n.fs r h) → Q w H'
section
variable {P : Program} {w : World} {K : PySem.W.Frag} {mg : Str → Option Value} {base : Heap}
abbrev nFu : List Str := ["net", "held", "filling", "amounts", "tank", "amount"]
end
end KP

set_option Elab.async false
set_option linter.all false
set_option maxRecDepth 100000
set_option maxHeartbeats 4000000
/-! ### seen_in -/
namespace KP
open PySem PySem.Spec PyProof.Rows L2 KX KT KJ KS FR
def spRuns (K : PySem.W.Frag) (Ps : List Addr) : Sp := fun vs H Q _ => ∃ x y z n as fl, vs = [x, y, z] ∧ GoodN n ∧ Th (tO H) x (NetM.d n) ∧ AsOk n as ∧ Th (tO H) y (.tuple (as.map fD)) ∧ FlOk n fl ∧ Th (tO H) z (flD fl) ∧ Tbs Ps H ∧ ∀ v H', Grown Ps H H' → TabT K H' v (seenAll n as fl) → Q v H'
abbrev nSi : List Str := ["net", "assignment", "fillings", "table", "held", "rows", "filling"]
theorem rep_vec {K : PySem.W.Frag} {H : Hp} {p aN : Addr} {m : Nat} {Q : VK} (cN : ∀ H, SqT K H aN [.int 0, .int 1]) (m1 : 1 ≤ m) (m4 : m ≤ 4) (e : H p = some (.tup [.ref aN])) (k : ∀ v H', Same H H' → RowT K H' v (held0 m) → Q v H') : MZ.rRepA K (.ref p) (.int (m : Nat)) H Q := by
  have fr : ∀ (H : Hp) (j : Nat), FrL K H (List.replicate j (V.ref aN)) (held0 j) := by
    intro H j
    induction j with
    | zero => exact FrL.nil
    | succ j ih =>
      have e1 : List.replicate (j + 1) (V.ref aN) = List.replicate j (V.ref aN) ++ [V.ref aN] := List.replicate_succ'
      have e2 : held0 (j + 1) = held0 j ++ [(0, 1)] := List.replicate_succ'
      rw [e1, e2]
      exact ih.snoc (FrV.cst cN)
  refine ⟨p, (m : Int), _, rfl, rfl, SqT.of e, by simp, by omega, by omega, by simp, fun z => ?_, fun z q hq => ?_⟩
  · have m1 : m = 1 := by omega
    subst m1
    exact k _ H (Same.refl H) ⟨p, _, rfl, tO_of e, fr H 1⟩
  · have e3 : (List.replicate ((m : Int)).toNat [V.ref aN]).flatten = List.replicate m (V.ref aN) := by
      rw [Int.toNat_natCast]
      exact List.flatten_replicate_singleton
    rw [e3]
    exact k _ _ (same_upd hq) ⟨q, _, rfl, tO_of upd_same, fr _ m⟩
/-- what is seen, after some beats -/
def seenI (n : NetM) (as : List Fr) (fl : List (List Fr)) (i : Nat) : Tab := (List.range i).map fun k => seenF n.ss (heldI n as fl k)
theorem seenI_succ {n : NetM} {as : List Fr} {fl : List (List Fr)} {i : Nat} : seenI n as fl (i + 1) = seenI n as fl i ++ [seenF n.ss (heldI n as fl i)] := by
  unfold seenI
  rw [List.range_succ, List.map_append]
  rfl
theorem seenI_all {n : NetM} {as : List Fr} {fl : List (List Fr)} : seenI n as fl (fl.length + 1) = seenAll n as fl := rfl
theorem n17 {k : Nat} (h : k ≤ 8) : 4 * (23977 * 2 ^ (18 * k)) < 2 ^ 180 := by
  have p1 : 0 < 2 ^ (18 * k) := Nat.pow_pos (by decide)
  have e : 2 ^ (17 + 18 * k) = 131072 * 2 ^ (18 * k) := by rw [Nat.pow_add]
  have l : 2 ^ (17 + 18 * k) ≤ 2 ^ 180 := Nat.pow_le_pow_right (by decide) (by omega)
  rw [e] at l
  generalize 2 ^ (18 * k) = X at p1 l ⊢
  omega
theorem n18 {k : Nat} (h : k ≤ 8) : 2 ^ (18 * k) < 2 ^ 145 := Nat.pow_lt_pow_right (by decide) (by omega)
section
variable {P : Program} {w : World} {K : PySem.W.Frag} {mg : Str → Option Value} {base : Heap}
end
end KP

set_option Elab.async false
set_option linter.all false
set_option maxRecDepth 100000
set_option maxHeartbeats 4000000
/-! ### the law's own runs -/
namespace KP
open PySem PySem.Spec PyProof.Rows L2 KX KT KJ KS FR
def spRunsL (K : PySem.W.Frag) : Sp := fun vs H Q _ => ∃ x y z n as fl, vs = [x, y, z] ∧ GoodN n ∧ Th (tO H) x (NetM.d n) ∧ AsOk n as ∧ Th (tO H) y (.tuple (as.map fD)) ∧ FlOk n fl ∧ Th (tO H) z (flD fl) ∧ ∀ v H', Same H H' → TabT K H' v (seenAll n as fl) → Q v H'
abbrev nSl : List Str := ["net", "assignment", "fillings", "table", "held", "found", "row", "at", "part"]
theorem cat_none {K : PySem.W.Frag} {H : Hp} {a p : Addr} {zs : List V} {Q : VK} (ea : H a = some (.tup zs)) (ep : H p = some (.tup [.non])) (hl : zs.length ≤ 1000) (k : ∀ c H', Same H H' → H' c = some (.tup (zs ++ [.non])) → Q (.ref c) H') : rCatA K (.ref a) (.ref p) H Q :=
  ⟨a, p, zs, _, rfl, rfl, SqT.of ea, SqT.of ep, Nat.le_trans (show zs.length + 1 ≤ 1001 by omega) (by decide), (fun z => by subst z; exact k p H (Same.refl H) ep), (fun _ z => by cases z), fun _ _ q hq => k q _ (same_upd hq) upd_same⟩
theorem i_ifE {t : TT} {ta tb : TE} {b : Bool} {σ : L2.St} {H : Hp} {Q : VK} (h : Ti t σ H b) (h1 : b = true → ta σ H Q) (h2 : b = false → tb σ H Q) : tIf t ta tb σ H Q := h _ (iteB h1 h2)
theorem rep_lst {H : Hp} {l : Addr} {x : V} {m : Nat} {Q : VK} (m4 : m ≤ 4) (e : H l = some (.lst [x])) (k : ∀ q, H q = none → Q (.ref q) (upd H q (.lst (List.replicate m x)))) : rRep (.ref l) (.int (m : Nat)) H Q := by
  refine ⟨l, (m : Int), _, rfl, rfl, e, by omega, by omega, ?_, fun q hq => ?_⟩
  · rw [Int.toNat_natCast]
    exact Nat.le_trans (show 1 * m ≤ 4 by omega) (by decide)
  · rw [Int.toNat_natCast, List.flatten_replicate_singleton]
    exact k q hq
theorem frl_rep {K : PySem.W.Frag} {H : Hp} {v : V} (f : FrV K H v (0, 1)) : ∀ j : Nat, FrL K H (List.replicate j v) (held0 j)
  | 0 => FrL.nil
  | j + 1 => by
    have e1 : List.replicate (j + 1) v = List.replicate j v ++ [v] := List.replicate_succ'
    have e2 : held0 (j + 1) = held0 j ++ [(0, 1)] := List.replicate_succ'
    rw [e1, e2]
    exact (frl_rep f j).snoc f
end KP

set_option Elab.async false
set_option linter.all false
set_option maxRecDepth 100000
set_option maxHeartbeats 4000000
/-! ### drawn assignments and fillings -/
namespace KP
open PySem PySem.Spec PyProof.Rows L2 KX KT KJ KS FR
theorem th_hid {j : Addr} {H : Hp} {v : V} {d : PyData} (h : Th (hid j H) v d) (z : tpD d = true) : Th (tO H) v d := th_tO (h.mono (Sm.same (hid_same j H))) z
theorem thAll_tk {H H' : Hp} {vs : List V} {ds : List PyData} (h : ThAll (tO H) vs ds) (s : Tk H H') : ThAll (tO H') vs ds := ThAll.mono (Sm.same s) h
theorem but_put {j p : Addr} {H H' : Hp} {o : HO} (b : KJ.But j H H') (h : H p = none) : KJ.But j H (upd H' p o) := fun c u n e => by
  rw [upd_ne (ne_of_none e h)]
  exact b c u n e
theorem jar_put {j p : Addr} {H : Hp} {n : Nat} {o : HO} (h : JarAt H j n) (np : p ≠ j) : JarAt (upd H p o) j n := by
  obtain ⟨x1, x2, x3, ej, r⟩ := h
  exact ⟨x1, x2, x3, by rw [upd_ne (Ne.symm np)]; exact ej, r⟩
def spAsn : Sp := fun vs H Q _ => ∃ j n x nt, vs = [.ref j, x] ∧ JarAt H j n ∧ n ≤ 800000 ∧ GoodN nt ∧ Th (tO H) x (NetM.d nt) ∧ ∀ v as H', AsOk nt as → Th (tO H') v (.tuple (as.map fD)) → KJ.But j H H' → JarAt H' j (n + 12) → Q v H'
def spFil : Sp := fun vs H Q _ => ∃ j n x nt, vs = [.ref j, x, .int 6] ∧ JarAt H j n ∧ n ≤ 800000 ∧ GoodN nt ∧ Th (tO H) x (NetM.d nt) ∧ ∀ v fl H', FlOk nt fl → Th (tO H') v (flD fl) → KJ.But j H H' → JarAt H' j (n + 129) → Q v H'
section
variable {P : Program} {w : World} {K : PySem.W.Frag} {mg : Str → Option Value} {base : Heap}
abbrev nAsn : List Str := ["jar", "net", "found", "at"]
/-- a row that is being drawn -/
def RowI (j p2 : Addr) (H' : Hp) (c b : Nat) (H2 : Hp) : Prop := ∃ ys r, H2 p2 = some (.lst ys) ∧ ThAll (tO H2) ys (r.map fD) ∧ r.length = b ∧ ToldS r ∧ KJ.But j H' H2 ∧ Tk H' H2 ∧ JarAt H2 j (c + 4 * b)
theorem RowI.jar {j p2 : Addr} {H' H2 : Hp} {c b : Nat} (R : RowI j p2 H' c b H2) : JarAt H2 j (c + 4 * b) := let ⟨_, _, _, _, _, _, _, _, z⟩ := R; z
theorem RowI.lst {j p2 : Addr} {H' H2 : Hp} {c b : Nat} (R : RowI j p2 H' c b H2) : ∃ ys, H2 p2 = some (.lst ys) := let ⟨ys, _, e, _⟩ := R; ⟨ys, e⟩
theorem RowI.more {j p2 : Addr} {H' H2 H3 : Hp} {c b : Nat} (R : RowI j p2 H' c b H2) (hp2 : H' p2 = none) (np2 : p2 ≠ j) {v : V} {f : Fr} (hf : Told f) (tv : Th (tO H3) v (fD f)) (b3 : KJ.But j H2 H3) (j3 : JarAt H3 j (c + 4 * b + 4)) :
    ∃ ys, H3 p2 = some (.lst ys) ∧ ys.length = b ∧ RowI j p2 H' c (b + 1) (upd H3 p2 (.lst (ys ++ [v]))) := by
  obtain ⟨ys, r, ey, ty, lr, hr', b2, tk2, j2⟩ := R
  have ey3 := b3 _ _ np2 ey
  have tk := Tk.put (ys := ys ++ [v]) ey3
  have tk3 := (Tk.jar j2 b3).trans tk
  refine ⟨ys, ey3, by rw [all2 ty, List.length_map, lr], ys ++ [v], r ++ [f], upd_same, ?_, by rw [List.length_append, List.length_singleton, lr], fun y hy => ?_, but_put (b2.trans b3) hp2, tk2.trans tk3, by rw [show c + 4 * (b + 1) = c + 4 * b + 4 by omega]; exact jar_put j3 np2⟩
  · rw [List.map_append]
    exact ThAll.append (thAll_tk ty tk3) (.cons (tv.tk tk) .nil)
  · rcases List.mem_append.mp hy with h | h
    · exact hr' y h
    · rw [List.mem_singleton.mp h]
      exact hf
abbrev nFil : List Str := ["jar", "net", "most", "found", "turn", "row", "at"]
end
end KP

set_option Elab.async false
set_option linter.all false
set_option maxRecDepth 100000
set_option maxHeartbeats 4000000
/-! ### tables as data that can be shown; parts of tuples -/
namespace KP
open PySem PySem.Spec PyProof.Rows L2 KX KT KJ KS FR
structure FOk (x : Fr) : Prop where
  n : x.1.natAbs < 2 ^ 1920
  d : x.2.natAbs < 2 ^ 1920
structure TOk (t : Tab) : Prop where
  len : t.length ≤ 9
  row : ∀ r ∈ t, r.length ≤ 4 ∧ ∀ x ∈ r, FOk x
theorem log_ok {n : Nat} (h : n < 2 ^ 1920) : n.log2 < 1920 := by
  by_cases z : n = 0
  · subst z
    decide
  · exact (Nat.log2_lt z).mpr h
theorem shownAll_map : ∀ ds : List PyData, PyData.shownAll ds = ds.map PyData.shown
  | [] => rfl
  | d :: ds => by
    simp only [PyData.shownAll, List.map_cons]
    rw [shownAll_map ds]
theorem showableAll_of : ∀ {ds : List PyData}, (∀ d ∈ ds, d.showable = true) → PyData.showableAll ds = true
  | [], _ => rfl
  | d :: ds, h => by
    simp only [PyData.showableAll, Bool.and_eq_true]
    exact ⟨h d List.mem_cons_self, showableAll_of fun e he => h e (List.mem_cons_of_mem _ he)⟩
theorem hasDictAll_of : ∀ {ds : List PyData}, (∀ d ∈ ds, d.hasDict = false) → PyData.hasDictAll ds = false
  | [], _ => rfl
  | d :: ds, h => by
    simp only [PyData.hasDictAll, Bool.or_eq_false_iff]
    exact ⟨h d List.mem_cons_self, hasDictAll_of fun e he => h e (List.mem_cons_of_mem _ he)⟩
theorem depthAll_of {n : Nat} : ∀ {ds : List PyData}, (∀ d ∈ ds, d.depth ≤ n) → PyData.depthAll ds ≤ n
  | [], _ => by simp [PyData.depthAll]
  | d :: ds, h => by
    simp only [PyData.depthAll]
    have h1 := h d List.mem_cons_self
    have h2 := depthAll_of (ds := ds) fun e he => h e (List.mem_cons_of_mem _ he)
    omega
/-- what can be shown in so many signs -/
structure Sw (L n : Nat) (d : PyData) : Prop where
  ok : d.showable = true
  len : d.shown.length ≤ L
  dep : d.depth ≤ n
  nod : d.hasDict = false
theorem sum_le {α : Type} {f : α → Nat} {B : Nat} : ∀ {l : List α}, (∀ x ∈ l, f x ≤ B) → (l.map f).sum ≤ l.length * B
  | [], _ => by simp
  | x :: l, h => by
    have h1 := h x List.mem_cons_self
    have h2 := sum_le (l := l) fun y hy => h y (List.mem_cons_of_mem _ hy)
    rw [List.map_cons, List.sum_cons, List.length_cons, Nat.succ_mul]
    omega
theorem sw_int {i : Int} (h : i.natAbs < 2 ^ 1920) : Sw 1921 1 (.int i) :=
  ⟨by simpa [PyData.showable] using log_ok h, by simp only [PyData.shown]; exact int_text_len_1921 (log_ok h), by simp [PyData.depth], by simp [PyData.hasDict]⟩
theorem sw_tup {L n k : Nat} {ds : List PyData} (h : ∀ d ∈ ds, Sw L n d) (hk : ds.length ≤ k) : Sw (k * (L + 2) + 3) (n + 1) (.tuple ds) := by
  refine ⟨by simp only [PyData.showable]; exact showableAll_of fun d hd => (h d hd).ok, ?_, ?_, by simp only [PyData.hasDict]; exact hasDictAll_of fun d hd => (h d hd).nod⟩
  · simp only [PyData.shown]
    rw [shownAll_map]
    have a := tupleText_len_le (ds.map PyData.shown)
    rw [List.map_map, List.length_map] at a
    have b := sum_le (f := fun d : PyData => d.shown.length) (l := ds) fun d hd => (h d hd).len
    have c : ds.length * L + 2 * ds.length ≤ k * (L + 2) := by
      rw [Nat.mul_comm 2, ← Nat.mul_add]
      exact Nat.mul_le_mul_right _ hk
    have e : (List.map (Str.length ∘ PyData.shown) ds).sum ≤ ds.length * L := b
    have a' : (tupleText (ds.map PyData.shown)).length ≤ (List.map (Str.length ∘ PyData.shown) ds).sum + 2 * ds.length + 3 := a
    omega
  · simp only [PyData.depth]
    have := depthAll_of (ds := ds) fun d hd => (h d hd).dep
    omega
theorem sw_lst {L n k : Nat} {ds : List PyData} (h : ∀ d ∈ ds, Sw L n d) (hk : ds.length ≤ k) : Sw (k * (L + 2) + 3) (n + 1) (.list ds) := by
  refine ⟨by simp only [PyData.showable]; exact showableAll_of fun d hd => (h d hd).ok, ?_, ?_, by simp only [PyData.hasDict]; exact hasDictAll_of fun d hd => (h d hd).nod⟩
  · simp only [PyData.shown]
    rw [shownAll_map]
    have a := listText_len_le (ds.map PyData.shown)
    rw [List.map_map, List.length_map] at a
    have b := sum_le (f := fun d : PyData => d.shown.length) (l := ds) fun d hd => (h d hd).len
    have c : ds.length * L + 2 * ds.length ≤ k * (L + 2) := by
      rw [Nat.mul_comm 2, ← Nat.mul_add]
      exact Nat.mul_le_mul_right _ hk
    have e : (List.map (Str.length ∘ PyData.shown) ds).sum ≤ ds.length * L := b
    have a' : (listText (ds.map PyData.shown)).length ≤ (List.map (Str.length ∘ PyData.shown) ds).sum + 2 * ds.length + 3 := a
    omega
  · simp only [PyData.depth]
    have := depthAll_of (ds := ds) fun d hd => (h d hd).dep
    omega
theorem sw_tab {t : Tab} (h : TOk t) : Sw 200000 4 (flD t) := by
  have f : ∀ x, FOk x → Sw 3849 2 (fD x) := fun x hx => sw_tup (k := 2) (L := 1921) (n := 1) (fun d hd => by
    simp only [List.mem_cons, List.not_mem_nil, or_false] at hd
    rcases hd with rfl | rfl
    · exact sw_int hx.n
    · exact sw_int hx.d) (by simp)
  have r : ∀ r ∈ t, Sw 15407 3 (.tuple (r.map fD)) := fun r hr => sw_tup (k := 4) (L := 3849) (n := 2) (fun d hd => by
    obtain ⟨x, hx, rfl⟩ := List.mem_map.mp hd
    exact f x ((h.row r hr).2 x hx)) (by rw [List.length_map]; exact (h.row r hr).1)
  have z := sw_tup (k := 9) (L := 15407) (n := 3) (ds := t.map fun r => PyData.tuple (r.map fD)) (fun d hd => by
    obtain ⟨r', hr, rfl⟩ := List.mem_map.mp hd
    exact r r' hr) (by rw [List.length_map]; exact h.len)
  exact ⟨z.ok, Nat.le_trans z.len (by decide), z.dep, z.nod⟩
section
variable {K : PySem.W.Frag} {H : Hp}
theorem dp_fr {v : V} {x : Fr} (h : FrV K H v x) : Dp K H v (fD x) := by
  obtain ⟨a, rfl, q⟩ := h
  exact .tup (sqT_up q) (.cons (.int _) (.cons (.int _) .nil))
theorem dpAll_of {α : Type} {f : α → PyData} : ∀ {vs : List V} {xs : List α}, vs.length = xs.length → (∀ (k : Nat) (v : V) (x : α), vs[k]? = some v → xs[k]? = some x → Dp K H v (f x)) → DpAll K H vs (xs.map f)
  | [], [], _, _ => .nil
  | v :: vs, x :: xs, hl, h => .cons (h 0 v x rfl rfl) (dpAll_of (by simpa using hl) fun k v' x' a b => h (k + 1) v' x' (by simpa using a) (by simpa using b))
  | [], _ :: _, hl, _ => by simp at hl
  | _ :: _, [], hl, _ => by simp at hl
theorem dp_tab {v : V} {t : Tab} (h : TabT K H v t) : Dp K H v (flD t) := by
  obtain ⟨a, us, rfl, e, r⟩ := h
  refine .tup (SqT.of (tO_same H _ _ e)) (dpAll_of r.len fun k u row a b => ?_)
  obtain ⟨c, vs, rfl, e2, f⟩ := r.get k u row a b
  exact .tup (SqT.of (tO_same H _ _ e2)) (dpAll_of f.len fun k v x a b => dp_fr (f.get k v x a b))
theorem shw_tab {v : V} {t : Tab} (h : TabT K H v t) (ok : TOk t) : Shw K H v (flD t) := by
  have z := sw_tab ok
  exact ⟨z.ok, Nat.le_trans z.len (by decide), Nat.le_trans z.dep (by decide), .inl ⟨z.nod, dp_tab h⟩⟩
theorem shw_two {a : Addr} {v1 v2 : V} {t : Tab} (e : H a = some (.lst [v1, v2])) (h1 : TabT K H v1 t) (h2 : TabT K H v2 t) (ok : TOk t) : Shw K H (.ref a) (.list [flD t, flD t]) := by
  have s := sw_tab ok
  have z := sw_lst (k := 2) (L := 200000) (n := 4) (ds := [flD t, flD t]) (fun d hd => by
    simp only [List.mem_cons, List.not_mem_nil, or_false] at hd
    rcases hd with rfl | rfl <;> exact s) (by simp)
  exact ⟨z.ok, Nat.le_trans z.len (by decide), Nat.le_trans z.dep (by decide), .inl ⟨z.nod, .lst (SqL.of e) (.cons (dp_tab h1) (.cons (dp_tab h2) .nil))⟩⟩
/-- a beginning of a tuple -/
theorem sl_take {a : Addr} {xs : List V} {k : Nat} {Q : VK} (e : tO H a = some (.tup xs)) (q : ∀ b H', Same H H' → tO H' b = some (.tup (xs.take k)) → Q (.ref b) H') : rSlA K (.ref a) none (some (k : Int)) H Q := by
  refine ⟨a, xs, rfl, SqT.of (tO_same H _ _ e), fun z => ?_, fun _ p hp => ?_⟩
  · rw [HT.sIx_nat] at z
    refine q a H (Same.refl H) ?_
    rw [List.take_of_length_le (by have := z.2; omega)]
    exact e
  · have ec : cutV xs none (some (k : Int)) = xs.take k := by
      unfold cutV
      rw [HT.sIx_nat, HT.sIx_none, List.drop_zero, Nat.sub_zero, ← List.take_take, List.take_length]
    rw [ec]
    exact q p _ (same_upd hp) (tO_of upd_same)
theorem TabT.take {k : Nat} {a : Addr} {us : List V} {t : Tab} (e : tO H a = some (.tup (us.take k))) (r : RowsT K H us t) : TabT K H (.ref a) (t.take k) := by
  refine ⟨a, _, rfl, e, by rw [List.length_take, List.length_take, r.len], fun i u row h1 h2 => ?_⟩
  rw [List.getElem?_take] at h1 h2
  split at h1
  · rename_i hi
    rw [if_pos hi] at h2
    exact r.get i u row h1 h2
  · cases h1
theorem ThAll.take' : ∀ {xs : List V} {ds : List PyData} (k : Nat), ThAll H xs ds → ThAll H (xs.take k) (ds.take k)
  | _, _, 0, _ => .nil
  | _, _, _ + 1, .nil => .nil
  | _, _, k + 1, .cons a b => .cons a (ThAll.take' k b)
end
/-- the runs of a beginning are the beginning of the runs -/
theorem seenAll_take {n : NetM} {as : List Fr} {fl : List (List Fr)} {k : Nat} (h : k ≤ fl.length) : seenAll n as (fl.take k) = (seenAll n as fl).take (k + 1) := by
  unfold seenAll
  rw [← List.map_take, List.take_range, List.length_take, Nat.min_eq_left h, Nat.min_eq_left (by omega)]
  refine List.map_congr_left fun i hi => ?_
  have hi := List.mem_range.mp hi
  unfold heldI
  rw [List.take_take, Nat.min_eq_left (by omega)]
theorem hbn_ok {a N : Nat} {h : List Fr} (z : HBN a N h) (hN : N < 2 ^ 145) (ha : a ≤ 1775) {x : Fr} (hx : x ∈ h) : FOk x := by
  obtain ⟨M, m0, m1, b1⟩ := z
  have s := ((b1 x hx).sz m0 m1 hN).mono (b := 1920) (by omega) |>.d
  have s' := ((b1 x hx).sz m0 m1 hN).mono (b := 1920) (by omega) |>.n
  exact ⟨s', s⟩
theorem tab_tok {n : NetM} {as : List Fr} (g : GoodN n) (ok : AsOk n as) : TOk (tabF n as) := by
  have m4 := g.m4
  refine ⟨by rw [(sqF n as).len]; omega, fun r hr => ⟨by rw [tab_row hr]; exact m4, fun x hx => hbn_ok (tab_hb g ok hr) (Nat.lt_of_lt_of_le (show 23977 < 2 ^ 15 by decide) (Nat.pow_le_pow_right (by decide) (by decide))) (by omega) hx⟩⟩
theorem seen_tok {n : NetM} {as : List Fr} {fl : List (List Fr)} (g : GoodN n) (ok : AsOk n as) (hf : FlOk n fl) : TOk (seenAll n as fl) := by
  have l8 := hf.1
  refine ⟨by unfold seenAll; rw [List.length_map, List.length_range]; omega, fun r hr => ?_⟩
  unfold seenAll at hr
  obtain ⟨k, hk, rfl⟩ := List.mem_map.mp hr
  have hk := List.mem_range.mp hk
  obtain ⟨hb, hl⟩ := held_ok g ok hf (k := k) (by omega)
  refine ⟨by unfold seenF; rw [List.length_map]; exact Nat.le_trans g.ss.len g.m4, fun x hx => ?_⟩
  unfold seenF at hx
  obtain ⟨i, hi, rfl⟩ := List.mem_map.mp hx
  exact hbn_ok hb (n18 (by omega)) (by omega) (getD_mem (by rw [hl]; exact g.ss.lt i hi))
theorem FlOk.take {n : NetM} {fl : List (List Fr)} (h : FlOk n fl) (k : Nat) : FlOk n (fl.take k) := ⟨by rw [List.length_take]; have := h.1; omega, fun r hr => h.2 r (List.mem_of_mem_take hr)⟩
theorem TOk.take {t : Tab} (h : TOk t) (k : Nat) : TOk (t.take k) := ⟨by rw [List.length_take]; have := h.len; omega, fun r hr => h.row r (List.mem_of_mem_take hr)⟩
end KP

set_option Elab.async false
set_option linter.all false
set_option maxRecDepth 100000
set_option maxHeartbeats 4000000
/-! ### the law's check of one jar, and the law -/
namespace KP
open PySem PySem.Spec PyProof.Rows L2 KX KT KJ KS FR
abbrev lSame3 : Stmt := top 43
abbrev lRight3 : Stmt := top 62
abbrev lLaw3 : Stmt := top 63
/-- f(k = v, ..) -/
theorem pe_callK0 {X : Cx} {CX : CXT} {k : Nat} {f : Addr} {fd : FuncData} {ps ks : List Str} {sp : Sp} {E : XK} {x : Str} {p pos : Pos} {kws : List Keyword} {tk : TA} {g : List Value → List Value → List Value} {gV : List V → List V → List V}
    (F : FnOk X.prog X.w X.K X.mg X.base CX k f fd ps sp) (hr : Room k X.A) (hg : Gl X x) (hm : X.mg x = some (.ref f)) (hk : PySem.W.keepIn X.K (.ref f) = true) (hb : KBinds X.K fd ps ks g gV) (hx : Passes CX X E) (hkw : PK X kws tk)
    (hall : (backToKw pos (keywordEach kws X.env)).all (·.1.isSome) = true := by rfl) (hks : (backToKw pos (keywordEach kws X.env)).filterMap (·.1) = ks := by rfl) (hdb : (x == ("__debug__" : Str)) = false := by decide)
    (hpl : ((backTo pos (starEach [] X.env)).any (·.1) || (backToKw pos (keywordEach kws X.env)).any (·.1.isNone)) = false := by rfl) : PE X (.Call (.Name x p) [] kws pos) (tCallK sp gV E tNil tk) :=
  ⟨fun pins s σ H Q I h => wpAny_Call_Name_kw (ld_glob I hg hm (PySem.W.callWith_KW0 (h₀ := X.base) I.ok.mod.kin hk hall (thn (hkw.run pos pins s σ H _ I h) fun ws s2 ⟨zs, H2, I2, rz, q2⟩ => ⟨I2.kIn, by
    rw [hks]
    exact run_fnk F hr hb hx I2 .nil rz q2⟩) hpl) hdb)⟩
def Bt (j : Addr) (H H' : Hp) : Prop := ∀ b u, b ≠ j → H b = some u → (∀ q, u ≠ .tbl q) → H' b = some u
theorem Bt.but {j : Addr} {H H1 H2 : Hp} (a : Bt j H H1) (b : KJ.But j H1 H2) : Bt j H H2 := fun c u n e t => b c u n (a c u n e t)
theorem Bt.sm {j : Addr} {H H1 H2 : Hp} (a : Bt j H H1) (b : Sm H1 H2) : Bt j H H2 := fun c u n e t => b c u (a c u n e t) t
theorem jar_sm {H H' : Hp} {j : Addr} {n : Nat} (h : JarAt H j n) (s : Sm H H') : JarAt H' j n := by
  obtain ⟨a, b, c, e, r⟩ := h
  exact ⟨a, b, c, s _ _ e (fun _ z => by cases z), r⟩
theorem tbs_but {Ps : List Addr} {H H' : Hp} {j : Addr} {n : Nat} (t : Tbs Ps H) (jr : JarAt H j n) (b : KJ.But j H H') : Tbs Ps H' := fun P hP => by
  obtain ⟨ps, e, k⟩ := t P hP
  obtain ⟨_, _, _, ej, _⟩ := jr
  exact ⟨ps, b _ _ (fun z => by rw [z, ej] at e; cases e) e, k⟩
theorem tbs_same {Ps : List Addr} {H H' : Hp} (t : Tbs Ps H) (b : Same H H') : Tbs Ps H' := fun P hP => by
  obtain ⟨ps, e, k⟩ := t P hP
  exact ⟨ps, b _ _ e, k⟩
theorem sq_sm {K : PySem.W.Frag} {H H' : Hp} {a : Addr} {xs : List V} (s : Sm H H') (h : SqL K H a xs) : SqL K H' a xs := by
  rcases h with (h | ⟨o, h⟩) | h
  · exact .inl (.inl (s _ _ h fun _ z => by cases z))
  · exact .inl (.inr ⟨o, s _ _ h fun _ z => by cases z⟩)
  · exact .inr h
def spSame3 (K : PySem.W.Frag) : Sp := fun vs H Q _ => ∃ a b d, vs = [a, b] ∧ Shw K H a d ∧ Shw K H b d ∧ Q (.bl true) H
def spRight3 (Ps : List Addr) : Sp := fun vs H Q _ => ∃ j, vs = [.ref j] ∧ JarAt H j 0 ∧ Tbs Ps H ∧ ∀ H', Bt j H H' → Tbs Ps H' → Q (.bl true) H'
def spLaw3 (K : PySem.W.Frag) (Ps : List Addr) : Sp := fun vs H Q _ => ∃ (a : Addr) (ns : List Int), vs = [.ref a] ∧ SqL K H a (ns.map V.int) ∧ ns.length ≤ 63 ∧ Tbs Ps H ∧ ∀ H', Q (.bl true) H'
def gRev (us ws : List Value) : List Value := us ++ ws.reverse
def gRevV (us ws : List V) : List V := us ++ ws.reverse
section
variable {P : Program} {w : World} {K : PySem.W.Frag} {mg : Str → Option Value} {base : Heap}
theorem scSm3 : FnScope ["told", "due"] ["told", "due"] (defScope lSame3) := ⟨rfl, rfl, rfl, by decide +kernel, rfl, by decide +kernel, by decide +kernel⟩
theorem ok_same3 {f : Addr} {fd : FuncData} (F : Fun K "_law_same" "_law_same" lSame3 f fd) (T : TxD mg) : FnG P w K mg base 1 f fd ["told", "due"] (spSame3 K) := by
  refine FnG.mk' F scSm3 (fun {vs H Q E} h => ?_) (fun cdv A outer s H vs Q E qu hr h => ?_)
  · obtain ⟨a, b, x, rfl, _⟩ := h
    rfl
  · obtain ⟨a, b, d, rfl, ea, eb, k⟩ := h
    have qu' : Quiet (A.deeper (envOfC "_law_same" (defScope lSame3) s.heap.objs.size f cdv)) := qu
    have hu : (A.deeper (envOfC "_law_same" (defScope lSame3) s.heap.objs.size f cdv)).units + 64 < cLine := by have := hr.un; omega
    refine ⟨_, pss_one (ps_ret (pe_cmpR op_eq (pe_callB (cr_repr qu' hu) (by rfl) T.repr (by decide +kernel) (pa_cons (pv 0) pa_nil)) (pe_callB (cr_repr qu' hu) (by rfl) T.repr (by decide +kernel) (pa_cons (pv 1) pa_nil)) (nomark _))), ?_⟩
    refine ⟨_, rfl, _, _, rfl, ea, _, rfl, _, _, rfl, eb, rfl, ?_⟩
    rw [decide_eq_true rfl]
    exact k
end
end KP

set_option Elab.async false
set_option linter.all false
set_option maxRecDepth 100000
set_option maxHeartbeats 4000000
/-! ### the law -/
namespace KP
open PySem PySem.Spec PyProof.Rows L2 KX KT KJ KS FR
section
variable {P : Program} {w : World} {K : PySem.W.Frag} {mg : Str → Option Value} {base : Heap}
theorem scLw3 : FnScope ["script", "turn"] ["script"] (defScope lLaw3) := ⟨rfl, rfl, rfl, by decide +kernel, rfl, by decide +kernel, by decide +kernel⟩
theorem ok_law3 {f fR fJ : Addr} {fd fdR fdJ : FuncData} {Ps : List Addr} (F : Fun K "law" "law" lLaw3 f fd) (T : TxD mg)
    (FR : FnG P w K mg base 14 fR fdR ["jar"] (spRight3 Ps)) (mR : mg "_law_right" = some (.ref fR)) (kR : PySem.W.keepIn K (.ref fR) = true) (bR : Binds K fdR ["jar"] [])
    (FJ : FnOk P w K mg base CX0 1 fJ fdJ ["script", "turn"] (spJar K)) (mJ : mg "_law_jar" = some (.ref fJ)) (kJ : PySem.W.keepIn K (.ref fJ) = true) (bJ : Binds K fdJ ["script", "turn"] []) :
    FnG P w K mg base 15 f fd ["script"] (spLaw3 K Ps) := by
  refine FnG.mk' F scLw3 (fun {vs H Q E} h => ?_) (fun cdv A outer s H vs Q E qu hr h => ?_)
  · obtain ⟨j, _, rfl, _⟩ := h
    rfl
  · obtain ⟨a, ns, rfl, hS, hn, tb, k⟩ := h
    have hr1 : Room 1 _ := hr.mono (by decide)
    have qu' : Quiet (A.deeper (envOfC "law" (defScope lLaw3) s.heap.objs.size f cdv)) := qu
    refine ⟨_, pss_one (ps_ret (pe_callB (cr_all rfl) (by rfl) T.all (by decide +kernel) (pa_cons (pe_lc (own := [("turn", 1)]) (g := gName 1) (tt := tYes) rfl scLw3.nd
      (pi_range1 rfl T.range (pa_cons (pe_callB (call_max2 rfl) (by rfl) T.max (by decide +kernel) (pa_cons pe_int (pa_cons (pe_callB (call_min2 rfl) (by rfl) T.min (by decide +kernel) (pa_cons (pe_callB call_len_seq (by rfl) T.len PySem.boot_len (pa_cons (pv 0) pa_nil)) (pa_cons pe_int pa_nil))) pa_nil))) pa_nil))
      (blkOk_by (N := ["script", "turn"]) (sc := defScope lLaw3) (by decide +kernel)) (fun _ _ _ _ _ => pg_name (i := 1) scLw3.nd rfl (Or.inl rfl)) (fun _ _ _ _ _ => pts_nil)
      (fun _ _ _ _ _ => pe_quiet FR qu' hr rfl mR kR bR (pa_cons (pe_call FJ hr1 rfl mJ kJ bJ .nil pass0 (pa_cons (pv 0) (pa_cons (pv 1) pa_nil))) pa_nil))) pa_nil))), ?_⟩
    refine ⟨_, rfl, a, _, rfl, .inl hS, _, _, rfl, _, _, rfl, _, rfl, ?_, ?_, fun D hD => ?_⟩
    · split <;> split <;> omega
    · rw [List.length_map]
      split <;> split <;> omega
    · rw [List.length_map]
      generalize hN : (if (if (4 : Int) < (ns.length : Nat) then (4 : Int) else (ns.length : Nat)) > 2 then (if (4 : Int) < (ns.length : Nat) then (4 : Int) else (ns.length : Nat)) else (2 : Int)).toNat = N
      have hN4 : N ≤ 4 := by
        rw [← hN]
        split <;> split <;> omega
      refine lc_range (lo := 0) (n := N) (fun n H' => Sm H H' ∧ Tbs Ps H' ∧ H' D = some (.lst ((List.replicate n true).map V.bl))) ⟨Sm.same (same_upd hD), tbs_same tb (same_upd hD), upd_same⟩ ?_ ?_
      · rintro i H1 hi ⟨s1, t1, hD1⟩
        refine ⟨rfl, ?_⟩
        refine ⟨_, rfl, _, rfl, a, ns, i, by rw [Int.zero_add]; rfl, sq_sm s1 hS, hn, by omega, fun j H2 hj s2 jr => ?_⟩
        refine ⟨j, rfl, jr, tbs_same t1 s2, fun H3 b3 t3 => ?_⟩
        have nD : D ≠ j := ne_of_none hD1 hj
        refine ⟨_, b3 _ _ nD (s2 _ _ hD1) (fun _ z => by cases z), ?_, fun b o e nt => ?_, fun p hp => ?_, ?_⟩
        · rw [List.length_map, List.length_replicate]
          exact Nat.lt_of_lt_of_le hi (Nat.le_trans hN4 (by decide))
        · have nb : b ≠ D := fun z => by
            rw [z, hD] at e
            cases e
          rw [upd_ne nb]
          have e1 := s1 _ _ e nt
          exact b3 _ _ (ne_of_none e1 hj) (s2 _ _ e1) nt
        · obtain ⟨ps, e, c⟩ := t3 p hp
          have e3 := b3 _ _ nD (s2 _ _ hD1) (fun _ z => by cases z)
          exact ⟨ps, by rw [upd_ne (fun z => by rw [z, e3] at e; cases e)]; exact e, c⟩
        · rw [upd_same, List.replicate_succ', List.map_append]
          rfl
      · rintro H1 ⟨s1, t1, hD1⟩
        refine ⟨D, _, rfl, SqL.of hD1, ?_⟩
        have al : (List.replicate N true).all id = true := by
          rw [List.all_eq_true]
          intro x hx
          rw [List.eq_of_mem_replicate hx]
          rfl
        rw [al]
        exact k H1
end
end KP

set_option Elab.async false
set_option linter.all false
set_option maxRecDepth 100000
set_option maxHeartbeats 1000000
/-! ### the end of a law whose def is quiet, with tables of code -/
namespace KG
open PySem PySem.Spec PyProof.Rows L2 KX
open Classical in
theorem lawGT {P : Program} {w : World} {K : PySem.W.Frag} {mg mb : Str → Option Value} {k : Nat} {fa a : Addr} {cs : List (Addr × Addr)} {fd : FuncData} {x : Str} {sp : Sp} {s₁ : Shared} {vs : List Value} {ns : List Int}
    (inK : K.In s₁.heap) (hns : s₁.heap.Ns mainGlobals mg) (hb : s₁.heap.Ns builtinsNs mb) (hbb : ∀ y : Str, y ≠ "__name__" → mb y = bootBuiltins y) (hlim : s₁.heap.NoLimit) (hg : s₁.gens = #[])
    (hT : ∀ p ∈ cs, s₁.heap.get? p.2 = some { cls := .none, data := .fields #[] }) (nT : ∀ p ∈ cs, K.lookup p.2 = none) (C : ∀ p ∈ cs, PySem.W.CodeHd s₁.heap p.1 p.2)
    (hbm : ∃ (bm : Addr) (ob : Obj), mg "__builtins__" = some (.ref bm) ∧ bm ≠ builtinsNs ∧ s₁.heap.get? bm = some ob ∧ ob.cls = .type "module" ∧ ob.dict = some builtinsNs ∧ ob.data = .plain)
    (ha : s₁.heap.get? a = some { cls := .type "list", data := .seq vs.toArray }) (hi : IntsAre vs ns) (hl : ns.length ≤ sizeLine) (hr : Room k callerA)
    (F : ∀ base : Heap, K.In base → base.Ns mainGlobals mg → (∀ p ∈ cs, GxR.TabB base mg p.1 p.2) → FnG P w K mg base k fa fd [x] sp) (hbind : ∀ (s : Shared) (u : Value), BindsTo s fd ⟨[u], []⟩ [(x, u)])
    (hsp : ∀ H : Hp, (∀ p ∈ cs, H p.2 = some (.tbl #[])) → SqL K H a (ns.map V.int) → sp [.ref a] H (fun v _ => v = .bl true) fun _ _ _ => False) :
    codeAny (model P w) callerA (.call (.ref fa) ⟨[.ref a], []⟩) (fun r s' => r = .ok (.ret (.bool true)) ∧ OldK s₁.heap s'.heap ∧ s'.os = s₁.os ∧ AllBare s'.gens) s₁ := by
  let scr : Obj := { cls := .type "list", data := .seq vs.toArray }
  let H : Hp := fun b => if K.lookup a = none ∧ b = a then some (.frz scr (.lst (ns.map V.int))) else if b ∈ cs.map (·.2) then some (.tbl #[]) else none
  have rv := vals_ints hi
  have isT : ∀ {b : Addr}, b ∈ cs.map (·.2) → s₁.heap.get? b = some { cls := .none, data := .fields #[] } ∧ K.lookup b = none := fun {b} hb => by
    obtain ⟨p, hp, e⟩ := List.mem_map.mp hb
    rw [← e]
    exact ⟨hT p hp, nT p hp⟩
  have memT : ∀ p ∈ cs, p.2 ∈ cs.map (·.2) := fun p hp => List.mem_map.mpr ⟨p, hp, rfl⟩
  have aT : ∀ {b}, b ∈ cs.map (·.2) → b ≠ a := fun {b} hb z => by
    have q := (isT hb).1
    rw [z, ha] at q
    cases q
  have hA : ∀ {b u}, H b = some u → (K.lookup a = none ∧ b = a ∧ u = .frz scr (.lst (ns.map V.int))) ∨ (b ∈ cs.map (·.2) ∧ u = .tbl #[]) := fun {b u} z => by
    by_cases c : K.lookup a = none ∧ b = a
    · have z' : some (HO.frz scr (.lst (ns.map V.int))) = some u := (if_pos c).symm.trans z
      exact .inl ⟨c.1, c.2, (Option.some.inj z').symm⟩
    · have z1 := (if_neg c).symm.trans z
      by_cases c2 : b ∈ cs.map (·.2)
      · have z' : some (HO.tbl #[]) = some u := (if_pos c2).symm.trans z1
        exact .inr ⟨c2, (Option.some.inj z').symm⟩
      · have z' : none = some u := (if_neg c2).symm.trans z1
        cases z'
  have hTb : ∀ p ∈ cs, H p.2 = some (.tbl #[]) := fun p hp => (if_neg fun z => aT (memT p hp) z.2).trans (if_pos (memT p hp))
  have nK : ∀ {b o}, K.lookup b = some o → H b = none := fun {b o} e => by
    cases z : H b with
    | none => rfl
    | some u =>
      rcases hA z with ⟨z1, z2, _⟩ | ⟨z1, _⟩
      · rw [z2, z1] at e
        cases e
      · rw [(isT z1).2] at e
        cases e
  have noD : ∀ {b : Addr} {o : Obj}, s₁.heap.get? b = some o → (∀ vs n, o.data ≠ .seq vs n) → o.data ≠ .fields #[] → H b = none := fun {b o} e h1 h2 => by
    cases z : H b with
    | none => rfl
    | some u =>
      rcases hA z with ⟨_, z2, _⟩ | ⟨z1, _⟩
      · rw [z2, ha] at e
        cases e
        exact absurd rfl (h1 _ _)
      · rw [(isT z1).1] at e
        cases e
        exact absurd rfl h2
  have nD : ∀ {b m}, s₁.heap.Ns b m → (hidT s₁.heap H).Ns b m := by
    rintro b m ⟨o, es, ep, e, d, r⟩
    refine ⟨o, es, ep, hidT_get e (noD e (fun vs n z => ?_) fun z => ?_), d, r⟩ <;> (rw [d] at z; cases z)
  have inB : K.In (hidT s₁.heap H) := fun b o e => hidT_get (inK b o e) (nK e)
  have hok : HOk P w H s₁.heap := fun b u z => by
    rcases hA z with ⟨_, rfl, rfl⟩ | ⟨z1, rfl⟩
    · exact ⟨ha, by rw [List.length_map]; exact hl, vs, _, rv, ha⟩
    · exact (isT z1).1
  have sq : SqL K H a (ns.map V.int) := by
    cases z : K.lookup a with
    | none => exact .inl (.inr ⟨scr, if_pos ⟨z, rfl⟩⟩)
    | some o =>
      have e := inK a o z
      rw [ha] at e
      cases e
      exact .inr ⟨_, vs.toArray, _, z, rfl, rfl, rfl, by rw [List.size_toArray, hi.length]; exact hl, by simpa using rv⟩
  have TB : ∀ p ∈ cs, GxR.TabB (hidT s₁.heap H) mg p.1 p.2 := fun p hp => by
    have hTp := hT p hp
    refine ⟨?_, ?_, fun z => ?_⟩
    · obtain ⟨o, us, file, tf, flags, tg, inF, text, tt, e1, r1, r2, r3, r4, r5, r6, r7, r8, hne⟩ := C p hp
      refine ⟨o, us, file, tf, flags, tg, inF, text, tt, hidT_get e1 (noD e1 (fun vs n z => ?_) fun z => ?_), r1, r2, r3, r4, r5, r6, r7, r8, hne⟩
      · rw [r2] at z
        cases z
      · rw [r2] at z
        cases z
        simp at r3
    · obtain ⟨bm, ob, b1, b2, b3, b4, b5, b6⟩ := hbm
      have nG : bm ≠ mainGlobals := fun q => by
        obtain ⟨o, es, ep, e, hd, _⟩ := hns
        rw [q, e] at b3
        cases b3
        rw [hd] at b6
        cases b6
      have nP : bm ≠ p.2 := fun q => by
        rw [q, hTp] at b3
        cases b3
        cases b6
      refine ⟨bm, ob, b1, b2, nG, nP, hidT_get b3 (noD b3 (fun vs n z => ?_) fun z => ?_), b4, b5, b6⟩ <;> (rw [b6] at z; cases z)
    · obtain ⟨o, es, ep, e, hd, _⟩ := hns
      rw [z, hTp] at e
      cases e
      cases hd
  have e0 : Env0 P w K mg (hidT s₁.heap H) callerA [] s₁ H :=
    ⟨rfl, ⟨inB, nD hns, ⟨mb, nD hb, hbb⟩, let ⟨mc, h1, h2⟩ := hlim; ⟨mc, nD h1, h2⟩⟩, fun b o e => of_hidT e, Nat.le_of_eq (hidT_size _ _), trivial, fun b z => (nomatch z), hok, .of_eq hg⟩
  refine codeAny_mono ((F _ inB (nD hns) TB).goes (us := [.ref a]) (vs := [.ref a]) rfl hr e0 (hbind s₁ (.ref a)) (.cons rfl .nil) (hsp H hTb sq)) ?_
  rintro (e | (_ | _ | _ | u)) s' z
  · exact z.elim
  · exact False.elim z
  · exact False.elim z
  · exact False.elim z
  · obtain ⟨v, H', os, bare, un, hok', r', q⟩ := z
    subst q
    obtain rfl : u = Value.bool true := r'
    have key : ∀ b o, b ∉ cs.map (·.2) → s₁.heap.get? b = some o → s'.heap.get? b = some o := fun b o nb e => by
      cases c : H b with
      | none => exact un.keep b o e c (fun z => nomatch z) (fun z => nomatch z)
      | some y =>
        rcases hA c with ⟨_, rfl, rfl⟩ | ⟨z1, _⟩
        · have e1 := (hok _ _ c).1
          have e2 := (hok' _ _ (un.frzs _ _ _ c)).1
          rw [e1] at e
          cases e
          exact e2
        · exact absurd z1 nb
    have grown : ∀ p ∈ cs, ∃ more : Array Value, s'.heap.get? p.2 = some { cls := .none, data := .fields more } := fun p hp => by
      obtain ⟨more, z⟩ := un.tbls p.2 #[] (hTb p hp)
      exact ⟨_, hok' p.2 _ z⟩
    refine ⟨rfl, ⟨fun b o e => ?_, fun b o e => ?_⟩, os, bare⟩
    · by_cases hb : b ∈ cs.map (·.2)
      · obtain ⟨p, hp, ep⟩ := List.mem_map.mp hb
        obtain ⟨more, hm⟩ := grown p hp
        rw [← ep] at e ⊢
        rw [hT p hp] at e
        cases e
        exact .inr (.inl ⟨((C p hp).tab (hT p hp)).isCodeTable, rfl, #[], more, rfl, by rw [Array.empty_append]; exact hm⟩)
      · exact .inl (key b o hb e)
    · by_cases hb : b ∈ cs.map (·.2)
      · obtain ⟨p, hp, ep⟩ := List.mem_map.mp hb
        obtain ⟨more, hm⟩ := grown p hp
        rw [← ep]
        exact ⟨_, hm⟩
      · exact ⟨o, key b o hb e⟩
end KG

set_option Elab.async false
set_option linter.all false
set_option maxRecDepth 100000
set_option maxHeartbeats 4000000
/-! ### the end of a quiet law with tables -/
namespace KG
open PySem PySem.Spec PyProof.Rows L2 KX
/-- what is known of the table of a top def -/
abbrev TabFact (mg : Str → Option Value) (h : Heap) (y : Str) : Prop := ∃ (a : Addr) (o : Obj) (fd : FuncData) (c P : Addr), mg y = some (.ref a) ∧ h.get? a = some o ∧ o.data = .func fd ∧ fd.code = .ref c ∧ PySem.W.CodeHd h c P ∧ h.get? P = some { cls := .none, data := .fields #[] }
theorem walkGT {l : PySem.W.OpenLaw} {n k : Nat} {q : Program} {loose : List Str} {XP : (Str → Option Value) → Heap → Prop} {YP : World → Heap → Prop} {d : DefRec} {K : Params → PySem.W.Frag} {x : Str}
    (hn : l.most = some n) (hn2 : n ≤ sizeLine) (hdf : d.params.defaults = []) (hr : Room k callerA) (hY : ∀ (w : World) (h : Heap), YP w h → (K w.params).In h)
    (F : ∀ (w : World) (mg : Str → Option Value) (fa : Addr) (h : Heap), (K w.params).In h → h.Ns mainGlobals mg → mg d.name = some (.ref fa) → (∀ y : Str, ((recsOf q).any fun e => e.name == y) = true → TabFact mg h y) →
      ∃ (fd : FuncData) (cs : List (Addr × Addr)) (sp : Sp), (∀ p ∈ cs, h.get? p.2 = some { cls := .none, data := .fields #[] }) ∧ (∀ p ∈ cs, (K w.params).lookup p.2 = none) ∧ (∀ p ∈ cs, PySem.W.CodeHd h p.1 p.2) ∧ (∀ (s : Shared) (u : Value), BindsTo s fd ⟨[u], []⟩ [(x, u)]) ∧
        (∀ (H : Hp) (a : Addr) (ns : List Int), ns.length ≤ n → (∀ p ∈ cs, H p.2 = some (.tbl #[])) → SqL (K w.params) H a (ns.map V.int) → sp [.ref a] H (fun v _ => v = .bl true) fun _ _ _ => False) ∧
        ∀ base : Heap, (K w.params).In base → base.Ns mainGlobals mg → (∀ p ∈ cs, GxR.TabB base mg p.1 p.2) → FnG l.prog w (K w.params) mg base k fa fd [x] sp) :
    PySem.W.WalkO q loose XP YP l.row.toRowW d [] (fun f vs => PySem.call f vs) :=
  Att.attach_call hn hdf fun w s₀ s₁ mg mb fa o pm cd doc a vs ns G Y ho hd hcd hmg hobj hints hlen hg => by
    obtain ⟨fd, cs, sp, hT, nT, C, b, hsp, f⟩ := F w mg fa _ (hY w _ Y) G.T.g hmg fun y hy => by
      obtain ⟨e, he, en⟩ := List.any_eq_true.mp hy
      have en : e.name = y := beq_iff_eq.mp en
      obtain ⟨a1, o1, fd1, c1, P1, h1, h2, h3, h4, h5, h6⟩ := G.T.tab e he
      rw [en] at h1
      exact ⟨a1, o1, fd1, c1, P1, h1, h2, h3, h4, PySem.W.CodeHd.of h5 h6, h6.2⟩
    exact lawGT (hY w _ Y) G.T.g G.T.b G.T.builtins G.T.nolimit hg hT nT C G.T.bmain hobj hints (Nat.le_trans hlen hn2) hr f b fun H h1 h2 => hsp H a ns hlen h1 h2
/-- a def whose table is known -/
theorem tab_def {K : PySem.W.Frag} {h : Heap} {mg : Str → Option Value} {y : Str} {f : Addr} {oc : Value} {od : Option Addr} {fd : FuncData} {sl : Array (Option Value)} (X : K.In h) (m : mg y = some (.ref f)) (l : K.lookup f = some ⟨oc, od, .func fd, sl⟩) (nt : PySem.W.noTabs K = true) (t : TabFact mg h y) :
    ∃ c P, fd.code = .ref c ∧ PySem.W.CodeHd h c P ∧ h.get? P = some { cls := .none, data := .fields #[] } ∧ K.lookup P = none := by
  obtain ⟨a, o, fd', c, P, h1, h2, h3, h4, h5, h6⟩ := t
  rw [m] at h1
  cases h1
  have e := X _ _ l
  rw [e] at h2
  cases h2
  cases h3
  refine ⟨c, P, h4, h5, h6, ?_⟩
  cases z : K.lookup P with
  | none => rfl
  | some u =>
    have e := X _ _ z
    rw [h6] at e
    cases e
    have := List.all_eq_true.mp nt _ (PySem.W.mem_of_lookupK z)
    cases this
end KG

set_option Elab.async false
set_option linter.all false
set_option maxRecDepth 100000
set_option maxHeartbeats 1000000
/-! ### words, rows, texts: what they tell -/
namespace PT
open PySem SX
abbrev Cs := List Nat
def dig (c : Nat) : Bool := decide (48 ≤ c) && decide (c ≤ 57)
/-- a whole number without noughts ahead -/
def isNum (w : Cs) : Bool := !w.isEmpty && (w.all dig && (decide (w = [48]) || !decide (w.head? = some 48)))
def valN (w : Cs) : Int := ((NumText.digitsVal w : Nat) : Int)
def numW (w : Cs) : Option Int := if isNum w = true then some (valN w) else none
def cut1 (c : Nat) : Cs → Cs × Option Cs
  | [] => ([], none)
  | x :: r => if x = c then ([], some r) else (x :: (cut1 c r).1, (cut1 c r).2)
def splitC (c : Nat) : Cs → List Cs
  | [] => [[]]
  | x :: r => if x = c then [] :: splitC c r else match splitC c r with
    | [] => [[x]]
    | p :: ps => (x :: p) :: ps
theorem splitC_ne (c : Nat) : ∀ w, splitC c w ≠ []
  | [] => by simp [splitC]
  | x :: r => by
    unfold splitC
    split
    · simp
    · split <;> simp
theorem pre1 {c x : Nat} {r : Cs} : TL.pre [c] (x :: r) = decide (x = c) := by
  unfold TL.pre
  show ([x] == [c]) = _
  rw [Bool.eq_iff_iff, beq_iff_eq, decide_eq_true_iff]
  constructor
  · intro h
    exact (List.cons.inj h).1
  · rintro rfl
    rfl
theorem spl_acc (c : Nat) : ∀ (w acc : Cs), TL.spl [c] 0 acc w = match splitC c w with
    | [] => [acc]
    | p :: ps => (acc ++ p) :: ps
  | [], acc => by
    show [acc] = [acc ++ []]
    rw [List.append_nil]
  | x :: r, acc => by
    unfold splitC
    by_cases h : x = c
    · rw [TL.spl_hit (by rw [pre1]; exact decide_eq_true h), if_pos h]
      have e := spl_acc c r []
      show acc :: TL.spl [c] 0 [] r = (acc ++ []) :: splitC c r
      rw [e, List.append_nil]
      cases q : splitC c r with
      | nil => exact absurd q (splitC_ne c r)
      | cons p ps => rfl
    · rw [TL.spl_miss (by rw [pre1]; exact decide_eq_false h), if_neg h, spl_acc c r]
      cases q : splitC c r with
      | nil => exact absurd q (splitC_ne c r)
      | cons p ps =>
        show (acc ++ [x] ++ p) :: ps = (acc ++ x :: p) :: ps
        rw [List.append_assoc]
        rfl
theorem spl_eq (c : Nat) (w : Cs) : TL.spl [c] 0 [] w = splitC c w := by
  rw [spl_acc]
  cases q : splitC c w with
  | nil => exact absurd q (splitC_ne c w)
  | cons p ps => rfl
theorem split_eq {c : Nat} (hc : c < 256) (w : Cs) : Txt.split (S w) (S [c]) = (splitC c w).map S := by
  rw [split_S (by simp) (by simp [hc]), spl_eq]
theorem par_acc (c : Nat) : ∀ (w acc : Cs), TL.par [c] acc w = (cut1 c w).2.map fun t => (acc ++ (cut1 c w).1, t)
  | [], acc => rfl
  | x :: r, acc => by
    unfold cut1
    show (if TL.pre [c] (x :: r) = true then some (acc, (x :: r).drop 1) else TL.par [c] (acc ++ [x]) r) = _
    by_cases h : x = c
    · rw [if_pos (by rw [pre1]; exact decide_eq_true h), if_pos h]
      show some (acc, r) = some (acc ++ [], r)
      rw [List.append_nil]
    · rw [if_neg (by rw [pre1]; simpa using h), if_neg h, par_acc c r]
      show ((cut1 c r).2.map fun t => (acc ++ [x] ++ (cut1 c r).1, t)) = (cut1 c r).2.map fun t => (acc ++ (x :: (cut1 c r).1), t)
      rw [List.append_assoc]
      rfl
theorem cut1_none (c : Nat) : ∀ {w : Cs}, (cut1 c w).2 = none → (cut1 c w).1 = w
  | [], _ => rfl
  | x :: r, h => by
    unfold cut1 at h ⊢
    by_cases e : x = c
    · rw [if_pos e] at h
      cases h
    · rw [if_neg e] at h ⊢
      show x :: (cut1 c r).1 = x :: r
      rw [cut1_none c h]
theorem partition_eq (c : Nat) (w : Cs) : Txt.partition (S w) (S [c]) = match (cut1 c w).2 with
    | some t => (S (cut1 c w).1, S [c], S t)
    | none => (S w, S [], S []) := by
  have e := par_acc c w []
  cases q : (cut1 c w).2 with
  | none =>
    rw [q] at e
    exact partition_none (by simp) e
  | some t =>
    rw [q] at e
    exact partition_some (by simp) e
theorem splitC_hit {c x : Nat} {r : Cs} (h : x = c) : splitC c (x :: r) = [] :: splitC c r := if_pos h
theorem splitC_miss {c x : Nat} {r : Cs} (h : x ≠ c) : splitC c (x :: r) = match splitC c r with
    | [] => [[x]]
    | p :: ps => (x :: p) :: ps := if_neg h
theorem cut1_hit {c x : Nat} {r : Cs} (h : x = c) : cut1 c (x :: r) = ([], some r) := if_pos h
theorem cut1_cons {c x : Nat} {r : Cs} (h : x ≠ c) : cut1 c (x :: r) = (x :: (cut1 c r).1, (cut1 c r).2) := if_neg h
theorem splitC_cut (c : Nat) : ∀ w : Cs, splitC c w = match (cut1 c w).2 with
    | none => [(cut1 c w).1]
    | some t => (cut1 c w).1 :: splitC c t
  | [] => rfl
  | x :: r => by
    have ih := splitC_cut c r
    by_cases e : x = c
    · rw [splitC_hit e, cut1_hit e]
    · rw [splitC_miss e, cut1_cons e, ih]
      cases q : (cut1 c r).2 with
      | none => rfl
      | some t => rfl
theorem splitC_free (c : Nat) : ∀ {w : Cs}, c ∉ w → splitC c w = [w]
  | [], _ => rfl
  | x :: r, h => by
    unfold splitC
    rw [if_neg (fun e => h (by rw [e]; exact List.mem_cons_self)), splitC_free c fun e => h (List.mem_cons_of_mem _ e)]
theorem splitC_long (c : Nat) : ∀ {w : Cs}, c ∈ w → 2 ≤ (splitC c w).length
  | x :: r, h => by
    unfold splitC
    by_cases e : x = c
    · rw [if_pos e, List.length_cons]
      have := List.length_pos_iff.mpr (splitC_ne c r)
      omega
    · rw [if_neg e]
      have ih := splitC_long c ((List.mem_cons.mp h).resolve_left fun z => e z.symm)
      cases q : splitC c r with
      | nil => rw [q] at ih; simp at ih
      | cons p ps =>
        rw [q] at ih
        simpa using ih
/-! ### numbers -/
theorem isNum_dig {w : Cs} (h : isNum w = true) : ∀ c ∈ w, 48 ≤ c ∧ c ≤ 57 := fun c hc => by
  unfold isNum at h
  rw [Bool.and_eq_true, Bool.and_eq_true] at h
  have := List.all_eq_true.mp h.2.1 c hc
  simpa [dig] using this
theorem isNum_ne {w : Cs} (h : isNum w = true) : w ≠ [] := fun z => by
  rw [z] at h
  cases h
theorem isNum_free {w : Cs} (h : isNum w = true) {c : Nat} (hc : c < 48 ∨ 57 < c) : c ∉ w := fun z => by
  have := isNum_dig h c z
  omega
theorem int_ok {w : Cs} (h : isNum w = true) (hl : w.length ≤ 4300) : intText? (S w) = some (valN w) := by
  exact int_S (List.all_eq_true.mpr fun c hc => by
    have := isNum_dig h c hc
    simpa using this) (isNum_ne h) hl
theorem val_nonneg (w : Cs) : 0 ≤ valN w := Int.natCast_nonneg _
theorem val_zero {w : Cs} (h : isNum w = true) : valN w = 0 ↔ w = [48] := by
  constructor
  · intro z
    have hd := isNum_dig h
    unfold isNum at h
    rw [Bool.and_eq_true, Bool.and_eq_true, Bool.or_eq_true] at h
    rcases h.2.2 with q | q
    · exact of_decide_eq_true q
    · cases w with
      | nil => cases h.1
      | cons c cs =>
        have hc := hd c List.mem_cons_self
        have n48 : c ≠ 48 := fun e => by rw [e] at q; simp at q
        have := NumText.digitsVal_pos (cs := cs) (show 49 ≤ c by omega)
        unfold valN at z
        omega
  · rintro rfl
    rfl
/-! ### shares -/
def signW (h : Cs) : Option Int := if h.take 1 = [45] then (match numW (h.drop 1) with | some n => if n = 0 then none else some (-n) | none => none) else numW h
def lowW : Option Cs → Option Int
  | none => some 1
  | some t => numW t
def fracW (w : Cs) : Option PyData := match signW (cut1 47 w).1, lowW (cut1 47 w).2 with
  | some a, some b => some (.tuple [.int a, .int b])
  | _, _ => none
def shareW (w : Cs) : Option PyData := if w.take 1 = [120] then (numW (w.drop 1)).map fun n => .tuple [.str "x", .int n] else fracW w
/-- the law's own way -/
def lawFrac (w : Cs) : Option PyData :=
  let neg := decide (w.take 1 = [45])
  let bare := if neg = true then w.drop 1 else w
  let parts := splitC 47 bare
  if (decide (2 < parts.length) || (!parts.all isNum || (neg && decide (parts.headD [] = [48])))) = true then none
  else some (.tuple [.int (if bare = w then valN (parts.headD []) else 0 - valN (parts.headD [])), .int (if parts.length = 2 then valN (parts.getD 1 []) else 1)])
theorem cut1_head {c : Nat} : ∀ {w : Cs} {x : Nat}, (cut1 c w).1.head? = some x → w.head? = some x
  | [], _, h => by cases h
  | y :: r, x, h => by
    unfold cut1 at h
    by_cases e : y = c
    · rw [if_pos e] at h
      cases h
    · rw [if_neg e] at h
      exact h
theorem take1 {w : Cs} {x : Nat} : w.take 1 = [x] ↔ w.head? = some x := by
  cases w with
  | nil => simp
  | cons y r => simp
/-- the parts of what is cut at / -/
theorem parts_num (bare : Cs) : (decide (2 < (splitC 47 bare).length) || !(splitC 47 bare).all isNum) = !((numW (cut1 47 bare).1).isSome && (lowW (cut1 47 bare).2).isSome) := by
  have sm : ∀ w, (numW w).isSome = isNum w := fun w => by
    unfold numW
    cases isNum w <;> rfl
  rw [splitC_cut]
  cases q : (cut1 47 bare).2 with
  | none =>
    show (false || !(isNum (cut1 47 bare).1 && true)) = !((numW (cut1 47 bare).1).isSome && true)
    rw [sm, Bool.false_or]
  | some t =>
    show (decide (2 < (splitC 47 t).length + 1) || !(isNum (cut1 47 bare).1 && (splitC 47 t).all isNum)) = !((numW (cut1 47 bare).1).isSome && (numW t).isSome)
    rw [sm, sm]
    by_cases h : 47 ∈ t
    · have l := splitC_long 47 h
      rw [decide_eq_true (show 2 < (splitC 47 t).length + 1 by omega)]
      have : isNum t = false := by
        cases z : isNum t with
        | false => rfl
        | true => exact absurd h (isNum_free z (by omega))
      rw [this, Bool.and_false]
      rfl
    · rw [splitC_free 47 h]
      show (false || !(isNum (cut1 47 bare).1 && (isNum t && true))) = _
      rw [Bool.false_or, Bool.and_true]
theorem parts_at (bare : Cs) : (splitC 47 bare).headD [] = (cut1 47 bare).1 ∧ (47 ∉ (match (cut1 47 bare).2 with | some t => t | none => []) → (splitC 47 bare).length = (match (cut1 47 bare).2 with | some _ => 2 | none => 1) ∧ (splitC 47 bare).getD 1 [] = (match (cut1 47 bare).2 with | some t => t | none => [])) := by
  rw [splitC_cut]
  cases q : (cut1 47 bare).2 with
  | none => exact ⟨rfl, fun _ => ⟨rfl, rfl⟩⟩
  | some t =>
    refine ⟨rfl, fun h => ?_⟩
    have h : 47 ∉ t := h
    show ((cut1 47 bare).1 :: splitC 47 t).length = 2 ∧ ((cut1 47 bare).1 :: splitC 47 t).getD 1 [] = t
    rw [splitC_free 47 h]
    exact ⟨rfl, rfl⟩
theorem lawFrac_eq (w : Cs) : lawFrac w = fracW w := by
  have key : ∀ (neg : Bool) (bare : Cs), (signW (cut1 47 w).1 = if neg = true then (match numW (cut1 47 bare).1 with | some n => if n = 0 then none else some (-n) | none => none) else numW (cut1 47 bare).1) → (cut1 47 w).2 = (cut1 47 bare).2 → ((bare = w) ↔ neg = false) →
      (if (decide (2 < (splitC 47 bare).length) || (!(splitC 47 bare).all isNum || (neg && decide ((splitC 47 bare).headD [] = [48])))) = true then none
        else some (PyData.tuple [.int (if bare = w then valN ((splitC 47 bare).headD []) else 0 - valN ((splitC 47 bare).headD [])), .int (if (splitC 47 bare).length = 2 then valN ((splitC 47 bare).getD 1 []) else 1)])) = fracW w := fun neg bare e1 e2 e3 => by
    obtain ⟨p0, p1⟩ := parts_at bare
    have pn := parts_num bare
    rw [← Bool.or_assoc, pn, p0]
    unfold fracW
    rw [e1, e2]
    generalize (cut1 47 bare).1 = h0 at *
    cases hn : isNum h0 with
    | false =>
      have z : numW h0 = none := by unfold numW; rw [hn]; rfl
      rw [z]
      cases neg <;> rfl
    | true =>
      have z : numW h0 = some (valN h0) := by unfold numW; rw [hn]; rfl
      rw [z]
      cases q : lowW (cut1 47 bare).2 with
      | none =>
        rw [if_pos (by simp)]
        split
        · rename_i a b _ c
          cases c
        · rfl
      | some b =>
        have fr : 47 ∉ (match (cut1 47 bare).2 with | some t => t | none => []) := by
          cases q2 : (cut1 47 bare).2 with
          | none => simp
          | some t =>
            rw [q2] at q
            have q : numW t = some b := q
            unfold numW at q
            cases hz : isNum t with
            | false => rw [hz] at q; cases q
            | true => exact isNum_free hz (by omega)
        obtain ⟨p2, p3⟩ := p1 fr
        have eb : (if (splitC 47 bare).length = 2 then valN ((splitC 47 bare).getD 1 []) else 1) = b := by
          rw [p2, p3]
          cases q2 : (cut1 47 bare).2 with
          | none =>
            rw [q2] at q
            cases q
            rfl
          | some t =>
            rw [q2] at q
            have q : numW t = some b := q
            unfold numW at q
            cases hz : isNum t with
            | false => rw [hz] at q; cases q
            | true =>
              rw [hz] at q
              exact Option.some.inj q
        rw [eb]
        cases neg with
        | false =>
          rw [if_neg (by simp), if_pos (e3.mpr rfl)]
          rfl
        | true =>
          have nb : ¬ bare = w := fun z => by have := e3.mp z; cases this
          rw [if_neg nb]
          by_cases z0 : h0 = [48]
          · rw [if_pos (by rw [decide_eq_true z0]; simp)]
            have : valN h0 = 0 := (val_zero hn).mpr z0
            simp [this]
          · rw [if_neg (by rw [decide_eq_false z0]; simp)]
            have : valN h0 ≠ 0 := fun y => z0 ((val_zero hn).mp y)
            simp [this]
  unfold lawFrac
  by_cases h : w.take 1 = [45]
  · have hw : w = 45 :: w.drop 1 := by
      cases w with
      | nil => cases h
      | cons x r =>
        have : x = 45 := by simpa using h
        rw [this]
        rfl
    have ec : cut1 47 w = (45 :: (cut1 47 (w.drop 1)).1, (cut1 47 (w.drop 1)).2) := by
      conv => lhs; rw [hw]
      exact cut1_cons (by decide)
    have hd : decide (w.take 1 = [45]) = true := decide_eq_true h
    rw [hd]
    refine key true (w.drop 1) ?_ (by rw [ec]) ⟨fun z => ?_, fun z => by cases z⟩
    · rw [ec]
      rfl
    · have := congrArg List.length z
      rw [hw] at this
      simp at this
  · have hd : decide (w.take 1 = [45]) = false := decide_eq_false h
    rw [hd]
    refine key false w ?_ rfl ⟨fun _ => rfl, fun _ => rfl⟩
    unfold signW
    rw [if_neg (fun z => h (take1.mpr (cut1_head (take1.mp z))))]
    rfl
end PT

set_option Elab.async false
set_option linter.all false
set_option maxRecDepth 100000
set_option maxHeartbeats 1000000
/-! ### rows of words, and what they are read as: two ways -/
namespace PT
open PySem SX
def cTanks : Cs := [116, 97, 110, 107, 115]
def cUnk : Cs := [117, 110, 107, 110, 111, 119, 110, 115]
def cFilled : Cs := [102, 105, 108, 108, 101, 100]
def cSeen : Cs := [115, 101, 101, 110]
def cPipe : Cs := [112, 105, 112, 101]
def cOut : Cs := [111, 117, 116]
def oD : Option Int → PyData
  | none => .none
  | some n => .int n
def pipeAt (a b c : Cs) : Option PyData := match numW a, shareW c with
  | some s, some d => if ((numW b).isNone && !decide (b = cOut)) = true then none else some (.tuple [.int s, oD (numW b), d])
  | _, _ => none
/-- what a row of a pipe's words tells -/
def pipeW (ws : List Cs) : Option PyData := match ws with
  | [_, a, b, c] => pipeAt a b c
  | _ => none
def numsW (ws : List Cs) : Option (List Int) := if ws.all isNum = true then some (ws.map valN) else none
def oneN (t : List Cs) : Option Int := match t with
  | [w] => numW w
  | _ => none
/-- the law's sort of a row -/
def sortR (ws : List Cs) : Option (Cs × PyData) := match ws with
  | [] => none
  | h :: t => if (h = cTanks ∨ h = cUnk) then (oneN t).map fun n => (h, .int n)
    else if (h = cFilled ∨ h = cSeen) then (numsW t).map fun ns => (h, .tuple (ns.map .int))
    else if h = cPipe then (pipeW (h :: t)).map fun d => (h, d)
    else none
inductive Rd where
  | row (i : Nat)
  | form (m u : PyData) (ps : List PyData) (f s : PyData)
def wishAt : Nat → Cs
  | 0 => cTanks
  | 1 => cUnk
  | 2 => cFilled
  | _ => cSeen
/-- the law's walk -/
def walkL : List (List Cs) → Nat → Nat → List PyData → List PyData → Rd
  | [], i, k, found, pipes => if k < 4 then .row i else .form (found.getD 0 .none) (found.getD 1 .none) pipes (found.getD 2 .none) (found.getD 3 .none)
  | r :: rs, i, k, found, pipes => match sortR r with
    | none => .row i
    | some (h, d) => if k = 2 ∧ h = cPipe then walkL rs (i + 1) k found (pipes ++ [d]) else if k < 4 ∧ h = wishAt k then walkL rs (i + 1) (k + 1) (found ++ [d]) pipes else .row i
def lawR (rows : List (List Cs)) : Rd := walkL rows 0 0 [] []
/-- the program's way -/
def numsAt (rows : List (List Cs)) (i : Nat) (name : Cs) : Option (List Int) := match rows[i]? with
  | none => none
  | some r => if r.take 1 = [name] then numsW (r.drop 1) else none
def countAt (rows : List (List Cs)) (i : Nat) (name : Cs) : Option Int := match numsAt rows i name with
  | some [n] => some n
  | _ => none
def pipesFrom : List (List Cs) → Nat ⊕ List PyData
  | [] => .inr []
  | r :: rs => if r.take 1 = [cPipe] then (match pipeW r with
      | none => .inl 0
      | some d => match pipesFrom rs with
        | .inl k => .inl (k + 1)
        | .inr ps => .inr (d :: ps)) else .inr []
def tailR (rows : List (List Cs)) (m u : Int) (ps : List PyData) : Rd := match numsAt rows (2 + ps.length) cFilled with
  | none => .row (2 + ps.length)
  | some f => match numsAt rows (2 + ps.length + 1) cSeen with
    | none => .row (2 + ps.length + 1)
    | some s => if 2 + ps.length + 2 < rows.length then .row (2 + ps.length + 2) else .form (.int m) (.int u) ps (.tuple (f.map .int)) (.tuple (s.map .int))
def progR (rows : List (List Cs)) : Rd := match countAt rows 0 cTanks with
  | none => .row 0
  | some m => match countAt rows 1 cUnk with
    | none => .row 1
    | some u => match pipesFrom (rows.drop 2) with
      | .inl k => .row (2 + k)
      | .inr ps => tailR rows m u ps
theorem take_one {r : List Cs} {n : Cs} : r.take 1 = [n] ↔ r.head? = some n := by
  cases r with
  | nil => simp
  | cons y r => simp
def cnt (r : List Cs) (h : Cs) : Option Int := if r.take 1 = [h] then (match numsW (r.drop 1) with | some [n] => some n | _ => none) else none
def nms (r : List Cs) (h : Cs) : Option (List Int) := if r.take 1 = [h] then numsW (r.drop 1) else none
theorem numsW_one (w : Cs) : numsW [w] = (numW w).map fun n => [n] := by
  unfold numsW numW
  rw [List.all_cons, List.all_nil, Bool.and_true]
  cases isNum w <;> rfl
theorem numsW_len {ws : List Cs} {ns : List Int} (h : numsW ws = some ns) : ns.length = ws.length := by
  unfold numsW at h
  split at h
  · cases h
    rw [List.length_map]
  · cases h
theorem sort_fst {r : List Cs} {y : Cs × PyData} (hy : sortR r = some y) : r.head? = some y.1 := by
  cases r with
  | nil => cases hy
  | cons a t =>
    have key : ∀ {α : Type} {o : Option α} {f : α → PyData}, (o.map fun n => (a, f n)) = some y → (a :: t).head? = some y.1 := fun {α o f} h => by
      cases o with
      | none => cases h
      | some n => cases h; rfl
    unfold sortR at hy
    dsimp only at hy
    split at hy
    · exact key hy
    · split at hy
      · exact key (f := fun ns : List Int => .tuple (ns.map .int)) hy
      · split at hy
        · exact key (f := fun d : PyData => d) hy
        · cases hy
theorem one_nums (t : List Cs) : (match numsW t with | some [n] => some n | _ => none) = oneN t := by
  match t with
  | [] => rfl
  | [w] =>
    rw [numsW_one]
    show _ = numW w
    cases q : numW w with
    | none => rfl
    | some n => rfl
  | w :: w2 :: t =>
    show _ = none
    cases q : numsW (w :: w2 :: t) with
    | none => rfl
    | some ns =>
      have l := numsW_len q
      match ns, l with
      | _ :: _ :: _, _ => rfl
theorem sort_cnt {r : List Cs} {h : Cs} (hh : h = cTanks ∨ h = cUnk) : (∃ n, cnt r h = some n ∧ sortR r = some (h, .int n)) ∨ (cnt r h = none ∧ ∀ d, sortR r ≠ some (h, d)) := by
  cases r with
  | nil => exact .inr ⟨rfl, fun d z => by cases z⟩
  | cons a t =>
    by_cases e : a = h
    · subst e
      have e1 : cnt (a :: t) a = oneN t := by
        unfold cnt
        rw [if_pos (show (a :: t).take 1 = [a] from rfl)]
        exact one_nums t
      have e2 : sortR (a :: t) = (oneN t).map fun n => (a, .int n) := by
        unfold sortR
        dsimp only
        rw [if_pos hh]
      rw [e1, e2]
      cases q : oneN t with
      | none => exact .inr ⟨rfl, fun d z => by cases z⟩
      | some n => exact .inl ⟨n, rfl, rfl⟩
    · refine .inr ⟨if_neg (fun z => e (by simpa using z)), fun d z => ?_⟩
      have := sort_fst z
      exact e (Option.some.inj this)
theorem sort_nms {r : List Cs} {h : Cs} (hh : h = cFilled ∨ h = cSeen) : (∃ ns, nms r h = some ns ∧ sortR r = some (h, .tuple (ns.map .int))) ∨ (nms r h = none ∧ ∀ d, sortR r ≠ some (h, d)) := by
  cases r with
  | nil => exact .inr ⟨rfl, fun d z => by cases z⟩
  | cons a t =>
    by_cases e : a = h
    · subst e
      have n1 : ¬ (a = cTanks ∨ a = cUnk) := by rcases hh with rfl | rfl <;> decide
      have e1 : nms (a :: t) a = numsW t := if_pos rfl
      have e2 : sortR (a :: t) = (numsW t).map fun ns => (a, .tuple (ns.map .int)) := by
        unfold sortR
        dsimp only
        rw [if_neg n1, if_pos hh]
      rw [e1, e2]
      cases q : numsW t with
      | none => exact .inr ⟨rfl, fun d z => by cases z⟩
      | some n => exact .inl ⟨n, rfl, rfl⟩
    · refine .inr ⟨if_neg (fun z => e (by simpa using z)), fun d z => ?_⟩
      have := sort_fst z
      exact e (Option.some.inj this)
theorem sort_pipe {r : List Cs} (h : r.take 1 = [cPipe]) : sortR r = (pipeW r).map fun d => (cPipe, d) := by
  cases r with
  | nil => cases h
  | cons a t =>
    have e : a = cPipe := by simpa using h
    subst e
    unfold sortR
    dsimp only
    rw [if_neg (by decide), if_neg (by decide), if_pos rfl]
theorem sort_nopipe {r : List Cs} (h : ¬ r.take 1 = [cPipe]) (d : PyData) : sortR r ≠ some (cPipe, d) := fun z => h (take_one.mpr (sort_fst z))
/-- one step of the walk, where a name is wished for -/
theorem walk_hit {r : List Cs} {rs : List (List Cs)} {i k : Nat} {found pipes : List PyData} {d : PyData} (hk : k < 4) (h : sortR r = some (wishAt k, d)) : walkL (r :: rs) i k found pipes = walkL rs (i + 1) (k + 1) (found ++ [d]) pipes := by
  have n : ¬ (k = 2 ∧ wishAt k = cPipe) := fun z => by
    rw [z.1] at z
    exact absurd z.2 (by decide)
  show (match sortR r with | none => Rd.row i | some (h, d) => if k = 2 ∧ h = cPipe then walkL rs (i + 1) k found (pipes ++ [d]) else if k < 4 ∧ h = wishAt k then walkL rs (i + 1) (k + 1) (found ++ [d]) pipes else .row i) = _
  rw [h]
  show (if k = 2 ∧ wishAt k = cPipe then _ else if k < 4 ∧ wishAt k = wishAt k then _ else _) = _
  rw [if_neg n, if_pos ⟨hk, rfl⟩]
theorem walk_miss {r : List Cs} {rs : List (List Cs)} {i k : Nat} {found pipes : List PyData} (h : ∀ d, sortR r ≠ some (wishAt k, d)) (h2 : k = 2 → ∀ d, sortR r ≠ some (cPipe, d)) : walkL (r :: rs) i k found pipes = .row i := by
  show (match sortR r with | none => Rd.row i | some (h, d) => if k = 2 ∧ h = cPipe then walkL rs (i + 1) k found (pipes ++ [d]) else if k < 4 ∧ h = wishAt k then walkL rs (i + 1) (k + 1) (found ++ [d]) pipes else .row i) = _
  cases q : sortR r with
  | none => rfl
  | some y =>
    obtain ⟨a, d⟩ := y
    show (if k = 2 ∧ a = cPipe then _ else if k < 4 ∧ a = wishAt k then _ else _) = _
    rw [if_neg (fun z => h2 z.1 d (by rw [q, z.2])), if_neg (fun z => h d (by rw [q, z.2]))]
def fin3 (m u : PyData) (ps : List PyData) (f s : List Int) : List (List Cs) → Nat → Rd
  | [], _ => .form m u ps (.tuple (f.map .int)) (.tuple (s.map .int))
  | _ :: _, i => .row (i + 2)
def fin2 (m u : PyData) (ps : List PyData) (f : List Int) : List (List Cs) → Nat → Rd
  | [], i => .row (i + 1)
  | r :: rs, i => match nms r cSeen with
    | none => .row (i + 1)
    | some s => fin3 m u ps f s rs i
def fin (m u : PyData) (ps : List PyData) : List (List Cs) → Nat → Rd
  | [], i => .row i
  | r :: rs, i => match nms r cFilled with
    | none => .row i
    | some f => fin2 m u ps f rs i
theorem fin_none {m u : PyData} {ps : List PyData} {r : List Cs} {rs : List (List Cs)} {i : Nat} (h : nms r cFilled = none) : fin m u ps (r :: rs) i = .row i := by
  show (match nms r cFilled with | none => Rd.row i | some f => fin2 m u ps f rs i) = _
  rw [h]
theorem fin_some {m u : PyData} {ps : List PyData} {r : List Cs} {rs : List (List Cs)} {i : Nat} {f : List Int} (h : nms r cFilled = some f) : fin m u ps (r :: rs) i = fin2 m u ps f rs i := by
  show (match nms r cFilled with | none => Rd.row i | some f => fin2 m u ps f rs i) = _
  rw [h]
theorem fin2_none {m u : PyData} {ps : List PyData} {r : List Cs} {rs : List (List Cs)} {i : Nat} {f : List Int} (h : nms r cSeen = none) : fin2 m u ps f (r :: rs) i = .row (i + 1) := by
  show (match nms r cSeen with | none => Rd.row (i + 1) | some s => fin3 m u ps f s rs i) = _
  rw [h]
theorem fin2_some {m u : PyData} {ps : List PyData} {r : List Cs} {rs : List (List Cs)} {i : Nat} {f s : List Int} (h : nms r cSeen = some s) : fin2 m u ps f (r :: rs) i = fin3 m u ps f s rs i := by
  show (match nms r cSeen with | none => Rd.row (i + 1) | some s => fin3 m u ps f s rs i) = _
  rw [h]
theorem walk_fin (m u : PyData) (ps : List PyData) : ∀ (rs : List (List Cs)) (i : Nat), (∀ r ∈ rs.head?, ¬ r.take 1 = [cPipe]) → walkL rs i 2 [m, u] ps = fin m u ps rs i
  | [], i, _ => rfl
  | r :: rs, i, hp => by
    have np := hp r rfl
    rcases sort_nms (r := r) (h := cFilled) (.inl rfl) with ⟨f, e1, e2⟩ | ⟨e1, e2⟩
    · rw [walk_hit (k := 2) (by decide) e2, fin_some e1]
      cases rs with
      | nil => rfl
      | cons r2 rs2 =>
        rcases sort_nms (r := r2) (h := cSeen) (.inr rfl) with ⟨s, e3, e4⟩ | ⟨e3, e4⟩
        · rw [walk_hit (k := 3) (by decide) e4, fin2_some e3]
          cases rs2 with
          | nil => rfl
          | cons r3 rs3 =>
            show (match sortR r3 with | none => Rd.row (i + 2) | some (h, d) => if (4 : Nat) = 2 ∧ h = cPipe then _ else if (4 : Nat) < 4 ∧ h = wishAt 4 then _ else .row (i + 2)) = Rd.row (i + 2)
            cases q : sortR r3 with
            | none => rfl
            | some y =>
              obtain ⟨a, d⟩ := y
              show (if (4 : Nat) = 2 ∧ a = cPipe then _ else if (4 : Nat) < 4 ∧ a = wishAt 4 then _ else Rd.row (i + 2)) = _
              rw [if_neg (fun z => absurd z.1 (by decide)), if_neg (fun z => absurd z.1 (by decide))]
        · rw [walk_miss (k := 3) e4 (fun z => absurd z (by decide)), fin2_none e3]
    · rw [walk_miss (k := 2) e2 (fun _ => sort_nopipe np), fin_none e1]
theorem walk_pipes (m u : PyData) : ∀ (rs : List (List Cs)) (i : Nat) (acc : List PyData), walkL rs i 2 [m, u] acc = match pipesFrom rs with
    | .inl k => .row (i + k)
    | .inr ps => fin m u (acc ++ ps) (rs.drop ps.length) (i + ps.length)
  | [], i, acc => by
    show _ = fin m u (acc ++ []) [] i
    rfl
  | r :: rs, i, acc => by
    unfold pipesFrom
    by_cases h : r.take 1 = [cPipe]
    · rw [if_pos h]
      have e := sort_pipe h
      cases q : pipeW r with
      | none =>
        rw [q] at e
        show (match sortR r with | none => Rd.row i | some (h, d) => if (2 : Nat) = 2 ∧ h = cPipe then walkL rs (i + 1) 2 [m, u] (acc ++ [d]) else if (2 : Nat) < 4 ∧ h = wishAt 2 then _ else .row i) = _
        rw [e]
        rfl
      | some d =>
        rw [q] at e
        show (match sortR r with | none => Rd.row i | some (h, d) => if (2 : Nat) = 2 ∧ h = cPipe then walkL rs (i + 1) 2 [m, u] (acc ++ [d]) else if (2 : Nat) < 4 ∧ h = wishAt 2 then _ else .row i) = _
        rw [e]
        show (if (2 : Nat) = 2 ∧ cPipe = cPipe then walkL rs (i + 1) 2 [m, u] (acc ++ [d]) else _) = _
        rw [if_pos ⟨rfl, rfl⟩, walk_pipes m u rs (i + 1) (acc ++ [d])]
        cases q2 : pipesFrom rs with
        | inl k =>
          show Rd.row (i + 1 + k) = Rd.row (i + (k + 1))
          congr 1
          omega
        | inr ps =>
          show fin m u (acc ++ [d] ++ ps) (rs.drop ps.length) (i + 1 + ps.length) = fin m u (acc ++ d :: ps) ((r :: rs).drop (ps.length + 1)) (i + (ps.length + 1))
          rw [List.append_assoc, show i + 1 + ps.length = i + (ps.length + 1) by omega]
          rfl
    · rw [if_neg h]
      show _ = fin m u (acc ++ []) ((r :: rs).drop 0) (i + 0)
      rw [List.append_nil]
      exact walk_fin m u acc (r :: rs) i fun x hx => by
        cases hx
        exact h
theorem numsAt_eq (rows : List (List Cs)) (i : Nat) (h : Cs) : numsAt rows i h = match rows[i]? with | none => none | some r => nms r h := rfl
theorem tail_fin {a b : List Cs} {rs : List (List Cs)} {m u : Int} {ps : List PyData} : tailR (a :: b :: rs) m u ps = fin (.int m) (.int u) ps (rs.drop ps.length) (2 + ps.length) := by
  have g : ∀ j, (a :: b :: rs)[2 + ps.length + j]? = (rs.drop ps.length)[j]? := fun j => by
    rw [List.getElem?_drop, show 2 + ps.length + j = (ps.length + j) + 1 + 1 by omega, List.getElem?_cons_succ, List.getElem?_cons_succ]
  have l : (2 + ps.length + 2 < (a :: b :: rs).length) ↔ 2 < (rs.drop ps.length).length := by
    rw [List.length_drop, List.length_cons, List.length_cons]
    omega
  unfold tailR
  rw [numsAt_eq, numsAt_eq, g 1]
  have g0 := g 0
  rw [Nat.add_zero] at g0
  rw [g0]
  generalize rs.drop ps.length = ds at l
  cases ds with
  | nil => rfl
  | cons r ds =>
    show (match nms r cFilled with | none => Rd.row (2 + ps.length) | some f => match (match (r :: ds)[1]? with | none => none | some r => nms r cSeen) with
      | none => Rd.row (2 + ps.length + 1)
      | some s => if 2 + ps.length + 2 < (a :: b :: rs).length then Rd.row (2 + ps.length + 2) else .form (.int m) (.int u) ps (.tuple (f.map .int)) (.tuple (s.map .int))) = _
    cases q : nms r cFilled with
    | none => rw [fin_none q]
    | some f =>
      rw [fin_some q]
      cases ds with
      | nil => rfl
      | cons r2 ds =>
        show (match nms r2 cSeen with
          | none => Rd.row (2 + ps.length + 1)
          | some s => if 2 + ps.length + 2 < (a :: b :: rs).length then Rd.row (2 + ps.length + 2) else .form (.int m) (.int u) ps (.tuple (f.map .int)) (.tuple (s.map .int))) = _
        cases q2 : nms r2 cSeen with
        | none => rw [fin2_none q2]
        | some s =>
          rw [fin2_some q2]
          dsimp only
          cases ds with
          | nil => rw [if_neg (fun z => by have := l.mp z; simp at this)]; rfl
          | cons r3 ds => rw [if_pos (l.mpr (by simp))]; rfl
theorem countAt_eq (rows : List (List Cs)) (i : Nat) (h : Cs) : countAt rows i h = match rows[i]? with | none => none | some r => cnt r h := by
  unfold countAt
  rw [numsAt_eq]
  cases q : rows[i]? with
  | none => rfl
  | some r =>
    show (match nms r h with | some [n] => some n | _ => none) = cnt r h
    unfold nms cnt
    by_cases e : r.take 1 = [h]
    · rw [if_pos e, if_pos e]
    · rw [if_neg e, if_neg e]
/-- both ways read the same -/
theorem read_same (rows : List (List Cs)) : lawR rows = progR rows := by
  unfold lawR progR
  rw [countAt_eq, countAt_eq]
  cases rows with
  | nil => rfl
  | cons a rows =>
    show walkL (a :: rows) 0 0 [] [] = (match cnt a cTanks with | none => Rd.row 0 | some m => _)
    rcases sort_cnt (r := a) (h := cTanks) (.inl rfl) with ⟨m, e1, e2⟩ | ⟨e1, e2⟩
    · rw [walk_hit (k := 0) (by decide) e2, e1]
      cases rows with
      | nil => rfl
      | cons b rs =>
        show walkL (b :: rs) 1 1 [.int m] [] = (match cnt b cUnk with | none => Rd.row 1 | some u => _)
        rcases sort_cnt (r := b) (h := cUnk) (.inr rfl) with ⟨u, e3, e4⟩ | ⟨e3, e4⟩
        · rw [walk_hit (k := 1) (by decide) e4, e3]
          show walkL rs 2 2 [.int m, .int u] [] = (match pipesFrom rs with | .inl k => Rd.row (2 + k) | .inr ps => tailR (a :: b :: rs) m u ps)
          rw [walk_pipes]
          cases pipesFrom rs with
          | inl k => rfl
          | inr ps =>
            show fin _ _ ([] ++ ps) _ _ = tailR (a :: b :: rs) m u ps
            rw [tail_fin, List.nil_append]
        · rw [walk_miss (k := 1) e4 (fun z => absurd z (by decide)), e3]
    · rw [walk_miss (k := 0) e2 (fun z => absurd z (by decide)), e1]
end PT

set_option Elab.async false
set_option linter.all false
set_option maxRecDepth 100000
set_option maxHeartbeats 1000000
/-! ### the law's fractions -/
namespace KP
open PySem PySem.Spec PyProof.Rows L2 KX KT
abbrev lIsWhole : Stmt := top 48
abbrev lIsTold : Stmt := top 49
abbrev lIsPipe : Stmt := top 50
abbrev lAreTanks : Stmt := top 51
abbrev lIsNet : Stmt := top 52
def spFrac : Sp := fun vs H Q _ => ∃ t l : Int, vs = [.int t, .int l] ∧ 0 < l ∧ l ≤ 1000 ∧ t.natAbs ≤ 1000 ∧ ∀ p, H p = none → Q (.ref p) (upd H p (.tup [.int (t / (Nat.gcd t.natAbs l.natAbs : Nat)), .int (l / (Nat.gcd t.natAbs l.natAbs : Nat))]))
section
variable {P : Program} {w : World} {K : PySem.W.Frag} {mg : Str → Option Value} {base : Heap}
theorem scFracM : FnScope ["top", "low", "one", "two"] ["top", "low"] (defScope lFrac) := ⟨rfl, rfl, rfl, by decide +kernel, rfl, by decide +kernel, by decide +kernel⟩
theorem ok_frac {f : Addr} {fd : FuncData} (F : Fun K "_law_frac" "_law_frac" lFrac f fd) (T : TxL mg) : FnOk P w K mg base CX0 1 f fd ["top", "low"] spFrac := by
  refine F.ok scFracM (fun vs H Q E h => ?_) (fun cdv A outer s H vs Q E hr h => ?_)
  · obtain ⟨t, l, rfl, _⟩ := h
    rfl
  · obtain ⟨t, l, rfl, l0, l1, t1, k⟩ := h
    refine ⟨_, pss_cons (ps_par (i := 2) (j := 3) (by rfl) scFracM.nd rfl rfl (by decide) rfl rfl (pa_cons (pe_callB call_abs (by rfl) T.abs (by decide +kernel) (pa_cons (pv 0) pa_nil)) (pa_cons (pv 1) pa_nil)) (by rfl))
      (pss_cons (ps_while PassesOwn.never (pt_cmpR op_gt (pv 3) pe_int (nomark _)) (pss_one (ps_par (i := 2) (j := 3) (by rfl) scFracM.nd rfl rfl (by decide) rfl rfl (pa_cons (pv 3) (pa_cons (pe_op op_mod (pe_callTy call_int1 (by rfl) T.int (by decide +kernel) (pa_cons (pv 2) pa_nil)) (pv 3)) pa_nil)) (by rfl))))
      (pss_one (ps_ret (pe_tup (pa_cons (pe_op op_fdiv (pv 0) (pv 2)) (pa_cons (pe_op op_fdiv (pv 1) (pv 2)) pa_nil)))))), ?_⟩
    have hg : 0 < Nat.gcd t.natAbs l.natAbs := Nat.gcd_pos_of_pos_right _ (by omega)
    have hg1 : Nat.gcd t.natAbs l.natAbs ≤ l.natAbs := Nat.le_of_dvd (by omega) (Nat.gcd_dvd_right _ _)
    refine ⟨_, rfl, _, rfl, _, rfl, _, _, rfl, ?_⟩
    refine ⟨fun m σ H' => H' = H ∧ ∃ a b : Nat, σ = [some (.int t), some (.int l), some (.int a), some (.int b)] ∧ Nat.gcd a b = Nat.gcd t.natAbs l.natAbs ∧ m = b ∧ a ≤ 1000 ∧ b ≤ 1000, ⟨_, rfl, t.natAbs, l.natAbs, ?_, rfl, rfl, t1, by omega⟩, ?_⟩
    · have e1 : (if t < 0 then -t else t) = (t.natAbs : Int) := by split <;> omega
      have e2 : l = (l.natAbs : Int) := by omega
      show [some (V.int t), some (V.int l), some (V.int (if t < 0 then -t else t)), some (V.int l)] = _
      rw [e1, ← e2]
    · rintro m σ H' ⟨rfl, a, b, rfl, hgc, hm, a1, b1⟩
      refine ⟨_, rfl, _, _, rfl, rfl, _, rfl, ?_⟩
      dsimp only
      by_cases c : 0 < b
      · rw [if_pos (decide_eq_true (show (0 : Int) < (b : Int) by omega))]
        refine ⟨fun σ' H2 => H2 = H' ∧ σ' = [some (.int t), some (.int l), some (.int b), some (.int ((a % b : Nat) : Int))], ?_, ?_⟩
        · rintro σ' H2 ⟨rfl, rfl⟩
          have lt := Nat.mod_lt a c
          refine ⟨a % b, by omega, rfl, b, a % b, rfl, ?_, rfl, b1, by omega⟩
          rw [← hgc, Nat.gcd_comm a b, Nat.gcd_rec b a, Nat.gcd_comm]
        · refine ⟨_, rfl, _, rfl, .inl ⟨_, rfl, _, rfl, _, _, rfl, rfl, show (0 : Int) < (b : Int) by omega, _, _, rfl, rfl, ?_⟩⟩
          show [some (V.int t), some (V.int l), some (V.int b), some (V.int ((a : Int) % (b : Int)))] = _
          rw [Int.natCast_emod]
      · have b0 : b = 0 := by omega
        subst b0
        rw [if_neg (by decide)]
        rw [Nat.gcd_zero_right] at hgc
        subst hgc
        refine ⟨_, rfl, _, rfl, _, _, rfl, rfl, ⟨by omega, by omega⟩, _, rfl, _, rfl, _, _, rfl, rfl, ⟨by omega, by omega⟩, (by decide : 2 ≤ sizeLine), fun p hp => k p hp⟩
end
end KP

set_option Elab.async false
set_option linter.all false
set_option maxRecDepth 100000
set_option maxHeartbeats 1000000
/-! ### the law's told fractions -/
namespace KP
open PySem PySem.Spec PyProof.Rows L2 KX KT
def spToldL : Sp := fun vs H Q _ => ∃ x d, vs = [x] ∧ Th H x d ∧ ∀ H', Same H H' → Q (.bl (isTold d)) H'
def spPipeL : Sp := fun vs H Q _ => ∃ x d m u, vs = [.int m, .int u, x] ∧ Th H x d ∧ ∀ H', Same H H' → Q (.bl (isPipe m u d)) H'
section
variable {K : PySem.W.Frag} {σ : L2.St} {H : Hp}
theorem isin_tup (d : PyData) : isin (tyN d) "tuple" = decide (tyN d = "tuple") := by cases d <;> simp [isin, tyN]
theorem isin_str (d : PyData) : isin (tyN d) "str" = decide (tyN d = "str") := by cases d <;> simp [isin, tyN]
/-- not isinstance(x, tuple) or len(x) != n -/
theorem ti_shapeL {te : TE} {x : V} {d : PyData} {n : Nat} {m : Int} (hm : m = (n : Int)) (ha : Vi te σ H x) (h : Th H x d) :
    Ti (tOr (tNot (tB (tCB (rIsi K) (tCons te (tCons (tC (.ty "tuple")) tNil))))) (tTest (tOp rNe (tCB (rLen K) (tCons te tNil)) (tC (.int m))))) σ H (!shp n d) := by
  subst hm
  have e : (!shp n d) = ((!isin (tyN d) "tuple") || !decide (lenT d = n)) := by unfold shp; rw [Bool.not_and, isin_tup]
  rw [e]
  refine ti_or (ti_not (ti_val (vi_isi ha h (by simp)))) fun z => ti_test (vi_op (vi_lenT (ai_cons ha ai_nil) h (by rw [isin_tup] at z; simpa using z)) vi_c fun Q q => ⟨rfl, ?_⟩)
  rw [int_dec]
  exact q
theorem i_retCall {t : TA} {tb : TE} {r : R2} {sp : Sp} {E : XK} {vs : List V} {D : Ends} (hA : Ai t σ H vs) (h : sp vs H (fun x H1 => tb σ H1 fun y H2 => r x y H2 D.rt) E) : tRet (tOp r (tCall sp [] E t) tb) D σ H := hA _ (by rw [List.append_nil]; exact h)
theorem vi_at {te : TE} {a : Addr} {xs : List V} {c : Int} {v : V} (ha : Vi te σ H (.ref a)) (e : Rd H a (.tup xs)) (h : atI xs c = some v) : Vi (tOp (rIx K) te (tC (.int c))) σ H v :=
  vi_op ha vi_c fun Q q => .inr (.inl ⟨a, _, c, v, rfl, rfl, SqT.of e, h, q⟩)
end
theorem told_gcd {i j : Int} (h1 : isW (.int i) (-999) 999 = true) (h2 : isW (.int j) 1 999 = true) : isTold (.tuple [.int i, .int j]) = PyData.eqv (.tuple [.int (i / (Nat.gcd i.natAbs j.natAbs : Nat)), .int (j / (Nat.gcd i.natAbs j.natAbs : Nat))]) (.tuple [.int i, .int j]) := by
  simp only [isW, Bool.and_eq_true, decide_eq_true_eq] at h1 h2
  have e1 : isTold (.tuple [.int i, .int j]) = decide (Nat.gcd i.natAbs j.natAbs = 1) := by
    have a1 : decide (0 < j) = true := decide_eq_true (by omega)
    have a2 : decide ((if i < 0 then -i else i) ≤ 999) = true := decide_eq_true (by split <;> omega)
    have a3 : decide (j ≤ 999) = true := decide_eq_true h2.2
    simp [isTold, isR, shp, ith, ratio2, small2, tyN, lenT, a1, a2, a3]
  rw [e1]
  simp only [PyData.eqv, PyData.eqvAll, Bool.and_true]
  have hg : 0 < Nat.gcd i.natAbs j.natAbs := Nat.gcd_pos_of_pos_right _ (by omega)
  by_cases c : Nat.gcd i.natAbs j.natAbs = 1
  · rw [decide_eq_true c]
    simp [c]
  · rw [decide_eq_false c]
    have : j / (Nat.gcd i.natAbs j.natAbs : Nat) < j := Int.ediv_lt_of_lt_mul (by omega) (by
      have : (2 : Int) ≤ (Nat.gcd i.natAbs j.natAbs : Nat) := by omega
      have h3 : j * 2 ≤ j * (Nat.gcd i.natAbs j.natAbs : Nat) := Int.mul_le_mul_of_nonneg_left this (by omega)
      omega)
    have e : ((j / (Nat.gcd i.natAbs j.natAbs : Nat)) == j) = false := beq_eq_false_iff_ne.mpr (by omega)
    rw [e, Bool.and_false]
theorem told_bad {a b : PyData} (h : (!isW a (-999) 999 || !isW b 1 999) = true) : isTold (.tuple [a, b]) = false := by
  cases c : isTold (.tuple [a, b]) with
  | false => rfl
  | true =>
    simp only [isTold, isR, Bool.and_eq_true] at c
    obtain ⟨⟨_, c1⟩, c2⟩ := c
    have c1 : ratio2 a b = true := c1
    have c2 : small2 a b = true := c2
    cases a with
    | int i =>
      cases b with
      | int j =>
        simp only [ratio2, small2, Bool.and_eq_true, decide_eq_true_eq] at c1 c2
        have e1 : isW (.int i) (-999) 999 = true := by
          simp only [isW, Bool.and_eq_true, decide_eq_true_eq]
          have := c2.1
          split at this <;> omega
        have e2 : isW (.int j) 1 999 = true := by
          simp only [isW, Bool.and_eq_true, decide_eq_true_eq]
          omega
        rw [e1, e2] at h
        cases h
      | _ => simp [ratio2] at c1
    | _ => cases b <;> simp [ratio2] at c1
theorem pair_shaped (i j : Int) : SeqAt.shaped (.tuple [.int i, .int j]) = true := by simp [SeqAt.shaped, PyData.canLay0, PyData.canLayAll0, PyData.depth, PyData.depthAll]
section
variable {P : Program} {w : World} {K : PySem.W.Frag} {mg : Str → Option Value} {base : Heap}
theorem scLTold : FnScope ["thing"] ["thing"] (defScope lIsTold) := ⟨rfl, rfl, rfl, by decide +kernel, rfl, by decide +kernel, by decide +kernel⟩
theorem ok_ltold {f fI fF : Addr} {fd fdI fdF : FuncData} (F : Fun K "_law_is_told" "_law_is_told" lIsTold f fd) (T : TxL mg) (FI : FnOk P w K mg base CX0 2 fI fdI ["thing", "low", "high"] spWithin) (mI : mg "_law_is_whole" = some (.ref fI)) (kI : PySem.W.keepIn K (.ref fI) = true) (bI : Binds K fdI ["thing", "low", "high"] [])
    (FF : FnOk P w K mg base CX0 1 fF fdF ["top", "low"] spFrac) (mF : mg "_law_frac" = some (.ref fF)) (kF : PySem.W.keepIn K (.ref fF) = true) (bF : Binds K fdF ["top", "low"] []) :
    FnOk P w K mg base CX0 3 f fd ["thing"] spToldL := by
  refine F.ok scLTold (fun vs H Q E h => ?_) (fun cdv A outer s H vs Q E hr h => ?_)
  · obtain ⟨x, d, rfl, _⟩ := h
    rfl
  · obtain ⟨x, d, rfl, hx, k⟩ := h
    have hr1 : Room 1 _ := hr.mono (by decide)
    have hu : (A.deeper (envOfC "_law_is_told" (defScope lIsTold) s.heap.objs.size f cdv)).units + 64 < cLine := by have := hr.un; omega
    refine ⟨_, pss_cons (ps_if (pw_or (pt_not (pt_val (pe_callB call_isi (by rfl) T.isinstance (by decide +kernel) (pa_cons (pv 0) (pa_cons (pe_bltn (v := .ty "tuple") (by rfl) T.tuple (by decide +kernel) rfl) pa_nil)))))
        (pw_or1 (pt_cmpR op_ne (pe_callB call_len_seq (by rfl) T.len PySem.boot_len (pa_cons (pv 0) pa_nil)) pe_int (nomark _)))).pt (pss_one (ps_ret pe_bl)) pss_nil)
      (pss_cons (ps_if (pw_or (pt_not (pt_val (pe_call FI hr (by rfl) mI kI bI .nil pass0 (pa_cons (pe_ix ix_seq (pv 0) pe_int (fun _ _ => rfl)) (pa_cons (pe_un un_neg pe_int) (pa_cons pe_int pa_nil))))))
          (pw_or1 (pt_not (pt_val (pe_call FI hr (by rfl) mI kI bI .nil pass0 (pa_cons (pe_ix ix_seq (pv 0) pe_int (fun _ _ => rfl)) (pa_cons pe_int (pa_cons pe_int pa_nil)))))))).pt (pss_one (ps_ret pe_bl)) pss_nil)
      (pss_one (ps_ret (pe_cmpR (op_eqD hu) (pe_call FF hr1 rfl mF kF bF .nil pass0 (pa_cons (pe_ix ix_seq (pv 0) pe_int (fun _ _ => rfl)) (pa_cons (pe_ix ix_seq (pv 0) pe_int (fun _ _ => rfl)) pa_nil))) (pv 0) (nomark _))))), ?_⟩
    refine i_guard (ti_shapeL rfl (vi_var rfl) hx) (fun z => ?_) (fun z => ?_)
    · have z : shp 2 d = false := by simpa using z
      have e : isTold d = false := by simp [isTold, isR, z]
      have := k H (Same.refl H)
      rw [e] at this
      exact this
    have hx0 := hx
    obtain ⟨a, xs, ds, rfl, rfl, e, ha, l2⟩ := shp_of hx z
    obtain ⟨d1, d2, rfl⟩ := len2 l2
    cases ha with
    | cons h1 hr1' => cases hr1' with
      | cons h2 hr2' =>
        cases hr2'
        refine i_guard (ti_or (ti_not (ti_val (vi_call (ai_cons (vi_at (vi_var rfl) e rfl) (ai_cons (v := .int (-999)) (fun Q q => ?_) (ai_cons vi_c ai_nil))) fun Q q => spWithin_at h1 q)))
          fun _ => ti_not (ti_val (vi_call (ai_cons (vi_at (vi_var rfl) e rfl) (ai_cons vi_c (ai_cons vi_c ai_nil))) fun Q q => spWithin_at h2 q))) (fun z => ?_) (fun z => ?_)
        · exact ⟨_, rfl, q⟩
        · have := k H (Same.refl H)
          rw [told_bad z] at this
          exact this
        rw [Bool.or_eq_false_iff, Bool.not_eq_false', Bool.not_eq_false'] at z
        obtain ⟨i, rfl, rfl⟩ := isW_int h1 z.1
        obtain ⟨j, rfl, rfl⟩ := isW_int h2 z.2
        have eg := told_gcd z.1 z.2
        have zz := z
        simp only [isW, Bool.and_eq_true, decide_eq_true_eq] at zz
        have hA : ∀ {σ : L2.St}, σ[0]? = some (some (.ref a)) → Ai (tCons (tOp (rIx K) (tVar 0) (tC (.int 0))) (tCons (tOp (rIx K) (tVar 0) (tC (.int 1))) tNil)) σ H [.int i, .int j] := fun h0 => ai_cons (vi_at (vi_var h0) e rfl) (ai_cons (vi_at (vi_var h0) e rfl) ai_nil)
        refine i_retCall (D := { nx := _, rt := Q }) (hA rfl) ?_
        refine ⟨i, j, rfl, by omega, by omega, by omega, fun p hp => ⟨_, rfl, ?_⟩⟩
        have s1 := same_upd (o := .tup [V.int (i / (Nat.gcd i.natAbs j.natAbs : Nat)), .int (j / (Nat.gcd i.natAbs j.natAbs : Nat))]) hp
        refine ⟨_, _, .tup (SqT.of upd_same) (.cons (.int _) (.cons (.int _) .nil)), .tup (SqT.of (s1.rd e)) (.cons (.int _) (.cons (.int _) .nil)), pair_shaped _ _, pair_shaped _ _, ?_⟩
        rw [← eg]
        exact k _ s1
end
end KP

set_option Elab.async false
set_option linter.all false
set_option maxRecDepth 100000
set_option maxHeartbeats 1000000
/-! ### the law's pipes -/
namespace KP
open PySem PySem.Spec PyProof.Rows L2 KX KT
section
variable {K : PySem.W.Frag} {σ : L2.St} {H : Hp}
theorem eqI_dec {i : Int} {x : V} {d : PyData} (h : Th H x d) {j : Int} (e : d = .int j) : decide (x = V.int i) = eqI d (.int i) := by
  subst e
  cases h
  simp [eqI]
end
section
variable {P : Program} {w : World} {K : PySem.W.Frag} {mg : Str → Option Value} {base : Heap}
theorem scLPipe : FnScope ["many", "unknowns", "thing", "start", "aim", "share"] ["many", "unknowns", "thing"] (defScope lIsPipe) := ⟨rfl, rfl, rfl, by decide +kernel, rfl, by decide +kernel, by decide +kernel⟩
theorem ok_lpipe {f fI fT : Addr} {fd fdI fdT : FuncData} (F : Fun K "_law_is_pipe" "_law_is_pipe" lIsPipe f fd) (T : TxL mg) (FI : FnOk P w K mg base CX0 2 fI fdI ["thing", "low", "high"] spWithin) (mI : mg "_law_is_whole" = some (.ref fI)) (kI : PySem.W.keepIn K (.ref fI) = true) (bI : Binds K fdI ["thing", "low", "high"] [])
    (FT : FnOk P w K mg base CX0 3 fT fdT ["thing"] spToldL) (mT : mg "_law_is_told" = some (.ref fT)) (kT : PySem.W.keepIn K (.ref fT) = true) (bT : Binds K fdT ["thing"] []) :
    FnOk P w K mg base CX0 4 f fd ["many", "unknowns", "thing"] spPipeL := by
  refine F.ok scLPipe (fun vs H Q E h => ?_) (fun cdv A outer s H vs Q E hr h => ?_)
  · obtain ⟨x, d, m, u, rfl, _⟩ := h
    rfl
  · obtain ⟨x, d, m, u, rfl, hx, k⟩ := h
    have hr2 : Room 2 _ := hr.mono (by decide)
    refine ⟨_, pss_cons (ps_if (pw_or (pt_not (pt_val (pe_callB call_isi (by rfl) T.isinstance (by decide +kernel) (pa_cons (pv 2) (pa_cons (pe_bltn (v := .ty "tuple") (by rfl) T.tuple (by decide +kernel) rfl) pa_nil)))))
        (pw_or (pt_cmpR op_ne (pe_callB call_len_seq (by rfl) T.len PySem.boot_len (pa_cons (pv 2) pa_nil)) pe_int (nomark _))
          (pw_or1 (pt_not (pt_val (pe_call FI hr2 (by rfl) mI kI bI .nil pass0 (pa_cons (pe_ix ix_seq (pv 2) pe_int (fun _ _ => rfl)) (pa_cons pe_int (pa_cons (pe_op op_sub (pv 0) pe_int) pa_nil))))))))).pt (pss_one (ps_ret pe_bl)) pss_nil)
      (pss_cons (ps_asg (pv 2) (pg_tup rfl (pgs_cons (pg_name (i := 3) scLPipe.nd rfl (Or.inl rfl)) (pgs_cons (pg_name (i := 4) scLPipe.nd rfl (Or.inl rfl)) (pgs_cons (pg_name (i := 5) scLPipe.nd rfl (Or.inl rfl)) pgs_nil)))))
      (pss_cons (ps_if (pw_and (pt_cmpR op_notN (pv 4) pe_non (nomark _)) (pw_and1 (pw_or (pt_not (pt_val (pe_call FI hr2 (by rfl) mI kI bI .nil pass0 (pa_cons (pv 4) (pa_cons pe_int (pa_cons (pe_op op_sub (pv 0) pe_int) pa_nil))))))
          (pw_or1 (pt_cmpR op_eq (pv 4) (pv 3) (nomark _)))).pt)).pt (pss_one (ps_ret pe_bl)) pss_nil)
      (pss_cons (ps_if (pw_and (pt_val (pe_callB call_isi (by rfl) T.isinstance (by decide +kernel) (pa_cons (pv 5) (pa_cons (pe_bltn (v := .ty "tuple") (by rfl) T.tuple (by decide +kernel) rfl) pa_nil))))
          (pw_and (pt_cmpR op_eq (pe_callB call_len_seq (by rfl) T.len PySem.boot_len (pa_cons (pv 5) pa_nil)) pe_int (nomark _))
            (pw_and1 (pt_val (pe_callB call_isi (by rfl) T.isinstance (by decide +kernel) (pa_cons (pe_ix ix_seq (pv 5) pe_int (fun _ _ => rfl)) (pa_cons (pe_bltn (v := .ty "str") (by rfl) T.str (by decide +kernel) rfl) pa_nil))))))).pt
          (pss_one (ps_ret (pe_and (pe_cmpR op_eq (pe_ix ix_seq (pv 5) pe_int (fun _ _ => rfl)) pe_str (nomark _)) (pe_one (pe_call FI hr2 rfl mI kI bI .nil pass0 (pa_cons (pe_ix ix_seq (pv 5) pe_int (fun _ _ => rfl)) (pa_cons pe_int (pa_cons (pe_op op_sub (pv 1) pe_int) pa_nil)))))))) pss_nil)
      (pss_one (ps_ret (pe_call FT hr rfl mT kT bT .nil pass0 (pa_cons (pv 5) pa_nil))))))), ?_⟩
    have q0 := k H (Same.refl H)
    refine i_guard (b := (!isin (tyN d) "tuple" || (!decide (lenT d = 3) || !isW (ith 0 d) 0 (m - 1)))) (ti_or (ti_not (ti_val (vi_isi (vi_var rfl) hx (by simp)))) fun z => ti_or (ti_test (vi_op (vi_lenT (ai_cons (vi_var rfl) ai_nil) hx (by rw [isin_tup] at z; simpa using z)) vi_c fun Q q => ⟨rfl, ?_⟩)) fun z2 => ?_) (fun z => ?_) (fun z => ?_)
    · rw [show (V.int 3) = V.int ((3 : Nat) : Int) from rfl, int_dec]
      exact q
    · have zs : (!shp 3 d) = false := by
        rw [isin_tup] at z
        unfold shp
        simp at z z2
        simp [z, z2]
      obtain ⟨a, xs, ds, rfl, rfl, e, ha, l2⟩ := shp_of hx zs
      obtain ⟨d1, d2, d3, rfl⟩ := len3 l2
      cases ha with
      | cons h1 hr1 => cases hr1 with
        | cons h2 hr2' => cases hr2' with
          | cons h3 hr3 =>
            cases hr3
            exact ti_not (ti_val (vi_call (ai_cons (vi_at (vi_var rfl) e rfl) (ai_cons vi_c (ai_cons (vi_op (vi_var rfl) vi_c fun Q q => ⟨_, _, rfl, rfl, q⟩) ai_nil))) fun Q q => spWithin_at h1 q))
    · have e : isPipe m u d = false := by
        rw [isin_tup] at z
        unfold isPipe
        cases c : shp 3 d with
        | false => rfl
        | true =>
          unfold shp at c
          rw [Bool.and_eq_true] at c
          rw [c.1, c.2, Bool.not_true, Bool.false_or, Bool.false_or] at z
          rw [z]
          simp
      rw [e] at q0
      exact q0
    have zs : (!shp 3 d) = false ∧ isW (ith 0 d) 0 (m - 1) = true := by
      rw [isin_tup] at z
      unfold shp
      simp only [Bool.or_eq_false_iff, Bool.not_eq_false'] at z
      rw [z.1, z.2.1]
      exact ⟨rfl, z.2.2⟩
    obtain ⟨z0, zw⟩ := zs
    obtain ⟨a, xs, ds, rfl, rfl, e, ha, l2⟩ := shp_of hx z0
    obtain ⟨d1, d2, d3, rfl⟩ := len3 l2
    cases ha with
    | cons h1 hr1 => cases hr1 with
      | cons h2 hr2' => cases hr2' with
        | cons h3 hr3 =>
          cases hr3
          have zw : isW d1 0 (m - 1) = true := zw
          have e8 : isPipe m u (.tuple [d1, d2, d3]) = (isShare u d3 && (isNon d2 || (isW d2 0 (m - 1) && !eqI d2 d1))) := by
            unfold isPipe
            rw [show shp 3 (.tuple [d1, d2, d3]) = true by simpa using z0, Bool.true_and, show ith 0 (.tuple [d1, d2, d3]) = d1 from rfl, zw]
            simp [ith]
          have e7 : isShare u d3 = (if (shp 2 d3 && decide (tyN (ith 0 d3) = "str")) = true then (isX (ith 0 d3) && isW (ith 1 d3) 0 (u - 1)) else isTold d3) := by
            unfold isShare
            cases c : shp 2 d3 with
            | false => simp [isTold, isR, c]
            | true => simp
          refine ⟨_, rfl, a, _, rfl, SqT.of e, rfl, _, _, rfl, _, _, rfl, _, _, rfl, rfl, ?_⟩
          obtain ⟨i, rfl, rfl⟩ := isW_int h1 zw
          dsimp only
          refine i_guard (D := { nx := _, rt := Q }) (b := !isNon d2 && (!isW d2 0 (m - 1) || eqI d2 (.int i))) (ti_and (ti_test (vi_op (vi_var rfl) vi_c fun Q q => ⟨rfl, ?_⟩)) fun z => ti_or (ti_not (ti_val (vi_call (ai_cons (vi_var rfl) (ai_cons vi_c (ai_cons (vi_op (vi_var rfl) vi_c fun Q q => ⟨_, _, rfl, rfl, q⟩) ai_nil))) fun Q q => spWithin_at h2 q))) fun z2 => ti_test ?_) (fun z => ?_) (fun z => ?_)
          · rw [isNon_dec h2]
            exact q
          · obtain ⟨j, rfl, rfl⟩ := isW_int h2 (by simpa using z2)
            refine vi_op (vi_var rfl) (vi_var rfl) fun Q q => ⟨rfl, ?_⟩
            have e6 : decide (V.int j = V.int i) = eqI (.int j) (.int i) := by simp [eqI]
            rw [e6]
            exact q
          · have e : isPipe m u (.tuple [.int i, d2, d3]) = false := by
              rw [e8]
              rw [Bool.and_eq_true, Bool.not_eq_true', Bool.or_eq_true, Bool.not_eq_true'] at z
              rw [z.1]
              rcases z.2 with z2 | z2 <;> rw [z2] <;> simp
            rw [e] at q0
            exact q0
          have e5 : isPipe m u (.tuple [.int i, d2, d3]) = isShare u d3 := by
            rw [e8]
            cases c1 : isNon d2 <;> cases c2 : isW d2 0 (m - 1) <;> cases c3 : eqI d2 (.int i) <;> rw [c1, c2, c3] at z <;> simp at z ⊢
          rw [e5, e7] at q0
          have k' : ∀ H', Same H H' → Q (.bl (if (shp 2 d3 && decide (tyN (ith 0 d3) = "str")) = true then (isX (ith 0 d3) && isW (ith 1 d3) 0 (u - 1)) else isTold d3)) H' := fun H' s => by
            have := k H' s
            rw [e5, e7] at this
            exact this
          have sp2 : isin (tyN d3) "tuple" = true → decide (lenT d3 = 2) = true → (!shp 2 d3) = false := fun c1 c2 => by
            rw [isin_tup] at c1
            unfold shp
            rw [c1, c2]
            rfl
          have e4 : (shp 2 d3 && decide (tyN (ith 0 d3) = "str")) = (isin (tyN d3) "tuple" && (decide (lenT d3 = 2) && isin (tyN (ith 0 d3)) "str")) := by
            rw [isin_tup, isin_str]
            unfold shp
            rw [Bool.and_assoc]
          rw [e4] at k'
          refine i_if (D := { nx := _, rt := Q }) (b := isin (tyN d3) "tuple" && (decide (lenT d3 = 2) && isin (tyN (ith 0 d3)) "str")) (ti_and (ti_val (vi_isi (vi_var rfl) h3 (by simp))) fun c1 => ti_and (ti_test (vi_op (vi_lenT (ai_cons (vi_var rfl) ai_nil) h3 (by rw [isin_tup] at c1; simpa using c1)) vi_c fun Q q => ⟨rfl, ?_⟩)) fun c2 => ti_val ?_) (fun c => ?_) (fun c => ?_)
          · rw [show (V.int 2) = V.int ((2 : Nat) : Int) from rfl, int_dec]
            exact q
          · obtain ⟨b, ys, es, rfl, rfl, e', hb, l3⟩ := shp_of h3 (sp2 c1 c2)
            obtain ⟨g1, g2, rfl⟩ := len2 l3
            cases hb with
            | cons i1 hb2 => cases hb2 with
              | cons i2 hb3 =>
                cases hb3
                exact vi_isi (vi_at (vi_var rfl) e' rfl) i1 (by simp)
          · rw [if_pos c] at k'
            rw [Bool.and_eq_true, Bool.and_eq_true, isin_str, decide_eq_true_eq (p := tyN (ith 0 d3) = "str")] at c
            obtain ⟨b, ys, es, rfl, rfl, e', hb, l3⟩ := shp_of h3 (sp2 c.1 c.2.1)
            obtain ⟨g1, g2, rfl⟩ := len2 l3
            have c3 : tyN g1 = "str" := c.2.2
            cases hb with
            | cons i1 hb2 => cases hb2 with
              | cons i2 hb3 =>
                cases hb3
                cases i1 with
                | str s =>
                  refine i_ret (D := { nx := _, rt := Q }) (v := .bl (isX (.str s) && isW g2 0 (u - 1))) ?_ (k' H (Same.refl H))
                  refine vi_and (vi_op (vi_at (vi_var rfl) e' rfl) vi_c fun Q q => ⟨rfl, ?_⟩) fun c1 => ?_
                  · have e2 : decide (V.str s = V.str "x") = isX (.str s) := by simp [isX]
                    rw [e2]
                    exact q
                  · exact vi_call (ai_cons (vi_at (vi_var rfl) e' rfl) (ai_cons vi_c (ai_cons (vi_op (vi_var rfl) vi_c fun Q q => ⟨_, _, rfl, rfl, q⟩) ai_nil))) fun Q q => spWithin_at i2 q
                | _ => exact absurd c3 (by simp [tyN])
          · rw [if_neg (by simpa using c)] at k'
            exact ⟨_, rfl, _, _, rfl, h3, fun H' s => k' H' s⟩
end
end KP

set_option Elab.async false
set_option linter.all false
set_option maxRecDepth 100000
set_option maxHeartbeats 1000000
/-! ### the law's tanks -/
namespace KP
open PySem PySem.Spec PyProof.Rows L2 KX KT
/-- a tuple beside the empty one -/
def rEq0 : R2 := fun x y H Q => ∃ a b xs, x = .ref a ∧ y = .ref b ∧ Rd H a (.tup xs) ∧ H b = some (.tup []) ∧ Q (.bl (decide (xs.length = 0))) H
theorem op_eq0 {X : Cx} (hu : X.A.units < cLine) : OpR X (compareOp .Eq) rEq0 := fun pins s σ H x y v u Q I rx ry ⟨a, b, xs, ex, ey, ha, hb, q⟩ => by
  subst ex ey
  cases (show v = Value.ref a from rx)
  cases (show u = Value.ref b from ry)
  obtain ⟨us, r1, p1, _⟩ := I.tuple (KX.SqT.of ha)
  obtain ⟨ws, r2, p2, _⟩ := I.tuple (L2.SqT.of hb)
  have l1 := r1.length
  have l2 := r2.length
  have l3 : ws.toArray.size = 0 := by
    rw [List.size_toArray, ← l2]
    rfl
  refine SeqAt.eq_tupleAt (e := fun _ => true) (show s.heap.IsTuple a us.toArray from p1) (show s.heap.IsTuple b ws.toArray from p2) hu (fun j h1 h2 => ?_) ⟨.bl _, H, I, ?_, q⟩
  · rw [l3] at h2
    exact absurd h2 (Nat.not_lt_zero _)
  · show Value.bool _ = Value.bool _
    congr 1
    rw [l3, Nat.min_zero, List.range_zero, List.all_nil, Bool.true_and, List.size_toArray, ← l1]
    by_cases c : xs.length = 0
    · rw [c]; rfl
    · rw [decide_eq_false c]
      exact beq_eq_false_iff_ne.mpr c
def areTL (m : Int) (d : PyData) : Bool := decide (tyN d = "tuple") && (!decide (lenT d = 0) && ((itms d).all (fun e => isW e 0 (m - 1)) && ascB (itms d)))
theorem asc_low {m : Int} {ds : List PyData} (h : ds.all (fun e => isW e 0 (m - 1)) = true) (ha : ascB ds = true) : ∀ i : Nat, i < ds.length → ∃ j : Int, ds.getD i .none = .int j ∧ (i : Int) ≤ j ∧ j ≤ m - 1 := by
  intro i
  induction i with
  | zero =>
    intro hi
    have e : ds.getD 0 .none = ds[0] := by rw [List.getD_eq_getElem?_getD, List.getElem?_eq_getElem hi]; rfl
    have z := List.all_eq_true.mp h ds[0] (List.getElem_mem hi)
    obtain ⟨j, hj⟩ := isW_data z
    rw [hj] at z e
    simp only [isW, Bool.and_eq_true, decide_eq_true_eq] at z
    exact ⟨j, e, z.1, z.2⟩
  | succ i ih =>
    intro hi
    obtain ⟨j0, e0, h0, _⟩ := ih (by omega)
    have e : ds.getD (i + 1) .none = ds[i + 1] := by rw [List.getD_eq_getElem?_getD, List.getElem?_eq_getElem hi]; rfl
    have z := List.all_eq_true.mp h ds[i + 1] (List.getElem_mem hi)
    obtain ⟨j, hj⟩ := isW_data z
    rw [hj] at z e
    simp only [isW, Bool.and_eq_true, decide_eq_true_eq] at z
    have q := List.all_eq_true.mp ha i (List.mem_range.mpr (by omega))
    rw [e0, e] at q
    have q : j0 < j := of_decide_eq_true q
    exact ⟨j, e, by omega, z.2⟩
theorem areT_same (m : Int) (d : PyData) : areTL m d = areT m d := by
  cases d with
  | tuple ds =>
    have e1 : areTL m (.tuple ds) = (!decide (ds.length = 0) && (ds.all (fun e => isW e 0 (m - 1)) && ascB ds)) := by
      unfold areTL
      have e0 : decide (tyN (.tuple ds) = "tuple") = true := decide_eq_true rfl
      rw [e0, Bool.true_and]
      rfl
    have e2 : areT m (.tuple ds) = ((decide (1 ≤ (ds.length : Int)) && decide ((ds.length : Int) ≤ m)) && (ds.all (fun e => isW e 0 (m - 1)) && ascB ds)) := by
      unfold areT
      have e0 : decide (tyN (.tuple ds) = "tuple") = true := decide_eq_true rfl
      rw [e0, Bool.true_and]
      rfl
    rw [e1, e2]
    cases h : ds.all (fun e => isW e 0 (m - 1)) with
    | false => simp
    | true =>
      cases ha : ascB ds with
      | false => simp
      | true =>
        simp only [Bool.and_true]
        by_cases c : ds.length = 0
        · rw [decide_eq_true c, decide_eq_false (show ¬ (1 : Int) ≤ (ds.length : Int) by omega)]
          rfl
        · obtain ⟨j, _, h1, h2⟩ := asc_low h ha (ds.length - 1) (by omega)
          rw [decide_eq_false c, decide_eq_true (show (1 : Int) ≤ (ds.length : Int) by omega), decide_eq_true (show (ds.length : Int) ≤ m by omega)]
          rfl
  | _ => simp [areTL, areT, tyN]
def spTanksL : Sp := fun vs H Q _ => ∃ x d m, vs = [.int m, x] ∧ Th H x d ∧ lenT d ≤ 2000 ∧ ∀ H', Same H H' → Q (.bl (areT m d)) H'
end KP

set_option Elab.async false
set_option linter.all false
set_option maxRecDepth 100000
set_option maxHeartbeats 1000000
/-! ### readings behind which the heap has only grown; all([.. for x in tuple]) -/
namespace KP
open PySem PySem.Spec PyProof.Rows L2 KX KT
section
variable {K : PySem.W.Frag} {σ : L2.St} {H : Hp}
theorem vg_eq0 {te : TE} {a : Addr} {xs : List V} (h : Vi te σ H (.ref a)) (e : Rd H a (.tup xs)) : Vg (tOp rEq0 te (tTup tNil)) σ H (.bl (decide (xs.length = 0))) := fun Q q => h _
  ⟨Nat.zero_le _, fun p hp => ⟨a, p, xs, rfl, rfl, (same_upd hp).rd e, upd_same, q _ (same_upd hp)⟩⟩
end
section
variable {P : Program} {w : World} {K : PySem.W.Frag} {mg : Str → Option Value} {base : Heap}
theorem scLTanks : FnScope ["many", "thing", "each", "at"] ["many", "thing"] (defScope lAreTanks) := ⟨rfl, rfl, rfl, by decide +kernel, rfl, by decide +kernel, by decide +kernel⟩
theorem ok_ltanks {f fI : Addr} {fd fdI : FuncData} (F : Fun K "_law_are_tanks" "_law_are_tanks" lAreTanks f fd) (T : TxL mg) (FI : FnOk P w K mg base CX0 2 fI fdI ["thing", "low", "high"] spWithin) (mI : mg "_law_is_whole" = some (.ref fI)) (kI : PySem.W.keepIn K (.ref fI) = true) (bI : Binds K fdI ["thing", "low", "high"] []) :
    FnOk P w K mg base CX0 3 f fd ["many", "thing"] spTanksL := by
  refine F.ok scLTanks (fun vs H Q E h => ?_) (fun cdv A outer s H vs Q E hr h => ?_)
  · obtain ⟨x, d, m, rfl, _⟩ := h
    rfl
  · obtain ⟨x, d, m, rfl, hx, hlen, k⟩ := h
    have hu : (A.deeper (envOfC "_law_are_tanks" (defScope lAreTanks) s.heap.objs.size f cdv)).units < cLine := by have := hr.un; omega
    refine ⟨_, pss_cons (ps_if (pw_or (pt_not (pt_val (pe_callB call_isi (by rfl) T.isinstance (by decide +kernel) (pa_cons (pv 1) (pa_cons (pe_bltn (v := .ty "tuple") (by rfl) T.tuple (by decide +kernel) rfl) pa_nil)))))
        (pw_or (pt_cmpR (op_eq0 hu) (pv 1) (pe_tup pa_nil) (nomark _))
          (pw_or1 (pt_not (pt_val (pe_callB (cr_all rfl) (by rfl) T.all (by decide +kernel) (pa_cons (pe_lc (own := [("each", 2)]) (g := gName 2) (tt := tYes) rfl scLTanks.nd (pi_tup (pv 1)) (blkOk_by (N := ["many", "thing", "each", "at"]) (sc := defScope lAreTanks) (by decide +kernel))
            (fun _ _ _ _ _ => pg_name (i := 2) scLTanks.nd rfl (Or.inl rfl)) (fun _ _ _ _ _ => pts_nil) (fun _ _ _ _ _ => pe_call FI hr (by rfl) mI kI bI .nil pass0 (pa_cons (pv 2) (pa_cons pe_int (pa_cons (pe_op op_sub (pv 0) pe_int) pa_nil))))) pa_nil))))))).pt (pss_one (ps_ret pe_bl)) pss_nil)
      (pss_one (ps_ret (pe_callB (cr_all rfl) (by rfl) T.all (by decide +kernel) (pa_cons (pe_lc (own := [("at", 3)]) (g := gName 3) (tt := tYes) rfl scLTanks.nd (pi_range1 rfl T.range (pa_cons (pe_op op_sub (pe_callB call_len_seq (by rfl) T.len PySem.boot_len (pa_cons (pv 1) pa_nil)) pe_int) pa_nil))
        (blkOk_by (N := ["many", "thing", "each", "at"]) (sc := defScope lAreTanks) (by decide +kernel)) (fun _ _ _ _ _ => pg_name (i := 3) scLTanks.nd rfl (Or.inl rfl)) (fun _ _ _ _ _ => pts_nil)
        (fun _ _ _ _ _ => pe_cmpR op_lt (pe_ix (r := rIx K) (by exact ix_seq) (pv 1) (pv 3) (fun _ _ => rfl)) (pe_ix (r := rIx K) (by exact ix_seq) (pv 1) (pe_op op_add (pv 3) pe_int) (fun _ _ => rfl)) (nomark _))) pa_nil)))), ?_⟩
    simp only [← areT_same] at k
    by_cases ct : tyN d = "tuple"
    rotate_left
    · have z1 : isin (tyN d) "tuple" = false := by rw [isin_tup]; exact decide_eq_false ct
      refine g_guard (b := (!isin (tyN d) "tuple" || false)) (tg_or (tg_of (ti_not (ti_val (vi_isi (vi_var rfl) hx (by simp))))) fun z => by rw [z1] at z; cases z) (fun _ H' s => ?_) (fun z => by rw [z1] at z; cases z)
      have e : areTL m d = false := by unfold areTL; rw [decide_eq_false ct]; rfl
      have := k H' s
      rw [e] at this
      exact this
    obtain ⟨a, xs, ds, rfl, rfl, e, ha⟩ := tupOf hx ct
    have hl := all2 ha
    have hd2 : ds.length ≤ 2000 := hlen
    have e8 : areTL m (.tuple ds) = (!decide (ds.length = 0) && (ds.all (fun e => isW e 0 (m - 1)) && ascB ds)) := by
      unfold areTL
      rw [show decide (tyN (.tuple ds) = "tuple") = true from decide_eq_true rfl, Bool.true_and]
      rfl
    rw [e8] at k
    refine g_guard (b := (!isin (tyN (.tuple ds)) "tuple" || (decide (xs.length = 0) || !(ds.all (fun e => isW e 0 (m - 1)))))) (tg_or (tg_of (ti_not (ti_val (vi_isi (vi_var rfl) hx (by simp))))) fun _ H1 s1 => tg_or (tg_test (vg_eq0 (vi_var rfl) (s1.rd e))) fun _ H2 s2 =>
      tg_not (tg_val (vg_all (pd := fun e => isW e 0 (m - 1)) (vi_var rfl) (s2.rd (s1.rd e)) (ThAll.mono (Sm.same (s1.trans s2)) ha) hd2 (fun x => rfl) fun H3 x d s3 hd => vg_of (vi_call (ai_cons (vi_var rfl) (ai_cons vi_c (ai_cons (vi_op (vi_var rfl) vi_c fun Q q => ⟨_, _, rfl, rfl, q⟩) ai_nil))) fun Q q => spWithin_at hd q)))) (fun z H1 s1 => ?_) (fun z H1 s1 => ?_)
    · have z1 : isin (tyN (.tuple ds)) "tuple" = true := by rw [isin_tup]; rfl
      rw [z1, Bool.not_true, Bool.false_or, hl] at z
      have e7 : (!decide (ds.length = 0) && (ds.all (fun e => isW e 0 (m - 1)) && ascB ds)) = false := by
        rw [Bool.or_eq_true] at z
        rcases z with z | z
        · rw [z]; rfl
        · rw [Bool.not_eq_true'] at z
          rw [z]; simp
      have := k H1 s1
      rw [e7] at this
      exact this
    have z1 : isin (tyN (.tuple ds)) "tuple" = true := by rw [isin_tup]; rfl
    rw [z1, Bool.not_true, Bool.false_or, hl, Bool.or_eq_false_iff, Bool.not_eq_false'] at z
    obtain ⟨z2, hall⟩ := z
    rw [z2, hall, Bool.not_false, Bool.true_and, Bool.true_and] at k
    have n1 : 0 < xs.length := by
      have := of_decide_eq_false z2
      omega
    have isI : ∀ {i : Nat} {x : V}, xs[i]? = some x → ∃ j, x = .int j ∧ ds.getD i .none = .int j := fun {i x} hxi => by
      obtain ⟨d, hdi, hth⟩ := all_get ha hxi
      obtain ⟨j, rfl, rfl⟩ := isW_int hth (List.all_eq_true.mp hall d (List.mem_of_getElem? hdi))
      exact ⟨j, rfl, by rw [List.getD_eq_getElem?_getD, hdi]; rfl⟩
    have e2 := s1.rd e
    have hln : xs.length ≤ 2000 := by omega
    refine ⟨_, rfl, _, _, rfl, .inr (SqT.of e2), _, _, rfl, rfl, _, rfl, ?_, ?_, fun D hD => ?_⟩
    · omega
    · omega
    have hN : ((xs.length : Int) - 1).toNat = xs.length - 1 := by omega
    rw [hN]
    refine lc_range (lo := 0) (n := xs.length - 1) (fun n H' => Same H1 H' ∧ H' D = some (.lst ((List.range n).map fun i => V.bl (ltI (ds.getD i .none) (ds.getD (i + 1) .none))))) ⟨same_upd hD, upd_same⟩ ?_ ?_
    · rintro i H' hi ⟨s7, hD'⟩
      refine ⟨rfl, ?_⟩
      dsimp only [tYes]
      rw [if_pos rfl, Int.zero_add]
      obtain ⟨i1, e3, g1⟩ := isI (List.getElem?_eq_getElem (show i < xs.length by omega))
      obtain ⟨j1, e4, g2⟩ := isI (List.getElem?_eq_getElem (show i + 1 < xs.length by omega))
      have a1 : atI xs (i : Int) = some (.int i1) := by rw [← e3]; exact atI_nat (List.getElem?_eq_getElem (show i < xs.length by omega))
      have a2 : atI xs ((i : Int) + 1) = some (.int j1) := by
        rw [← e4]
        have := atI_nat (List.getElem?_eq_getElem (show i + 1 < xs.length by omega))
        rw [Int.natCast_add] at this
        exact this
      have e5 := s7.rd e2
      refine ⟨_, rfl, _, rfl, .inr (.inl ⟨a, _, _, _, rfl, rfl, SqT.of e5, a1, ?_⟩)⟩
      refine ⟨_, rfl, _, rfl, _, _, rfl, rfl, .inr (.inl ⟨a, _, _, _, rfl, rfl, SqT.of e5, a2, ?_⟩)⟩
      refine ⟨_, _, rfl, rfl, _, hD', ?_, fun b o eb => ?_, ?_⟩
      · rw [List.length_map, List.length_range]
        exact Nat.lt_of_le_of_lt (show i ≤ 2000 by omega) (by decide)
      · have nb : b ≠ D := fun z => by
          rw [z, hD] at eb
          cases eb
        rw [upd_ne nb]
        exact s7 _ _ eb
      · rw [upd_same, List.range_succ, List.map_append, List.map_cons, List.map_nil, g1, g2]
        rfl
    · rintro H' ⟨s7, hD'⟩
      refine ⟨D, (List.range (xs.length - 1)).map fun i => ltI (ds.getD i .none) (ds.getD (i + 1) .none), rfl, SqL.of ?_, ?_⟩
      · rw [hD', List.map_map]
        rfl
      · have e3 : ((List.range (xs.length - 1)).map fun i => ltI (ds.getD i .none) (ds.getD (i + 1) .none)).all id = ascB ds := by
          rw [List.all_map, hl]
          rfl
        rw [e3]
        exact k _ (s1.trans s7)
end
end KP

set_option Elab.async false
set_option linter.all false
set_option maxRecDepth 100000
set_option maxHeartbeats 1000000
/-! ### the law's own look at nets -/
namespace KP
open PySem PySem.Spec PyProof.Rows L2 KX KT
def spNetL : Sp := fun vs H Q _ => ∃ x d, vs = [x] ∧ Th H x d ∧ lenT (ith 3 d) ≤ 2000 ∧ lenT (ith 4 d) ≤ 2000 ∧ ∀ H', Same H H' → Q (.bl (isNet d)) H'
theorem any_not {l : List Nat} {p : Nat → Bool} : l.any p = !(l.all fun i => !p i) := by
  induction l with
  | nil => rfl
  | cons a l ih => rw [List.any_cons, List.all_cons, ih, Bool.not_and, Bool.not_not]
section
variable {P : Program} {w : World} {K : PySem.W.Frag} {mg : Str → Option Value} {base : Heap}
abbrev nNet : List Str := ["thing", "many", "unknowns", "pipes", "filled", "seen", "pipe", "at"]
theorem scLNet : FnScope nNet ["thing"] (defScope lIsNet) := ⟨rfl, rfl, rfl, by decide +kernel, rfl, by decide +kernel, by decide +kernel⟩
theorem ok_lnet {f fI fP fT : Addr} {fd fdI fdP fdT : FuncData} (F : Fun K "_law_is_net" "_law_is_net" lIsNet f fd) (T : TxL mg)
    (FI : FnOk P w K mg base CX0 2 fI fdI ["thing", "low", "high"] spWithin) (mI : mg "_law_is_whole" = some (.ref fI)) (kI : PySem.W.keepIn K (.ref fI) = true) (bI : Binds K fdI ["thing", "low", "high"] [])
    (FP : FnOk P w K mg base CX0 4 fP fdP ["many", "unknowns", "thing"] spPipeL) (mP : mg "_law_is_pipe" = some (.ref fP)) (kP : PySem.W.keepIn K (.ref fP) = true) (bP : Binds K fdP ["many", "unknowns", "thing"] [])
    (FT : FnOk P w K mg base CX0 3 fT fdT ["many", "thing"] spTanksL) (mT : mg "_law_are_tanks" = some (.ref fT)) (kT : PySem.W.keepIn K (.ref fT) = true) (bT : Binds K fdT ["many", "thing"] []) :
    FnOk P w K mg base CX0 5 f fd ["thing"] spNetL := by
  refine F.ok scLNet (fun vs H Q E h => ?_) (fun cdv A outer s H vs Q E hr h => ?_)
  · obtain ⟨x, d, rfl, _⟩ := h
    rfl
  · obtain ⟨x, d, rfl, hx, hl3, hl4, k⟩ := h
    have hr2 : Room 2 _ := hr.mono (by decide)
    have hr3 : Room 3 _ := hr.mono (by decide)
    have hu : (A.deeper (envOfC "_law_is_net" (defScope lIsNet) s.heap.objs.size f cdv)).units + 65 < cLine := by have := hr.un; omega
    refine ⟨_, pss_cons (ps_if (pw_or (pt_not (pt_val (pe_callB call_isi (by rfl) T.isinstance (by decide +kernel) (pa_cons (pv 0) (pa_cons (pe_bltn (v := .ty "tuple") (by rfl) T.tuple (by decide +kernel) rfl) pa_nil)))))
        (pw_or1 (pt_cmpR op_ne (pe_callB call_len_seq (by rfl) T.len PySem.boot_len (pa_cons (pv 0) pa_nil)) pe_int (nomark _)))).pt (pss_one (ps_ret pe_bl)) pss_nil)
      (pss_cons (ps_asg (pv 0) (pg_tup rfl (pgs_cons (pg_name (i := 1) scLNet.nd rfl (by first | exact Or.inl rfl | exact Or.inr rfl)) (pgs_cons (pg_name (i := 2) scLNet.nd rfl (by first | exact Or.inl rfl | exact Or.inr rfl)) (pgs_cons (pg_name (i := 3) scLNet.nd rfl (by first | exact Or.inl rfl | exact Or.inr rfl)) (pgs_cons (pg_name (i := 4) scLNet.nd rfl (Or.inl rfl)) (pgs_cons (pg_name (i := 5) scLNet.nd rfl (Or.inl rfl)) pgs_nil)))))))
      (pss_cons (ps_if (pw_or (pt_not (pt_val (pe_call FI hr2 (by rfl) mI kI bI .nil pass0 (pa_cons (pv 1) (pa_cons pe_int (pa_cons pe_int pa_nil))))))
          (pw_or (pt_not (pt_val (pe_call FI hr2 (by rfl) mI kI bI .nil pass0 (pa_cons (pv 2) (pa_cons pe_int (pa_cons pe_int pa_nil)))))) (pw_or1 (pt_cmpR op_gt (pe_op op_add (pv 1) (pv 2)) pe_int (nomark _))))).pt (pss_one (ps_ret pe_bl)) pss_nil)
      (pss_cons (ps_if (pw_or (pt_not (pt_val (pe_callB call_isi (by rfl) T.isinstance (by decide +kernel) (pa_cons (pv 3) (pa_cons (pe_bltn (v := .ty "tuple") (by rfl) T.tuple (by decide +kernel) rfl) pa_nil)))))
          (pw_or1 (pt_cmpR op_gt (pe_callB call_len_seq (by rfl) T.len PySem.boot_len (pa_cons (pv 3) pa_nil)) pe_int (nomark _)))).pt (pss_one (ps_ret pe_bl)) pss_nil)
      (pss_cons (ps_if (pt_not (pt_val (pe_callB (cr_all rfl) (by rfl) T.all (by decide +kernel) (pa_cons (pe_lc (own := [("pipe", 6)]) (g := gName 6) (tt := tYes) rfl scLNet.nd (pi_tup (pv 3)) (blkOk_by (N := nNet) (sc := defScope lIsNet) (by decide +kernel))
          (fun _ _ _ _ _ => pg_name (i := 6) scLNet.nd rfl (Or.inl rfl)) (fun _ _ _ _ _ => pts_nil) (fun _ _ _ _ _ => pe_call FP hr (by rfl) mP kP bP .nil pass0 (pa_cons (pv 1) (pa_cons (pv 2) (pa_cons (pv 6) pa_nil))))) pa_nil)))) (pss_one (ps_ret pe_bl)) pss_nil)
      (pss_cons (ps_if (pt_val (pe_callB (cr_any rfl) (by rfl) T.any (by decide +kernel) (pa_cons (pe_lc (own := [("at", 7), ("pipe", 6)]) (g := gTup K 2 (gCons (gName 7) (gCons (gName 6) gNil))) (tt := tYes) rfl scLNet.nd (pi_enumT (by rfl) T.enumerate (pa_cons (pv 3) pa_nil)) (blkOk_by (N := nNet) (sc := defScope lIsNet) (by decide +kernel))
          (fun _ _ _ _ _ => by exact pg_tup rfl (pgs_cons (pg_name (i := 7) scLNet.nd rfl (Or.inl rfl)) (pgs_cons (pg_name (i := 6) scLNet.nd rfl (Or.inl rfl)) pgs_nil))) (fun _ _ _ _ _ => pts_nil)
          (fun _ _ _ _ _ => pe_cmpR (r := rInT K) (by exact op_inT hu) (pv 6) (pe_slice (r := rSlT K) (by exact sl_tup) (pv 3) po_none (po_some (pv 7))) (by rfl))) pa_nil))) (pss_one (ps_ret pe_bl)) pss_nil)
      (pss_one (ps_ret (pe_and (pe_call FT hr3 rfl mT kT bT .nil pass0 (pa_cons (pv 1) (pa_cons (pv 4) pa_nil))) (pe_one (pe_call FT hr3 rfl mT kT bT .nil pass0 (pa_cons (pv 1) (pa_cons (pv 5) pa_nil)))))))))))), ?_⟩
    have q0 := k H (Same.refl H)
    refine i_guard (ti_shapeL rfl (vi_var rfl) hx) (fun z => ?_) (fun z => ?_)
    · have z : shp 5 d = false := by simpa using z
      have e : isNet d = false := by simp [isNet, z]
      rw [e] at q0
      exact q0
    have z0 : shp 5 d = true := by simpa using z
    obtain ⟨a, xs, ds, rfl, rfl, e, ha, l2⟩ := shp_of hx z
    obtain ⟨d1, d2, d3, d4, d5, rfl⟩ := len5 l2
    have hl3 : lenT d4 ≤ 2000 := hl3
    have hl4 : lenT d5 ≤ 2000 := hl4
    cases ha with
    | cons h1 hr1 => cases hr1 with
      | cons h2 hr2' => cases hr2' with
        | cons h3 hr3' => cases hr3' with
          | cons h4 hr4' => cases hr4' with
            | cons h5 hr5 =>
              cases hr5
              refine ⟨_, rfl, a, _, rfl, SqT.of e, rfl, _, _, rfl, _, _, rfl, _, _, rfl, _, _, rfl, _, _, rfl, rfl, ?_⟩
              have e8 : isNet (.tuple [d1, d2, d3, d4, d5]) = (!(!isW d1 1 4 || !isW d2 0 4) && netAt d1 d2 d3 d4 d5) := by
                unfold isNet
                rw [z0, Bool.true_and]
                rfl
              rw [e8] at k q0
              dsimp only
              refine i_guard (D := { nx := _, rt := Q }) (b := (!isW d1 1 4 || (!isW d2 0 4 || (match d1, d2 with | .int m, .int u => decide (7 < m + u) | _, _ => false)))) (ti_or (ti_not (ti_val (vi_call (ai_cons (vi_var rfl) (ai_cons vi_c (ai_cons vi_c ai_nil))) fun Q q => spWithin_at h1 q)))
                fun c1 => ti_or (ti_not (ti_val (vi_call (ai_cons (vi_var rfl) (ai_cons vi_c (ai_cons vi_c ai_nil))) fun Q q => spWithin_at h2 q))) fun c2 => ti_test ?_) (fun z => ?_) (fun z => ?_)
              · obtain ⟨m, rfl, rfl⟩ := isW_int h1 (by simpa using c1)
                obtain ⟨u, rfl, rfl⟩ := isW_int h2 (by simpa using c2)
                exact vi_op (vi_op (vi_var rfl) (vi_var rfl) fun Q q => ⟨_, _, rfl, rfl, q⟩) vi_c fun Q q => ⟨_, _, rfl, rfl, q⟩
              · have e7 : (!(!isW d1 1 4 || !isW d2 0 4) && netAt d1 d2 d3 d4 d5) = false := by
                  cases c1 : isW d1 1 4 with
                  | false => rfl
                  | true =>
                    cases c2 : isW d2 0 4 with
                    | false => rfl
                    | true =>
                      obtain ⟨m, rfl⟩ := isW_data c1
                      obtain ⟨u, rfl⟩ := isW_data c2
                      rw [c1, c2] at z
                      have z : decide (7 < m + u) = true := z
                      simp [netAt, z]
                rw [e7] at q0
                exact q0
              rw [Bool.or_eq_false_iff, Bool.or_eq_false_iff, Bool.not_eq_false', Bool.not_eq_false'] at z
              obtain ⟨w1, w2, w3⟩ := z
              obtain ⟨m, rfl, rfl⟩ := isW_int h1 w1
              obtain ⟨u, rfl, rfl⟩ := isW_int h2 w2
              have w3 : decide (7 < m + u) = false := w3
              have e9 : (!(!isW (.int m) 1 4 || !isW (.int u) 0 4) && netAt (.int m) (.int u) d3 d4 d5) = (areP m u d3 && (areT m d4 && areT m d5)) := by
                rw [w1, w2]
                show (!decide (7 < m + u) && (areP m u d3 && (areT m d4 && areT m d5))) = _
                rw [w3]
                rfl
              rw [e9] at k q0
              refine i_guard (D := { nx := _, rt := Q }) (b := (!isin (tyN d3) "tuple" || decide ((12 : Int) < (lenT d3 : Int)))) (ti_or (ti_not (ti_val (vi_isi (vi_var rfl) h3 (by simp)))) fun z => ti_test (vi_op (vi_lenT (ai_cons (vi_var rfl) ai_nil) h3 (by rw [isin_tup] at z; simpa using z)) vi_c fun Q q => ⟨_, _, rfl, rfl, q⟩)) (fun z => ?_) (fun z => ?_)
              · have e7 : areP m u d3 = false := by
                  rw [isin_tup] at z
                  unfold areP
                  rw [Bool.or_eq_true, Bool.not_eq_true'] at z
                  rcases z with z | z <;> rw [z] <;> simp
                rw [e7] at q0
                exact q0
              rw [isin_tup, Bool.or_eq_false_iff, Bool.not_eq_false'] at z
              obtain ⟨z1, z2⟩ := z
              obtain ⟨b, ys, es, rfl, rfl, e', hb⟩ := tupOf h3 (of_decide_eq_true z1)
              have ep : areP m u (.tuple es) = (es.all (isPipe m u) && distB es) := by
                unfold areP
                rw [z1, z2, Bool.true_and]
                rfl
              rw [ep] at k q0
              have z2 := of_decide_eq_false z2
              simp only [lenT] at z2
              have hly := all2 hb
              refine g_guard (D := { nx := _, rt := Q }) (b := !(es.all (isPipe m u))) (tg_not (tg_val (vg_all (pd := isPipe m u) (vi_var rfl) e' hb (by omega) (fun x => rfl) fun H2 x d s2 hd Q q => ?_))) (fun z H1 s1 => ?_) (fun z H1 s1 => ?_)
              · exact ⟨_, rfl, _, rfl, _, rfl, _, _, _, _, rfl, hd, q⟩
              · rw [Bool.not_eq_true'] at z
                have := k H1 s1
                rw [z] at this
                exact this
              rw [Bool.not_eq_false'] at z
              rw [z, Bool.true_and] at k
              have hfl : ∀ d ∈ es, Flat d := fun d hd => pipe_flat (List.all_eq_true.mp z d hd)
              refine g_guard (D := { nx := _, rt := Q }) (b := !(distB es)) (tg_val fun Q q => ?_) (fun z H2 s2 => ?_) (fun z H2 s2 => ?_)
              · refine ⟨_, rfl, b, ys, rfl, SqT.of (s1.rd e'), fun D hD => ?_⟩
                have e2 := s1.rd e'
                have hb2 := ThAll.mono (Sm.same s1) hb
                refine lc_it (walk_enumT (K := K) (a := b) (xs := ys)) (fun n H' => Same H1 H' ∧ H' D = some (.lst ((List.range n).map fun i => V.bl ((es.take i).any fun z => PyData.eqv z (es.getD i .none))))) ⟨same_upd hD, upd_same⟩
                  (fun n H' _ z => SqT.of (z.1.rd e2)) ?_ ?_
                · rintro i x H' H'' hi ⟨s7, hD'⟩ ⟨U, x1, y1, rfl, hU, rfl, hx1, hy1⟩
                  cases hx1
                  obtain ⟨d, hdi, hth⟩ := all_get hb2 hy1
                  have sU := same_upd (o := .tup [V.int (i : Nat), y1]) hU
                  have s8 : Same H1 (upd H' U (.tup [V.int (i : Nat), y1])) := s7.trans sU
                  refine ⟨U, _, rfl, SqT.of upd_same, rfl, _, _, rfl, _, _, rfl, rfl, rfl, ?_⟩
                  dsimp only [tYes]
                  rw [if_pos rfl]
                  refine ⟨_, rfl, _, rfl, _, rfl, _, rfl, b, ys, rfl, SqT.of (s8.rd e2), fun z => ?_, fun p hp => ?_⟩
                  · have := z.2
                    rw [sIx_nat0 (Nat.le_of_lt hi)] at this
                    omega
                  rw [cut_to (Nat.le_of_lt hi)]
                  have s9 := s8.trans (same_upd (o := .tup (ys.take i)) hp)
                  have ed : es.getD i .none = d := by rw [List.getD_eq_getElem?_getD, hdi]; rfl
                  have hd : Flat d := hfl d (List.mem_of_getElem? hdi)
                  have htk : ∀ e ∈ es.take i, Flat e := fun e he => hfl e (List.mem_of_mem_take he)
                  have t1 := flat_shaped htk
                  refine ⟨d, es.take i, Th.dp (hth.mono (Sm.same s9)) hd.2.2, Th.dp (.tup upd_same ((ThAll.mono (Sm.same s9) hb2).take i)) t1.2, shaped_of hd.1 (by have := hd.2.1; omega), t1.1, ?_⟩
                  refine ⟨_, (sU.trans (same_upd hp)) _ _ hD', ?_, fun c o eb => ?_, ?_⟩
                  · rw [List.length_map, List.length_range]
                    exact Nat.lt_of_le_of_lt (show i ≤ 2000 by omega) (by decide)
                  · have nb : c ≠ D := fun z => by
                      rw [z, hD] at eb
                      cases eb
                    rw [upd_ne nb]
                    exact s9 _ _ eb
                  · rw [upd_same, List.range_succ, List.map_append, List.map_cons, List.map_nil, ed]
                · rintro H' ⟨s7, hD'⟩
                  refine ⟨D, (List.range ys.length).map fun i => ((es.take i).any fun z => PyData.eqv z (es.getD i .none)), rfl, SqL.of ?_, ?_⟩
                  · rw [hD', List.map_map]
                    rfl
                  · have e3 : ((List.range ys.length).map fun i => ((es.take i).any fun z => PyData.eqv z (es.getD i .none))).any id = !(distB es) := by
                      rw [List.any_map, hly]
                      exact any_not
                    rw [e3]
                    exact q _ s7
              · rw [Bool.not_eq_true'] at z
                have := k H2 (s1.trans s2)
                rw [z] at this
                exact this
              rw [Bool.not_eq_false'] at z
              rw [z, Bool.true_and] at k
              have sm := s1.trans s2
              refine g_ret (D := { nx := _, rt := Q }) (v := .bl (areT m d4 && areT m d5)) (vg_and (fun Q q => ?_) fun _ H3 s3 Q q => ?_) (fun H3 s3 => k H3 (sm.trans s3))
              · exact ⟨_, rfl, _, rfl, _, _, _, rfl, h4.mono (Sm.same sm), hl3, q⟩
              · exact ⟨_, rfl, _, rfl, _, _, _, rfl, h5.mono (Sm.same (sm.trans s3)), hl4, q⟩
end
end KP

set_option Elab.async false
set_option linter.all false
set_option maxRecDepth 100000
set_option maxHeartbeats 4000000
/-! ### number_from and the law's own -/
namespace KP
open PySem PySem.Spec PyProof.Rows L2 KX KT KJ KS FR PT SX
abbrev sNumber : Stmt := top 38
abbrev lDigits : Stmt := top 56
theorem litEq (w : Cs) (x : Str) : decide (V.str (S w) = V.str x) = decide (w = x.cps.toList) := by
  rw [Bool.eq_iff_iff, decide_eq_true_iff, decide_eq_true_iff]
  constructor
  · intro h
    have := V.str.inj h
    rw [← this]
  · intro h
    rw [h, S_tl]
def oV : Option Int → V
  | none => .non
  | some n => .int n
theorem oV_th (H : Hp) (o : Option Int) : Th H (oV o) (oD o) := by
  cases o with
  | none => exact .non
  | some n => exact .int n
structure TxN (K : PySem.W.Frag) (mg : Str → Option Value) : Prop extends TxD mg where
  fig : ∃ t, mg "FIGURES" = some (.str "0123456789" t)
theorem fig_dig (c : Nat) : decide (c ∈ ("0123456789" : Str).cps.toList) = dig c := by
  have e : ("0123456789" : Str).cps.toList = [48, 49, 50, 51, 52, 53, 54, 55, 56, 57] := by decide +kernel
  rw [e, Bool.eq_iff_iff, decide_eq_true_iff]
  unfold dig
  rw [Bool.and_eq_true, decide_eq_true_iff, decide_eq_true_iff]
  simp only [List.mem_cons, List.not_mem_nil, or_false]
  omega
theorem empty_cs : ("" : Str).cps.toList = [] := by decide +kernel
theorem nought_cs : ("0" : Str).cps.toList = [48] := by decide +kernel
def spNumber (Ps : List Addr) : Sp := fun vs H Q _ => ∃ w : Cs, vs = [.str (S w)] ∧ w.length ≤ 640 ∧ Tbs Ps H ∧ ∀ H', Grown Ps H H' → Q (oV (numW w)) H'
section
variable {P : Program} {w : World} {K : PySem.W.Frag} {mg : Str → Option Value} {base : Heap}
theorem scNf : FnScope ["word", "sign"] ["word"] (defScope sNumber) := ⟨rfl, rfl, rfl, by decide +kernel, rfl, by decide +kernel, by decide +kernel⟩
theorem ok_number {f c PT' : Addr} {fd : FuncData} {Ps : List Addr} (F : FunC K "number_from" "number_from" sNumber f fd c) (T : TxN K mg) (TB : GxR.TabB base mg c PT') (hP : PT' ∈ Ps) :
    FnOk P w K mg base CX0 2 f fd ["word"] (spNumber Ps) := by
  obtain ⟨tf, hfig⟩ := T.fig
  refine F.ok scNf (fun {vs H Q E} h => ?_) (fun A outer s H vs Q E hr h => ?_)
  · obtain ⟨x, rfl, _⟩ := h
    rfl
  · obtain ⟨x, rfl, hl, tb, k⟩ := h
    refine ⟨_, pss_cons (ps_if (pw_or (pt_cmpR op_eq (pv 0) pe_str (nomark _)) (pw_or1 (pt_not (pt_val (KG.pe_allG (k := 0) (own := [("sign", 1)]) (g := gName 1) rfl scNf.nd hr (by rfl) T.all (by decide +kernel) TB rfl ⟨blkOk_by (N := ["word", "sign"]) (sc := defScope sNumber) (by decide +kernel), rfl, by decide +kernel, by decide +kernel⟩ (pi_str (pv 0))
          (fun _ _ _ _ _ _ _ _ => pg_name (i := 1) scNf.nd rfl (Or.inl rfl)) (fun _ _ _ _ _ _ _ _ hB => pe_cmpR op_in_sign (pv 1) (pe_glob (v := .str "0123456789") (by rfl) hfig ⟨_, rfl⟩) (by rfl)) (fun _ => rfl)))))).pt (pss_one (ps_ret pe_non)) pss_nil)
      (pss_cons (ps_if (pw_and (pt_cmpR op_eq (pe_item_str (pv 0) pe_int (fun _ _ => rfl)) pe_str (nomark _)) (pw_and1 (pt_cmpR op_ne (pv 0) pe_str (nomark _)))).pt (pss_one (ps_ret pe_non)) pss_nil)
      (pss_one (ps_ret (pe_callTy call_int_str (by rfl) T.int (by decide +kernel) (pa_cons (pv 0) pa_nil))))), ?_⟩
    have no : ∀ H', Grown Ps H H' → isNum x = false → Q .non H' := fun H' g h => by
      have := k H' g
      unfold numW at this
      rw [h] at this
      exact this
    -- what follows the first test
    refine ⟨_, rfl, rfl, _, rfl, ?_⟩
    rw [litEq, empty_cs]
    refine iteB (fun c => ?_) (fun c => ?_)
    · refine iteB (fun _ => ?_) (fun z => by cases z)
      have e := of_decide_eq_true c
      exact no H (Grown.same (Same.refl H) tb) (by rw [e]; rfl)
    have ne : x ≠ [] := of_decide_eq_false c
    have hsz : (S x).cps.size = x.length := by simp [S]
    refine ⟨_, rfl, S x, rfl, tb _ hP, fun H2 tab => ?_⟩
    have g2 : Grown Ps H H2 := Grown.tabbed tab tb hP
    refine ⟨fun i m H' => m = x.length - i ∧ i ≤ x.length ∧ H' = H2 ∧ (x.take i).all dig = true, ⟨x.length, by simp, Nat.zero_le _, rfl, rfl⟩, ?_⟩
    rintro i m H' ⟨rfl, hi, rfl, hall⟩
    by_cases hlt : i < x.length
    · refine .inr ⟨by show i < (S x).cps.size; omega, ?_⟩
      rintro v H3 ⟨rfl, ch, hc, rfl⟩
      refine ⟨rfl, _, rfl, ch, _, rfl, rfl, ?_⟩
      rw [fig_dig]
      have hx : x[i]? = some ch := by
        rw [← hc]
        simp [S]
      have et : x.take (i + 1) = x.take i ++ [ch] := by rw [List.take_add_one, hx]; rfl
      cases hd : dig ch with
      | true =>
        refine .inl ⟨rfl, x.length - (i + 1), by omega, rfl, by omega, rfl, ?_⟩
        rw [et, List.all_append, hall]
        simp [hd]
      | false =>
        refine .inr ⟨rfl, _, rfl, iteB (fun _ => ?_) (fun z => by cases z)⟩
        refine no _ g2 ?_
        have : x.all dig = false := by
          rw [List.all_eq_false]
          exact ⟨ch, List.mem_of_getElem? hx, by simp [hd]⟩
        unfold isNum
        rw [this]
        simp
    · refine .inl ⟨by show (S x).cps.size ≤ i; omega, _, rfl, iteB (fun z => by cases z) fun _ => ?_⟩
      rw [List.take_of_length_le (by omega)] at hall
      have hem : x.isEmpty = false := by
        cases x with
        | nil => exact absurd rfl ne
        | cons _ _ => rfl
      obtain ⟨c0, r0, rfl⟩ : ∃ c0 r0, x = c0 :: r0 := by
        cases x with
        | nil => exact absurd rfl ne
        | cons a b => exact ⟨a, b, rfl⟩
      have yes : isNum (c0 :: r0) = true → ∃ n, PySem.intText? (S (c0 :: r0)) = some n ∧ Q (.int n) H' := fun h => by
        refine ⟨valN (c0 :: r0), int_ok h (by omega), ?_⟩
        have := k H' g2
        unfold numW at this
        rw [h] at this
        exact this
      have en : isNum (c0 :: r0) = (decide (c0 :: r0 = [48]) || !decide (c0 = 48)) := by
        unfold isNum
        rw [hem, hall]
        have e : decide ((c0 :: r0).head? = some 48) = decide (c0 = 48) := by
          rw [Bool.eq_iff_iff, decide_eq_true_iff, decide_eq_true_iff]
          simp
        rw [e]
        rfl
      have z1 : decide (V.str ⟨#[c0]⟩ = V.str ("0" : Str)) = decide (c0 = 48) := by
        have := litEq [c0] "0"
        rw [nought_cs] at this
        refine this.trans ?_
        rw [Bool.eq_iff_iff, decide_eq_true_iff, decide_eq_true_iff]
        simp
      refine ⟨_, rfl, S (c0 :: r0), 0, c0, rfl, rfl, by decide, by decide, ?_, by simp [S], rfl, _, rfl, ?_⟩
      · rw [S_len, List.length_cons]
        omega
      rw [z1]
      refine iteB (fun c1 => ?_) (fun c1 => ?_)
      · refine ⟨_, rfl, rfl, _, rfl, ?_⟩
        rw [litEq, nought_cs]
        refine iteB (fun c2 => ?_) (fun c2 => ?_)
        · refine no H' g2 ?_
          rw [Bool.not_eq_true'] at c2
          rw [en, c1, c2]
          rfl
        · obtain ⟨n, e1, q⟩ := yes (by rw [Bool.not_eq_false'] at c2; rw [en, c2]; rfl)
          exact ⟨_, rfl, _, n, rfl, e1, by rw [S_len]; exact hl, q⟩
      · refine iteB (fun z => by cases z) fun _ => ?_
        obtain ⟨n, e1, q⟩ := yes (by rw [en, c1]; simp)
        exact ⟨_, rfl, _, n, rfl, e1, by rw [S_len]; exact hl, q⟩
theorem shaped_strs (ws : List Cs) (h : ∀ w ∈ ws, ∀ c ∈ w, c < 128) : SeqAt.shaped (.list (ws.map fun w => PyData.str (S w))) = true := by
  have a : ∀ ws : List Cs, (∀ w ∈ ws, ∀ c ∈ w, c < 128) → PyData.canLayAll0 (ws.map fun w => PyData.str (S w)) = true := fun ws => by
    induction ws with
    | nil => exact fun _ => rfl
    | cons w ws ih =>
      intro h
      simp only [List.map_cons, PyData.canLayAll0, Bool.and_eq_true]
      refine ⟨?_, ih fun w' hw' => h w' (List.mem_cons_of_mem _ hw')⟩
      simp only [PyData.canLay0, PyData.strOk]
      rw [← Array.all_toList, List.all_eq_true]
      intro c hc
      have := h w List.mem_cons_self c hc
      exact decide_eq_true (by omega)
  refine shaped_of (by simpa only [PyData.canLay0] using a ws h) ?_
  simp only [PyData.depth]
  have := depthAll_of (n := 1) (ds := ws.map fun w => PyData.str (S w)) fun d hd => by
    obtain ⟨w, _, rfl⟩ := List.mem_map.mp hd
    simp [PyData.depth]
  omega
/-- the law's own look at figures -/
def spDigits (K : PySem.W.Frag) : Sp := fun vs H Q _ => ∃ w : Cs, vs = [.str (S w)] ∧ w.length ≤ 640 ∧ (∀ c ∈ w, c < 128) ∧ ∀ H', Same H H' → Q (.bl (isNum w)) H'
theorem scDg : FnScope ["word", "sign"] ["word"] (defScope lDigits) := ⟨rfl, rfl, rfl, by decide +kernel, rfl, by decide +kernel, by decide +kernel⟩
theorem ok_digits {f : Addr} {fd : FuncData} (F : Fun K "_law_digits" "_law_digits" lDigits f fd) : FnOk P w K mg base CX0 1 f fd ["word"] (spDigits K) := by
  refine F.ok scDg (fun vs H Q E h => ?_) (fun cdv A outer s H vs Q E hr h => ?_)
  · obtain ⟨x, rfl, _⟩ := h
    rfl
  · obtain ⟨x, rfl, hl, asc, k⟩ := h
    have hu64 : (A.deeper (envOfC "_law_digits" (defScope lDigits) s.heap.objs.size f cdv)).units + 64 < cLine := by have := hr.un; omega
    refine ⟨_, pss_cons (ps_if (pw_or (pt_cmpR op_eq (pv 0) pe_str (nomark _)) (pw_or1 (pt_cmpR (op_neD hu64) (pe_lc (own := [("sign", 1)]) (g := gName 1) rfl scDg.nd (pi_str (pv 0)) (blkOk_by (N := ["word", "sign"]) (sc := defScope lDigits) (by decide +kernel))
          (fun _ _ _ _ _ => pg_name (i := 1) scDg.nd rfl (Or.inl rfl)) (fun _ _ _ _ _ => pts_one (pt_cmpR op_notIn_sign (pv 1) pe_str (by rfl))) (fun _ _ _ _ _ => pv 1)) (pe_lst pa_nil) (by rfl)))).pt (pss_one (ps_ret pe_bl)) pss_nil)
      (pss_one (ps_ret (pe_or (pe_cmpR op_eq (pv 0) pe_str (nomark _)) (pe_one (pe_cmpR op_ne (pe_item_str (pv 0) pe_int (fun _ _ => rfl)) pe_str (nomark _)))))), ?_⟩
    have no : ∀ H', Same H H' → isNum x = false → Q (.bl false) H' := fun H' g h => by
      have := k H' g
      rw [h] at this
      exact this
    refine ⟨_, rfl, rfl, _, rfl, ?_⟩
    rw [litEq, empty_cs]
    refine iteB (fun c => ?_) (fun c => ?_)
    · refine iteB (fun _ => ?_) (fun z => by cases z)
      have e := of_decide_eq_true c
      exact no H (Same.refl H) (by rw [e]; rfl)
    have ne : x ≠ [] := of_decide_eq_false c
    have hsz : (S x).cps.size = x.length := by simp [S]
    refine ⟨_, rfl, S x, rfl, fun D hD => ?_⟩
    refine lc_it (walk_str (z := S x)) (fun i H' => Same H H' ∧ H' D = some (.lst (((x.take i).filter fun c => !dig c).map fun c => V.str (S [c])))) ⟨same_upd hD, upd_same⟩ (fun _ _ _ _ => trivial) ?_ ?_
    · rintro i v H1 _ hi ⟨s1, e1⟩ ⟨rfl, ch, hc, rfl⟩
      have hx : x[i]? = some ch := by
        rw [← hc]
        simp [S]
      have et : x.take (i + 1) = x.take i ++ [ch] := by rw [List.take_add_one, hx]; rfl
      refine ⟨rfl, _, rfl, ch, _, rfl, rfl, _, rfl, ?_⟩
      rw [fig_dig, et, List.filter_append]
      refine iteB (fun c => ?_) (fun c => ?_)
      · refine ⟨_, rfl, _, e1, ?_, same_put s1 hD, ?_⟩
        · rw [List.length_map]
          have := List.length_filter_le (fun c => !dig c) (x.take i)
          rw [List.length_take] at this
          exact Nat.lt_of_le_of_lt (show _ ≤ 640 by omega) (by decide)
        · rw [upd_same, List.filter_cons_of_pos (p := fun c => !dig c) c, List.map_append]
          rfl
      · refine ⟨s1, ?_⟩
        rw [e1, List.filter_cons_of_neg (p := fun c => !dig c) (by rw [c]; decide), List.filter_nil, List.append_nil]
    rintro H1 ⟨s1, e1⟩
    rw [hsz, List.take_length] at e1
    refine ⟨by decide, fun l hl0 => ?_⟩
    have sl := same_upd (o := .lst ([] : List V)) hl0
    have s2 := s1.trans sl
    have dps : ∀ cs : List Nat, DpAll K (upd H1 l (.lst [])) (cs.map fun c => V.str (S [c])) (cs.map fun c => PyData.str (S [c])) := fun cs => by
      induction cs with
      | nil => exact .nil
      | cons a cs ih => exact .cons (.str _) ih
    refine ⟨.list (((x.filter fun c => !dig c)).map fun c => PyData.str (S [c])), .list [], .lst (SqL.of (sl _ _ e1)) (dps _), .lst (SqL.of upd_same) .nil, ?_, by decide +kernel, ?_⟩
    · refine shaped_strs ((x.filter fun c => !dig c).map fun c => [c]) (fun w hw => ?_) |> fun h => by rw [List.map_map] at h; exact h
      obtain ⟨c, hc, rfl⟩ := List.mem_map.mp hw
      intro d hd
      rw [List.mem_singleton.mp hd]
      exact asc c (List.mem_filter.mp hc).1
    have e0 : PyData.eqv (.list ((x.filter fun c => !dig c).map fun c => PyData.str (S [c]))) (.list []) = x.all dig := by
      rw [Bool.eq_iff_iff, List.all_eq_true]
      cases q : x.filter fun c => !dig c with
      | nil =>
        have := List.filter_eq_nil_iff.mp q
        simp only [List.map_nil]
        refine ⟨fun _ c hc => by simpa using this c hc, fun _ => by simp [PyData.eqv, PyData.eqvAll]⟩
      | cons a l =>
        have hm : a ∈ x.filter fun c => !dig c := by rw [q]; exact List.mem_cons_self
        have hm := List.mem_filter.mp hm
        refine ⟨fun z => by simp [PyData.eqv, PyData.eqvAll] at z, fun z => ?_⟩
        have := z a hm.1
        rw [this] at hm
        cases hm.2
    rw [e0]
    refine ⟨_, rfl, iteB (fun c => ?_) (fun c => ?_)⟩
    · refine no _ s2 ?_
      rw [Bool.not_eq_true'] at c
      unfold isNum
      rw [c]
      simp
    have hall : x.all dig = true := by simpa using c
    have hem : x.isEmpty = false := by
      cases x with
      | nil => exact absurd rfl ne
      | cons _ _ => rfl
    obtain ⟨c0, r0, rfl⟩ : ∃ c0 r0, x = c0 :: r0 := by
      cases x with
      | nil => exact absurd rfl ne
      | cons a b => exact ⟨a, b, rfl⟩
    have en : isNum (c0 :: r0) = (decide (c0 :: r0 = [48]) || !decide (c0 = 48)) := by
      unfold isNum
      rw [hem, hall]
      have e : decide ((c0 :: r0).head? = some 48) = decide (c0 = 48) := by
        rw [Bool.eq_iff_iff, decide_eq_true_iff, decide_eq_true_iff]
        simp
      rw [e]
      rfl
    have z1 : decide (V.str ⟨#[c0]⟩ = V.str ("0" : Str)) = decide (c0 = 48) := by
      have := litEq [c0] "0"
      rw [nought_cs] at this
      refine this.trans ?_
      rw [Bool.eq_iff_iff, decide_eq_true_iff, decide_eq_true_iff]
      simp
    have fin : ∀ b, b = isNum (c0 :: r0) → Q (.bl b) (upd H1 l (.lst [])) := fun b h => by
      rw [h]
      exact k _ s2
    refine ⟨_, rfl, rfl, _, rfl, ?_⟩
    rw [litEq, nought_cs]
    refine iteB (fun c1 => fin _ (by rw [en, c1]; rfl)) (fun c1 => ?_)
    refine ⟨_, rfl, S (c0 :: r0), 0, c0, rfl, rfl, by decide, by decide, ?_, by simp [S], rfl, ?_⟩
    · rw [S_len, List.length_cons]
      omega
    rw [z1]
    exact fin _ (by rw [en, c1]; rfl)
end
end KP

set_option Elab.async false
set_option linter.all false
set_option maxRecDepth 100000
set_option maxHeartbeats 4000000
/-! ### words, shares and pipes as the program reads them -/
namespace KP
open PySem PySem.Spec PyProof.Rows L2 KX KT KJ KS FR PT SX
abbrev sSigned : Stmt := top 37
abbrev sFracFrom : Stmt := top 36
abbrev sShareFrom : Stmt := top 35
abbrev sPipeFrom : Stmt := top 34
abbrev sWordsOf : Stmt := top 30
theorem cut_take (w : Cs) : cutS (S w) none (some 1) = S (w.take 1) := by
  unfold cutS
  rw [HT.sIx_none, show (1 : Int) = ((1 : Nat) : Int) from rfl, HT.sIx_nat, S_len]
  show S (((w.drop 0).take (min 1 w.length - 0))) = S (w.take 1)
  rw [List.drop_zero]
  cases w with
  | nil => rfl
  | cons a r => rw [show min 1 (a :: r).length - 0 = 1 by simp only [List.length_cons]; omega]
theorem cut_drop (w : Cs) : cutS (S w) (some 1) none = S (w.drop 1) := by
  unfold cutS
  rw [HT.sIx_none, show (1 : Int) = ((1 : Nat) : Int) from rfl, HT.sIx_nat, S_len]
  show S (((w.drop (min 1 w.length)).take (w.length - min 1 w.length))) = S (w.drop 1)
  cases w with
  | nil => rfl
  | cons a r =>
    rw [show min 1 (a :: r).length = 1 by simp only [List.length_cons]; omega]
    rw [List.take_of_length_le (by rw [List.length_drop]; exact Nat.le_refl _)]
def OTh (H : Hp) (v : V) : Option PyData → Prop
  | none => v = .non
  | some d => Th H v d
theorem OTh.mono {H H' : Hp} (s : Sm H H') {v : V} {o : Option PyData} (h : OTh H v o) : OTh H' v o := by
  cases o with
  | none => exact h
  | some d => exact Th.mono s h
theorem OTh.non {H : Hp} {v : V} {o : Option PyData} (h : OTh H v o) (hn : ∀ d, o = some d → d ≠ .none) : decide (v = .non) = o.isNone := by
  cases o with
  | none => exact decide_eq_true h
  | some d =>
    refine decide_eq_false fun z => ?_
    have h : Th H v d := h
    rw [z] at h
    cases h
    exact hn _ rfl rfl
theorem frac_tup {w : Cs} {d : PyData} (h : fracW w = some d) : d ≠ .none := by
  unfold fracW at h
  split at h
  · cases h
    exact fun z => by cases z
  · cases h
theorem share_tup {w : Cs} {d : PyData} (h : shareW w = some d) : d ≠ .none := by
  unfold shareW at h
  split at h
  · cases q : numW (w.drop 1) with
    | none => rw [q] at h; cases h
    | some n => rw [q] at h; cases h; exact fun z => by cases z
  · exact frac_tup h
def spSigned (Ps : List Addr) : Sp := fun vs H Q _ => ∃ w : Cs, vs = [.str (S w)] ∧ w.length ≤ 640 ∧ Tbs Ps H ∧ ∀ H', Grown Ps H H' → Q (oV (signW w)) H'
def spRead (Ps : List Addr) (g : Cs → Option PyData) : Sp := fun vs H Q _ => ∃ w : Cs, vs = [.str (S w)] ∧ w.length ≤ 640 ∧ Tbs Ps H ∧ ∀ v H', Grown Ps H H' → OTh H' v (g w) → Q v H'
section
variable {K : PySem.W.Frag} {σ : L2.St} {H : Hp}
theorem small_w {w : Cs} (h : w.length ≤ 640) : (S w).length ≤ sizeLine := by
  rw [S_len, sizeLine_eq]
  omega
theorem vi_take1 {te : TE} {w : Cs} (h : Vi te σ H (.str (S w))) (hl : w.length ≤ 640) : Vi (tSl rSlS te tNoPart (tPart (tC (.int 1)))) σ H (.str (S (w.take 1))) := fun Q q => h _ ⟨1, rfl, S w, rfl, small_w hl, by rw [cut_take]; exact q⟩
theorem vi_drop1 {te : TE} {w : Cs} (h : Vi te σ H (.str (S w))) (hl : w.length ≤ 640) : Vi (tSl rSlS te (tPart (tC (.int 1))) tNoPart) σ H (.str (S (w.drop 1))) := fun Q q => h _ ⟨1, rfl, S w, rfl, small_w hl, by rw [cut_drop]; exact q⟩
theorem vi_eqS {ta : TE} {w l : Cs} {x : Str} (h : Vi ta σ H (.str (S w))) (e : x.cps.toList = l) : Vi (tOp rEq ta (tC (.str x))) σ H (.bl (decide (w = l))) := vi_op h vi_c fun Q q => ⟨rfl, by rw [litEq, e]; exact q⟩
theorem vi_neS {ta : TE} {w l : Cs} {x : Str} (h : Vi ta σ H (.str (S w))) (e : x.cps.toList = l) : Vi (tOp rNe ta (tC (.str x))) σ H (.bl (!decide (w = l))) := vi_op h vi_c fun Q q => ⟨rfl, by rw [litEq, e]; exact q⟩
theorem vi_isN {ta : TE} {v : V} {b : Bool} (h : Vi ta σ H v) (e : decide (v = .non) = b) : Vi (tOp (fun x y H Q => y = .non ∧ Q (.bl (decide (x = .non))) H) ta (tC .non)) σ H (.bl b) := vi_op h vi_c fun Q q => ⟨rfl, by rw [e]; exact q⟩
end
theorem i_setCall {sp : Sp} {E : XK} {ta : TA} {tz : TS} {D : Ends} {σ : L2.St} {H : Hp} {i : Nat} {vs : List V} (h : Ai ta σ H vs) (k : sp vs H (fun v H' => tz D (σ.set i (some v)) H') E) : tSeq (tAsg (tCall sp [] E ta) (gName i)) tz D σ H := h _ (by rw [List.append_nil]; exact k)
theorem oV_non (o : Option Int) : decide (oV o = .non) = o.isNone := by
  cases o <;> rfl
theorem dash_cs : ("-" : Str).cps.toList = [45] := by decide +kernel
theorem slash_cs : ("/" : Str).cps.toList = [47] := by decide +kernel
theorem x_cs : ("x" : Str).cps.toList = [120] := by decide +kernel
theorem out_cs : ("out" : Str).cps.toList = cOut := by decide +kernel
section
variable {P : Program} {w : World} {K : PySem.W.Frag} {mg : Str → Option Value} {base : Heap}
theorem scSg : FnScope ["word", "size"] ["word"] (defScope sSigned) := ⟨rfl, rfl, rfl, by decide +kernel, rfl, by decide +kernel, by decide +kernel⟩
theorem ok_signed {f fN : Addr} {fd fdN : FuncData} {Ps : List Addr} (F : Fun K "_signed_from" "_signed_from" sSigned f fd) (FN : FnOk P w K mg base CX0 2 fN fdN ["word"] (spNumber Ps)) (mN : mg "number_from" = some (.ref fN)) (kN : PySem.W.keepIn K (.ref fN) = true) (bN : Binds K fdN ["word"] []) :
    FnOk P w K mg base CX0 3 f fd ["word"] (spSigned Ps) := by
  refine F.ok scSg (fun vs H Q E h => ?_) (fun cdv A outer s H vs Q E hr h => ?_)
  · obtain ⟨x, rfl, _⟩ := h
    rfl
  · obtain ⟨x, rfl, hl, tb, k⟩ := h
    refine ⟨_, pss_cons (ps_if (pt_cmpR op_ne (pe_slice sl_str (pv 0) po_none (po_some pe_int)) pe_str (nomark _)) (pss_one (ps_ret (pe_call FN hr (by rfl) mN kN bN .nil pass0 (pa_cons (pv 0) pa_nil)))) pss_nil)
      (pss_cons (ps_set (i := 1) scSg.nd rfl (Or.inl rfl) (pe_call FN hr (by rfl) mN kN bN .nil pass0 (pa_cons (pe_slice sl_str (pv 0) (po_some pe_int) po_none) pa_nil)))
      (pss_one (ps_ret (pe_ifExp (pw_or (pt_cmpR op_isN (pv 1) pe_non (nomark _)) (pw_or1 (pt_cmpR op_eq (pv 1) pe_int (nomark _)))).pt pe_non (pe_un un_neg (pv 1)))))), ?_⟩
    refine i_when (b := !decide (x.take 1 = [45])) (ti_test (vi_neS (vi_take1 (vi_var rfl) hl) dash_cs)) (fun c => ?_) (fun c => ?_)
    · refine ret_call (K := K) (ai_cons (vi_var rfl) ai_nil) ⟨x, rfl, hl, tb, fun H' g => ?_⟩
      have := k H' g
      unfold signW at this
      rw [if_neg (by simpa using c)] at this
      exact this
    · have c : x.take 1 = [45] := by simpa using c
      refine i_setCall (ai_cons (vi_drop1 (vi_var (v := .str (S x)) rfl) hl) ai_nil) ⟨x.drop 1, rfl, by rw [List.length_drop]; omega, tb, fun H' g => ?_⟩
      have k1 := k H' g
      unfold signW at k1
      rw [if_pos c] at k1
      cases q : numW (x.drop 1) with
      | none =>
        rw [q] at k1
        exact ⟨_, rfl, rfl, _, rfl, k1⟩
      | some n =>
        rw [q] at k1
        refine ⟨_, rfl, rfl, _, rfl, ?_⟩
        refine ⟨_, rfl, rfl, _, rfl, ?_⟩
        refine iteB (fun z => ?_) (fun z => ?_)
        · have e : n = 0 := by simpa [oV] using z
          have k1 : Q (oV (if n = 0 then none else some (-n))) H' := k1
          rw [if_pos e] at k1
          exact k1
        · have e : n ≠ 0 := by simpa [oV] using z
          have k1 : Q (oV (if n = 0 then none else some (-n))) H' := k1
          rw [if_neg e] at k1
          exact ⟨_, rfl, n, rfl, k1⟩
theorem scFf : FnScope ["word", "head", "slash", "tail", "above", "below"] ["word"] (defScope sFracFrom) := ⟨rfl, rfl, rfl, by decide +kernel, rfl, by decide +kernel, by decide +kernel⟩
theorem cut1_len (c : Nat) : ∀ w : Cs, (cut1 c w).1.length ≤ w.length ∧ ∀ t, (cut1 c w).2 = some t → t.length ≤ w.length
  | [] => ⟨Nat.le_refl _, fun t z => by cases z⟩
  | x :: r => by
    obtain ⟨a, b⟩ := cut1_len c r
    by_cases e : x = c
    · rw [cut1_hit e]
      exact ⟨Nat.zero_le _, fun t z => by cases z; exact Nat.le_succ _⟩
    · rw [cut1_cons e]
      exact ⟨Nat.succ_le_succ a, fun t z => Nat.le_succ_of_le (b t z)⟩
theorem ok_fracfrom {f fN fS : Addr} {fd fdN fdS : FuncData} {Ps : List Addr} (F : Fun K "fraction_from" "fraction_from" sFracFrom f fd) (FN : FnOk P w K mg base CX0 2 fN fdN ["word"] (spNumber Ps)) (mN : mg "number_from" = some (.ref fN)) (kN : PySem.W.keepIn K (.ref fN) = true) (bN : Binds K fdN ["word"] [])
    (FS : FnOk P w K mg base CX0 3 fS fdS ["word"] (spSigned Ps)) (mS : mg "_signed_from" = some (.ref fS)) (kS : PySem.W.keepIn K (.ref fS) = true) (bS : Binds K fdS ["word"] []) :
    FnOk P w K mg base CX0 4 f fd ["word"] (spRead Ps fracW) := by
  refine F.ok scFf (fun vs H Q E h => ?_) (fun cdv A outer s H vs Q E hr h => ?_)
  · obtain ⟨x, rfl, _⟩ := h
    rfl
  · obtain ⟨x, rfl, hl, tb, k⟩ := h
    have hr2 : Room 2 _ := hr.mono (by decide)
    refine ⟨_, pss_cons (ps_asg (pe_partition (pv 0) pe_str) (pg_tup rfl (pgs_cons (pg_name (i := 1) scFf.nd rfl (Or.inl rfl)) (pgs_cons (pg_name (i := 2) scFf.nd rfl (Or.inl rfl)) (pgs_cons (pg_name (i := 3) scFf.nd rfl (Or.inl rfl)) pgs_nil)))))
      (pss_cons (ps_set (i := 4) scFf.nd rfl (Or.inl rfl) (pe_call FS hr (by rfl) mS kS bS .nil pass0 (pa_cons (pv 1) pa_nil)))
      (pss_cons (ps_set (i := 5) scFf.nd rfl (Or.inl rfl) (pe_ifExp (pt_cmpR op_eq (pv 2) pe_str (nomark _)) (pe_call FN hr2 (by rfl) mN kN bN .nil pass0 (pa_cons (pv 3) pa_nil)) pe_int))
      (pss_cons (ps_if (pw_or (pt_cmpR op_isN (pv 4) pe_non (nomark _)) (pw_or1 (pt_cmpR op_isN (pv 5) pe_non (nomark _)))).pt (pss_one (ps_ret pe_non)) pss_nil)
      (pss_one (ps_ret (pe_tup (pa_cons (pv 4) (pa_cons (pv 5) pa_nil)))))))), ?_⟩
    obtain ⟨l1, l2⟩ := cut1_len 47 x
    refine ⟨_, rfl, ⟨_, rfl⟩, S x, "/", rfl, rfl, rfl, small_w hl, fun p hp => ?_⟩
    have es : ("/" : Str) = S [47] := by decide +kernel
    rw [es, partition_eq]
    have sp := same_upd (o := .tup [.str (match (cut1 47 x).2 with | some t => (S (cut1 47 x).1, S [47], S t) | none => (S x, S [], S [])).1, .str (match (cut1 47 x).2 with | some t => (S (cut1 47 x).1, S [47], S t) | none => (S x, S [], S [])).2.1, .str (match (cut1 47 x).2 with | some t => (S (cut1 47 x).1, S [47], S t) | none => (S x, S [], S [])).2.2]) hp
    have g0 := Grown.same sp tb
    refine ⟨p, _, rfl, .inl (.inl upd_same), rfl, ?_⟩
    have hd : (match (cut1 47 x).2 with | some t => (S (cut1 47 x).1, S [47], S t) | none => (S x, S [], S [])).1 = S (cut1 47 x).1 := by
      cases q : (cut1 47 x).2 with
      | none => exact congrArg S (cut1_none 47 q).symm
      | some t => rfl
    have fin : ∀ (a b : Option Int) (H2 : Hp), signW (cut1 47 x).1 = a → lowW (cut1 47 x).2 = b → Grown Ps H H2 → (a = none ∨ b = none → Q .non H2) ∧ (∀ i j, a = some i → b = some j → ∀ q, H2 q = none → Q (.ref q) (upd H2 q (.tup [.int i, .int j]))) := fun a b H2 ea eb g => by
      have k1 := fun v H' => k v H'
      unfold fracW at k1
      rw [ea, eb] at k1
      refine ⟨fun z => k1 _ H2 g ?_, fun i j e1 e2 q hq => ?_⟩
      · rcases z with z | z
        · rw [z]; rfl
        · rw [z]; cases a <;> rfl
      · rw [e1, e2] at k1
        exact k1 _ _ (g.trans (Grown.same (same_upd hq) g.tbs)) (.tup upd_same (.cons (.int _) (.cons (.int _) .nil)))
    refine ⟨_, _, rfl, _, _, rfl, _, _, rfl, rfl, ?_⟩
    refine i_setCall (ai_cons (vi_var rfl) ai_nil) ⟨(cut1 47 x).1, congrArg (fun z => [V.str z]) hd, by omega, g0.tbs, fun H1 g1 => ?_⟩
    have g1 := g0.trans g1
    -- below
    have rest : ∀ (b : Option Int) (H2 : Hp) (σ : L2.St), lowW (cut1 47 x).2 = b → Grown Ps H H2 → σ[4]? = some (some (oV (signW (cut1 47 x).1))) → σ[5]? = some (some (oV b)) →
        tSeq (tIfS (tOr (tTest (tOp (fun x y H Q => y = .non ∧ Q (.bl (decide (x = .non))) H) (tVar 4) (tC .non))) (tTest (tOp (fun x y H Q => y = .non ∧ Q (.bl (decide (x = .non))) H) (tVar 5) (tC .non)))) (tRet (tC .non)) tNext) (tRet (tTup (tCons (tVar 4) (tCons (tVar 5) tNil)))) { nx := fun _ H' => Q .non H', rt := Q } σ H2 := fun b H2 σ eb g s4 s5 => by
      obtain ⟨f1, f2⟩ := fin _ b H2 rfl eb g
      refine i_when (b := (signW (cut1 47 x).1).isNone || b.isNone) (ti_or (ti_test (vi_isN (vi_var s4) (oV_non _))) fun _ => ti_test (vi_isN (vi_var s5) (oV_non _))) (fun c => ?_) (fun c => ?_)
      · refine i_ret vi_c (f1 ?_)
        rw [Bool.or_eq_true, Option.isNone_iff_eq_none, Option.isNone_iff_eq_none] at c
        exact c
      · rw [Bool.or_eq_false_iff] at c
        cases qa : signW (cut1 47 x).1 with
        | none => rw [qa] at c; cases c.1
        | some i =>
          cases qb : b with
          | none => rw [qb] at c; cases c.2
          | some j =>
            rw [qa] at s4
            rw [qb] at s5
            exact ret_tup2 (vi_var s4) (vi_var s5) fun p hp => f2 i j qa qb p hp
    cases q : (cut1 47 x).2 with
    | none =>
      refine ⟨_, rfl, rfl, _, rfl, ?_⟩
      exact rest (some 1) H1 _ (by rw [q]; rfl) g1 rfl rfl
    | some t =>
      refine ⟨_, rfl, rfl, _, rfl, ?_⟩
      refine ⟨_, rfl, t, rfl, Nat.le_trans (l2 t q) hl, g1.tbs, fun H2 g2 => ?_⟩
      exact rest (numW t) H2 _ (by rw [q]; rfl) (g1.trans g2) rfl rfl
theorem scSf : FnScope ["word", "unknown"] ["word"] (defScope sShareFrom) := ⟨rfl, rfl, rfl, by decide +kernel, rfl, by decide +kernel, by decide +kernel⟩
theorem ok_sharefrom {f fN fF : Addr} {fd fdN fdF : FuncData} {Ps : List Addr} (F : Fun K "_share_from" "_share_from" sShareFrom f fd) (FN : FnOk P w K mg base CX0 2 fN fdN ["word"] (spNumber Ps)) (mN : mg "number_from" = some (.ref fN)) (kN : PySem.W.keepIn K (.ref fN) = true) (bN : Binds K fdN ["word"] [])
    (FF : FnOk P w K mg base CX0 4 fF fdF ["word"] (spRead Ps fracW)) (mF : mg "fraction_from" = some (.ref fF)) (kF : PySem.W.keepIn K (.ref fF) = true) (bF : Binds K fdF ["word"] []) :
    FnOk P w K mg base CX0 5 f fd ["word"] (spRead Ps shareW) := by
  refine F.ok scSf (fun vs H Q E h => ?_) (fun cdv A outer s H vs Q E hr h => ?_)
  · obtain ⟨x, rfl, _⟩ := h
    rfl
  · obtain ⟨x, rfl, hl, tb, k⟩ := h
    have hr2 : Room 2 _ := hr.mono (by decide)
    refine ⟨_, pss_cons (ps_if (pt_cmpR op_ne (pe_slice sl_str (pv 0) po_none (po_some pe_int)) pe_str (nomark _)) (pss_one (ps_ret (pe_call FF hr (by rfl) mF kF bF .nil pass0 (pa_cons (pv 0) pa_nil)))) pss_nil)
      (pss_cons (ps_set (i := 1) scSf.nd rfl (Or.inl rfl) (pe_call FN hr2 (by rfl) mN kN bN .nil pass0 (pa_cons (pe_slice sl_str (pv 0) (po_some pe_int) po_none) pa_nil)))
      (pss_one (ps_ret (pe_ifExp (pt_cmpR op_isN (pv 1) pe_non (nomark _)) pe_non (pe_tup (pa_cons pe_str (pa_cons (pv 1) pa_nil))))))), ?_⟩
    refine i_when (b := !decide (x.take 1 = [120])) (ti_test (vi_neS (vi_take1 (vi_var rfl) hl) x_cs)) (fun c => ?_) (fun c => ?_)
    · refine ret_call (K := K) (ai_cons (vi_var rfl) ai_nil) ⟨x, rfl, hl, tb, fun v H' g o => k v H' g ?_⟩
      unfold shareW
      rw [if_neg (by simpa using c)]
      exact o
    · have c : x.take 1 = [120] := by simpa using c
      refine i_setCall (ai_cons (vi_drop1 (vi_var (v := .str (S x)) rfl) hl) ai_nil) ⟨x.drop 1, rfl, by rw [List.length_drop]; omega, tb, fun H' g => ?_⟩
      have k1 := fun v H' => k v H'
      unfold shareW at k1
      rw [if_pos c] at k1
      cases q : numW (x.drop 1) with
      | none =>
        rw [q] at k1
        exact ⟨_, rfl, rfl, _, rfl, k1 _ _ g rfl⟩
      | some n =>
        rw [q] at k1
        refine ⟨_, rfl, rfl, _, rfl, ?_⟩
        refine ⟨_, rfl, by show 2 ≤ sizeLine; decide, fun p hp => k1 _ _ (g.trans (Grown.same (same_upd hp) g.tbs)) (.tup upd_same (.cons (.str _) (.cons (.int _) .nil)))⟩
end
end KP

set_option Elab.async false
set_option linter.all false
set_option maxRecDepth 100000
set_option maxHeartbeats 4000000
/-! ### rows of words -/
namespace KP
open PySem PySem.Spec PyProof.Rows L2 KX KT KJ KS FR PT SX
def sL (ws : List Cs) : List V := ws.map fun w => V.str (S w)
theorem sL_at {ws : List Cs} {i : Nat} {v : V} (h : (sL ws)[i]? = some v) : ∃ w, ws[i]? = some w ∧ v = .str (S w) := by
  unfold sL at h
  rw [List.getElem?_map] at h
  cases q : ws[i]? with
  | none => rw [q] at h; cases h
  | some w => rw [q] at h; cases h; exact ⟨w, rfl, rfl⟩
theorem sL_len (ws : List Cs) : (sL ws).length = ws.length := List.length_map _
/-- a list of words -/
def Wds (H : Hp) (v : V) (ws : List Cs) : Prop := ∃ a, v = .ref a ∧ H a = some (.lst (sL ws))
def wordsW (r : Cs) : List Cs := (splitC 32 r).filter fun w => !decide (w = [])
theorem splitC_len (c : Nat) : ∀ w : Cs, (splitC c w).length ≤ w.length + 1
  | [] => Nat.le_refl _
  | x :: r => by
    have ih := splitC_len c r
    by_cases e : x = c
    · rw [splitC_hit e, List.length_cons, List.length_cons]
      omega
    · rw [splitC_miss e]
      cases q : splitC c r with
      | nil => simp
      | cons p ps =>
        rw [q] at ih
        simp only [List.length_cons] at ih ⊢
        omega
theorem splitC_part (c : Nat) : ∀ (w p : Cs), p ∈ splitC c w → p.length ≤ w.length ∧ ∀ x ∈ p, x ∈ w
  | [], p, h => by
    rw [List.mem_singleton.mp h]
    exact ⟨Nat.le_refl _, fun x hx => hx⟩
  | y :: r, p, h => by
    by_cases e : y = c
    · rw [splitC_hit e] at h
      rcases List.mem_cons.mp h with rfl | h
      · exact ⟨Nat.zero_le _, fun x hx => by cases hx⟩
      · obtain ⟨a, b⟩ := splitC_part c r p h
        exact ⟨Nat.le_succ_of_le a, fun x hx => List.mem_cons_of_mem _ (b x hx)⟩
    · rw [splitC_miss e] at h
      cases q : splitC c r with
      | nil =>
        rw [q] at h
        rw [List.mem_singleton.mp h]
        exact ⟨by simp, fun x hx => by rw [List.mem_singleton.mp hx]; exact List.mem_cons_self⟩
      | cons p0 ps =>
        rw [q] at h
        rcases List.mem_cons.mp h with rfl | h
        · obtain ⟨a, b⟩ := splitC_part c r p0 (by rw [q]; exact List.mem_cons_self)
          refine ⟨Nat.succ_le_succ a, fun x hx => ?_⟩
          rcases List.mem_cons.mp hx with rfl | hx
          · exact List.mem_cons_self
          · exact List.mem_cons_of_mem _ (b x hx)
        · obtain ⟨a, b⟩ := splitC_part c r p (by rw [q]; exact List.mem_cons_of_mem _ h)
          exact ⟨Nat.le_succ_of_le a, fun x hx => List.mem_cons_of_mem _ (b x hx)⟩
theorem blank_eq : (" " : Str) = S [32] := by decide +kernel
theorem nl_eq : ("\n" : Str) = S [10] := by decide +kernel
section
variable {K : PySem.W.Frag} {σ : L2.St} {H : Hp}
/-- [word for word in row.split(" ") if word != ""] -/
theorem lc_words {te : TE} {j : Nat} {vs : List Nat} {r : Cs} {Q : VK} (h : Vi te σ H (.str (S r))) (hl : r.length ≤ 100000)
    (hw : ∀ x : V, wipe ((wipe σ vs).set j (some x)) vs = wipe σ vs) (hj : ∀ x : V, ((wipe σ vs).set j (some x))[j]? = some (some x)) (k : ∀ a H', H a = none → Same H H' → H' a = some (.lst (sL (wordsW r))) → Q (.ref a) H') :
    tLc (iList K (tM1 (fun x xs H Q => ∃ a b, x = .str a ∧ xs = [.str b] ∧ (b.length == 0) = false ∧ a.length + 2 ≤ sizeLine ∧ rNewStrs (Txt.split a b) H Q) te (tC (.str " ")))) (gName j) (tTest (tOp rNe (tVar j) (tC (.str ""))))
      (tVar j) vs σ H Q := by
  refine h _ ⟨⟨_, rfl⟩, S r, " ", rfl, rfl, rfl, ?_, fun p hp => ?_⟩
  · rw [S_len]
    exact Nat.le_trans (show _ ≤ 100002 by omega) (by decide)
  have es : (Txt.split (S r) " ").map V.str = sL (splitC 32 r) := by
    rw [blank_eq, split_eq (by decide), List.map_map]
    rfl
  rw [es]
  refine ⟨p, rfl, ⟨_, SqL.of upd_same⟩, fun D hD => ?_⟩
  have hpD : p ≠ D := fun z => by rw [z, upd_same] at hD; cases hD
  have hlen := splitC_len 32 r
  refine lc_it (walk_list (K := K) (a := p) (xs := sL (splitC 32 r))) (fun n H' => Same (upd H p (.lst (sL (splitC 32 r)))) H' ∧ H' D = some (.lst (sL (((splitC 32 r).take n).filter fun w => !decide (w = []))))) ⟨same_upd hD, upd_same⟩ (fun n H' _ z => SqL.of (z.1 _ _ upd_same)) ?_ ?_
  · rintro i x _ H' hi ⟨s, e⟩ ⟨rfl, hx⟩
    obtain ⟨w, hw', rfl⟩ := sL_at hx
    refine ⟨hw _, ?_⟩
    refine ⟨_, hj _, rfl, _, rfl, ?_⟩
    rw [litEq, empty_cs]
    have eq : (splitC 32 r).take (i + 1) = (splitC 32 r).take i ++ [w] := by rw [List.take_add_one, hw']; rfl
    rw [eq, List.filter_append]
    refine iteB (fun c => ?_) (fun c => ?_)
    · refine ⟨_, hj _, _, e, ?_, same_put s hD, ?_⟩
      · have := List.length_filter_le (fun w : Cs => !decide (w = [])) ((splitC 32 r).take i)
        rw [List.length_take] at this
        rw [sL_len]
        exact Nat.lt_of_le_of_lt (show _ ≤ 100001 by omega) (by decide)
      · rw [upd_same, List.filter_cons_of_pos (p := fun w : Cs => !decide (w = [])) c]
        unfold sL
        rw [List.map_append]
        rfl
    · refine ⟨s, ?_⟩
      rw [e, List.filter_cons_of_neg (p := fun w : Cs => !decide (w = [])) (by rw [c]; decide), List.filter_nil, List.append_nil]
  · rintro H' ⟨s, e⟩
    rw [sL_len, List.take_length] at e
    exact k D H' (none_same (same_upd hp) hD) ((same_upd hp).trans s) e
end
def spWords (K : PySem.W.Frag) : Sp := fun vs H Q _ => ∃ r : Cs, vs = [.str (S r)] ∧ r.length ≤ 100000 ∧ ∀ a H', H a = none → Same H H' → H' a = some (.lst (sL (wordsW r))) → Q (.ref a) H'
def spPipeFrom (K : PySem.W.Frag) (Ps : List Addr) : Sp := fun vs H Q _ => ∃ (v : V) (ws : List Cs), vs = [v] ∧ Wds H v ws ∧ (∀ w ∈ ws, w.length ≤ 640) ∧ Tbs Ps H ∧ ∀ v H', Grown Ps H H' → OTh H' v (pipeW ws) → Q v H'
theorem lst_sm {H H' : Hp} {a : Addr} {xs : List V} (s : Sm H H') (h : H a = some (.lst xs)) : H' a = some (.lst xs) := s _ _ h fun _ z => by cases z
theorem Wds.sm {H H' : Hp} {v : V} {ws : List Cs} (s : Sm H H') (h : Wds H v ws) : Wds H' v ws := by
  obtain ⟨a, rfl, q⟩ := h
  exact ⟨a, rfl, lst_sm s q⟩
theorem vi_word {K : PySem.W.Frag} {σ : L2.St} {H : Hp} {te : TE} {a : Addr} {ws : List Cs} {n : Nat} {w : Cs} (h : Vi te σ H (.ref a)) (e : H a = some (.lst (sL ws))) (hn : ws[n]? = some w) : Vi (tOp (rIx K) te (tC (.int (n : Nat)))) σ H (.str (S w)) :=
  vi_op h vi_c fun Q q => .inl ⟨a, _, n, _, rfl, rfl, SqL.of e, by
    obtain ⟨hlt, he⟩ := List.getElem?_eq_some_iff.mp hn
    unfold atI sL ixN
    simp [hlt, he], q⟩
theorem a_call {sp : Sp} {E : XK} {t : TA} {σ : L2.St} {H : Hp} {Q : VK} {vs : List V} (h : Ai t σ H vs) (k : sp vs H Q E) : tCall sp [] E t σ H Q := h _ (by rw [List.append_nil]; exact k)
section
variable {P : Program} {w : World} {K : PySem.W.Frag} {mg : Str → Option Value} {base : Heap}
theorem scWo : FnScope ["row", "word"] ["row"] (defScope sWordsOf) := ⟨rfl, rfl, rfl, by decide +kernel, rfl, by decide +kernel, by decide +kernel⟩
theorem ok_wordsof {f : Addr} {fd : FuncData} (F : Fun K "words_of" "words_of" sWordsOf f fd) : FnOk P w K mg base CX0 1 f fd ["row"] (spWords K) := by
  refine F.ok scWo (fun vs H Q E h => ?_) (fun cdv A outer s H vs Q E hr h => ?_)
  · obtain ⟨x, rfl, _⟩ := h
    rfl
  · obtain ⟨x, rfl, hl, k⟩ := h
    refine ⟨_, pss_one (ps_ret (pe_lc (own := [("word", 1)]) (g := gName 1) rfl scWo.nd (pi_list (pe_split (pv 0) pe_str)) (blkOk_by (N := ["row", "word"]) (sc := defScope sWordsOf) (by decide +kernel))
          (fun _ _ _ _ _ => pg_name (i := 1) scWo.nd rfl (Or.inl rfl)) (fun _ _ _ _ _ => pts_one (pt_cmpR op_ne (pv 1) pe_str (nomark _))) (fun _ _ _ _ _ => pv 1))), ?_⟩
    exact lc_words (vi_var rfl) hl (fun _ => rfl) (fun _ => rfl) k
theorem scPf : FnScope ["words", "start", "end", "share"] ["words"] (defScope sPipeFrom) := ⟨rfl, rfl, rfl, by decide +kernel, rfl, by decide +kernel, by decide +kernel⟩
theorem ok_pipefrom {f fN fS : Addr} {fd fdN fdS : FuncData} {Ps : List Addr} (F : Fun K "_pipe_from" "_pipe_from" sPipeFrom f fd) (T : TxD mg) (FN : FnOk P w K mg base CX0 2 fN fdN ["word"] (spNumber Ps)) (mN : mg "number_from" = some (.ref fN)) (kN : PySem.W.keepIn K (.ref fN) = true) (bN : Binds K fdN ["word"] [])
    (FS : FnOk P w K mg base CX0 5 fS fdS ["word"] (spRead Ps shareW)) (mS : mg "_share_from" = some (.ref fS)) (kS : PySem.W.keepIn K (.ref fS) = true) (bS : Binds K fdS ["word"] []) :
    FnOk P w K mg base CX0 6 f fd ["words"] (spPipeFrom K Ps) := by
  refine F.ok scPf (fun vs H Q E h => ?_) (fun cdv A outer s H vs Q E hr h => ?_)
  · obtain ⟨x, _, rfl, _⟩ := h
    rfl
  · obtain ⟨_, ws, rfl, ⟨a, rfl, ha⟩, hl, tb, k⟩ := h
    have hr2 : Room 2 _ := hr.mono (by decide)
    refine ⟨_, pss_cons (ps_if (pt_cmpR op_ne (pe_callB call_len_seq (by rfl) T.len PySem.boot_len (pa_cons (pv 0) pa_nil)) pe_int (nomark _)) (pss_one (ps_ret pe_non)) pss_nil)
      (pss_cons (ps_par3 (i := 1) (j := 2) (l := 3) (by rfl) scPf.nd rfl rfl rfl (by decide) (by decide) (by decide) rfl rfl rfl (pa_cons (pe_call FN hr2 (by rfl) mN kN bN .nil pass0 (pa_cons (pe_ix ix_seq (pv 0) pe_int (fun _ _ => rfl)) pa_nil)) (pa_cons (pe_call FN hr2 (by rfl) mN kN bN .nil pass0 (pa_cons (pe_ix ix_seq (pv 0) pe_int (fun _ _ => rfl)) pa_nil))
          (pa_cons (pe_call FS hr (by rfl) mS kS bS .nil pass0 (pa_cons (pe_ix ix_seq (pv 0) pe_int (fun _ _ => rfl)) pa_nil)) pa_nil))) (by rfl))
      (pss_cons (ps_if (pw_or (pt_cmpR op_isN (pv 1) pe_non (nomark _)) (pw_or (pt_cmpR op_isN (pv 3) pe_non (nomark _)) (pw_or1 (pw_and (pt_cmpR op_isN (pv 2) pe_non (nomark _)) (pw_and1 (pt_cmpR op_ne (pe_ix ix_seq (pv 0) pe_int (fun _ _ => rfl)) pe_str (nomark _)))).pt))).pt (pss_one (ps_ret pe_non)) pss_nil)
      (pss_one (ps_ret (pe_tup (pa_cons (pv 1) (pa_cons (pv 2) (pa_cons (pv 3) pa_nil)))))))), ?_⟩
    have no : ∀ H', Grown Ps H H' → pipeW ws = none → Q .non H' := fun H' g e => k _ H' g (by rw [e]; rfl)
    refine i_when (b := !decide (ws.length = 4)) (ti_test (vi_op (v := .bl (!decide (ws.length = 4))) (vi_cb (v := .int (sL ws).length) (ai_cons (vi_var rfl) ai_nil) fun Q q => ⟨a, _, rfl, .inl (SqL.of ha), q⟩) vi_c fun Q q => ⟨rfl, by
        rw [show (V.int 4) = V.int ((4 : Nat) : Int) from rfl, sL_len, int_dec]
        exact q⟩)) (fun c => ?_) (fun c => ?_)
    · refine i_ret vi_c (no H (Grown.same (Same.refl H) tb) ?_)
      unfold pipeW
      split
      · simp at c
      · rfl
    have c : ws.length = 4 := by simpa using c
    obtain ⟨w0, w1, w2, w3, rfl⟩ : ∃ w0 w1 w2 w3, ws = [w0, w1, w2, w3] := by
      match ws, c with
      | [a, b, c, d], _ => exact ⟨a, b, c, d, rfl⟩
    have m1 : w1.length ≤ 640 := hl _ (by simp)
    have m2 : w2.length ≤ 640 := hl _ (by simp)
    have m3 : w3.length ≤ 640 := hl _ (by simp)
    refine a_call (ai_cons (vi_word (n := 1) (vi_var rfl) ha rfl) ai_nil) ⟨w1, rfl, m1, tb, fun H1 g1 => ?_⟩
    have ha1 := lst_sm g1.sm ha
    refine a_call (ai_cons (vi_word (n := 2) (vi_var rfl) ha1 rfl) ai_nil) ⟨w2, rfl, m2, g1.tbs, fun H2 g2 => ?_⟩
    have ha2 := lst_sm g2.sm ha1
    refine a_call (ai_cons (vi_word (n := 3) (vi_var rfl) ha2 rfl) ai_nil) ⟨w3, rfl, m3, g2.tbs, fun v H3 g3 ov => ?_⟩
    have ha3 := lst_sm g3.sm ha2
    have g := (g1.trans g2).trans g3
    refine ⟨_, _, _, rfl, ?_⟩
    have pe : pipeW [w0, w1, w2, w3] = pipeAt w1 w2 w3 := rfl
    rw [pe] at no
    have vn : decide (v = .non) = (shareW w3).isNone := ov.non fun d => share_tup
    refine i_when (b := (numW w1).isNone || ((shareW w3).isNone || ((numW w2).isNone && !decide (w2 = cOut)))) (ti_or (ti_test (vi_isN (vi_var rfl) (oV_non _))) fun _ => ti_or (ti_test (vi_isN (vi_var rfl) vn)) fun _ => ti_and (ti_test (vi_isN (vi_var rfl) (oV_non _))) fun _ => ti_test (vi_neS (vi_word (n := 2) (vi_var rfl) ha3 rfl) out_cs)) (fun c => ?_) (fun c => ?_)
    · refine i_ret vi_c (no H3 g ?_)
      unfold pipeAt
      cases q1 : numW w1 with
      | none => rfl
      | some i =>
        cases q3 : shareW w3 with
        | none => rfl
        | some d =>
          rw [q1, q3] at c
          exact if_pos (by simpa using c)
    · rw [Bool.or_eq_false_iff, Bool.or_eq_false_iff] at c
      obtain ⟨c1, c3, c2⟩ := c
      cases q1 : numW w1 with
      | none => rw [q1] at c1; cases c1
      | some i =>
        cases q3 : shareW w3 with
        | none => rw [q3] at c3; cases c3
        | some d =>
          rw [q3] at ov
          have ov : Th H3 v d := ov
          refine ⟨_, rfl, _, rfl, _, rfl, by show 3 ≤ sizeLine; decide, fun p hp => ?_⟩
          have s := same_upd (o := .tup [V.int i, oV (numW w2), v]) hp
          refine k _ _ (g.trans (Grown.same s g3.tbs)) ?_
          rw [pe]
          unfold pipeAt
          rw [q1, q3]
          show OTh _ _ (if ((numW w2).isNone && !decide (w2 = cOut)) = true then none else some (.tuple [.int i, oD (numW w2), d]))
          rw [if_neg (by rw [c2]; decide)]
          exact Th.tup upd_same (.cons (.int i) (.cons (oV_th _ _) (.cons (ov.mono (Sm.same s)) .nil)))
end
end KP

set_option Elab.async false
set_option linter.all false
set_option maxRecDepth 100000
set_option maxHeartbeats 4000000
/-! ### errors of its own: raised, caught by several clauses that name it -/
namespace KP
open PySem PySem.Spec PyProof.Rows L2
/-- what is known of an error's class -/
structure ErC (K : PySem.W.Frag) (C fI : Addr) (f : Str) : Prop where
  o : OexC K C
  x : XfC K C
  nf : PySem.W.findIn K (.ref C) f = some none
  ini : PySem.W.findIn K (.ref C) "__init__" = some (some (.ref fI))
  ty : PySem.W.typeIn K (.ref fI) = some (.type "function")
  me : PySem.W.exmOne K (.ref C) (.ref C) = some true
/-- self.f = f, of an exception that is being made -/
def spEI (C : Addr) (f : Str) : Sp := fun vs H Q _ => ∃ a v, vs = [.ref a, v] ∧ H a = some (exo a C none) ∧ ∀ dx, H dx = none → dx ≠ a → Q .non (upd (upd H dx (exd dx [(f, v)])) a (exo a C (some dx)))
theorem ok_excI {P : Program} {w : World} {K : PySem.W.Frag} {mg : Str → Option Value} {base : Heap} {C fI : Addr} {fd : FuncData} {f qual : Str} {st : Stmt} {q1 q2 q3 q4 : Pos} (F : Fun K "__init__" qual st fI fd) (o : OexC K C) (nf : PySem.W.findIn K (.ref C) f = some none)
    (S : FnScope ["self", f] ["self", f] (defScope st)) (hb : defBody st = [.Assign [.Attribute (.Name "self" q1) f q2] (.Name f q3) q4]) (v0 : Vis (defScope st) "self") (v1 : Vis (defScope st) f)
    (d1 : (f == ("__debug__" : Str)) = false) (d2 : (f == ("__classdict__" : Str)) = false) : FnOk P w K mg base CX0 1 fI fd ["self", f] (spEI C f) := by
  refine F.ok S (fun vs H Q E h => ?_) (fun cdv A outer s H vs Q E hr h => ?_)
  · obtain ⟨a, v, rfl, _⟩ := h
    rfl
  · obtain ⟨a, v, rfl, ha, k⟩ := h
    rw [hb]
    refine ⟨_, pss_one (ps_ost (pe_var (i := 0) rfl v0) (pe_var (i := 1) rfl v1 d1 d2)), ?_⟩
    exact ⟨v, rfl, .ref a, rfl, a, C, rfl, o, nf, .inl ⟨ha, fun dx n1 n2 => k dx n1 n2⟩⟩
/-- one argument, with what is known of it weakened -/
def tArg (te : TE) : TA := fun σ H QA => ∃ Q0 : VK, te σ H Q0 ∧ ∀ v H1, Q0 v H1 → QA [v] H1
theorem pa_arg {X : Cx} {e : Expr} {te : TE} (he : PE X e te) (hs : starEach (e :: []) X.env = (false, eval e X.env) :: starEach [] X.env) : PA X [e] (tArg te) := by
  refine ⟨fun pos pins s σ H QA I h => ?_⟩
  obtain ⟨Q0, h, m⟩ := h
  refine thn ((pa_cons he pa_nil hs).run pos pins s σ H (fun vs H1 => match vs with | [v] => Q0 v H1 | _ => False) I h) fun us s1 hh => ?_
  obtain ⟨vs, H1, I1, r, q⟩ := hh
  match vs, r, q with
  | [v], r, q => exact ⟨_, H1, I1, r, m v H1 q⟩
def tRaiseE (C : Addr) (f : Str) (W : WX) (te : TE) : TS := fun _ σ H => te σ H fun v H1 => ∀ d, H1 d = none → W (.ref C) (some d) σ (upd H1 d (.xd [(f, v)]))
theorem ps_raiseE {X : Cx} {x f : Str} {C fI : Addr} {fd : FuncData} {e : Expr} {te : TE} {W : WX} {p pos pos2 : Pos} (hc : X.calm = true) (T : ErC X.K C fI f) (F : FnOk X.prog X.w X.K X.mg X.base CX0 1 fI fd ["self", f] (spEI C f)) (bI : Binds X.K fd ["self", f] []) (hr : Room 2 X.A) (tk : Takes X W)
    (hg : Gl X x) (hm : X.mg x = some (.ref C)) (he : PE X e te) (hdb : (x == ("__debug__" : Str)) = false := by decide) (h2 : starEach (e :: []) X.env = (false, eval e X.env) :: starEach [] X.env := by rfl) (hpl : (backTo pos (starEach [] X.env)).any (·.1) = false := by rfl) :
    PS X (.Raise (some (.Call (.Name x p) [e] [] pos)) none pos2) (tRaiseE C f W te) := by
  refine ⟨fun pins s σ H D I h => (ps_raise hc tk (pmk_oex T.o T.ini T.ty F hr bI .nil pass0 hg hm (pa_arg he h2) hdb h2 hpl)).run pins s σ H D I ?_⟩
  refine ⟨_, h, fun v H1 k => ⟨by show 1 ≤ 1000; decide, fun a ha => ⟨a, v, rfl, upd_same, fun dx n1 n2 => ⟨rfl, dx, [(f, v)], upd_same, ?_, ?_, ?_⟩⟩⟩⟩
  · rw [upd_ne n2, upd_same]
  · rw [upd_ne n2] at n1
    exact n1
  · rw [upd_ne n2] at n1
    have e : upd (del (upd (upd (upd H1 a (exo a C none)) dx (exd dx [(f, v)])) a (exo a C (some dx))) a) dx (.xd [(f, v)]) = upd H1 dx (.xd [(f, v)]) := by
      funext b
      by_cases h1 : b = dx
      · rw [h1, upd_same, upd_same]
      · rw [upd_ne h1, upd_ne h1]
        by_cases h2 : b = a
        · rw [h2, del_same, ha]
        · rw [del_ne h2, upd_ne h2, upd_ne h1, upd_ne h2]
    rw [e]
    exact k dx n1
/-- what several clauses, each with the same name for the error, wish of an error of the body -/
def wEach (K : PySem.W.Frag) (Wout : WX) (D : Ends) (i : Nat) : List (Value × (Addr → Value → Option Addr → TS)) → WX
  | [] => Wout
  | y :: r => wAs K y.1 i y.2 (wEach K Wout D i r) D
/-- the clauses, with their suites' readings -/
inductive EachOk (X : Cx) (n : Str) : List ExceptHandler → List (Value × (Addr → Value → Option Addr → TS)) → Prop
  | nil : EachOk X n [] []
  | cons {x : Str} {c : Value} {ts : Addr → Value → Option Addr → TS} {b : Stmt} {bs : List Stmt} {p q : Pos} {hds : List ExceptHandler} {l : List (Value × (Addr → Value → Option Addr → TS))} (hc : Names X x c)
      (hs : ∀ (a : Addr) (oe : Obj) (cls : Value) (d : Option Addr) (pn : List (Addr × Obj)), Zc cls d oe → (∃ vs, oe.data = .fields vs) → PSs (X.suite a ((a, oe) :: pn)) (b :: bs) (ts a cls d)) (r : EachOk X n hds l) :
      EachOk X n (.ExceptHandler (some (.Name x p)) (some n) (b :: bs) q :: hds) ((c, ts) :: l)
section
variable {X : Cx} {n : Str} {i : Nat} {Wout : WX}
theorem each_land (hs : X.stack = X.env :: X.outer) (hf : X.env.frame = some X.env.locals) (hN : X.N.Nodup) (hi : X.N[i]? = some n) (hln : X.env.kindOf n = some .local) (tk : Takes X Wout) (ok : X.Ok) {pins : List (Addr × Obj)} {D : Ends} {a : Addr} {B : Heap} {sI s' : Shared} {σ : L2.St} {H : Hp} {cls : Value} {d : Option Addr} {h3 : Heap}
    (J : Inv X pins σ H sI) (nb : ∀ b o, sI.heap.get? b = some o → b ∉ frs X.stack → B.get? b = some o) (up : sI.heap.UpToSlots h3) (fl : HandSPX.FlyingZ B (X.env :: X.outer) a (Zc cls d) h3) (na : H a = none) (os : s'.os = sI.os) (ag : AllBare s'.gens) :
    ∀ {hds : List ExceptHandler} {l : List (Value × (Addr → Value → Option Addr → TS))}, EachOk X n hds l → wEach X.K Wout D i l cls d σ H → wpAny (model X.prog X.w) X.A (handleBy (.ref a) X.env hds) (SP X pins D) X.xe { s' with heap := h3 } := by
  have far : ∀ {h : Heap} {o : Obj} {vs : Array Value}, h.FunFrames B (X.env :: X.outer) → h.get? a = some o → o.data = .fields vs → a ≠ X.env.locals ∧ a ∉ X.fs := fun {h o vs} ff e dd => by
    have out : a ∉ frs (X.env :: X.outer) := fun m => by
      obtain ⟨_, o', e', z⟩ := ff.mem m
      rw [e] at e'
      cases e'
      exact z _ dd
    refine ⟨fun z => out (List.mem_filterMap.mpr ⟨X.env, List.mem_cons_self, by rw [hf, z]⟩), fun m => ?_⟩
    obtain ⟨e, he, q⟩ := List.mem_filterMap.mp m
    exact out (List.mem_filterMap.mpr ⟨e, List.mem_cons_of_mem _ he, q⟩)
  obtain ⟨oe3, vs3, he3, hz3, hd3⟩ := fl.there
  obtain ⟨nL, nF⟩ := far fl.2.2.1 he3 hd3
  have J3 : Inv X pins σ H { s' with heap := h3 } := J.landed nb fl.1 up os ag
  have S3 := J3.suite he3 hd3 na nL nF
  intro hds l hk
  induction hk with
  | nil =>
    intro w
    refine wpAny_handleBy_nil ?_
    obtain ⟨_, _, _, oe, vs, T, _, _, he, _, hd, h1, _⟩ := id fl
    unfold PySem.passOn
    refine wpAny_bind (wpAny_field he hd h1 ?_)
    rw [if_neg (show ¬ ((Value.ref T == Value.none) = true) from by simp)]
    have last : wpAny (model X.prog X.w) X.A (setFlight (.ref a) X.env.frame) (fun _ s4 => wpAny (model X.prog X.w) X.A (throw (.ref a) : Sem Flow) (SP X pins D) X.xe s4) X.xe { s' with heap := h3 } := by
      rw [hf]
      exact HandSPX.setFlight_upZ fl fun h4 hh up4 => wpAny_throw (tk _ _ ⟨a, B, sI, pins, σ, H, cls, d, rfl, J, nb, up.trans up4, .inr (.inr (by rw [hs]; exact hh)), na, os, ag, w⟩)
    first
      | exact wpAny_bind (wpAny_pure (wpAny_bind last))
      | exact wpAny_bind last
  | @cons x c ts b bs p q hds2 l2 hc hsu r ih =>
    intro w
    obtain ⟨t, ht, yes, no⟩ := w
    refine wpAny_handleBy_cons (codeAny_handlers_test ?_) (by intro q; cases q)
    have LM := PySem.W.exm_one (M := model X.prog X.w) J3.kIn (fun A Q E s k q => wpAny_typeOf_ref (k _ _ he3) (by rw [hz3.1]; exact q)) ht
    have named : ∀ {Q : Value → Shared → Prop} {E : Value → Shared → Prop}, Q c { s' with heap := h3 } → wpAny (model X.prog X.w) (X.A.mark (some (.ref a))) (eval (.Name x p) X.env) Q E { s' with heap := h3 } := fun {Q E} q => by
      obtain ⟨hg, hdbg, hm | ⟨hm, hv, hnn⟩⟩ := hc
      · exact ld_glob (X := X.suite a ((a, oe3) :: (X.pn ++ pins))) S3 hg hm q hdbg
      · exact ld_blt (X := X.suite a ((a, oe3) :: (X.pn ++ pins))) S3 hg hm hv q hnn hdbg
    refine named (LM.here ?_)
    cases t with
    | false => exact ih (no rfl)
    | true =>
      refine codeAny_handlers_suite_as ?_
      refine HandSPX.lands_againZ fl fun h4 fl4 up4 => ?_
      have J4 : Inv X pins σ H { s' with heap := h4 } := J.landed nb fl4.1 (up.trans up4) os ag
      obtain ⟨oe4, vs4, he4, hz4, hd4⟩ := fl4.there
      refine store_ok (X := X.suite a ((a, oe4) :: (X.pn ++ pins))) (v := .ref a) (J4.suite he4 hd4 na nL nF) hN hi (.inl hln) rfl (fun s5 S5 => ?_) (.inr hln)
      refine wpAny_mono ((hsu a oe4 cls d (X.pn ++ pins) hz4 ⟨_, hd4⟩).run [] s5 _ H _ S5 (yes rfl a na)) (fun f s6 e6 => ?_) (fun _ _ z => False.elim z)
      have away : ∀ {σ6 : L2.St} {H6 : Hp} {Q : Shared → Prop}, Inv (X.suite a ((a, oe4) :: (X.pn ++ pins))) [] σ6 H6 s6 → (∀ s7, Inv X pins (σ6.set i none) H6 s7 → Q s7) →
          wpAny (model X.prog X.w) X.A (do bindName X.env n .none; unbindBehindTheSuite X.env n q) (fun _ s7 => Q s7) X.xe s6 := fun {σ6 H6 Q} S6 hq => gone_ok (S6.unsuite ok) hN hi hln hq
      cases f with
      | next => exact let ⟨_, _, S6, q6⟩ := e6; away S6 fun _ J7 => ⟨_, _, J7, q6⟩
      | brk => exact let ⟨_, _, S6, q6⟩ := e6; away S6 fun _ J7 => ⟨_, _, J7, q6⟩
      | cont => exact let ⟨_, _, S6, q6⟩ := e6; away S6 fun _ J7 => ⟨_, _, J7, q6⟩
      | ret u => exact let ⟨_, _, _, S6, r6, q6⟩ := e6; away S6 fun _ J7 => ⟨_, _, _, J7, r6, q6⟩
/-- try with several clauses, each with the same name for the error -/
theorem ps_try_each {body : List Stmt} {tb : WX → TS} {h0 : ExceptHandler} {hds : List ExceptHandler} {l : List (Value × (Addr → Value → Option Addr → TS))} {pos : Pos} (hs : X.stack = X.env :: X.outer) (hf : X.env.frame = some X.env.locals) (hN : X.N.Nodup) (hi : X.N[i]? = some n) (hln : X.env.kindOf n = some .local) (tk : Takes X Wout)
    (hb : ∀ (W : WX) (pn : List (Addr × Obj)) (xe : Value → Shared → Prop), Takes (X.tr pn xe) W → PassesOwn (model X.prog X.w) X.A X.env xe → PSs (X.tr pn xe) body (tb W)) (hh : EachOk X n (h0 :: hds) l) :
    PS X (.Try body (h0 :: hds) [] [] pos) (fun D σ H => tb (wEach X.K Wout D i l) D σ H) := by
  refine ⟨fun pins s σ H D I h => ?_⟩
  have ok := I.ok
  have hfr : X.A.frames = some (X.env :: X.outer) := by rw [ok.frames, hs]
  refine wpAny_Try_except ?_
  refine wpAny_mono ((hb (wEach X.K Wout D i l) (X.pn ++ pins) (fun e s₁ => wpAny (model X.prog X.w) X.A (noteFrame e X.env) (fun _ s₂ => wpAny (model X.prog X.w) X.A (setFlight e none) (fun _ s₃ =>
    wpAny (model X.prog X.w) X.A (handleBy e X.env (h0 :: hds)) (SP X pins D) X.xe s₃) X.xe s₂) X.xe s₁) (fun u s' caught => ?_) PassesOwn.looking).run [] s σ H D (I.toTry _) h) (fun f s1 e1 => ?_) (fun _ _ he => he)
  · obtain ⟨a, B, sI, pins', σ', H', cls, d, rfl, J', nb, up, sky, na, os, ag, w⟩ := caught
    have sky' : Sky B (X.env :: X.outer) a (Zc cls d) X.env.locals s'.heap := by rw [← hs]; exact sky
    show wpAny (model X.prog X.w) X.A (noteFrame (.ref a) X.env) _ _ _
    refine Sky.land Zc.steady hfr hf sky' fun h3 fl3 up3 => ?_
    exact each_land hs hf hN hi hln tk ok (J'.ofTry ok) nb (up.trans up3) fl3 na os ag hh w
  · cases f with
    | next => exact let ⟨_, _, J, q⟩ := e1; wpAny_execs_nil ⟨_, _, J.ofTry ok, q⟩
    | brk => exact let ⟨_, _, J, q⟩ := e1; ⟨_, _, J.ofTry ok, q⟩
    | cont => exact let ⟨_, _, J, q⟩ := e1; ⟨_, _, J.ofTry ok, q⟩
    | ret u => exact let ⟨_, _, _, J, r, q⟩ := e1; ⟨_, _, _, J.ofTry ok, r, q⟩
end
end KP

set_option Elab.async false
set_option linter.all false
set_option maxRecDepth 100000
set_option maxHeartbeats 4000000
/-! ### rows that are refused: numbers behind a name -/
namespace KP
open PySem PySem.Spec PyProof.Rows L2 KX KT KJ KS FR PT SX
abbrev sNumsAt : Stmt := top 31
abbrev sCountAt : Stmt := top 32
abbrev sPipesFrom : Stmt := top 33
/-- rows of words -/
inductive Rws (H : Hp) : List V → List (List Cs) → Prop
  | nil : Rws H [] []
  | cons {v : V} {vs : List V} {r : List Cs} {rs : List (List Cs)} : Wds H v r → Rws H vs rs → Rws H (v :: vs) (r :: rs)
theorem Rws.sm {H H' : Hp} (s : Sm H H') : ∀ {vs : List V} {rs : List (List Cs)}, Rws H vs rs → Rws H' vs rs
  | _, _, .nil => .nil
  | _, _, .cons a b => .cons (a.sm s) (Rws.sm s b)
theorem Rws.len {H : Hp} : ∀ {vs : List V} {rs : List (List Cs)}, Rws H vs rs → vs.length = rs.length
  | _, _, .nil => rfl
  | _, _, .cons a b => by rw [List.length_cons, List.length_cons, Rws.len b]
theorem Rws.at {H : Hp} : ∀ {vs : List V} {rs : List (List Cs)} {i : Nat} {r : List Cs}, Rws H vs rs → rs[i]? = some r → ∃ v, vs[i]? = some v ∧ Wds H v r
  | _, _, _, _, .nil, h => by cases h
  | _, _, 0, _, .cons a b, h => by cases h; exact ⟨_, rfl, a⟩
  | _ :: vs, _ :: rs, i + 1, r, .cons a b, h => by
    have h' : rs[i]? = some r := h
    obtain ⟨v, e, q⟩ := Rws.at b h'
    exact ⟨v, e, q⟩
theorem Rws.drop {H : Hp} : ∀ {vs : List V} {rs : List (List Cs)} (k : Nat), Rws H vs rs → Rws H (vs.drop k) (rs.drop k)
  | _, _, 0, h => h
  | _, _, k + 1, .nil => .nil
  | _, _, k + 1, .cons a b => Rws.drop k b
theorem Rws.snoc {H : Hp} {v : V} {r : List Cs} (hv : Wds H v r) : ∀ {vs : List V} {rs : List (List Cs)}, Rws H vs rs → Rws H (vs ++ [v]) (rs ++ [r])
  | _, _, .nil => .cons hv .nil
  | _, _, .cons a b => .cons a (Rws.snoc hv b)
/-- of moderate size -/
structure Tame (rows : List (List Cs)) : Prop where
  n : rows.length ≤ 1000
  r : ∀ r ∈ rows, r.length ≤ 1000
  w : ∀ r ∈ rows, ∀ w ∈ r, w.length ≤ 640 ∧ ∀ c ∈ w, c < 128
theorem Grown.put {Ps : List Addr} {H H' : Hp} {D : Addr} {o : HO} (g : Grown Ps H H') (hD : H D = none) (tb : Tbs Ps H) : Grown Ps H (upd H' D o) := by
  refine ⟨fun b u e n => ?_, fun P hP => ?_⟩
  · rw [upd_ne (fun z => by rw [z, hD] at e; cases e)]
    exact g.sm b u e n
  · obtain ⟨ps, e, _⟩ := tb P hP
    obtain ⟨qs, e2, k2⟩ := g.tbs P hP
    exact ⟨qs, by rw [upd_ne (fun z => by rw [z, hD] at e; cases e)]; exact e2, k2⟩
theorem cutV_take1 (xs : List V) : cutV xs none (some 1) = xs.take 1 := by
  unfold cutV
  rw [HT.sIx_none, show (1 : Int) = ((1 : Nat) : Int) from rfl, HT.sIx_nat, List.drop_zero]
  cases xs with
  | nil => rfl
  | cons a r => rw [show min 1 (a :: r).length - 0 = 1 by simp only [List.length_cons]; omega]
theorem cutV_drop (xs : List V) (n : Nat) : cutV xs (some (n : Int)) none = xs.drop n := by
  unfold cutV
  rw [HT.sIx_none, HT.sIx_nat]
  by_cases h : n ≤ xs.length
  · rw [show min n xs.length = n by omega, List.take_of_length_le (by rw [List.length_drop]; exact Nat.le_refl _)]
  · rw [show min n xs.length = xs.length by omega, List.drop_of_length_le (Nat.le_refl _), List.take_nil, List.drop_of_length_le (by omega)]
theorem sL_take (ws : List Cs) (n : Nat) : (sL ws).take n = sL (ws.take n) := by
  unfold sL
  rw [List.map_take]
theorem sL_drop (ws : List Cs) (n : Nat) : (sL ws).drop n = sL (ws.drop n) := by
  unfold sL
  rw [List.map_drop]
def dL (ws : List Cs) : List PyData := ws.map fun w => PyData.str (S w)
theorem eqv_strs : ∀ (ws us : List Cs), PyData.eqvAll (dL ws) (dL us) = decide (ws = us)
  | [], [] => rfl
  | [], _ :: _ => rfl
  | _ :: _, [] => rfl
  | w :: ws, u :: us => by
    show (PyData.eqv (.str (S w)) (.str (S u)) && PyData.eqvAll (dL ws) (dL us)) = _
    rw [eqv_strs ws us]
    have : PyData.eqv (.str (S w)) (.str (S u)) = decide (w = u) := by
      simp only [PyData.eqv]
      exact S_beq_eq
    rw [this, Bool.eq_iff_iff, Bool.and_eq_true, decide_eq_true_iff, decide_eq_true_iff, decide_eq_true_iff, List.cons.injEq]
theorem dps_strs {K : PySem.W.Frag} {H : Hp} : ∀ ws : List Cs, DpAll K H (sL ws) (dL ws)
  | [] => .nil
  | _ :: ws => .cons (.str _) (dps_strs ws)
theorem dps_oV {K : PySem.W.Frag} {H : Hp} : ∀ os : List (Option Int), DpAll K H (os.map oV) (os.map PT.oD)
  | [] => .nil
  | o :: os => .cons ((oV_th H o).dp (by cases o <;> rfl)) (dps_oV os)
theorem shaped_oD (os : List (Option Int)) : SeqAt.shaped (.tuple (os.map PT.oD)) = true := by
  refine shaped_of ?_ ?_
  · simp only [PyData.canLay0]
    induction os with
    | nil => rfl
    | cons o os ih =>
      simp only [List.map_cons, PyData.canLayAll0, Bool.and_eq_true]
      exact ⟨by cases o <;> rfl, ih⟩
  · simp only [PyData.depth]
    have := depthAll_of (n := 1) (ds := os.map PT.oD) fun d hd => by
      obtain ⟨o, _, rfl⟩ := List.mem_map.mp hd
      cases o <;> simp [PT.oD, PyData.depth]
    omega
theorem any_none (ws : List Cs) : ((ws.map numW).map PT.oD).any (fun z => PyData.eqv z .none) = !(ws.all isNum) := by
  induction ws with
  | nil => rfl
  | cons w ws ih =>
    simp only [List.map_cons, List.any_cons, List.all_cons]
    rw [ih]
    unfold numW
    cases isNum w <;> simp [PT.oD, PyData.eqv]
theorem all_oV {ws : List Cs} (h : ws.all isNum = true) : (ws.map numW).map oV = (ws.map valN).map V.int := by
  induction ws with
  | nil => rfl
  | cons w ws ih =>
    rw [List.all_cons, Bool.and_eq_true] at h
    simp only [List.map_cons]
    rw [ih h.2]
    unfold numW
    rw [h.1]
    rfl
/-- refused by a number, all else as it was -/
def Refuse (Ct : Addr) (Ps : List Addr) (i : Int) (H : Hp) (E : XK) : Prop := ∀ d H', Grown Ps H H' → H' d = some (.xd [("index", .int i)]) → E (.ref Ct) (some d) H'
theorem Refuse.mono {Ct : Addr} {Ps : List Addr} {i : Int} {H H1 : Hp} {E : XK} (g : Grown Ps H H1) (h : Refuse Ct Ps i H E) : Refuse Ct Ps i H1 E := fun d H' g' e => h d H' (g.trans g') e
def spNumsAt (Ct : Addr) (Ps : List Addr) : Sp := fun vs H Q E => ∃ (a : Addr) (vr : List V) (rows : List (List Cs)) (i : Nat) (nm : Cs), vs = [.ref a, .int i, .str (S nm)] ∧ H a = some (.lst vr) ∧ Rws H vr rows ∧ Tame rows ∧ (∀ c ∈ nm, c < 128) ∧ Tbs Ps H ∧
  (∀ f, numsAt rows i nm = some f → ∀ q H', Grown Ps H H' → H' q = some (.tup (f.map V.int)) → Q (.ref q) H') ∧ (numsAt rows i nm = none → Refuse Ct Ps i H E)
def spCountAt (Ct : Addr) (Ps : List Addr) : Sp := fun vs H Q E => ∃ (a : Addr) (vr : List V) (rows : List (List Cs)) (i : Nat) (nm : Cs), vs = [.ref a, .int i, .str (S nm)] ∧ H a = some (.lst vr) ∧ Rws H vr rows ∧ Tame rows ∧ (∀ c ∈ nm, c < 128) ∧ Tbs Ps H ∧
  (∀ n, countAt rows i nm = some n → ∀ H', Grown Ps H H' → Q (.int n) H') ∧ (countAt rows i nm = none → Refuse Ct Ps i H E)
theorem raise_at {Ct : Addr} {Ps : List Addr} {i : Int} {H : Hp} {E : XK} (h : Refuse Ct Ps i H E) (tb : Tbs Ps H) : ∀ d, H d = none → E (.ref Ct) (some d) (upd H d (.xd [("index", .int i)])) := fun d hd => h d _ (Grown.same (same_upd hd) tb) upd_same
theorem yes_do {te : TE} {σ : L2.St} {H : Hp} {K : VK} {Z : Hp → Prop} (h : te σ H K) : tYes σ H fun b H3 => if b = true then te σ H3 K else Z H3 := by
  show (if true = true then te σ H K else Z H)
  rw [if_pos rfl]
  exact h
theorem nx_go {D : Ends} {σ : L2.St} {H : Hp} (h : D.nx σ H) : tNext D σ H := h
theorem i_asgThen {ta : TE} {k : V → Hp → VK → Prop} {i : Nat} {tz : TS} {D : Ends} {σ : L2.St} {H : Hp} (h : ta σ H fun v H1 => k v H1 fun x H2 => tz D (σ.set i (some x)) H2) : tSeq (tAsg (tThen ta k) (gName i)) tz D σ H := h
theorem at_nat {xs : List V} {i : Nat} {v : V} (h : xs[i]? = some v) : atI xs ((i : Nat) : Int) = some v := by
  obtain ⟨hlt, he⟩ := List.getElem?_eq_some_iff.mp h
  unfold atI ixN
  simp [hlt, he]
section
variable {K : PySem.W.Frag} {σ : L2.St} {H : Hp}
/-- [number_from(word) for word in ..] -/
theorem lc_numbers {Ps : List Addr} {E : XK} {te : TE} {j : Nat} {vs : List Nat} {ws : List Cs} {Q : VK} (h : ∀ R : VK, (∀ a H', Same H H' → H' a = some (.lst (sL ws)) → R (.ref a) H') → te σ H R) (hw : ∀ w ∈ ws, w.length ≤ 640) (hn : ws.length ≤ 1000) (tb : Tbs Ps H)
    (hwp : ∀ x : V, wipe ((wipe σ vs).set j (some x)) vs = wipe σ vs) (hj : ∀ x : V, ((wipe σ vs).set j (some x))[j]? = some (some x)) (k : ∀ a H', Grown Ps H H' → H' a = some (.lst ((ws.map numW).map oV)) → Q (.ref a) H') :
    tLc (iList K te) (gName j) tYes (tCall (spNumber Ps) [] E (tCons (tVar j) tNil)) vs σ H Q := by
  refine h _ fun a H1 s1 ha => ⟨a, rfl, ⟨_, SqL.of ha⟩, fun D hD => ?_⟩
  have tb1 := (Grown.same s1 tb).tbs
  refine lc_it (walk_list (K := K) (a := a) (xs := sL ws)) (fun n H' => Grown Ps H1 H' ∧ H' D = some (.lst (((ws.take n).map numW).map oV))) ⟨Grown.put (Grown.same (Same.refl H1) tb1) hD tb1, upd_same⟩ (fun n H' _ z => SqL.of (lst_sm z.1.sm ha)) ?_ ?_
  · rintro i x _ H' hi ⟨g, e⟩ ⟨rfl, hx⟩
    obtain ⟨w, hw', rfl⟩ := sL_at hx
    refine ⟨hwp _, ?_⟩
    refine yes_do (te := tCall (spNumber Ps) [] E (tCons (tVar j) tNil)) ?_
    refine a_call (ai_cons (vi_var (hj _)) ai_nil) ⟨w, rfl, hw w (List.mem_of_getElem? hw'), g.tbs, fun H2 g2 => ?_⟩
    have eq : ws.take (i + 1) = ws.take i ++ [w] := by rw [List.take_add_one, hw']; rfl
    refine ⟨_, lst_sm g2.sm e, ?_, Grown.put (g.trans g2) hD tb1, ?_⟩
    · rw [List.length_map, List.length_map, List.length_take]
      exact Nat.lt_of_le_of_lt (show _ ≤ 1000 by omega) (by decide)
    · rw [upd_same, eq, List.map_append, List.map_append]
      rfl
  · rintro H' ⟨g, e⟩
    rw [sL_len, List.take_length] at e
    exact k D H' ((Grown.same s1 tb).trans g) e
end
section
variable {P : Program} {w : World} {K : PySem.W.Frag} {mg : Str → Option Value} {base : Heap}
theorem scNa : FnScope ["rows", "index", "name", "numbers", "word"] ["rows", "index", "name"] (defScope sNumsAt) := ⟨rfl, rfl, rfl, by decide +kernel, rfl, by decide +kernel, by decide +kernel⟩
theorem ok_numsat {f fN Ct It : Addr} {fd fdN fdI : FuncData} {Ps : List Addr} (F : Fun K "_numbers_at" "_numbers_at" sNumsAt f fd) (T : TxD mg) (FN : FnOk P w K mg base CX0 2 fN fdN ["word"] (spNumber Ps)) (mN : mg "number_from" = some (.ref fN)) (kN : PySem.W.keepIn K (.ref fN) = true) (bN : Binds K fdN ["word"] [])
    (ET : ErC K Ct It "index") (FI : FnOk P w K mg base CX0 1 It fdI ["self", "index"] (spEI Ct "index")) (bI : Binds K fdI ["self", "index"] []) (mT : mg "InvalidText" = some (.ref Ct)) : FnOk P w K mg base (L2.CX P w) 3 f fd ["rows", "index", "name"] (spNumsAt Ct Ps) := by
  refine F.okX scNa (fun vs H Q E h => ?_) (fun cdv A outer s H vs Q E hr h => ?_)
  · obtain ⟨_, _, _, _, _, rfl, _⟩ := h
    rfl
  · obtain ⟨a, vr, rows, i, nm, rfl, ha, hR, tame, hnm, tb, k1, k2⟩ := h
    have hu64 : (A.deeper (envOfC "_numbers_at" (defScope sNumsAt) s.heap.objs.size f cdv)).units + 64 < cLine := by have := hr.un; omega
    have hu65 : (A.deeper (envOfC "_numbers_at" (defScope sNumsAt) s.heap.objs.size f cdv)).units + 65 < cLine := by have := hr.un; omega
    refine ⟨_, pss_cons (ps_if (pw_or (pt_cmpR op_ge (pv 1) (pe_callB call_len_seq (by rfl) T.len PySem.boot_len (pa_cons (pv 0) pa_nil)) (nomark _)) (pw_or1 (pt_cmpR (op_neD hu64) (pe_slice sl_list (pe_ix ix_seq (pv 0) (pv 1) (fun _ _ => rfl)) po_none (po_some pe_int)) (pe_lst (pa_cons (pv 2) pa_nil)) (by rfl)))).pt
          (pss_one (ps_raiseE rfl ET FI bI hr (takes_of rfl rfl rfl rfl) (by rfl) mT (pv 1))) pss_nil)
      (pss_cons (ps_set (i := 3) scNa.nd rfl (Or.inl rfl) (pe_tupleOf (by rfl) T.tuple (pe_lc (own := [("word", 4)]) (g := gName 4) (tt := tYes) rfl scNa.nd (pi_list (pe_slice sl_list (pe_ix ix_seq (pv 0) (pv 1) (fun _ _ => rfl)) (po_some pe_int) po_none)) (blkOk_by (N := ["rows", "index", "name", "numbers", "word"]) (sc := defScope sNumsAt) (by decide +kernel))
          (fun _ _ _ _ _ => pg_name (i := 4) scNa.nd rfl (Or.inl rfl)) (fun _ _ _ _ _ => pts_nil) (fun _ _ _ _ _ => pe_call FN hr (by rfl) mN kN bN .nil pass0 (pa_cons (pv 4) pa_nil)))))
      (pss_cons (ps_if (pt_cmpR (op_inT hu65) pe_non (pv 3) (by rfl)) (pss_one (ps_raiseE rfl ET FI bI hr (takes_of rfl rfl rfl rfl) (by rfl) mT (pv 1))) pss_nil)
      (pss_one (ps_ret (pv 3))))), ?_⟩
    have no : ∀ {H1 : Hp}, Grown Ps H H1 → numsAt rows i nm = none → ∀ d, H1 d = none → E (.ref Ct) (some d) (upd H1 d (.xd [("index", .int i)])) := fun g e => raise_at ((k2 e).mono g) g.tbs
    have g00 := Grown.same (Same.refl H) tb
    have hvl := hR.len
    -- what follows the test, by which way it falls out
    have fall : ∀ H1, Same H H1 → numsAt rows i nm = none → tRaiseE Ct "index" (fun cls d _ H => E cls d H) (tVar 1) { nx := fun _ H' => Q .non H', rt := Q } (L2.start ["rows", "index", "name", "numbers", "word"] [.ref a, .int i, .str (S nm)]) H1 := fun H1 s e => ⟨_, rfl, no (Grown.same s tb) e⟩
    refine ⟨_, rfl, _, rfl, a, _, rfl, .inl (SqL.of ha), _, _, rfl, rfl, _, rfl, iteB (fun c => ?_) (fun c => ?_)⟩
    · refine iteB (fun _ => ?_) (fun z => by cases z)
      refine fall H (Same.refl H) ?_
      have c := of_decide_eq_true c
      unfold numsAt
      rw [List.getElem?_eq_none (by omega)]
    have c := of_decide_eq_false c
    have hlt : i < rows.length := by omega
    obtain ⟨r, hr'⟩ : ∃ r, rows[i]? = some r := ⟨_, List.getElem?_eq_getElem hlt⟩
    have hmem := List.mem_of_getElem? hr'
    obtain ⟨_, hv, b, rfl, hb⟩ := hR.at hr'
    have na : numsAt rows i nm = if r.take 1 = [nm] then numsW (r.drop 1) else none := by
      unfold numsAt
      rw [hr']
    refine ⟨_, rfl, _, rfl, .inl ⟨a, _, _, _, rfl, rfl, SqL.of ha, at_nat hv, ?_⟩⟩
    refine ⟨1, rfl, b, _, rfl, SqL.of hb, fun p hp => ?_⟩
    refine ⟨_, rfl, by show 1 ≤ sizeLine; decide, fun l hl0 => ?_⟩
    have s1 := same_upd (o := .lst (cutV (sL r) none (some 1))) hp
    have s2 := s1.trans (same_upd (o := .lst [.str (S nm)]) hl0)
    have npl : p ≠ l := fun z => by rw [← z, upd_same] at hl0; cases hl0
    have asc : ∀ ws : List Cs, (∀ w ∈ ws, ∀ c ∈ w, c < 128) → SeqAt.shaped (.list (dL ws)) = true := fun ws h => shaped_strs ws h
    refine ⟨.list (dL (r.take 1)), .list (dL [nm]), .lst (SqL.of (by rw [upd_ne npl, upd_same, cutV_take1, sL_take])) (dps_strs _), .lst (SqL.of upd_same) (dps_strs [nm]), asc _ fun w hw => (tame.w r hmem w (List.mem_of_mem_take hw)).2, asc _ fun w hw => by rw [List.mem_singleton.mp hw]; exact hnm, ?_⟩
    have eq : PyData.eqv (.list (dL (r.take 1))) (.list (dL [nm])) = decide (r.take 1 = [nm]) := by
      simp only [PyData.eqv]
      exact eqv_strs _ _
    rw [eq]
    refine ⟨_, rfl, iteB (fun c2 => ?_) (fun c2 => ?_)⟩
    · refine fall _ s2 ?_
      rw [na, if_neg (by simpa using c2)]
    have c2 : r.take 1 = [nm] := by simpa using c2
    rw [if_pos c2] at na
    have g2 := Grown.same s2 tb
    refine nx_go ?_
    dsimp only
    refine i_asgThen ?_
    refine lc_numbers (Ps := Ps) (σ := L2.start ["rows", "index", "name", "numbers", "word"] [.ref a, .int i, .str (S nm)]) (j := 4) (vs := [4]) (ws := r.drop 1) (H := upd (upd H p (.lst (cutV (sL r) none (some 1)))) l (.lst [.str (S nm)])) (fun R k => ?_) (fun w hw => (tame.w r hmem w (List.mem_of_mem_drop hw)).1) ?_ g2.tbs (by intro x; rfl) (by intro x; rfl) (fun e H3 g3 he => ?_)
    · refine ⟨_, rfl, _, rfl, .inl ⟨a, _, _, _, rfl, rfl, SqL.of (s2 _ _ ha), at_nat hv, 1, rfl, b, _, rfl, SqL.of (s2 _ _ hb), fun p2 hp2 => k p2 _ (same_upd hp2) ?_⟩⟩
      rw [upd_same, show (1 : Int) = ((1 : Nat) : Int) from rfl, cutV_drop, sL_drop]
    · have := tame.r r hmem
      rw [List.length_drop]
      omega
    have g3 := g2.trans g3
    refine .inl ⟨e, _, rfl, SqL.of he, fun q hq => ?_⟩
    have sq := same_upd (o := .tup (((r.drop 1).map numW).map oV)) hq
    have g4 := g3.trans (Grown.same sq g3.tbs)
    refine ⟨_, rfl, .none, ((r.drop 1).map numW).map PT.oD, .non, .tup (L2.SqT.of upd_same) (dps_oV _), by decide +kernel, shaped_oD _, ?_⟩
    rw [any_none]
    refine ⟨_, rfl, iteB (fun c3 => ?_) (fun c3 => ?_)⟩
    · refine ⟨_, rfl, no g4 ?_⟩
      rw [na]
      unfold numsW
      rw [if_neg (by simpa using c3)]
    · have c3 : (r.drop 1).all isNum = true := by simpa using c3
      refine ⟨_, rfl, k1 ((r.drop 1).map valN) ?_ q _ g4 ?_⟩
      · rw [na]
        unfold numsW
        rw [if_pos c3]
      · rw [upd_same, all_oV c3]
end
end KP

set_option Elab.async false
set_option linter.all false
set_option maxRecDepth 100000
set_option maxHeartbeats 4000000
/-! ### rows that are refused: one number, pipes -/
namespace KP
open PySem PySem.Spec PyProof.Rows L2 KX KT KJ KS FR PT SX
def spPipesFrom (Ct : Addr) (Ps : List Addr) : Sp := fun vs H Q E => ∃ (a : Addr) (vr : List V) (rows : List (List Cs)) (i : Nat), vs = [.ref a, .int i] ∧ H a = some (.lst vr) ∧ Rws H vr rows ∧ Tame rows ∧ Tbs Ps H ∧
  (∀ ps, pipesFrom (rows.drop i) = .inr ps → ∀ q xs H', Grown Ps H H' → H' q = some (.tup xs) → ThAll H' xs ps → Q (.ref q) H') ∧ (∀ k : Nat, pipesFrom (rows.drop i) = .inl k → Refuse Ct Ps ((i : Int) + (k : Int)) H E)
def preP (ps : List PyData) : Nat ⊕ List PyData → Nat ⊕ List PyData
  | .inl k => .inl (ps.length + k)
  | .inr qs => .inr (ps ++ qs)
theorem preP_nil (r : Nat ⊕ List PyData) : preP [] r = r := by
  cases r with
  | inl k => show Sum.inl (0 + k) = _; rw [Nat.zero_add]
  | inr qs => rfl
theorem preP_step {ps : List PyData} {r : List Cs} {rs : List (List Cs)} {d : PyData} (h : r.take 1 = [cPipe]) (hd : pipeW r = some d) : preP ps (pipesFrom (r :: rs)) = preP (ps ++ [d]) (pipesFrom rs) := by
  have e : pipesFrom (r :: rs) = match pipesFrom rs with
      | .inl k => .inl (k + 1)
      | .inr qs => .inr (d :: qs) := by
    show (if r.take 1 = [cPipe] then _ else _) = _
    rw [if_pos h, hd] <;> rfl
  rw [e]
  cases pipesFrom rs with
  | inl k => show Sum.inl (ps.length + (k + 1)) = Sum.inl ((ps ++ [d]).length + k); rw [List.length_append, List.length_singleton]; congr 1; omega
  | inr qs => show Sum.inr (ps ++ d :: qs) = Sum.inr (ps ++ [d] ++ qs); rw [List.append_assoc]; rfl
theorem pipe_tp {r : List Cs} {d : PyData} (h : pipeW r = some d) : tpD d = true ∧ d ≠ .none := by
  have fr : ∀ {w d}, fracW w = some d → tpD d = true := fun {w d} h => by
    unfold fracW at h
    split at h
    · cases h
      simp [tpD, tpAll]
    · cases h
  have sh : ∀ {w d}, shareW w = some d → tpD d = true := fun {w d} h => by
    unfold shareW at h
    split at h
    · cases q : numW (w.drop 1) with
      | none => rw [q] at h; cases h
      | some n => rw [q] at h; cases h; simp [tpD, tpAll]
    · exact fr h
  unfold pipeW at h
  split at h
  · rename_i a b c
    unfold pipeAt at h
    split at h
    · rename_i s d' _ q
      split at h
      · cases h
      · cases h
        refine ⟨?_, fun z => by cases z⟩
        have := sh q
        cases numW b <;> simp [tpD, tpAll, PT.oD, this]
    · cases h
  · cases h
def oneOf : List Int → Option Int
  | [n] => some n
  | _ => none
theorem count_some {rows : List (List Cs)} {i : Nat} {nm : Cs} {fs : List Int} (h : numsAt rows i nm = some fs) : countAt rows i nm = oneOf fs := by
  unfold countAt
  rw [h]
  match fs with
  | [] => rfl
  | [n] => rfl
  | _ :: _ :: _ => rfl
theorem oneOf_not {fs : List Int} (h : fs.length ≠ 1) : oneOf fs = none := by
  match fs, h with
  | [], _ => rfl
  | [n], h => exact absurd rfl h
  | _ :: _ :: _, _ => rfl
theorem oneOf_one {fs : List Int} (h : fs.length = 1) : ∃ n, fs = [n] := by
  match fs, h with
  | [n], _ => exact ⟨n, rfl⟩
theorem i_setCallS {sp : Sp} {E : L2.St → XK} {ta : TA} {tz : TS} {D : Ends} {σ : L2.St} {H : Hp} {i : Nat} {vs : List V} (h : Ai ta σ H vs) (k : sp vs H (fun v H' => tz D (σ.set i (some v)) H') (E σ)) : tSeq (tAsg (tCallS sp E ta) (gName i)) tz D σ H := h _ k
theorem pipe_eq : ("pipe" : Str) = S cPipe := by decide +kernel
section
variable {P : Program} {w : World} {K : PySem.W.Frag} {mg : Str → Option Value} {base : Heap}
theorem scCa : FnScope ["rows", "index", "name", "numbers"] ["rows", "index", "name"] (defScope sCountAt) := ⟨rfl, rfl, rfl, by decide +kernel, rfl, by decide +kernel, by decide +kernel⟩
theorem ok_countat {f fN Ct It : Addr} {fd fdN fdI : FuncData} {Ps : List Addr} (F : Fun K "_count_at" "_count_at" sCountAt f fd) (T : TxD mg) (FN : FnOk P w K mg base (L2.CX P w) 3 fN fdN ["rows", "index", "name"] (spNumsAt Ct Ps)) (mN : mg "_numbers_at" = some (.ref fN)) (kN : PySem.W.keepIn K (.ref fN) = true) (bN : Binds K fdN ["rows", "index", "name"] [])
    (ET : ErC K Ct It "index") (FI : FnOk P w K mg base CX0 1 It fdI ["self", "index"] (spEI Ct "index")) (bI : Binds K fdI ["self", "index"] []) (mT : mg "InvalidText" = some (.ref Ct)) : FnOk P w K mg base (L2.CX P w) 4 f fd ["rows", "index", "name"] (spCountAt Ct Ps) := by
  refine F.okX scCa (fun vs H Q E h => ?_) (fun cdv A outer s H vs Q E hr h => ?_)
  · obtain ⟨_, _, _, _, _, rfl, _⟩ := h
    rfl
  · obtain ⟨a, vr, rows, i, nm, rfl, ha, hR, tame, hnm, tb, k1, k2⟩ := h
    refine ⟨_, pss_cons (ps_set (i := 3) scCa.nd rfl (Or.inl rfl) (pe_callS FN hr (by rfl) mN kN bN (fun σ => passAt (takes_of rfl rfl rfl rfl) σ) (pa_cons (pv 0) (pa_cons (pv 1) (pa_cons (pv 2) pa_nil)))))
      (pss_cons (ps_if (pt_cmpR op_ne (pe_callB call_len_seq (by rfl) T.len PySem.boot_len (pa_cons (pv 3) pa_nil)) pe_int (nomark _)) (pss_one (ps_raiseE rfl ET FI bI (hr.mono (by decide)) (takes_of rfl rfl rfl rfl) (by rfl) mT (pv 1))) pss_nil)
      (pss_one (ps_ret (pe_ix ix_seq (pv 3) pe_int (fun _ _ => rfl))))), ?_⟩
    refine i_setCallS (ai_cons (vi_var rfl) (ai_cons (vi_var rfl) (ai_cons (vi_var rfl) ai_nil))) ⟨a, vr, rows, i, nm, rfl, ha, hR, tame, hnm, tb, fun fs hf q H1 g hq => ?_, fun hf => ?_⟩
    · have hc := count_some hf
      have hlen : (fs.map V.int).length = fs.length := List.length_map _
      refine i_when (b := !decide (fs.length = 1)) (ti_test (vi_op (v := .bl (!decide (fs.length = 1))) (vi_cb (v := .int (fs.map V.int).length) (ai_cons (vi_var rfl) ai_nil) fun Q q' => ⟨q, _, rfl, .inr (L2.SqT.of hq), q'⟩) vi_c fun Q q => ⟨rfl, by
          rw [show (V.int 1) = V.int ((1 : Nat) : Int) from rfl, hlen, int_dec]
          exact q⟩)) (fun c => ?_) (fun c => ?_)
      · exact ⟨_, rfl, raise_at ((k2 (by rw [hc]; exact oneOf_not (by simpa using c))).mono g) g.tbs⟩
      · obtain ⟨n, rfl⟩ := oneOf_one (fs := fs) (by simpa using c)
        exact ⟨_, rfl, .inr (.inl ⟨q, _, 0, _, rfl, rfl, L2.SqT.of hq, rfl, k1 n hc H1 g⟩)⟩
    · refine k2 ?_
      unfold countAt
      rw [hf]
theorem scPs : FnScope ["rows", "index", "pipes", "row", "pipe"] ["rows", "index"] (defScope sPipesFrom) := ⟨rfl, rfl, rfl, by decide +kernel, rfl, by decide +kernel, by decide +kernel⟩
theorem ok_pipesfrom {f fP Ct It : Addr} {fd fdP fdI : FuncData} {Ps : List Addr} (F : Fun K "_pipes_from" "_pipes_from" sPipesFrom f fd) (T : TxD mg) (FP : FnOk P w K mg base CX0 6 fP fdP ["words"] (spPipeFrom K Ps)) (mP : mg "_pipe_from" = some (.ref fP)) (kP : PySem.W.keepIn K (.ref fP) = true) (bP : Binds K fdP ["words"] [])
    (ET : ErC K Ct It "index") (FI : FnOk P w K mg base CX0 1 It fdI ["self", "index"] (spEI Ct "index")) (bI : Binds K fdI ["self", "index"] []) (mT : mg "InvalidText" = some (.ref Ct)) : FnOk P w K mg base (L2.CX P w) 7 f fd ["rows", "index"] (spPipesFrom Ct Ps) := by
  refine F.okX scPs (fun vs H Q E h => ?_) (fun cdv A outer s H vs Q E hr h => ?_)
  · obtain ⟨_, _, _, _, rfl, _⟩ := h
    rfl
  · obtain ⟨a, vr, rows, i, rfl, ha, hR, tame, tb, k1, k2⟩ := h
    have hu64 : (A.deeper (envOfC "_pipes_from" (defScope sPipesFrom) s.heap.objs.size f cdv)).units + 64 < cLine := by have := hr.un; omega
    have hr2 : Room 2 _ := hr.mono (by decide)
    refine ⟨_, pss_cons (ps_set (i := 2) scPs.nd rfl (Or.inl rfl) (pe_lst pa_nil))
      (pss_cons (ps_for (passes_of rfl) rfl (pi_list (pe_slice sl_list (pv 0) (po_some (pv 1)) po_none)) (pg_name (i := 3) scPs.nd rfl (Or.inl rfl))
        (pss_cons (ps_if (pt_cmpR (op_neD hu64) (pe_slice sl_list (pv 3) po_none (po_some pe_int)) (pe_lst (pa_cons pe_str pa_nil)) (by rfl)) (pss_one ps_break) pss_nil)
        (pss_cons (ps_set (i := 4) scPs.nd rfl (Or.inl rfl) (pe_call FP hr (by rfl) mP kP bP .nil pass0 (pa_cons (pv 3) pa_nil)))
        (pss_cons (ps_if (pt_cmpR op_isN (pv 4) pe_non (nomark _)) (pss_one (ps_raiseE rfl ET FI bI hr2 (takes_of rfl rfl rfl rfl) (by rfl) mT (pe_op op_add (pv 1) (pe_callB call_len_seq (by rfl) T.len PySem.boot_len (pa_cons (pv 2) pa_nil))))) pss_nil)
        (pss_one (ps_expr (pe_bm PySem.F.plainAttrs_list PySem.F.slot_list_append PySem.F.type_list_append mt_append (pv 2) (pa_cons (pv 4) pa_nil))))))))
      (pss_one (ps_ret (pe_tupleOf (by rfl) T.tuple (pv 2))))), ?_⟩
    refine ⟨by show 0 ≤ sizeLine; decide, fun p hp => ?_⟩
    have sp := same_upd (o := .lst ([] : List V)) hp
    have g0 := Grown.same sp tb
    refine ⟨_, rfl, _, rfl, _, rfl, a, vr, rfl, SqL.of (sp _ _ ha), fun L hL => ?_⟩
    rw [cutV_drop]
    have sL' := same_upd (o := .lst (vr.drop i)) hL
    have npL : p ≠ L := fun z => by rw [← z, upd_same] at hL; cases hL
    have g1 := Grown.same (sp.trans sL') tb
    refine ⟨L, rfl, ⟨_, SqL.of upd_same⟩, ?_⟩
    have hRd := hR.drop i
    have ll : (vr.drop i).length = (rows.drop i).length := hRd.len
    have drop_at : ∀ n r, rows[i + n]? = some r → rows.drop (i + n) = r :: rows.drop (i + (n + 1)) := fun n r h => by
      obtain ⟨hlt, he⟩ := List.getElem?_eq_some_iff.mp h
      rw [← he, show i + (n + 1) = i + n + 1 by omega]
      exact List.drop_eq_getElem_cons hlt
    have fin : ∀ (σ : L2.St) (H' : Hp) (ps : List PyData) (xs : List V), σ[2]? = some (some (.ref p)) → Grown Ps H H' → H' p = some (.lst xs) → ThAll (tO H') xs ps → pipesFrom (rows.drop i) = .inr ps →
        tRet (tThen (tVar 2) (kTup K)) { nx := fun _ H' => Q .non H', rt := Q } σ H' := fun σ H' ps xs s2 g e th hps => by
      refine ⟨_, s2, .inl ⟨p, xs, rfl, SqL.of e, fun q hq => ?_⟩⟩
      have sq := same_upd (o := .tup xs) hq
      exact k1 ps hps q xs _ (g.trans (Grown.same sq g.tbs)) upd_same (ThAll.mono (Sm.same sq) (ThAll.up th))
    refine for_it (walk_list (K := K) (a := L) (xs := vr.drop i)) (fun n σ H' => (∃ o3 o4, σ = [some (.ref a), some (.int i), some (.ref p), o3, o4]) ∧ Grown Ps H H' ∧ H' L = some (.lst (vr.drop i)) ∧ Rws H' vr rows ∧ ∃ xs ps, H' p = some (.lst xs) ∧ ThAll (tO H') xs ps ∧ ps.length = n ∧ pipesFrom (rows.drop i) = preP ps (pipesFrom (rows.drop (i + n))))
      ⟨⟨none, none, rfl⟩, g1, upd_same, hR.sm g1.sm, [], [], by rw [upd_ne npL, upd_same], .nil, rfl, by rw [preP_nil, Nat.add_zero]⟩ (fun n σ H' _ z => SqL.of z.2.2.1) ?_ ?_
    · rintro n v σ _ H' hn ⟨⟨o3, o4, rfl⟩, g, eL, hR', xs, ps, ep, th, hlen, hpre⟩ ⟨rfl, hv⟩
      rw [List.getElem?_drop] at hv
      have hlt : i + n < rows.length := by
        rw [ll, List.length_drop] at hn
        omega
      obtain ⟨r, hr'⟩ : ∃ r, rows[i + n]? = some r := ⟨_, List.getElem?_eq_getElem hlt⟩
      have hmem := List.mem_of_getElem? hr'
      obtain ⟨v', hv', b, eb, hb⟩ := hR'.at hr'
      rw [hv] at hv'
      cases hv'
      subst eb
      have dr := drop_at n r hr'
      refine ⟨_, rfl, 1, rfl, b, _, rfl, SqL.of hb, fun p2 hp2 => ?_⟩
      refine ⟨by show 1 ≤ sizeLine; decide, fun l hl0 => ?_⟩
      have s1 := same_upd (o := .lst (cutV (sL r) none (some 1))) hp2
      have s2 := s1.trans (same_upd (o := .lst [V.str "pipe"]) hl0)
      have npl : p2 ≠ l := fun z => by rw [← z, upd_same] at hl0; cases hl0
      have asc : ∀ ws : List Cs, (∀ w ∈ ws, ∀ c ∈ w, c < 128) → SeqAt.shaped (.list (dL ws)) = true := fun ws h => shaped_strs ws h
      refine ⟨.list (dL (r.take 1)), .list (dL [cPipe]), .lst (SqL.of (by rw [upd_ne npl, upd_same, cutV_take1, sL_take])) (dps_strs _), .lst (SqL.of (by rw [upd_same, pipe_eq]; rfl)) (dps_strs [cPipe]), asc _ fun w hw => (tame.w r hmem w (List.mem_of_mem_take hw)).2, asc _ fun w hw => by rw [List.mem_singleton.mp hw]; decide, ?_⟩
      have eq : PyData.eqv (.list (dL (r.take 1))) (.list (dL [cPipe])) = decide (r.take 1 = [cPipe]) := by
        simp only [PyData.eqv]
        exact eqv_strs _ _
      rw [eq]
      have g2 := g.trans (Grown.same s2 g.tbs)
      refine ⟨_, rfl, iteB (fun c => ?_) (fun c => ?_)⟩
      · have c : ¬ r.take 1 = [cPipe] := by simpa using c
        have e0 : pipesFrom (rows.drop (i + n)) = .inr [] := by
          rw [dr]
          unfold pipesFrom
          rw [if_neg c]
        refine fin _ _ ps xs rfl g2 (s2 _ _ ep) (ThAll.mono (Sm.same (Tk.same s2)) th) ?_
        rw [hpre, e0]
        show Sum.inr (ps ++ []) = _
        rw [List.append_nil]
      have c : r.take 1 = [cPipe] := by simpa using c
      refine nx_go ?_
      dsimp only
      refine i_setCall (ai_cons (vi_var rfl) ai_nil) ⟨_, r, rfl, ⟨b, rfl, s2 _ _ hb⟩, fun w hw => (tame.w r hmem w hw).1, g2.tbs, fun v H3 g3 ov => ?_⟩
      have g4 := g2.trans g3
      have ep3 := lst_sm g3.sm (s2 _ _ ep)
      have th3 : ThAll (tO H3) xs ps := ThAll.mono (Sm.same ((Tk.same s2).trans (Tk.sm g3.sm))) th
      have lx : xs.length = n := by rw [all2 th]; exact hlen
      cases q : pipeW r with
      | none =>
        rw [q] at ov
        have ov : v = .non := ov
        subst ov
        refine ⟨_, rfl, rfl, _, rfl, ?_⟩
        refine ⟨_, rfl, _, rfl, p, xs, rfl, .inl (SqL.of ep3), _, _, rfl, rfl, ?_⟩
        refine raise_at (Refuse.mono g4 ?_) g4.tbs
        rw [lx]
        refine k2 n ?_
        rw [hpre, dr]
        have : pipesFrom (r :: rows.drop (i + (n + 1))) = .inl 0 := by
          unfold pipesFrom
          rw [if_pos c, q]
        rw [this]
        show Sum.inl (ps.length + 0) = _
        rw [hlen]
        rfl
      | some d =>
        rw [q] at ov
        have ov : Th H3 v d := ov
        obtain ⟨tp, nn⟩ := pipe_tp q
        have vn : decide (v = .non) = false := OTh.non (o := some d) ov fun d' z => by cases z; exact nn
        refine i_when (b := false) (ti_test (vi_isN (vi_var rfl) vn)) (fun z => by cases z) fun _ => ?_
        have l1000 := tame.n
        refine ⟨_, rfl, .inl ⟨rfl, _, SqL.of ep3⟩, _, rfl, p, xs, v, rfl, rfl, ep3, Nat.lt_of_le_of_lt (show _ ≤ 1000 by omega) (by decide), ?_⟩
        have tk5 : Tk H3 (upd H3 p (.lst (xs ++ [v]))) := Tk.put ep3
        have gp : Grown Ps H (upd H3 p (.lst (xs ++ [v]))) := Grown.put g4 hp tb
        have hap : L ≠ p := fun z => npL z.symm
        refine ⟨⟨_, _, rfl⟩, gp, ?_, ?_, xs ++ [v], ps ++ [d], upd_same, ThAll.append (ThAll.mono (Sm.same tk5) th3) (.cons ((th_tO ov tp).tk tk5) .nil), by rw [List.length_append, hlen]; rfl, ?_⟩
        · rw [upd_ne hap]
          exact lst_sm g3.sm (s2 _ _ eL)
        · exact hR.sm gp.sm
        · rw [hpre, dr]
          exact preP_step c q
    · rintro σ H' ⟨⟨o3, o4, rfl⟩, g, eL, hR', xs, ps, ep, th, hlen, hpre⟩
      refine fin _ _ ps xs rfl g ep th ?_
      rw [hpre, List.drop_of_length_le (by rw [ll, List.length_drop]; omega)]
      show Sum.inr (ps ++ []) = _
      rw [List.append_nil]
end
end KP

set_option Elab.async false
set_option linter.all false
set_option maxRecDepth 100000
set_option maxHeartbeats 4000000
/-! ### a text, read as a net or refused -/
namespace KP
open PySem PySem.Spec PyProof.Rows L2 KX KT KJ KS FR PT SX
abbrev sNetOf : Stmt := top 29
theorem i_asg {te : TE} {i : Nat} {tz : TS} {D : Ends} {σ : L2.St} {H : Hp} (h : te σ H fun v H1 => tz D (σ.set i (some v)) H1) : tSeq (tAsg te (gName i)) tz D σ H := h
def rowsT (t : Cs) : List (List Cs) := (splitC 10 t).map wordsW
def netD (m u : PyData) (ps : List PyData) (f s : PyData) : PyData := .tuple [m, u, .tuple ps, f, s]
theorem Rws.put {H : Hp} {D : Addr} {o : HO} : ∀ {vs : List V} {rs : List (List Cs)}, Rws H vs rs → (∀ y ∈ vs, y ≠ .ref D) → Rws (upd H D o) vs rs
  | _, _, .nil, _ => .nil
  | _, _, .cons a b, n => by
    refine .cons ?_ (Rws.put b fun y hy => n y (List.mem_cons_of_mem _ hy))
    obtain ⟨c, rfl, e⟩ := a
    exact ⟨c, rfl, by rw [upd_ne (fun z => n _ List.mem_cons_self (by rw [z]))]; exact e⟩
theorem tanks_eq : ("tanks" : Str) = S cTanks := by decide +kernel
theorem unk_eq : ("unknowns" : Str) = S cUnk := by decide +kernel
theorem filled_eq : ("filled" : Str) = S cFilled := by decide +kernel
theorem seen_eq : ("seen" : Str) = S cSeen := by decide +kernel
/-- a text of moderate size -/
structure TameT (t : Cs) : Prop where
  n : t.length ≤ 100000
  r : Tame (rowsT t)
theorem TameT.split {t : Cs} (h : TameT t) : (splitC 10 t).length ≤ 1000 := by
  have := h.r.n
  unfold rowsT at this
  rwa [List.length_map] at this
/-- how a text is refused -/
def RefNet (Cn : Addr) (Ps : List Addr) (d : PyData) (H : Hp) (E : XK) : Prop := ∀ e v H', Grown Ps H H' → H' e = some (.xd [("given", v)]) → Th H' v d → E (.ref Cn) (some e) H'
def Told2 (Ct Cn : Addr) (Ps : List Addr) (H : Hp) (Q : VK) (E : XK) : PT.Rd → Prop
  | .row i => Refuse Ct Ps i H E
  | .form m u ps f s => (isNet (netD m u ps f s) = true → ∀ v H', Grown Ps H H' → Th H' v (netD m u ps f s) → Q v H') ∧ (isNet (netD m u ps f s) = false → RefNet Cn Ps (netD m u ps f s) H E)
def spNetOf (Ct Cn : Addr) (Ps : List Addr) : Sp := fun vs H Q E => ∃ t : Cs, vs = [.str (S t)] ∧ TameT t ∧ Tbs Ps H ∧ Told2 Ct Cn Ps H Q E (progR (rowsT t))
section
variable {K : PySem.W.Frag} {σ : L2.St} {H : Hp}
/-- [words_of(row) for row in text.split("\n")] -/
theorem lc_rowsof {E : XK} {te : TE} {j : Nat} {vs : List Nat} {t : Cs} {Q : VK} (h : Vi te σ H (.str (S t))) (hl : t.length ≤ 100000) (hn : (splitC 10 t).length ≤ 1000)
    (hw : ∀ x : V, wipe ((wipe σ vs).set j (some x)) vs = wipe σ vs) (hj : ∀ x : V, ((wipe σ vs).set j (some x))[j]? = some (some x)) (k : ∀ a vr H', Same H H' → H' a = some (.lst vr) → Rws H' vr (rowsT t) → Q (.ref a) H') :
    tLc (iList K (tM1 (fun x xs H Q => ∃ a b, x = .str a ∧ xs = [.str b] ∧ (b.length == 0) = false ∧ a.length + 2 ≤ sizeLine ∧ rNewStrs (Txt.split a b) H Q) te (tC (.str "\n")))) (gName j) tYes (tCall (spWords K) [] E (tCons (tVar j) tNil)) vs σ H Q := by
  refine h _ ⟨⟨_, rfl⟩, S t, "\n", rfl, rfl, rfl, ?_, fun p hp => ?_⟩
  · rw [S_len]
    exact Nat.le_trans (show _ ≤ 100002 by omega) (by decide)
  have es : (Txt.split (S t) "\n").map V.str = sL (splitC 10 t) := by
    rw [nl_eq, split_eq (by decide), List.map_map]
    rfl
  rw [es]
  refine ⟨p, rfl, ⟨_, SqL.of upd_same⟩, fun D hD => ?_⟩
  have sp := same_upd (o := .lst (sL (splitC 10 t))) hp
  refine lc_map (walk_list (K := K) (a := p) (xs := sL (splitC 10 t))) (fun H' ys i => (Rws H' ys (((splitC 10 t).take i).map wordsW) ∧ ∀ y ∈ ys, y ≠ .ref D) ∧ i ≤ (splitC 10 t).length) hD (by rw [sL_len]; exact hn) (fun _ _ i q => by rw [q.1.1.len, List.length_map, List.length_take]; have := q.2; omega) ⟨⟨.nil, fun y hy => by cases hy⟩, Nat.zero_le _⟩
    (fun H' s => SqL.of (s _ _ upd_same)) hw ?_ ?_
  · rintro i x _ H' xs hi s e hlx ⟨⟨q, nd⟩, hle⟩ ⟨rfl, hx⟩
    obtain ⟨r, er, rfl⟩ := sL_at hx
    have hr := splitC_part 10 t r (List.mem_of_getElem? er)
    refine a_call (ai_cons (vi_var (hj _)) ai_nil) ⟨r, rfl, by omega, fun a H2 na s2 ha => ?_⟩
    have e2 := s2 _ _ e
    have naD : a ≠ D := fun z => by rw [z, e] at na; cases na
    refine aft hD (s.trans s2) e2 hlx ⟨⟨?_, fun y hy => ?_⟩, by rw [sL_len] at hi; omega⟩
    · rw [List.take_add_one, er, Option.toList_some, List.map_append]
      refine Rws.snoc ⟨a, rfl, by rw [upd_ne naD]; exact ha⟩ ?_
      exact Rws.put (q.sm (Sm.same s2)) nd
    · rcases List.mem_append.mp hy with h | h
      · exact nd y h
      · rw [List.mem_singleton.mp h]
        exact fun z => naD (by cases z; rfl)
  · rintro H' xs s e ⟨⟨q, _⟩, _⟩
    rw [sL_len, List.take_length] at q
    exact k D xs H' (sp.trans s) e q
end
section
variable {P : Program} {w : World} {K : PySem.W.Frag} {mg : Str → Option Value} {base : Heap}
theorem scNo : FnScope ["text", "rows", "many", "unknowns", "pipes", "behind", "filled", "seen", "net", "row"] ["text"] (defScope sNetOf) := ⟨rfl, rfl, rfl, by decide +kernel, rfl, by decide +kernel, by decide +kernel⟩
theorem ok_netof {f fW fC fP fN fI Ct It Cn In : Addr} {fd fdW fdC fdP fdN fdI fdJ fdK : FuncData} {Ps : List Addr} (F : Fun K "net_of" "net_of" sNetOf f fd) (T : TxD mg) (FW : FnOk P w K mg base CX0 1 fW fdW ["row"] (spWords K)) (mW : mg "words_of" = some (.ref fW)) (kW : PySem.W.keepIn K (.ref fW) = true) (bW : Binds K fdW ["row"] [])
    (FC : FnOk P w K mg base (L2.CX P w) 4 fC fdC ["rows", "index", "name"] (spCountAt Ct Ps)) (mC : mg "_count_at" = some (.ref fC)) (kC : PySem.W.keepIn K (.ref fC) = true) (bC : Binds K fdC ["rows", "index", "name"] [])
    (FP : FnOk P w K mg base (L2.CX P w) 7 fP fdP ["rows", "index"] (spPipesFrom Ct Ps)) (mP : mg "_pipes_from" = some (.ref fP)) (kP : PySem.W.keepIn K (.ref fP) = true) (bP : Binds K fdP ["rows", "index"] [])
    (FN : FnOk P w K mg base (L2.CX P w) 3 fN fdN ["rows", "index", "name"] (spNumsAt Ct Ps)) (mN : mg "_numbers_at" = some (.ref fN)) (kN : PySem.W.keepIn K (.ref fN) = true) (bN : Binds K fdN ["rows", "index", "name"] [])
    (FI : FnOk P w K mg base CX0 8 fI fdI ["value"] (spNet Ps)) (mI : mg "is_net" = some (.ref fI)) (kI : PySem.W.keepIn K (.ref fI) = true) (bI : Binds K fdI ["value"] [])
    (ET : ErC K Ct It "index") (FJ : FnOk P w K mg base CX0 1 It fdJ ["self", "index"] (spEI Ct "index")) (bJ : Binds K fdJ ["self", "index"] []) (mT : mg "InvalidText" = some (.ref Ct))
    (EN : ErC K Cn In "given") (FK : FnOk P w K mg base CX0 1 In fdK ["self", "given"] (spEI Cn "given")) (bK : Binds K fdK ["self", "given"] []) (mE : mg "InvalidNet" = some (.ref Cn)) :
    FnOk P w K mg base (L2.CX P w) 9 f fd ["text"] (spNetOf Ct Cn Ps) := by
  refine F.okX scNo (fun vs H Q E h => ?_) (fun cdv A outer s H vs Q E hr h => ?_)
  · obtain ⟨_, rfl, _⟩ := h
    rfl
  · obtain ⟨t, rfl, tame, tb, k⟩ := h
    have hr1 : Room 1 _ := hr.mono (by decide)
    have hr2 : Room 2 _ := hr.mono (by decide)
    have hr3 : Room 3 _ := hr.mono (by decide)
    have hr4 : Room 4 _ := hr.mono (by decide)
    have hr7 : Room 7 _ := hr.mono (by decide)
    refine ⟨_, pss_cons (ps_if (pt_cmpR op_notTyB (pe_callTy call_type1 (by rfl) T.type (by decide +kernel) (pa_cons (pv 0) pa_nil)) (pe_bltn (v := .ty "str") (by rfl) T.str (by decide +kernel) rfl) (nomark _)) (pss_one (ps_raiseE rfl ET FJ bJ hr2 (takes_of rfl rfl rfl rfl) (by rfl) mT pe_non)) pss_nil)
      (pss_cons (ps_setLc (i := 1) (own := [("row", 9)]) (g := gName 9) (tt := tYes) rfl scNo.nd rfl rfl (sw_true rfl rfl rfl (by decide +kernel)) (pi_list (pe_split (pv 0) pe_str)) (blkOk_by (N := ["text", "rows", "many", "unknowns", "pipes", "behind", "filled", "seen", "net", "row"]) (sc := defScope sNetOf) (by decide +kernel))
          (fun _ _ _ _ _ => pg_name (i := 9) scNo.nd rfl (Or.inl rfl)) (fun _ _ _ _ _ => pts_nil) (fun _ _ _ _ _ => pe_call FW hr1 (by rfl) mW kW bW .nil pass0 (pa_cons (pv 9) pa_nil)))
      (pss_cons (ps_set (i := 2) scNo.nd rfl (Or.inl rfl) (pe_callS FC hr4 (by rfl) mC kC bC (fun σ => passAt (takes_of rfl rfl rfl rfl) σ) (pa_cons (pv 1) (pa_cons pe_int (pa_cons pe_str pa_nil)))))
      (pss_cons (ps_set (i := 3) scNo.nd rfl (Or.inl rfl) (pe_callS FC hr4 (by rfl) mC kC bC (fun σ => passAt (takes_of rfl rfl rfl rfl) σ) (pa_cons (pv 1) (pa_cons pe_int (pa_cons pe_str pa_nil)))))
      (pss_cons (ps_set (i := 4) scNo.nd rfl (Or.inl rfl) (pe_callS FP hr7 (by rfl) mP kP bP (fun σ => passAt (takes_of rfl rfl rfl rfl) σ) (pa_cons (pv 1) (pa_cons pe_int pa_nil))))
      (pss_cons (ps_set (i := 5) scNo.nd rfl (Or.inl rfl) (pe_op op_add pe_int (pe_callB call_len_seq (by rfl) T.len PySem.boot_len (pa_cons (pv 4) pa_nil))))
      (pss_cons (ps_set (i := 6) scNo.nd rfl (Or.inl rfl) (pe_callS FN hr3 (by rfl) mN kN bN (fun σ => passAt (takes_of rfl rfl rfl rfl) σ) (pa_cons (pv 1) (pa_cons (pv 5) (pa_cons pe_str pa_nil)))))
      (pss_cons (ps_set (i := 7) scNo.nd rfl (Or.inl rfl) (pe_callS FN hr3 (by rfl) mN kN bN (fun σ => passAt (takes_of rfl rfl rfl rfl) σ) (pa_cons (pv 1) (pa_cons (pe_op op_add (pv 5) pe_int) (pa_cons pe_str pa_nil)))))
      (pss_cons (ps_if (pt_cmpR op_gt (pe_callB call_len_seq (by rfl) T.len PySem.boot_len (pa_cons (pv 1) pa_nil)) (pe_op op_add (pv 5) pe_int) (nomark _)) (pss_one (ps_raiseE rfl ET FJ bJ hr2 (takes_of rfl rfl rfl rfl) (by rfl) mT (pe_op op_add (pv 5) pe_int))) pss_nil)
      (pss_cons (ps_set (i := 8) scNo.nd rfl (Or.inl rfl) (pe_tup (pa_cons (pv 2) (pa_cons (pv 3) (pa_cons (pv 4) (pa_cons (pv 6) (pa_cons (pv 7) pa_nil)))))))
      (pss_cons (ps_if (pt_not (pt_val (pe_call FI hr (by rfl) mI kI bI .nil pass0 (pa_cons (pv 8) pa_nil)))) (pss_one (ps_raiseE rfl EN FK bK hr2 (takes_of rfl rfl rfl rfl) (by rfl) mE (pv 8))) pss_nil)
      (pss_one (ps_ret (pv 8))))))))))))), ?_⟩
    refine i_when (b := false) (ti_test (vi_op (vi_type (d := .str (S t)) (ai_cons (vi_var rfl) ai_nil) (.str _)) vi_c fun Q q => ⟨_, _, rfl, rfl, q⟩)) (fun z => by cases z) fun _ => ?_
    refine i_asg ?_
    refine lc_rowsof (σ := L2.start ["text", "rows", "many", "unknowns", "pipes", "behind", "filled", "seen", "net", "row"] [.str (S t)]) (j := 9) (vs := [9]) (te := tVar 0) (vi_var rfl) tame.n tame.split (by intro x; rfl) (by intro x; rfl) fun a vr H1 s1 ha hR => ?_
    have tm := tame.r
    generalize rowsT t = rows at *
    have g1 := Grown.same s1 tb
    have lvr := hR.len
    show tSeq _ _ _ _ _
    refine i_setCallS (ai_cons (vi_var rfl) (ai_cons vi_c (ai_cons vi_c ai_nil))) ⟨a, vr, rows, 0, cTanks, by rw [tanks_eq]; rfl, ha, hR, tm, by decide, g1.tbs, fun m hm H2 g2 => ?_, fun hm => ?_⟩
    rotate_left
    · refine Refuse.mono g1 ?_
      unfold progR at k
      rw [hm] at k
      exact k
    have g2' := g1.trans g2
    refine i_setCallS (ai_cons (vi_var rfl) (ai_cons vi_c (ai_cons vi_c ai_nil))) ⟨a, vr, rows, 1, cUnk, by rw [unk_eq]; rfl, lst_sm g2.sm ha, hR.sm g2.sm, tm, by decide, g2.tbs, fun u hu H3 g3 => ?_, fun hu => ?_⟩
    rotate_left
    · refine Refuse.mono g2' ?_
      unfold progR at k
      rw [hm, hu] at k
      exact k
    have g3' := g2'.trans g3
    have sm3 := g2.sm.trans g3.sm
    refine i_setCallS (ai_cons (vi_var rfl) (ai_cons vi_c ai_nil)) ⟨a, vr, rows, 2, rfl, lst_sm sm3 ha, hR.sm sm3, tm, g3.tbs, fun ps hps q xs H4 g4 hq th => ?_, fun j hj => ?_⟩
    rotate_left
    · refine Refuse.mono g3' ?_
      unfold progR at k
      rw [hm, hu, hj] at k
      exact k
    have g4' := g3'.trans g4
    have sm4 := sm3.trans g4.sm
    have lps : xs.length = ps.length := all2 th
    have k4 : Told2 Ct Cn Ps H Q E (tailR rows m u ps) := by
      unfold progR at k
      rw [hm, hu, hps] at k
      exact k
    have eb : (2 : Int) + (xs.length : Nat) = ((2 + ps.length : Nat) : Int) := by omega
    refine i_set (v := .int ((2 + ps.length : Nat) : Int)) (vi_op vi_c (vi_cb (v := .int xs.length) (ai_cons (vi_var rfl) ai_nil) fun Q q' => ⟨q, _, rfl, .inr (L2.SqT.of hq), q'⟩) fun Q q => ⟨_, _, rfl, rfl, by dsimp only; rw [eb]; exact q⟩) ?_
    refine i_setCallS (ai_cons (vi_var rfl) (ai_cons (vi_var rfl) (ai_cons vi_c ai_nil))) ⟨a, vr, rows, 2 + ps.length, cFilled, by rw [filled_eq], lst_sm sm4 ha, hR.sm sm4, tm, by decide, g4.tbs, fun fs hf qf H5 g5 hqf => ?_, fun hf => ?_⟩
    rotate_left
    · refine Refuse.mono g4' ?_
      unfold tailR at k4
      rw [hf] at k4
      exact k4
    have g5' := g4'.trans g5
    have sm5 := sm4.trans g5.sm
    have eb1 : ((2 + ps.length : Nat) : Int) + 1 = ((2 + ps.length + 1 : Nat) : Int) := by omega
    refine i_setCallS (ai_cons (vi_var rfl) (ai_cons (v := .int ((2 + ps.length + 1 : Nat) : Int)) (vi_op (vi_var rfl) vi_c fun Q q => ⟨_, _, rfl, rfl, by dsimp only; rw [eb1]; exact q⟩) (ai_cons vi_c ai_nil))) ⟨a, vr, rows, 2 + ps.length + 1, cSeen, by rw [seen_eq], lst_sm sm5 ha, hR.sm sm5, tm, by decide, g5.tbs, fun ss hss qs H6 g6 hqs => ?_, fun hss => ?_⟩
    rotate_left
    · refine Refuse.mono g5' ?_
      unfold tailR at k4
      rw [hf, hss] at k4
      exact k4
    have g6' := g5'.trans g6
    have sm6 := sm5.trans g6.sm
    have eb2 : ((2 + ps.length : Nat) : Int) + 2 = ((2 + ps.length + 2 : Nat) : Int) := by omega
    have lt : decide (((2 + ps.length + 2 : Nat) : Int) < (vr.length : Nat)) = decide (2 + ps.length + 2 < rows.length) := by
      rw [lvr]
      rw [Bool.eq_iff_iff, decide_eq_true_iff, decide_eq_true_iff]
      omega
    unfold tailR at k4
    rw [hf, hss] at k4
    refine i_when (b := decide (2 + ps.length + 2 < rows.length)) (ti_test (vi_op (x := .int (vr.length : Nat)) (y := .int ((2 + ps.length + 2 : Nat) : Int)) (vi_cb (ai_cons (vi_var rfl) ai_nil) fun Q q => ⟨a, vr, rfl, .inl (SqL.of (lst_sm sm6 ha)), q⟩) (vi_op (vi_var rfl) vi_c fun Q q => ⟨_, _, rfl, rfl, by dsimp only; rw [eb2]; exact q⟩) fun Q q => ⟨_, _, rfl, rfl, by dsimp only; rw [lt]; exact q⟩)) (fun c => ?_) (fun c => ?_)
    · have c := of_decide_eq_true c
      refine ⟨_, rfl, _, _, rfl, rfl, ?_⟩
      dsimp only
      rw [eb2]
      refine raise_at (Refuse.mono g6' ?_) g6.tbs
      have k5 : Told2 Ct Cn Ps H Q E (if 2 + ps.length + 2 < rows.length then .row (2 + ps.length + 2) else .form (.int m) (.int u) ps (.tuple (fs.map .int)) (.tuple (ss.map .int))) := k4
      rw [if_pos c] at k5
      exact k5
    have c := of_decide_eq_false c
    have k5 : Told2 Ct Cn Ps H Q E (if 2 + ps.length + 2 < rows.length then .row (2 + ps.length + 2) else .form (.int m) (.int u) ps (.tuple (fs.map .int)) (.tuple (ss.map .int))) := k4
    rw [if_neg c] at k5
    obtain ⟨kt, kf⟩ := k5
    refine ⟨_, rfl, _, rfl, _, rfl, _, rfl, _, rfl, by show 5 ≤ sizeLine; decide, fun z hz => ?_⟩
    have sz := same_upd (o := .tup [V.int m, V.int u, .ref q, .ref qf, .ref qs]) hz
    have g7 := g6'.trans (Grown.same sz g6.tbs)
    have tup_sm : ∀ {G G' : Hp} {b : Addr} {ys : List V}, Sm G G' → G b = some (.tup ys) → G' b = some (.tup ys) := fun s e => s _ _ e fun _ z => by cases z
    have numAll : ∀ (G : Hp) (ns : List Int), ThAll G (ns.map V.int) (ns.map PyData.int) := fun G ns => by
      induction ns with
      | nil => exact .nil
      | cons n ns ih => exact .cons (.int n) ih
    have sm46 : Sm H4 (upd H6 z (.tup [V.int m, V.int u, .ref q, .ref qf, .ref qs])) := (g5.sm.trans g6.sm).trans (Sm.same sz)
    have tn : Th (upd H6 z (.tup [V.int m, V.int u, .ref q, .ref qf, .ref qs])) (.ref z) (netD (.int m) (.int u) ps (.tuple (fs.map .int)) (.tuple (ss.map .int))) :=
      .tup upd_same (.cons (.int m) (.cons (.int u) (.cons (.tup (tup_sm sm46 hq) (ThAll.mono sm46 th)) (.cons (.tup (tup_sm (g6.sm.trans (Sm.same sz)) hqf) (numAll _ _)) (.cons (.tup (tup_sm (Sm.same sz) hqs) (numAll _ _)) .nil)))))
    show tSeq _ _ _ _ _
    refine a_call (ai_cons (vi_var rfl) ai_nil) ⟨_, _, rfl, tn, g7.tbs, fun H8 g8 => ?_⟩
    have g9 := g7.trans g8
    refine ⟨_, rfl, iteB (fun c => ?_) (fun c => ?_)⟩
    · refine ⟨_, rfl, fun d hd => kf (by simpa using c) d (.ref z) _ (g9.trans (Grown.same (same_upd hd) g8.tbs)) upd_same (tn.mono (g8.sm.trans (Sm.same (same_upd hd))))⟩
    · exact ⟨_, rfl, kt (by simpa using c) _ _ g9 (tn.mono g8.sm)⟩
end
end KP

set_option Elab.async false
set_option linter.all false
set_option maxRecDepth 100000
set_option maxHeartbeats 4000000
/-! ### the law's own reading: shares and rows -/
namespace KP
open PySem PySem.Spec PyProof.Rows L2 KX KT KJ KS FR PT SX
abbrev lShareOf : Stmt := top 57
abbrev lRowSort : Stmt := top 58
section
variable {K : PySem.W.Frag} {σ : L2.St} {H : Hp}
theorem tg_and {t u : TT} {a b : Bool} (h : Tg t σ H a) (h2 : a = true → ∀ H', Same H H' → Tg u σ H' b) : Tg (tAnd t u) σ H (a && b) := fun Q q => h _ fun H' s => by
  cases a with
  | true => rw [if_pos rfl]; exact h2 rfl H' s _ fun H2 s2 => q H2 (s.trans s2)
  | false => rw [if_neg Bool.false_ne_true]; exact q H' s
theorem g_when {t : TT} {tu tz : TS} {b : Bool} {D : Ends} (h : Tg t σ H b) (h1 : b = true → ∀ H', Same H H' → tu { D with nx := tz D } σ H') (h2 : b = false → ∀ H', Same H H' → tz D σ H') : tSeq (tIfS t tu tNext) tz D σ H := h _ fun H' s => by
  cases b with
  | true => rw [if_pos rfl]; exact h1 rfl H' s
  | false => rw [if_neg Bool.false_ne_true]; exact h2 rfl H' s
theorem g_ife {t : TT} {ta tb : TE} {b : Bool} {Q : VK} (h : Tg t σ H b) (h1 : b = true → ∀ H', Same H H' → ta σ H' Q) (h2 : b = false → ∀ H', Same H H' → tb σ H' Q) : tIf t ta tb σ H Q := h _ fun H' s => by
  cases b with
  | true => rw [if_pos rfl]; exact h1 rfl H' s
  | false => rw [if_neg Bool.false_ne_true]; exact h2 rfl H' s
theorem vi_if {t : TT} {ta tb : TE} {b : Bool} {v u : V} (h : Ti t σ H b) (h1 : b = true → Vi ta σ H v) (h2 : b = false → Vi tb σ H u) : Vi (tIf t ta tb) σ H (if b = true then v else u) := fun Q q => h _ (by
  cases b with
  | true => rw [if_pos rfl]; rw [if_pos rfl] at q; exact h1 rfl Q q
  | false => rw [if_neg Bool.false_ne_true]; rw [if_neg Bool.false_ne_true] at q; exact h2 rfl Q q)
theorem vi_same {te : TE} {v u : V} (h : Vi te σ H v) (e : v = u) : Vi te σ H u := e ▸ h
theorem vi_intW {te : TE} {w : Cs} (h : Vi te σ H (.str (S w))) (hn : isNum w = true) (hl : w.length ≤ 640) : Vi (tCB (fun xs H Q => ∃ a n, xs = [.str a] ∧ PySem.intText? a = some n ∧ a.length ≤ 640 ∧ Q (.int n) H) (tCons te tNil)) σ H (.int (valN w)) :=
  vi_cb (ai_cons h ai_nil) fun Q q => ⟨_, _, rfl, int_ok hn (by omega), by rw [S_len]; exact hl, q⟩
/-- [f(word) for word in words], what f is not changed by -/
theorem lc_wmap {ti te : TE} {j : Nat} {vs : List Nat} {ws : List Cs} {Q : VK} {g : Cs → V} (h : ∀ R : VK, (∀ a H', Same H H' → H' a = some (.lst (sL ws)) → R (.ref a) H') → ti σ H R) (hn : ws.length ≤ 1000)
    (hw : ∀ x : V, wipe ((wipe σ vs).set j (some x)) vs = wipe σ vs) (he : ∀ w ∈ ws, ∀ H', Same H H' → Vg te ((wipe σ vs).set j (some (.str (S w)))) H' (g w)) (k : ∀ a H', Same H H' → H' a = some (.lst (ws.map g)) → Q (.ref a) H') :
    tLc (iList K ti) (gName j) tYes te vs σ H Q := by
  refine h _ fun a H1 s1 ha => ⟨a, rfl, ⟨_, SqL.of ha⟩, fun D hD => ?_⟩
  refine lc_map (walk_list (K := K) (a := a) (xs := sL ws)) (fun H' ys i => ys = (ws.take i).map g ∧ i ≤ ws.length) hD (by rw [sL_len]; exact hn) (fun _ _ i q => by rw [q.1, List.length_map, List.length_take]; have := q.2; omega) ⟨rfl, Nat.zero_le _⟩
    (fun H' s => SqL.of (s _ _ ha)) hw ?_ ?_
  · rintro i x _ H' xs hi s e hlx ⟨q, hle⟩ ⟨rfl, hx⟩
    obtain ⟨w, ew, rfl⟩ := sL_at hx
    refine he w (List.mem_of_getElem? ew) H' (s1.trans s) _ fun H2 s2 => ?_
    refine aft hD (s.trans s2) (s2 _ _ e) hlx ⟨?_, by rw [sL_len] at hi; omega⟩
    rw [q, List.take_add_one, ew, List.map_append]
    rfl
  · rintro H' xs s e ⟨q, _⟩
    rw [sL_len, List.take_length] at q
    rw [q] at e
    exact k D H' (s1.trans s) e
theorem cb1 {r : List V → Hp → VK → Prop} {te : TE} {Q : VK} (h : te σ H fun v H1 => r [v] H1 Q) : tCB r (tCons te tNil) σ H Q := h
theorem all_bl (ws : List Cs) (p : Cs → Bool) : (ws.map p).all id = ws.all p := by
  rw [List.all_map]
  rfl
/-- all([_law_digits(word) for word in words]) -/
theorem vg_alldig {E : XK} {ti : TE} {j : Nat} {vs : List Nat} {ws : List Cs} (h : ∀ R : VK, (∀ a H', Same H H' → H' a = some (.lst (sL ws)) → R (.ref a) H') → ti σ H R) (hn : ws.length ≤ 1000) (hl : ∀ w ∈ ws, w.length ≤ 640 ∧ ∀ c ∈ w, c < 128)
    (hw : ∀ x : V, wipe ((wipe σ vs).set j (some x)) vs = wipe σ vs) (hj : ∀ x : V, ((wipe σ vs).set j (some x))[j]? = some (some x)) :
    Vg (tCB (rAll K) (tCons (tLc (iList K ti) (gName j) tYes (tCall (spDigits K) [] E (tCons (tVar j) tNil)) vs) tNil)) σ H (.bl (ws.all isNum)) := fun Q q => by
  refine cb1 ?_
  refine lc_wmap (g := fun w => V.bl (isNum w)) h hn hw (fun w hm H' s Q' q' => ?_) fun a H' s ha => ?_
  · exact a_call (ai_cons (vi_var (hj _)) ai_nil) ⟨w, rfl, (hl w hm).1, (hl w hm).2, q'⟩
  · refine ⟨a, ws.map isNum, rfl, SqL.of (by rw [ha, List.map_map]; rfl), ?_⟩
    rw [all_bl]
    exact q H' s
theorem tg_dig {E : XK} {te : TE} {w : Cs} (h : Vi te σ H (.str (S w))) (hl : w.length ≤ 640) (ha : ∀ c ∈ w, c < 128) : Tg (tB (tCall (spDigits K) [] E (tCons te tNil))) σ H (isNum w) := tg_val fun Q q => a_call (ai_cons h ai_nil) ⟨w, rfl, hl, ha, q⟩
end
theorem strEq (w u : Cs) : decide (V.str (S w) = V.str (S u)) = decide (w = u) := by
  rw [Bool.eq_iff_iff, decide_eq_true_iff, decide_eq_true_iff]
  exact ⟨fun h => S_inj (V.str.inj h), fun h => by rw [h]⟩
section
variable {K : PySem.W.Frag} {σ : L2.St} {H : Hp}
theorem lst_none {Q : VK} (k : ∀ l, H l = none → Q (.ref l) (upd H l (.lst []))) : tLst tNil σ H Q := ⟨Nat.zero_le _, k⟩
theorem lst_tup2 {ta tb : TE} {v u : V} {Q : VK} (ha : Vi ta σ H v) (hb : Vi tb σ H u) (k : ∀ p l, H p = none → (upd H p (.tup [v, u])) l = none → Q (.ref l) (upd (upd H p (.tup [v, u])) l (.lst [.ref p]))) :
    tLst (tCons (tTup (tCons ta (tCons tb tNil))) tNil) σ H Q := ha _ (hb _ ⟨(by show 2 ≤ sizeLine; decide), fun p hp => ⟨(by show 1 ≤ sizeLine; decide), fun l hl => k p l hp hl⟩⟩)
theorem vi_lenS {te : TE} {a : Addr} {ws : List Cs} (h : Vi te σ H (.ref a)) (e : H a = some (.lst (sL ws))) : Vi (tCB (rLen K) (tCons te tNil)) σ H (.int (ws.length : Nat)) := vi_cb (ai_cons h ai_nil) fun Q q => ⟨a, _, rfl, .inl (SqL.of e), by rw [sL_len]; exact q⟩
theorem vi_gtN {ta : TE} {n m : Nat} {c : Int} (hc : c = (m : Int)) (h : Vi ta σ H (.int (n : Nat))) : Vi (tOp (rI0 fun i j => .bl (decide (j < i))) ta (tC (.int c))) σ H (.bl (decide (m < n))) := vi_op h vi_c fun Q q => ⟨_, _, rfl, rfl, by
  dsimp only
  have : decide (c < (n : Int)) = decide (m < n) := by rw [Bool.eq_iff_iff, decide_eq_true_iff, decide_eq_true_iff]; omega
  rw [this]
  exact q⟩
theorem vi_eqN {ta : TE} {n m : Nat} {c : Int} (hc : c = (m : Int)) (h : Vi ta σ H (.int (n : Nat))) : Vi (tOp rEq ta (tC (.int c))) σ H (.bl (decide (n = m))) := vi_op h vi_c fun Q q => ⟨rfl, by rw [hc, int_dec]; exact q⟩
theorem vi_neN {ta : TE} {n m : Nat} {c : Int} (hc : c = (m : Int)) (h : Vi ta σ H (.int (n : Nat))) : Vi (tOp rNe ta (tC (.int c))) σ H (.bl (!decide (n = m))) := vi_op h vi_c fun Q q => ⟨rfl, by rw [hc, int_dec]; exact q⟩
end
theorem ite_str {b : Bool} {w u : Cs} : (if b = true then V.str (S w) else V.str (S u)) = V.str (S (if b = true then w else u)) := by cases b <;> rfl
theorem ite_int {b : Bool} {i j : Int} : (if b = true then V.int i else V.int j) = V.int (if b = true then i else j) := by cases b <;> rfl
/-- a new list of what is told, or of nothing -/
def NewL (H H' : Hp) (l : Addr) (o : Option PyData) : Prop := Same H H' ∧ H l = none ∧ (match o with
  | none => H' l = some (.lst [])
  | some d => ∃ u, H' l = some (.lst [u]) ∧ Th (tO H') u d)
def spShareL : Sp := fun vs H Q _ => ∃ w : Cs, vs = [.str (S w)] ∧ w.length ≤ 640 ∧ (∀ c ∈ w, c < 128) ∧ ∀ l H', NewL H H' l (shareW w) → Q (.ref l) H'
section
variable {P : Program} {w : World} {K : PySem.W.Frag} {mg : Str → Option Value} {base : Heap}
theorem scSo : FnScope ["word", "bare", "parts", "part"] ["word"] (defScope lShareOf) := ⟨rfl, rfl, rfl, by decide +kernel, rfl, by decide +kernel, by decide +kernel⟩
theorem ok_shareof {f fD : Addr} {fd fdD : FuncData} (F : Fun K "_law_share_of" "_law_share_of" lShareOf f fd) (T : TxD mg) (FD : FnOk P w K mg base CX0 1 fD fdD ["word"] (spDigits K)) (mD : mg "_law_digits" = some (.ref fD)) (kD : PySem.W.keepIn K (.ref fD) = true) (bD : Binds K fdD ["word"] []) :
    FnOk P w K mg base CX0 2 f fd ["word"] spShareL := by
  refine F.ok scSo (fun vs H Q E h => ?_) (fun cdv A outer s H vs Q E hr h => ?_)
  · obtain ⟨_, rfl, _⟩ := h
    rfl
  · obtain ⟨x, rfl, hl, asc, k⟩ := h
    refine ⟨_, pss_cons (ps_if (pt_cmpR op_eq (pe_slice sl_str (pv 0) po_none (po_some pe_int)) pe_str (nomark _))
          (pss_one (ps_ret (pe_ifExp (pt_val (pe_call FD hr (by rfl) mD kD bD .nil pass0 (pa_cons (pe_slice sl_str (pv 0) (po_some pe_int) po_none) pa_nil))) (pe_lst (pa_cons (pe_tup (pa_cons pe_str (pa_cons (pe_callTy call_int_str (by rfl) T.int (by decide +kernel) (pa_cons (pe_slice sl_str (pv 0) (po_some pe_int) po_none) pa_nil)) pa_nil))) pa_nil)) (pe_lst pa_nil)))) pss_nil)
      (pss_cons (ps_set (i := 1) scSo.nd rfl (Or.inl rfl) (pe_ifExp (pt_cmpR op_eq (pe_slice sl_str (pv 0) po_none (po_some pe_int)) pe_str (nomark _)) (pe_slice sl_str (pv 0) (po_some pe_int) po_none) (pv 0)))
      (pss_cons (ps_set (i := 2) scSo.nd rfl (Or.inl rfl) (pe_split (pv 1) pe_str))
      (pss_cons (ps_if (pw_or (pt_cmpR op_gt (pe_callB call_len_seq (by rfl) T.len PySem.boot_len (pa_cons (pv 2) pa_nil)) pe_int (nomark _))
          (pw_or (pt_not (pt_val (pe_callB (cr_all rfl) (by rfl) T.all (by decide +kernel) (pa_cons (pe_lc (own := [("part", 3)]) (g := gName 3) (tt := tYes) rfl scSo.nd (pi_list (pv 2)) (blkOk_by (N := ["word", "bare", "parts", "part"]) (sc := defScope lShareOf) (by decide +kernel))
            (fun _ _ _ _ _ => pg_name (i := 3) scSo.nd rfl (Or.inl rfl)) (fun _ _ _ _ _ => pts_nil) (fun _ _ _ _ _ => pe_call FD hr (by rfl) mD kD bD .nil pass0 (pa_cons (pv 3) pa_nil))) pa_nil))))
          (pw_or1 (pw_and (pt_cmpR op_eq (pe_slice sl_str (pv 0) po_none (po_some pe_int)) pe_str (nomark _)) (pw_and1 (pt_cmpR op_eq (pe_ix ix_seq (pv 2) pe_int (fun _ _ => rfl)) pe_str (nomark _)))).pt))).pt (pss_one (ps_ret (pe_lst pa_nil))) pss_nil)
      (pss_one (ps_ret (pe_lst (pa_cons (pe_tup (pa_cons (pe_ifExp (pt_cmpR op_eq (pv 1) (pv 0) (nomark _)) (pe_callTy call_int_str (by rfl) T.int (by decide +kernel) (pa_cons (pe_ix ix_seq (pv 2) pe_int (fun _ _ => rfl)) pa_nil)) (pe_op op_sub pe_int (pe_callTy call_int_str (by rfl) T.int (by decide +kernel) (pa_cons (pe_ix ix_seq (pv 2) pe_int (fun _ _ => rfl)) pa_nil))))
          (pa_cons (pe_ifExp (pt_cmpR op_eq (pe_callB call_len_seq (by rfl) T.len PySem.boot_len (pa_cons (pv 2) pa_nil)) pe_int (nomark _)) (pe_callTy call_int_str (by rfl) T.int (by decide +kernel) (pa_cons (pe_ix ix_seq (pv 2) pe_int (fun _ _ => rfl)) pa_nil)) pe_int) pa_nil))) pa_nil))))))), ?_⟩
    have none_ : ∀ H1, Same H H1 → shareW x = none → ∀ l, H1 l = none → Q (.ref l) (upd H1 l (.lst [])) := fun H1 s1 e l hl' => k l _ ⟨s1.trans (same_upd hl'), none_same s1 hl', by rw [e]; exact upd_same⟩
    have some_ : ∀ H1 (v u : V) (d1 d2 : PyData), Same H H1 → Th (tO H1) v d1 → Th (tO H1) u d2 → shareW x = some (.tuple [d1, d2]) → ∀ p l, H1 p = none → (upd H1 p (.tup [v, u])) l = none → Q (.ref l) (upd (upd H1 p (.tup [v, u])) l (.lst [.ref p])) := fun H1 v u d1 d2 s1 tv tu e p l hp hl' => by
      have s2 := same_upd (o := .tup [v, u]) hp
      have s3 := same_upd (o := .lst [V.ref p]) hl'
      refine k l _ ⟨(s1.trans s2).trans s3, none_same (s1.trans s2) hl', ?_⟩
      rw [e]
      refine ⟨_, upd_same, .tup (tO_of (s3 _ _ upd_same)) (.cons (tv.tk (Tk.same (s2.trans s3))) (.cons (tu.tk (Tk.same (s2.trans s3))) .nil))⟩
    refine i_when (b := decide (x.take 1 = [120])) (ti_test (vi_eqS (vi_take1 (vi_var rfl) hl) x_cs)) (fun c => ?_) (fun c => ?_)
    · have c := of_decide_eq_true c
      have l1 : (x.drop 1).length ≤ 640 := by rw [List.length_drop]; omega
      have e : shareW x = (numW (x.drop 1)).map fun n => .tuple [.str "x", .int n] := by
        unfold shareW
        rw [if_pos c]
      refine g_ife (b := isNum (x.drop 1)) (tg_dig (vi_drop1 (vi_var rfl) hl) l1 fun c hc => asc c (List.mem_of_mem_drop hc)) (fun b H1 s1 => ?_) (fun b H1 s1 => ?_)
      · refine lst_tup2 vi_c (vi_intW (vi_drop1 (vi_var rfl) hl) b l1) (some_ H1 _ _ (.str "x") (.int (valN (x.drop 1))) s1 (.str _) (.int _) ?_)
        rw [e]
        unfold numW
        rw [if_pos b]
        rfl
      · refine lst_none (none_ H1 s1 ?_)
        rw [e]
        unfold numW
        rw [if_neg (by rw [b]; decide)]
        rfl
    have c := of_decide_eq_false c
    have e : shareW x = lawFrac x := by
      unfold shareW
      rw [if_neg c, lawFrac_eq]
    have bl : (if decide (x.take 1 = [45]) = true then x.drop 1 else x).length ≤ 640 := by
      split
      · rw [List.length_drop]; omega
      · exact hl
    have ba : ∀ c ∈ (if decide (x.take 1 = [45]) = true then x.drop 1 else x), c < 128 := fun c hc => by
      split at hc
      · exact asc c (List.mem_of_mem_drop hc)
      · exact asc c hc
    refine i_set (v := .str (S (if decide (x.take 1 = [45]) = true then x.drop 1 else x))) (vi_same (vi_if (ti_test (vi_eqS (vi_take1 (vi_var rfl) hl) dash_cs)) (fun _ => vi_drop1 (vi_var rfl) hl) fun _ => vi_var rfl) ite_str) ?_
    unfold lawFrac at e
    dsimp only at e
    generalize (if decide (x.take 1 = [45]) = true then x.drop 1 else x) = bare at *
    refine i_asg ?_
    refine ⟨_, rfl, ⟨_, rfl⟩, S bare, "/", rfl, rfl, rfl, ?_, fun p hp => ?_⟩
    · rw [S_len]
      exact Nat.le_trans (show _ ≤ 642 by omega) (by decide)
    have es : (Txt.split (S bare) "/").map V.str = sL (splitC 47 bare) := by
      rw [show ("/" : Str) = S [47] by decide +kernel, split_eq (by decide), List.map_map]
      rfl
    rw [es]
    have sp := same_upd (o := .lst (sL (splitC 47 bare))) hp
    have hpl := splitC_len 47 bare
    have hpt : ∀ q ∈ splitC 47 bare, q.length ≤ 640 ∧ ∀ c ∈ q, c < 128 := fun q hq => by
      obtain ⟨h1, h2⟩ := splitC_part 47 bare q hq
      exact ⟨by omega, fun c hc => ba c (h2 c hc)⟩
    have hne := splitC_ne 47 bare
    generalize splitC 47 bare = parts at *
    obtain ⟨w0, rest, rfl⟩ : ∃ w0 rest, parts = w0 :: rest := by
      cases parts with
      | nil => exact absurd rfl hne
      | cons a b => exact ⟨a, b, rfl⟩
    have m0 := hpt w0 List.mem_cons_self
    show tSeq _ _ _ _ _
    refine g_when (b := decide (2 < (w0 :: rest).length) || (!(w0 :: rest).all isNum || (decide (x.take 1 = [45]) && decide (w0 = [48])))) (tg_or (tg_of (ti_test (vi_gtN rfl (vi_lenS (vi_var rfl) upd_same)))) fun _ H1 s1 => tg_or (tg_not (tg_val (vg_alldig (fun R k => ⟨_, rfl, k p H1 (Same.refl H1) (s1 _ _ upd_same)⟩) (by omega) hpt (by intro x; rfl) (by intro x; rfl)))) fun _ H2 s2 =>
      tg_and (tg_of (ti_test (vi_eqS (vi_take1 (vi_var rfl) hl) dash_cs))) fun _ H3 s3 => tg_of (ti_test (vi_eqS (vi_word (n := 0) (vi_var rfl) (s3 _ _ (s2 _ _ (s1 _ _ upd_same))) rfl) nought_cs))) (fun b H1 s1 => ?_) (fun b H1 s1 => ?_)
    · refine lst_none (none_ H1 (sp.trans s1) ?_)
      rw [e]
      exact if_pos b
    · have e1 := s1 _ _ (upd_same (o := .lst (sL (w0 :: rest))))
      have b' := b
      rw [Bool.or_eq_false_iff, Bool.or_eq_false_iff, Bool.not_eq_false'] at b'
      obtain ⟨_, ball, _⟩ := b'
      have n0 : isNum w0 = true := List.all_eq_true.mp ball w0 List.mem_cons_self
      have v0 : Vi (tCB (fun xs H Q => ∃ a n, xs = [.str a] ∧ PySem.intText? a = some n ∧ a.length ≤ 640 ∧ Q (.int n) H) (tCons (tOp (rIx K) (tVar 2) (tC (.int 0))) tNil)) ((L2.start ["word", "bare", "parts", "part"] [.str (S x)]).set 1 (some (.str (S bare))) |>.set 2 (some (.ref p))) H1 (.int (valN w0)) := vi_intW (vi_word (n := 0) (vi_var rfl) e1 rfl) n0 m0.1
      refine lst_tup2 (v := .int (if decide (bare = x) = true then valN w0 else 0 - valN w0)) (u := .int (if decide ((w0 :: rest).length = 2) = true then valN ((w0 :: rest).getD 1 []) else 1)) (vi_same (vi_if (b := decide (bare = x)) (ti_test (vi_op (vi_var rfl) (vi_var rfl) fun Q q => ⟨rfl, by rw [strEq]; exact q⟩)) (fun _ => v0) fun _ => vi_sub vi_c v0) ite_int)
        (vi_same (vi_if (b := decide ((w0 :: rest).length = 2)) (ti_test (vi_eqN rfl (vi_lenS (vi_var rfl) e1))) (fun c2 => ?_) fun _ => vi_c) ite_int) (some_ H1 _ _ _ _ (sp.trans s1) (.int _) (.int _) ?_)
      · have c2 := of_decide_eq_true c2
        obtain ⟨w1, rfl⟩ : ∃ w1, rest = [w1] := by
          match rest, c2 with
          | [w1], _ => exact ⟨w1, rfl⟩
        have m1 := hpt w1 (by simp)
        exact vi_intW (vi_word (n := 1) (vi_var rfl) e1 rfl) (List.all_eq_true.mp ball w1 (by simp)) m1.1
      · rw [e, if_neg (by
          intro z
          rw [show (w0 :: rest).headD [] = w0 from rfl] at z
          rw [z] at b
          cases b)]
        simp only [decide_eq_true_eq]
        rfl
end
end KP

set_option Elab.async false
set_option linter.all false
set_option maxRecDepth 100000
set_option maxHeartbeats 4000000
/-! ### the law's own reading: rows -/
namespace KP
open PySem PySem.Spec PyProof.Rows L2 KX KT KJ KS FR PT SX
theorem shaped_str {w : Cs} (h : ∀ c ∈ w, c < 128) : SeqAt.shaped (.str (S w)) = true := by
  refine shaped_of ?_ (by simp [PyData.depth])
  simp only [PyData.canLay0, PyData.strOk]
  rw [← Array.all_toList, List.all_eq_true]
  intro c hc
  have := h c hc
  exact decide_eq_true (by omega)
theorem shaped_str2 {w u : Cs} (h : ∀ c ∈ w, c < 128) (h2 : ∀ c ∈ u, c < 128) : SeqAt.shaped (.tuple [.str (S w), .str (S u)]) = true := by
  have key : ∀ {w : Cs}, (∀ c ∈ w, c < 128) → PyData.strOk (S w) = true := fun {w} h => by
    simp only [PyData.strOk]
    rw [← Array.all_toList, List.all_eq_true]
    intro c hc
    have := h c hc
    exact decide_eq_true (by omega)
  refine shaped_of ?_ (by simp [PyData.depth, PyData.depthAll])
  simp only [PyData.canLay0, PyData.canLayAll0, Bool.and_eq_true]
  exact ⟨key h, key h2, trivial⟩
theorem eqv_str (w u : Cs) : PyData.eqv (.str (S w)) (.str (S u)) = decide (w = u) := by
  simp only [PyData.eqv]
  exact S_beq_eq
theorem share_lay {w : Cs} {d : PyData} (h : shareW w = some d) : SeqAt.shaped (.list [d]) = true ∧ d.hasDict = false := by
  have fr : ∀ {w d}, fracW w = some d → ∃ i j, d = .tuple [.int i, .int j] := fun {w d} h => by
    unfold fracW at h
    split at h
    · cases h
      exact ⟨_, _, rfl⟩
    · cases h
  have pr : ∀ (d : PyData), (d.canLay0 = true) → d.depth ≤ 2 → SeqAt.shaped (.list [d]) = true := fun d a b => by
    refine shaped_of ?_ ?_
    · simp only [PyData.canLay0, PyData.canLayAll0, a]
      rfl
    · simp only [PyData.depth, PyData.depthAll]
      omega
  unfold shareW at h
  split at h
  · cases q : numW (w.drop 1) with
    | none => rw [q] at h; cases h
    | some n =>
      rw [q] at h
      cases h
      exact ⟨pr _ (by simp only [PyData.canLay0, PyData.canLayAll0]; decide +kernel) (by simp [PyData.depth, PyData.depthAll]), by simp [PyData.hasDict, PyData.hasDictAll]⟩
  · obtain ⟨i, j, rfl⟩ := fr h
    exact ⟨pr _ (by simp [PyData.canLay0, PyData.canLayAll0]) (by simp [PyData.depth, PyData.depthAll]), by simp [PyData.hasDict, PyData.hasDictAll]⟩
section
variable {K : PySem.W.Frag} {σ : L2.St} {H : Hp}
theorem cons_then {ta : TE} {k : V → Hp → VK → Prop} {QA : List V → Hp → Prop} (h : ta σ H fun v H1 => k v H1 fun x H2 => QA [x] H2) : tCons (tThen ta k) tNil σ H QA := h
theorem cons_vi {te : TE} {ta : TA} {v : V} {QA : List V → Hp → Prop} (h : Vi te σ H v) (h2 : ta σ H fun vs H1 => QA (v :: vs) H1) : tCons te ta σ H QA := h _ h2
theorem ret_l2 {D : Ends} {t : TA} {x : V} (h : t σ H fun vs H1 => vs.length ≤ sizeLine ∧ ∀ p, H1 p = none → ([x, V.ref p].length ≤ sizeLine ∧ ∀ l, (upd H1 p (.tup vs)) l = none → D.rt (.ref l) (upd (upd H1 p (.tup vs)) l (.lst [x, .ref p])))) : tRet (tLst (tCons (tC x) (tCons (tTup t) tNil))) D σ H := h
/-- word in ("a", "b") -/
theorem tg_in2 {te : TE} {w la lb : Cs} {a b : Str} (h : Vi te σ H (.str (S w))) (hw : ∀ c ∈ w, c < 128) (ea : a = S la) (eb : b = S lb) (ha : ∀ c ∈ la, c < 128) (hb : ∀ c ∈ lb, c < 128) :
    Tg (tTest (tOp (rInT K) te (tTup (tCons (tC (.str a)) (tCons (tC (.str b)) tNil))))) σ H (decide (w = la ∨ w = lb)) := tg_test fun Q q => h _ ⟨by show 2 ≤ sizeLine; decide, fun p hp => by
  subst ea eb
  refine ⟨.str (S w), [.str (S la), .str (S lb)], .str _, .tup (L2.SqT.of upd_same) (.cons (.str _) (.cons (.str _) .nil)), shaped_str hw, shaped_str2 ha hb, ?_⟩
  have e : ([PyData.str (S la), .str (S lb)].any fun z => PyData.eqv z (.str (S w))) = decide (w = la ∨ w = lb) := by
    simp only [List.any_cons, List.any_nil, eqv_str]
    rw [Bool.eq_iff_iff, decide_eq_true_iff]
    simp only [Bool.or_eq_true, decide_eq_true_eq, Bool.false_eq_true, or_false]
    constructor
    · rintro (rfl | rfl)
      · exact .inl rfl
      · exact .inr rfl
    · rintro (rfl | rfl)
      · exact .inl rfl
      · exact .inr rfl
  rw [e]
  exact q _ (same_upd hp)⟩
/-- xs == [] of things told -/
theorem tg_eqnil {te : TE} {a : Addr} {xs : List V} {ds : List PyData} (h : Vi te σ H (.ref a)) (e : H a = some (.lst xs)) (hd : DpAll K H xs ds) (hs : SeqAt.shaped (.list ds) = true) (mono : ∀ p, H p = none → DpAll K (upd H p (.lst [])) xs ds) :
    Tg (tTest (tOp (rEqD K) te (tLst tNil))) σ H (decide (ds = [])) := tg_test fun Q q => h _ ⟨Nat.zero_le _, fun p hp => by
  have s := same_upd (o := .lst ([] : List V)) hp
  refine ⟨.list ds, .list [], .lst (SqL.of (s _ _ e)) (mono p hp), .lst (SqL.of upd_same) .nil, hs, by decide +kernel, ?_⟩
  have e2 : PyData.eqv (.list ds) (.list []) = decide (ds = []) := by
    cases ds with
    | nil => rfl
    | cons d ds => simp [PyData.eqv, PyData.eqvAll]
  rw [e2]
  exact q _ s⟩
end
/-- a new list: a name and what is told, or nothing -/
def NewR (H H' : Hp) (l : Addr) (o : Option (Cs × PyData)) : Prop := Same H H' ∧ H l = none ∧ (match o with
  | none => H' l = some (.lst [])
  | some y => ∃ u, H' l = some (.lst [.str (S y.1), u]) ∧ Th (tO H') u y.2)
def spRowSort : Sp := fun vs H Q _ => ∃ (a : Addr) (ws : List Cs), vs = [.ref a] ∧ H a = some (.lst (sL ws)) ∧ ws.length ≤ 1000 ∧ (∀ w ∈ ws, w.length ≤ 640 ∧ ∀ c ∈ w, c < 128) ∧ ∀ l H', NewR H H' l (sortR ws) → Q (.ref l) H'
section
variable {P : Program} {w : World} {K : PySem.W.Frag} {mg : Str → Option Value} {base : Heap}
theorem scRs : FnScope ["words", "is_right", "share", "word"] ["words"] (defScope lRowSort) := ⟨rfl, rfl, rfl, by decide +kernel, rfl, by decide +kernel, by decide +kernel⟩
theorem ok_rowsort {f fD fS : Addr} {fd fdD fdS : FuncData} (F : Fun K "_law_row_sort" "_law_row_sort" lRowSort f fd) (T : TxD mg) (FD : FnOk P w K mg base CX0 1 fD fdD ["word"] (spDigits K)) (mD : mg "_law_digits" = some (.ref fD)) (kD : PySem.W.keepIn K (.ref fD) = true) (bD : Binds K fdD ["word"] [])
    (FS : FnOk P w K mg base CX0 2 fS fdS ["word"] spShareL) (mS : mg "_law_share_of" = some (.ref fS)) (kS : PySem.W.keepIn K (.ref fS) = true) (bS : Binds K fdS ["word"] []) : FnOk P w K mg base CX0 3 f fd ["words"] spRowSort := by
  refine F.ok scRs (fun vs H Q E h => ?_) (fun cdv A outer s H vs Q E hr h => ?_)
  · obtain ⟨_, _, rfl, _⟩ := h
    rfl
  · obtain ⟨a, ws, rfl, ha, hn, hw, k⟩ := h
    have hu64 : (A.deeper (envOfC "_law_row_sort" (defScope lRowSort) s.heap.objs.size f cdv)).units + 64 < cLine := by have := hr.un; omega
    have hu65 : (A.deeper (envOfC "_law_row_sort" (defScope lRowSort) s.heap.objs.size f cdv)).units + 65 < cLine := by have := hr.un; omega
    have hr1 : Room 1 _ := hr.mono (by decide)
    refine ⟨_, pss_cons (ps_if (pt_cmpR (op_eqD hu64) (pv 0) (pe_lst pa_nil) (by rfl)) (pss_one (ps_ret (pe_lst pa_nil))) pss_nil)
      (pss_cons (ps_if (pt_cmpR (op_inT hu65) (pe_ix ix_seq (pv 0) pe_int (fun _ _ => rfl)) (pe_tup (pa_cons pe_str (pa_cons pe_str pa_nil))) (by rfl))
          (pss_one (ps_ret (pe_ifExp (pw_and (pt_cmpR op_eq (pe_callB call_len_seq (by rfl) T.len PySem.boot_len (pa_cons (pv 0) pa_nil)) pe_int (nomark _)) (pw_and1 (pt_val (pe_call FD hr1 (by rfl) mD kD bD .nil pass0 (pa_cons (pe_ix ix_seq (pv 0) pe_int (fun _ _ => rfl)) pa_nil))))).pt
            (pe_lst (pa_cons (pe_ix ix_seq (pv 0) pe_int (fun _ _ => rfl)) (pa_cons (pe_callTy call_int_str (by rfl) T.int (by decide +kernel) (pa_cons (pe_ix ix_seq (pv 0) pe_int (fun _ _ => rfl)) pa_nil)) pa_nil))) (pe_lst pa_nil)))) pss_nil)
      (pss_cons (ps_if (pt_cmpR (op_inT hu65) (pe_ix ix_seq (pv 0) pe_int (fun _ _ => rfl)) (pe_tup (pa_cons pe_str (pa_cons pe_str pa_nil))) (by rfl))
          (pss_cons (ps_set (i := 1) scRs.nd rfl (Or.inl rfl) (pe_callB (cr_all rfl) (by rfl) T.all (by decide +kernel) (pa_cons (pe_lc (own := [("word", 3)]) (g := gName 3) (tt := tYes) rfl scRs.nd (pi_list (pe_slice sl_list (pv 0) (po_some pe_int) po_none)) (blkOk_by (N := ["words", "is_right", "share", "word"]) (sc := defScope lRowSort) (by decide +kernel))
            (fun _ _ _ _ _ => pg_name (i := 3) scRs.nd rfl (Or.inl rfl)) (fun _ _ _ _ _ => pts_nil) (fun _ _ _ _ _ => pe_call FD hr1 (by rfl) mD kD bD .nil pass0 (pa_cons (pv 3) pa_nil))) pa_nil)))
          (pss_one (ps_ret (pe_ifExp (pt_val (pv 1)) (pe_lst (pa_cons (pe_ix ix_seq (pv 0) pe_int (fun _ _ => rfl)) (pa_cons (pe_tupleOf (by rfl) T.tuple (pe_lc (own := [("word", 3)]) (g := gName 3) (tt := tYes) rfl scRs.nd (pi_list (pe_slice sl_list (pv 0) (po_some pe_int) po_none)) (blkOk_by (N := ["words", "is_right", "share", "word"]) (sc := defScope lRowSort) (by decide +kernel))
            (fun _ _ _ _ _ => pg_name (i := 3) scRs.nd rfl (Or.inl rfl)) (fun _ _ _ _ _ => pts_nil) (fun _ _ _ _ _ => pe_callTy call_int_str (by rfl) T.int (by decide +kernel) (pa_cons (pv 3) pa_nil)))) pa_nil))) (pe_lst pa_nil))))) pss_nil)
      (pss_cons (ps_if (pw_or (pt_cmpR op_ne (pe_ix ix_seq (pv 0) pe_int (fun _ _ => rfl)) pe_str (nomark _)) (pw_or (pt_cmpR op_ne (pe_callB call_len_seq (by rfl) T.len PySem.boot_len (pa_cons (pv 0) pa_nil)) pe_int (nomark _)) (pw_or1 (pt_not (pt_val (pe_call FD hr1 (by rfl) mD kD bD .nil pass0 (pa_cons (pe_ix ix_seq (pv 0) pe_int (fun _ _ => rfl)) pa_nil))))))).pt (pss_one (ps_ret (pe_lst pa_nil))) pss_nil)
      (pss_cons (ps_set (i := 2) scRs.nd rfl (Or.inl rfl) (pe_call FS hr (by rfl) mS kS bS .nil pass0 (pa_cons (pe_ix ix_seq (pv 0) pe_int (fun _ _ => rfl)) pa_nil)))
      (pss_cons (ps_if (pw_or (pt_cmpR (op_eqD hu64) (pv 2) (pe_lst pa_nil) (by rfl)) (pw_or1 (pw_and (pt_cmpR op_ne (pe_ix ix_seq (pv 0) pe_int (fun _ _ => rfl)) pe_str (nomark _)) (pw_and1 (pt_not (pt_val (pe_call FD hr1 (by rfl) mD kD bD .nil pass0 (pa_cons (pe_ix ix_seq (pv 0) pe_int (fun _ _ => rfl)) pa_nil)))))).pt)).pt (pss_one (ps_ret (pe_lst pa_nil))) pss_nil)
      (pss_one (ps_ret (pe_lst (pa_cons pe_str (pa_cons (pe_tup (pa_cons (pe_callTy call_int_str (by rfl) T.int (by decide +kernel) (pa_cons (pe_ix ix_seq (pv 0) pe_int (fun _ _ => rfl)) pa_nil)) (pa_cons (pe_ifExp (pt_cmpR op_eq (pe_ix ix_seq (pv 0) pe_int (fun _ _ => rfl)) pe_str (nomark _)) pe_non (pe_callTy call_int_str (by rfl) T.int (by decide +kernel) (pa_cons (pe_ix ix_seq (pv 0) pe_int (fun _ _ => rfl)) pa_nil)))
        (pa_cons (pe_ix ix_seq (pv 2) pe_int (fun _ _ => rfl)) pa_nil)))) pa_nil)))))))))), ?_⟩
    have none_ : ∀ {σ : L2.St} {H1 : Hp}, Same H H1 → sortR ws = none → tRet (tLst tNil) { nx := fun _ H' => Q .non H', rt := Q } σ H1 := fun s1 e => lst_none fun l hl' => k l _ ⟨s1.trans (same_upd hl'), none_same s1 hl', by rw [e]; exact upd_same⟩
    have some_ : ∀ {σ : L2.St} {H1 : Hp} {ta tb : TE} {h : Cs} {u : V} {d : PyData}, Same H H1 → sortR ws = some (h, d) → Vi ta σ H1 (.str (S h)) → (∀ R : VK, (∀ H2, Same H1 H2 → Th (tO H2) u d → R u H2) → tb σ H1 R) → tLst (tCons ta (tCons tb tNil)) σ H1 Q := fun {σ H1 ta tb h u d} s1 e hva hvb => hva _ (hvb _ fun H2 s2 th => ⟨by show 2 ≤ sizeLine; decide, fun l hl' => by
      have s3 := same_upd (o := .lst [V.str (S h), u]) hl'
      refine k l _ ⟨(s1.trans s2).trans s3, none_same (s1.trans s2) hl', ?_⟩
      rw [e]
      exact ⟨u, upd_same, th.tk (Tk.same s3)⟩⟩)
    refine g_when (b := decide (dL ws = [])) (tg_eqnil (vi_var rfl) ha (dps_strs ws) (shaped_strs ws fun w h => (hw w h).2) fun _ _ => dps_strs ws) (fun c H1 s1 => ?_) (fun c H1 s1 => ?_)
    · have c := of_decide_eq_true c
      have : ws = [] := by
        unfold dL at c
        exact List.map_eq_nil_iff.mp c
      exact none_ s1 (by rw [this]; rfl)
    obtain ⟨w0, rest, rfl⟩ : ∃ w0 rest, ws = w0 :: rest := by
      cases ws with
      | nil => exact absurd (of_decide_eq_false c) (fun z => z rfl)
      | cons a b => exact ⟨a, b, rfl⟩
    have m0 := hw w0 List.mem_cons_self
    have ha1 := s1 _ _ ha
    have srt : sortR (w0 :: rest) = if (w0 = cTanks ∨ w0 = cUnk) then (oneN rest).map fun n => (w0, .int n)
      else if (w0 = cFilled ∨ w0 = cSeen) then (numsW rest).map fun ns => (w0, .tuple (ns.map .int))
      else if w0 = cPipe then (pipeW (w0 :: rest)).map fun d => (w0, d)
      else none := rfl
    refine g_when (b := decide (w0 = cTanks ∨ w0 = cUnk)) (tg_in2 (vi_word (n := 0) (vi_var rfl) ha1 rfl) m0.2 tanks_eq unk_eq (by decide) (by decide)) (fun c1 H2 s2 => ?_) (fun c1 H2 s2 => ?_)
    · have c1 := of_decide_eq_true c1
      rw [if_pos c1] at srt
      have ha2 := s2 _ _ ha1
      have s12 := s1.trans s2
      refine g_ife (b := decide ((w0 :: rest).length = 2) && isNum ((w0 :: rest).getD 1 [])) (tg_and (tg_of (ti_test (vi_eqN rfl (vi_lenS (vi_var rfl) ha2)))) fun z H3 s3 => ?_) (fun c2 H3 s3 => ?_) (fun c2 H3 s3 => ?_)
      · obtain ⟨w1, rfl⟩ : ∃ w1, rest = [w1] := by
          match rest, of_decide_eq_true z with
          | [w1], _ => exact ⟨w1, rfl⟩
        exact tg_dig (vi_word (n := 1) (vi_var rfl) (s3 _ _ ha2) rfl) (hw w1 (by simp)).1 (hw w1 (by simp)).2
      · rw [Bool.and_eq_true] at c2
        obtain ⟨z, c2⟩ := c2
        obtain ⟨w1, rfl⟩ : ∃ w1, rest = [w1] := by
          match rest, of_decide_eq_true z with
          | [w1], _ => exact ⟨w1, rfl⟩
        have c2 : isNum w1 = true := c2
        have e : sortR [w0, w1] = some (w0, .int (valN w1)) := by
          rw [srt]
          show (numW w1).map _ = _
          unfold numW
          rw [if_pos c2]
          rfl
        refine some_ (u := .int (valN w1)) (s12.trans s3) e (vi_word (n := 0) (vi_var rfl) (s3 _ _ ha2) rfl) fun R r => ?_
        exact vi_intW (vi_word (n := 1) (vi_var rfl) (s3 _ _ ha2) rfl) c2 (hw w1 (by simp)).1 R (r H3 (Same.refl H3) (.int _))
      · refine none_ (σ := L2.start ["words", "is_right", "share", "word"] [.ref a]) (s12.trans s3) ?_
        rw [srt]
        match rest, c2 with
        | [], _ => rfl
        | [w1], c2 =>
          have c2 : isNum w1 = false := by simpa using c2
          show (numW w1).map _ = _
          unfold numW
          rw [if_neg (by rw [c2]; decide)]
          rfl
        | _ :: _ :: _, _ => rfl
    have c1 := of_decide_eq_false c1
    rw [if_neg c1] at srt
    have ha2 := s2 _ _ ha1
    have s12 := s1.trans s2
    refine g_when (b := decide (w0 = cFilled ∨ w0 = cSeen)) (tg_in2 (vi_word (n := 0) (vi_var rfl) ha2 rfl) m0.2 filled_eq seen_eq (by decide) (by decide)) (fun c2 H3 s3 => ?_) (fun c2 H3 s3 => ?_)
    · have c2 := of_decide_eq_true c2
      rw [if_pos c2] at srt
      have ha3 := s3 _ _ ha2
      have s13 := s12.trans s3
      have tail : ∀ {G : Hp} {σ : L2.St} (R : VK), σ[0]? = some (some (.ref a)) → Same H3 G → (∀ b H', Same G H' → H' b = some (.lst (sL rest)) → R (.ref b) H') → tSl (rSlL K) (tVar 0) (tPart (tC (.int 1))) tNoPart σ G R := fun {G σ} R hσ sG r => by
        refine ⟨_, hσ, 1, rfl, a, _, rfl, SqL.of (sG _ _ ha3), fun p hp => ?_⟩
        have e : cutV (sL (w0 :: rest)) (some 1) none = sL rest := by
          rw [show (1 : Int) = ((1 : Nat) : Int) from rfl, cutV_drop, sL_drop]
          rfl
        rw [e]
        exact r p _ (same_upd hp) upd_same
      have hrest : ∀ w ∈ rest, w.length ≤ 640 ∧ ∀ c ∈ w, c < 128 := fun w h => hw w (List.mem_cons_of_mem _ h)
      have lr : rest.length ≤ 1000 := by
        have := hn
        rw [List.length_cons] at this
        omega
      refine i_asg ?_
      refine vg_alldig (ws := rest) (fun R r => tail R rfl (Same.refl H3) r) lr hrest (by intro x; rfl) (by intro x; rfl) _ fun H4 s4 => ?_
      have s14 := s13.trans s4
      refine g_ife (tg_of (ti_val (vi_var rfl))) (fun c3 H5 s5 => ?_) (fun c3 H5 s5 => ?_)
      · have e : sortR (w0 :: rest) = some (w0, .tuple ((rest.map valN).map .int)) := by
          rw [srt]
          unfold numsW
          rw [if_pos c3]
          rfl
        have ha5 := s5 _ _ (s4 _ _ ha3)
        refine ((vi_word (n := 0) (vi_var rfl) ha5 rfl) _ ?_)
        refine cons_then ?_
        refine lc_wmap (σ := (L2.start ["words", "is_right", "share", "word"] [.ref a]).set 1 (some (.bl (rest.all isNum)))) (j := 3) (vs := [3]) (ws := rest) (g := fun w => V.int (valN w)) (fun R r => tail R rfl (s4.trans s5) r) lr (by intro x; rfl) (fun w hm G sG => vg_of (vi_intW (vi_var rfl) (List.all_eq_true.mp c3 w hm) (hrest w hm).1)) fun b H6 s6 hb => ?_
        refine .inl ⟨b, _, rfl, SqL.of hb, fun q hq => ?_⟩
        have sq := same_upd (o := .tup (rest.map fun w => V.int (valN w))) hq
        refine ⟨by show 2 ≤ sizeLine; decide, fun l hl' => ?_⟩
        have s7 := same_upd (o := .lst [V.str (S w0), V.ref q]) hl'
        have s16 := ((s14.trans s5).trans s6).trans sq
        refine k l _ ⟨s16.trans s7, none_same s16 hl', ?_⟩
        rw [e]
        refine ⟨_, upd_same, .tup (tO_of (s7 _ _ upd_same)) ?_⟩
        have al : ∀ (G : Hp) (us : List Cs), ThAll G (us.map fun w => V.int (valN w)) ((us.map valN).map .int) := fun G us => by
          induction us with
          | nil => exact .nil
          | cons u us ih => exact .cons (.int _) ih
        exact al _ rest
      · refine none_ (σ := L2.start ["words", "is_right", "share", "word"] [.ref a]) (s14.trans s5) ?_
        rw [srt]
        unfold numsW
        rw [if_neg (by rw [c3]; decide)]
        rfl
    have c2 := of_decide_eq_false c2
    rw [if_neg c2] at srt
    have ha3 := s3 _ _ ha2
    have s13 := s12.trans s3
    refine g_when (b := !decide (w0 = cPipe) || (!decide ((w0 :: rest).length = 4) || !isNum ((w0 :: rest).getD 1 []))) (tg_or (tg_of (ti_test (vi_neS (vi_word (n := 0) (vi_var rfl) ha3 rfl) (by rw [pipe_eq])))) fun _ G sG => tg_or (tg_of (ti_test (vi_neN rfl (vi_lenS (vi_var rfl) (sG _ _ ha3))))) fun z G2 sG2 => ?_) (fun c3 H4 s4 => ?_) (fun c3 H4 s4 => ?_)
    · obtain ⟨w1, w2, w3, rfl⟩ : ∃ w1 w2 w3, rest = [w1, w2, w3] := by
        match rest, (show rest.length + 1 = 4 by simpa using z) with
        | [w1, w2, w3], _ => exact ⟨w1, w2, w3, rfl⟩
      exact tg_not (tg_dig (vi_word (n := 1) (vi_var rfl) (sG2 _ _ (sG _ _ ha3)) rfl) (hw w1 (by simp)).1 (hw w1 (by simp)).2)
    · refine none_ (s13.trans s4) ?_
      rw [srt]
      by_cases e : w0 = cPipe
      · rw [if_pos e]
        rw [decide_eq_true e, Bool.not_true, Bool.false_or] at c3
        by_cases l4 : (w0 :: rest).length = 4
        · rw [decide_eq_true l4, Bool.not_true, Bool.false_or] at c3
          obtain ⟨w1, w2, w3, rfl⟩ : ∃ w1 w2 w3, rest = [w1, w2, w3] := by
            match rest, (show rest.length + 1 = 4 by simpa using l4) with
            | [w1, w2, w3], _ => exact ⟨w1, w2, w3, rfl⟩
          have n1 : isNum w1 = false := by simpa using c3
          show (pipeAt w1 w2 w3).map _ = none
          unfold pipeAt numW
          rw [n1]
          rfl
        · have : pipeW (w0 :: rest) = none := by
            match rest, l4 with
            | [], _ => rfl
            | [_], _ => rfl
            | [_, _], _ => rfl
            | [_, _, _], l4 => exact absurd rfl l4
            | _ :: _ :: _ :: _ :: _, _ => rfl
          rw [this]
          rfl
      · rw [if_neg e]
    rw [Bool.or_eq_false_iff, Bool.or_eq_false_iff] at c3
    obtain ⟨c4, c5, c6⟩ := c3
    have c4 : w0 = cPipe := by simpa using c4
    obtain ⟨w1, w2, w3, rfl⟩ : ∃ w1 w2 w3, rest = [w1, w2, w3] := by
      match rest, (show rest.length + 1 = 4 by simpa using c5) with
      | [w1, w2, w3], _ => exact ⟨w1, w2, w3, rfl⟩
    have n1 : isNum w1 = true := by simpa using c6
    rw [if_pos c4] at srt
    have m1 := hw w1 (by simp)
    have m2 := hw w2 (by simp)
    have m3 := hw w3 (by simp)
    have ha4 := s4 _ _ ha3
    have s14 := s13.trans s4
    have pw : pipeW [w0, w1, w2, w3] = pipeAt w1 w2 w3 := rfl
    rw [pw] at srt
    unfold pipeAt at srt
    have nw1 : numW w1 = some (valN w1) := by unfold numW; rw [if_pos n1]
    rw [nw1] at srt
    refine i_setCall (ai_cons (vi_word (n := 3) (vi_var rfl) ha4 rfl) ai_nil) ⟨w3, rfl, m3.1, m3.2, fun l H5 nl => ?_⟩
    obtain ⟨s5, nl5, el⟩ := nl
    have ha5 := s5 _ _ ha4
    have s15 := s14.trans s5
    cases q3 : shareW w3 with
    | none =>
      rw [q3] at el srt
      refine g_when (b := decide (([] : List PyData) = []) || false) (tg_or (tg_eqnil (vi_var rfl) el .nil (by decide +kernel) fun _ _ => .nil) fun z => by cases z) (fun _ H6 s6 => none_ (s15.trans s6) (by rw [srt]; rfl)) (fun z => by cases z)
    | some d =>
      rw [q3] at el srt
      obtain ⟨u, el, thu⟩ := el
      obtain ⟨shd, hdd⟩ := share_lay q3
      have dpu : ∀ {G : Hp}, Same H5 G → DpAll K G [u] [d] := fun sG => .cons ((thu.up.mono (Sm.same sG)).dp hdd) .nil
      refine g_when (b := decide ([d] = []) || (!decide (w2 = cOut) && !isNum w2)) (tg_or (tg_eqnil (vi_var rfl) el (dpu (Same.refl H5)) shd fun p hp => dpu (same_upd hp)) fun _ G sG => tg_and (tg_of (ti_test (vi_neS (vi_word (n := 2) (vi_var rfl) (sG _ _ ha5) rfl) out_cs))) fun _ G2 sG2 => tg_not (tg_dig (vi_word (n := 2) (vi_var rfl) (sG2 _ _ (sG _ _ ha5)) rfl) m2.1 m2.2)) (fun c7 H6 s6 => ?_) (fun c7 H6 s6 => ?_)
      · refine none_ (s15.trans s6) ?_
        rw [srt]
        rw [show decide ([d] = []) = false from rfl, Bool.false_or, Bool.and_eq_true] at c7
        have i2 : isNum w2 = false := by simpa using c7.2
        have : numW w2 = none := by unfold numW; rw [i2]; rfl
        dsimp only
        rw [this, if_pos (by simpa using c7.1)]
        rfl
      · rw [show decide ([d] = []) = false from rfl, Bool.false_or] at c7
        have ha6 := s6 _ _ ha5
        have ne : ((numW w2).isNone && !decide (w2 = cOut)) = false := by
          cases o : decide (w2 = cOut) with
          | true => simp
          | false =>
            rw [o] at c7
            have i2 : isNum w2 = true := by simpa using c7
            unfold numW
            rw [i2]
            rfl
        have e : sortR [w0, w1, w2, w3] = some (cPipe, .tuple [.int (valN w1), PT.oD (numW w2), d]) := by
          rw [srt]
          dsimp only
          rw [if_neg (by rw [ne]; decide), c4]
          rfl
        refine ret_l2 ?_
        refine cons_vi (vi_intW (vi_word (n := 1) (vi_var rfl) ha6 rfl) n1 m1.1) ?_
        refine cons_vi (v := oV (numW w2)) (vi_same (vi_if (b := decide (w2 = cOut)) (v := .non) (u := .int (valN w2)) (ti_test (vi_eqS (vi_word (n := 2) (vi_var rfl) ha6 rfl) out_cs)) (fun _ => vi_c) fun o => ?_) ?_) ?_
        · rw [o] at c7
          exact vi_intW (vi_word (n := 2) (vi_var rfl) ha6 rfl) (by simpa using c7) m2.1
        · cases o : decide (w2 = cOut) with
          | true =>
            have : w2 = cOut := of_decide_eq_true o
            rw [this]
            rfl
          | false =>
            rw [o] at c7
            have i2 : isNum w2 = true := by simpa using c7
            unfold numW
            rw [if_pos i2]
            rfl
        refine cons_vi (v := u) (vi_op (vi_var rfl) vi_c fun Q q => .inl ⟨l, [u], 0, u, rfl, rfl, SqL.of (s6 _ _ el), rfl, q⟩) ?_
        refine ⟨by show 3 ≤ sizeLine; decide, fun p hp => ⟨by show 2 ≤ sizeLine; decide, fun l2 hl2 => ?_⟩⟩
        have s7 := same_upd (o := .tup [V.int (valN w1), oV (numW w2), u]) hp
        have s8 := same_upd (o := .lst [V.str "pipe", V.ref p]) hl2
        have s16 := (s15.trans s6).trans s7
        refine k l2 _ ⟨s16.trans s8, none_same s16 hl2, ?_⟩
        rw [e]
        refine ⟨.ref p, by rw [upd_same, pipe_eq], .tup (tO_of (s8 _ _ upd_same)) (.cons (.int _) (.cons (oV_th _ _) (.cons (thu.tk (Tk.same ((s6.trans s7).trans s8))) .nil)))⟩
end
end KP

set_option Elab.async false
set_option linter.all false
set_option maxRecDepth 100000
set_option maxHeartbeats 4000000
/-! ### the law's own reading: texts -/
namespace KP
open PySem PySem.Spec PyProof.Rows L2 KX KT KJ KS FR PT SX
abbrev lRead : Stmt := top 59
theorem share_data {w : Cs} {d : PyData} (h : shareW w = some d) : (∃ n, d = .tuple [.str "x", .int n]) ∨ ∃ i j, d = .tuple [.int i, .int j] := by
  unfold shareW at h
  split at h
  · cases q : numW (w.drop 1) with
    | none => rw [q] at h; cases h
    | some n => rw [q] at h; cases h; exact .inl ⟨n, rfl⟩
  · unfold fracW at h
    split at h
    · cases h
      exact .inr ⟨_, _, rfl⟩
    · cases h
theorem pipe_data {r : List Cs} {d : PyData} (h : pipeW r = some d) : ∃ i o s w, d = .tuple [.int i, PT.oD o, s] ∧ shareW w = some s := by
  unfold pipeW at h
  split at h
  · rename_i a b c
    unfold pipeAt at h
    split at h
    · rename_i s d' _ q
      split at h
      · cases h
      · cases h
        exact ⟨_, _, _, _, rfl, q⟩
    · cases h
  · cases h
theorem sort_data {r : List Cs} {h : Cs} {d : PyData} (e : sortR r = some (h, d)) : ((h = cTanks ∨ h = cUnk) ∧ ∃ n, d = .int n) ∨ ((h = cFilled ∨ h = cSeen) ∧ ∃ ns : List Int, d = .tuple (ns.map .int)) ∨ (h = cPipe ∧ ∃ i o s w, d = .tuple [.int i, PT.oD o, s] ∧ shareW w = some s) := by
  cases r with
  | nil => cases e
  | cons a t =>
    unfold sortR at e
    dsimp only at e
    split at e
    · rename_i c
      cases q : oneN t with
      | none => rw [q] at e; cases e
      | some n => rw [q] at e; cases e; exact .inl ⟨c, n, rfl⟩
    · split at e
      · rename_i c
        cases q : numsW t with
        | none => rw [q] at e; cases e
        | some n => rw [q] at e; cases e; exact .inr (.inl ⟨c, n, rfl⟩)
      · split at e
        · rename_i c
          cases q : pipeW (a :: t) with
          | none => rw [q] at e; cases e
          | some n => rw [q] at e; cases e; exact .inr (.inr ⟨c, pipe_data q⟩)
        · cases e
structure Lyd (n : Nat) (d : PyData) : Prop where
  lay : d.canLay0 = true
  dep : d.depth ≤ n
structure Nice (d : PyData) : Prop where
  lay : Lyd 5 d
  dict : d.hasDict = false
  tp : tpD d = true
theorem lay_int (n : Nat) (i : Int) : Lyd (n + 1) (.int i) := ⟨rfl, by simp [PyData.depth]⟩
theorem share_nice {w : Cs} {d : PyData} (h : shareW w = some d) : Lyd 2 d ∧ d.hasDict = false ∧ tpD d = true := by
  rcases share_data h with ⟨n, rfl⟩ | ⟨i, j, rfl⟩
  · exact ⟨⟨by simp only [PyData.canLay0, PyData.canLayAll0]; decide +kernel, by simp [PyData.depth, PyData.depthAll]⟩, by simp [PyData.hasDict, PyData.hasDictAll], by simp [tpD, tpAll]⟩
  · exact ⟨⟨by simp [PyData.canLay0, PyData.canLayAll0], by simp [PyData.depth, PyData.depthAll]⟩, by simp [PyData.hasDict, PyData.hasDictAll], by simp [tpD, tpAll]⟩
theorem ints_nice : ∀ ns : List Int, PyData.canLayAll0 (ns.map .int) = true ∧ PyData.hasDictAll (ns.map .int) = false ∧ tpAll (ns.map .int) = true
  | [] => ⟨rfl, rfl, rfl⟩
  | n :: ns => by
    obtain ⟨a, b, c⟩ := ints_nice ns
    simp [PyData.canLayAll0, PyData.canLay0, PyData.hasDictAll, PyData.hasDict, tpAll, tpD, a, b, c]
theorem pipe_nice {i : Int} {o : Option Int} {s : PyData} {w : Cs} (h : shareW w = some s) : Nice (.tuple [.int i, PT.oD o, s]) := by
  obtain ⟨a, b, c⟩ := share_nice h
  have ad := a.dep
  refine ⟨⟨?_, ?_⟩, ?_, ?_⟩
  · cases o <;> simp [PyData.canLay0, PyData.canLayAll0, PT.oD, a.lay]
  · cases o <;> simp [PyData.depth, PyData.depthAll, PT.oD] <;> omega
  · cases o <;> simp [PyData.hasDict, PyData.hasDictAll, PT.oD, b]
  · cases o <;> simp [tpD, tpAll, PT.oD, c]
theorem sort_nice {r : List Cs} {h : Cs} {d : PyData} (e : sortR r = some (h, d)) : (∀ c ∈ h, c < 128) ∧ Nice d := by
  rcases sort_data e with ⟨hh, n, rfl⟩ | ⟨hh, ns, rfl⟩ | ⟨hh, i, o, s, w, rfl, hs⟩
  · refine ⟨by rcases hh with rfl | rfl <;> decide, lay_int 4 n, rfl, by simp [tpD]⟩
  · obtain ⟨a, b, c⟩ := ints_nice ns
    refine ⟨by rcases hh with rfl | rfl <;> decide, ⟨by simpa [PyData.canLay0] using a, ?_⟩, by simpa [PyData.hasDict] using b, by simpa [tpD] using c⟩
    simp only [PyData.depth]
    have := depthAll_of (n := 1) (ds := ns.map PyData.int) fun d hd => by
      obtain ⟨i, _, rfl⟩ := List.mem_map.mp hd
      simp [PyData.depth]
    omega
  · refine ⟨by rw [hh]; decide, pipe_nice hs⟩
theorem shaped_named {h : Cs} {d : PyData} (a : ∀ c ∈ h, c < 128) (n : Nice d) : SeqAt.shaped (.list [.str (S h), d]) = true := by
  refine shaped_of ?_ ?_
  · simp only [PyData.canLay0, PyData.canLayAll0, n.lay.lay, PyData.strOk, Bool.and_true]
    rw [← Array.all_toList, List.all_eq_true]
    intro c hc
    have := a c hc
    exact decide_eq_true (by omega)
  · have := n.lay.dep
    simp only [PyData.depth, PyData.depthAll]
    omega
section
variable {K : PySem.W.Frag} {σ : L2.St} {H : Hp}
theorem call1 {sp : Sp} {E : XK} {te : TE} {Q : VK} (h : te σ H fun v H1 => sp [v] H1 Q E) : tCall sp [] E (tCons te tNil) σ H Q := h
theorem ret_row {D : Ends} {te : TE} {x v : V} (hv : Vi te σ H v) (k : ∀ l, H l = none → D.rt (.ref l) (upd H l (.lst [x, v]))) : tRet (tLst (tCons (tC x) (tCons te tNil))) D σ H := hv _ ⟨by show 2 ≤ sizeLine; decide, k⟩
theorem cons_go {ta : TE} {tb : TA} {k : V → Hp → VK → Prop} {QA : List V → Hp → Prop} (h : ta σ H fun v H1 => k v H1 fun x H2 => tb σ H2 fun vs H3 => QA (x :: vs) H3) : tCons (tThen ta k) tb σ H QA := h
theorem g_if2 {t : TT} {ta tb : TS} {b : Bool} {D : Ends} (h : Tg t σ H b) (h1 : b = true → ∀ H', Same H H' → ta D σ H') (h2 : b = false → ∀ H', Same H H' → tb D σ H') : tIfS t ta tb D σ H := h _ fun H' s => by
  cases b with
  | true => rw [if_pos rfl]; exact h1 rfl H' s
  | false => rw [if_neg Bool.false_ne_true]; exact h2 rfl H' s
theorem tg_nenil {te : TE} {a : Addr} {xs : List V} {ds : List PyData} (h : Vi te σ H (.ref a)) (e : H a = some (.lst xs)) (hs : SeqAt.shaped (.list ds) = true) (mono : ∀ H', Same H H' → DpAll K H' xs ds) :
    Tg (tTest (tOp (rNeD K) te (tLst tNil))) σ H (!decide (ds = [])) := tg_test fun Q q => h _ ⟨Nat.zero_le _, fun p hp => by
  have s := same_upd (o := .lst ([] : List V)) hp
  refine ⟨.list ds, .list [], .lst (SqL.of (s _ _ e)) (mono _ s), .lst (SqL.of upd_same) .nil, hs, by decide +kernel, ?_⟩
  have e2 : PyData.eqv (.list ds) (.list []) = decide (ds = []) := by
    cases ds with
    | nil => rfl
    | cons d ds => simp [PyData.eqv, PyData.eqvAll]
  rw [e2]
  exact q _ s⟩
theorem vi_ltN {ta : TE} {n m : Nat} {c : Int} (hc : c = (m : Int)) (h : Vi ta σ H (.int (n : Nat))) : Vi (tOp (rI0 fun i j => .bl (decide (i < j))) ta (tC (.int c))) σ H (.bl (decide (n < m))) := vi_op h vi_c fun Q q => ⟨_, _, rfl, rfl, by
  dsimp only
  have : decide ((n : Int) < c) = decide (n < m) := by rw [Bool.eq_iff_iff, decide_eq_true_iff, decide_eq_true_iff]; omega
  rw [this]
  exact q⟩
theorem vi_elem {te : TE} {a : Addr} {xs : List V} {n : Nat} {v : V} {c : Int} (hc : c = (n : Int)) (h : Vi te σ H (.ref a)) (e : H a = some (.lst xs)) (hn : xs[n]? = some v) : Vi (tOp (rIx K) te (tC (.int c))) σ H v :=
  vi_op h vi_c fun Q q => .inl ⟨a, _, _, _, rfl, rfl, SqL.of e, by rw [hc]; exact at_nat hn, q⟩
theorem vi_eqSS {ta tb : TE} {w u : Cs} (h : Vi ta σ H (.str (S w))) (h2 : Vi tb σ H (.str (S u))) : Vi (tOp rEq ta tb) σ H (.bl (decide (w = u))) := vi_op h h2 fun Q q => ⟨rfl, by rw [strEq]; exact q⟩
end
theorem thAll_tk' {H H' : Hp} {vs : List V} {ds : List PyData} (h : ThAll (tO H) vs ds) (s : Tk H H') : ThAll (tO H') vs ds := ThAll.mono (Sm.same s) h
def wished : List V := [.str "tanks", .str "unknowns", .str "filled", .str "seen"]
theorem wished_at {k : Nat} (h : k < 4) : wished[k]? = some (.str (S (wishAt k))) := by
  match k, h with
  | 0, _ => show some (V.str "tanks") = some (V.str (S cTanks)); rw [tanks_eq]
  | 1, _ => show some (V.str "unknowns") = some (V.str (S cUnk)); rw [unk_eq]
  | 2, _ => show some (V.str "filled") = some (V.str (S cFilled)); rw [filled_eq]
  | 3, _ => show some (V.str "seen") = some (V.str (S cSeen)); rw [seen_eq]
/-- what the law reads, as it stands -/
def ReadAt (H : Hp) (l : Addr) : PT.Rd → Prop
  | .row i => H l = some (.lst [.str "row", .int i])
  | .form m u ps f s => ∃ v, H l = some (.lst [.str "form", v]) ∧ Th (tO H) v (netD m u ps f s)
def spReadL : Sp := fun vs H Q _ => ∃ t : Cs, vs = [.str (S t)] ∧ TameT t ∧ ∀ l H', Same H H' → H l = none → ReadAt H' l (lawR (rowsT t)) → Q (.ref l) H'
section
variable {P : Program} {w : World} {K : PySem.W.Frag} {mg : Str → Option Value} {base : Heap}
theorem scRd : FnScope ["text", "rows", "at", "found", "pipes", "wished", "index", "row", "told", "word"] ["text"] (defScope lRead) := ⟨rfl, rfl, rfl, by decide +kernel, rfl, by decide +kernel, by decide +kernel⟩
theorem ok_read {f fR : Addr} {fd fdR : FuncData} (F : Fun K "_law_read" "_law_read" lRead f fd) (T : TxD mg) (FR : FnOk P w K mg base CX0 3 fR fdR ["words"] spRowSort) (mR : mg "_law_row_sort" = some (.ref fR)) (kR : PySem.W.keepIn K (.ref fR) = true) (bR : Binds K fdR ["words"] []) :
    FnOk P w K mg base CX0 4 f fd ["text"] spReadL := by
  refine F.ok scRd (fun vs H Q E h => ?_) (fun cdv A outer s H vs Q E hr h => ?_)
  · obtain ⟨_, rfl, _⟩ := h
    rfl
  · obtain ⟨t, rfl, tame, k⟩ := h
    have hu64 : (A.deeper (envOfC "_law_read" (defScope lRead) s.heap.objs.size f cdv)).units + 64 < cLine := by have := hr.un; omega
    refine ⟨_, pss_cons (ps_asg (pe_tup (pa_cons (pe_split (pv 0) pe_str) (pa_cons pe_int (pa_cons (pe_lst pa_nil) (pa_cons (pe_lst pa_nil) pa_nil))))) (pg_tup rfl (pgs_cons (pg_name (i := 1) scRd.nd rfl (Or.inl rfl)) (pgs_cons (pg_name (i := 2) scRd.nd rfl (Or.inl rfl)) (pgs_cons (pg_name (i := 3) scRd.nd rfl (Or.inl rfl)) (pgs_cons (pg_name (i := 4) scRd.nd rfl (Or.inl rfl)) pgs_nil))))))
      (pss_cons (ps_set (i := 5) scRd.nd rfl (Or.inl rfl) (pe_lst (pa_cons pe_str (pa_cons pe_str (pa_cons pe_str (pa_cons pe_str pa_nil))))))
      (pss_cons (ps_for PassesOwn.never rfl (pi_enum (by rfl) T.enumerate (pa_cons (pv 1) pa_nil)) (pg_tup rfl (pgs_cons (pg_name (i := 6) scRd.nd rfl (Or.inl rfl)) (pgs_cons (pg_name (i := 7) scRd.nd rfl (Or.inl rfl)) pgs_nil)))
        (pss_cons (ps_set (i := 8) scRd.nd rfl (Or.inl rfl) (pe_call FR hr (by rfl) mR kR bR .nil pass0 (pa_cons (pe_lc (own := [("word", 9)]) (g := gName 9) rfl scRd.nd (pi_list (pe_split (pv 7) pe_str)) (blkOk_by (N := ["text", "rows", "at", "found", "pipes", "wished", "index", "row", "told", "word"]) (sc := defScope lRead) (by decide +kernel))
          (fun _ _ _ _ _ => pg_name (i := 9) scRd.nd rfl (Or.inl rfl)) (fun _ _ _ _ _ => pts_one (pt_cmpR op_ne (pv 9) pe_str (nomark _))) (fun _ _ _ _ _ => pv 9)) pa_nil)))
        (pss_one (ps_if (pw_and (pt_cmpR op_eq (pv 2) pe_int (nomark _)) (pw_and (pt_cmpR (op_neD hu64) (pv 8) (pe_lst pa_nil) (by rfl)) (pw_and1 (pt_cmpR op_eq (pe_ix ix_seq (pv 8) pe_int (fun _ _ => rfl)) pe_str (nomark _))))).pt
          (pss_one (ps_expr (pe_bm PySem.F.plainAttrs_list PySem.F.slot_list_append PySem.F.type_list_append mt_append (pv 4) (pa_cons (pe_ix ix_seq (pv 8) pe_int (fun _ _ => rfl)) pa_nil))))
          (pss_one (ps_if (pw_and (pt_cmpR op_lt (pv 2) pe_int (nomark _)) (pw_and (pt_cmpR (op_neD hu64) (pv 8) (pe_lst pa_nil) (by rfl)) (pw_and1 (pt_cmpR op_eq (pe_ix ix_seq (pv 8) pe_int (fun _ _ => rfl)) (pe_ix ix_seq (pv 5) (pv 2) (fun _ _ => rfl)) (nomark _))))).pt
            (pss_cons (ps_expr (pe_bm PySem.F.plainAttrs_list PySem.F.slot_list_append PySem.F.type_list_append mt_append (pv 3) (pa_cons (pe_ix ix_seq (pv 8) pe_int (fun _ _ => rfl)) pa_nil)))
              (pss_one (ps_set (i := 2) scRd.nd rfl (Or.inl rfl) (pe_op op_add (pv 2) pe_int))))
            (pss_one (ps_ret (pe_lst (pa_cons pe_str (pa_cons (pv 6) pa_nil)))))))))))
      (pss_cons (ps_if (pt_cmpR op_lt (pv 2) pe_int (nomark _)) (pss_one (ps_ret (pe_lst (pa_cons pe_str (pa_cons (pe_callB call_len_seq (by rfl) T.len PySem.boot_len (pa_cons (pv 1) pa_nil)) pa_nil))))) pss_nil)
      (pss_one (ps_ret (pe_lst (pa_cons pe_str (pa_cons (pe_tup (pa_cons (pe_ix ix_seq (pv 3) pe_int (fun _ _ => rfl)) (pa_cons (pe_ix ix_seq (pv 3) pe_int (fun _ _ => rfl)) (pa_cons (pe_tupleOf (by rfl) T.tuple (pv 4)) (pa_cons (pe_ix ix_seq (pv 3) pe_int (fun _ _ => rfl)) (pa_cons (pe_ix ix_seq (pv 3) pe_int (fun _ _ => rfl)) pa_nil)))))) pa_nil)))))))), ?_⟩
    have nL : (splitC 10 t).length ≤ 1000 := tame.split
    have tm := tame.r
    have tl := tame.n
    have es : (Txt.split (S t) "\n").map V.str = sL (splitC 10 t) := by
      rw [nl_eq, split_eq (by decide), List.map_map]
      rfl
    have hpart := splitC_part 10 t
    refine ⟨_, rfl, ⟨_, rfl⟩, S t, "\n", rfl, rfl, rfl, ?_, fun p0 hp0 => ?_⟩
    · rw [S_len]
      exact Nat.le_trans (show _ ≤ 100002 by omega) (by decide)
    rw [es]
    refine ⟨Nat.zero_le _, fun p1 hp1 => ⟨Nat.zero_le _, fun p2 hp2 => ⟨by show 4 ≤ sizeLine; decide, fun p3 hp3 => ⟨p3, _, rfl, .inl (.inl upd_same), rfl, _, _, rfl, _, _, rfl, _, _, rfl, _, _, rfl, rfl, ?_⟩⟩⟩⟩
    dsimp only
    refine i_asg ?_
    refine ⟨by show 4 ≤ sizeLine; decide, fun p4 hp4 => ?_⟩
    have s0 := same_upd (o := .lst (sL (splitC 10 t))) hp0
    have s1 := same_upd (o := .lst ([] : List V)) hp1
    have s2 := same_upd (o := .lst ([] : List V)) hp2
    have s3 := same_upd (o := .tup [.ref p0, .int 0, .ref p1, .ref p2]) hp3
    have s4 := same_upd (o := .lst wished) hp4
    have f1 : H p1 = none := none_same s0 hp1
    have f2 : H p2 = none := none_same (s0.trans s1) hp2
    have n12 : p1 ≠ p2 := fun z => by rw [← z, upd_same] at hp2; cases hp2
    have n01 : p0 ≠ p1 := fun z => by rw [← z, upd_same] at hp1; cases hp1
    have n02 : p0 ≠ p2 := fun z => by have := none_same s1 hp2; rw [← z, upd_same] at this; cases this
    have n41 : p4 ≠ p1 := fun z => by have := none_same (s2.trans s3) hp4; rw [z, upd_same] at this; cases this
    have n42 : p4 ≠ p2 := fun z => by have := none_same s3 hp4; rw [z, upd_same] at this; cases this
    have sH := ((s0.trans s1).trans (s2.trans s3)).trans s4
    have e0 := (s1.trans ((s2.trans s3).trans s4)) p0 (.lst (sL (splitC 10 t))) upd_same
    have e1 := ((s2.trans s3).trans s4) p1 (.lst []) upd_same
    have e2 := (s3.trans s4) p2 (.lst []) upd_same
    have e4 : (upd (upd (upd (upd (upd H p0 (.lst (sL (splitC 10 t)))) p1 (.lst [])) p2 (.lst [])) p3 (.tup [.ref p0, .int 0, .ref p1, .ref p2])) p4 (.lst wished)) p4 = some (.lst wished) := upd_same
    change tSeq _ _ _ _ (upd (upd (upd (upd (upd H p0 (.lst (sL (splitC 10 t)))) p1 (.lst [])) p2 (.lst [])) p3 (.tup [.ref p0, .int 0, .ref p1, .ref p2])) p4 (.lst wished))
    generalize upd (upd (upd (upd (upd H p0 (.lst (sL (splitC 10 t)))) p1 (.lst [])) p2 (.lst [])) p3 (.tup [.ref p0, .int 0, .ref p1, .ref p2])) p4 (.lst wished) = H0 at *
    have eL : rowsT t = (splitC 10 t).map wordsW := rfl
    have k' : ∀ l H', Same H H' → H l = none → ReadAt H' l (walkL ((splitC 10 t).map wordsW) 0 0 [] []) → Q (.ref l) H' := k
    rw [eL] at tm
    clear k
    generalize splitC 10 t = L at *
    have word_of : ∀ i r, L[i]? = some r → (L.map wordsW).drop i = wordsW r :: (L.map wordsW).drop (i + 1) := fun i r h => by
      obtain ⟨hlt, he⟩ := List.getElem?_eq_some_iff.mp h
      rw [List.drop_eq_getElem_cons (by rw [List.length_map]; exact hlt), List.getElem_map, he]
    -- an end that tells a row
    have tells : ∀ (σ : L2.St) (H' : Hp) (te : TE) (i : Nat), Vi te σ H' (.int (i : Nat)) → Same H H' → walkL (L.map wordsW) 0 0 [] [] = .row i → tRet (tLst (tCons (tC (.str "row")) (tCons te tNil))) { nx := fun _ H' => Q .non H', rt := Q } σ H' := fun σ H' te i hv s e => by
      refine ret_row hv fun l hl' => ?_
      have s5 := same_upd (o := .lst [V.str "row", V.int (i : Nat)]) hl'
      refine k' l _ (s.trans s5) (none_same s hl') ?_
      rw [e]
      exact upd_same
    refine ⟨_, rfl, p0, _, rfl, SqL.of e0, ?_⟩
    refine for_it (walk_enum (K := K) (a := p0) (xs := sL L)) (fun n σ H' => ∃ (kk : Nat) (xs ys : List V) (fs ps : List PyData), (∃ o6 o7 o8 o9, σ = [some (.str (S t)), some (.ref p0), some (.int (kk : Nat)), some (.ref p1), some (.ref p2), some (.ref p4), o6, o7, o8, o9]) ∧ Same H H' ∧ H' p0 = some (.lst (sL L)) ∧ H' p4 = some (.lst wished) ∧
        H' p1 = some (.lst xs) ∧ ThAll (tO H') xs fs ∧ fs.length = kk ∧ H' p2 = some (.lst ys) ∧ ThAll (tO H') ys ps ∧ kk ≤ 4 ∧ ys.length ≤ n ∧ walkL (L.map wordsW) 0 0 [] [] = walkL ((L.map wordsW).drop n) n kk fs ps)
      ⟨0, [], [], [], [], ⟨none, none, none, none, rfl⟩, sH, e0, e4, e1, .nil, rfl, e2, .nil, by omega, Nat.le_refl _, by rw [List.drop_zero]⟩ (fun n σ H' _ z => by
        obtain ⟨_, _, _, _, _, _, _, z, _⟩ := z
        exact SqL.of z) ?_ ?_
    · rintro n v σ H5 H6 hn ⟨kk, xs, ys, fs, ps, ⟨o6, o7, o8, o9, rfl⟩, s5, b0, b4, b1, hfs, lfs, b2, hps, k4, ly, hwalk⟩ ⟨T1, x, y, rfl, hT, rfl, hx, hy⟩
      cases hx
      obtain ⟨r, hr', rfl⟩ := sL_at hy
      have sT := same_upd (o := .tup [.int (n : Nat), .str (S r)]) hT
      have hrl := hpart r (List.mem_of_getElem? hr')
      have hmem : wordsW r ∈ L.map wordsW := List.mem_map.mpr ⟨r, List.mem_of_getElem? hr', rfl⟩
      refine ⟨T1, _, rfl, .inl (.inl upd_same), rfl, _, _, rfl, _, _, rfl, rfl, ?_⟩
      change tSeq _ _ _ _ _
      refine i_asg (call1 ?_)
      refine lc_words (te := tVar 7) (σ := [some (.str (S t)), some (.ref p0), some (.int (kk : Nat)), some (.ref p1), some (.ref p2), some (.ref p4), some (.int (n : Nat)), some (.str (S r)), o8, o9]) (j := 9) (vs := [9]) (vi_var rfl) (by omega) (by intro x; rfl) (by intro x; rfl) fun a H7 na s7 ha => ?_
      refine ⟨a, wordsW r, rfl, ha, tm.r _ hmem, tm.w _ hmem, fun l H8 nr => ?_⟩
      obtain ⟨s8, nl, el⟩ := nr
      have s58 := (sT.trans s7).trans s8
      have s08 := s5.trans s58
      rw [word_of n r hr'] at hwalk
      have stp : ∀ o, sortR (wordsW r) = o → walkL (wordsW r :: (L.map wordsW).drop (n + 1)) n kk fs ps = match o with
          | none => .row n
          | some (h, d) => if kk = 2 ∧ h = cPipe then walkL ((L.map wordsW).drop (n + 1)) (n + 1) kk fs (ps ++ [d]) else if kk < 4 ∧ h = wishAt kk then walkL ((L.map wordsW).drop (n + 1)) (n + 1) (kk + 1) (fs ++ [d]) ps else .row n := fun o e => by
        subst e
        rfl
      cases q : sortR (wordsW r) with
      | none =>
        rw [q] at el
        have st := stp none q
        have nil' : ∀ {G : Hp} (σ : L2.St), σ[8]? = some (some (.ref l)) → G l = some (.lst []) → Tg (tTest (tOp (rNeD K) (tVar 8) (tLst tNil))) σ G (!decide (([] : List PyData) = [])) := fun σ h8 hl' => tg_nenil (vi_var h8) hl' (by decide +kernel) fun _ _ => .nil
        refine g_if2 (b := decide (kk = 2) && (!decide (([] : List PyData) = []) && false)) (tg_and (tg_of (ti_test (vi_eqN rfl (vi_var rfl)))) fun _ G sG => tg_and (nil' _ rfl (sG _ _ el)) fun z => by simp at z) (fun z => by simp at z) fun _ H9 s9 => ?_
        refine g_if2 (b := decide (kk < 4) && (!decide (([] : List PyData) = []) && false)) (tg_and (tg_of (ti_test (vi_ltN rfl (vi_var rfl)))) fun _ G sG => tg_and (nil' _ rfl (sG _ _ (s9 _ _ el))) fun z => by simp at z) (fun z => by simp at z) fun _ H10 s10 => ?_
        exact tells _ H10 (tVar 6) n (vi_var rfl) ((s08.trans s9).trans s10) (by rw [hwalk, st])
      | some hd =>
        obtain ⟨h, d⟩ := hd
        rw [q] at el
        have st := stp _ q
        obtain ⟨u, el, thu⟩ := el
        have el : H8 l = some (.lst [.str (S h), u]) := el
        have thu : Th (tO H8) u d := thu
        obtain ⟨ah, nd⟩ := sort_nice q
        dsimp only at st
        have nn : ∀ {G : Hp} (σ : L2.St), σ[8]? = some (some (.ref l)) → Same H8 G → Tg (tTest (tOp (rNeD K) (tVar 8) (tLst tNil))) σ G (!decide ([PyData.str (S h), d] = [])) := fun σ h8 sG => tg_nenil (vi_var h8) (sG _ _ el) (shaped_named ah nd) fun G2 s2 => .cons (.str _) (.cons ((thu.up.mono (Sm.same (sG.trans s2))).dp nd.dict) .nil)
        have t0 : ∀ {G : Hp} (σ : L2.St), σ[8]? = some (some (.ref l)) → Same H8 G → Vi (tOp (rIx K) (tVar 8) (tC (.int 0))) σ G (.str (S h)) := fun σ h8 sG => vi_elem (n := 0) rfl (vi_var h8) (sG _ _ el) rfl
        have t1 : ∀ {G : Hp} (σ : L2.St), σ[8]? = some (some (.ref l)) → Same H8 G → Vi (tOp (rIx K) (tVar 8) (tC (.int 1))) σ G u := fun σ h8 sG => vi_elem (n := 1) rfl (vi_var h8) (sG _ _ el) rfl
        refine g_if2 (b := decide (kk = 2) && (!decide ([PyData.str (S h), d] = []) && decide (h = cPipe))) (tg_and (tg_of (ti_test (vi_eqN rfl (vi_var rfl)))) fun _ G sG => tg_and (nn _ rfl sG) fun _ G2 sG2 => tg_of (ti_test (vi_eqS (t0 _ rfl (sG.trans sG2)) (by rw [pipe_eq])))) (fun c1 H9 s9 => ?_) fun c1 H9 s9 => ?_
        · have c1 : kk = 2 ∧ h = cPipe := by simpa using c1
          have s59 := s58.trans s9
          have b2' := s59 _ _ b2
          have tk : Tk H9 (upd H9 p2 (.lst (ys ++ [u]))) := Tk.put b2'
          have tk5 : Tk H5 (upd H9 p2 (.lst (ys ++ [u]))) := (Tk.same s59).trans tk
          refine ⟨_, rfl, .inl ⟨rfl, _, SqL.of b2'⟩, cons_vi (t1 _ rfl s9) ⟨p2, ys, u, rfl, rfl, b2', ?_, ?_⟩⟩
          · exact Nat.lt_of_le_of_lt (show _ ≤ 1000 by rw [sL_len] at hn; omega) (by decide)
          refine ⟨kk, xs, ys ++ [u], fs, ps ++ [d], ⟨_, _, _, _, rfl⟩, same_put (s5.trans s59) f2, by rw [upd_ne n02]; exact s59 _ _ b0, by rw [upd_ne n42]; exact s59 _ _ b4, by rw [upd_ne n12]; exact s59 _ _ b1, thAll_tk' hfs tk5, lfs, upd_same, ThAll.append (thAll_tk' hps tk5) (.cons (thu.tk ((Tk.same s9).trans tk)) .nil), k4, by rw [List.length_append]; simp; exact ly, ?_⟩
          rw [hwalk, st, if_pos c1]
        · have c1 : ¬ (kk = 2 ∧ h = cPipe) := fun z => by
            rw [z.1, z.2] at c1
            simp at c1
          rw [if_neg c1] at st
          refine g_if2 (b := decide (kk < 4) && (!decide ([PyData.str (S h), d] = []) && decide (h = wishAt kk))) (tg_and (tg_of (ti_test (vi_ltN rfl (vi_var rfl)))) fun lt G sG => tg_and (nn _ rfl (s9.trans sG)) fun _ G2 sG2 => tg_of (ti_test (vi_eqSS (t0 _ rfl ((s9.trans sG).trans sG2)) (vi_op (vi_var rfl) (vi_var rfl) fun Q q => .inl ⟨p4, _, _, _, rfl, rfl, SqL.of (((s58.trans s9).trans (sG.trans sG2)) _ _ b4), at_nat (wished_at (of_decide_eq_true lt)), q⟩)))) (fun c2 H10 s10 => ?_) fun c2 H10 s10 => ?_
          · have c2 : kk < 4 ∧ h = wishAt kk := by simpa using c2
            have s510 := (s58.trans s9).trans s10
            have b1' := s510 _ _ b1
            have lx : xs.length = kk := by rw [all2 hfs]; exact lfs
            have tk : Tk H10 (upd H10 p1 (.lst (xs ++ [u]))) := Tk.put b1'
            have tk5 : Tk H5 (upd H10 p1 (.lst (xs ++ [u]))) := (Tk.same s510).trans tk
            refine ⟨_, rfl, .inl ⟨rfl, _, SqL.of b1'⟩, cons_vi (t1 _ rfl (s9.trans s10)) ⟨p1, xs, u, rfl, rfl, b1', ?_, ?_⟩⟩
            · exact Nat.lt_of_le_of_lt (show _ ≤ 4 by omega) (by decide)
            have ek : ((kk : Nat) : Int) + 1 = ((kk + 1 : Nat) : Int) := by omega
            refine ⟨_, rfl, _, _, rfl, rfl, ?_⟩
            dsimp only
            rw [ek]
            refine ⟨kk + 1, xs ++ [u], ys, fs ++ [d], ps, ⟨_, _, _, _, rfl⟩, same_put (s5.trans s510) f1, by rw [upd_ne n01]; exact s510 _ _ b0, by rw [upd_ne n41]; exact s510 _ _ b4, upd_same, ThAll.append (thAll_tk' hfs tk5) (.cons (thu.tk ((Tk.same (s9.trans s10)).trans tk)) .nil), by rw [List.length_append, lfs]; rfl, by rw [upd_ne (Ne.symm n12)]; exact s510 _ _ b2, thAll_tk' hps tk5, c2.1, by omega, ?_⟩
            rw [hwalk, st, if_pos c2]
          · have c2 : ¬ (kk < 4 ∧ h = wishAt kk) := fun z => by
              rw [z.2] at c2
              simp [z.1] at c2
            rw [if_neg c2] at st
            exact tells _ H10 (tVar 6) n (vi_var rfl) ((s08.trans s9).trans s10) (by rw [hwalk, st])
    · rintro σ H5 ⟨kk, xs, ys, fs, ps, ⟨o6, o7, o8, o9, rfl⟩, s5, b0, b4, b1, hfs, lfs, b2, hps, k4, ly, hwalk⟩
      rw [List.drop_of_length_le (by rw [sL_len, List.length_map]; exact Nat.le_refl _)] at hwalk
      have we : walkL [] (sL L).length kk fs ps = if kk < 4 then .row (sL L).length else .form (fs.getD 0 .none) (fs.getD 1 .none) ps (fs.getD 2 .none) (fs.getD 3 .none) := rfl
      rw [we] at hwalk
      refine i_when (b := decide (kk < 4)) (ti_test (vi_ltN rfl (vi_var rfl))) (fun c => ?_) (fun c => ?_)
      · have c := of_decide_eq_true c
        rw [if_pos c] at hwalk
        refine tells _ H5 _ (sL L).length (vi_cb (ai_cons (vi_var rfl) ai_nil) fun Q q => ⟨p0, _, rfl, .inl (SqL.of b0), q⟩) s5 hwalk
      · have c := of_decide_eq_false c
        rw [if_neg c] at hwalk
        have l4 : fs.length = 4 := by omega
        obtain ⟨d0, d1, d2, d3, rfl⟩ : ∃ d0 d1 d2 d3, fs = [d0, d1, d2, d3] := by
          match fs, l4 with
          | [a, b, c, d], _ => exact ⟨a, b, c, d, rfl⟩
        cases hfs with
        | @cons x0 _ _ _ h0 hr0 => cases hr0 with
          | @cons x1 _ _ _ h1 hr1 => cases hr1 with
            | @cons x2 _ _ _ h2 hr2 => cases hr2 with
              | @cons x3 _ _ _ h3 hr3 =>
                cases hr3
                refine ret_l2 ?_
                refine cons_vi (vi_elem (n := 0) rfl (vi_var rfl) b1 rfl) ?_
                refine cons_vi (vi_elem (n := 1) rfl (vi_var rfl) b1 rfl) ?_
                refine cons_go ?_
                refine ⟨_, rfl, .inl ⟨p2, ys, rfl, SqL.of b2, fun q hq => ?_⟩⟩
                have sq := same_upd (o := .tup ys) hq
                refine cons_vi (vi_elem (n := 2) rfl (vi_var rfl) (sq _ _ b1) rfl) ?_
                refine cons_vi (vi_elem (n := 3) rfl (vi_var rfl) (sq _ _ b1) rfl) ?_
                refine ⟨by show 5 ≤ sizeLine; decide, fun z hz => ⟨by show 2 ≤ sizeLine; decide, fun l hl' => ?_⟩⟩
                have sz := same_upd (o := .tup [x0, x1, V.ref q, x2, x3]) hz
                have sl := same_upd (o := .lst [V.str "form", V.ref z]) hl'
                refine k' l _ ((s5.trans (sq.trans sz)).trans sl) (none_same (s5.trans (sq.trans sz)) hl') ?_
                rw [hwalk]
                have tk := Tk.same ((sq.trans sz).trans sl)
                exact ⟨_, upd_same, .tup (tO_of (sl _ _ upd_same)) (.cons (h0.tk tk) (.cons (h1.tk tk) (.cons (.tup (tO_of ((sz.trans sl) _ _ upd_same)) (thAll_tk' hps tk)) (.cons (h2.tk tk) (.cons (h3.tk tk) .nil)))))⟩
end
end KP

set_option Elab.async false
set_option linter.all false
set_option maxRecDepth 100000
set_option maxHeartbeats 4000000
/-! ### what a text is read as by the program, errors caught -/
namespace KP
open PySem PySem.Spec PyProof.Rows L2 KX KT KJ KS FR PT SX
abbrev lToldT : Stmt := top 60
def ToldAt (H : Hp) (l : Addr) : PT.Rd → Prop
  | .row i => H l = some (.lst [.str "row", .int i])
  | .form m u ps f s => ∃ v, H l = some (.lst [.str (if isNet (netD m u ps f s) = true then "net" else "form"), v]) ∧ Th H v (netD m u ps f s)
def spToldT (Ps : List Addr) : Sp := fun vs H Q _ => ∃ t : Cs, vs = [.str (S t)] ∧ TameT t ∧ (∀ i, progR (rowsT t) ≠ .row i) ∧ Tbs Ps H ∧ ∀ l H', Grown Ps H H' → ToldAt H' l (progR (rowsT t)) → Q (.ref l) H'
section
variable {P : Program} {w : World} {K : PySem.W.Frag} {mg : Str → Option Value} {base : Heap}
theorem scTo : FnScope ["text", "e"] ["text"] (defScope lToldT) := ⟨rfl, rfl, rfl, by decide +kernel, rfl, by decide +kernel, by decide +kernel⟩
theorem ok_toldT {f fN Ct It Cn In : Addr} {fd fdN : FuncData} {Ps : List Addr} (F : Fun K "_law_told" "_law_told" lToldT f fd) (FN : FnOk P w K mg base (L2.CX P w) 9 fN fdN ["text"] (spNetOf Ct Cn Ps)) (mN : mg "net_of" = some (.ref fN)) (kN : PySem.W.keepIn K (.ref fN) = true) (bN : Binds K fdN ["text"] [])
    (EN : ErC K Cn In "given") (mE : mg "InvalidNet" = some (.ref Cn)) : FnOk P w K mg base CX0 10 f fd ["text"] (spToldT Ps) := by
  refine F.ok scTo (fun vs H Q E h => ?_) (fun cdv A outer s H vs Q E hr h => ?_)
  · obtain ⟨_, rfl, _⟩ := h
    rfl
  · obtain ⟨t, rfl, tame, hnr, tb, k⟩ := h
    refine ⟨_, pss_one (ps_try_each (i := 1) (n := "e") (Wout := fun _ _ _ _ => False) (tb := fun W => tRet (tLst (tCons (tC (.str "net")) (tCons (tCallS (spNetOf Ct Cn Ps) (WE W) (tCons (tVar 0) tNil)) tNil))))
      (l := [(.ref Cn, fun a cls d => tRet (tLst (tCons (tC (.str "form")) (tCons (tXf a cls d Cn "given" (tVar 1)) tNil))))]) rfl rfl scTo.nd rfl rfl takes_none5
      (fun W pn xe tk _ => pss_one (ps_ret (pe_lst (pa_cons pe_str (pa_cons (by exact (pe_callS FN hr (by rfl) mN kN bN (fun σ => passAt tk σ) (pa_cons (pv 0) pa_nil))) pa_nil)))))
      (.cons ⟨rfl, by decide, Or.inl mE⟩ (fun a oe cls d pn hz hf => pss_one (ps_ret (pe_lst (pa_cons pe_str (pa_cons (by exact pe_xf EN.x EN.nf hz hf (pv 1)) pa_nil))))) .nil)), ?_⟩
    have fin : ∀ (H1 : Hp) (g : Grown Ps H H1) (x v : V) (hk : ∀ l, H1 l = none → ToldAt (upd H1 l (.lst [x, v])) l (progR (rowsT t))), [x, v].length ≤ sizeLine ∧ ∀ l, H1 l = none → Q (.ref l) (upd H1 l (.lst [x, v])) := fun H1 g x v hk =>
      ⟨by show 2 ≤ sizeLine; decide, fun l hl => k l _ (g.trans (Grown.same (same_upd hl) g.tbs)) (hk l hl)⟩
    refine ⟨_, rfl, t, rfl, tame, tb, ?_⟩
    cases q : progR (rowsT t) with
    | row i => exact absurd q (hnr i)
    | form m u ps f s =>
      rw [q] at fin
      refine ⟨fun c v H1 g th => ?_, fun c d v H1 g e th => ?_⟩
      · exact fin H1 g _ _ fun l hl => ⟨v, by rw [upd_same, if_pos c], th.mono (Sm.same (same_upd hl))⟩
      · refine ⟨true, EN.me, fun _ a ha => ?_, (fun z => by cases z)⟩
        refine ⟨_, rfl, rfl, rfl, d, _, v, rfl, e, rfl, ?_⟩
        exact fin H1 g _ _ fun l hl => ⟨v, by rw [upd_same, if_neg (by rw [c]; decide)], th.mono (Sm.same (same_upd hl))⟩
end
end KP

set_option Elab.async false
set_option linter.all false
set_option maxRecDepth 100000
set_option maxHeartbeats 4000000
/-! ### numbers, shares and nets, written -/
namespace PT
open PySem SX
/-- the signs of a whole number -/
def zL (i : Int) : Cs := if i < 0 then 45 :: TL.numL (-i).toNat else TL.numL i.toNat
theorem zL_nat (n : Nat) : zL (n : Int) = TL.numL n := by
  unfold zL
  rw [if_neg (by omega)]
  rfl
theorem zL_S (i : Int) : Str.ofString (toString i) = S (zL i) := by
  by_cases h : i < 0
  · have hn : (0 : Int) - i = (((-i).toNat : Nat) : Int) := by omega
    rw [PyProof.Rows.toString_neg h, hn]
    unfold zL
    rw [if_pos h]
    have e := num_S (-i).toNat
    rw [Str.ofString_eq_toList] at e ⊢
    rw [String.toList_append, List.map_append]
    have e2 : (toString (((-i).toNat : Nat) : Int)).toList.map Char.toNat = TL.numL (-i).toNat := by
      have := congrArg (fun x : Str => x.cps.toList) e
      simpa using this
    rw [e2]
    rfl
  · have hn : i = ((i.toNat : Nat) : Int) := by omega
    rw [hn, num_S, zL_nat]
theorem zL_len {i : Int} (h : i.natAbs ≤ 999) : (zL i).length ≤ 4 := by
  unfold zL
  split
  · rw [List.length_cons]
    have := TL.numL_len (n := (-i).toNat) (k := 3) (by decide) (by omega)
    omega
  · have := TL.numL_len (n := i.toNat) (k := 3) (by decide) (by omega)
    omega
/-- calm signs: no blank, no end of a row, below 128 -/
def Calm (w : Cs) : Prop := ∀ c ∈ w, c < 128 ∧ c ≠ 10
theorem calm_num (n : Nat) : Calm (TL.numL n) := fun c hc => by
  have := TL.numL_digits n c hc
  omega
theorem calm_z (i : Int) : Calm (zL i) := by
  unfold zL
  split
  · intro c hc
    rcases List.mem_cons.mp hc with rfl | hc
    · decide
    · exact calm_num _ c hc
  · exact calm_num _
theorem Calm.append {a b : Cs} (h : Calm a) (h2 : Calm b) : Calm (a ++ b) := fun c hc => (List.mem_append.mp hc).elim (h c) (h2 c)
theorem Calm.cons {x : Nat} {b : Cs} (h : x < 128 ∧ x ≠ 10) (h2 : Calm b) : Calm (x :: b) := fun c hc => (List.mem_cons.mp hc).elim (fun e => e ▸ h) (h2 c)
end PT
namespace KP
open PySem PySem.Spec PyProof.Rows L2 KX KT KJ KS FR PT SX
abbrev lPartText : Stmt := top 53
abbrev lRowsOf : Stmt := top 54
def pwF (x : Fr) : Cs := if x.2 = 1 then zL x.1 else zL x.1 ++ 47 :: zL x.2
def shW : Nat ⊕ Fr → Cs
  | .inl j => 120 :: zL (j : Nat)
  | .inr x => pwF x
def enW : Option Nat → Cs
  | none => cOut
  | some k => zL (k : Nat)
def prow (p : Pp) : List Cs := [cPipe, zL (p.s : Nat), enW p.e, shW p.sh]
def trow (nm : Cs) (ns : List Nat) : List Cs := nm :: ns.map fun n => zL ((n : Nat) : Int)
def rowsN (n : NetM) : List (List Cs) := [[cTanks, zL (n.m : Nat)], [cUnk, zL (n.u : Nat)]] ++ n.ps.map prow ++ [trow cFilled n.fs] ++ [trow cSeen n.ss]
section
variable {K : PySem.W.Frag} {σ : L2.St} {H : Hp}
theorem log_le {i : Int} (h : i.natAbs ≤ 9999) : i.natAbs.log2 < 1920 := by
  by_cases z : i.natAbs = 0
  · rw [z]; decide
  · exact (Nat.log2_lt z).mpr (Nat.lt_of_le_of_lt h (Nat.lt_of_lt_of_le (by decide : 9999 < 2 ^ 14) (Nat.pow_le_pow_right (by decide) (by decide))))
theorem vi_str {te : TE} {i : Int} (h : Vi te σ H (.int i)) (hb : i.natAbs ≤ 9999) : Vi (tCB (fun xs H Q => ∃ i, xs = [.int i] ∧ i.natAbs.log2 < 1920 ∧ Q (.str (toString i)) H) (tCons te tNil)) σ H (.str (S (zL i))) :=
  vi_cb (ai_cons h ai_nil) fun Q q => ⟨i, rfl, log_le hb, by rw [show ((toString i : String) : Str) = S (zL i) from zL_S i]; exact q⟩
theorem vi_cat {ta tb : TE} {a b : Cs} (h : Vi ta σ H (.str (S a))) (h2 : Vi tb σ H (.str (S b))) (hl : a.length + b.length ≤ 100000) : Vi (tOp (fun x y H Q => ∃ i j, x = .str i ∧ y = .str j ∧ i.length + j.length ≤ sizeLine ∧ Q (.str (i ++ j)) H) ta tb) σ H (.str (S (a ++ b))) :=
  vi_op h h2 fun Q q => ⟨_, _, rfl, rfl, by rw [S_len, S_len]; exact Nat.le_trans hl (by decide), by rw [S_cat]; exact q⟩
/-- [str(at) for at in tanks] -/
theorem lc_strs {ti : TE} {j : Nat} {vs : List Nat} {a : Addr} {ns : List Nat} {Q : VK} (h : Vi ti σ H (.ref a)) (ha : Rd H a (.tup (ns.map fun n => V.int ((n : Nat) : Int)))) (hn : ns.length ≤ 100) (hb : ∀ n ∈ ns, n ≤ 999)
    (hw : ∀ x : V, wipe ((wipe σ vs).set j (some x)) vs = wipe σ vs) (hj : ∀ x : V, ((wipe σ vs).set j (some x))[j]? = some (some x)) (k : ∀ b H', H b = none → Same H H' → H' b = some (.lst (sL (ns.map fun n => zL ((n : Nat) : Int)))) → Q (.ref b) H') :
    tLc (iTup K ti) (gName j) tYes (tCB (fun xs H Q => ∃ i, xs = [.int i] ∧ i.natAbs.log2 < 1920 ∧ Q (.str (toString i)) H) (tCons (tVar j) tNil)) vs σ H Q := by
  refine h _ ⟨a, rfl, ⟨_, SqT.of ha⟩, fun D hD => ?_⟩
  refine lc_map (walk_tup (K := K) (a := a) (xs := ns.map fun n => V.int ((n : Nat) : Int))) (fun H' ys i => ys = sL ((ns.take i).map fun n => zL ((n : Nat) : Int)) ∧ i ≤ ns.length) hD (by rw [List.length_map]; omega) (fun _ _ i q => by rw [q.1, sL_len, List.length_map, List.length_take]; have := q.2; omega) ⟨rfl, Nat.zero_le _⟩
    (fun H' s => SqT.of (s.rd ha)) hw ?_ ?_
  · rintro i x _ H' xs hi s e hlx ⟨q, hle⟩ ⟨rfl, hx⟩
    rw [List.getElem?_map] at hx
    cases q2 : ns[i]? with
    | none => rw [q2] at hx; cases hx
    | some m =>
      rw [q2] at hx
      cases hx
      have hm := hb m (List.mem_of_getElem? q2)
      refine (vi_str (vi_var (hj _)) (by omega)) _ ?_
      refine aft hD s e hlx ⟨?_, by rw [List.length_map] at hi; omega⟩
      rw [q, List.take_add_one, q2, List.map_append]
      unfold sL
      rw [List.map_append]
      rfl
  · rintro H' xs s e ⟨q, _⟩
    rw [List.length_map, List.take_length] at q
    rw [q] at e
    exact k D H' hD s e
end
def spPartText : Sp := fun vs H Q _ => ∃ v x, vs = [v] ∧ Th (tO H) v (fD x) ∧ Told x ∧ Q (.str (S (pwF x))) H
def spRowsOf : Sp := fun vs H Q _ => ∃ v n, vs = [v] ∧ Th (tO H) v (NetM.d n) ∧ GoodN n ∧ ∀ p vr H', Same H H' → H' p = some (.lst vr) → Rws H' vr (rowsN n) → Q (.ref p) H'
section
variable {P : Program} {w : World} {K : PySem.W.Frag} {mg : Str → Option Value} {base : Heap}
theorem scPt : FnScope ["part"] ["part"] (defScope lPartText) := ⟨rfl, rfl, rfl, by decide +kernel, rfl, by decide +kernel, by decide +kernel⟩
theorem ok_parttext {f : Addr} {fd : FuncData} (F : Fun K "_law_part_text" "_law_part_text" lPartText f fd) (T : TxD mg) : FnOk P w K mg base CX0 1 f fd ["part"] spPartText := by
  refine F.ok scPt (fun vs H Q E h => ?_) (fun cdv A outer s H vs Q E hr h => ?_)
  · obtain ⟨_, _, rfl, _⟩ := h
    rfl
  · obtain ⟨v, x, rfl, th, tx, k⟩ := h
    refine ⟨_, pss_one (ps_ret (pe_ifExp (pt_cmpR op_eq (pe_ix ix_seq (pv 0) pe_int (fun _ _ => rfl)) pe_int (nomark _)) (pe_callTy call_str_int (by rfl) T.str (by decide +kernel) (pa_cons (pe_ix ix_seq (pv 0) pe_int (fun _ _ => rfl)) pa_nil))
      (pe_op op_add_str (pe_op op_add_str (pe_callTy call_str_int (by rfl) T.str (by decide +kernel) (pa_cons (pe_ix ix_seq (pv 0) pe_int (fun _ _ => rfl)) pa_nil)) pe_str) (pe_callTy call_str_int (by rfl) T.str (by decide +kernel) (pa_cons (pe_ix ix_seq (pv 0) pe_int (fun _ _ => rfl)) pa_nil))))), ?_⟩
    obtain ⟨a, vs, rfl, ea, hv⟩ := tup_parts th
    cases hv with
    | cons h1 hr1 => cases hr1 with
      | cons h2 hr2 =>
        cases hr2
        cases h1
        cases h2
        have e1 := tO_same _ _ _ ea
        have n1 := tx.n
        have d1 := tx.d
        have p1 := tx.pos
        have v0 : Vi (tOp (rIx K) (tVar 0) (tC (.int 0))) (L2.start ["part"] [V.ref a]) H (.int x.1) := vi_at (vi_var rfl) e1 rfl
        have v1 : Vi (tOp (rIx K) (tVar 0) (tC (.int 1))) (L2.start ["part"] [V.ref a]) H (.int x.2) := vi_at (vi_var rfl) e1 rfl
        refine i_ret (vi_same (vi_if (b := decide (x.2 = 1)) (ti_test (vi_op v1 vi_c fun Q q => ⟨rfl, by rw [show decide (V.int x.2 = V.int 1) = decide (x.2 = 1) by rw [Bool.eq_iff_iff, decide_eq_true_iff, decide_eq_true_iff]; simp]; exact q⟩)) (fun _ => vi_str v0 (by omega)) fun _ => vi_cat (b := zL x.2) (vi_cat (b := [47]) (vi_str v0 (by omega)) (vi_same vi_c (by rw [show ("/" : Str) = S [47] by decide +kernel])) ?_) (vi_str v1 (by omega)) ?_) (u := .str (S (pwF x))) ?_) k
        · have := zL_len n1
          simp
          omega
        · have := zL_len n1
          have := zL_len (i := x.2) (by omega)
          simp
          omega
        · rw [ite_str]
          unfold pwF
          simp only [decide_eq_true_eq, List.append_assoc]
          rfl
end
end KP

set_option Elab.async false
set_option linter.all false
set_option maxRecDepth 100000
set_option maxHeartbeats 4000000
/-! ### the rows of a drawn net -/
namespace KP
open PySem PySem.Spec PyProof.Rows L2 KX KT KJ KS FR PT SX
theorem net_thp {H : Hp} {x : V} {n : NetM} (h : Th (tO H) x n.d) : ∃ a ps fs ss, x = .ref a ∧ tO H a = some (.tup [.int (n.m : Nat), .int (n.u : Nat), ps, fs, ss]) ∧ Th (tO H) ps (.tuple (n.ps.map ppD)) ∧ Th (tO H) fs (.tuple (natsD n.fs)) ∧ Th (tO H) ss (.tuple (natsD n.ss)) := by
  obtain ⟨a, xs, rfl, e, hv⟩ := tup_parts h
  cases hv with
  | cons h1 hr1 => cases hr1 with
    | cons h2 hr2 => cases hr2 with
      | cons h3 hr3 => cases hr3 with
        | cons h4 hr4 => cases hr4 with
          | cons h5 hr5 =>
            cases hr5
            cases h1
            cases h2
            exact ⟨a, _, _, _, rfl, e, h3, h4, h5⟩
theorem nats_vals {H : Hp} : ∀ {xs : List V} {ns : List Nat}, ThAll H xs (natsD ns) → xs = ns.map fun n => V.int ((n : Nat) : Int)
  | _, [], .nil => rfl
  | _, n :: ns, .cons a b => by
    cases a
    rw [nats_vals b]
    rfl
theorem nats_tup {H : Hp} {x : V} {ns : List Nat} (h : Th (tO H) x (.tuple (natsD ns))) : ∃ a, x = .ref a ∧ tO H a = some (.tup (ns.map fun n => V.int ((n : Nat) : Int))) := by
  obtain ⟨a, xs, rfl, e, hv⟩ := tup_parts h
  exact ⟨a, rfl, by rw [e, nats_vals hv]⟩
section
variable {K : PySem.W.Frag} {σ : L2.St} {H : Hp}
theorem lst_two {t1 t2 : TE} {x y u1 u2 : V} {Q : VK} (h1 : Vi t1 σ H u1) (h2 : ∀ G, Same H G → Vi t2 σ G u2) (k : ∀ p1 p2 pf, H p1 = none → (upd H p1 (.lst [x, u1])) p2 = none → (upd (upd H p1 (.lst [x, u1])) p2 (.lst [y, u2])) pf = none → Q (.ref pf) (upd (upd (upd H p1 (.lst [x, u1])) p2 (.lst [y, u2])) pf (.lst [.ref p1, .ref p2]))) :
    tLst (tCons (tLst (tCons (tC x) (tCons t1 tNil))) (tCons (tLst (tCons (tC y) (tCons t2 tNil))) tNil)) σ H Q :=
  h1 _ ⟨by show 2 ≤ sizeLine; decide, fun p1 hp1 => h2 _ (same_upd hp1) _ ⟨by show 2 ≤ sizeLine; decide, fun p2 hp2 => ⟨by show 2 ≤ sizeLine; decide, fun pf hpf => k p1 p2 pf hp1 hp2 hpf⟩⟩⟩
theorem cons_lst {t : TA} {QA : List V → Hp → Prop} (h : t σ H fun xs H1 => xs.length ≤ sizeLine ∧ ∀ p, H1 p = none → QA [.ref p] (upd H1 p (.lst xs))) : tCons (tLst t) tNil σ H QA := h
/-- ["name"] + [str(at) for at in tanks] -/
theorem cat_row {ti : TE} {j : Nat} {vs : List Nat} {a : Addr} {ns : List Nat} {nm : Cs} {nmS : Str} {Q : VK} (en : nmS = S nm) (h : ∀ G, Same H G → Vi ti σ G (.ref a)) (ha : Rd H a (.tup (ns.map fun n => V.int ((n : Nat) : Int)))) (hn : ns.length ≤ 100) (hb : ∀ n ∈ ns, n ≤ 999)
    (hw : ∀ x : V, wipe ((wipe σ vs).set j (some x)) vs = wipe σ vs) (hj : ∀ x : V, ((wipe σ vs).set j (some x))[j]? = some (some x)) (k : ∀ p H', H p = none → Same H H' → H' p = some (.lst (sL (trow nm ns))) → Q (.ref p) H') :
    tOp rCat (tLst (tCons (tC (.str nmS)) tNil)) (tLc (iTup K ti) (gName j) tYes (tCB (fun xs H Q => ∃ i, xs = [.int i] ∧ i.natAbs.log2 < 1920 ∧ Q (.str (toString i)) H) (tCons (tVar j) tNil)) vs) σ H Q := by
  refine ⟨by show 1 ≤ sizeLine; decide, fun l hl => ?_⟩
  have s1 := same_upd (o := .lst [V.str nmS]) hl
  refine lc_strs (h _ s1) (s1.rd ha) hn hb hw hj fun b H2 nb s2 eb => ?_
  refine ⟨l, b, _, _, rfl, rfl, s2 _ _ upd_same, eb, ?_, fun p hp => ?_⟩
  · rw [sL_len, List.length_map]
    exact Nat.le_trans (show 1 + ns.length ≤ 101 by omega) (by decide)
  · have s3 := same_upd (o := .lst ([V.str nmS] ++ sL (ns.map fun n => zL ((n : Nat) : Int)))) hp
    refine k p _ (none_same (s1.trans s2) hp) ((s1.trans s2).trans s3) ?_
    rw [upd_same, en]
    rfl
end
section
variable {P : Program} {w : World} {K : PySem.W.Frag} {mg : Str → Option Value} {base : Heap}
theorem scRo : FnScope ["net", "found", "start", "aim", "share", "told", "at"] ["net"] (defScope lRowsOf) := ⟨rfl, rfl, rfl, by decide +kernel, rfl, by decide +kernel, by decide +kernel⟩
theorem ok_rowsof {f fP : Addr} {fd fdP : FuncData} (F : Fun K "_law_rows_of" "_law_rows_of" lRowsOf f fd) (T : TxD mg) (FP : FnOk P w K mg base CX0 1 fP fdP ["part"] spPartText) (mP : mg "_law_part_text" = some (.ref fP)) (kP : PySem.W.keepIn K (.ref fP) = true) (bP : Binds K fdP ["part"] []) :
    FnOk P w K mg base CX0 2 f fd ["net"] spRowsOf := by
  refine F.ok scRo (fun vs H Q E h => ?_) (fun cdv A outer s H vs Q E hr h => ?_)
  · obtain ⟨_, _, rfl, _⟩ := h
    rfl
  · obtain ⟨v, n, rfl, th, g, k⟩ := h
    refine ⟨_, pss_cons (ps_set (i := 1) scRo.nd rfl (Or.inl rfl) (pe_lst (pa_cons (pe_lst (pa_cons pe_str (pa_cons (pe_callTy call_str_int (by rfl) T.str (by decide +kernel) (pa_cons (pe_ix ix_seq (pv 0) pe_int (fun _ _ => rfl)) pa_nil)) pa_nil))) (pa_cons (pe_lst (pa_cons pe_str (pa_cons (pe_callTy call_str_int (by rfl) T.str (by decide +kernel) (pa_cons (pe_ix ix_seq (pv 0) pe_int (fun _ _ => rfl)) pa_nil)) pa_nil))) pa_nil))))
      (pss_cons (ps_for PassesOwn.never rfl (pi_tup (pe_ix ix_seq (pv 0) pe_int (fun _ _ => rfl))) (pg_tup rfl (pgs_cons (pg_name (i := 2) scRo.nd rfl (Or.inl rfl)) (pgs_cons (pg_name (i := 3) scRo.nd rfl (Or.inl rfl)) (pgs_cons (pg_name (i := 4) scRo.nd rfl (Or.inl rfl)) pgs_nil))))
        (pss_cons (ps_set (i := 5) scRo.nd rfl (Or.inl rfl) (pe_ifExp (pt_cmpR op_eq (pe_ix ix_seq (pv 4) pe_int (fun _ _ => rfl)) pe_str (nomark _)) (pe_op op_add_str pe_str (pe_callTy call_str_int (by rfl) T.str (by decide +kernel) (pa_cons (pe_ix ix_seq (pv 4) pe_int (fun _ _ => rfl)) pa_nil))) (pe_call FP hr (by rfl) mP kP bP .nil pass0 (pa_cons (pv 4) pa_nil))))
        (pss_one (ps_expr (pe_bm PySem.F.plainAttrs_list PySem.F.slot_list_append PySem.F.type_list_append mt_append (pv 1) (pa_cons (pe_lst (pa_cons pe_str (pa_cons (pe_callTy call_str_int (by rfl) T.str (by decide +kernel) (pa_cons (pv 2) pa_nil))
          (pa_cons (pe_ifExp (pt_cmpR op_isN (pv 3) pe_non (nomark _)) pe_str (pe_callTy call_str_int (by rfl) T.str (by decide +kernel) (pa_cons (pv 3) pa_nil))) (pa_cons (pv 5) pa_nil))))) pa_nil))))))
      (pss_cons (ps_expr (pe_bm PySem.F.plainAttrs_list PySem.F.slot_list_append PySem.F.type_list_append mt_append (pv 1) (pa_cons (pe_op op_cat (pe_lst (pa_cons pe_str pa_nil)) (pe_lc (own := [("at", 6)]) (g := gName 6) (tt := tYes) rfl scRo.nd (pi_tup (pe_ix ix_seq (pv 0) pe_int (fun _ _ => rfl))) (blkOk_by (N := ["net", "found", "start", "aim", "share", "told", "at"]) (sc := defScope lRowsOf) (by decide +kernel))
          (fun _ _ _ _ _ => pg_name (i := 6) scRo.nd rfl (Or.inl rfl)) (fun _ _ _ _ _ => pts_nil) (fun _ _ _ _ _ => pe_callTy call_str_int (by rfl) T.str (by decide +kernel) (pa_cons (pv 6) pa_nil)))) pa_nil)))
      (pss_one (ps_ret (pe_op op_cat (pv 1) (pe_lst (pa_cons (pe_op op_cat (pe_lst (pa_cons pe_str pa_nil)) (pe_lc (own := [("at", 6)]) (g := gName 6) (tt := tYes) rfl scRo.nd (pi_tup (pe_ix ix_seq (pv 0) pe_int (fun _ _ => rfl))) (blkOk_by (N := ["net", "found", "start", "aim", "share", "told", "at"]) (sc := defScope lRowsOf) (by decide +kernel))
          (fun _ _ _ _ _ => pg_name (i := 6) scRo.nd rfl (Or.inl rfl)) (fun _ _ _ _ _ => pts_nil) (fun _ _ _ _ _ => pe_callTy call_str_int (by rfl) T.str (by decide +kernel) (pa_cons (pv 6) pa_nil)))) pa_nil))))))), ?_⟩
    obtain ⟨a, ps, fs, ss, rfl, ea, tps, tfs, tss⟩ := net_thp th
    obtain ⟨pa, pvs, rfl, ep, tpv⟩ := tup_parts tps
    obtain ⟨fa, rfl, ef⟩ := nats_tup tfs
    obtain ⟨sa, rfl, ess⟩ := nats_tup tss
    have m4 := g.m4
    have u4 := g.u4
    have l12 := g.len
    have gm : ∀ {ns : List Nat}, GoodT n.m ns → ns.length ≤ 100 ∧ ∀ x ∈ ns, x ≤ 999 := fun {ns} gt => by
      exact ⟨by have := gt.len; omega, fun x hx => by have := gt.lt x hx; omega⟩
    have at_ : ∀ {G : Hp} {σ : L2.St} (i : Nat) (v : V), Same H G → σ[0]? = some (some (.ref a)) → [V.int (n.m : Nat), .int (n.u : Nat), .ref pa, .ref fa, .ref sa][i]? = some v → Vi (tOp (rIx K) (tVar 0) (tC (.int (i : Nat)))) σ G v := fun i v sG h0 hv => vi_at (vi_var h0) (tO_same _ _ _ ((Tk.same sG) _ _ ea)) (at_nat hv)
    refine i_asg ?_
    refine lst_two (vi_str (at_ 0 _ (Same.refl H) rfl rfl) (by omega)) (fun G sG => vi_str (at_ 1 _ sG rfl rfl) (by omega)) fun p1 p2 pf hp1 hp2 hpf => ?_
    have s1 := same_upd (o := .lst [V.str "tanks", .str (S (zL (n.m : Nat)))]) hp1
    have s2 := same_upd (o := .lst [V.str "unknowns", .str (S (zL (n.u : Nat)))]) hp2
    have s3 := same_upd (o := .lst [V.ref p1, .ref p2]) hpf
    have e1 := (s2.trans s3) p1 (.lst [V.str "tanks", .str (S (zL (n.m : Nat)))]) upd_same
    have e2 := s3 p2 (.lst [V.str "unknowns", .str (S (zL (n.u : Nat)))]) upd_same
    have n1 : p1 ≠ pf := fun z => by have := none_same s2 hpf; rw [← z, upd_same] at this; cases this
    have n2 : p2 ≠ pf := fun z => by rw [← z, upd_same] at hpf; cases hpf
    have fpf : H pf = none := none_same (s1.trans s2) hpf
    have e3 : (upd (upd (upd H p1 (.lst [V.str "tanks", .str (S (zL (n.m : Nat)))])) p2 (.lst [V.str "unknowns", .str (S (zL (n.u : Nat)))])) pf (.lst [V.ref p1, .ref p2])) pf = some (.lst [V.ref p1, .ref p2]) := upd_same
    have s03 := (s1.trans s2).trans s3
    change tSeq _ _ _ _ (upd (upd (upd H p1 (.lst [V.str "tanks", .str (S (zL (n.m : Nat)))])) p2 (.lst [V.str "unknowns", .str (S (zL (n.u : Nat)))])) pf (.lst [V.ref p1, .ref p2]))
    generalize upd (upd (upd H p1 (.lst [V.str "tanks", .str (S (zL (n.m : Nat)))])) p2 (.lst [V.str "unknowns", .str (S (zL (n.u : Nat)))])) pf (.lst [V.ref p1, .ref p2]) = H1 at *
    have r0 : Rws H1 [.ref p1, .ref p2] [[cTanks, zL (n.m : Nat)], [cUnk, zL (n.u : Nat)]] := .cons ⟨p1, rfl, by rw [e1, tanks_eq]; rfl⟩ (.cons ⟨p2, rfl, by rw [e2, unk_eq]; rfl⟩ .nil)
    have lp : pvs.length = n.ps.length := by rw [all2 tpv, List.length_map]
    refine (at_ 2 _ s03 rfl rfl) _ ⟨pa, rfl, ⟨pvs, SqT.of (tO_same _ _ _ ((Tk.same s03) _ _ ep))⟩, ?_⟩
    refine for_it (walk_tup (K := K) (a := pa) (xs := pvs)) (fun t σ H' => (∃ o2 o3 o4 o5 o6, σ = [some (.ref a), some (.ref pf), o2, o3, o4, o5, o6]) ∧ Same H H' ∧ ∃ vr, H' pf = some (.lst vr) ∧ Rws H' vr ([[cTanks, zL (n.m : Nat)], [cUnk, zL (n.u : Nat)]] ++ (n.ps.take t).map prow) ∧ ∀ y ∈ vr, y ≠ .ref pf)
      ⟨⟨none, none, none, none, none, rfl⟩, s03, _, e3, r0, fun y hy => by
        rcases List.mem_cons.mp hy with rfl | hy
        · exact fun z => n1 (by cases z; rfl)
        · rw [List.mem_singleton.mp hy]
          exact fun z => n2 (by cases z; rfl)⟩ (fun t σ H' _ z => SqT.of (tO_same H' _ _ ((Tk.same z.2.1) _ _ ep))) ?_ ?_
    · rintro t v σ _ H4 ht ⟨⟨o2, o3, o4, o5, o6, rfl⟩, s4, vr, evr, hR, nf⟩ ⟨rfl, hv⟩
      obtain ⟨d, hd, td⟩ := all_get tpv hv
      have hip : t < n.ps.length := by omega
      have epi := List.getElem?_eq_getElem hip
      rw [List.getElem?_map, epi] at hd
      cases hd
      have gp := g.ps _ (List.getElem_mem hip)
      have tk' : n.ps.take (t + 1) = n.ps.take t ++ [n.ps[t]] := by rw [List.take_add_one, epi]; rfl
      generalize n.ps[t] = pp at td gp tk'
      obtain ⟨b, sv, rfl, eb, tsv⟩ := pipe_parts (td.tk (Tk.same s4))
      refine ⟨b, _, rfl, SqT.of (tO_same H4 _ _ eb), rfl, _, _, rfl, _, _, rfl, _, _, rfl, rfl, ?_⟩
      have hps : pp.s < n.m := gp.s
      -- what is appended
      have app : ∀ (G : Hp) (wsh : Cs), Same H4 G → wsh = shW pp.sh → tDrop (tBM K "list" rAppend (tVar 1) (tCons (tLst (tCons (tC (.str "pipe")) (tCons (tCB (fun xs H Q => ∃ i, xs = [.int i] ∧ i.natAbs.log2 < 1920 ∧ Q (.str (toString i)) H) (tCons (tVar 2) tNil))
          (tCons (tIf (tTest (tOp (fun x y H Q => y = .non ∧ Q (.bl (decide (x = .non))) H) (tVar 3) (tC .non))) (tC (.str "out")) (tCB (fun xs H Q => ∃ i, xs = [.int i] ∧ i.natAbs.log2 < 1920 ∧ Q (.str (toString i)) H) (tCons (tVar 3) tNil))) (tCons (tVar 5) tNil))))) tNil)) 
            { nx := fun σ H' => (∃ o2 o3 o4 o5 o6, σ = [some (.ref a), some (.ref pf), o2, o3, o4, o5, o6]) ∧ Same H H' ∧ ∃ vr, H' pf = some (.lst vr) ∧ Rws H' vr ([[cTanks, zL (n.m : Nat)], [cUnk, zL (n.u : Nat)]] ++ (n.ps.take (t + 1)).map prow) ∧ ∀ y ∈ vr, y ≠ .ref pf, rt := Q } [some (.ref a), some (.ref pf), some (.int (pp.s : Nat)), some (enV pp.e), some sv, some (.str (S wsh)), o6] G := fun G wsh sG ew => by
        have evr' := sG _ _ evr
        have enV' : Vi (tIf (tTest (tOp (fun x y H Q => y = .non ∧ Q (.bl (decide (x = .non))) H) (tVar 3) (tC .non))) (tC (.str "out")) (tCB (fun xs H Q => ∃ i, xs = [.int i] ∧ i.natAbs.log2 < 1920 ∧ Q (.str (toString i)) H) (tCons (tVar 3) tNil))) [some (.ref a), some (.ref pf), some (.int (pp.s : Nat)), some (enV pp.e), some sv, some (.str (S wsh)), o6] G (.str (S (enW pp.e))) := by
          cases qe : pp.e with
          | none => exact vi_same (vi_if (b := true) (u := .non) (ti_test (vi_isN (vi_var rfl) rfl)) (fun _ => vi_c) fun z => by cases z) (by show V.str "out" = V.str (S cOut); exact congrArg V.str (by decide +kernel))
          | some k =>
            have := gp.e k qe
            exact vi_same (vi_if (b := false) (v := .non) (ti_test (vi_isN (vi_var rfl) rfl)) (fun z => by cases z) fun _ => vi_str (i := (k : Nat)) (vi_var rfl) (by omega)) rfl
        refine ⟨_, rfl, .inl ⟨rfl, _, SqL.of evr'⟩, cons_lst (cons_vi vi_c (cons_vi (vi_str (vi_var rfl) (by omega)) (cons_vi enV' (cons_vi (vi_var rfl) ⟨by show 4 ≤ sizeLine; decide, fun q hq => ⟨pf, vr, .ref q, rfl, rfl, same_upd hq _ _ evr', ?_, ?_⟩⟩))))⟩
        · have := hR.len
          rw [List.length_append, List.length_map, List.length_take] at this
          simp at this
          exact Nat.lt_of_le_of_lt (show _ ≤ 20 by omega) (by decide)
        have sq := same_upd (o := .lst [V.str "pipe", .str (S (zL (pp.s : Nat))), .str (S (enW pp.e)), .str (S wsh)]) hq
        have nq : q ≠ pf := fun z => by rw [z, evr'] at hq; cases hq
        refine ⟨⟨_, _, _, _, _, rfl⟩, same_put ((s4.trans sG).trans sq) fpf, vr ++ [.ref q], upd_same, ?_, fun y hy => ?_⟩
        · rw [tk', List.map_append, ← List.append_assoc]
          refine Rws.snoc ⟨q, rfl, ?_⟩ (Rws.put (hR.sm (Sm.same (sG.trans sq))) nf)
          rw [upd_ne nq, upd_same, ew, pipe_eq]
          rfl
        · rcases List.mem_append.mp hy with h | h
          · exact nf y h
          · rw [List.mem_singleton.mp h]
            exact fun z => nq (by cases z; rfl)
      change tSeq _ _ _ _ _
      refine i_asg ?_
      have xs_ : ("x" : Str) = S [120] := by decide +kernel
      cases qs : pp.sh with
      | inl j =>
        rw [qs] at tsv
        have hj : j < n.u := by have := gp.sh; rw [qs] at this; exact this
        obtain ⟨sa1, sy, rfl, esa, hsy⟩ := share_parts tsv
        cases hsy j rfl
        have esa' := tO_same _ _ _ esa
        refine g_ife (b := true) (tg_of (ti_test (vi_op (vi_at (vi_var rfl) esa' rfl) vi_c fun Q q => ⟨rfl, by rw [show decide (markV (.inl j) = V.str "x") = true from decide_eq_true rfl]; exact q⟩))) (fun _ G sG => ?_) (fun z => by cases z)
        refine (vi_cat (a := [120]) (b := zL (j : Nat)) (vi_same vi_c (by rw [xs_])) (vi_str (vi_at (vi_var rfl) (sG.rd esa') rfl) (by omega)) ?_) _ ?_
        · have := zL_len (i := (j : Nat)) (by omega)
          simp
          omega
        · exact app G _ sG (by rw [qs]; rfl)
      | inr x =>
        rw [qs] at tsv
        have tx : Told x := by have := gp.sh; rw [qs] at this; exact this
        obtain ⟨sa1, sy, e_, esa, hsy⟩ := share_parts tsv
        have esa' := tO_same _ _ _ esa
        subst e_
        refine g_ife (b := false) (tg_of (ti_test (vi_op (vi_at (vi_var rfl) esa' rfl) vi_c fun Q q => ⟨rfl, by rw [show decide (markV (.inr x) = V.str "x") = false from decide_eq_false fun z => by cases z]; exact q⟩))) (fun z => by cases z) (fun _ G sG => ?_)
        refine call1 ⟨_, rfl, _, x, rfl, tsv.tk (Tk.same sG), tx, ?_⟩
        exact app G _ sG (by rw [qs]; rfl)
    · rintro σ H4 ⟨⟨o2, o3, o4, o5, o6, rfl⟩, s4, vr, evr, hR, nf⟩
      rw [List.take_of_length_le (by omega)] at hR
      obtain ⟨lf, bf⟩ := gm g.fs
      obtain ⟨ls, bs⟩ := gm g.ss
      have lR := hR.len
      rw [List.length_append, List.length_map] at lR
      simp at lR
      change tSeq _ _ _ _ _
      refine ⟨_, rfl, .inl ⟨rfl, _, SqL.of evr⟩, ?_⟩
      refine cat_row (σ := [some (.ref a), some (.ref pf), o2, o3, o4, o5, o6]) (j := 6) (vs := [6]) filled_eq (fun G sG => at_ 3 _ (s4.trans sG) rfl rfl) (tO_same _ _ _ ((Tk.same s4) _ _ ef)) lf bf (by intro x; rfl) (by intro x; rfl) fun q H5 hq s5 eq => ?_
      have evr5 := s5 _ _ evr
      have nq : q ≠ pf := fun z => by rw [z, evr] at hq; cases hq
      refine ⟨pf, vr, .ref q, rfl, rfl, evr5, Nat.lt_of_le_of_lt (show _ ≤ 20 by omega) (by decide), ?_⟩
      have tk6 : Tk H (upd H5 pf (.lst (vr ++ [.ref q]))) := (Tk.same (s4.trans s5)).trans (Tk.put evr5)
      have s6 : Same H (upd H5 pf (.lst (vr ++ [.ref q]))) := same_put (s4.trans s5) fpf
      have hR6 : Rws (upd H5 pf (.lst (vr ++ [.ref q]))) (vr ++ [.ref q]) ([[cTanks, zL (n.m : Nat)], [cUnk, zL (n.u : Nat)]] ++ n.ps.map prow ++ [trow cFilled n.fs]) := Rws.snoc ⟨q, rfl, by rw [upd_ne nq]; exact eq⟩ (Rws.put (hR.sm (Sm.same s5)) nf)
      have e6 : (upd H5 pf (.lst (vr ++ [.ref q]))) pf = some (.lst (vr ++ [.ref q])) := upd_same
      dsimp only
      generalize upd H5 pf (.lst (vr ++ [.ref q])) = H6 at *
      refine ⟨_, rfl, ?_⟩
      refine cat_row (σ := [some (.ref a), some (.ref pf), o2, o3, o4, o5, o6]) (j := 6) (vs := [6]) seen_eq (fun G sG => at_ 4 _ (s6.trans sG) rfl rfl) (tO_same _ _ _ (tk6 _ _ ess)) ls bs (by intro x; rfl) (by intro x; rfl) fun q2 H7 hq2 s7 eq2 => ?_
      refine ⟨by show 1 ≤ sizeLine; decide, fun l hl => ?_⟩
      have s8 := same_upd (o := .lst [V.ref q2]) hl
      refine ⟨pf, l, vr ++ [.ref q], [.ref q2], rfl, rfl, (s7.trans s8) _ _ e6, upd_same, ?_, fun z hz => ?_⟩
      · rw [List.length_append]
        simp
        exact Nat.le_trans (show _ ≤ 20 by omega) (by decide)
      have s9 := same_upd (o := .lst (vr ++ [.ref q] ++ [.ref q2])) hz
      refine k z _ _ (((s6.trans s7).trans s8).trans s9) upd_same ?_
      exact Rws.snoc ⟨q2, rfl, (s8.trans s9) _ _ eq2⟩ (hR6.sm (Sm.same ((s7.trans s8).trans s9)))
end
end KP

set_option Elab.async false
set_option linter.all false
set_option maxRecDepth 100000
set_option maxHeartbeats 4000000
/-! ### drawn blanks; texts of moderate size -/
namespace KP
open PySem PySem.Spec PyProof.Rows L2 KX KT KJ KS FR PT SX
abbrev lBlanked : Stmt := top 55
theorem jarS {H H' : Hp} {j : Addr} {n : Nat} (h : JarAt H j n) (s : Same H H') : JarAt H' j n := by
  obtain ⟨a, b, c, e, q⟩ := h
  exact ⟨a, b, c, s _ _ e, q⟩
theorem jarM {H : Hp} {j : Addr} {n m : Nat} (h : JarAt H j n) (l : n ≤ m) : JarAt H j m := by
  obtain ⟨a, b, c, e, q1, q2, q3, q4, q5⟩ := h
  exact ⟨a, b, c, e, q1, q2, q3, q4, by omega⟩
/-- a calm word of eight signs at most -/
structure Wk (w : Cs) : Prop where
  calm : Calm w
  len : w.length ≤ 8
def okS (s : Str) : Bool := decide (s.cps.toList.length ≤ 8) && s.cps.toList.all fun c => decide (c < 128) && !decide (c = 10)
theorem okS_wk {s : Str} (h : okS s = true) : Wk s.cps.toList := by
  unfold okS at h
  rw [Bool.and_eq_true, decide_eq_true_iff] at h
  refine ⟨fun c hc => ?_, h.1⟩
  have := List.all_eq_true.mp h.2 c hc
  simpa using this
/-- a written list of texts -/
def LitS (t : TA) (ss : List Str) : Prop := ∀ (σ : L2.St) (G : Hp) (Q : List V → Hp → Prop), Q (ss.map V.str) G → t σ G Q
theorem litS_nil : LitS tNil [] := fun _ _ _ q => q
theorem litS_cons {s : Str} {t : TA} {ss : List Str} (h : LitS t ss) : LitS (tCons (tC (.str s)) t) (s :: ss) := fun σ G Q q => h σ G _ q
section
variable {K : PySem.W.Frag} {σ : L2.St} {H : Hp}
theorem one_strs {E : XK} {t : TA} {ss : List Str} {j : Addr} {n : Nat} {Q : VK} (ht : LitS t ss) (h0 : σ[0]? = some (some (.ref j))) (hne : ss ≠ []) (hl : ss.length ≤ 1000) (ok : ss.all okS = true) (hj : JarAt H j n) (hn : n < 1000000)
    (k : ∀ w H', Wk w → KJ.But j H H' → JarAt H' j (n + 1) → Q (.str (S w)) H') : tCall (spOne K) [] E (tCons (tVar 0) (tCons (tLst t) tNil)) σ H Q := by
  refine ⟨_, h0, ht σ H _ ⟨?_, fun p hp => ?_⟩⟩
  · rw [List.length_map]
    exact Nat.le_trans hl (by decide)
  have sp := same_upd (o := .lst (ss.map V.str)) hp
  have np : p ≠ j := fun z => jar_ne hj (by rw [← z]; exact hp)
  refine ⟨j, p, ss.map V.str, n, rfl, np, .inl upd_same, fun z => hne (List.map_eq_nil_iff.mp z), by rw [List.length_map]; exact Nat.lt_of_le_of_lt hl (by decide), jarS hj sp, hn, fun x H' hx b jr => ?_⟩
  obtain ⟨s, hs, rfl⟩ := List.mem_map.mp hx
  have := k s.cps.toList H' (okS_wk (List.all_eq_true.mp ok s hs)) ((KJ.But.same sp).trans b) jr
  rw [S_tl] at this
  exact this
end
def spBlank : Sp := fun vs H Q _ => ∃ (j a : Addr) (n : Nat) (ws : List Cs), vs = [.ref j, .ref a] ∧ JarAt H j n ∧ n ≤ 900000 ∧ a ≠ j ∧ H a = some (.lst (sL ws)) ∧ ws.length ≤ 20 ∧ (∀ w ∈ ws, Wk w) ∧
  ∀ t H', Calm t → t.length ≤ 400 → KJ.But j H H' → JarAt H' j (n + 22) → Q (.str (S t)) H'
section
variable {P : Program} {w : World} {K : PySem.W.Frag} {mg : Str → Option Value} {base : Heap}
theorem scBl : FnScope ["jar", "words", "found", "at", "word"] ["jar", "words"] (defScope lBlanked) := ⟨rfl, rfl, rfl, by decide +kernel, rfl, by decide +kernel, by decide +kernel⟩
theorem ok_blanked {f fO : Addr} {fd fdO : FuncData} (F : Fun K "_law_blanked" "_law_blanked" lBlanked f fd) (T : TxD mg) (FO : FnOk P w K mg base CX0 2 fO fdO ["jar", "some"] (spOne K)) (mO : mg "_law_one_of" = some (.ref fO)) (kO : PySem.W.keepIn K (.ref fO) = true) (bO : Binds K fdO ["jar", "some"] []) :
    FnOk P w K mg base CX0 3 f fd ["jar", "words"] spBlank := by
  refine F.ok scBl (fun vs H Q E h => ?_) (fun cdv A outer s H vs Q E hr h => ?_)
  · obtain ⟨_, _, _, _, rfl, _⟩ := h
    rfl
  · obtain ⟨j, a, n, ws, rfl, hj, hn, naj, ha, hl, hw, k⟩ := h
    refine ⟨_, pss_cons (ps_set (i := 2) scBl.nd rfl (Or.inl rfl) (pe_call FO hr (by rfl) mO kO bO .nil pass0 (pa_cons (pv 0) (pa_cons (pe_lst (pa_cons pe_str (pa_cons pe_str (pa_cons pe_str (pa_cons pe_str pa_nil))))) pa_nil))))
      (pss_cons (ps_for PassesOwn.never rfl (pi_enum (by rfl) T.enumerate (pa_cons (pv 1) pa_nil)) (pg_tup rfl (pgs_cons (pg_name (i := 3) scBl.nd rfl (Or.inl rfl)) (pgs_cons (pg_name (i := 4) scBl.nd rfl (Or.inl rfl)) pgs_nil)))
        (pss_one (ps_set (i := 2) scBl.nd rfl (Or.inl rfl) (pe_op op_add_str (pe_op op_add_str (pv 2) (pe_ifExp (pt_cmpR op_gt (pv 3) pe_int (nomark _)) (pe_call FO hr (by rfl) mO kO bO .nil pass0 (pa_cons (pv 0) (pa_cons (pe_lst (pa_cons pe_str (pa_cons pe_str (pa_cons pe_str (pa_cons pe_str pa_nil))))) pa_nil))) pe_str)) (pv 4)))))
      (pss_one (ps_ret (pe_op op_add_str (pv 2) (pe_call FO hr (by rfl) mO kO bO .nil pass0 (pa_cons (pv 0) (pa_cons (pe_lst (pa_cons pe_str (pa_cons pe_str (pa_cons pe_str (pa_cons pe_str pa_nil))))) pa_nil))))))), ?_⟩
    have ls4 : ∀ a b c d : Str, LitS (tCons (tC (.str a)) (tCons (tC (.str b)) (tCons (tC (.str c)) (tCons (tC (.str d)) tNil)))) [a, b, c, d] := fun a b c d => litS_cons (litS_cons (litS_cons (litS_cons litS_nil)))
    refine i_asg ?_
    refine one_strs (σ := L2.start ["jar", "words", "found", "at", "word"] [.ref j, .ref a]) (ls4 _ _ _ _) rfl (by simp) (by simp) (by decide +kernel) hj (by omega) fun w0 H1 wk0 b1 j1 => ?_
    have ha1 := b1 _ _ naj ha
    refine ⟨_, rfl, a, _, rfl, SqL.of ha1, ?_⟩
    refine for_it (walk_enum (K := K) (a := a) (xs := sL ws)) (fun i σ H' => (∃ t o3 o4, σ = [some (.ref j), some (.ref a), some (.str (S t)), o3, o4] ∧ Calm t ∧ t.length ≤ 8 + 16 * i) ∧ KJ.But j H H' ∧ JarAt H' j (n + 1 + i))
      ⟨⟨w0, none, none, rfl, wk0.calm, by have := wk0.len; omega⟩, b1, by rw [Nat.add_zero]; exact j1⟩ (fun i σ H' _ z => SqL.of (z.2.1 _ _ naj ha)) ?_ ?_
    · rintro i v σ H4 H5 hi ⟨⟨t, o3, o4, rfl, ct, lt⟩, b4, j4⟩ ⟨T1, x, y, rfl, hT, rfl, hx, hy⟩
      cases hx
      obtain ⟨r, hr', rfl⟩ := sL_at hy
      rw [sL_len] at hi
      have wr := hw r (List.mem_of_getElem? hr')
      have sT := same_upd (o := .tup [.int (i : Nat), .str (S r)]) hT
      have bT := b4.trans (KJ.But.same sT)
      have jT := jarS j4 sT
      refine ⟨T1, _, rfl, .inl (.inl upd_same), rfl, _, _, rfl, _, _, rfl, rfl, ?_⟩
      -- the end of a turn
      have fin : ∀ (w1 : Cs) (H6 : Hp), Wk w1 → KJ.But j H H6 → JarAt H6 j (n + 1 + (i + 1)) → ∃ v, ([some (.ref j), some (.ref a), some (.str (S t)), some (.int (i : Nat)), some (.str (S r))] : L2.St)[4]? = some (some v) ∧ ∃ p q, V.str (S t ++ S w1) = .str p ∧ v = .str q ∧ p.length + q.length ≤ sizeLine ∧
          (∃ t' o3 o4, ([some (.ref j), some (.ref a), some (.str (S t)), some (.int (i : Nat)), some (.str (S r))] : L2.St).set 2 (some (.str (p ++ q))) = [some (.ref j), some (.ref a), some (.str (S t')), o3, o4] ∧ Calm t' ∧ t'.length ≤ 8 + 16 * (i + 1)) ∧ KJ.But j H H6 ∧ JarAt H6 j (n + 1 + (i + 1)) := fun w1 H6 wk1 b6 j6 => by
        have l1 := wk1.len
        have l2 := wr.len
        refine ⟨_, rfl, _, _, rfl, rfl, ?_, ⟨t ++ w1 ++ r, _, _, by rw [S_cat, S_cat]; rfl, (ct.append wk1.calm).append wr.calm, by simp; omega⟩, b6, j6⟩
        rw [S_cat, S_len, S_len, List.length_append]
        exact Nat.le_trans (show _ ≤ 1000 by omega) (by decide)
      refine ⟨_, rfl, ?_⟩
      refine g_ife (b := decide (0 < i)) (tg_of (ti_test (vi_gtN rfl (vi_var rfl)))) (fun c G sG => ?_) (fun c G sG => ?_)
      · refine one_strs (σ := [some (.ref j), some (.ref a), some (.str (S t)), some (.int (i : Nat)), some (.str (S r))]) (ls4 _ _ _ _) rfl (by simp) (by simp) (by decide +kernel) (jarS jT sG) (by omega) fun w1 H6 wk1 b6 j6 => ?_
        refine ⟨_, _, rfl, rfl, ?_, ?_⟩
        · have := wk1.len
          rw [S_len, S_len]
          exact Nat.le_trans (show _ ≤ 1000 by omega) (by decide)
        · exact fin w1 H6 wk1 ((bT.trans (KJ.But.same sG)).trans b6) j6
      · refine ⟨_, _, rfl, rfl, ?_, ?_⟩
        · rw [S_len]
          exact Nat.le_trans (show t.length + 0 ≤ 1000 by omega) (by decide)
        · exact fin [] G ⟨fun c hc => (by cases hc), Nat.zero_le _⟩ (bT.trans (KJ.But.same sG)) (jarM (jarS jT sG) (by omega))
    · rintro σ H4 ⟨⟨t, o3, o4, rfl, ct, lt⟩, b4, j4⟩
      rw [sL_len] at lt j4
      refine ⟨_, rfl, ?_⟩
      refine one_strs (σ := [some (.ref j), some (.ref a), some (.str (S t)), o3, o4]) (ls4 _ _ _ _) rfl (by simp) (by simp) (by decide +kernel) j4 (by omega) fun w1 H6 wk1 b6 j6 => ?_
      have l1 := wk1.len
      refine ⟨_, _, rfl, rfl, ?_, ?_⟩
      · rw [S_len, S_len]
        exact Nat.le_trans (show _ ≤ 1000 by omega) (by decide)
      · rw [S_cat]
        exact k _ H6 (ct.append wk1.calm) (by rw [List.length_append]; omega) (b4.trans b6) (jarM j6 (by omega))
end
end KP

set_option Elab.async false
set_option linter.all false
set_option maxRecDepth 100000
set_option maxHeartbeats 4000000
/-! ### a row, spoilt -/
namespace KP
open PySem PySem.Spec PyProof.Rows L2 KX KT KJ KS FR PT SX
theorem cutV_take (xs : List V) (n : Nat) : cutV xs none (some (n : Int)) = xs.take n := by
  unfold cutV
  rw [HT.sIx_none, HT.sIx_nat, List.drop_zero]
  by_cases h : n ≤ xs.length
  · rw [show min n xs.length - 0 = n by omega]
  · rw [show min n xs.length - 0 = xs.length by omega, List.take_of_length_le (Nat.le_refl _), List.take_of_length_le (by omega)]
/-- a list of words is made; nothing else changes -/
def Lx (te : TE) (σ : L2.St) (j : Addr) (H : Hp) (ws : List Cs) : Prop := ∀ G n, KJ.But j H G → JarAt G j n → ∀ Q : VK, (∀ b G', Same G G' → b ≠ j → G' b = some (.lst (sL ws)) → Q (.ref b) G') → te σ G Q
section
variable {K : PySem.W.Frag} {σ : L2.St} {H : Hp} {j a : Addr} {ws us : List Cs}
theorem jar_new {G : Hp} {n : Nat} {p : Addr} (h : JarAt G j n) (hp : G p = none) : p ≠ j := fun z => jar_ne h (by rw [← z]; exact hp)
theorem lx_slice {te : TE} {tl th : TO} {lo hi : Option Int} {vs : List Cs} (h : ∀ G, Vi te σ G (.ref a)) (naj : a ≠ j) (e : H a = some (.lst (sL ws))) (hl : ∀ G Q, Q lo G → tl σ G Q) (hh : ∀ G Q, Q hi G → th σ G Q) (ec : cutV (sL ws) lo hi = sL vs) : Lx (tSl (rSlL K) te tl th) σ j H vs := fun G n b hj Q q =>
  h G _ (hl _ _ (hh _ _ ⟨a, _, rfl, SqL.of (b _ _ naj e), fun p hp => q p _ (same_upd hp) (jar_new hj hp) (by rw [upd_same, ec])⟩))
theorem lx_cat {ta tb : TE} (h : Lx ta σ j H ws) (h2 : Lx tb σ j H us) (hl : ws.length + us.length ≤ 5000) : Lx (tOp rCat ta tb) σ j H (ws ++ us) := fun G n b hj Q q =>
  h G n b hj _ fun x G1 s1 nx e1 => h2 G1 n (b.trans (KJ.But.same s1)) (jar_same hj s1) _ fun y G2 s2 ny e2 => ⟨x, y, _, _, rfl, rfl, s2 _ _ e1, e2, by
    rw [sL_len, sL_len]
    exact Nat.le_trans hl (by decide), fun p hp => q p _ ((s1.trans s2).trans (same_upd hp)) (jar_new (jar_same hj (s1.trans s2)) hp) (by
      rw [upd_same]
      unfold sL
      rw [List.map_append])⟩
theorem lx_one {te : TE} {w : Cs} (h : ∀ G, KJ.But j H G → Vi te σ G (.str (S w))) : Lx (tLst (tCons te tNil)) σ j H [w] := fun G n b hj Q q => h G b _ ⟨by show 1 ≤ sizeLine; decide, fun p hp => q p _ (same_upd hp) (jar_new hj hp) upd_same⟩
theorem lx_if {t : TT} {ta tb : TE} {b : Bool} (h : ∀ G, Ti t σ G b) (h1 : Lx ta σ j H ws) (h2 : Lx tb σ j H us) : Lx (tIf t ta tb) σ j H (if b = true then ws else us) := fun G n bb hj Q q => h G _ (by
  cases b with
  | true => rw [if_pos rfl]; exact h1 G n bb hj Q q
  | false => rw [if_neg Bool.false_ne_true]; exact h2 G n bb hj Q q)
end
def odd15 : List Str := ["00", "01", "-1", "-0", "+2", "x", "x01", "x-1", "1/", "/2", "1/02", "-0/3", "-3/4", "1/-2", "1//2"]
def odd13 : List Str := ["out", "Out", "tanks", "pipe", "seen", "filled", "unknowns", "a", "1.5", "2\t", "x2", "7", "0/5"]
def odd2 : List Str := ["1/0", "-5"]
def spSpoilRow : Sp := fun vs H Q _ => ∃ (j a : Addr) (n : Nat) (ws : List Cs), vs = [.ref j, .ref a] ∧ JarAt H j n ∧ n ≤ 900000 ∧ a ≠ j ∧ H a = some (.lst (sL ws)) ∧ ws.length ≤ 1000 ∧ (∀ w ∈ ws, Wk w) ∧
  ∀ b ws' H', b ≠ j → H' b = some (.lst (sL ws')) → ws'.length ≤ ws.length + 1 → (∀ w ∈ ws', Wk w) → KJ.But j H H' → JarAt H' j (n + 3) → Q (.ref b) H'
section
variable {P : Program} {w : World} {K : PySem.W.Frag} {mg : Str → Option Value} {base : Heap}
end
end KP

set_option Elab.async false
set_option linter.all false
set_option maxRecDepth 100000
set_option maxHeartbeats 4000000
/-! ### rows, spoilt -/
namespace KP
open PySem PySem.Spec PyProof.Rows L2 KX KT KJ KS FR PT SX
/-- a list of known values is made; nothing else changes -/
def Lv (te : TE) (σ : L2.St) (j : Addr) (H : Hp) (xs : List V) : Prop := ∀ G n, KJ.But j H G → JarAt G j n → ∀ Q : VK, (∀ b G', Same G G' → b ≠ j → G' b = some (.lst xs) → Q (.ref b) G') → te σ G Q
section
variable {K : PySem.W.Frag} {σ : L2.St} {H : Hp} {j a : Addr} {xs ys : List V}
theorem lv_slice {te : TE} {tl th : TO} {lo hi : Option Int} {vs : List V} (h : ∀ G, Vi te σ G (.ref a)) (naj : a ≠ j) (e : H a = some (.lst xs)) (hl : ∀ G Q, Q lo G → tl σ G Q) (hh : ∀ G Q, Q hi G → th σ G Q) (ec : cutV xs lo hi = vs) : Lv (tSl (rSlL K) te tl th) σ j H vs := fun G n b hj Q q =>
  h G _ (hl _ _ (hh _ _ ⟨a, _, rfl, SqL.of (b _ _ naj e), fun p hp => q p _ (same_upd hp) (jar_new hj hp) (by rw [upd_same, ec])⟩))
theorem lv_cat {ta tb : TE} (h : Lv ta σ j H xs) (h2 : Lv tb σ j H ys) (hl : xs.length + ys.length ≤ 5000) : Lv (tOp rCat ta tb) σ j H (xs ++ ys) := fun G n b hj Q q =>
  h G n b hj _ fun x G1 s1 nx e1 => h2 G1 n (b.trans (KJ.But.same s1)) (jar_same hj s1) _ fun y G2 s2 ny e2 => ⟨x, y, _, _, rfl, rfl, s2 _ _ e1, e2, Nat.le_trans hl (by decide), fun p hp => q p _ ((s1.trans s2).trans (same_upd hp)) (jar_new (jar_same hj (s1.trans s2)) hp) upd_same⟩
theorem lv_one {te : TE} {v : V} (h : ∀ G, KJ.But j H G → Vi te σ G v) : Lv (tLst (tCons te tNil)) σ j H [v] := fun G n b hj Q q => h G b _ ⟨by show 1 ≤ sizeLine; decide, fun p hp => q p _ (same_upd hp) (jar_new hj hp) upd_same⟩
theorem lv_rev {te : TE} (h : Lv te σ j H xs) : Lv (tRevL K te) σ j H xs.reverse := fun G n b hj Q q =>
  h G n b hj _ fun x G1 s1 nx e1 => ⟨x, _, rfl, SqL.of e1, fun p hp => q p _ (s1.trans (same_upd hp)) (jar_new (jar_same hj s1) hp) upd_same⟩
end
theorem Rws.take {H : Hp} : ∀ {vs : List V} {rs : List (List Cs)} (k : Nat), Rws H vs rs → Rws H (vs.take k) (rs.take k)
  | _, _, 0, _ => .nil
  | _, _, k + 1, .nil => .nil
  | _, _, k + 1, .cons a b => .cons a (Rws.take k b)
theorem Rws.append {H : Hp} : ∀ {vs us : List V} {rs qs : List (List Cs)}, Rws H vs rs → Rws H us qs → Rws H (vs ++ us) (rs ++ qs)
  | _, _, _, _, .nil, h => h
  | _, _, _, _, .cons a b, h => .cons a (Rws.append b h)
theorem Rws.rev {H : Hp} : ∀ {vs : List V} {rs : List (List Cs)}, Rws H vs rs → Rws H vs.reverse rs.reverse
  | _, _, .nil => .nil
  | _, _, .cons a b => by
    rw [List.reverse_cons, List.reverse_cons]
    exact Rws.append (Rws.rev b) (.cons a .nil)
theorem hidAt {j p : Addr} {H : Hp} {u : HO} (e : hid j H p = some u) : p ≠ j ∧ H p = some u := by
  refine ⟨fun z => ?_, hid_same j H _ _ e⟩
  rw [z, show hid j H j = none from if_pos rfl] at e
  cases e
/-- rows of calm words, of a moderate length -/
def RowsWk (m : Nat) (rows : List (List Cs)) : Prop := ∀ r ∈ rows, r.length ≤ m ∧ ∀ w ∈ r, Wk w
theorem RowsWk.mono {m m' : Nat} {rows : List (List Cs)} (h : RowsWk m rows) (l : m ≤ m') : RowsWk m' rows := fun r hr => ⟨Nat.le_trans (h r hr).1 l, (h r hr).2⟩
theorem RowsWk.append {m : Nat} {rs qs : List (List Cs)} (h : RowsWk m rs) (h2 : RowsWk m qs) : RowsWk m (rs ++ qs) := fun r hr => (List.mem_append.mp hr).elim (h r) (h2 r)
theorem RowsWk.take {m k : Nat} {rs : List (List Cs)} (h : RowsWk m rs) : RowsWk m (rs.take k) := fun r hr => h r (List.mem_of_mem_take hr)
theorem RowsWk.drop {m k : Nat} {rs : List (List Cs)} (h : RowsWk m rs) : RowsWk m (rs.drop k) := fun r hr => h r (List.mem_of_mem_drop hr)
theorem RowsWk.one {m : Nat} {r : List Cs} (h : r.length ≤ m) (h2 : ∀ w ∈ r, Wk w) : RowsWk m [r] := fun r' hr => by
  rw [List.mem_singleton.mp hr]
  exact ⟨h, h2⟩
def spSpoil : Sp := fun vs H Q _ => ∃ (j a : Addr) (n m : Nat) (vr : List V) (rows : List (List Cs)), vs = [.ref j, .ref a] ∧ JarAt H j n ∧ n ≤ 800000 ∧ a ≠ j ∧ H a = some (.lst vr) ∧ Rws (hid j H) vr rows ∧ rows ≠ [] ∧ rows.length ≤ 500 ∧ RowsWk m rows ∧ m ≤ 500 ∧
  ∀ b vr' rows' H', b ≠ j → H' b = some (.lst vr') → Rws (hid j H') vr' rows' → rows'.length ≤ rows.length + 1 → RowsWk (m + 1) rows' → KJ.But j H H' → JarAt H' j (n + 5) → Q (.ref b) H'
section
variable {P : Program} {w : World} {K : PySem.W.Frag} {mg : Str → Option Value} {base : Heap}
end
end KP

set_option Elab.async false
set_option linter.all false
set_option maxRecDepth 100000
set_option maxHeartbeats 4000000
/-! ### texts of moderate size; how wide what they tell is shown -/
namespace PT
open PySem SX
/-- no row has more than 400 signs, k of the first one seen -/
def run : Nat → Cs → Bool
  | _, [] => true
  | k, x :: r => if x = 10 then run 0 r else decide (k < 400) && run (k + 1) r
theorem run_nl {k : Nat} {r : Cs} : run k (10 :: r) = run 0 r := if_pos rfl
theorem run_sign {k x : Nat} {r : Cs} (h : x ≠ 10) : run k (x :: r) = (decide (k < 400) && run (k + 1) r) := if_neg h
theorem run_take : ∀ (t : Cs) (k n : Nat), run k t = true → run k (t.take n) = true
  | [], k, n, _ => by rw [List.take_nil]; rfl
  | x :: r, k, 0, _ => rfl
  | x :: r, k, n + 1, h => by
    rw [List.take_succ_cons]
    by_cases e : x = 10
    · subst e
      rw [run_nl] at h ⊢
      exact run_take r 0 n h
    · rw [run_sign e, Bool.and_eq_true] at h ⊢
      exact ⟨h.1, run_take r (k + 1) n h.2⟩
theorem run_line : ∀ (l r : Cs) (k : Nat), (∀ c ∈ l, c ≠ 10) → k + l.length ≤ 400 → run k (l ++ r) = run (k + l.length) r
  | [], r, k, _, _ => rfl
  | x :: l, r, k, h, hk => by
    rw [List.length_cons] at hk
    rw [List.cons_append, run_sign (h x List.mem_cons_self), decide_eq_true (show k < 400 by omega), Bool.true_and, run_line l r (k + 1) (fun c hc => h c (List.mem_cons_of_mem _ hc)) (by omega), List.length_cons, show k + 1 + l.length = k + (l.length + 1) by omega]
theorem run_pieces : ∀ (t : Cs) (k : Nat), run k t = true → k ≤ 400 → (∀ p, (splitC 10 t).head? = some p → p.length + k ≤ 400) ∧ ∀ p ∈ splitC 10 t, p.length ≤ 400
  | [], k, _, hk => ⟨fun p hp => by cases hp; simpa using hk, fun p hp => by rw [List.mem_singleton.mp hp]; exact Nat.zero_le _⟩
  | x :: r, k, h, hk => by
    by_cases e : x = 10
    · subst e
      rw [run_nl] at h
      obtain ⟨a, b⟩ := run_pieces r 0 h (by omega)
      rw [splitC_hit rfl]
      refine ⟨fun p hp => by cases hp; simpa using hk, fun p hp => ?_⟩
      rcases List.mem_cons.mp hp with rfl | hp
      · exact Nat.zero_le _
      · exact b p hp
    · rw [run_sign e, Bool.and_eq_true, decide_eq_true_iff] at h
      obtain ⟨a, b⟩ := run_pieces r (k + 1) h.2 (by omega)
      rw [splitC_miss e]
      cases q : splitC 10 r with
      | nil => exact absurd q (splitC_ne 10 r)
      | cons p ps =>
        rw [q] at a b
        have ap := a p rfl
        refine ⟨fun p' hp => ?_, fun p' hp => ?_⟩
        · cases hp
          rw [List.length_cons]
          omega
        · rcases List.mem_cons.mp hp with rfl | hp
          · rw [List.length_cons]
            omega
          · exact b p' (List.mem_cons_of_mem _ hp)
def cnt10 (t : Cs) : Nat := (t.filter fun c => decide (c = 10)).length
theorem cnt_cons (x : Nat) (r : Cs) : cnt10 (x :: r) = (if x = 10 then 1 else 0) + cnt10 r := by
  unfold cnt10
  by_cases h : x = 10
  · rw [List.filter_cons_of_pos (by simpa using h), if_pos h, List.length_cons]; omega
  · rw [List.filter_cons_of_neg (by simpa using h), if_neg h]; omega
theorem split_cnt : ∀ t : Cs, (splitC 10 t).length = cnt10 t + 1
  | [] => rfl
  | x :: r => by
    have ih := split_cnt r
    rw [cnt_cons]
    by_cases e : x = 10
    · rw [splitC_hit e, List.length_cons, ih, if_pos e]
      omega
    · rw [splitC_miss e, if_neg e]
      cases q : splitC 10 r with
      | nil => exact absurd q (splitC_ne 10 r)
      | cons p ps =>
        rw [q] at ih
        rw [List.length_cons] at ih ⊢
        omega
theorem cnt_app (a b : Cs) : cnt10 (a ++ b) = cnt10 a + cnt10 b := by
  unfold cnt10
  rw [List.filter_append, List.length_append]
theorem cnt_take (t : Cs) (n : Nat) : cnt10 (t.take n) ≤ cnt10 t := ((List.take_sublist n t).filter _).length_le
theorem cnt_free {l : Cs} (h : ∀ c ∈ l, c ≠ 10) : cnt10 l = 0 := by
  unfold cnt10
  rw [List.length_eq_zero_iff, List.filter_eq_nil_iff]
  exact fun c hc => by simpa using h c hc
/-- what a text of lines has -/
structure Lns (m : Nat) (t : Cs) : Prop where
  run : run 0 t = true
  cnt : cnt10 t ≤ m
  len : t.length ≤ m * 401 + 400
  asc : ∀ c ∈ t, c < 128
theorem Lns.take {m : Nat} {t : Cs} (h : Lns m t) (n : Nat) : Lns m (t.take n) := ⟨run_take t 0 n h.run, Nat.le_trans (cnt_take t n) h.cnt, Nat.le_trans (by rw [List.length_take]; omega) h.len, fun c hc => h.asc c (List.mem_of_mem_take hc)⟩
theorem Lns.join {suf : Cs} {m : Nat} (hs2 : Lns m suf) (hs3 : ∀ k, k ≤ 400 → PT.run k suf = true) : ∀ lines : List Cs, (∀ l ∈ lines, Calm l ∧ l.length ≤ 400) → Lns (lines.length + m) (TL.joinL [10] lines ++ suf)
  | [], _ => by
    show Lns (0 + m) suf
    rw [Nat.zero_add]
    exact hs2
  | [l], h => by
    obtain ⟨cl, ll⟩ := h l List.mem_cons_self
    show Lns (1 + m) (l ++ suf)
    refine ⟨?_, ?_, ?_, fun c hc => (List.mem_append.mp hc).elim (fun z => (cl c z).1) (hs2.asc c)⟩
    · rw [run_line l suf 0 (fun c hc => (cl c hc).2) (by omega), Nat.zero_add]
      exact hs3 _ ll
    · rw [cnt_app, cnt_free fun c hc => (cl c hc).2]
      have := hs2.cnt
      omega
    · rw [List.length_append]
      have := hs2.len
      rw [Nat.add_mul]
      omega
  | l :: l2 :: r, h => by
    obtain ⟨cl, ll⟩ := h l List.mem_cons_self
    have ih := Lns.join hs2 hs3 (l2 :: r) fun x hx => h x (List.mem_cons_of_mem _ hx)
    have e : TL.joinL [10] (l :: l2 :: r) ++ suf = l ++ 10 :: (TL.joinL [10] (l2 :: r) ++ suf) := by
      show l ++ ([10] ++ TL.joinL [10] (l2 :: r)) ++ suf = _
      rw [List.append_assoc, List.append_assoc]
      rfl
    rw [e]
    refine ⟨?_, ?_, ?_, fun c hc => ?_⟩
    · rw [run_line l _ 0 (fun c hc => (cl c hc).2) (by omega), run_nl]
      exact ih.run
    · rw [cnt_app, cnt_free fun c hc => (cl c hc).2, cnt_cons, if_pos rfl]
      have := ih.cnt
      rw [List.length_cons]
      omega
    · rw [List.length_append, List.length_cons]
      have := ih.len
      rw [List.length_cons, show (l2 :: r).length + 1 + m = (l2 :: r).length + m + 1 by omega, Nat.add_mul]
      omega
    · rcases List.mem_append.mp hc with z | z
      · exact (cl c z).1
      · rcases List.mem_cons.mp z with rfl | z
        · decide
        · exact ih.asc c z
theorem fold_lt : ∀ (w : Cs) (a b : Nat), (∀ c ∈ w, 48 ≤ c ∧ c ≤ 57) → a < 10 ^ b → w.foldl (fun acc c => acc * 10 + (c - 48)) a < 10 ^ (b + w.length)
  | [], a, b, _, h => h
  | c :: w, a, b, hd, h => by
    have hc := hd c List.mem_cons_self
    have := fold_lt w (a * 10 + (c - 48)) (b + 1) (fun x hx => hd x (List.mem_cons_of_mem _ hx)) (by rw [Nat.pow_succ]; omega)
    rw [List.length_cons, show b + (w.length + 1) = b + 1 + w.length by omega]
    exact this
theorem pow_400 : 10 ^ 400 < 2 ^ 1920 := by decide +kernel
theorem val_small {w : Cs} (h : isNum w = true) (hl : w.length ≤ 400) : (valN w).natAbs < 2 ^ 1920 := by
  have := fold_lt w 0 0 (isNum_dig h) (by decide)
  rw [Nat.zero_add] at this
  show (((NumText.digitsVal w : Nat) : Int)).natAbs < _
  rw [Int.natAbs_natCast]
  exact Nat.lt_of_lt_of_le this (Nat.le_of_lt (Nat.lt_of_le_of_lt (Nat.pow_le_pow_right (by decide) hl) pow_400))
theorem num_small {w : Cs} {n : Int} (h : numW w = some n) (hl : w.length ≤ 400) : n.natAbs < 2 ^ 1920 := by
  unfold numW at h
  cases q : isNum w with
  | false => rw [q] at h; cases h
  | true => rw [q] at h; cases h; exact val_small q hl
end PT
namespace KP
open PySem PySem.Spec PyProof.Rows L2 KX KT KJ KS FR PT SX
theorem lns_row {m : Nat} {t : Cs} (h : Lns m t) : ∀ r ∈ rowsT t, r.length ≤ 401 ∧ ∀ w ∈ r, w.length ≤ 400 ∧ ∀ c ∈ w, c < 128 := fun r hr => by
  obtain ⟨p, hp, rfl⟩ := List.mem_map.mp hr
  have lp := (run_pieces t 0 h.run (by omega)).2 p hp
  obtain ⟨_, ap⟩ := splitC_part 10 t p hp
  refine ⟨?_, fun w hw => ?_⟩
  · have h1 := List.length_filter_le (fun w : Cs => !decide (w = [])) (splitC 32 p)
    have h2 := splitC_len 32 p
    show ((splitC 32 p).filter _).length ≤ 401
    omega
  · have hm := (List.mem_filter.mp hw).1
    obtain ⟨lw, aw⟩ := splitC_part 32 p w hm
    exact ⟨by omega, fun c hc => h.asc c (ap c (aw c hc))⟩
theorem lns_len {m : Nat} {t : Cs} (h : Lns m t) : (rowsT t).length ≤ m + 1 := by
  unfold rowsT
  rw [List.length_map, split_cnt]
  have := h.cnt
  omega
theorem lns_tame {m : Nat} {t : Cs} (h : Lns m t) (hm : m ≤ 60) : TameT t := by
  have hl := h.len
  have := Nat.mul_le_mul_right 401 hm
  refine ⟨by omega, ⟨by have := lns_len h; omega, fun r hr => by have := (lns_row h r hr).1; omega, fun r hr w hw => ?_⟩⟩
  obtain ⟨a, b⟩ := (lns_row h r hr).2 w hw
  exact ⟨by omega, b⟩
theorem Sw.le {L L' n n' : Nat} {d : PyData} (h : Sw L n d) (hL : L ≤ L') (hn : n ≤ n') : Sw L' n' d := ⟨h.ok, Nat.le_trans h.len hL, Nat.le_trans h.dep hn, h.nod⟩
theorem sw_none : Sw 1921 1 .none := ⟨by simp [PyData.showable], (by simp only [PyData.shown]; try decide +kernel), by simp [PyData.depth], by simp [PyData.hasDict]⟩
theorem sw_x : Sw 1921 1 (.str "x") := ⟨(by simp only [PyData.showable]), (by simp only [PyData.shown]; decide +kernel), by simp [PyData.depth], by simp [PyData.hasDict]⟩
theorem sw_word {s : Str} (h1 : (PyData.str s).showable = true) (h2 : (PyData.str s).shown.length ≤ 1921) : Sw 1921 1 (.str s) := ⟨h1, h2, by simp [PyData.depth], by simp [PyData.hasDict]⟩
theorem sw_oD {w : Cs} (hl : w.length ≤ 400) : Sw 1921 1 (PT.oD (numW w)) := by
  cases q : numW w with
  | none => exact sw_none
  | some n => exact sw_int (num_small q hl)
theorem cut_lens {w : Cs} (hl : w.length ≤ 400) : (cut1 47 w).1.length ≤ 400 ∧ ∀ t, (cut1 47 w).2 = some t → t.length ≤ 400 := by
  obtain ⟨a, b⟩ := cut1_len 47 w
  exact ⟨by omega, fun t ht => by have := b t ht; omega⟩
theorem sw_share {w : Cs} {d : PyData} (h : shareW w = some d) (hl : w.length ≤ 400) : Sw 3849 2 d := by
  have two : ∀ {a b : PyData}, Sw 1921 1 a → Sw 1921 1 b → Sw 3849 2 (.tuple [a, b]) := fun ha hb => sw_tup (k := 2) (L := 1921) (n := 1) (fun d hd => by
    simp only [List.mem_cons, List.not_mem_nil, or_false] at hd
    rcases hd with rfl | rfl
    · exact ha
    · exact hb) (by simp)
  unfold shareW at h
  split at h
  · cases q : numW (w.drop 1) with
    | none => rw [q] at h; cases h
    | some n =>
      rw [q] at h
      cases h
      exact two sw_x (sw_int (num_small q (by rw [List.length_drop]; omega)))
  · obtain ⟨l1, l2⟩ := cut_lens hl
    unfold fracW at h
    split at h
    · rename_i a b qa qb
      cases h
      refine two (sw_int ?_) (sw_int ?_)
      · unfold signW at qa
        split at qa
        · cases q : numW ((cut1 47 w).1.drop 1) with
          | none => rw [q] at qa; cases qa
          | some n =>
            rw [q] at qa
            have := num_small q (by rw [List.length_drop]; omega)
            dsimp only at qa
            split at qa
            · cases qa
            · cases qa
              rw [Int.natAbs_neg]
              exact this
        · exact num_small qa l1
      · cases q : (cut1 47 w).2 with
        | none =>
          rw [q] at qb
          cases qb
          exact Nat.lt_of_lt_of_le (by decide : (1 : Int).natAbs < 2 ^ 1) (Nat.pow_le_pow_right (by decide) (by decide))
        | some t =>
          rw [q] at qb
          exact num_small qb (l2 t q)
    · cases h
theorem sw_pipe {r : List Cs} {d : PyData} (h : pipeW r = some d) (hl : ∀ w ∈ r, w.length ≤ 400) : Sw 11556 3 d := by
  unfold pipeW at h
  split at h
  · rename_i p a b c
    unfold pipeAt at h
    split at h
    · rename_i s d' qa qc
      split at h
      · cases h
      · cases h
        refine sw_tup (k := 3) (L := 3849) (n := 2) (fun d hd => ?_) (by simp)
        simp only [List.mem_cons, List.not_mem_nil, or_false] at hd
        rcases hd with rfl | rfl | rfl
        · exact (sw_int (num_small qa (hl a (by simp)))).le (by decide) (by decide)
        · exact (sw_oD (hl b (by simp))).le (by decide) (by decide)
        · exact sw_share qc (hl c (by simp))
    · cases h
  · cases h
theorem sw_pipes : ∀ {rows : List (List Cs)} {ps : List PyData}, pipesFrom rows = .inr ps → (∀ r ∈ rows, ∀ w ∈ r, w.length ≤ 400) → ps.length ≤ rows.length ∧ ∀ p ∈ ps, Sw 11556 3 p
  | [], ps, h, _ => by cases h; exact ⟨Nat.le_refl _, fun p hp => by cases hp⟩
  | r :: rs, ps, h, hl => by
    unfold pipesFrom at h
    by_cases c : r.take 1 = [cPipe]
    · rw [if_pos c] at h
      cases q : pipeW r with
      | none => rw [q] at h; cases h
      | some d =>
        rw [q] at h
        dsimp only at h
        cases q2 : pipesFrom rs with
        | inl k => rw [q2] at h; cases h
        | inr qs =>
          rw [q2] at h
          cases h
          obtain ⟨a, b⟩ := sw_pipes q2 fun r' hr => hl r' (List.mem_cons_of_mem _ hr)
          refine ⟨Nat.succ_le_succ a, fun p hp => ?_⟩
          rcases List.mem_cons.mp hp with rfl | hp
          · exact sw_pipe q (hl r List.mem_cons_self)
          · exact b p hp
    · rw [if_neg c] at h
      cases h
      exact ⟨Nat.zero_le _, fun p hp => by cases hp⟩
theorem sw_nums {rows : List (List Cs)} {i : Nat} {nm : Cs} {f : List Int} (h : numsAt rows i nm = some f) (hr : ∀ r ∈ rows, r.length ≤ 401 ∧ ∀ w ∈ r, w.length ≤ 400) : f.length ≤ 401 ∧ ∀ n ∈ f, n.natAbs < 2 ^ 1920 := by
  unfold numsAt at h
  split at h
  · cases h
  · rename_i r q
    obtain ⟨a, b⟩ := hr r (List.mem_of_getElem? q)
    split at h
    · unfold numsW at h
      split at h
      · rename_i c
        cases h
        refine ⟨by rw [List.length_map, List.length_drop]; omega, fun n hn => ?_⟩
        obtain ⟨w, hw, rfl⟩ := List.mem_map.mp hn
        exact val_small (List.all_eq_true.mp c w hw) (b w (List.mem_of_mem_drop hw))
      · cases h
    · cases h
theorem sw_count {rows : List (List Cs)} {i : Nat} {nm : Cs} {n : Int} (h : countAt rows i nm = some n) (hr : ∀ r ∈ rows, r.length ≤ 401 ∧ ∀ w ∈ r, w.length ≤ 400) : n.natAbs < 2 ^ 1920 := by
  cases q : numsAt rows i nm with
  | none => unfold countAt at h; rw [q] at h; cases h
  | some f =>
    rw [count_some q] at h
    match f, q, h with
    | [m], q, h =>
      cases h
      exact (sw_nums q hr).2 _ List.mem_cons_self
/-- what a text of moderate size tells can be shown -/
theorem sw_form {rows : List (List Cs)} {m u : PyData} {ps : List PyData} {f s : PyData} (h : progR rows = .form m u ps f s) (hn : rows.length ≤ 61) (hr : ∀ r ∈ rows, r.length ≤ 401 ∧ ∀ w ∈ r, w.length ≤ 400) : Sw 4000000 5 (netD m u ps f s) := by
  unfold progR at h
  cases q1 : countAt rows 0 cTanks with
  | none => rw [q1] at h; cases h
  | some mm =>
    rw [q1] at h
    dsimp only at h
    cases q2 : countAt rows 1 cUnk with
    | none => rw [q2] at h; cases h
    | some uu =>
      rw [q2] at h
      dsimp only at h
      cases q3 : pipesFrom (rows.drop 2) with
      | inl k => rw [q3] at h; cases h
      | inr ps' =>
        rw [q3] at h
        dsimp only at h
        unfold tailR at h
        cases q4 : numsAt rows (2 + ps'.length) cFilled with
        | none => rw [q4] at h; cases h
        | some ff =>
          rw [q4] at h
          dsimp only at h
          cases q5 : numsAt rows (2 + ps'.length + 1) cSeen with
          | none => rw [q5] at h; cases h
          | some ss =>
            rw [q5] at h
            dsimp only at h
            split at h
            · cases h
            · cases h
              obtain ⟨lp, sp⟩ := sw_pipes q3 fun r hr' w hw => (hr r (List.mem_of_mem_drop hr')).2 w hw
              rw [List.length_drop] at lp
              obtain ⟨lf, sf⟩ := sw_nums q4 hr
              obtain ⟨ls, ss'⟩ := sw_nums q5 hr
              have nums : ∀ {g : List Int}, g.length ≤ 401 → (∀ n ∈ g, n.natAbs < 2 ^ 1920) → Sw 771126 2 (.tuple (g.map .int)) := fun {g} hg hs => sw_tup (k := 401) (L := 1921) (n := 1) (fun d hd => by
                obtain ⟨n, hn, rfl⟩ := List.mem_map.mp hd
                exact sw_int (hs n hn)) (by rw [List.length_map]; exact hg)
              have z := sw_tup (k := 5) (L := 771126) (n := 4) (ds := [.int mm, .int uu, .tuple ps, .tuple (ff.map .int), .tuple (ss.map .int)]) (fun d hd => by
                simp only [List.mem_cons, List.not_mem_nil, or_false] at hd
                rcases hd with rfl | rfl | rfl | rfl | rfl
                · exact (sw_int (sw_count q1 hr)).le (by decide) (by decide)
                · exact (sw_int (sw_count q2 hr)).le (by decide) (by decide)
                · exact (sw_tup (k := 61) (L := 11556) (n := 3) sp (by omega)).le (by decide) (by decide)
                · exact (nums lf sf).le (by decide) (by decide)
                · exact (nums ls ss').le (by decide) (by decide)) (by simp)
              exact z.le (by decide) (by decide)
end KP

set_option Elab.async false
set_option linter.all false
set_option maxRecDepth 100000
set_option maxHeartbeats 4000000
/-! ### the law's check of one jar: its parts -/
namespace KP
open PySem PySem.Spec PyProof.Rows L2 KX KT KJ KS FR PT SX
theorem rws_hid {j : Addr} {H : Hp} {n : Nat} (hj : JarAt H j n) : ∀ {vs : List V} {rs : List (List Cs)}, Rws H vs rs → Rws (hid j H) vs rs
  | _, _, .nil => .nil
  | _, _, .cons a b => by
    refine .cons ?_ (rws_hid hj b)
    obtain ⟨c, rfl, e⟩ := a
    refine ⟨c, rfl, ?_⟩
    rw [hid_ne]
    · exact e
    · intro z
      obtain ⟨x, y, w, ej, _⟩ := hj
      rw [z, ej] at e
      rename_i ws _ _
      cases ws with
      | nil => cases e
      | cons a as => cases e
theorem wk_num (n : Nat) (h : n ≤ 999) : Wk (zL ((n : Nat) : Int)) := ⟨calm_z _, by have := zL_len (i := ((n : Nat) : Int)) (by omega); omega⟩
theorem wk_share {u : Nat} {s : Nat ⊕ Fr} (g : GoodS u s) (hu : u ≤ 4) : Wk (shW s) := by
  cases s with
  | inl j =>
    have hj : j < u := g
    have := zL_len (i := ((j : Nat) : Int)) (by omega)
    exact ⟨Calm.cons (by decide) (calm_z _), by show (zL _).length + 1 ≤ 8; omega⟩
  | inr x =>
    have t : Told x := g
    have h1 := zL_len t.n
    have d1 := t.d
    have p1 := t.pos
    have h2 := zL_len (i := x.2) (by omega)
    refine ⟨?_, ?_⟩
    · show Calm (pwF x)
      unfold pwF
      split
      · exact calm_z _
      · exact (calm_z _).append (Calm.cons (by decide) (calm_z _))
    · show (pwF x).length ≤ 8
      unfold pwF
      split
      · omega
      · rw [List.length_append, List.length_cons]
        have h3 : (zL x.2).length ≤ 3 := by
          unfold zL
          rw [if_neg (by omega)]
          exact TL.numL_len (by decide) (by omega)
        omega
theorem wk_lit {s : Str} {w : Cs} (e : s = S w) (h : okS s = true) : Wk w := by
  have := okS_wk h
  rw [e] at this
  exact this
theorem rows_wk {n : NetM} (g : GoodN n) : RowsWk 5 (rowsN n) ∧ (rowsN n).length ≤ 16 ∧ rowsN n ≠ [] := by
  have m4 := g.m4
  have u4 := g.u4
  have l12 := g.len
  have wT : Wk cTanks := wk_lit tanks_eq (by decide +kernel)
  have wU : Wk cUnk := wk_lit unk_eq (by decide +kernel)
  have wF : Wk cFilled := wk_lit filled_eq (by decide +kernel)
  have wS : Wk cSeen := wk_lit seen_eq (by decide +kernel)
  have wP : Wk cPipe := wk_lit pipe_eq (by decide +kernel)
  have wO : Wk cOut := wk_lit (s := "out") (by decide +kernel) (by decide +kernel)
  have tr : ∀ {nm : Cs} {ns : List Nat}, Wk nm → GoodT n.m ns → (trow nm ns).length ≤ 5 ∧ ∀ w ∈ trow nm ns, Wk w := fun {nm ns} hw gt => by
    refine ⟨?_, fun w h => ?_⟩
    · show (ns.map _).length + 1 ≤ 5
      rw [List.length_map]
      have := gt.len
      omega
    · rcases List.mem_cons.mp h with rfl | h
      · exact hw
      · obtain ⟨k, hk, rfl⟩ := List.mem_map.mp h
        have := gt.lt k hk
        exact wk_num k (by omega)
  refine ⟨fun r hr => ?_, ?_, fun z => ?_⟩
  · unfold rowsN at hr
    simp only [List.mem_append, List.mem_cons, List.not_mem_nil, or_false, List.mem_map] at hr
    rcases hr with (((rfl | rfl) | ⟨p, hp, rfl⟩) | rfl) | rfl
    · exact ⟨by simp, fun w h => by
        simp only [List.mem_cons, List.not_mem_nil, or_false] at h
        rcases h with rfl | rfl
        · exact wT
        · exact wk_num _ (by omega)⟩
    · exact ⟨by simp, fun w h => by
        simp only [List.mem_cons, List.not_mem_nil, or_false] at h
        rcases h with rfl | rfl
        · exact wU
        · exact wk_num _ (by omega)⟩
    · have gp := g.ps p hp
      refine ⟨by simp [prow], fun w h => ?_⟩
      unfold prow at h
      simp only [List.mem_cons, List.not_mem_nil, or_false] at h
      rcases h with rfl | rfl | rfl | rfl
      · exact wP
      · have := gp.s
        exact wk_num _ (by omega)
      · cases q : p.e with
        | none => exact wO
        | some k =>
          have := gp.e k q
          exact wk_num k (by omega)
      · exact wk_share gp.sh u4
    · exact tr wF g.fs
    · exact tr wS g.ss
  · unfold rowsN
    simp only [List.length_append, List.length_map, List.length_cons, List.length_nil]
    omega
  · unfold rowsN at z
    simp at z
/-- rows to be written, apart from the jar -/
def EachR (j : Addr) (H : Hp) (v : V) : Prop := ∃ b vr rows, v = .ref b ∧ b ≠ j ∧ H b = some (.lst vr) ∧ Rws (hid j H) vr rows ∧ rows.length ≤ 20 ∧ RowsWk 10 rows
theorem hid_bt {j : Addr} {H H' : Hp} (b : Bt j H H') : Sm (hid j H) (hid j H') := fun c u e n => by
  obtain ⟨nc, e2⟩ := hidAt e
  rw [hid_ne nc]
  exact b c u nc e2 n
theorem EachR.bt {j : Addr} {H H' : Hp} {v : V} (h : EachR j H v) (b : Bt j H H') : EachR j H' v := by
  obtain ⟨c, vr, rows, rfl, nc, e, hR, l, w⟩ := h
  exact ⟨c, vr, rows, rfl, nc, b _ _ nc e (fun _ z => by cases z), hR.sm (hid_bt b), l, w⟩
theorem Bt.refl (j : Addr) (H : Hp) : Bt j H H := fun _ _ _ e _ => e
theorem Bt.trans {j : Addr} {H H1 H2 : Hp} (a : Bt j H H1) (b : Bt j H1 H2) : Bt j H H2 := fun c u n e t => b c u n (a c u n e t) t
theorem Bt.same {j : Addr} {H H1 H2 : Hp} (a : Bt j H H1) (b : Same H1 H2) : Bt j H H2 := a.sm (Sm.same b)
theorem Bt.put {j : Addr} {H H1 : Hp} {p : Addr} {o : HO} (a : Bt j H H1) (hp : H p = none) : Bt j H (upd H1 p o) := fun c u n e t => by
  rw [upd_ne (fun z => by rw [z, hp] at e; cases e)]
  exact a c u n e t
theorem form_lens {rows : List (List Cs)} {m u : PyData} {ps : List PyData} {f s : PyData} (h : progR rows = .form m u ps f s) (hr : ∀ r ∈ rows, r.length ≤ 401 ∧ ∀ w ∈ r, w.length ≤ 400) : lenT f ≤ 2000 ∧ lenT s ≤ 2000 := by
  unfold progR at h
  cases q1 : countAt rows 0 cTanks with
  | none => rw [q1] at h; cases h
  | some mm =>
    rw [q1] at h
    dsimp only at h
    cases q2 : countAt rows 1 cUnk with
    | none => rw [q2] at h; cases h
    | some uu =>
      rw [q2] at h
      dsimp only at h
      cases q3 : pipesFrom (rows.drop 2) with
      | inl k => rw [q3] at h; cases h
      | inr ps' =>
        rw [q3] at h
        dsimp only at h
        unfold tailR at h
        cases q4 : numsAt rows (2 + ps'.length) cFilled with
        | none => rw [q4] at h; cases h
        | some ff =>
          rw [q4] at h
          dsimp only at h
          cases q5 : numsAt rows (2 + ps'.length + 1) cSeen with
          | none => rw [q5] at h; cases h
          | some ss =>
            rw [q5] at h
            dsimp only at h
            split at h
            · cases h
            · cases h
              have a := (sw_nums q4 hr).1
              have b := (sw_nums q5 hr).1
              refine ⟨?_, ?_⟩
              · show (ff.map PyData.int).length ≤ 2000
                rw [List.length_map]; omega
              · show (ss.map PyData.int).length ≤ 2000
                rw [List.length_map]; omega
theorem shw_named {K : PySem.W.Frag} {H : Hp} {l : Addr} {v : V} {nm : Str} {d : PyData} (hs : Sw 1921 1 (.str nm)) (hd : Sw 4000000 5 d) (e : H l = some (.lst [.str nm, v])) (th : Th H v d) : Shw K H (.ref l) (.list [.str nm, d]) := by
  have z := sw_lst (k := 2) (L := 4000000) (n := 5) (ds := [.str nm, d]) (fun x hx => by
    simp only [List.mem_cons, List.not_mem_nil, or_false] at hx
    rcases hx with rfl | rfl
    · exact hs.le (by decide) (by decide)
    · exact hd) (by simp)
  exact ⟨z.ok, Nat.le_trans z.len (by decide), Nat.le_trans z.dep (by decide), .inl ⟨z.nod, .lst (SqL.of e) (.cons (.str _) (.cons (th.dp hd.nod) .nil))⟩⟩
theorem _root_.PT.Lns.mono {m m' : Nat} {t : Cs} (h : Lns m t) (l : m ≤ m') : Lns m' t := ⟨h.run, Nat.le_trans h.cnt l, Nat.le_trans h.len (by have := Nat.mul_le_mul_right 401 l; omega), h.asc⟩
theorem cut_takeN (w : Cs) (n : Nat) : cutS (S w) none (some (n : Int)) = S (w.take n) := by
  unfold cutS
  rw [HT.sIx_none, HT.sIx_nat, S_len]
  show S (((w.drop 0).take (min n w.length - 0))) = S (w.take n)
  rw [List.drop_zero, Nat.sub_zero]
  by_cases h : n ≤ w.length
  · rw [show min n w.length = n by omega]
  · rw [show min n w.length = w.length by omega, List.take_of_length_le (Nat.le_refl _), List.take_of_length_le (by omega)]
theorem ToldAt.sm {H H' : Hp} {l : Addr} {r : PT.Rd} (h : ToldAt H l r) (s : Sm H H') : ToldAt H' l r := by
  cases r with
  | row i => exact lst_sm s h
  | form m u ps f s' =>
    obtain ⟨v, e, th⟩ := h
    exact ⟨v, lst_sm s e, th.mono s⟩
section
variable {K : PySem.W.Frag} {σ : L2.St} {H : Hp}
theorem one_any {E : XK} {t : TA} {ss : List Str} {j : Addr} {n : Nat} {Q : VK} (ht : LitS t ss) (h0 : σ[0]? = some (some (.ref j))) (hne : ss ≠ []) (hl : ss.length ≤ 1000) (hj : JarAt H j n) (hn : n < 1000000)
    (k : ∀ s H', s ∈ ss → KJ.But j H H' → JarAt H' j (n + 1) → Q (.str s) H') : tCall (spOne K) [] E (tCons (tVar 0) (tCons (tLst t) tNil)) σ H Q := by
  refine ⟨_, h0, ht σ H _ ⟨?_, fun p hp => ?_⟩⟩
  · rw [List.length_map]
    exact Nat.le_trans hl (by decide)
  have sp := same_upd (o := .lst (ss.map V.str)) hp
  refine ⟨j, p, ss.map V.str, n, rfl, jar_new hj hp, .inl upd_same, fun z => hne (List.map_eq_nil_iff.mp z), by rw [List.length_map]; exact Nat.lt_of_le_of_lt hl (by decide), jar_same hj sp, hn, fun x H' hx b jr => ?_⟩
  obtain ⟨s, hs, rfl⟩ := List.mem_map.mp hx
  exact k s H' hs ((KJ.But.same sp).trans b) jr
end
theorem rws_ref {H : Hp} {v : V} {vs : List V} {rs : List (List Cs)} (h : Rws H (v :: vs) rs) : ∃ c, v = .ref c := by
  cases h with
  | cons a b =>
    obtain ⟨c, rfl, _⟩ := a
    exact ⟨c, rfl⟩
theorem lst_words {a : Addr} {us : List V} {r : List Cs} (h : HO.lst (.ref a :: us) = HO.lst (sL r)) : False := by
  cases r with
  | nil => cases h
  | cons x xs => cases h
theorem rws_put {j ps a : Addr} {us : List V} {o : HO} {H : Hp} (e : H ps = some (.lst (.ref a :: us))) : ∀ {vs : List V} {rs : List (List Cs)}, Rws (hid j H) vs rs → Rws (hid j (upd H ps o)) vs rs
  | _, _, .nil => .nil
  | _, _, .cons h b => by
    refine .cons ?_ (rws_put e b)
    obtain ⟨c, rfl, ec⟩ := h
    obtain ⟨nc, ec'⟩ := hidAt ec
    refine ⟨c, rfl, ?_⟩
    rw [hid_ne nc, upd_ne]
    · exact ec'
    · intro z
      rw [z, e] at ec'
      exact lst_words (Option.some.inj ec')
theorem Bt.put2 {j ps : Addr} {H H5 H8 : Hp} {o : HO} (a : Bt j H H5) (f : H5 ps = none) (b : Bt j H H8) : Bt j H (upd H8 ps o) := fun c u n e t => by
  rw [upd_ne (fun z => by have := a c u n e t; rw [z, f] at this; cases this)]
  exact b c u n e t
theorem cons_call {sp : Sp} {E : XK} {t : TA} {QA : List V → Hp → Prop} {σ : L2.St} {H : Hp} {vs : List V} (h : Ai t σ H vs) (k : sp vs H (fun v H1 => QA [v] H1) E) : tCons (tCall sp [] E t) tNil σ H QA := h _ (by rw [List.append_nil]; exact k)
theorem cut_go {t u : TS} {D : Ends} {σ : L2.St} {H : Hp} (Mid : L2.St → Hp → Prop) (h : t { D with nx := Mid } σ H) (h2 : ∀ σ' H', Mid σ' H' → u D σ' H') : Evl.tCut t u D σ H := ⟨Mid, h, h2⟩
theorem pipes_len : ∀ rows : List (List Cs), (∀ k, pipesFrom rows = .inl k → k ≤ rows.length) ∧ ∀ ps, pipesFrom rows = .inr ps → ps.length ≤ rows.length
  | [] => ⟨(fun k h => by cases h), fun ps h => by cases h; exact Nat.le_refl _⟩
  | r :: rs => by
    obtain ⟨a, b⟩ := pipes_len rs
    unfold pipesFrom
    by_cases c : r.take 1 = [cPipe]
    · rw [if_pos c]
      cases pipeW r with
      | none => exact ⟨(fun k h => by cases h; exact Nat.zero_le _), fun ps h => by cases h⟩
      | some d =>
        dsimp only
        cases q : pipesFrom rs with
        | inl k' => exact ⟨(fun k h => by cases h; exact Nat.succ_le_succ (a k' q)), fun ps h => by cases h⟩
        | inr ps' => exact ⟨(fun k h => by cases h), fun ps h => by cases h; exact Nat.succ_le_succ (b ps' q)⟩
    · rw [if_neg c]
      exact ⟨(fun k h => by cases h), fun ps h => by cases h; exact Nat.zero_le _⟩
theorem row_bound {rows : List (List Cs)} {i : Nat} (h : progR rows = .row i) : i ≤ rows.length + 5 := by
  obtain ⟨a, b⟩ := pipes_len (rows.drop 2)
  unfold progR at h
  split at h
  · cases h; omega
  · split at h
    · cases h; omega
    · split at h
      · rename_i k q
        cases h
        have := a k q
        rw [List.length_drop] at this
        omega
      · rename_i ps q
        have := b ps q
        rw [List.length_drop] at this
        unfold tailR at h
        split at h
        · cases h; omega
        · split at h
          · cases h; omega
          · split at h
            · cases h; omega
            · cases h
/-- a suffix of a text -/
def sufs : List Str := ["", "", "", "\n", "\n \n"]
theorem suf_of {s : Str} (h : s ∈ sufs) : ∃ suf : Cs, s = S suf ∧ Lns 2 suf ∧ (∀ k, k ≤ 400 → PT.run k suf = true) ∧ suf.length ≤ 3 := by
  have e0 : ("" : Str) = S [] := by decide +kernel
  have e2 : ("\n \n" : Str) = S [10, 32, 10] := by decide +kernel
  unfold sufs at h
  simp only [List.mem_cons, List.not_mem_nil, or_false] at h
  have r0 : Lns 2 [] := ⟨rfl, by decide, by decide, fun c hc => by cases hc⟩
  rcases h with rfl | rfl | rfl | rfl | rfl
  · exact ⟨[], e0, r0, fun k _ => rfl, by decide⟩
  · exact ⟨[], e0, r0, fun k _ => rfl, by decide⟩
  · exact ⟨[], e0, r0, fun k _ => rfl, by decide⟩
  · exact ⟨[10], nl_eq, ⟨by decide, by decide, by decide, by decide⟩, fun k _ => rfl, by decide⟩
  · exact ⟨[10, 32, 10], e2, ⟨by decide, by decide, by decide, by decide⟩, fun k _ => by rw [run_nl]; decide, by decide⟩
theorem sw_row : Sw 1921 1 (.str "row") := ⟨(by simp only [PyData.showable]), (by simp only [PyData.shown]; decide +kernel), by simp [PyData.depth], by simp [PyData.hasDict]⟩
theorem sw_nf (b : Bool) : Sw 1921 1 (.str (if b = true then "net" else "form")) := by
  cases b with
  | true => exact ⟨(by simp only [PyData.showable]), (by simp only [PyData.shown]; decide +kernel), by simp [PyData.depth], by simp [PyData.hasDict]⟩
  | false => exact ⟨(by simp only [PyData.showable]), (by simp only [PyData.shown]; decide +kernel), by simp [PyData.depth], by simp [PyData.hasDict]⟩
end KP

set_option Elab.async false
set_option linter.all false
set_option maxRecDepth 100000
set_option maxHeartbeats 4000000
/-! ### what is written is read back -/
namespace PT
open PySem SX
theorem splitC_app (c : Nat) : ∀ (a b : Cs), splitC c (a ++ c :: b) = splitC c a ++ splitC c b
  | [], b => by
    rw [List.nil_append, splitC_hit rfl]
    rfl
  | x :: a, b => by
    have ih := splitC_app c a b
    by_cases e : x = c
    · rw [List.cons_append, splitC_hit e, splitC_hit e, ih]
      rfl
    · rw [List.cons_append, splitC_miss e, splitC_miss e, ih]
      cases q : splitC c a with
      | nil => exact absurd q (splitC_ne c a)
      | cons p ps => rfl
theorem splitC_join (c : Nat) : ∀ ls : List Cs, ls ≠ [] → (∀ l ∈ ls, c ∉ l) → splitC c (TL.joinL [c] ls) = ls
  | [], h, _ => absurd rfl h
  | [l], _, h => splitC_free c (h l List.mem_cons_self)
  | l :: l2 :: r, _, h => by
    have ih := splitC_join c (l2 :: r) (by simp) fun x hx => h x (List.mem_cons_of_mem _ hx)
    show splitC c (l ++ c :: TL.joinL [c] (l2 :: r)) = _
    rw [splitC_app, ih, splitC_free c (h l List.mem_cons_self)]
    rfl
theorem isNum_num (n : Nat) : isNum (TL.numL n) = true := by
  have hd := TL.numL_digits n
  have hn := TL.numL_ne n
  have hv := TL.numL_val n
  unfold isNum
  rw [Bool.and_eq_true, Bool.and_eq_true, Bool.or_eq_true]
  refine ⟨?_, List.all_eq_true.mpr fun c hc => ?_, ?_⟩
  · cases q : TL.numL n with
    | nil => exact absurd q hn
    | cons a b => rfl
  · have := hd c hc
    unfold dig
    rw [Bool.and_eq_true, decide_eq_true_iff, decide_eq_true_iff]
    exact this
  · by_cases h : n < 10
    · rw [TL.numL_lt h]
      by_cases z : n = 0
      · left
        rw [z]
        rfl
      · right
        simp
        omega
    · right
      -- the first sign of a number of two figures or more
      have key : ∀ m : Nat, 0 < m → (TL.numL m).head? ≠ some 48 := fun m => by
        induction m using Nat.strongRecOn with
        | _ m ih =>
          intro hm
          by_cases h : m < 10
          · rw [TL.numL_lt h]
            simp
            omega
          · rw [TL.numL_step (by omega)]
            have := ih (m / 10) (by omega) (by omega)
            cases q : TL.numL (m / 10) with
            | nil => exact absurd q (TL.numL_ne _)
            | cons a b =>
              rw [q] at this
              simpa using this
      have := key n (by omega)
      simpa using this
theorem numW_num (n : Nat) : numW (TL.numL n) = some (n : Int) := by
  unfold numW
  rw [if_pos (isNum_num n)]
  unfold valN
  rw [TL.numL_val]
theorem numW_z (n : Nat) : numW (zL (n : Int)) = some (n : Int) := by rw [zL_nat, numW_num]
theorem cut1_free (c : Nat) : ∀ {w : Cs}, c ∉ w → cut1 c w = (w, none)
  | [], _ => rfl
  | x :: r, h => by
    rw [cut1_cons (fun e => h (by rw [e]; exact List.mem_cons_self)), cut1_free c fun e => h (List.mem_cons_of_mem _ e)]
theorem cut1_app (c : Nat) : ∀ {a b : Cs}, c ∉ a → cut1 c (a ++ c :: b) = (a, some b)
  | [], b, _ => cut1_hit rfl
  | x :: a, b, h => by
    rw [List.cons_append, cut1_cons (fun e => h (by rw [e]; exact List.mem_cons_self)), cut1_app c fun e => h (List.mem_cons_of_mem _ e)]
theorem z_free {i : Int} {c : Nat} (h : c < 45 ∨ 57 < c ∨ c = 46 ∨ c = 47) : c ∉ zL i := by
  unfold zL
  split
  · intro m
    rcases List.mem_cons.mp m with rfl | m
    · omega
    · exact TL.numL_free (by omega) m
  · exact TL.numL_free (by omega)
theorem signW_z (i : Int) : signW (zL i) = some i := by
  unfold signW zL
  by_cases h : i < 0
  · rw [if_pos h, if_pos (show (45 :: TL.numL (-i).toNat).take 1 = [45] from rfl)]
    show (match numW (TL.numL (-i).toNat) with | some n => if n = 0 then none else some (-n) | none => none) = some i
    rw [numW_num]
    dsimp only
    rw [if_neg (by omega)]
    congr 1
    omega
  · rw [if_neg h, if_neg, numW_num]
    · congr 1
      omega
    · intro z
      have : 45 ∈ TL.numL i.toNat := by
        cases q : TL.numL i.toNat with
        | nil => rw [q] at z; cases z
        | cons a b =>
          rw [q] at z
          have : a = 45 := by simpa using z
          rw [this]
          exact List.mem_cons_self
      exact TL.numL_free (by omega) this
end PT
namespace KP
open PySem PySem.Spec PyProof.Rows L2 KX KT KJ KS FR PT SX
theorem fracW_pw {x : Fr} (h : 0 < x.2) : fracW (pwF x) = some (fD x) := by
  unfold pwF fracW
  by_cases e : x.2 = 1
  · rw [if_pos e, cut1_free 47 (z_free (by omega))]
    show (match signW (zL x.1), (some 1 : Option Int) with | some a, some b => some (PyData.tuple [.int a, .int b]) | _, _ => none) = _
    rw [signW_z]
    show some (PyData.tuple [.int x.1, .int 1]) = some (.tuple [.int x.1, .int x.2])
    rw [e]
  · rw [if_neg e, cut1_app 47 (z_free (by omega))]
    show (match signW (zL x.1), numW (zL x.2) with | some a, some b => some (PyData.tuple [.int a, .int b]) | _, _ => none) = _
    have hz : numW (zL x.2) = some x.2 := by
      have := numW_z x.2.toNat
      rwa [show ((x.2.toNat : Nat) : Int) = x.2 by omega] at this
    rw [signW_z, hz]
    rfl
theorem shareW_sh {u : Nat} {s : Nat ⊕ Fr} (g : GoodS u s) : shareW (shW s) = some (shD s) := by
  cases s with
  | inl j =>
    show shareW (120 :: zL (j : Nat)) = _
    unfold shareW
    rw [if_pos (show (120 :: zL (j : Nat)).take 1 = [120] from rfl)]
    show (numW (zL ((j : Nat) : Int))).map _ = _
    rw [numW_z]
    rfl
  | inr x =>
    have t : Told x := g
    show shareW (pwF x) = some (fD x)
    unfold shareW
    rw [if_neg, fracW_pw t.pos]
    intro z
    have m : 120 ∈ pwF x := by
      cases q : pwF x with
      | nil => rw [q] at z; cases z
      | cons a b =>
        rw [q] at z
        have : a = 120 := by simpa using z
        rw [this]
        exact List.mem_cons_self
    unfold pwF at m
    split at m
    · exact z_free (by omega) m
    · rcases List.mem_append.mp m with m | m
      · exact z_free (by omega) m
      · rcases List.mem_cons.mp m with m | m
        · omega
        · exact z_free (by omega) m
theorem pipeW_prow {m u : Nat} {p : Pp} (g : GoodP m u p) : pipeW (prow p) = some (ppD p) := by
  show pipeAt (zL (p.s : Nat)) (enW p.e) (shW p.sh) = _
  unfold pipeAt
  rw [numW_z, shareW_sh g.sh]
  dsimp only
  unfold ppD
  cases q : p.e with
  | none =>
    have : numW cOut = none := rfl
    show (if ((numW cOut).isNone && !decide (cOut = cOut)) = true then none else some (PyData.tuple [.int (p.s : Nat), PT.oD (numW cOut), shD p.sh])) = _
    rw [this]
    simp [PT.oD, enD]
  | some k =>
    show (if ((numW (zL (k : Nat))).isNone && _) = true then none else some (PyData.tuple [.int (p.s : Nat), PT.oD (numW (zL (k : Nat))), shD p.sh])) = _
    rw [numW_z]
    rfl
theorem numsW_z (ns : List Nat) : numsW (ns.map fun n => zL ((n : Nat) : Int)) = some (ns.map fun n => ((n : Nat) : Int)) := by
  unfold numsW
  have a : ∀ n : Nat, isNum (zL ((n : Nat) : Int)) = true := fun n => by rw [zL_nat]; exact isNum_num n
  have v : ∀ n : Nat, valN (zL ((n : Nat) : Int)) = (n : Int) := fun n => by
    rw [zL_nat]
    unfold valN
    rw [TL.numL_val]
  rw [if_pos (List.all_eq_true.mpr fun w hw => by
    obtain ⟨n, _, rfl⟩ := List.mem_map.mp hw
    exact a n), List.map_map]
  congr 1
  exact List.map_congr_left fun n _ => v n
theorem pipes_rows {m u : Nat} : ∀ (ps : List Pp) (rest : List (List Cs)), (∀ p ∈ ps, GoodP m u p) → (∀ r ∈ rest.head?, ¬ r.take 1 = [cPipe]) → pipesFrom (ps.map prow ++ rest) = .inr (ps.map ppD)
  | [], rest, _, h => by
    rw [List.map_nil, List.nil_append]
    cases rest with
    | nil => rfl
    | cons r rs =>
      unfold pipesFrom
      rw [if_neg (h r rfl)]
      rfl
  | p :: ps, rest, g, h => by
    have ih := pipes_rows ps rest (fun q hq => g q (List.mem_cons_of_mem _ hq)) h
    rw [List.map_cons, List.cons_append]
    unfold pipesFrom
    rw [if_pos (show (prow p).take 1 = [cPipe] from rfl), pipeW_prow (g p List.mem_cons_self), ih]
    rfl
/-- a net's rows are read as the net -/
theorem progR_rowsN {n : NetM} (g : GoodN n) : progR (rowsN n) = .form (.int (n.m : Nat)) (.int (n.u : Nat)) (n.ps.map ppD) (.tuple (natsD n.fs)) (.tuple (natsD n.ss)) := by
  have er : rowsN n = [cTanks, zL (n.m : Nat)] :: [cUnk, zL (n.u : Nat)] :: (n.ps.map prow ++ [trow cFilled n.fs, trow cSeen n.ss]) := by
    unfold rowsN
    simp
  have c0 : countAt (rowsN n) 0 cTanks = some (n.m : Int) := by
    rw [countAt_eq, er]
    show (if ([cTanks, zL (n.m : Nat)] : List Cs).take 1 = [cTanks] then (match numsW [zL (n.m : Nat)] with | some [n] => some n | _ => none) else none) = _
    rw [if_pos (show ([cTanks, zL (n.m : Nat)] : List Cs).take 1 = [cTanks] from rfl)]
    have := numsW_z [n.m]
    rw [show ([n.m].map fun n => zL ((n : Nat) : Int)) = [zL ((n.m : Nat) : Int)] from rfl] at this
    rw [this]
    rfl
  have c1 : countAt (rowsN n) 1 cUnk = some (n.u : Int) := by
    rw [countAt_eq, er]
    show (if ([cUnk, zL (n.u : Nat)] : List Cs).take 1 = [cUnk] then (match numsW [zL (n.u : Nat)] with | some [n] => some n | _ => none) else none) = _
    rw [if_pos (show ([cUnk, zL (n.u : Nat)] : List Cs).take 1 = [cUnk] from rfl)]
    have := numsW_z [n.u]
    rw [show ([n.u].map fun n => zL ((n : Nat) : Int)) = [zL ((n.u : Nat) : Int)] from rfl] at this
    rw [this]
    rfl
  have c2 : pipesFrom ((rowsN n).drop 2) = .inr (n.ps.map ppD) := by
    rw [er]
    exact pipes_rows n.ps _ g.ps fun r hr => by
      cases hr
      show ¬ [cFilled] = [cPipe]
      decide
  have lp : (n.ps.map ppD).length = n.ps.length := List.length_map _
  have at_ : ∀ k, (rowsN n)[2 + n.ps.length + k]? = ([trow cFilled n.fs, trow cSeen n.ss] : List (List Cs))[k]? := fun k => by
    rw [er, show 2 + n.ps.length + k = (n.ps.length + k) + 1 + 1 by omega, List.getElem?_cons_succ, List.getElem?_cons_succ, List.getElem?_append_right (by rw [List.length_map]; omega), List.length_map, Nat.add_sub_cancel_left]
  have c3 : numsAt (rowsN n) (2 + n.ps.length) cFilled = some (n.fs.map fun i => ((i : Nat) : Int)) := by
    rw [numsAt_eq, show (rowsN n)[2 + n.ps.length]? = some (trow cFilled n.fs) from (at_ 0)]
    show (if (trow cFilled n.fs).take 1 = [cFilled] then numsW (n.fs.map _) else none) = _
    rw [if_pos (show (trow cFilled n.fs).take 1 = [cFilled] from rfl), numsW_z]
  have c4 : numsAt (rowsN n) (2 + n.ps.length + 1) cSeen = some (n.ss.map fun i => ((i : Nat) : Int)) := by
    rw [numsAt_eq, show (rowsN n)[2 + n.ps.length + 1]? = some (trow cSeen n.ss) from (at_ 1)]
    show (if (trow cSeen n.ss).take 1 = [cSeen] then numsW (n.ss.map _) else none) = _
    rw [if_pos (show (trow cSeen n.ss).take 1 = [cSeen] from rfl), numsW_z]
  have ll : (rowsN n).length = 2 + n.ps.length + 2 := by
    rw [er]
    simp
    omega
  unfold progR
  rw [c0, c1, c2]
  dsimp only
  unfold tailR
  rw [lp, c3, c4]
  dsimp only
  rw [if_neg (by omega)]
  unfold natsD
  simp only [List.map_map]
  rfl
end KP

set_option Elab.async false
set_option linter.all false
set_option maxRecDepth 100000
set_option maxHeartbeats 4000000
/-! ### blanks between words; texts of rows -/
namespace KP
open PySem PySem.Spec PyProof.Rows L2 KX KT KJ KS FR PT SX
def Blank (b : Cs) : Prop := ∀ c ∈ b, c = 32
/-- a word: something, no blank within -/
structure Wd (w : Cs) : Prop where
  ne : w ≠ []
  free : 32 ∉ w
theorem wordsW_app (a b : Cs) : wordsW (a ++ 32 :: b) = wordsW a ++ wordsW b := by
  unfold wordsW
  rw [splitC_app, List.filter_append]
theorem wordsW_pre : ∀ {b x : Cs}, Blank b → wordsW (b ++ x) = wordsW x
  | [], _, _ => rfl
  | c :: b, x, h => by
    have hc := h c List.mem_cons_self
    subst hc
    have := wordsW_app [] (b ++ x)
    rw [List.nil_append] at this
    rw [List.cons_append, this, wordsW_pre fun c hc => h c (List.mem_cons_of_mem _ hc)]
    rfl
theorem wordsW_blank {b : Cs} (h : Blank b) : wordsW b = [] := by
  have := wordsW_pre (x := []) h
  rwa [List.append_nil] at this
theorem wordsW_post {b x : Cs} (h : Blank b) : wordsW (x ++ b) = wordsW x := by
  cases b with
  | nil => rw [List.append_nil]
  | cons c b =>
    have hc := h c List.mem_cons_self
    subst hc
    rw [wordsW_app, wordsW_blank fun c hc => h c (List.mem_cons_of_mem _ hc), List.append_nil]
theorem wordsW_mid {b x y : Cs} (h : Blank b) (hn : b ≠ []) : wordsW (x ++ b ++ y) = wordsW x ++ wordsW y := by
  cases b with
  | nil => exact absurd rfl hn
  | cons c b =>
    have hc := h c List.mem_cons_self
    subst hc
    rw [List.append_assoc, List.cons_append, wordsW_app, wordsW_pre fun c hc => h c (List.mem_cons_of_mem _ hc)]
theorem wordsW_word {w : Cs} (h : Wd w) : wordsW w = [w] := by
  unfold wordsW
  rw [splitC_free 32 h.free, List.filter_cons_of_pos (by simpa using h.ne)]
  rfl
theorem wordsW_join : ∀ ws : List Cs, (∀ w ∈ ws, Wd w) → wordsW (TL.joinL [32] ws) = ws
  | [], _ => rfl
  | [w], h => wordsW_word (h w List.mem_cons_self)
  | w :: w2 :: r, h => by
    have ih := wordsW_join (w2 :: r) fun x hx => h x (List.mem_cons_of_mem _ hx)
    show wordsW (w ++ 32 :: TL.joinL [32] (w2 :: r)) = _
    rw [wordsW_app, ih, wordsW_word (h w List.mem_cons_self)]
    rfl
theorem rowsT_join {ls : List Cs} (hn : ls ≠ []) (h : ∀ l ∈ ls, 10 ∉ l) : rowsT (TL.joinL [10] ls) = ls.map wordsW := by
  unfold rowsT
  rw [splitC_join 10 ls hn h]
theorem wd_z (n : Nat) : Wd (zL ((n : Nat) : Int)) := ⟨by rw [zL_nat]; exact TL.numL_ne n, z_free (by omega)⟩
theorem wd_share {u : Nat} {s : Nat ⊕ Fr} (g : GoodS u s) : Wd (shW s) := by
  cases s with
  | inl j =>
    refine ⟨by simp [shW], fun m => ?_⟩
    rcases List.mem_cons.mp m with m | m
    · omega
    · exact z_free (by omega) m
  | inr x =>
    have zne : ∀ i : Int, zL i ≠ [] := fun i => by
      unfold zL
      split
      · simp
      · exact TL.numL_ne _
    show Wd (pwF x)
    unfold pwF
    split
    · exact ⟨zne _, z_free (by omega)⟩
    · refine ⟨by simp, fun m => ?_⟩
      rcases List.mem_append.mp m with m | m
      · exact z_free (by omega) m
      · rcases List.mem_cons.mp m with m | m
        · omega
        · exact z_free (by omega) m
/-- all words of a net's rows are words -/
theorem rows_wd {n : NetM} (g : GoodN n) : ∀ r ∈ rowsN n, r ≠ [] ∧ ∀ w ∈ r, Wd w := fun r hr => by
  have lit : ∀ {w : Cs}, w = cTanks ∨ w = cUnk ∨ w = cFilled ∨ w = cSeen ∨ w = cPipe ∨ w = cOut → Wd w := fun h => by
    rcases h with rfl | rfl | rfl | rfl | rfl | rfl <;> exact ⟨by decide, by decide⟩
  have tr : ∀ {nm : Cs} {ns : List Nat}, Wd nm → ∀ w ∈ trow nm ns, Wd w := fun {nm ns} hw w h => by
    rcases List.mem_cons.mp h with rfl | h
    · exact hw
    · obtain ⟨k, _, rfl⟩ := List.mem_map.mp h
      exact wd_z k
  unfold rowsN at hr
  simp only [List.mem_append, List.mem_cons, List.not_mem_nil, or_false, List.mem_map] at hr
  rcases hr with (((rfl | rfl) | ⟨p, hp, rfl⟩) | rfl) | rfl
  · refine ⟨by simp, fun w h => ?_⟩
    simp only [List.mem_cons, List.not_mem_nil, or_false] at h
    rcases h with rfl | rfl
    · exact lit (.inl rfl)
    · exact wd_z _
  · refine ⟨by simp, fun w h => ?_⟩
    simp only [List.mem_cons, List.not_mem_nil, or_false] at h
    rcases h with rfl | rfl
    · exact lit (.inr (.inl rfl))
    · exact wd_z _
  · refine ⟨by simp [prow], fun w h => ?_⟩
    unfold prow at h
    simp only [List.mem_cons, List.not_mem_nil, or_false] at h
    rcases h with rfl | rfl | rfl | rfl
    · exact lit (.inr (.inr (.inr (.inr (.inl rfl)))))
    · exact wd_z _
    · cases q : p.e with
      | none => exact lit (.inr (.inr (.inr (.inr (.inr rfl)))))
      | some k => exact wd_z k
    · exact wd_share (g.ps p hp).sh
  · exact ⟨by simp [trow], tr (lit (.inr (.inr (.inl rfl))))⟩
  · exact ⟨by simp [trow], tr (lit (.inr (.inr (.inr (.inl rfl)))))⟩
/-- the text of a net -/
def textN (n : NetM) : Cs := TL.joinL [10] ((rowsN n).map (TL.joinL [32]))
theorem join_calm {ws : List Cs} (h : ∀ w ∈ ws, Calm w) : Calm (TL.joinL [32] ws) := by
  match ws, h with
  | [], _ => exact fun c hc => by cases hc
  | [w], h => exact h w List.mem_cons_self
  | w :: w2 :: r, h =>
    have ih := join_calm (ws := w2 :: r) fun x hx => h x (List.mem_cons_of_mem _ hx)
    show Calm (w ++ 32 :: TL.joinL [32] (w2 :: r))
    exact (h w List.mem_cons_self).append (Calm.cons (by decide) ih)
theorem rowsT_text {n : NetM} (g : GoodN n) : rowsT (textN n) = rowsN n := by
  obtain ⟨wk, _, ne⟩ := rows_wk g
  have wd := rows_wd g
  unfold textN
  rw [rowsT_join (fun z => ne (List.map_eq_nil_iff.mp z)) fun l hl => by
    obtain ⟨r, hr, rfl⟩ := List.mem_map.mp hl
    exact fun m => (join_calm (fun w hw => ((wk r hr).2 w hw).calm) 10 m).2 rfl]
  rw [List.map_map]
  have : (rowsN n).map (wordsW ∘ TL.joinL [32]) = (rowsN n).map id := List.map_congr_left fun r hr => wordsW_join r (wd r hr).2
  rw [this, List.map_id]
/-- unlike nets have unlike texts -/
theorem text_inj {n n' : NetM} (g : GoodN n) (g' : GoodN n') (h : textN n = textN n') : n.d = n'.d := by
  have e := rowsT_text g
  rw [h, rowsT_text g'] at e
  have p := progR_rowsN g
  rw [← e, progR_rowsN g'] at p
  injection p with h1 h2 h3 h4 h5
  unfold NetM.d
  rw [h1, h2, h3, h4, h5]
end KP

set_option Elab.async false
set_option linter.all false
set_option maxRecDepth 100000
set_option maxHeartbeats 4000000
/-! ### unlike data are shown unlike -/
namespace KP
open PySem PySem.Spec PyProof.Rows L2 KX KT KJ KS FR PT SX
mutual
def plain : PyData → Bool
  | .none => true
  | .int _ => true
  | .str s => decide (s = "x")
  | .tuple ds => plainAll ds
  | _ => false
def plainAll : List PyData → Bool
  | [] => true
  | d :: ds => plain d && plainAll ds
end
theorem plainAll_mem : ∀ {ds : List PyData}, plainAll ds = true → ∀ d ∈ ds, plain d = true
  | d :: ds, h, e, he => by
    simp only [plainAll, Bool.and_eq_true] at h
    rcases List.mem_cons.mp he with rfl | he
    · exact h.1
    · exact plainAll_mem h.2 e he
def shC (d : PyData) : Cs := d.shown.cps.toList
/-- what follows the first of several -/
def shT : List PyData → Cs
  | [] => [41]
  | d :: ds => 44 :: 32 :: (shC d ++ shT ds)
theorem shC_int (i : Int) : shC (.int i) = zL i := by
  show ((PyData.int i).shown).cps.toList = _
  simp only [PyData.shown]
  rw [show ((toString i : String) : Str) = S (zL i) from zL_S i]
theorem shC_none : shC .none = [78, 111, 110, 101] := by
  show (PyData.none.shown).cps.toList = _
  simp only [PyData.shown]
  decide +kernel
theorem shC_x : shC (.str "x") = [39, 120, 39] := by
  show ((PyData.str "x").shown).cps.toList = _
  simp only [PyData.shown]
  decide +kernel
theorem join_T : ∀ (d : PyData) (ds : List PyData), TL.joinL [44, 32] ((d :: ds).map shC) ++ [41] = shC d ++ shT ds
  | d, [] => rfl
  | d, e :: ds => by
    have ih := join_T e ds
    show shC d ++ ([44, 32] ++ TL.joinL [44, 32] ((e :: ds).map shC)) ++ [41] = shC d ++ (44 :: 32 :: (shC e ++ shT ds))
    rw [← ih, List.append_assoc, List.append_assoc]
    rfl
theorem shC_tup (ds : List PyData) : shC (.tuple ds) = 40 :: (match ds with
    | [] => [41]
    | [d] => shC d ++ [44, 41]
    | d :: e :: r => shC d ++ shT (e :: r)) := by
  have e0 : shC (.tuple ds) = [40] ++ TL.joinL [44, 32] (ds.map shC) ++ (if ds.length = 1 then [44, 41] else [41]) := by
    show ((PyData.tuple ds).shown).cps.toList = _
    simp only [PyData.shown]
    rw [shownAll_map]
    show TL.tl (tupleText (ds.map PyData.shown)) = _
    unfold tupleText
    rw [TL.tl_append, TL.tl_append, TL.tl_join, List.map_map, List.length_map]
    have h1 : TL.tl (("(" : String) : Str) = [40] := by decide +kernel
    have h2 : TL.tl ((", " : String) : Str) = [44, 32] := by decide +kernel
    rw [h1, h2]
    congr 1
    by_cases h : ds.length = 1
    · rw [if_pos h, h]
      decide +kernel
    · rw [if_neg h, if_neg (by simpa using h)]
      decide +kernel
  rw [e0]
  match ds with
  | [] => rfl
  | [d] => rfl
  | d :: e :: r =>
    rw [if_neg (by simp)]
    have := join_T d (e :: r)
    rw [List.append_assoc, this]
    rfl
/-- what follows a thing shown: nothing, a comma, a bracket -/
def Stp (r : Cs) : Prop := ∀ c, r.head? = some c → c = 44 ∨ c = 41
theorem stp_T (ds : List PyData) (r : Cs) : Stp (shT ds ++ r) := fun c h => by
  cases ds with
  | nil => cases h; exact .inr rfl
  | cons d ds => cases h; exact .inl rfl
def zs (c : Nat) : Bool := decide (c = 45) || dig c
theorem z_zs (i : Int) : ∀ c ∈ zL i, zs c = true := fun c hc => by
  have num : ∀ n, c ∈ TL.numL n → zs c = true := fun n h => by
    have := TL.numL_digits n c h
    unfold zs dig
    simp
    omega
  unfold zL at hc
  split at hc
  · rcases List.mem_cons.mp hc with rfl | hc
    · rfl
    · exact num _ hc
  · exact num _ hc
theorem take_zs {w r : Cs} (hw : ∀ c ∈ w, zs c = true) (hr : Stp r) : (w ++ r).takeWhile zs = w := by
  induction w with
  | nil =>
    cases r with
    | nil => rfl
    | cons c r =>
      rw [List.nil_append, List.takeWhile_cons]
      rcases hr c rfl with rfl | rfl <;> rfl
  | cons x w ih =>
    rw [List.cons_append, List.takeWhile_cons, hw x List.mem_cons_self, if_pos rfl, ih fun c hc => hw c (List.mem_cons_of_mem _ hc)]
theorem z_inj {i j : Int} (h : zL i = zL j) : i = j := by
  have := signW_z i
  rw [h, signW_z] at this
  exact (Option.some.inj this).symm
theorem z_head (i : Int) : ∃ c r, zL i = c :: r ∧ zs c = true := by
  cases q : zL i with
  | nil =>
    unfold zL at q
    split at q
    · cases q
    · exact absurd q (TL.numL_ne _)
  | cons c r => exact ⟨c, r, rfl, z_zs i c (by rw [q]; exact List.mem_cons_self)⟩
/-- the first sign tells the kind -/
theorem sh_head (d : PyData) (h : plain d = true) : ∃ c r, shC d = c :: r ∧ ((d = .none ∧ c = 78) ∨ (∃ i, d = .int i ∧ zs c = true) ∨ (d = .str "x" ∧ c = 39) ∨ (∃ ds, d = .tuple ds ∧ c = 40)) := by
  cases d with
  | none => exact ⟨78, _, shC_none, .inl ⟨rfl, rfl⟩⟩
  | int i =>
    obtain ⟨c, r, e, z⟩ := z_head i
    exact ⟨c, r, by rw [shC_int, e], .inr (.inl ⟨i, rfl, z⟩)⟩
  | str s =>
    have : s = "x" := by simpa [plain] using h
    subst this
    exact ⟨39, _, shC_x, .inr (.inr (.inl ⟨rfl, rfl⟩))⟩
  | tuple ds => exact ⟨40, _, shC_tup ds, .inr (.inr (.inr ⟨ds, rfl, rfl⟩))⟩
  | bool b => simp [plain] at h
  | list ds => simp [plain] at h
  | dict ds => simp [plain] at h
theorem zs_not {c : Nat} (h : zs c = true) : c ≠ 78 ∧ c ≠ 39 ∧ c ≠ 40 ∧ c ≠ 41 ∧ c ≠ 44 := by
  unfold zs dig at h
  simp at h
  omega
theorem sh_inj : ∀ (n : Nat) (d d' : PyData), d.depth < n → plain d = true → plain d' = true → ∀ r r', Stp r → Stp r' → shC d ++ r = shC d' ++ r' → d = d' ∧ r = r'
  | 0, d, d', hd, _, _, _, _, _, _, _ => by
    omega
  | n + 1, d, d', hd, hp, hp', r, r', hr, hr', h => by
    have ih := sh_inj n
    obtain ⟨c, t, e, k⟩ := sh_head d hp
    obtain ⟨c', t', e', k'⟩ := sh_head d' hp'
    have hc : c = c' := by
      rw [e, e'] at h
      exact (List.cons.inj h).1
    subst hc
    rcases k with ⟨rfl, rfl⟩ | ⟨i, rfl, z⟩ | ⟨rfl, rfl⟩ | ⟨ds, rfl, rfl⟩
    · rcases k' with ⟨rfl, _⟩ | ⟨i, rfl, z⟩ | ⟨_, z⟩ | ⟨_, _, z⟩
      · exact ⟨rfl, List.append_cancel_left h⟩
      · exact absurd rfl (zs_not z).1
      · cases z
      · cases z
    · rcases k' with ⟨_, z2⟩ | ⟨j, rfl, _⟩ | ⟨_, z2⟩ | ⟨_, _, z2⟩
      · exact absurd z2 (zs_not z).1
      · rw [shC_int, shC_int] at h
        have a := congrArg (List.takeWhile zs) h
        rw [take_zs (z_zs i) hr, take_zs (z_zs j) hr'] at a
        have := z_inj a
        subst this
        exact ⟨rfl, List.append_cancel_left h⟩
      · exact absurd z2 (zs_not z).2.1
      · exact absurd z2 (zs_not z).2.2.1
    · rcases k' with ⟨_, z⟩ | ⟨i, rfl, z⟩ | ⟨rfl, _⟩ | ⟨_, _, z⟩
      · cases z
      · exact absurd rfl (zs_not z).2.1
      · exact ⟨rfl, List.append_cancel_left h⟩
      · cases z
    · rcases k' with ⟨_, z⟩ | ⟨i, rfl, z⟩ | ⟨_, z⟩ | ⟨es, rfl, _⟩
      · cases z
      · exact absurd rfl (zs_not z).2.2.1
      · cases z
      · have hp : plainAll ds = true := by simpa [plain] using hp
        have hp' : plainAll es = true := by simpa [plain] using hp'
        have hdep : ∀ x ∈ ds, x.depth < n := fun x hx => by
          simp only [PyData.depth] at hd
          have : ∀ {l : List PyData}, x ∈ l → x.depth ≤ PyData.depthAll l := fun {l} => by
            induction l with
            | nil => exact fun z => by cases z
            | cons y l ih =>
              intro hx
              simp only [PyData.depthAll]
              rcases List.mem_cons.mp hx with rfl | hx
              · omega
              · have := ih hx
                omega
          have := this hx
          omega
        -- what follows the first
        have tails : ∀ (xs ys : List PyData), (∀ x ∈ xs, x ∈ ds) → (∀ y ∈ ys, y ∈ es) → ∀ q q', shT xs ++ q = shT ys ++ q' → xs = ys ∧ q = q' := fun xs => by
          induction xs with
          | nil =>
            intro ys _ _ q q' h
            cases ys with
            | nil => exact ⟨rfl, (List.cons.inj h).2⟩
            | cons y ys => exact absurd (List.cons.inj h).1 (by decide)
          | cons x xs ihx =>
            intro ys hx hy q q' h
            cases ys with
            | nil => exact absurd (List.cons.inj h).1 (by decide)
            | cons y ys =>
              have h2 := (List.cons.inj (List.cons.inj h).2).2
              change shC x ++ shT xs ++ q = shC y ++ shT ys ++ q' at h2
              rw [List.append_assoc, List.append_assoc] at h2
              obtain ⟨rfl, h3⟩ := ih x y (hdep x (hx x List.mem_cons_self)) (plainAll_mem hp x (hx x List.mem_cons_self)) (plainAll_mem hp' y (hy y List.mem_cons_self)) _ _ (stp_T xs q) (stp_T ys q') h2
              obtain ⟨rfl, h4⟩ := ihx ys (fun a ha => hx a (List.mem_cons_of_mem _ ha)) (fun a ha => hy a (List.mem_cons_of_mem _ ha)) q q' h3
              exact ⟨rfl, h4⟩
        have nb : ∀ (x : PyData) (q : Cs), plain x = true → ∀ q', shC x ++ q ≠ 41 :: q' := fun x q hx q' z => by
          obtain ⟨c, t, e, k⟩ := sh_head x hx
          rw [e] at z
          have hc := (List.cons.inj z).1
          rcases k with ⟨_, rfl⟩ | ⟨i, _, z2⟩ | ⟨_, rfl⟩ | ⟨_, _, rfl⟩
          · cases hc
          · exact (zs_not z2).2.2.2.1 hc
          · cases hc
          · cases hc
        have s44 : ∀ q, Stp (44 :: q) := fun q c hc => by cases hc; exact .inl rfl
        rw [shC_tup, shC_tup] at h
        have h := (List.cons.inj h).2
        match ds, es, h, hp, hp', hdep, tails with
        | [], [], h, _, _, _, _ => exact ⟨rfl, (List.cons.inj h).2⟩
        | [], [y], h, _, hp', _, _ =>
          change 41 :: r = shC y ++ [44, 41] ++ r' at h
          rw [List.append_assoc] at h
          exact absurd h.symm (nb y _ (plainAll_mem hp' y List.mem_cons_self) _)
        | [], y :: y2 :: ys, h, _, hp', _, _ =>
          change 41 :: r = shC y ++ shT (y2 :: ys) ++ r' at h
          rw [List.append_assoc] at h
          exact absurd h.symm (nb y _ (plainAll_mem hp' y List.mem_cons_self) _)
        | [x], [], h, hp, _, _, _ =>
          change shC x ++ [44, 41] ++ r = 41 :: r' at h
          rw [List.append_assoc] at h
          exact absurd h (nb x _ (plainAll_mem hp x List.mem_cons_self) _)
        | x :: x2 :: xs, [], h, hp, _, _, _ =>
          change shC x ++ shT (x2 :: xs) ++ r = 41 :: r' at h
          rw [List.append_assoc] at h
          exact absurd h (nb x _ (plainAll_mem hp x List.mem_cons_self) _)
        | [x], [y], h, hp, hp', hdep, _ =>
          change shC x ++ [44, 41] ++ r = shC y ++ [44, 41] ++ r' at h
          rw [List.append_assoc, List.append_assoc] at h
          obtain ⟨rfl, h3⟩ := ih x y (hdep x List.mem_cons_self) (plainAll_mem hp x List.mem_cons_self) (plainAll_mem hp' y List.mem_cons_self) _ _ (s44 _) (s44 _) h
          exact ⟨rfl, (List.cons.inj (List.cons.inj h3).2).2⟩
        | [x], y :: y2 :: ys, h, hp, hp', hdep, _ =>
          change shC x ++ [44, 41] ++ r = shC y ++ shT (y2 :: ys) ++ r' at h
          rw [List.append_assoc, List.append_assoc] at h
          obtain ⟨rfl, h3⟩ := ih x y (hdep x List.mem_cons_self) (plainAll_mem hp x List.mem_cons_self) (plainAll_mem hp' y List.mem_cons_self) _ _ (s44 _) (s44 _) h
          exact absurd (List.cons.inj (List.cons.inj h3).2).1 (by decide)
        | x :: x2 :: xs, [y], h, hp, hp', hdep, _ =>
          change shC x ++ shT (x2 :: xs) ++ r = shC y ++ [44, 41] ++ r' at h
          rw [List.append_assoc, List.append_assoc] at h
          obtain ⟨rfl, h3⟩ := ih x y (hdep x List.mem_cons_self) (plainAll_mem hp x List.mem_cons_self) (plainAll_mem hp' y List.mem_cons_self) _ _ (s44 _) (s44 _) h
          exact absurd (List.cons.inj (List.cons.inj h3).2).1 (by decide)
        | x :: x2 :: xs, y :: y2 :: ys, h, hp, hp', hdep, tails =>
          change shC x ++ shT (x2 :: xs) ++ r = shC y ++ shT (y2 :: ys) ++ r' at h
          rw [List.append_assoc, List.append_assoc] at h
          obtain ⟨rfl, h3⟩ := ih x y (hdep x List.mem_cons_self) (plainAll_mem hp x List.mem_cons_self) (plainAll_mem hp' y List.mem_cons_self) _ _ (stp_T _ _) (stp_T _ _) h
          obtain ⟨e5, h4⟩ := tails (x2 :: xs) (y2 :: ys) (fun a ha => List.mem_cons_of_mem _ ha) (fun a ha => List.mem_cons_of_mem _ ha) r r' h3
          rw [e5]
          exact ⟨rfl, h4⟩
theorem shown_inj {d d' : PyData} (h : plain d = true) (h' : plain d' = true) (e : d.shown = d'.shown) : d = d' := by
  refine (sh_inj (d.depth + 1) d d' (Nat.lt_succ_self _) h h' [] [] (fun c hc => by cases hc) (fun c hc => by cases hc) ?_).1
  rw [List.append_nil, List.append_nil]
  exact congrArg (fun x : Str => x.cps.toList) e
end KP

set_option Elab.async false
set_option linter.all false
set_option maxRecDepth 100000
set_option maxHeartbeats 4000000
/-! ### rows with one number otherwise are still right in form -/
namespace KP
open PySem PySem.Spec PyProof.Rows L2 KX KT KJ KS FR PT SX
/-- a row of its kind -/
inductive Kd : Nat → List Cs → Prop
  | tanks {a : Cs} (h : isNum a = true) : Kd 0 [cTanks, a]
  | unk {a : Cs} (h : isNum a = true) : Kd 1 [cUnk, a]
  | pipe {a b c : Cs} (h : isNum a = true) (h2 : isNum b = true ∨ b = cOut) (h3 : (shareW c).isSome = true) : Kd 2 [cPipe, a, b, c]
  | filled {f : List Cs} (h : f.all isNum = true) : Kd 3 (cFilled :: f)
  | seen {f : List Cs} (h : f.all isNum = true) : Kd 4 (cSeen :: f)
def kindAt (np i : Nat) : Nat := if i = 0 then 0 else if i = 1 then 1 else if i < np + 2 then 2 else if i = np + 2 then 3 else 4
/-- rows that are right in form, np pipes -/
structure Fm (np : Nat) (rows : List (List Cs)) : Prop where
  len : rows.length = np + 4
  kd : ∀ i r, rows[i]? = some r → Kd (kindAt np i) r
theorem num_some {w : Cs} (h : isNum w = true) : numW w = some (valN w) := by
  unfold numW
  rw [if_pos h]
theorem pipe_some {r : List Cs} (h : Kd 2 r) : r.take 1 = [cPipe] ∧ ∃ d, pipeW r = some d := by
  cases h with
  | @pipe a b c h h2 h3 =>
    refine ⟨rfl, ?_⟩
    show ∃ d, pipeAt a b c = some d
    unfold pipeAt
    rw [num_some h]
    cases q : shareW c with
    | none => rw [q] at h3; cases h3
    | some d =>
      dsimp only
      refine ⟨_, if_neg ?_⟩
      rcases h2 with h2 | rfl
      · rw [num_some h2]
        simp
      · simp
theorem pipes_fm : ∀ (ps rest : List (List Cs)), (∀ r ∈ ps, Kd 2 r) → (∀ r ∈ rest.head?, ¬ r.take 1 = [cPipe]) → ∃ ds, pipesFrom (ps ++ rest) = .inr ds ∧ ds.length = ps.length
  | [], rest, _, h => by
    rw [List.nil_append]
    cases rest with
    | nil => exact ⟨[], rfl, rfl⟩
    | cons r rs =>
      unfold pipesFrom
      rw [if_neg (h r rfl)]
      exact ⟨[], rfl, rfl⟩
  | r :: ps, rest, g, h => by
    obtain ⟨ds, e, l⟩ := pipes_fm ps rest (fun q hq => g q (List.mem_cons_of_mem _ hq)) h
    obtain ⟨t, d, ed⟩ := pipe_some (g r List.mem_cons_self)
    rw [List.cons_append]
    unfold pipesFrom
    rw [if_pos t, ed, e]
    exact ⟨d :: ds, rfl, by rw [List.length_cons, l, List.length_cons]⟩
theorem progR_fm {np : Nat} {rows : List (List Cs)} (h : Fm np rows) : ∃ m u ps f s, progR rows = .form m u ps f s := by
  have hl := h.len
  have get : ∀ i, i < np + 4 → ∃ r, rows[i]? = some r ∧ Kd (kindAt np i) r := fun i hi => by
    have hlt : i < rows.length := by omega
    exact ⟨_, List.getElem?_eq_getElem hlt, h.kd i _ (List.getElem?_eq_getElem hlt)⟩
  obtain ⟨r0, e0, k0⟩ := get 0 (by omega)
  obtain ⟨r1, e1, k1⟩ := get 1 (by omega)
  obtain ⟨rf, ef, kf⟩ := get (np + 2) (by omega)
  obtain ⟨rs, es, ks⟩ := get (np + 3) (by omega)
  have kk1 : kindAt np 1 = 1 := rfl
  have kkf : kindAt np (np + 2) = 3 := by unfold kindAt; rw [if_neg (by omega), if_neg (by omega), if_neg (by omega), if_pos rfl]
  have kks : kindAt np (np + 3) = 4 := by unfold kindAt; rw [if_neg (by omega), if_neg (by omega), if_neg (by omega), if_neg (by omega)]
  rw [kk1] at k1
  rw [kkf] at kf
  rw [kks] at ks
  have k0' : Kd 0 r0 := k0
  have one : ∀ {a : Cs}, isNum a = true → (match numsW [a] with | some [n] => some n | _ => none) = some (valN a) := fun {a} ha => by
    rw [numsW_one, num_some ha]
    rfl
  obtain ⟨a, ha, rfl⟩ : ∃ a, isNum a = true ∧ r0 = [cTanks, a] := by cases k0' with | @tanks a h => exact ⟨a, h, rfl⟩
  obtain ⟨b, hb, rfl⟩ : ∃ a, isNum a = true ∧ r1 = [cUnk, a] := by cases k1 with | @unk a h => exact ⟨a, h, rfl⟩
  obtain ⟨f, hf, rfl⟩ : ∃ f : List Cs, f.all isNum = true ∧ rf = cFilled :: f := by cases kf with | @filled f h => exact ⟨f, h, rfl⟩
  obtain ⟨g, hg, rfl⟩ : ∃ f : List Cs, f.all isNum = true ∧ rs = cSeen :: f := by cases ks with | @seen f h => exact ⟨f, h, rfl⟩
  have c0 : countAt rows 0 cTanks = some (valN a) := by
    rw [countAt_eq, e0]
    show (if ([cTanks, a] : List Cs).take 1 = [cTanks] then (match numsW [a] with | some [n] => some n | _ => none) else none) = _
    rw [if_pos (show ([cTanks, a] : List Cs).take 1 = [cTanks] from rfl), one ha]
  have c1 : countAt rows 1 cUnk = some (valN b) := by
    rw [countAt_eq, e1]
    show (if ([cUnk, b] : List Cs).take 1 = [cUnk] then (match numsW [b] with | some [n] => some n | _ => none) else none) = _
    rw [if_pos (show ([cUnk, b] : List Cs).take 1 = [cUnk] from rfl), one hb]
  have hd : rows.drop 2 = ((rows.drop 2).take np) ++ rows.drop (np + 2) := by
    rw [show np + 2 = 2 + np by omega, ← List.drop_drop, List.take_append_drop]
  have c2 : ∃ ds, pipesFrom (rows.drop 2) = .inr ds ∧ ds.length = np := by
    rw [hd]
    obtain ⟨ds, e, l⟩ := pipes_fm ((rows.drop 2).take np) (rows.drop (np + 2)) (fun r hr => by
      obtain ⟨i, hi⟩ := List.getElem?_of_mem hr
      have hin : i < np := by
        have := (List.getElem?_eq_some_iff.mp hi).1
        rw [List.length_take] at this
        omega
      rw [List.getElem?_take_of_lt hin, List.getElem?_drop] at hi
      have := h.kd (2 + i) r hi
      rwa [show kindAt np (2 + i) = 2 by unfold kindAt; rw [if_neg (by omega), if_neg (by omega), if_pos (by omega)]] at this) (fun r hr => by
      rw [List.head?_drop, ef] at hr
      cases hr
      show ¬ [cFilled] = [cPipe]
      decide)
    exact ⟨ds, e, by rw [l, List.length_take, List.length_drop]; omega⟩
  obtain ⟨ds, e2, l2⟩ := c2
  have c3 : numsAt rows (2 + ds.length) cFilled = some (f.map valN) := by
    rw [numsAt_eq, l2, show 2 + np = np + 2 by omega, ef]
    show (if (cFilled :: f).take 1 = [cFilled] then numsW f else none) = _
    rw [if_pos (show (cFilled :: f).take 1 = [cFilled] from rfl)]
    unfold numsW
    rw [if_pos hf]
  have c4 : numsAt rows (2 + ds.length + 1) cSeen = some (g.map valN) := by
    rw [numsAt_eq, l2, show 2 + np + 1 = np + 3 by omega, es]
    show (if (cSeen :: g).take 1 = [cSeen] then numsW g else none) = _
    rw [if_pos (show (cSeen :: g).take 1 = [cSeen] from rfl)]
    unfold numsW
    rw [if_pos hg]
  unfold progR
  rw [c0, c1, e2]
  dsimp only
  unfold tailR
  rw [c3, c4]
  dsimp only
  rw [if_neg (by omega)]
  exact ⟨_, _, _, _, _, rfl⟩
theorem num_z (n : Nat) : isNum (zL ((n : Nat) : Int)) = true := by rw [zL_nat]; exact isNum_num n
/-- a net's rows are right in form -/
theorem fm_rowsN {n : NetM} (g : GoodN n) : Fm n.ps.length (rowsN n) := by
  have er : rowsN n = [cTanks, zL (n.m : Nat)] :: [cUnk, zL (n.u : Nat)] :: (n.ps.map prow ++ [trow cFilled n.fs, trow cSeen n.ss]) := by
    unfold rowsN
    simp
  have all : ∀ ns : List Nat, (ns.map fun n => zL ((n : Nat) : Int)).all isNum = true := fun ns => List.all_eq_true.mpr fun w hw => by
    obtain ⟨k, _, rfl⟩ := List.mem_map.mp hw
    exact num_z k
  refine ⟨by rw [er]; simp, fun i r hr => ?_⟩
  rw [er] at hr
  match i, hr with
  | 0, hr => cases hr; exact .tanks (num_z _)
  | 1, hr => cases hr; exact .unk (num_z _)
  | i + 2, hr =>
    have hr : (n.ps.map prow ++ [trow cFilled n.fs, trow cSeen n.ss])[i]? = some r := hr
    by_cases h : i < n.ps.length
    · rw [List.getElem?_append_left (by rw [List.length_map]; exact h), List.getElem?_map] at hr
      rw [show kindAt n.ps.length (i + 2) = 2 by unfold kindAt; rw [if_neg (by omega), if_neg (by omega), if_pos (by omega)]]
      cases q : n.ps[i]? with
      | none => rw [q] at hr; cases hr
      | some p =>
        rw [q] at hr
        cases hr
        have gp := g.ps p (List.mem_of_getElem? q)
        refine .pipe (num_z _) ?_ (by rw [shareW_sh gp.sh]; rfl)
        cases qe : p.e with
        | none => exact .inr rfl
        | some k => exact .inl (num_z k)
    · rw [List.getElem?_append_right (by rw [List.length_map]; omega), List.length_map] at hr
      match hk : i - n.ps.length, hr with
      | 0, hr =>
        cases hr
        rw [show kindAt n.ps.length (i + 2) = 3 by unfold kindAt; rw [if_neg (by omega), if_neg (by omega), if_neg (by omega), if_pos (by omega)]]
        exact .filled (all _)
      | 1, hr =>
        cases hr
        rw [show kindAt n.ps.length (i + 2) = 4 by unfold kindAt; rw [if_neg (by omega), if_neg (by omega), if_neg (by omega), if_neg (by omega)]]
        exact .seen (all _)
      | k + 2, hr =>
        cases hr
/-- one row otherwise, of its kind -/
theorem Fm.put {np : Nat} {rows : List (List Cs)} {i : Nat} {r' : List Cs} (h : Fm np rows) (hi : i < rows.length) (k : Kd (kindAt np i) r') : Fm np (rows.take i ++ [r'] ++ rows.drop (i + 1)) := by
  have e : rows.take i ++ [r'] ++ rows.drop (i + 1) = rows.set i r' := by
    rw [List.append_assoc, List.set_eq_take_append_cons_drop, if_pos hi]
    rfl
  rw [e]
  refine ⟨by rw [List.length_set]; exact h.len, fun j r hj => ?_⟩
  rw [List.getElem?_set] at hj
  by_cases c : i = j
  · subst c
    rw [if_pos rfl, if_pos hi] at hj
    cases hj
    exact k
  · rw [if_neg c] at hj
    exact h.kd j r hj
/-- one word otherwise: what keeps the kind -/
theorem kd_num {k : Nat} {r : List Cs} {to : Nat} {w : Cs} (h : Kd k r) (h0 : 0 < to) (hl : to < r.length) (hw : isNum w = true) (hp : ¬ (k = 2 ∧ to = 3)) : Kd k (r.take to ++ [w] ++ r.drop (to + 1)) := by
  have all : ∀ (f : List Cs) (i : Nat), f.all isNum = true → (f.take i ++ w :: f.drop (i + 1)).all isNum = true := fun f i hf => by
    rw [List.all_append, List.all_cons, hw, Bool.true_and, Bool.and_eq_true]
    exact ⟨List.all_eq_true.mpr fun x hx => List.all_eq_true.mp hf x (List.mem_of_mem_take hx), List.all_eq_true.mpr fun x hx => List.all_eq_true.mp hf x (List.mem_of_mem_drop hx)⟩
  cases h with
  | tanks h => match to, h0, hl with | 1, _, _ => exact .tanks hw
  | unk h => match to, h0, hl with | 1, _, _ => exact .unk hw
  | pipe h h2 h3 => match to, h0, hl, hp with
    | 1, _, _, _ => exact .pipe hw h2 h3
    | 2, _, _, _ => exact .pipe h (.inl hw) h3
    | 3, _, _, hp => exact absurd ⟨rfl, rfl⟩ hp
  | @filled f h => match to, h0 with
    | i + 1, _ =>
      have := all f i h
      rw [List.append_assoc]
      exact .filled this
  | @seen f h => match to, h0 with
    | i + 1, _ =>
      have := all f i h
      rw [List.append_assoc]
      exact .seen this
theorem kd_share {r : List Cs} {w : Cs} (h : Kd 2 r) (hw : (shareW w).isSome = true) : Kd 2 (r.take 3 ++ [w] ++ r.drop 4) := by
  cases h with
  | pipe h h2 h3 => exact .pipe h h2 hw
theorem kd_more {k : Nat} {r : List Cs} {w : Cs} (h : Kd k r) (hk : k = 3 ∨ k = 4) (hw : isNum w = true) : Kd k (r ++ [w]) := by
  have all : ∀ f : List Cs, f.all isNum = true → (f ++ [w]).all isNum = true := fun f hf => by
    rw [List.all_append, hf, List.all_cons, hw]
    rfl
  cases h with
  | filled h => exact .filled (all _ h)
  | seen h => exact .seen (all _ h)
  | tanks h => omega
  | unk h => omega
  | pipe h h2 h3 => omega
end KP

set_option Elab.async false
set_option linter.all false
set_option maxRecDepth 100000
set_option maxHeartbeats 4000000
/-! ### rows with one number otherwise -/
namespace KP
open PySem PySem.Spec PyProof.Rows L2 KX KT KJ KS FR PT SX
abbrev lRewr : Stmt := top 61
def okN (w : Cs) : Bool := isNum w && decide (w.length ≤ 8)
def okH (w : Cs) : Bool := (shareW w).isSome && (decide (w.length ≤ 8) && (!w.isEmpty && w.all fun c => decide (c < 128) && (!decide (c = 10) && !decide (c = 32))))
theorem okN_ok {w : Cs} (h : okN w = true) : isNum w = true ∧ Wk w ∧ Wd w := by
  unfold okN at h
  rw [Bool.and_eq_true, decide_eq_true_iff] at h
  have hd := isNum_dig h.1
  exact ⟨h.1, ⟨fun c hc => by have := hd c hc; omega, h.2⟩, isNum_ne h.1, fun m => by have := hd 32 m; omega⟩
theorem okH_ok {w : Cs} (h : okH w = true) : (shareW w).isSome = true ∧ Wk w ∧ Wd w := by
  unfold okH at h
  rw [Bool.and_eq_true, Bool.and_eq_true, Bool.and_eq_true, decide_eq_true_iff] at h
  obtain ⟨h1, h2, h3, h4⟩ := h
  have all : ∀ c ∈ w, c < 128 ∧ c ≠ 10 ∧ c ≠ 32 := fun c hc => by
    have := List.all_eq_true.mp h4 c hc
    simpa using this
  exact ⟨h1, ⟨fun c hc => ⟨(all c hc).1, (all c hc).2.1⟩, h2⟩, (by intro z; rw [z] at h3; cases h3), (by intro m; exact (all 32 m).2.2 rfl)⟩
def RowsWd (rows : List (List Cs)) : Prop := ∀ r ∈ rows, ∀ w ∈ r, Wd w
theorem kd_pos {k : Nat} {r : List Cs} (h : Kd k r) : 0 < r.length := by cases h <;> simp
theorem kd_head {k : Nat} {r : List Cs} (h : Kd k r) : ∃ w, r[0]? = some w ∧ ((w = cFilled ∨ w = cSeen) ↔ (k = 3 ∨ k = 4)) ∧ (w = cPipe ↔ k = 2) ∧ ∀ c ∈ w, c < 128 := by
  cases h with
  | tanks h => exact ⟨_, rfl, by decide, by decide, by decide⟩
  | unk h => exact ⟨_, rfl, by decide, by decide, by decide⟩
  | pipe h h2 h3 => exact ⟨_, rfl, by decide, by decide, by decide⟩
  | filled h => exact ⟨_, rfl, by decide, by decide, by decide⟩
  | seen h => exact ⟨_, rfl, by decide, by decide, by decide⟩
section
variable {K : PySem.W.Frag} {σ : L2.St} {H : Hp} {j a : Addr} {ws us : List Cs}
theorem lx_ifg {t : TT} {ta tb : TE} {b : Bool} (h : ∀ G, KJ.But j H G → Tg t σ G b) (h1 : Lx ta σ j H ws) (h2 : Lx tb σ j H us) : Lx (tIf t ta tb) σ j H (if b = true then ws else us) := fun G n bb hj Q q => g_ife (h G bb)
  (fun c G1 s => by rw [if_pos c] at q; exact h1 G1 n (bb.trans (KJ.But.same s)) (jar_same hj s) _ fun x G' s' => q x G' (s.trans s'))
  (fun c G1 s => by rw [if_neg (by rw [c]; decide)] at q; exact h2 G1 n (bb.trans (KJ.But.same s)) (jar_same hj s) _ fun x G' s' => q x G' (s.trans s'))
theorem lx_var {i : Nat} (h : σ[i]? = some (some (.ref a))) (naj : a ≠ j) (e : H a = some (.lst (sL ws))) : Lx (tVar i) σ j H ws := fun G n b hj Q q => ⟨_, h, q a G (Same.refl G) naj (b _ _ naj e)⟩
theorem lx_nil : Lx (tLst tNil) σ j H [] := fun G n b hj Q q => ⟨Nat.zero_le _, fun p hp => q p _ (same_upd hp) (jar_new hj hp) upd_same⟩
end
theorem g_ifs {t : TT} {tu te : TS} {b : Bool} {D : Ends} {σ : L2.St} {H : Hp} (h : Tg t σ H b) (h1 : b = true → ∀ H', Same H H' → tu D σ H') (h2 : b = false → ∀ H', Same H H' → te D σ H') : tIfS t tu te D σ H := h _ fun H' s => by
  cases b with
  | true => exact h1 rfl H' s
  | false => exact h2 rfl H' s
def num6 : List Str := ["0", "1", "3", "5", "12", "1000"]
def share10 : List Str := ["2/4", "3/1", "0/7", "1/0", "x0", "x7", "-2/6", "1000", "-1000/3", "5/1000"]
def spRewr : Sp := fun vs H Q _ => ∃ (j a : Addr) (n m np : Nat) (vr : List V) (rows : List (List Cs)), vs = [.ref j, .ref a] ∧ JarAt H j n ∧ n ≤ 800000 ∧ a ≠ j ∧ H a = some (.lst vr) ∧ Rws (hid j H) vr rows ∧ Fm np rows ∧ rows.length ≤ 50 ∧ (∀ r ∈ rows, r.length ≤ m ∧ ∀ w ∈ r, Wk w) ∧ RowsWd rows ∧ m ≤ 50 ∧
  ∀ b vr' rows' H', b ≠ j → H' b = some (.lst vr') → Rws (hid j H') vr' rows' → Fm np rows' → (∀ r ∈ rows', r.length ≤ m + 1 ∧ ∀ w ∈ r, Wk w) → RowsWd rows' → KJ.But j H H' → JarAt H' j (n + 5) → Q (.ref b) H'
section
variable {P : Program} {w : World} {K : PySem.W.Frag} {mg : Str → Option Value} {base : Heap}
theorem scRx : FnScope ["jar", "rows", "at", "row", "to", "word"] ["jar", "rows"] (defScope lRewr) := ⟨rfl, rfl, rfl, by decide +kernel, rfl, by decide +kernel, by decide +kernel⟩
theorem ok_rewr {f fO fD : Addr} {fd fdO fdD : FuncData} (F : Fun K "_law_rewritten" "_law_rewritten" lRewr f fd) (T : TxD mg) (FO : FnOk P w K mg base CX0 2 fO fdO ["jar", "some"] (spOne K)) (mO : mg "_law_one_of" = some (.ref fO)) (kO : PySem.W.keepIn K (.ref fO) = true) (bO : Binds K fdO ["jar", "some"] [])
    (FD : FnOk P w K mg base CX0 1 fD fdD ["jar", "top"] spDip) (mD : mg "_law_dip" = some (.ref fD)) (kD : PySem.W.keepIn K (.ref fD) = true) (bD : Binds K fdD ["jar", "top"] []) :
    FnOk P w K mg base CX0 3 f fd ["jar", "rows"] spRewr := by
  refine F.ok scRx (fun vs H Q E h => ?_) (fun cdv A outer s H vs Q E hr h => ?_)
  · obtain ⟨_, _, _, _, _, _, _, rfl, _⟩ := h
    rfl
  · obtain ⟨j, a, n, m, np, vr, rows, rfl, hj, hn, naj, ha, hR, fm, hl, hw, hwd, hm, k⟩ := h
    have hr1 : Room 1 _ := hr.mono (by decide)
    have hu65 : (A.deeper (envOfC "_law_rewritten" (defScope lRewr) s.heap.objs.size f cdv)).units + 65 < cLine := by have := hr.un; omega
    refine ⟨_, pss_cons (ps_set (i := 2) scRx.nd rfl (Or.inl rfl) (pe_call FD hr1 (by rfl) mD kD bD .nil pass0 (pa_cons (pv 0) (pa_cons (pe_callB call_len_seq (by rfl) T.len PySem.boot_len (pa_cons (pv 1) pa_nil)) pa_nil))))
      (pss_cons (ps_set (i := 3) scRx.nd rfl (Or.inl rfl) (pe_ix ix_seq (pv 1) (pv 2) (fun _ _ => rfl)))
      (pss_cons (ps_set (i := 4) scRx.nd rfl (Or.inl rfl) (pe_call FD hr1 (by rfl) mD kD bD .nil pass0 (pa_cons (pv 0) (pa_cons (pe_callB call_len_seq (by rfl) T.len PySem.boot_len (pa_cons (pv 3) pa_nil)) pa_nil))))
      (pss_cons (ps_set (i := 5) scRx.nd rfl (Or.inl rfl) (pe_call FO hr (by rfl) mO kO bO .nil pass0 (pa_cons (pv 0) (pa_cons (pe_lst (pa_cons pe_str (pa_cons pe_str (pa_cons pe_str (pa_cons pe_str (pa_cons pe_str (pa_cons pe_str pa_nil))))))) pa_nil))))
      (pss_cons (ps_if (pt_cmpR op_eq (pv 4) pe_int (nomark _)) (pss_one (ps_ret (pe_op op_cat (pe_op op_cat (pe_slice sl_list (pv 1) po_none (po_some (pv 2))) (pe_lst (pa_cons (pe_op op_cat (pv 3) (pe_ifExp (pt_cmpR (op_inT hu65) (pe_ix ix_seq (pv 3) pe_int (fun _ _ => rfl)) (pe_tup (pa_cons pe_str (pa_cons pe_str pa_nil))) (by rfl)) (pe_lst (pa_cons (pv 5) pa_nil)) (pe_lst pa_nil))) pa_nil))) (pe_slice sl_list (pv 1) (po_some (pe_op op_add (pv 2) pe_int)) po_none)))) pss_nil)
      (Evl.pss_cut (ps_if (pw_and (pt_cmpR op_eq (pe_ix ix_seq (pv 3) pe_int (fun _ _ => rfl)) pe_str (nomark _)) (pw_and1 (pt_cmpR op_eq (pv 4) pe_int (nomark _)))).pt (pss_one (ps_set (i := 5) scRx.nd rfl (Or.inl rfl) (pe_call FO hr (by rfl) mO kO bO .nil pass0 (pa_cons (pv 0) (pa_cons (pe_lst (pa_cons pe_str (pa_cons pe_str (pa_cons pe_str (pa_cons pe_str (pa_cons pe_str (pa_cons pe_str (pa_cons pe_str (pa_cons pe_str (pa_cons pe_str (pa_cons pe_str pa_nil))))))))))) pa_nil))))) pss_nil)
      (pss_one (ps_ret (pe_op op_cat (pe_op op_cat (pe_slice sl_list (pv 1) po_none (po_some (pv 2))) (pe_lst (pa_cons (pe_op op_cat (pe_op op_cat (pe_slice sl_list (pv 3) po_none (po_some (pv 4))) (pe_lst (pa_cons (pv 5) pa_nil))) (pe_slice sl_list (pv 3) (po_some (pe_op op_add (pv 4) pe_int)) po_none)) pa_nil))) (pe_slice sl_list (pv 1) (po_some (pe_op op_add (pv 2) pe_int)) po_none))))))))), ?_⟩
    have lvr := hR.len
    have lpos : rows.length = np + 4 := fm.len
    have ei : ∀ i : Nat, (i : Int) + 1 = ((i + 1 : Nat) : Int) := fun i => by omega
    refine i_asg ?_
    refine ⟨_, rfl, _, rfl, a, _, rfl, .inl (SqL.of ha), j, (vr.length : Int), n, rfl, by omega, by omega, hj, by omega, fun at_ H1 a0 a1 b1 j1 => ?_⟩
    obtain ⟨i, rfl⟩ : ∃ i : Nat, at_ = (i : Int) := ⟨at_.toNat, by omega⟩
    have hi : i < rows.length := by omega
    obtain ⟨ri, hri⟩ : ∃ ri, rows[i]? = some ri := ⟨_, List.getElem?_eq_getElem hi⟩
    have ha1 := b1 _ _ naj ha
    have hR1 : Rws (hid j H1) vr rows := hR.sm (Sm.same (hid_but b1))
    obtain ⟨_, hv, c, rfl, hc⟩ := hR1.at hri
    obtain ⟨ncj, hc1⟩ := hidAt hc
    have hrm := hw ri (List.mem_of_getElem? hri)
    have hrd := hwd ri (List.mem_of_getElem? hri)
    have kd := fm.kd i ri hri
    have rpos := kd_pos kd
    have ltk : (vr.take i).length = i := by rw [List.length_take]; omega
    have ldr : ∀ m, (vr.drop m).length = vr.length - m := fun m => List.length_drop
    refine i_asg ?_
    refine vi_op (v := .ref c) (vi_var rfl) (vi_var rfl) (fun Q q => .inl ⟨a, _, _, _, rfl, rfl, SqL.of ha1, at_nat hv, q⟩) _ ?_
    refine i_asg ?_
    refine ⟨_, rfl, _, rfl, c, _, rfl, .inl (SqL.of hc1), j, ((sL ri).length : Int), n + 1, rfl, by rw [sL_len]; omega, by rw [sL_len]; omega, j1, by omega, fun to_ H2 t0 t1 b2 j2 => ?_⟩
    rw [sL_len] at t1
    obtain ⟨to, rfl⟩ : ∃ i : Nat, to_ = (i : Int) := ⟨to_.toNat, by omega⟩
    have hto : to < ri.length := by omega
    refine i_asg ?_
    refine one_any (ss := num6) (by unfold num6; repeat (first | exact litS_nil | refine litS_cons ?_)) rfl (by decide) (by decide) j2 (by omega) fun ws0 H3 hs0 b3 j3 => ?_
    obtain ⟨w0, rfl, isn, wkw, wdw⟩ : ∃ w0, ws0 = S w0 ∧ isNum w0 = true ∧ Wk w0 ∧ Wd w0 := ⟨ws0.cps.toList, (S_tl _).symm, okN_ok (List.all_eq_true.mp (show num6.all (fun s => okN s.cps.toList) = true by decide +kernel) ws0 hs0)⟩
    have b03 := (b1.trans b2).trans b3
    have hc3 := b3 _ _ ncj (b2 _ _ ncj hc1)
    obtain ⟨hd, ehd, hk34, hk2, hd128⟩ := kd_head kd
    -- rows[:at] + [te] + rows[at + 1:]
    have fin : ∀ {σ : L2.St} {H3 : Hp} {te : TE} {ws' : List Cs}, σ[1]? = some (some (.ref a)) → σ[2]? = some (some (.int (i : Nat))) → KJ.But j H H3 → JarAt H3 j (n + 4) → Lx te σ j H3 ws' → Kd (kindAt np i) ws' → ws'.length ≤ m + 1 → (∀ w ∈ ws', Wk w ∧ Wd w) →
        tRet (tOp rCat (tOp rCat (tSl (rSlL K) (tVar 1) tNoPart (tPart (tVar 2))) (tLst (tCons te tNil))) (tSl (rSlL K) (tVar 1) (tPart (tOp (rI0 fun i j => .int (i + j)) (tVar 2) (tC (.int 1)))) tNoPart)) { nx := fun _ H' => Q .non H', rt := Q } σ H3 := fun {σ H3 te ws'} h1 h2 b3 j3 hx kd' hlen hww => by
      have ha3 := b3 _ _ naj ha
      have tk : Lv (tSl (rSlL K) (tVar 1) tNoPart (tPart (tVar 2))) σ j H3 (vr.take i) := lv_slice (fun G Q q => ⟨_, h1, q⟩) naj ha3 (fun G Q q => q) (fun G Q q => ⟨_, h2, (i : Int), rfl, q⟩) (by rw [cutV_take])
      refine tk H3 (n + 4) (fun b o _ e => e) j3 _ fun x G1 s1 nx ex => ?_
      refine hx G1 (n + 4) (KJ.But.same s1) (jar_same j3 s1) _ fun b1 G2 s2 nb1 eb1 => ?_
      refine ⟨by show 1 ≤ sizeLine; decide, fun y hy => ?_⟩
      have sy := same_upd (o := .lst [V.ref b1]) hy
      refine ⟨x, y, _, _, rfl, rfl, (s2.trans sy) _ _ ex, upd_same, Nat.le_trans (show _ ≤ 2000 by rw [ltk]; simp only [List.length_singleton]; omega) (by decide), fun z hz => ?_⟩
      have sz := same_upd (o := .lst (vr.take i ++ [V.ref b1])) hz
      have sA := ((s1.trans s2).trans sy).trans sz
      have jz := jar_same j3 sA
      have dr : Lv (tSl (rSlL K) (tVar 1) (tPart (tOp (rI0 fun i j => .int (i + j)) (tVar 2) (tC (.int 1)))) tNoPart) σ j _ (vr.drop (i + 1)) := lv_slice (lo := some ((i + 1 : Nat) : Int)) (fun G Q q => ⟨_, h1, q⟩) naj (sA _ _ ha3) (fun G Q q => ⟨_, h2, _, _, rfl, rfl, _, rfl, by rw [ei]; exact q⟩) (fun G Q q => q) (by rw [cutV_drop])
      refine dr _ _ (fun b o _ e => e) jz _ fun u G3 s3' nu eu => ?_
      refine ⟨z, u, _, _, rfl, rfl, s3' _ _ upd_same, eu, ?_, fun q hq => ?_⟩
      · rw [List.length_append, ltk, ldr]
        exact Nat.le_trans (show _ ≤ 3000 by simp only [List.length_singleton]; omega) (by decide)
      have sq := same_upd (o := .lst (vr.take i ++ [V.ref b1] ++ vr.drop (i + 1))) hq
      have sB := (sA.trans s3').trans sq
      have ball := b3.trans (KJ.But.same (j := j) sB)
      have hRq : Rws (hid j (upd G3 q (.lst (vr.take i ++ [V.ref b1] ++ vr.drop (i + 1))))) vr rows := hR.sm (Sm.same (hid_but ball))
      have eb1' : (upd G3 q (.lst (vr.take i ++ [V.ref b1] ++ vr.drop (i + 1)))) b1 = some (.lst (sL ws')) := ((sy.trans sz).trans (s3'.trans sq)) _ _ eb1
      have cs : ∀ r ∈ rows.take i ++ [ws'] ++ rows.drop (i + 1), r ∈ rows ∨ r = ws' := fun r hr => by
        rcases List.mem_append.mp hr with hr | hr
        · rcases List.mem_append.mp hr with hr | hr
          · exact .inl (List.mem_of_mem_take hr)
          · exact .inr (List.mem_singleton.mp hr)
        · exact .inl (List.mem_of_mem_drop hr)
      refine k q _ (rows.take i ++ [ws'] ++ rows.drop (i + 1)) _ (jar_new (jar_same jz s3') hq) upd_same ?_ (fm.put hi kd') (fun r hr => ?_) (fun r hr => ?_) ball (jar_more (jar_same jz (s3'.trans sq)) (by omega))
      · exact Rws.append (Rws.append (hRq.take i) (.cons ⟨b1, rfl, by rw [hid_ne nb1]; exact eb1'⟩ .nil)) (hRq.drop (i + 1))
      · rcases cs r hr with hr | rfl
        · exact ⟨Nat.le_succ_of_le (hw r hr).1, (hw r hr).2⟩
        · exact ⟨hlen, fun w hw' => (hww w hw').1⟩
      · rcases cs r hr with hr | rfl
        · exact hwd r hr
        · exact fun w hw' => (hww w hw').2
    have old : ∀ w ∈ ri, Wk w ∧ Wd w := fun w hw' => ⟨hrm.2 w hw', hrd w hw'⟩
    change tSeq _ _ _ [some (.ref j), some (.ref a), some (.int (i : Nat)), some (.ref c), some (.int (to : Nat)), some (.str (S w0))] _
    refine i_when (b := decide (to = 0)) (ti_test (vi_eqN rfl (vi_var rfl))) (fun _ => ?_) (fun z0 => ?_)
    · have lx := lx_cat (lx_var (i := 3) (σ := [some (.ref j), some (.ref a), some (.int (i : Nat)), some (.ref c), some (.int (to : Nat)), some (.str (S w0))]) rfl ncj hc3)
        (lx_ifg (b := decide (hd = cFilled ∨ hd = cSeen)) (fun G b => tg_in2 (K := K) (vi_word (K := K) (n := 0) (vi_var (i := 3) rfl) (b _ _ ncj hc3) ehd) hd128 filled_eq seen_eq (by decide) (by decide)) (lx_one (te := tVar 5) (w := w0) fun G b => vi_var rfl) lx_nil) (by split <;> simp <;> omega)
      refine fin rfl rfl b03 (jar_more j3 (by omega)) lx ?_ ?_ ?_
      · split
        · rename_i c1
          exact kd_more kd (hk34.mp (of_decide_eq_true c1)) isn
        · rw [List.append_nil]
          exact kd
      · rw [List.length_append]
        split <;> simp <;> omega
      · intro w hw'
        rcases List.mem_append.mp hw' with h | h
        · exact old w h
        · split at h
          · rw [List.mem_singleton.mp h]
            exact ⟨wkw, wdw⟩
          · cases h
    have z0 := of_decide_eq_false z0
    refine cut_go (fun σ' H' => ∃ w', σ' = [some (.ref j), some (.ref a), some (.int (i : Nat)), some (.ref c), some (.int (to : Nat)), some (.str (S w'))] ∧ KJ.But j H H' ∧ JarAt H' j (n + 4) ∧ Wk w' ∧ Wd w' ∧ Kd (kindAt np i) (ri.take to ++ [w'] ++ ri.drop (to + 1))) ?_ ?_
    · refine g_ifs (b := decide (hd = cPipe) && decide (to = 3)) (tg_and (tg_of (ti_test (vi_eqS (vi_word (K := K) (n := 0) (vi_var (i := 3) rfl) hc3 ehd) (by rw [pipe_eq])))) fun _ G s => tg_of (ti_test (vi_eqN rfl (vi_var rfl)))) (fun cp G s => ?_) (fun cp G s => ?_)
      · rw [Bool.and_eq_true, decide_eq_true_iff, decide_eq_true_iff] at cp
        obtain ⟨cp, rfl⟩ := cp
        refine one_any (ss := share10) (by unfold share10; repeat (first | exact litS_nil | refine litS_cons ?_)) rfl (by decide) (by decide) (jar_same j3 s) (by omega) fun ws1 H4 hs1 b4 j4 => ?_
        obtain ⟨w1, rfl, ish, wk1, wd1⟩ : ∃ w1, ws1 = S w1 ∧ (shareW w1).isSome = true ∧ Wk w1 ∧ Wd w1 := ⟨ws1.cps.toList, (S_tl _).symm, okH_ok (List.all_eq_true.mp (show share10.all (fun s => okH s.cps.toList) = true by decide +kernel) ws1 hs1)⟩
        have k2 := hk2.mp cp
        refine ⟨w1, rfl, (b03.trans (KJ.But.same s)).trans b4, j4, wk1, wd1, ?_⟩
        rw [k2] at kd ⊢
        exact kd_share kd ish
      · refine ⟨w0, rfl, b03.trans (KJ.But.same s), jar_more (jar_same j3 s) (by omega), wkw, wdw, kd_num kd (by omega) hto isn fun z => ?_⟩
        rw [hk2.mpr z.1, z.2] at cp
        exact absurd cp (by decide)
    · rintro σ' H4 ⟨w', rfl, b4, j4, wk', wd', kd'⟩
      have hc4 : H4 c = some (.lst (sL ri)) := by
        have := hR.sm (Sm.same (hid_but b4))
        obtain ⟨_, hv', c', e1, e2⟩ := this.at hri
        rw [hv] at hv'
        cases hv'
        cases e1
        exact (hidAt e2).2
      have lt : (ri.take to).length = to := by rw [List.length_take]; omega
      have ld : (ri.drop (to + 1)).length = ri.length - (to + 1) := List.length_drop
      have t3 : Lx (tSl (rSlL K) (tVar 3) tNoPart (tPart (tVar 4))) [some (.ref j), some (.ref a), some (.int (i : Nat)), some (.ref c), some (.int (to : Nat)), some (.str (S w'))] j H4 (ri.take to) := lx_slice (fun G => vi_var rfl) ncj hc4 (fun G Q q => q) (fun G Q q => ⟨_, rfl, (to : Int), rfl, q⟩) (by rw [cutV_take, sL_take])
      have d3 : Lx (tSl (rSlL K) (tVar 3) (tPart (tOp (rI0 fun i j => .int (i + j)) (tVar 4) (tC (.int 1)))) tNoPart) [some (.ref j), some (.ref a), some (.int (i : Nat)), some (.ref c), some (.int (to : Nat)), some (.str (S w'))] j H4 (ri.drop (to + 1)) := lx_slice (lo := some ((to + 1 : Nat) : Int)) (fun G => vi_var rfl) ncj hc4 (fun G Q q => ⟨_, rfl, _, _, rfl, rfl, _, rfl, by rw [ei]; exact q⟩) (fun G Q q => q) (by rw [cutV_drop, sL_drop])
      refine fin rfl rfl b4 j4 (lx_cat (lx_cat t3 (lx_one (te := tVar 5) (w := w') fun G b => vi_var rfl) (by rw [lt]; simp; omega)) d3 (by rw [List.length_append, lt, ld]; simp; omega)) kd' (by rw [List.length_append, List.length_append, lt, ld]; simp; omega) fun w hw' => ?_
      rcases List.mem_append.mp hw' with h | h
      · rcases List.mem_append.mp h with h | h
        · exact old w (List.mem_of_mem_take h)
        · rw [List.mem_singleton.mp h]
          exact ⟨wk', wd'⟩
      · exact old w (List.mem_of_mem_drop h)
end
end KP

set_option Elab.async false
set_option linter.all false
set_option maxRecDepth 100000
set_option maxHeartbeats 4000000
/-! ### drawn blanks, and what is read behind them -/
namespace KP
open PySem PySem.Spec PyProof.Rows L2 KX KT KJ KS FR PT SX
def okB (s : Str) : Bool := decide (s.cps.toList.length ≤ 8) && s.cps.toList.all fun c => decide (c = 32)
theorem okB_bl {s : Str} (h : okB s = true) : Blank s.cps.toList ∧ s.cps.toList.length ≤ 8 := by
  unfold okB at h
  rw [Bool.and_eq_true, decide_eq_true_iff] at h
  exact ⟨fun c hc => of_decide_eq_true (List.all_eq_true.mp h.2 c hc), h.1⟩
theorem blank_calm {b : Cs} (h : Blank b) : Calm b := fun c hc => by rw [h c hc]; decide
def spBlank2 : Sp := fun vs H Q _ => ∃ (j a : Addr) (n : Nat) (ws : List Cs), vs = [.ref j, .ref a] ∧ JarAt H j n ∧ n ≤ 900000 ∧ a ≠ j ∧ H a = some (.lst (sL ws)) ∧ ws.length ≤ 20 ∧ (∀ w ∈ ws, Wk w ∧ Wd w) ∧
  ∀ t H', Calm t → t.length ≤ 400 → wordsW t = ws → KJ.But j H H' → JarAt H' j (n + 22) → Q (.str (S t)) H'
section
variable {P : Program} {w : World} {K : PySem.W.Frag} {mg : Str → Option Value} {base : Heap}
theorem scBl2 : FnScope ["jar", "words", "found", "at", "word"] ["jar", "words"] (defScope lBlanked) := ⟨rfl, rfl, rfl, by decide +kernel, rfl, by decide +kernel, by decide +kernel⟩
theorem ok_blanked2 {f fO : Addr} {fd fdO : FuncData} (F : Fun K "_law_blanked" "_law_blanked" lBlanked f fd) (T : TxD mg) (FO : FnOk P w K mg base CX0 2 fO fdO ["jar", "some"] (spOne K)) (mO : mg "_law_one_of" = some (.ref fO)) (kO : PySem.W.keepIn K (.ref fO) = true) (bO : Binds K fdO ["jar", "some"] []) :
    FnOk P w K mg base CX0 3 f fd ["jar", "words"] spBlank2 := by
  refine F.ok scBl2 (fun vs H Q E h => ?_) (fun cdv A outer s H vs Q E hr h => ?_)
  · obtain ⟨_, _, _, _, rfl, _⟩ := h
    rfl
  · obtain ⟨j, a, n, ws, rfl, hj, hn, naj, ha, hl, hw, k⟩ := h
    refine ⟨_, pss_cons (ps_set (i := 2) scBl2.nd rfl (Or.inl rfl) (pe_call FO hr (by rfl) mO kO bO .nil pass0 (pa_cons (pv 0) (pa_cons (pe_lst (pa_cons pe_str (pa_cons pe_str (pa_cons pe_str (pa_cons pe_str pa_nil))))) pa_nil))))
      (pss_cons (ps_for PassesOwn.never rfl (pi_enum (by rfl) T.enumerate (pa_cons (pv 1) pa_nil)) (pg_tup rfl (pgs_cons (pg_name (i := 3) scBl2.nd rfl (Or.inl rfl)) (pgs_cons (pg_name (i := 4) scBl2.nd rfl (Or.inl rfl)) pgs_nil)))
        (pss_one (ps_set (i := 2) scBl2.nd rfl (Or.inl rfl) (pe_op op_add_str (pe_op op_add_str (pv 2) (pe_ifExp (pt_cmpR op_gt (pv 3) pe_int (nomark _)) (pe_call FO hr (by rfl) mO kO bO .nil pass0 (pa_cons (pv 0) (pa_cons (pe_lst (pa_cons pe_str (pa_cons pe_str (pa_cons pe_str (pa_cons pe_str pa_nil))))) pa_nil))) pe_str)) (pv 4)))))
      (pss_one (ps_ret (pe_op op_add_str (pv 2) (pe_call FO hr (by rfl) mO kO bO .nil pass0 (pa_cons (pv 0) (pa_cons (pe_lst (pa_cons pe_str (pa_cons pe_str (pa_cons pe_str (pa_cons pe_str pa_nil))))) pa_nil))))))), ?_⟩
    have ls4 : ∀ a b c d : Str, LitS (tCons (tC (.str a)) (tCons (tC (.str b)) (tCons (tC (.str c)) (tCons (tC (.str d)) tNil)))) [a, b, c, d] := fun a b c d => litS_cons (litS_cons (litS_cons (litS_cons litS_nil)))
    refine i_asg ?_
    have draws : ∀ {E : XK} (σ : L2.St) (G : Hp) (n : Nat) (a b c d : Str) (R : VK), σ[0]? = some (some (.ref j)) → JarAt G j n → n < 1000000 → ([a, b, c, d] : List Str).all okB = true → (∀ s G', s ∈ ([a, b, c, d] : List Str) → Blank s.cps.toList → s.cps.toList.length ≤ 8 → KJ.But j G G' → JarAt G' j (n + 1) → R (.str (S s.cps.toList)) G') →
        tCall (spOne K) [] E (tCons (tVar 0) (tCons (tLst (tCons (tC (.str a)) (tCons (tC (.str b)) (tCons (tC (.str c)) (tCons (tC (.str d)) tNil))))) tNil)) σ G R := fun σ G n a b c d R h0 hj hn ok r => one_any (ls4 a b c d) h0 (by simp) (by simp) hj hn fun s G' hs bb jj => by
      obtain ⟨x, y⟩ := okB_bl (List.all_eq_true.mp ok s hs)
      have := r s G' hs x y bb jj
      rw [S_tl] at this
      exact this
    refine draws (L2.start ["jar", "words", "found", "at", "word"] [.ref j, .ref a]) _ _ _ _ _ _ _ rfl hj (by omega) (by decide +kernel) fun w0s H1 _ bw0 lw0 b1 j1 => ?_
    generalize w0s.cps.toList = w0 at *
    have ha1 := b1 _ _ naj ha
    refine ⟨_, rfl, a, _, rfl, SqL.of ha1, ?_⟩
    refine for_it (walk_enum (K := K) (a := a) (xs := sL ws)) (fun i σ H' => (∃ t o3 o4, σ = [some (.ref j), some (.ref a), some (.str (S t)), o3, o4] ∧ Calm t ∧ t.length ≤ 8 + 16 * i ∧ wordsW t = ws.take i ∧ (i = 0 → Blank t)) ∧ KJ.But j H H' ∧ JarAt H' j (n + 1 + i))
      ⟨⟨w0, none, none, rfl, blank_calm bw0, by omega, by rw [wordsW_blank bw0]; rfl, fun _ => bw0⟩, b1, by rw [Nat.add_zero]; exact j1⟩ (fun i σ H' _ z => SqL.of (z.2.1 _ _ naj ha)) ?_ ?_
    · rintro i v σ H4 H5 hi ⟨⟨t, o3, o4, rfl, ct, lt, wt, zt⟩, b4, j4⟩ ⟨T1, x, y, rfl, hT, rfl, hx, hy⟩
      cases hx
      obtain ⟨r, hr', rfl⟩ := sL_at hy
      rw [sL_len] at hi
      obtain ⟨wr, wd⟩ := hw r (List.mem_of_getElem? hr')
      have sT := same_upd (o := .tup [.int (i : Nat), .str (S r)]) hT
      have bT := b4.trans (KJ.But.same sT)
      have jT := jarS j4 sT
      refine ⟨T1, _, rfl, .inl (.inl upd_same), rfl, _, _, rfl, _, _, rfl, rfl, ?_⟩
      -- the end of a turn
      have fin : ∀ (w1 : Cs) (H6 : Hp), Blank w1 → w1.length ≤ 8 → (w1 = [] → i = 0) → KJ.But j H H6 → JarAt H6 j (n + 1 + (i + 1)) → ∃ v, ([some (.ref j), some (.ref a), some (.str (S t)), some (.int (i : Nat)), some (.str (S r))] : L2.St)[4]? = some (some v) ∧ ∃ p q, V.str (S t ++ S w1) = .str p ∧ v = .str q ∧ p.length + q.length ≤ sizeLine ∧
          (∃ t' o3 o4, ([some (.ref j), some (.ref a), some (.str (S t)), some (.int (i : Nat)), some (.str (S r))] : L2.St).set 2 (some (.str (p ++ q))) = [some (.ref j), some (.ref a), some (.str (S t')), o3, o4] ∧ Calm t' ∧ t'.length ≤ 8 + 16 * (i + 1) ∧ wordsW t' = ws.take (i + 1) ∧ (i + 1 = 0 → Blank t')) ∧ KJ.But j H H6 ∧ JarAt H6 j (n + 1 + (i + 1)) := fun w1 H6 bw1 l1 z1 b6 j6 => by
        have tk : ws.take (i + 1) = ws.take i ++ [r] := by rw [List.take_add_one, hr']; rfl
        have ww : wordsW (t ++ w1 ++ r) = ws.take (i + 1) := by
          rw [tk]
          by_cases e : w1 = []
          · have i0 := z1 e
            rw [e, List.append_nil, wordsW_pre (zt i0), wordsW_word wd, i0]
            rfl
          · rw [wordsW_mid bw1 e, wt, wordsW_word wd]
        have l2 := wr.len
        refine ⟨_, rfl, _, _, rfl, rfl, ?_, ⟨t ++ w1 ++ r, _, _, by rw [S_cat, S_cat]; rfl, (ct.append (blank_calm bw1)).append wr.calm, by simp; omega, ww, fun z => absurd z (by omega)⟩, b6, j6⟩
        rw [S_cat, S_len, S_len, List.length_append]
        exact Nat.le_trans (show _ ≤ 1000 by omega) (by decide)
      refine ⟨_, rfl, ?_⟩
      refine g_ife (b := decide (0 < i)) (tg_of (ti_test (vi_gtN rfl (vi_var rfl)))) (fun c G sG => ?_) (fun c G sG => ?_)
      · refine draws [some (.ref j), some (.ref a), some (.str (S t)), some (.int (i : Nat)), some (.str (S r))] _ _ _ _ _ _ _ rfl (jarS jT sG) (by omega) (by decide +kernel) fun w1s H6 hs1 bw1 l1 b6 j6 => ?_
        have ne1 : w1s.cps.toList ≠ [] := by
          simp only [List.mem_cons, List.not_mem_nil, or_false] at hs1
          rcases hs1 with rfl | rfl | rfl | rfl <;> decide +kernel
        generalize w1s.cps.toList = w1 at *
        refine ⟨_, _, rfl, rfl, ?_, ?_⟩
        · rw [S_len, S_len]
          exact Nat.le_trans (show _ ≤ 1000 by omega) (by decide)
        · exact fin w1 H6 bw1 l1 (fun z => absurd z ne1) ((bT.trans (KJ.But.same sG)).trans b6) j6
      · refine ⟨_, _, rfl, rfl, ?_, ?_⟩
        · rw [S_len]
          exact Nat.le_trans (show t.length + 0 ≤ 1000 by omega) (by decide)
        · exact fin [] G (fun c hc => by cases hc) (Nat.zero_le _) (fun _ => by have := of_decide_eq_false c; omega) (bT.trans (KJ.But.same sG)) (jarM (jarS jT sG) (by omega))
    · rintro σ H4 ⟨⟨t, o3, o4, rfl, ct, lt, wt, _⟩, b4, j4⟩
      rw [sL_len] at lt j4
      rw [sL_len, List.take_length] at wt
      refine ⟨_, rfl, ?_⟩
      refine draws [some (.ref j), some (.ref a), some (.str (S t)), o3, o4] _ _ _ _ _ _ _ rfl j4 (by omega) (by decide +kernel) fun w1s H6 _ bw1 l1 b6 j6 => ?_
      generalize w1s.cps.toList = w1 at *
      refine ⟨_, _, rfl, rfl, ?_, ?_⟩
      · rw [S_len, S_len]
        exact Nat.le_trans (show _ ≤ 1000 by omega) (by decide)
      · rw [S_cat]
        exact k _ H6 (ct.append (blank_calm bw1)) (by rw [List.length_append]; omega) (by rw [wordsW_post bw1, wt]) (b4.trans b6) (jarM j6 (by omega))
end
end KP

set_option Elab.async false
set_option linter.all false
set_option maxRecDepth 100000
set_option maxHeartbeats 4000000
/-! ### the program's texts of nets -/
namespace KP
open PySem PySem.Spec PyProof.Rows L2 KX KT KJ KS FR PT SX
abbrev sFracWord : Stmt := top 27
abbrev sShareWord : Stmt := top 26
abbrev sPipeRow : Stmt := top 25
abbrev sTanksRow : Stmt := top 28
abbrev sTextOf : Stmt := top 24
section
variable {K : PySem.W.Frag} {σ : L2.St} {H : Hp}
/-- f-strings, by what their parts tell -/
inductive Fj (σ : L2.St) (H : Hp) : List TE → Cs → Prop
  | nil : Fj σ H [] []
  | cons {t : TE} {ts : List TE} {w u : Cs} (h : Vi t σ H (.str (S w))) (r : Fj σ H ts u) : Fj σ H (t :: ts) (w ++ u)
theorem fj_run {ts : List TE} {w : Cs} (h : Fj σ H ts w) : ∀ (acc : Cs) (Q : Str → Hp → Prop), acc.length + w.length ≤ 10000 → Q (S (acc ++ w)) H → tJs ts (S acc) σ H Q := by
  induction h with
  | nil => intro acc Q _ q; rw [List.append_nil] at q; exact q
  | @cons t ts w u h r ih =>
    intro acc Q hl q
    rw [List.length_append] at hl
    refine h _ ⟨S w, rfl, ?_, ?_⟩
    · rw [S_cat, S_len, List.length_append]
      exact Nat.le_trans (show _ ≤ 10000 by omega) (by decide)
    · rw [S_cat]
      exact ih (acc ++ w) Q (by rw [List.length_append]; omega) (by rw [List.append_assoc]; exact q)
theorem vi_fstr {ts : List TE} {w : Cs} (h : Fj σ H ts w) (hl : w.length ≤ 10000) : Vi (fun σ H Q => tJs ts Str.empty σ H fun out H1 => Q (.str out) H1) σ H (.str (S w)) := fun Q q => fj_run h [] _ (by simpa using hl) q
theorem vi_fmtI {te : TE} {i : Int} (h : Vi te σ H (.int i)) (hb : i.natAbs ≤ 9999) : Vi (tFmt te) σ H (.str (S (zL i))) := fun Q q => h _ (.inr ⟨i, rfl, log_le hb, by rw [show ((toString i : String) : Str) = S (zL i) from zL_S i]; exact q⟩)
theorem vi_fmtS {te : TE} {w : Cs} (h : Vi te σ H (.str (S w))) (hl : w.length ≤ 10000) : Vi (tFmt te) σ H (.str (S w)) := fun Q q => h _ (.inl ⟨S w, rfl, by rw [S_len]; exact Nat.le_trans hl (by decide), q⟩)
theorem vi_lit {x : Str} {w : Cs} (e : x = S w) : Vi (tC (.str x)) σ H (.str (S w)) := vi_same vi_c (by rw [e])
end
def spFracWord : Sp := fun vs H Q _ => ∃ v x, vs = [v] ∧ Th (tO H) v (fD x) ∧ Told x ∧ Q (.str (S (pwF x))) H
def spShareWord : Sp := fun vs H Q _ => ∃ v s u, vs = [v] ∧ Th (tO H) v (shD s) ∧ GoodS u s ∧ u ≤ 4 ∧ Q (.str (S (shW s))) H
def spPipeRow : Sp := fun vs H Q _ => ∃ v p m u, vs = [v] ∧ Th (tO H) v (ppD p) ∧ GoodP m u p ∧ m ≤ 4 ∧ u ≤ 4 ∧ Q (.str (S (TL.joinL [32] (prow p)))) H
section
variable {P : Program} {w : World} {K : PySem.W.Frag} {mg : Str → Option Value} {base : Heap}
theorem scFw : FnScope ["fraction"] ["fraction"] (defScope sFracWord) := ⟨rfl, rfl, rfl, by decide +kernel, rfl, by decide +kernel, by decide +kernel⟩
theorem ok_fracword {f : Addr} {fd : FuncData} (F : Fun K "fraction_word" "fraction_word" sFracWord f fd) (T : TxD mg) : FnOk P w K mg base CX0 1 f fd ["fraction"] spFracWord := by
  refine F.ok scFw (fun vs H Q E h => ?_) (fun cdv A outer s H vs Q E hr h => ?_)
  · obtain ⟨_, _, rfl, _⟩ := h
    rfl
  · obtain ⟨v, x, rfl, th, tx, k⟩ := h
    refine ⟨_, pss_cons (ps_if (pt_cmpR op_eq (pe_ix ix_seq (pv 0) pe_int (fun _ _ => rfl)) pe_int (nomark _)) (pss_one (ps_ret (pe_callTy call_str_int (by rfl) T.str (by decide +kernel) (pa_cons (pe_ix ix_seq (pv 0) pe_int (fun _ _ => rfl)) pa_nil)))) pss_nil)
      (pss_one (ps_ret (pe_joined (.cons (pe_fmt (pe_ix ix_seq (pv 0) pe_int (fun _ _ => rfl))) (.cons pe_str (.cons (pe_fmt (pe_ix ix_seq (pv 0) pe_int (fun _ _ => rfl))) .nil)))))), ?_⟩
    obtain ⟨a, vs, rfl, ea, hv⟩ := tup_parts th
    cases hv with
    | cons h1 hr1 => cases hr1 with
      | cons h2 hr2 =>
        cases hr2
        cases h1
        cases h2
        have e1 := tO_same _ _ _ ea
        have n1 := tx.n
        have d1 := tx.d
        have p1 := tx.pos
        have l1 := zL_len n1
        have l2 := zL_len (i := x.2) (by omega)
        have v0 : Vi (tOp (rIx K) (tVar 0) (tC (.int 0))) (L2.start ["fraction"] [V.ref a]) H (.int x.1) := vi_at (vi_var rfl) e1 rfl
        have v1 : Vi (tOp (rIx K) (tVar 0) (tC (.int 1))) (L2.start ["fraction"] [V.ref a]) H (.int x.2) := vi_at (vi_var rfl) e1 rfl
        refine i_when (b := decide (x.2 = 1)) (ti_test (vi_op v1 vi_c fun Q q => ⟨rfl, by rw [show decide (V.int x.2 = V.int 1) = decide (x.2 = 1) by rw [Bool.eq_iff_iff, decide_eq_true_iff, decide_eq_true_iff]; simp]; exact q⟩)) (fun c => ?_) (fun c => ?_)
        · refine i_ret (vi_str v0 (by omega)) ?_
          have k' := k
          unfold pwF at k'
          rw [if_pos (of_decide_eq_true c)] at k'
          exact k'
        · refine i_ret (vi_fstr (w := zL x.1 ++ ([47] ++ (zL x.2 ++ []))) (.cons (vi_fmtI v0 (by omega)) (.cons (vi_lit (by decide +kernel)) (.cons (vi_fmtI v1 (by omega)) .nil))) (by simp; omega)) ?_
          have k' := k
          unfold pwF at k'
          rw [if_neg (of_decide_eq_false c)] at k'
          rw [List.append_nil]
          exact k'
theorem scSw : FnScope ["share"] ["share"] (defScope sShareWord) := ⟨rfl, rfl, rfl, by decide +kernel, rfl, by decide +kernel, by decide +kernel⟩
theorem ok_shareword {f fF : Addr} {fd fdF : FuncData} (F : Fun K "_share_word" "_share_word" sShareWord f fd) (T : TxD mg) (FF : FnOk P w K mg base CX0 1 fF fdF ["fraction"] spFracWord) (mF : mg "fraction_word" = some (.ref fF)) (kF : PySem.W.keepIn K (.ref fF) = true) (bF : Binds K fdF ["fraction"] []) :
    FnOk P w K mg base CX0 2 f fd ["share"] spShareWord := by
  refine F.ok scSw (fun vs H Q E h => ?_) (fun cdv A outer s H vs Q E hr h => ?_)
  · obtain ⟨_, _, _, rfl, _⟩ := h
    rfl
  · obtain ⟨v, s, u, rfl, th, g, hu, k⟩ := h
    refine ⟨_, pss_cons (ps_if (pt_cmpR op_eq (pe_ix ix_seq (pv 0) pe_int (fun _ _ => rfl)) pe_str (nomark _)) (pss_one (ps_ret (pe_joined (.cons pe_str (.cons (pe_fmt (pe_ix ix_seq (pv 0) pe_int (fun _ _ => rfl))) .nil))))) pss_nil)
      (pss_one (ps_ret (pe_call FF hr (by rfl) mF kF bF .nil pass0 (pa_cons (pv 0) pa_nil)))), ?_⟩
    obtain ⟨a, y, rfl, ea, hy⟩ := share_parts th
    have e1 := tO_same _ _ _ ea
    cases s with
    | inl j =>
      cases hy j rfl
      have hj : j < u := g
      have lz := zL_len (i := ((j : Nat) : Int)) (by omega)
      refine i_when (b := true) (ti_test (vi_op (vi_at (vi_var rfl) e1 rfl) vi_c fun Q q => ⟨rfl, by rw [show decide (markV (.inl j) = V.str "x") = true from decide_eq_true rfl]; exact q⟩)) (fun _ => ?_) (fun z => by cases z)
      refine i_ret (vi_fstr (w := [120] ++ (zL ((j : Nat) : Int) ++ [])) (.cons (vi_lit (by decide +kernel)) (.cons (vi_fmtI (vi_at (vi_var rfl) e1 rfl) (by omega)) .nil)) (by simp; omega)) ?_
      rw [List.append_nil]
      exact k
    | inr x =>
      refine i_when (b := false) (ti_test (vi_op (vi_at (vi_var rfl) e1 rfl) vi_c fun Q q => ⟨rfl, by rw [show decide (markV (.inr x) = V.str "x") = false from decide_eq_false fun z => by cases z]; exact q⟩)) (fun z => by cases z) (fun _ => ?_)
      exact ret_call (K := K) (ai_cons (vi_var rfl) ai_nil) ⟨_, x, rfl, th, g, k⟩
theorem scPr : FnScope ["pipe", "start", "end", "share", "goal"] ["pipe"] (defScope sPipeRow) := ⟨rfl, rfl, rfl, by decide +kernel, rfl, by decide +kernel, by decide +kernel⟩
theorem ok_piperow {f fF : Addr} {fd fdF : FuncData} (F : Fun K "_pipe_row" "_pipe_row" sPipeRow f fd) (T : TxD mg) (FF : FnOk P w K mg base CX0 2 fF fdF ["share"] spShareWord) (mF : mg "_share_word" = some (.ref fF)) (kF : PySem.W.keepIn K (.ref fF) = true) (bF : Binds K fdF ["share"] []) :
    FnOk P w K mg base CX0 3 f fd ["pipe"] spPipeRow := by
  refine F.ok scPr (fun vs H Q E h => ?_) (fun cdv A outer s H vs Q E hr h => ?_)
  · obtain ⟨_, _, _, _, rfl, _⟩ := h
    rfl
  · obtain ⟨v, p, m, u, rfl, th, g, hm, hu, k⟩ := h
    refine ⟨_, pss_cons (ps_asg (pv 0) (pg_tup rfl (pgs_cons (pg_name (i := 1) scPr.nd rfl (Or.inl rfl)) (pgs_cons (pg_name (i := 2) scPr.nd rfl (Or.inl rfl)) (pgs_cons (pg_name (i := 3) scPr.nd rfl (Or.inl rfl)) pgs_nil)))))
      (pss_cons (ps_set (i := 4) scPr.nd rfl (Or.inl rfl) (pe_ifExp (pt_cmpR op_isN (pv 2) pe_non (nomark _)) pe_str (pe_callTy call_str_int (by rfl) T.str (by decide +kernel) (pa_cons (pv 2) pa_nil))))
      (pss_one (ps_ret (pe_joined (.cons pe_str (.cons (pe_fmt (pv 1)) (.cons pe_str (.cons (pe_fmt (pv 4)) (.cons pe_str (.cons (pe_fmt (pe_call FF hr (by rfl) mF kF bF .nil pass0 (pa_cons (pv 3) pa_nil))) .nil)))))))))), ?_⟩
    obtain ⟨b, sv, rfl, eb, tsv⟩ := pipe_parts th
    have hs := g.s
    refine ⟨_, rfl, b, _, rfl, SqT.of (tO_same _ _ _ eb), rfl, _, _, rfl, _, _, rfl, _, _, rfl, rfl, ?_⟩
    change tSeq _ _ _ [some (.ref b), some (.int (p.s : Nat)), some (enV p.e), some sv, none] _
    have enV' : Vi (tIf (tTest (tOp (fun x y H Q => y = .non ∧ Q (.bl (decide (x = .non))) H) (tVar 2) (tC .non))) (tC (.str "out")) (tCB (fun xs H Q => ∃ i, xs = [.int i] ∧ i.natAbs.log2 < 1920 ∧ Q (.str (toString i)) H) (tCons (tVar 2) tNil))) [some (.ref b), some (.int (p.s : Nat)), some (enV p.e), some sv, none] H (.str (S (enW p.e))) := by
      cases qe : p.e with
      | none => exact vi_same (vi_if (b := true) (u := .non) (ti_test (vi_isN (vi_var rfl) rfl)) (fun _ => vi_c) fun z => by cases z) (by show V.str "out" = V.str (S cOut); exact congrArg V.str (by decide +kernel))
      | some k =>
        have := g.e k qe
        exact vi_same (vi_if (b := false) (v := .non) (ti_test (vi_isN (vi_var rfl) rfl)) (fun z => by cases z) fun _ => vi_str (i := (k : Nat)) (vi_var rfl) (by omega)) rfl
    refine i_set enV' ?_
    have l1 := zL_len (i := ((p.s : Nat) : Int)) (by omega)
    have l2 : (enW p.e).length ≤ 4 := by
      cases qe : p.e with
      | none => decide
      | some k =>
        have := g.e k qe
        exact zL_len (by omega)
    have l3 := (wk_share g.sh hu).len
    refine i_ret (vi_fstr (w := [112, 105, 112, 101, 32] ++ (zL ((p.s : Nat) : Int) ++ ([32] ++ (enW p.e ++ ([32] ++ (shW p.sh ++ [])))))) (.cons (vi_lit (by decide +kernel)) (.cons (vi_fmtI (vi_var rfl) (by omega)) (.cons (vi_lit (by decide +kernel)) (.cons (vi_fmtS (vi_var rfl) (by omega)) (.cons (vi_lit (by decide +kernel))
      (.cons (vi_fmtS (vi_call (ai_cons (vi_var rfl) ai_nil) fun Q q => ⟨_, _, u, rfl, tsv, g.sh, hu, q⟩) (by omega)) .nil)))))) (by simp; omega)) ?_
    rw [List.append_nil]
    exact k
end
end KP

set_option Elab.async false
set_option linter.all false
set_option maxRecDepth 100000
set_option maxHeartbeats 4000000
/-! ### the program's text of a net -/
namespace KP
open PySem PySem.Spec PyProof.Rows L2 KX KT KJ KS FR PT SX
section
variable {K : PySem.W.Frag} {σ : L2.St} {H : Hp}
theorem cat_rowV {tn ti : TE} {j : Nat} {vs : List Nat} {a : Addr} {ns : List Nat} {nm : Cs} {Q : VK} (hv : Vi tn σ H (.str (S nm))) (h : ∀ G, Same H G → Vi ti σ G (.ref a)) (ha : Rd H a (.tup (ns.map fun n => V.int ((n : Nat) : Int)))) (hn : ns.length ≤ 100) (hb : ∀ n ∈ ns, n ≤ 999)
    (hw : ∀ x : V, wipe ((wipe σ vs).set j (some x)) vs = wipe σ vs) (hj : ∀ x : V, ((wipe σ vs).set j (some x))[j]? = some (some x)) (k : ∀ p H', H p = none → Same H H' → H' p = some (.lst (sL (trow nm ns))) → Q (.ref p) H') :
    tOp rCat (tLst (tCons tn tNil)) (tLc (iTup K ti) (gName j) tYes (tCB (fun xs H Q => ∃ i, xs = [.int i] ∧ i.natAbs.log2 < 1920 ∧ Q (.str (toString i)) H) (tCons (tVar j) tNil)) vs) σ H Q := by
  refine hv _ ⟨by show 1 ≤ sizeLine; decide, fun l hl => ?_⟩
  have s1 := same_upd (o := .lst [V.str (S nm)]) hl
  refine lc_strs (h _ s1) (s1.rd ha) hn hb hw hj fun b H2 nb s2 eb => ?_
  refine ⟨l, b, _, _, rfl, rfl, s2 _ _ upd_same, eb, ?_, fun p hp => ?_⟩
  · rw [sL_len, List.length_map]
    exact Nat.le_trans (show 1 + ns.length ≤ 101 by omega) (by decide)
  · have s3 := same_upd (o := .lst ([V.str (S nm)] ++ sL (ns.map fun n => zL ((n : Nat) : Int)))) hp
    exact k p _ (none_same (s1.trans s2) hp) ((s1.trans s2).trans s3) upd_same
theorem sum_len {ls : List Cs} {B : Nat} (h : ∀ l ∈ ls, l.length ≤ B) : ((ls.map S).map fun x : Str => x.length).sum ≤ ls.length * B := by
  have := sum_le (f := fun x : Str => x.length) (B := B) (l := ls.map S) fun x hx => by
    obtain ⟨l, hl, rfl⟩ := List.mem_map.mp hx
    rw [S_len]
    exact h l hl
  rwa [List.length_map] at this
end
def spTanksRow : Sp := fun vs H Q _ => ∃ v nm ns, vs = [.str (S nm), v] ∧ Th (tO H) v (.tuple (natsD ns)) ∧ ns.length ≤ 4 ∧ (∀ n ∈ ns, n ≤ 999) ∧ nm.length ≤ 8 ∧ ∀ H', Same H H' → Q (.str (S (TL.joinL [32] (trow nm ns)))) H'
def spTextOf (Ps : List Addr) : Sp := fun vs H Q _ => ∃ v n, vs = [v] ∧ Th (tO H) v (NetM.d n) ∧ GoodN n ∧ Tbs Ps H ∧ ∀ H', Grown Ps H H' → Q (.str (S (textN n))) H'
theorem joinL_len : ∀ (ws : List Cs) (B : Nat), (∀ w ∈ ws, w.length ≤ B) → (TL.joinL [32] ws).length ≤ ws.length * (B + 1)
  | [], B, _ => Nat.zero_le _
  | [w], B, h => by
    have := h w List.mem_cons_self
    show w.length ≤ 1 * (B + 1)
    omega
  | w :: w2 :: r, B, h => by
    have h1 := h w List.mem_cons_self
    have ih := joinL_len (w2 :: r) B fun x hx => h x (List.mem_cons_of_mem _ hx)
    show (w ++ ([32] ++ TL.joinL [32] (w2 :: r))).length ≤ _
    rw [List.length_append, List.length_append]
    have e : (w :: w2 :: r).length = (w2 :: r).length + 1 := rfl
    rw [e, Nat.add_mul]
    simp only [List.length_singleton]
    omega
theorem cons1 {σ : L2.St} {H : Hp} {te : TE} {QA : List V → Hp → Prop} (h : te σ H fun v H1 => QA [v] H1) : tCons te tNil σ H QA := h
section
variable {P : Program} {w : World} {K : PySem.W.Frag} {mg : Str → Option Value} {base : Heap}
theorem scTr : FnScope ["name", "tanks", "tank"] ["name", "tanks"] (defScope sTanksRow) := ⟨rfl, rfl, rfl, by decide +kernel, rfl, by decide +kernel, by decide +kernel⟩
theorem ok_tanksrow {f : Addr} {fd : FuncData} (F : Fun K "_tanks_row" "_tanks_row" sTanksRow f fd) (T : TxD mg) : FnOk P w K mg base CX0 1 f fd ["name", "tanks"] spTanksRow := by
  refine F.ok scTr (fun vs H Q E h => ?_) (fun cdv A outer s H vs Q E hr h => ?_)
  · obtain ⟨_, _, _, rfl, _⟩ := h
    rfl
  · obtain ⟨v, nm, ns, rfl, th, hl, hb, hnm, k⟩ := h
    refine ⟨_, pss_one (ps_ret (pe_join pe_str (pe_op op_cat (pe_lst (pa_cons (pv 0) pa_nil)) (pe_lc (own := [("tank", 2)]) (g := gName 2) (tt := tYes) rfl scTr.nd (pi_tup (pv 1)) (blkOk_by (N := ["name", "tanks", "tank"]) (sc := defScope sTanksRow) (by decide +kernel))
          (fun _ _ _ _ _ => pg_name (i := 2) scTr.nd rfl (Or.inl rfl)) (fun _ _ _ _ _ => pts_nil) (fun _ _ _ _ _ => pe_callTy call_str_int (by rfl) T.str (by decide +kernel) (pa_cons (pv 2) pa_nil)))))), ?_⟩
    obtain ⟨a, rfl, ea⟩ := nats_tup th
    refine ⟨⟨_, rfl⟩, ?_⟩
    refine cat_rowV (σ := L2.start ["name", "tanks", "tank"] [.str (S nm), .ref a]) (j := 2) (vs := [2]) (vi_var rfl) (fun G _ => vi_var rfl) (tO_same _ _ _ ea) (by omega) hb (by intro x; rfl) (by intro x; rfl) fun p H' hp s ep => ?_
    have lw : ∀ w ∈ trow nm ns, w.length ≤ 8 := fun w hw => by
      rcases List.mem_cons.mp hw with rfl | hw
      · exact hnm
      · obtain ⟨x, hx, rfl⟩ := List.mem_map.mp hw
        have := hb x hx
        have := zL_len (i := ((x : Nat) : Int)) (by omega)
        omega
    have ll : (trow nm ns).length ≤ 5 := by
      show (ns.map _).length + 1 ≤ 5
      rw [List.length_map]
      omega
    have e1 : (" " : Str).length = 1 := by rw [blank_eq, S_len]; rfl
    refine ⟨" ", p, (trow nm ns).map S, rfl, rfl, .inl (SqL.of (by rw [ep, List.map_map]; rfl)), ?_, ?_⟩
    · have := sum_len lw
      have := Nat.mul_le_mul_right 8 ll
      rw [e1, List.length_map]
      omega
    · rw [blank_eq, join_S]
      exact k H' s
theorem scTx : FnScope ["net", "many", "unknowns", "pipes", "filled", "seen", "rows", "pipe"] ["net"] (defScope sTextOf) := ⟨rfl, rfl, rfl, by decide +kernel, rfl, by decide +kernel, by decide +kernel⟩
theorem ok_textof {f fN fP fT : Addr} {fd fdN fdP fdT : FuncData} {Ps : List Addr} (F : Fun K "text_of" "text_of" sTextOf f fd) (T : TxD mg)
    (FN : FnOk P w K mg base CX0 9 fN fdN ["net"] (spNeedNet Ps)) (mN : mg "need_net" = some (.ref fN)) (kN : PySem.W.keepIn K (.ref fN) = true) (bN : Binds K fdN ["net"] [])
    (FP : FnOk P w K mg base CX0 3 fP fdP ["pipe"] spPipeRow) (mP : mg "_pipe_row" = some (.ref fP)) (kP : PySem.W.keepIn K (.ref fP) = true) (bP : Binds K fdP ["pipe"] [])
    (FT : FnOk P w K mg base CX0 1 fT fdT ["name", "tanks"] spTanksRow) (mT : mg "_tanks_row" = some (.ref fT)) (kT : PySem.W.keepIn K (.ref fT) = true) (bT : Binds K fdT ["name", "tanks"] []) :
    FnOk P w K mg base CX0 10 f fd ["net"] (spTextOf Ps) := by
  refine F.ok scTx (fun vs H Q E h => ?_) (fun cdv A outer s H vs Q E hr h => ?_)
  · obtain ⟨_, _, rfl, _⟩ := h
    rfl
  · obtain ⟨v, n, rfl, th, g, tb, k⟩ := h
    have hr1 : Room 1 _ := hr.mono (by decide)
    have hr3 : Room 3 _ := hr.mono (by decide)
    refine ⟨_, pss_cons (ps_expr (pe_call FN hr (by rfl) mN kN bN .nil pass0 (pa_cons (pv 0) pa_nil)))
      (pss_cons (ps_asg (pv 0) (pg_tup rfl (pgs_cons (pg_name (i := 1) scTx.nd rfl (Or.inl rfl)) (pgs_cons (pg_name (i := 2) scTx.nd rfl (Or.inl rfl)) (pgs_cons (pg_name (i := 3) scTx.nd rfl (Or.inl rfl)) (pgs_cons (pg_name (i := 4) scTx.nd rfl (Or.inl rfl)) (pgs_cons (pg_name (i := 5) scTx.nd rfl (Or.inl rfl)) pgs_nil)))))))
      (pss_cons (ps_set (i := 6) scTx.nd rfl (Or.inl rfl) (pe_lst (pa_cons (pe_joined (.cons pe_str (.cons (pe_fmt (pv 1)) .nil))) (pa_cons (pe_joined (.cons pe_str (.cons (pe_fmt (pv 2)) .nil))) pa_nil))))
      (pss_cons (ps_expr (pe_bm PySem.F.plainAttrs_list PySem.F.slot_list_extend PySem.F.type_list_extend mt_extend (pv 6) (pa_cons (pe_lc (own := [("pipe", 7)]) (g := gName 7) (tt := tYes) rfl scTx.nd (pi_tup (pv 3)) (blkOk_by (N := ["net", "many", "unknowns", "pipes", "filled", "seen", "rows", "pipe"]) (sc := defScope sTextOf) (by decide +kernel))
          (fun _ _ _ _ _ => pg_name (i := 7) scTx.nd rfl (Or.inl rfl)) (fun _ _ _ _ _ => pts_nil) (fun _ _ _ _ _ => pe_call FP hr3 (by rfl) mP kP bP .nil pass0 (pa_cons (pv 7) pa_nil))) pa_nil)))
      (pss_cons (ps_expr (pe_bm PySem.F.plainAttrs_list PySem.F.slot_list_append PySem.F.type_list_append mt_append (pv 6) (pa_cons (pe_call FT hr1 (by rfl) mT kT bT .nil pass0 (pa_cons pe_str (pa_cons (pv 4) pa_nil))) pa_nil)))
      (pss_cons (ps_expr (pe_bm PySem.F.plainAttrs_list PySem.F.slot_list_append PySem.F.type_list_append mt_append (pv 6) (pa_cons (pe_call FT hr1 (by rfl) mT kT bT .nil pass0 (pa_cons pe_str (pa_cons (pv 5) pa_nil))) pa_nil)))
      (pss_one (ps_ret (pe_join pe_str (pv 6))))))))), ?_⟩
    refine a_call (ai_cons (vi_var rfl) ai_nil) ⟨_, n, rfl, g, th, tb, fun H1 g1 => ?_⟩
    have th1 := th.tk (Tk.sm g1.sm)
    obtain ⟨a, ps, fs, ss, rfl, ea, tps, tfs, tss⟩ := net_thp th1
    obtain ⟨pa, pvs, rfl, ep, tpv⟩ := tup_parts tps
    have m4 := g.m4
    have u4 := g.u4
    have l12 := g.len
    have gm : ∀ {ns : List Nat}, GoodT n.m ns → ns.length ≤ 4 ∧ ∀ x ∈ ns, x ≤ 999 := fun {ns} gt => ⟨by have := gt.len; omega, fun x hx => by have := gt.lt x hx; omega⟩
    dsimp only
    refine ⟨_, rfl, a, _, rfl, SqT.of (tO_same _ _ _ ea), rfl, _, _, rfl, _, _, rfl, _, _, rfl, _, _, rfl, _, _, rfl, rfl, ?_⟩
    dsimp only
    refine i_asg ?_
    have lm := zL_len (i := ((n.m : Nat) : Int)) (by omega)
    have lu := zL_len (i := ((n.u : Nat) : Int)) (by omega)
    refine cons_vi (vi_fstr (w := [116, 97, 110, 107, 115, 32] ++ (zL ((n.m : Nat) : Int) ++ [])) (.cons (vi_lit (by decide +kernel)) (.cons (vi_fmtI (vi_var rfl) (by omega)) .nil)) (by simp; omega)) ?_
    refine cons_vi (vi_fstr (w := [117, 110, 107, 110, 111, 119, 110, 115, 32] ++ (zL ((n.u : Nat) : Int) ++ [])) (.cons (vi_lit (by decide +kernel)) (.cons (vi_fmtI (vi_var rfl) (by omega)) .nil)) (by simp; omega)) ?_
    refine ⟨by show 2 ≤ sizeLine; decide, fun pr hpr => ?_⟩
    have e0 : ([V.str (S ([116, 97, 110, 107, 115, 32] ++ (zL ((n.m : Nat) : Int) ++ []))), .str (S ([117, 110, 107, 110, 111, 119, 110, 115, 32] ++ (zL ((n.u : Nat) : Int) ++ [])))] : List V) = sL ([[cTanks, zL (n.m : Nat)], [cUnk, zL (n.u : Nat)]].map (TL.joinL [32])) := by
      rw [List.append_nil, List.append_nil]
      rfl
    rw [e0]
    have s2 := same_upd (o := .lst (sL ([[cTanks, zL (n.m : Nat)], [cUnk, zL (n.u : Nat)]].map (TL.joinL [32])))) hpr
    have e2 : (upd H1 pr (.lst (sL ([[cTanks, zL (n.m : Nat)], [cUnk, zL (n.u : Nat)]].map (TL.joinL [32]))))) pr = some (.lst (sL ([[cTanks, zL (n.m : Nat)], [cUnk, zL (n.u : Nat)]].map (TL.joinL [32])))) := upd_same
    have g2 := Grown.same s2 g1.tbs
    generalize upd H1 pr (.lst (sL ([[cTanks, zL (n.m : Nat)], [cUnk, zL (n.u : Nat)]].map (TL.joinL [32])))) = H2 at *
    -- the pipes' rows
    refine ⟨_, rfl, .inl ⟨rfl, _, SqL.of e2⟩, cons1 ?_⟩
    have lp : pvs.length = n.ps.length := by rw [all2 tpv, List.length_map]
    have k2 := Tk.sm g2.sm
    refine ⟨_, rfl, pa, rfl, ⟨pvs, SqT.of (tO_same _ _ _ (k2 _ _ ep))⟩, fun D hD => ?_⟩
    refine lc_map (walk_tup (K := K) (a := pa) (xs := pvs)) (fun H' ys i => ys = sL ((n.ps.take i).map fun p => TL.joinL [32] (prow p)) ∧ i ≤ n.ps.length) hD (by omega) (fun _ _ i q => by rw [q.1, sL_len, List.length_map, List.length_take]; have := q.2; omega) ⟨rfl, Nat.zero_le _⟩
      (fun H' s => SqT.of (tO_same _ _ _ ((k2.trans (Tk.same s)) _ _ ep))) (by intro x; rfl) ?_ ?_
    · rintro i x _ H' xs hi s e hlx ⟨q, hle⟩ ⟨rfl, hx⟩
      obtain ⟨d, hd, td⟩ := all_get tpv hx
      have hip : i < n.ps.length := by omega
      have epi := List.getElem?_eq_getElem hip
      rw [List.getElem?_map, epi] at hd
      cases hd
      have gp := g.ps _ (List.getElem_mem hip)
      refine a_call (ai_cons (vi_var rfl) ai_nil) ⟨x, n.ps[i], n.m, n.u, rfl, td.tk (k2.trans (Tk.same s)), gp, m4, u4, ?_⟩
      refine aft hD s e hlx ⟨?_, by omega⟩
      rw [q, List.take_add_one, epi, Option.toList_some, List.map_append]
      unfold sL
      rw [List.map_append]
      rfl
    rintro H3 zs s3 eD ⟨rfl, _⟩
    rw [List.take_of_length_le (by omega)] at eD
    have e3 := s3 _ _ e2
    have nDp : D ≠ pr := fun z => by rw [z, e2] at hD; cases hD
    refine ⟨pr, D, _, _, rfl, rfl, e3, eD, ?_, ?_⟩
    · rw [sL_len, sL_len, List.length_map, List.length_map]
      exact Nat.le_trans (show _ ≤ 20 by simp; omega) (by decide)
    have g3 := Grown.put (o := .lst (sL ([[cTanks, zL (n.m : Nat)], [cUnk, zL (n.u : Nat)]].map (TL.joinL [32])) ++ sL (n.ps.map fun p => TL.joinL [32] (prow p)))) (g2.trans (Grown.same s3 g2.tbs)) hpr g1.tbs
    have e4 : (upd H3 pr (.lst (sL ([[cTanks, zL (n.m : Nat)], [cUnk, zL (n.u : Nat)]].map (TL.joinL [32])) ++ sL (n.ps.map fun p => TL.joinL [32] (prow p))))) pr = some (.lst (sL (([[cTanks, zL (n.m : Nat)], [cUnk, zL (n.u : Nat)]] ++ n.ps.map prow).map (TL.joinL [32])))) := by
      rw [upd_same, List.map_append, List.map_map]
      unfold sL
      rw [List.map_append]
      rfl
    dsimp only
    generalize upd H3 pr (.lst (sL ([[cTanks, zL (n.m : Nat)], [cUnk, zL (n.u : Nat)]].map (TL.joinL [32])) ++ sL (n.ps.map fun p => TL.joinL [32] (prow p)))) = H4 at *
    obtain ⟨lf, bf⟩ := gm g.fs
    obtain ⟨ls, bs⟩ := gm g.ss
    have app : ∀ (ws : List Cs) (w : Cs), ws.length ≤ 30 → (sL ws).length < sizeLine ∧ sL ws ++ [V.str (S w)] = sL (ws ++ [w]) := fun ws w h => ⟨by rw [sL_len]; exact Nat.lt_of_le_of_lt h (by decide), by unfold sL; rw [List.map_append]; rfl⟩
    have l4 : ((([[cTanks, zL (n.m : Nat)], [cUnk, zL (n.u : Nat)]] ++ n.ps.map prow).map (TL.joinL [32]))).length ≤ 14 := by
      simp
      omega
    refine ⟨_, rfl, .inl ⟨rfl, _, SqL.of e4⟩, cons_call (ai_cons vi_c (ai_cons (vi_var rfl) ai_nil)) ⟨_, cFilled, n.fs, by rw [filled_eq], tfs.tk (Tk.sm g3.sm), lf, bf, by decide, fun H5 s5 => ?_⟩⟩
    obtain ⟨z1, z2⟩ := app _ (TL.joinL [32] (trow cFilled n.fs)) (Nat.le_trans l4 (by decide))
    refine ⟨pr, _, _, rfl, rfl, s5 _ _ e4, z1, ?_⟩
    rw [z2]
    have g5 := Grown.put (o := .lst (sL ((([[cTanks, zL (n.m : Nat)], [cUnk, zL (n.u : Nat)]] ++ n.ps.map prow).map (TL.joinL [32])) ++ [TL.joinL [32] (trow cFilled n.fs)]))) (g3.trans (Grown.same s5 g3.tbs)) hpr g1.tbs
    have e6 : (upd H5 pr (.lst (sL ((([[cTanks, zL (n.m : Nat)], [cUnk, zL (n.u : Nat)]] ++ n.ps.map prow).map (TL.joinL [32])) ++ [TL.joinL [32] (trow cFilled n.fs)])))) pr = _ := upd_same
    dsimp only
    generalize upd H5 pr (.lst (sL ((([[cTanks, zL (n.m : Nat)], [cUnk, zL (n.u : Nat)]] ++ n.ps.map prow).map (TL.joinL [32])) ++ [TL.joinL [32] (trow cFilled n.fs)]))) = H6 at *
    refine ⟨_, rfl, .inl ⟨rfl, _, SqL.of e6⟩, cons_call (ai_cons vi_c (ai_cons (vi_var rfl) ai_nil)) ⟨_, cSeen, n.ss, by rw [seen_eq], tss.tk (Tk.sm g5.sm), ls, bs, by decide, fun H7 s7 => ?_⟩⟩
    obtain ⟨z3, z4⟩ := app ((([[cTanks, zL (n.m : Nat)], [cUnk, zL (n.u : Nat)]] ++ n.ps.map prow).map (TL.joinL [32])) ++ [TL.joinL [32] (trow cFilled n.fs)]) (TL.joinL [32] (trow cSeen n.ss)) (by rw [List.length_append]; simp only [List.length_singleton]; omega)
    refine ⟨pr, _, _, rfl, rfl, s7 _ _ e6, z3, ?_⟩
    rw [z4]
    have er : (([[cTanks, zL (n.m : Nat)], [cUnk, zL (n.u : Nat)]] ++ n.ps.map prow).map (TL.joinL [32])) ++ [TL.joinL [32] (trow cFilled n.fs)] ++ [TL.joinL [32] (trow cSeen n.ss)] = (rowsN n).map (TL.joinL [32]) := by
      unfold rowsN
      simp only [List.map_append, List.map_cons, List.map_nil]
    rw [er]
    have g7 := Grown.put (o := .lst (sL ((rowsN n).map (TL.joinL [32])))) (g5.trans (Grown.same s7 g5.tbs)) hpr g1.tbs
    obtain ⟨wk, ln, _⟩ := rows_wk g
    have lw : ∀ l ∈ (rowsN n).map (TL.joinL [32]), l.length ≤ 45 := fun l hl => by
      obtain ⟨r, hr, rfl⟩ := List.mem_map.mp hl
      have h1 := joinL_len r 8 fun w hw => ((wk r hr).2 w hw).len
      have h2 := Nat.mul_le_mul_right 9 (wk r hr).1
      omega
    have e1 : ("\n" : Str).length = 1 := by rw [nl_eq, S_len]; rfl
    refine ⟨⟨_, rfl⟩, _, rfl, "\n", pr, ((rowsN n).map (TL.joinL [32])).map S, rfl, rfl, .inl (SqL.of (by rw [upd_same]; unfold sL; rw [List.map_map, List.map_map, List.map_map]; rfl)), ?_, ?_⟩
    · have h1 := sum_len lw
      rw [List.length_map] at h1
      have h2 := Nat.mul_le_mul_right 45 ln
      rw [e1, List.length_map, List.length_map]
      omega
    · rw [nl_eq, join_S]
      exact k _ (g1.trans g7)
end
end KP

set_option Elab.async false
set_option linter.all false
set_option maxRecDepth 100000
set_option maxHeartbeats 4000000
/-! ### what the law's check of one jar leans on -/
namespace KP
open PySem PySem.Spec PyProof.Rows L2 KX KT KJ KS FR PT SX
theorem map_inj {α β : Type} {f : α → β} (hf : ∀ x y, f x = f y → x = y) : ∀ {l l' : List α}, l.map f = l'.map f → l = l'
  | [], [], _ => rfl
  | [], _ :: _, h => by cases h
  | _ :: _, [], h => by cases h
  | x :: l, y :: l', h => by
    rw [List.map_cons, List.map_cons] at h
    injection h with h1 h2
    rw [hf _ _ h1, map_inj hf h2]
theorem nat_inj {i j : Nat} (h : PyData.int (i : Nat) = .int (j : Nat)) : i = j := by
  injection h with h
  omega
theorem enD_inj : ∀ x y : Option Nat, enD x = enD y → x = y
  | none, none, _ => rfl
  | none, some _, h => by cases h
  | some _, none, h => by cases h
  | some i, some j, h => by rw [nat_inj h]
theorem shD_inj : ∀ x y : Nat ⊕ Fr, shD x = shD y → x = y
  | .inl i, .inl j, h => by
    injection h with h
    injection h with _ h
    injection h with h _
    rw [nat_inj h]
  | .inl i, .inr y, h => by
    injection h with h
    injection h with h _
    cases h
  | .inr x, .inl j, h => by
    injection h with h
    injection h with h _
    cases h
  | .inr x, .inr y, h => by
    obtain ⟨a, b⟩ := x
    obtain ⟨c, d⟩ := y
    injection h with h
    injection h with h1 h
    injection h with h2 _
    injection h1 with h1
    injection h2 with h2
    subst h1
    subst h2
    rfl
theorem ppD_inj : ∀ p q : Pp, ppD p = ppD q → p = q
  | ⟨s, e, sh⟩, ⟨s', e', sh'⟩, h => by
    injection h with h
    injection h with h1 h
    injection h with h2 h
    injection h with h3 _
    have a := nat_inj h1
    have b := enD_inj _ _ h2
    have c := shD_inj _ _ h3
    subst a
    subst b
    subst c
    rfl
theorem net_inj : ∀ {n n' : NetM}, n.d = n'.d → n = n'
  | ⟨m, u, ps, fs, ss⟩, ⟨m', u', ps', fs', ss'⟩, h => by
    unfold NetM.d at h
    injection h with h
    injection h with h1 h
    injection h with h2 h
    injection h with h3 h
    injection h with h4 h
    injection h with h5 _
    injection h3 with h3
    injection h4 with h4
    injection h5 with h5
    have a := nat_inj h1
    have b := nat_inj h2
    have c := map_inj ppD_inj h3
    have d := map_inj (fun _ _ => nat_inj) h4
    have e := map_inj (fun _ _ => nat_inj) h5
    subst a
    subst b
    subst c
    subst d
    subst e
    rfl
theorem plainAll_of : ∀ {ds : List PyData}, (∀ d ∈ ds, plain d = true) → plainAll ds = true
  | [], _ => rfl
  | d :: ds, h => by
    show (plain d && plainAll ds) = true
    rw [h d List.mem_cons_self, plainAll_of fun x hx => h x (List.mem_cons_of_mem _ hx)]
    rfl
theorem plain_nats (ns : List Nat) : plainAll (natsD ns) = true := plainAll_of fun d hd => by
  obtain ⟨i, _, rfl⟩ := List.mem_map.mp hd
  rfl
theorem plain_pp (p : Pp) : plain (ppD p) = true := by
  obtain ⟨s, e, sh⟩ := p
  cases e <;> cases sh <;> rfl
theorem plain_net (n : NetM) : plain n.d = true := by
  have h : plainAll (n.ps.map ppD) = true := plainAll_of fun d hd => by
    obtain ⟨p, _, rfl⟩ := List.mem_map.mp hd
    exact plain_pp p
  show (plain (.int (n.m : Nat)) && (plain (.int (n.u : Nat)) && (plainAll (n.ps.map ppD) && (plainAll (natsD n.fs) && (plainAll (natsD n.ss) && true))))) = true
  rw [h, plain_nats, plain_nats]
  rfl
theorem shown_same {n n' : NetM} (g : GoodN n) (g' : GoodN n') : decide (V.str (S (textN n)) = V.str (S (textN n'))) = decide (V.str n.d.shown = V.str n'.d.shown) := by
  rw [Bool.eq_iff_iff, decide_eq_true_iff, decide_eq_true_iff]
  constructor
  · intro h
    have e : textN n = textN n' := by
      have := congrArg (fun v : V => match v with | .str s => s.cps.toList | _ => []) h
      simpa [S_tl] using this
    rw [text_inj g g' e]
  · intro h
    injection h with h
    rw [net_inj (shown_inj (plain_net n) (plain_net n') h)]
/-- lines, and what they tell -/
theorem lines_tame {ls : List Cs} (hn : ls ≠ []) (hl : ls.length ≤ 50) (h : ∀ l ∈ ls, Calm l ∧ l.length ≤ 400) : TameT (TL.joinL [10] ls) ∧ rowsT (TL.joinL [10] ls) = ls.map wordsW ∧ (∀ r ∈ rowsT (TL.joinL [10] ls), r.length ≤ 401 ∧ ∀ w ∈ r, w.length ≤ 400) ∧ (rowsT (TL.joinL [10] ls)).length ≤ 53 ∧ ∀ c ∈ TL.joinL [10] ls, c < 128 := by
  have r0 : Lns 2 [] := ⟨rfl, by decide, by decide, fun c hc => by cases hc⟩
  have z := Lns.join r0 (fun k _ => rfl) ls h
  rw [List.append_nil] at z
  have z52 := z.mono (show ls.length + 2 ≤ 52 by omega)
  exact ⟨lns_tame z52 (by decide), rowsT_join hn fun l hl' m => ((h l hl').1 10 m).2 rfl, fun r hr => ⟨(lns_row z52 r hr).1, fun w hw => ((lns_row z52 r hr).2 w hw).1⟩, lns_len z52, z52.asc⟩
theorem words_calm {ws : List Cs} (h : ∀ w ∈ ws, Wk w) : Calm (TL.joinL [32] ws) := join_calm fun w hw => (h w hw).calm
/-- sep.join(..) in a comprehension -/
def tJn (K : PySem.W.Frag) (to te : TE) : TE := tM1 (fun x xs H Q => ∃ a p, ∃ ys : List Str, x = .str a ∧ xs = [.ref p] ∧ (SqL K H p (ys.map V.str) ∨ SqT K H p (ys.map V.str)) ∧ (ys.map (·.length)).sum + ys.length * a.length ≤ 16777216 ∧ Q (.str (Txt.join a ys)) H) to te
theorem pe_joinK {X : Cx} {o e : Expr} {to te : TE} {K0 : PySem.W.Frag} {apos pos : Pos} (hK : X.K = K0) (ho : PE X o to) (he : PE X e te) (hs : starEach [e] X.env = [(false, eval e X.env)] := by rfl) (hbase : attributeBase o "join" X.env (eval o X.env) = eval o X.env := by rfl) (hline : (apos.endLine == pos.line) = true := by rfl) :
    PE X (.Call (.Attribute o "join" apos) [e] [] pos) (tJn K0 to te) := by
  subst hK
  exact pe_join ho he hs hbase hline
section
variable {K : PySem.W.Frag} {σ : L2.St} {H : Hp}
/-- [" ".join(row) for row in rows] -/
theorem lc_joins {a j' : Addr} {vr : List V} {rows : List (List Cs)} {i : Nat} {vs : List Nat} {Qd : Hp → Prop} {m : Nat} {D : Addr} (hD : H D = none) (ea : H a = some (.lst vr)) (hR : Rws (hid j' H) vr rows) (hn : rows.length ≤ 50) (hm : m ≤ 60) (hk : ∀ r ∈ rows, r.length ≤ m ∧ ∀ w ∈ r, Wk w)
    (hw : ∀ x : V, wipe ((wipe σ vs).set i (some x)) vs = wipe σ vs) (hi : ∀ x : V, ((wipe σ vs).set i (some x))[i]? = some (some x)) (k : ∀ H', Same H H' → H' D = some (.lst (sL (rows.map (TL.joinL [32])))) → Qd H') :
    ∃ W : Nat → Nat → Hp → Prop, (∃ m, W 0 m (upd H D (.lst []))) ∧ ∀ n m H', W n m H' →
      ((Itl K a).stop n H' ∧ Qd H') ∨ ((Itl K a).go n H' ∧ ∃ Nx : Hp → Prop, (∀ H', Nx H' → ∃ m', m' < m ∧ W (n + 1) m' H') ∧ ∀ x H'', (Itl K a).yld n H' x H'' → gName i x (wipe σ vs) H'' fun σ2 H2 => wipe σ2 vs = wipe σ vs ∧ tYes σ2 H2 fun b H3 =>
        if b = true then tJn K (tC (.str " ")) (tVar i) σ2 H3 fun y H4 => ∃ acc, H4 D = some (.lst acc) ∧ acc.length < sizeLine ∧ Nx (upd H4 D (.lst (acc ++ [y]))) else Nx H3) := by
  have lvr := hR.len
  refine lc_map (walk_list (K := K) (a := a) (xs := vr)) (fun H' ys n => ys = sL ((rows.take n).map (TL.joinL [32])) ∧ n ≤ rows.length) hD (by omega) (fun _ _ n q => by rw [q.1, sL_len, List.length_map, List.length_take]; have := q.2; omega) ⟨rfl, Nat.zero_le _⟩
    (fun H' s => SqL.of (s _ _ ea)) hw ?_ ?_
  · rintro n x _ H' xs hn' s e hlx ⟨q, hle⟩ ⟨rfl, hx⟩
    obtain ⟨r, er⟩ : ∃ r, rows[n]? = some r := ⟨_, List.getElem?_eq_getElem (by omega)⟩
    have hR' : Rws (hid j' H') vr rows := hR.sm (Sm.same (hid_but (KJ.But.same s)))
    obtain ⟨_, hv, c, rfl, ec⟩ := hR'.at er
    rw [hx] at hv
    cases hv
    obtain ⟨_, ec⟩ := hidAt ec
    obtain ⟨lr, wr⟩ := hk r (List.mem_of_getElem? er)
    have e1 : (" " : Str).length = 1 := by rw [blank_eq, S_len]; rfl
    refine ⟨⟨_, rfl⟩, _, hi _, " ", c, r.map S, rfl, rfl, .inl (SqL.of (by rw [ec, List.map_map]; rfl)), ?_, ?_⟩
    · have h1 := sum_len fun w hw => (wr w hw).len
      have := Nat.mul_le_mul_right 8 lr
      rw [e1, List.length_map]
      omega
    · refine aft hD s e hlx ⟨?_, by omega⟩
      rw [blank_eq, join_S, q, List.take_add_one, er, Option.toList_some, List.map_append]
      unfold sL
      rw [List.map_append]
      rfl
  · rintro H' xs s e ⟨rfl, _⟩
    rw [List.take_of_length_le (by omega)] at e
    exact k H' s e
theorem shw_lst {l : Addr} {vs : List V} {ds : List PyData} (hl : ds.length ≤ 4) (hd : ∀ d ∈ ds, Sw 4000000 5 d) (e : H l = some (.lst vs)) (th : DpAll K H vs ds) : Shw K H (.ref l) (.list ds) := by
  have z := sw_lst (k := 4) (L := 4000000) (n := 5) (ds := ds) hd hl
  exact ⟨z.ok, Nat.le_trans z.len (by decide), Nat.le_trans z.dep (by decide), .inl ⟨z.nod, .lst (SqL.of e) th⟩⟩
theorem shw_of {v : V} {d : PyData} (hd : Sw 4000000 5 d) (th : Th H v d) : Shw K H v d := ⟨hd.ok, Nat.le_trans hd.len (by decide), Nat.le_trans hd.dep (by decide), .inl ⟨hd.nod, th.dp hd.nod⟩⟩
theorem par_go {i j : Nat} {ta : TA} {tz : TS} {D : Ends} (h : ta σ H fun vs H1 => ∃ v w, vs = [v, w] ∧ tz D ((σ.set i (some v)).set j (some w)) H1) : tSeq (tPar i j ta) tz D σ H := h
theorem cons_callA {sp : Sp} {E : XK} {t tb : TA} {QA : List V → Hp → Prop} {vs : List V} (h : Ai t σ H vs) (k : sp vs H (fun v H1 => tb σ H1 fun us H2 => QA (v :: us) H2) E) : tCons (tCall sp [] E t) tb σ H QA := h _ (by rw [List.append_nil]; exact k)
end
theorem tk_bt {j : Addr} {H H' : Hp} {n : Nat} (hj : JarAt H j n) (b : Bt j H H') : Tk H H' := fun c u e => by
  obtain ⟨ys, rfl, e1⟩ := of_tO e
  obtain ⟨_, _, _, ej, _⟩ := hj
  rcases e1 with e1 | ⟨o, e1⟩
  · exact tO_of (b _ _ (fun z => by rw [z, ej] at e1; cases e1) e1 fun _ z => by cases z)
  · exact tO_rd (.inr ⟨o, b _ _ (fun z => by rw [z, ej] at e1; cases e1) e1 fun _ z => by cases z⟩)
theorem sw_net {n : NetM} (g : GoodN n) : Sw 4000000 5 n.d := by
  obtain ⟨wk, ln, _⟩ := rows_wk g
  exact sw_form (progR_rowsN g) (by omega) fun r hr => ⟨by have := (wk r hr).1; omega, fun w hw => by have := ((wk r hr).2 w hw).len; omega⟩
theorem text_lines {n : NetM} (g : GoodN n) : ∀ l ∈ (rowsN n).map (TL.joinL [32]), Calm l ∧ l.length ≤ 400 := fun l hl => by
  obtain ⟨wk, ln, _⟩ := rows_wk g
  obtain ⟨r, hr, rfl⟩ := List.mem_map.mp hl
  have h1 := joinL_len r 8 fun w hw => ((wk r hr).2 w hw).len
  have h2 := Nat.mul_le_mul_right 9 (wk r hr).1
  exact ⟨words_calm (wk r hr).2, by omega⟩
/-- a text's size -/
theorem text_sw {t : Cs} (h : ∀ c ∈ t, c < 128) (hl : t.length ≤ 100000) : Sw 4000000 5 (.str (S t)) := by
  have e : (PyData.str (S t)).shown.length ≤ 10 * (S t).length + 2 := by
    simp only [PyData.shown]
    exact PySem.StrLaws.reprText_len (S t) fun c hc => Nat.lt_trans (h c (by simpa [S] using hc)) (by decide)
  rw [show (S t).length = t.length from S_len _] at e
  exact ⟨(by simp only [PyData.showable]), Nat.le_trans e (by omega), by simp [PyData.depth], by simp [PyData.hasDict]⟩
end KP

set_option Elab.async false
set_option linter.all false
set_option maxRecDepth 100000
set_option maxHeartbeats 4000000
/-! ### the law's check of one jar -/
namespace KP
open PySem PySem.Spec PyProof.Rows L2 KX KT KJ KS FR PT SX
abbrev nR8 : List Str := ["jar", "turn", "net", "other", "rows", "row", "text", "blanked", "lap", "some", "form", "due"]
theorem scR8 : FnScope nR8 ["jar"] (defScope lRight3) := ⟨rfl, rfl, rfl, by decide +kernel, rfl, by decide +kernel, by decide +kernel⟩
/-- what never raises needs no handler -/
theorem passF {X : Cx} : Passes (L2.CX X.prog X.w) X (fun _ _ _ => False) := fun _ _ _ _ _ _ _ ⟨_, _, _, _, _, _, _, _, _, _, _, _, h⟩ => h.elim
section
variable {P : Program} {w : World} {K : PySem.W.Frag} {mg : Str → Option Value} {base : Heap}
theorem ok_right8 {f fM fR fX fB fN fV fRd fI fE fT Ct Cn : Addr} {fd fdM fdR fdX fdB fdN fdV fdRd fdI fdE fdT : FuncData} {Ps : List Addr} (F : Fun K "_law_right" "_law_right" lRight3 f fd) (T : TxD mg)
    (FM : FnOk P w K mg base CX0 4 fM fdM ["jar", "most"] spMake2) (mM : mg "_law_net" = some (.ref fM)) (kM : PySem.W.keepIn K (.ref fM) = true) (bM : Binds K fdM ["jar", "most"] [])
    (FR : FnOk P w K mg base CX0 2 fR fdR ["net"] spRowsOf) (mR : mg "_law_rows_of" = some (.ref fR)) (kR : PySem.W.keepIn K (.ref fR) = true) (bR : Binds K fdR ["net"] [])
    (FX : FnOk P w K mg base CX0 3 fX fdX ["jar", "rows"] spRewr) (mX : mg "_law_rewritten" = some (.ref fX)) (kX : PySem.W.keepIn K (.ref fX) = true) (bX : Binds K fdX ["jar", "rows"] [])
    (FB : FnOk P w K mg base CX0 3 fB fdB ["jar", "words"] spBlank2) (mB : mg "_law_blanked" = some (.ref fB)) (kB : PySem.W.keepIn K (.ref fB) = true) (bB : Binds K fdB ["jar", "words"] [])
    (FN : FnOk P w K mg base (L2.CX P w) 9 fN fdN ["text"] (spNetOf Ct Cn Ps)) (mN : mg "net_of" = some (.ref fN)) (kN : PySem.W.keepIn K (.ref fN) = true) (bN : Binds K fdN ["text"] []) (bNk : KBinds K fdN ["text"] ["text"] gRev gRevV)
    (FV : FnOk P w K mg base CX0 10 fV fdV ["net"] (spTextOf Ps)) (mV : mg "text_of" = some (.ref fV)) (kV : PySem.W.keepIn K (.ref fV) = true) (bV : Binds K fdV ["net"] []) (bVk : KBinds K fdV ["net"] ["net"] gRev gRevV)
    (FRd : FnOk P w K mg base CX0 4 fRd fdRd ["text"] spReadL) (mRd : mg "_law_read" = some (.ref fRd)) (kRd : PySem.W.keepIn K (.ref fRd) = true) (bRd : Binds K fdRd ["text"] [])
    (FI : FnOk P w K mg base CX0 5 fI fdI ["thing"] spNetL) (mI : mg "_law_is_net" = some (.ref fI)) (kI : PySem.W.keepIn K (.ref fI) = true) (bI : Binds K fdI ["thing"] [])
    (FE : FnG P w K mg base 1 fE fdE ["told", "due"] (spSame3 K)) (mE : mg "_law_same" = some (.ref fE)) (kE : PySem.W.keepIn K (.ref fE) = true) (bE : Binds K fdE ["told", "due"] [])
    (FT : FnOk P w K mg base CX0 10 fT fdT ["text"] (spToldT Ps)) (mT : mg "_law_told" = some (.ref fT)) (kT : PySem.W.keepIn K (.ref fT) = true) (bT : Binds K fdT ["text"] []) :
    FnG P w K mg base 14 f fd ["jar"] (spRight3 Ps) := by
  refine FnG.mk' F scR8 (fun {vs H Q E} h => ?_) (fun cdv A outer s H vs Q E qu hr h => ?_)
  · obtain ⟨j, rfl, _⟩ := h
    rfl
  · obtain ⟨j, rfl, hj, tb, k⟩ := h
    have hr1 : Room 1 _ := hr.mono (by decide)
    have hr2 : Room 2 _ := hr.mono (by decide)
    have hr3 : Room 3 _ := hr.mono (by decide)
    have hr4 : Room 4 _ := hr.mono (by decide)
    have hr5 : Room 5 _ := hr.mono (by decide)
    have hr9 : Room 9 _ := hr.mono (by decide)
    have hr10 : Room 10 _ := hr.mono (by decide)
    have qu' : Quiet (A.deeper (envOfC "_law_right" (defScope lRight3) s.heap.objs.size f cdv)) := qu
    have hu : (A.deeper (envOfC "_law_right" (defScope lRight3) s.heap.objs.size f cdv)).units + 64 < cLine := by have := hr.un; omega
    refine ⟨_, pss_cons (ps_for PassesOwn.never rfl (pi_range1 rfl T.range (pa_cons pe_int pa_nil)) (pg_name (i := 1) scR8.nd rfl (Or.inl rfl))
        (pss_cons (ps_par (i := 2) (j := 3) (by rfl) scR8.nd rfl rfl (by decide) rfl rfl (pa_cons (pe_call FM hr4 (by rfl) mM kM bM .nil pass0 (pa_cons (pv 0) (pa_cons pe_int pa_nil))) (pa_cons (pe_call FM hr4 (by rfl) mM kM bM .nil pass0 (pa_cons (pv 0) (pa_cons pe_int pa_nil))) pa_nil)) (by rfl))
        (pss_cons (ps_set (i := 4) scR8.nd rfl (Or.inl rfl) (pe_call FR hr2 (by rfl) mR kR bR .nil pass0 (pa_cons (pv 2) pa_nil)))
        (pss_cons (ps_set (i := 6) scR8.nd rfl (Or.inl rfl) (pe_join pe_str (pe_lc (own := [("row", 5)]) (g := gName 5) (tt := tYes) rfl scR8.nd (pi_list (pv 4)) (blkOk_by (N := nR8) (sc := defScope lRight3) (by decide +kernel))
            (fun _ _ _ _ _ => pg_name (i := 5) scR8.nd rfl (Or.inl rfl)) (fun _ _ _ _ _ => pts_nil) (fun _ _ _ _ _ => pe_joinK (K0 := K) rfl pe_str (pv 5)))))
        (pss_cons (ps_if (pt_not (pt_val (pe_quiet FE qu' hr1 (by rfl) mE kE bE (pa_cons (pe_lst (pa_cons (pe_call FV hr10 (by rfl) mV kV bV .nil pass0 (pa_cons (pv 2) pa_nil)) (pa_cons (pe_callK0 FV hr10 (by rfl) mV kV bVk pass0 (pk_cons (pv 2) pk_nil))
            (pa_cons (pe_call FN hr9 (by rfl) mN kN bN .nil passF (pa_cons (pv 6) pa_nil)) (pa_cons (pe_callK0 FN hr9 (by rfl) mN kN bNk passF (pk_cons (pv 6) pk_nil)) pa_nil))))) (pa_cons (pe_lst (pa_cons (pv 6) (pa_cons (pv 6) (pa_cons (pv 2) (pa_cons (pv 2) pa_nil))))) pa_nil))))) (pss_one (ps_ret pe_bl)) pss_nil)
        (pss_cons (ps_if (pt_cmpR op_ne (pe_cmpR op_eq (pe_call FV hr10 (by rfl) mV kV bV .nil pass0 (pa_cons (pv 3) pa_nil)) (pv 6) (nomark _)) (pe_cmpR op_eq (pe_callB (cr_repr qu' hu) (by rfl) T.repr (by decide +kernel) (pa_cons (pv 3) pa_nil)) (pe_callB (cr_repr qu' hu) (by rfl) T.repr (by decide +kernel) (pa_cons (pv 2) pa_nil)) (nomark _)) (nomark _)) (pss_one (ps_ret pe_bl)) pss_nil)
        (pss_cons (ps_set (i := 7) scR8.nd rfl (Or.inl rfl) (pe_lst pa_nil))
        (pss_cons (ps_for PassesOwn.never rfl (pi_list (pv 4)) (pg_name (i := 5) scR8.nd rfl (Or.inl rfl))
          (pss_one (ps_expr (pe_bm PySem.F.plainAttrs_list PySem.F.slot_list_append PySem.F.type_list_append mt_append (pv 7) (pa_cons (pe_call FB hr3 (by rfl) mB kB bB .nil pass0 (pa_cons (pv 0) (pa_cons (pv 5) pa_nil))) pa_nil)))))
        (pss_cons (ps_if (pt_not (pt_val (pe_quiet FE qu' hr1 (by rfl) mE kE bE (pa_cons (pe_call FN hr9 (by rfl) mN kN bN .nil passF (pa_cons (pe_join pe_str (pv 7)) pa_nil)) (pa_cons (pv 2) pa_nil))))) (pss_one (ps_ret pe_bl)) pss_nil)
        (pss_one (ps_for PassesOwn.never rfl (pi_range1 rfl T.range (pa_cons pe_int pa_nil)) (pg_name (i := 8) scR8.nd rfl (Or.inl rfl))
          (pss_cons (ps_set (i := 9) scR8.nd rfl (Or.inl rfl) (pe_join pe_str (pe_lc (own := [("row", 5)]) (g := gName 5) (tt := tYes) rfl scR8.nd (pi_list (pe_call FX hr3 (by rfl) mX kX bX .nil pass0 (pa_cons (pv 0) (pa_cons (pv 4) pa_nil)))) (blkOk_by (N := nR8) (sc := defScope lRight3) (by decide +kernel))
            (fun _ _ _ _ _ => pg_name (i := 5) scR8.nd rfl (Or.inl rfl)) (fun _ _ _ _ _ => pts_nil) (fun _ _ _ _ _ => pe_joinK (K0 := K) rfl pe_str (pv 5)))))
          (pss_cons (ps_set (i := 10) scR8.nd rfl (Or.inl rfl) (pe_ix ix_seq (pe_call FRd hr4 (by rfl) mRd kRd bRd .nil pass0 (pa_cons (pv 9) pa_nil)) pe_int (fun _ _ => rfl)))
          (Evl.pss_cut (ps_set (i := 11) scR8.nd rfl (Or.inl rfl) (pe_ifExp (pt_val (pe_call FI hr5 (by rfl) mI kI bI .nil pass0 (pa_cons (pv 10) pa_nil))) (pe_lst (pa_cons pe_str (pa_cons (pv 10) pa_nil))) (pe_lst (pa_cons pe_str (pa_cons (pv 10) pa_nil)))))
          (pss_one (ps_if (pt_not (pt_val (pe_quiet FE qu' hr1 (by rfl) mE kE bE (pa_cons (pe_call FT hr10 (by rfl) mT kT bT .nil pass0 (pa_cons (pv 9) pa_nil)) (pa_cons (pv 11) pa_nil))))) (pss_one (ps_ret pe_bl)) pss_nil))))))))))))))))
      (pss_one (ps_ret pe_bl)), ?_⟩
    refine ⟨4, rfl, by decide, by decide, ?_⟩
    refine for_range (lo := 0) (n := 4) (fun i σ H' => ∃ o1 o2 o3 o4 o5 o6 o7 o8 o9 o10 o11 : Option V, σ = [some (.ref j), o1, o2, o3, o4, o5, o6, o7, o8, o9, o10, o11] ∧ JarAt H' j (600 * i) ∧ Tbs Ps H' ∧ Bt j H H') ⟨none, none, none, none, none, none, none, none, none, none, none, rfl, hj, tb, fun _ _ _ e _ => e⟩ ?_ ?_
    · rintro i σ H1 hi ⟨o1, o2, o3, o4, o5, o6, o7, o8, o9, o10, o11, rfl, j1, t1, b1⟩
      refine par_go (cons_callA (ai_cons (vi_var rfl) (ai_cons vi_c ai_nil)) ⟨j, 600 * i, rfl, j1, by omega, fun v nt H2 g tv _ b2 j2 => ?_⟩)
      refine cons_callA (ai_cons (vi_var rfl) (ai_cons vi_c ai_nil)) ⟨j, 600 * i + 100, rfl, j2, by omega, fun v2 nt2 H3 g2 tv2 _ b3 j3 => ?_⟩
      refine ⟨v, v2, rfl, ?_⟩
      have tv3 : Th (tO H3) v nt.d := th_hid (tv.mono (Sm.same (hid_but b3))) (tp_net nt)
      have tv23 : Th (tO H3) v2 nt2.d := th_hid tv2 (tp_net nt2)
      have t3 := tbs_but (tbs_but t1 j1 b2) j2 b3
      have b03 := (b1.but b2).but b3
      clear tv tv2 b2 b3 j2 j1 t1 b1
      -- rows
      refine i_setCall (ai_cons (vi_var rfl) ai_nil) ⟨v, nt, rfl, tv3, g, fun p vr H4 s4 ep hR => ?_⟩
      have j4 := jar_same j3 s4
      have t4 := tbs_same t3 s4
      have b04 := b03.same s4
      have tv4 := tv3.tk (Tk.same s4)
      have tv24 := tv23.tk (Tk.same s4)
      obtain ⟨wk, ln, ne⟩ := rows_wk g
      have hR4 := rws_hid j4 hR
      have np : p ≠ j := fun z => by
        obtain ⟨x, y, w, ej, _⟩ := j4
        rw [z, ej] at ep
        have := hR.len
        cases ep
        simp at this
        have l2 : 4 ≤ (rowsN nt).length := by
          unfold rowsN
          simp only [List.length_append, List.length_cons, List.length_nil]
          omega
        omega
      have lvr := hR.len
      have tls := text_lines g
      -- text
      refine i_asg ?_
      refine ⟨⟨_, rfl⟩, _, rfl, p, rfl, ⟨vr, SqL.of ep⟩, fun D hD => ?_⟩
      refine lc_joins (K := K) (σ := [some (.ref j), some (.int (0 + (i : Int))), some v, some v2, some (.ref p), o5, o6, o7, o8, o9, o10, o11]) (i := 5) (vs := [5]) (j' := j) (m := 5) hD ep hR4 (by omega) (by decide) (fun r hr => ⟨(wk r hr).1, (wk r hr).2⟩) (by intro x; rfl) (by intro x; rfl) fun H5 s5 eD => ?_
      have jl : ((((rowsN nt).map (TL.joinL [32])).map S).map fun x : Str => x.length).sum ≤ 16 * 400 := Nat.le_trans (sum_len fun l hl => (tls l hl).2) (Nat.mul_le_mul_right 400 (by rw [List.length_map]; omega))
      have e1 : ("\n" : Str).length = 1 := by rw [nl_eq, S_len]; rfl
      refine ⟨"\n", D, ((rowsN nt).map (TL.joinL [32])).map S, rfl, rfl, .inl (SqL.of (by rw [eD, List.map_map]; rfl)), by rw [e1, List.length_map, List.length_map]; omega, ?_⟩
      rw [nl_eq, join_S, show TL.joinL [10] ((rowsN nt).map (TL.joinL [32])) = textN nt from rfl]
      have j5 := jar_same j4 s5
      have t5 := tbs_same t4 s5
      have b05 := b04.same s5
      have tv5 := tv4.tk (Tk.same s5)
      have tv25 := tv24.tk (Tk.same s5)
      have ep5 := s5 _ _ ep
      clear eD hD
      obtain ⟨tameN, rT, hrow, hlenr, ascN⟩ := lines_tame (ls := (rowsN nt).map (TL.joinL [32])) (fun z => ne (List.map_eq_nil_iff.mp z)) (by rw [List.length_map]; omega) tls
      have tameN : TameT (textN nt) := tameN
      have rTN : rowsT (textN nt) = rowsN nt := rowsT_text g
      -- the four
      have isN := goodN_is g
      refine a_call (ai_cons (vi_var rfl) ai_nil) ⟨v, nt, rfl, tv5, g, t5, fun H6 g6 => ?_⟩
      refine ⟨_, rfl, v, nt, rfl, tv5.tk (Tk.sm g6.sm), g, g6.tbs, fun H7 g7 => ?_⟩
      have g67 := g6.trans g7
      refine a_call (ai_cons (vi_var rfl) ai_nil) ⟨textN nt, rfl, tameN, g67.tbs, ?_⟩
      rw [rTN, progR_rowsN g]
      refine ⟨fun _ v3 H8 g8 th3 => ?_, fun c => absurd isN (by rw [show NetM.d nt = netD (.int (nt.m : Nat)) (.int (nt.u : Nat)) (nt.ps.map ppD) (.tuple (natsD nt.fs)) (.tuple (natsD nt.ss)) from rfl, c]; decide)⟩
      have g68 := g67.trans g8
      refine ⟨_, rfl, textN nt, rfl, tameN, g68.tbs, ?_⟩
      rw [rTN, progR_rowsN g]
      refine ⟨fun _ v4 H9 g9 th4 => ?_, fun c => absurd isN (by rw [show NetM.d nt = netD (.int (nt.m : Nat)) (.int (nt.u : Nat)) (nt.ps.map ppD) (.tuple (natsD nt.fs)) (.tuple (natsD nt.ss)) from rfl, c]; decide)⟩
      have g69 := g68.trans g9
      refine ⟨by show 4 ≤ sizeLine; decide, fun l1 hl1 => ?_⟩
      refine ⟨_, rfl, _, rfl, _, rfl, _, rfl, by show 4 ≤ sizeLine; decide, fun l2 hl2 => ?_⟩
      have s1 := same_upd (o := .lst [V.str (S (textN nt)), .str (S (textN nt)), v3, v4]) hl1
      have s2 := same_upd (o := .lst [V.str (S (textN nt)), .str (S (textN nt)), v, v]) hl2
      have swT : Sw 4000000 5 (.str (S (textN nt))) := text_sw ascN tameN.n
      have swN := sw_net g
      have swA : ∀ d ∈ [PyData.str (S (textN nt)), .str (S (textN nt)), nt.d, nt.d], Sw 4000000 5 d := fun d hd => by
        simp only [List.mem_cons, List.not_mem_nil, or_false] at hd
        rcases hd with rfl | rfl | rfl | rfl
        · exact swT
        · exact swT
        · exact swN
        · exact swN
      have gA := g69.sm.trans ((Sm.same s1).trans (Sm.same s2))
      refine ⟨_, _, .list [.str (S (textN nt)), .str (S (textN nt)), nt.d, nt.d], rfl, shw_lst (Nat.le_refl 4) swA (s2 _ _ upd_same) (.cons (.str _) (.cons (.str _) (.cons ((th3.mono (g9.sm.trans ((Sm.same s1).trans (Sm.same s2)))).dp swN.nod) (.cons ((th4.mono ((Sm.same s1).trans (Sm.same s2))).dp swN.nod) .nil)))),
        shw_lst (Nat.le_refl 4) swA upd_same (.cons (.str _) (.cons (.str _) (.cons ((tv5.up.mono gA).dp swN.nod) (.cons ((tv5.up.mono gA).dp swN.nod) .nil)))), _, rfl, iteB (fun z => by cases z) fun _ => ?_⟩
      refine nx_go ?_
      have g10 := g69.trans (Grown.same (s1.trans s2) g69.tbs)
      generalize upd (upd H9 l1 (.lst [V.str (S (textN nt)), .str (S (textN nt)), v3, v4])) l2 (.lst [V.str (S (textN nt)), .str (S (textN nt)), v, v]) = H10 at *
      clear s1 s2 gA hl1 hl2
      -- the other
      refine a_call (ai_cons (vi_var rfl) ai_nil) ⟨v2, nt2, rfl, tv25.tk (Tk.sm g10.sm), g2, g10.tbs, fun H11 g11 => ?_⟩
      have g511 := g10.trans g11
      refine ⟨_, rfl, rfl, _, rfl, _, nt2.d, rfl, shw_of (sw_net g2) (tv25.up.mono g511.sm), _, rfl, _, nt.d, rfl, shw_of swN (tv5.up.mono g511.sm), rfl, rfl, _, rfl, ?_⟩
      rw [shown_same g2 g, decide_eq_true rfl]
      refine iteB (fun z => by cases z) fun _ => ?_
      refine nx_go ?_
      dsimp only
      have j11 : JarAt H11 j (600 * i + 200) := jar_sm j5 g511.sm
      have t11 := g11.tbs
      have b11 := b05.sm g511.sm
      have b511 := (Bt.refl j H5).sm g511.sm
      have ep11 := lst_sm g511.sm ep5
      have hR11 : Rws (hid j H11) vr (rowsN nt) := hR4.sm ((Sm.same (hid_but (KJ.But.same s5))).trans (hid_bt b511))
      have tv11 := tv5.tk (Tk.sm g511.sm)
      have wd := rows_wd g
      clear b511 g511 g10 g11 g69 g68 g67 g6 g7 g8 g9 b05 t5 j5 ep5 tv5 tv25 hR4 s5 j4 t4 b04 tv4 tv24 hR b03 t3 tv23 tv3 j3 s4 ep
      refine i_asg ?_
      refine ⟨Nat.zero_le _, fun pl hpl => ?_⟩
      have spl' := same_upd (o := .lst ([] : List V)) hpl
      have npl := jar_new j11 hpl
      refine ⟨_, rfl, p, rfl, ⟨_, SqL.of (spl' _ _ ep11)⟩, ?_⟩
      refine for_it (walk_list (K := K) (a := p) (xs := vr)) (fun s σ H' => (∃ o5, σ = [some (.ref j), some (.int (0 + (i : Int))), some v, some v2, some (.ref p), o5, some (.str (S (textN nt))), some (.ref pl), o8, o9, o10, o11]) ∧ JarAt H' j (600 * i + 200 + 22 * s) ∧ Tbs Ps H' ∧ Bt j H11 H' ∧ ∃ ls : List Cs, H' pl = some (.lst (sL ls)) ∧ ls.length = s ∧ (∀ l ∈ ls, Calm l ∧ l.length ≤ 400) ∧ ls.map wordsW = (rowsN nt).take s)
          ⟨⟨_, rfl⟩, jar_same j11 spl', tbs_same t11 spl', (Bt.refl j H11).same spl', [], upd_same, rfl, (fun l hl => by cases hl), rfl⟩ (fun s σ H' _ z => SqL.of (z.2.2.2.1 _ _ np ep11 fun _ z => by cases z)) ?_ ?_
      · rintro s v' σ _ H12 hs ⟨⟨o5', rfl⟩, j12, t12, b12, ls, el, lls, hls, hws⟩ ⟨rfl, hv'⟩
        obtain ⟨r, hr'⟩ : ∃ r, (rowsN nt)[s]? = some r := ⟨_, List.getElem?_eq_getElem (by omega)⟩
        obtain ⟨_, e1, c, rfl, ec⟩ := (hR11.sm (hid_bt b12)).at hr'
        rw [hv'] at e1
        cases e1
        obtain ⟨nc, ec'⟩ := hidAt ec
        have wr := wk r (List.mem_of_getElem? hr')
        have dr := wd r (List.mem_of_getElem? hr')
        refine ⟨_, rfl, .inl ⟨rfl, _, SqL.of el⟩, ?_⟩
        refine cons_call (ai_cons (vi_var rfl) (ai_cons (vi_var rfl) ai_nil)) ⟨j, c, _, r, rfl, j12, by omega, nc, ec', by omega, fun w hw => ⟨wr.2 w hw, dr.2 w hw⟩, fun t H13 ct lt wt b13 j13 => ?_⟩
        have el13 := b13 _ _ npl el
        refine ⟨pl, sL ls, .str (S t), rfl, rfl, el13, ?_, ?_⟩
        · rw [sL_len]
          exact Nat.lt_of_le_of_lt (show _ ≤ 20 by omega) (by decide)
        refine ⟨⟨_, rfl⟩, ?_, fun P hP => ?_, Bt.put (b12.but b13) hpl, ls ++ [t], ?_, by rw [List.length_append, lls]; rfl, fun l hl => ?_, ?_⟩
        · obtain ⟨x, y, w, ej, q1, q2, q3, q4, q5⟩ := j13
          exact ⟨x, y, w, by rw [upd_ne (Ne.symm npl)]; exact ej, q1, q2, q3, q4, by omega⟩
        · obtain ⟨qs, e, k'⟩ := tbs_but t12 j12 b13 P hP
          exact ⟨qs, by rw [upd_ne (fun z => by rw [z, el13] at e; cases e)]; exact e, k'⟩
        · rw [upd_same]
          unfold sL
          rw [List.map_append]
          rfl
        · rcases List.mem_append.mp hl with h | h
          · exact hls l h
          · rw [List.mem_singleton.mp h]
            exact ⟨ct, lt⟩
        · rw [List.map_append, hws, List.take_add_one, hr', List.map_cons, wt]
          rfl
      · rintro σ H12 ⟨⟨o5', rfl⟩, j12, t12, b12, ls, el, lls, hls, hws⟩
        rw [List.take_of_length_le (by omega)] at hws
        have nls : ls ≠ [] := fun z => ne (by rw [← hws, z]; rfl)
        obtain ⟨tameB, rTB, _, _, _⟩ := lines_tame nls (by omega) hls
        rw [hws] at rTB
        have jl : ((ls.map S).map fun x : Str => x.length).sum ≤ 16 * 400 := Nat.le_trans (sum_len fun l hl => (hls l hl).2) (Nat.mul_le_mul_right 400 (by omega))
        refine ⟨⟨_, rfl⟩, _, rfl, "\n", pl, ls.map S, rfl, rfl, .inl (SqL.of (by rw [el, List.map_map]; rfl)), by rw [e1, List.length_map]; omega, ?_⟩
        rw [nl_eq, join_S]
        refine ⟨_, rfl, tameB, t12, ?_⟩
        rw [rTB, progR_rowsN g]
        refine ⟨fun _ v5 H13 g13 th5 => ?_, fun c => absurd isN (by rw [show NetM.d nt = netD (.int (nt.m : Nat)) (.int (nt.u : Nat)) (nt.ps.map ppD) (.tuple (natsD nt.fs)) (.tuple (natsD nt.ss)) from rfl, c]; decide)⟩
        have b1113 := b12.sm g13.sm
        have tv13 : Th H13 v nt.d := (tv11.tk (tk_bt j11 b1113)).up
        refine ⟨_, rfl, _, _, nt.d, rfl, shw_of swN th5, shw_of swN tv13, _, rfl, iteB (fun z => by cases z) fun _ => ?_⟩
        refine nx_go ?_
        dsimp only
        have j13 : JarAt H13 j (600 * i + 560) := jar_more (jar_sm j12 g13.sm) (by omega)
        have t13 := g13.tbs
        have b013 := b11.trans b1113
        have ep13 := b1113 _ _ np ep11 fun _ z => by cases z
        have hR13 : Rws (hid j H13) vr (rowsN nt) := hR11.sm (hid_bt b1113)
        clear b1113 tv11 hR11 ep11 b11 t11 j11 b12 t12 j12 el g13 th5 tv13 hws hls
        refine ⟨3, rfl, by decide, by decide, ?_⟩
        refine for_range (lo := 0) (n := 3) (fun q σ H' => (∃ o5 o8 o9 o10 o11 : Option V, σ = [some (.ref j), some (.int (0 + (i : Int))), some v, some v2, some (.ref p), o5, some (.str (S (textN nt))), some (.ref pl), o8, o9, o10, o11]) ∧ JarAt H' j (600 * i + 560 + 5 * q) ∧ Tbs Ps H' ∧ Bt j H13 H')
          ⟨⟨_, _, _, _, _, rfl⟩, j13, t13, Bt.refl _ _⟩ ?_ ?_
        · rintro q σ H14 hq ⟨⟨o5'', o8', o9', o10', o11', rfl⟩, j14, t14, b14⟩
          refine i_asg ?_
          refine ⟨⟨_, rfl⟩, ?_⟩
          have hR14 := hR13.sm (hid_bt b14)
          refine a_call (ai_cons (vi_var rfl) (ai_cons (vi_var rfl) ai_nil)) ⟨j, p, _, 5, nt.ps.length, vr, rowsN nt, rfl, j14, by omega, np, b14 _ _ np ep13 (fun _ z => by cases z), hR14, fm_rowsN g, by omega, fun r hr => ⟨(wk r hr).1, (wk r hr).2⟩, fun r hr => (wd r hr).2, by decide, fun b vr' rows' H15 nb eb hR15 fm' hw' hwd' b15 j15 => ?_⟩
          have l12 := g.len
          have lr' := fm'.len
          have lvr' := hR15.len
          have t15 := tbs_but t14 j14 b15
          have b1315 := b14.but b15
          refine ⟨b, rfl, ⟨vr', SqL.of eb⟩, fun D hD => ?_⟩
          refine lc_joins (K := K) (σ := [some (.ref j), some (.int (0 + (i : Int))), some v, some v2, some (.ref p), o5'', some (.str (S (textN nt))), some (.ref pl), some (.int (0 + (q : Int))), o9', o10', o11']) (i := 5) (vs := [5]) (j' := j) (m := 6) hD eb hR15 (by omega) (by decide) hw' (by intro x; rfl) (by intro x; rfl) fun H16 s16 eD => ?_
          have j16 := jar_same j15 s16
          have t16 := tbs_same t15 s16
          have b1316 := b1315.same s16
          have ls' : ∀ l ∈ rows'.map (TL.joinL [32]), Calm l ∧ l.length ≤ 400 := fun l hl => by
            obtain ⟨r, hr, rfl⟩ := List.mem_map.mp hl
            have h1 := joinL_len r 8 fun w hw => ((hw' r hr).2 w hw).len
            have h2 := Nat.mul_le_mul_right 9 (hw' r hr).1
            exact ⟨words_calm (hw' r hr).2, by omega⟩
          have nr' : rows' ≠ [] := fun z => by rw [z] at lr'; simp at lr'
          obtain ⟨tame', rT', hrow', hlen', _⟩ := lines_tame (ls := rows'.map (TL.joinL [32])) (fun z => nr' (List.map_eq_nil_iff.mp z)) (by rw [List.length_map]; omega) ls'
          have ew : (rows'.map (TL.joinL [32])).map wordsW = rows' := by
            rw [List.map_map]
            conv => rhs; rw [← List.map_id rows']
            exact List.map_congr_left fun r hr => wordsW_join r (hwd' r hr)
          rw [ew] at rT'
          have jl : (((rows'.map (TL.joinL [32])).map S).map fun x : Str => x.length).sum ≤ 16 * 400 := Nat.le_trans (sum_len fun l hl => (ls' l hl).2) (Nat.mul_le_mul_right 400 (by rw [List.length_map]; omega))
          refine ⟨"\n", D, (rows'.map (TL.joinL [32])).map S, rfl, rfl, .inl (SqL.of (by rw [eD, List.map_map]; rfl)), by rw [e1, List.length_map, List.length_map]; omega, ?_⟩
          rw [nl_eq, join_S]
          generalize TL.joinL [10] (rows'.map (TL.joinL [32])) = t at *
          obtain ⟨m, u, ps, f, s', eq⟩ := progR_fm fm'
          have eq' : progR (rowsT t) = .form m u ps f s' := by rw [rT', eq]
          obtain ⟨lf, lss⟩ := form_lens eq' hrow'
          have sf := sw_form eq' (by omega) hrow'
          refine i_asg (a_call (ai_cons (vi_var rfl) ai_nil) ⟨t, rfl, tame', fun l H17 s17 nl ra => ?_⟩)
          rw [read_same, eq'] at ra
          obtain ⟨vf, el, thv⟩ := ra
          refine .inl ⟨l, _, _, _, rfl, rfl, SqL.of el, rfl, ?_⟩
          have j17 := jar_same j16 s17
          have t17 := tbs_same t16 s17
          have b1317 := b1316.same s17
          refine cut_go (fun σ' H' => (∃ l2 : Addr, σ' = [some (.ref j), some (.int (0 + (i : Int))), some v, some v2, some (.ref p), o5'', some (.str (S (textN nt))), some (.ref pl), some (.int (0 + (q : Int))), some (.str (S t)), some vf, some (.ref l2)] ∧ ToldAt H' l2 (.form m u ps f s')) ∧ JarAt H' j (600 * i + 560 + 5 * q + 5) ∧ Tbs Ps H' ∧ Bt j H13 H') ?_ ?_
          · have fin : ∀ (nm : Str), (if isNet (netD m u ps f s') = true then ("net" : Str) else "form") = nm → ∀ G, Same H17 G → tLst (tCons (tC (.str nm)) (tCons (tVar 10) tNil)) [some (.ref j), some (.int (0 + (i : Int))), some v, some v2, some (.ref p), o5'', some (.str (S (textN nt))), some (.ref pl), some (.int (0 + (q : Int))), some (.str (S t)), some vf, o11'] G fun x G' => (∃ l2 : Addr, [some (.ref j), some (.int (0 + (i : Int))), some v, some v2, some (.ref p), o5'', some (.str (S (textN nt))), some (.ref pl), some (.int (0 + (q : Int))), some (.str (S t)), some vf, some x] = [some (.ref j), some (.int (0 + (i : Int))), some v, some v2, some (.ref p), o5'', some (.str (S (textN nt))), some (.ref pl), some (.int (0 + (q : Int))), some (.str (S t)), some vf, some (.ref l2)] ∧ ToldAt G' l2 (.form m u ps f s')) ∧ JarAt G' j (600 * i + 560 + 5 * q + 5) ∧ Tbs Ps G' ∧ Bt j H13 G' := fun nm enm G sG => by
              refine ⟨_, rfl, by show 2 ≤ sizeLine; decide, fun l2 hl2 => ?_⟩
              have s2 := same_upd (o := .lst [V.str nm, vf]) hl2
              exact ⟨⟨l2, rfl, vf, by rw [upd_same, enm], thv.up.mono (Sm.same (sG.trans s2))⟩, jar_same j17 (sG.trans s2), tbs_same t17 (sG.trans s2), b1317.same (sG.trans s2)⟩
            refine g_ife (b := isNet (netD m u ps f s')) (tg_val fun Q q => a_call (ai_cons (vi_var rfl) ai_nil) ⟨vf, _, rfl, thv.up, lf, lss, q⟩) (fun c G sG => ?_) fun c G sG => ?_
            · exact fin "net" (by rw [if_pos c]) G sG
            · exact fin "form" (by rw [if_neg (by rw [c]; decide)]) G sG
          rintro σ' H18 ⟨⟨l2, rfl, ta⟩, j18, t18, b18⟩
          refine ⟨_, rfl, t, rfl, tame', (fun i z => by rw [eq'] at z; cases z), t18, fun l3 H19 g19 ta3 => ?_⟩
          rw [eq'] at ta3
          have ta2 := ta.sm g19.sm
          obtain ⟨v3, e3, th3⟩ := ta3
          obtain ⟨v2', e2', th2⟩ := ta2
          refine ⟨_, rfl, _, _, _, rfl, shw_named (sw_nf _) sf e3 th3, shw_named (sw_nf _) sf e2' th2, _, rfl, iteB (fun z => by cases z) fun _ => ?_⟩
          exact ⟨⟨_, _, _, _, _, rfl⟩, jar_more (jar_sm j18 g19.sm) (by omega), g19.tbs, b18.sm g19.sm⟩
        · rintro σ H14 ⟨⟨o5'', o8', o9', o10', o11', rfl⟩, j14, t14, b14⟩
          exact ⟨_, _, _, _, _, _, _, _, _, _, _, rfl, jar_more j14 (by omega), t14, b013.trans b14⟩
    · rintro σ H1 ⟨o1, o2, o3, o4, o5, o6, o7, o8, o9, o10, o11, rfl, j1, t1, b1⟩
      exact k H1 b1 t1
end
end KP

set_option Elab.async false
set_option linter.all false
set_option maxRecDepth 100000
set_option maxHeartbeats 1000000
/-! ### the law's whole numbers -/
namespace KP
open PySem PySem.Spec PyProof.Rows L2 KX KT
section
variable {P : Program} {w : World} {K : PySem.W.Frag} {mg : Str → Option Value} {base : Heap}
theorem scLWhole : FnScope ["thing", "low", "high"] ["thing", "low", "high"] (defScope lIsWhole) := ⟨rfl, rfl, rfl, by decide +kernel, rfl, by decide +kernel, by decide +kernel⟩
theorem ok_lwhole {f : Addr} {fd : FuncData} (F : Fun K "_law_is_whole" "_law_is_whole" lIsWhole f fd) (T : TxL mg) : FnOk P w K mg base CX0 2 f fd ["thing", "low", "high"] spWithin := by
  refine F.ok scLWhole (fun vs H Q E h => ?_) (fun cdv A outer s H vs Q E hr h => ?_)
  · obtain ⟨x, d, lo, hi, rfl, _⟩ := h
    rfl
  · obtain ⟨x, d, lo, hi, rfl, hx, k⟩ := h
    refine ⟨_, pss_one (ps_ret (pe_and (pe_callB call_isi (by rfl) T.isinstance (by decide +kernel) (pa_cons (pv 0) (pa_cons (pe_bltn (v := .ty "int") (by rfl) T.int (by decide +kernel) rfl) pa_nil)))
      (pe_and (pe_not (pe_callB call_isi (by rfl) T.isinstance (by decide +kernel) (pa_cons (pv 0) (pa_cons (pe_bltn (v := .ty "bool") (by rfl) T.bool (by decide +kernel) rfl) pa_nil)))) (pe_one (pe_chain op_le op_le (pv 1) (pv 0) (pv 2)))))), ?_⟩
    have e9 : isW d lo hi = (isin (tyN d) "int" && (!isin (tyN d) "bool" && isW d lo hi)) := by cases d <;> simp [isW, isin, tyN]
    rw [e9] at k
    refine i_ret (D := { nx := _, rt := Q }) (v := .bl (isin (tyN d) "int" && (!isin (tyN d) "bool" && isW d lo hi))) ?_ k
    refine vi_and (vi_isi (vi_var rfl) hx (by simp)) fun c1 => vi_and (vi_not (vi_isi (vi_var rfl) hx (by simp))) fun c2 => ?_
    cases hx with
    | int i =>
      have e : isW (.int i) lo hi = (decide (lo ≤ i) && decide (i ≤ hi)) := rfl
      rw [e]
      exact vi_chain (vi_var rfl) (vi_var rfl) (fun Q q => ⟨_, _, rfl, rfl, q⟩) (fun _ => vi_var rfl) (fun _ Q q => ⟨_, _, rfl, rfl, q⟩)
    | bl b => simp [isin, tyN] at c2
    | _ => simp [isin, tyN] at c1
end
end KP

set_option Elab.async false
set_option linter.all false
set_option maxRecDepth 100000
set_option maxHeartbeats 4000000
/-! ### what the top has written -/
namespace KP
open PySem PySem.Spec PyProof.Rows L2 KX KT KJ KS KG FR PT SX
def ercB (K : PySem.W.Frag) (C fI : Addr) (f : Str) : Bool :=
  xfB K C && (decide (PySem.W.findIn K (.ref C) "__setattr__" = some (some (.builtin "object.__setattr__"))) && (decide (PySem.W.typeIn K (.ref C) = some (.type "type")) && (PySem.W.keepIn K (.ref C) &&
  (decide (PySem.W.findIn K (.ref C) f = some none) && (decide (PySem.W.findIn K (.ref C) "__init__" = some (some (.ref fI))) && (decide (PySem.W.typeIn K (.ref fI) = some (.type "function")) && decide (PySem.W.exmOne K (.ref C) (.ref C) = some true)))))))
theorem ercB_ok {K : PySem.W.Frag} {C fI : Addr} {f : Str} (h : ercB K C fI f = true) (cls : ∃ nm q N bs bm sn sub ab col dd k0 k1 k2 k3 k5, K.lookup C = some (excClassObj nm q C N bs bm true sn sub ab col dd k0 k1 k2 k3 k5 "ValueError.__new__") ∧ PySem.HandSPX.refsVE bm = true) : ErC K C fI f := by
  simp only [ercB, Bool.and_eq_true, decide_eq_true_eq] at h
  obtain ⟨h1, h2, h3, h4, h5, h6, h7, h8⟩ := h
  have x := xfB_ok h1
  exact ⟨⟨cls, h2, x.exC, h3, h4⟩, x, h5, h6, h7, h8⟩
theorem binds1 {K : PySem.W.Frag} {fd : FuncData} {x : Str} (h1 : ∀ (s : Shared) (a : Value), BindsTo s fd ⟨[], [(x, a)]⟩ [(x, a)]) (h2 : ∀ (s : Shared) (a : Value), BindsTo s fd ⟨[a], []⟩ [(x, a)]) :
    KBinds K fd [x] [x] gRev gRevV := by
  refine ⟨fun s us ws _ hl => ?_, fun r rz => r.append rz.reverse⟩
  have hl : us.length + ws.length = 1 := by
    rw [gRev, List.length_append, List.length_reverse] at hl
    exact hl
  match us, ws with
  | [], [a] => exact h1 s a
  | [a], [] => exact h2 s a
  | [], [] => exact absurd hl (by simp)
  | [], _ :: _ :: _ => exact absurd hl (by simp only [List.length_cons, List.length_nil]; omega)
  | [_], _ :: _ => exact absurd hl (by simp only [List.length_cons, List.length_nil]; omega)
  | _ :: _ :: _, _ => exact absurd hl (by simp only [List.length_cons, List.length_nil]; omega)
theorem all_mk8 {l : PySem.W.OpenLaw} {w : World} {K : PySem.W.Frag} {h : Heap} {mg : Str → Option Value} {fa : Addr} {f0 f1 f2 f3 f4 f5 f6 f7 f8 f9 f10 f11 f12 f13 f14 f15 f16 f17 f18 f19 f20 f21 f22 f23 f24 f25 f26 f27 f28 f29 f30 f31 f32 f33 f34 f35 f36 f37 f38 f39 f40 f41 f42 f43 f44 f45 f46 f47 f48 CN IN CT IT : Addr} (X : K.In h) (G : h.Ns mainGlobals mg) (hfa : mg "law" = some (.ref fa)) (tp : TabFact mg h "_are_pipes") (tt : TabFact mg h "_are_tanks") (tn : TabFact mg h "number_from")
    (a0 : PySem.W.nsIn K mainGlobals "is_whole" = some (some (.ref f0)))
    {oc0 : Value} {od0 an0 : Option Addr} {sl0 : Array (Option Value)} {kV0 dc0 pm0 cd0 ct0 : Value}
    (l0 : K.lookup f0 = some ⟨oc0, od0, .func (PySem.W.fnOf "is_whole" "is_whole" (defArgs sWhole) (defBody sWhole) (defScope sWhole) .none kV0 dc0 pm0 an0 cd0 ct0), sl0⟩)
    (c0 : PySem.W.codeIn K cd0 "is_whole" = true)
    (k0 : PySem.W.keepIn K (.ref f0) = true)
    (a1 : PySem.W.nsIn K mainGlobals "is_within" = some (some (.ref f1)))
    {oc1 : Value} {od1 an1 : Option Addr} {sl1 : Array (Option Value)} {kV1 dc1 pm1 cd1 ct1 : Value}
    (l1 : K.lookup f1 = some ⟨oc1, od1, .func (PySem.W.fnOf "is_within" "is_within" (defArgs sWithin) (defBody sWithin) (defScope sWithin) .none kV1 dc1 pm1 an1 cd1 ct1), sl1⟩)
    (c1 : PySem.W.codeIn K cd1 "is_within" = true)
    (k1 : PySem.W.keepIn K (.ref f1) = true)
    (a2 : PySem.W.nsIn K mainGlobals "is_ratio" = some (some (.ref f2)))
    {oc2 : Value} {od2 an2 : Option Addr} {sl2 : Array (Option Value)} {kV2 dc2 pm2 cd2 ct2 : Value}
    (l2 : K.lookup f2 = some ⟨oc2, od2, .func (PySem.W.fnOf "is_ratio" "is_ratio" (defArgs sRatio) (defBody sRatio) (defScope sRatio) .none kV2 dc2 pm2 an2 cd2 ct2), sl2⟩)
    (c2 : PySem.W.codeIn K cd2 "is_ratio" = true)
    (k2 : PySem.W.keepIn K (.ref f2) = true)
    (a3 : PySem.W.nsIn K mainGlobals "is_told" = some (some (.ref f3)))
    {oc3 : Value} {od3 an3 : Option Addr} {sl3 : Array (Option Value)} {kV3 dc3 pm3 cd3 ct3 : Value}
    (l3 : K.lookup f3 = some ⟨oc3, od3, .func (PySem.W.fnOf "is_told" "is_told" (defArgs sTold) (defBody sTold) (defScope sTold) .none kV3 dc3 pm3 an3 cd3 ct3), sl3⟩)
    (c3 : PySem.W.codeIn K cd3 "is_told" = true)
    (k3 : PySem.W.keepIn K (.ref f3) = true)
    (a4 : PySem.W.nsIn K mainGlobals "is_net" = some (some (.ref f4)))
    {oc4 : Value} {od4 an4 : Option Addr} {sl4 : Array (Option Value)} {kV4 dc4 pm4 cd4 ct4 : Value}
    (l4 : K.lookup f4 = some ⟨oc4, od4, .func (PySem.W.fnOf "is_net" "is_net" (defArgs sNet) (defBody sNet) (defScope sNet) .none kV4 dc4 pm4 an4 cd4 ct4), sl4⟩)
    (c4 : PySem.W.codeIn K cd4 "is_net" = true)
    (k4 : PySem.W.keepIn K (.ref f4) = true)
    (a5 : PySem.W.nsIn K mainGlobals "_are_pipes" = some (some (.ref f5)))
    {oc5 : Value} {od5 an5 : Option Addr} {sl5 : Array (Option Value)} {kV5 dc5 pm5 cd5 ct5 : Value}
    (l5 : K.lookup f5 = some ⟨oc5, od5, .func (PySem.W.fnOf "_are_pipes" "_are_pipes" (defArgs sPipes) (defBody sPipes) (defScope sPipes) .none kV5 dc5 pm5 an5 cd5 ct5), sl5⟩)
    (c5 : PySem.W.codeIn K cd5 "_are_pipes" = true)
    (k5 : PySem.W.keepIn K (.ref f5) = true)
    (a6 : PySem.W.nsIn K mainGlobals "_is_pipe" = some (some (.ref f6)))
    {oc6 : Value} {od6 an6 : Option Addr} {sl6 : Array (Option Value)} {kV6 dc6 pm6 cd6 ct6 : Value}
    (l6 : K.lookup f6 = some ⟨oc6, od6, .func (PySem.W.fnOf "_is_pipe" "_is_pipe" (defArgs sPipe) (defBody sPipe) (defScope sPipe) .none kV6 dc6 pm6 an6 cd6 ct6), sl6⟩)
    (c6 : PySem.W.codeIn K cd6 "_is_pipe" = true)
    (k6 : PySem.W.keepIn K (.ref f6) = true)
    (a7 : PySem.W.nsIn K mainGlobals "_is_share" = some (some (.ref f7)))
    {oc7 : Value} {od7 an7 : Option Addr} {sl7 : Array (Option Value)} {kV7 dc7 pm7 cd7 ct7 : Value}
    (l7 : K.lookup f7 = some ⟨oc7, od7, .func (PySem.W.fnOf "_is_share" "_is_share" (defArgs sShare) (defBody sShare) (defScope sShare) .none kV7 dc7 pm7 an7 cd7 ct7), sl7⟩)
    (c7 : PySem.W.codeIn K cd7 "_is_share" = true)
    (k7 : PySem.W.keepIn K (.ref f7) = true)
    (a8 : PySem.W.nsIn K mainGlobals "_are_tanks" = some (some (.ref f8)))
    {oc8 : Value} {od8 an8 : Option Addr} {sl8 : Array (Option Value)} {kV8 dc8 pm8 cd8 ct8 : Value}
    (l8 : K.lookup f8 = some ⟨oc8, od8, .func (PySem.W.fnOf "_are_tanks" "_are_tanks" (defArgs sTanks) (defBody sTanks) (defScope sTanks) .none kV8 dc8 pm8 an8 cd8 ct8), sl8⟩)
    (c8 : PySem.W.codeIn K cd8 "_are_tanks" = true)
    (k8 : PySem.W.keepIn K (.ref f8) = true)
    (a9 : PySem.W.nsIn K mainGlobals "need_net" = some (some (.ref f9)))
    {oc9 : Value} {od9 an9 : Option Addr} {sl9 : Array (Option Value)} {kV9 dc9 pm9 cd9 ct9 : Value}
    (l9 : K.lookup f9 = some ⟨oc9, od9, .func (PySem.W.fnOf "need_net" "need_net" (defArgs sNeedNet) (defBody sNeedNet) (defScope sNeedNet) .none kV9 dc9 pm9 an9 cd9 ct9), sl9⟩)
    (c9 : PySem.W.codeIn K cd9 "need_net" = true)
    (k9 : PySem.W.keepIn K (.ref f9) = true)
    (a10 : PySem.W.nsIn K mainGlobals "text_of" = some (some (.ref f10)))
    {oc10 : Value} {od10 an10 : Option Addr} {sl10 : Array (Option Value)} {kV10 dc10 pm10 cd10 ct10 : Value}
    (l10 : K.lookup f10 = some ⟨oc10, od10, .func (PySem.W.fnOf "text_of" "text_of" (defArgs sTextOf) (defBody sTextOf) (defScope sTextOf) .none kV10 dc10 pm10 an10 cd10 ct10), sl10⟩)
    (c10 : PySem.W.codeIn K cd10 "text_of" = true)
    (k10 : PySem.W.keepIn K (.ref f10) = true)
    (a11 : PySem.W.nsIn K mainGlobals "_pipe_row" = some (some (.ref f11)))
    {oc11 : Value} {od11 an11 : Option Addr} {sl11 : Array (Option Value)} {kV11 dc11 pm11 cd11 ct11 : Value}
    (l11 : K.lookup f11 = some ⟨oc11, od11, .func (PySem.W.fnOf "_pipe_row" "_pipe_row" (defArgs sPipeRow) (defBody sPipeRow) (defScope sPipeRow) .none kV11 dc11 pm11 an11 cd11 ct11), sl11⟩)
    (c11 : PySem.W.codeIn K cd11 "_pipe_row" = true)
    (k11 : PySem.W.keepIn K (.ref f11) = true)
    (a12 : PySem.W.nsIn K mainGlobals "_share_word" = some (some (.ref f12)))
    {oc12 : Value} {od12 an12 : Option Addr} {sl12 : Array (Option Value)} {kV12 dc12 pm12 cd12 ct12 : Value}
    (l12 : K.lookup f12 = some ⟨oc12, od12, .func (PySem.W.fnOf "_share_word" "_share_word" (defArgs sShareWord) (defBody sShareWord) (defScope sShareWord) .none kV12 dc12 pm12 an12 cd12 ct12), sl12⟩)
    (c12 : PySem.W.codeIn K cd12 "_share_word" = true)
    (k12 : PySem.W.keepIn K (.ref f12) = true)
    (a13 : PySem.W.nsIn K mainGlobals "fraction_word" = some (some (.ref f13)))
    {oc13 : Value} {od13 an13 : Option Addr} {sl13 : Array (Option Value)} {kV13 dc13 pm13 cd13 ct13 : Value}
    (l13 : K.lookup f13 = some ⟨oc13, od13, .func (PySem.W.fnOf "fraction_word" "fraction_word" (defArgs sFracWord) (defBody sFracWord) (defScope sFracWord) .none kV13 dc13 pm13 an13 cd13 ct13), sl13⟩)
    (c13 : PySem.W.codeIn K cd13 "fraction_word" = true)
    (k13 : PySem.W.keepIn K (.ref f13) = true)
    (a14 : PySem.W.nsIn K mainGlobals "_tanks_row" = some (some (.ref f14)))
    {oc14 : Value} {od14 an14 : Option Addr} {sl14 : Array (Option Value)} {kV14 dc14 pm14 cd14 ct14 : Value}
    (l14 : K.lookup f14 = some ⟨oc14, od14, .func (PySem.W.fnOf "_tanks_row" "_tanks_row" (defArgs sTanksRow) (defBody sTanksRow) (defScope sTanksRow) .none kV14 dc14 pm14 an14 cd14 ct14), sl14⟩)
    (c14 : PySem.W.codeIn K cd14 "_tanks_row" = true)
    (k14 : PySem.W.keepIn K (.ref f14) = true)
    (a15 : PySem.W.nsIn K mainGlobals "net_of" = some (some (.ref f15)))
    {oc15 : Value} {od15 an15 : Option Addr} {sl15 : Array (Option Value)} {kV15 dc15 pm15 cd15 ct15 : Value}
    (l15 : K.lookup f15 = some ⟨oc15, od15, .func (PySem.W.fnOf "net_of" "net_of" (defArgs sNetOf) (defBody sNetOf) (defScope sNetOf) .none kV15 dc15 pm15 an15 cd15 ct15), sl15⟩)
    (c15 : PySem.W.codeIn K cd15 "net_of" = true)
    (k15 : PySem.W.keepIn K (.ref f15) = true)
    (a16 : PySem.W.nsIn K mainGlobals "words_of" = some (some (.ref f16)))
    {oc16 : Value} {od16 an16 : Option Addr} {sl16 : Array (Option Value)} {kV16 dc16 pm16 cd16 ct16 : Value}
    (l16 : K.lookup f16 = some ⟨oc16, od16, .func (PySem.W.fnOf "words_of" "words_of" (defArgs sWordsOf) (defBody sWordsOf) (defScope sWordsOf) .none kV16 dc16 pm16 an16 cd16 ct16), sl16⟩)
    (c16 : PySem.W.codeIn K cd16 "words_of" = true)
    (k16 : PySem.W.keepIn K (.ref f16) = true)
    (a17 : PySem.W.nsIn K mainGlobals "_numbers_at" = some (some (.ref f17)))
    {oc17 : Value} {od17 an17 : Option Addr} {sl17 : Array (Option Value)} {kV17 dc17 pm17 cd17 ct17 : Value}
    (l17 : K.lookup f17 = some ⟨oc17, od17, .func (PySem.W.fnOf "_numbers_at" "_numbers_at" (defArgs sNumsAt) (defBody sNumsAt) (defScope sNumsAt) .none kV17 dc17 pm17 an17 cd17 ct17), sl17⟩)
    (c17 : PySem.W.codeIn K cd17 "_numbers_at" = true)
    (k17 : PySem.W.keepIn K (.ref f17) = true)
    (a18 : PySem.W.nsIn K mainGlobals "_count_at" = some (some (.ref f18)))
    {oc18 : Value} {od18 an18 : Option Addr} {sl18 : Array (Option Value)} {kV18 dc18 pm18 cd18 ct18 : Value}
    (l18 : K.lookup f18 = some ⟨oc18, od18, .func (PySem.W.fnOf "_count_at" "_count_at" (defArgs sCountAt) (defBody sCountAt) (defScope sCountAt) .none kV18 dc18 pm18 an18 cd18 ct18), sl18⟩)
    (c18 : PySem.W.codeIn K cd18 "_count_at" = true)
    (k18 : PySem.W.keepIn K (.ref f18) = true)
    (a19 : PySem.W.nsIn K mainGlobals "_pipes_from" = some (some (.ref f19)))
    {oc19 : Value} {od19 an19 : Option Addr} {sl19 : Array (Option Value)} {kV19 dc19 pm19 cd19 ct19 : Value}
    (l19 : K.lookup f19 = some ⟨oc19, od19, .func (PySem.W.fnOf "_pipes_from" "_pipes_from" (defArgs sPipesFrom) (defBody sPipesFrom) (defScope sPipesFrom) .none kV19 dc19 pm19 an19 cd19 ct19), sl19⟩)
    (c19 : PySem.W.codeIn K cd19 "_pipes_from" = true)
    (k19 : PySem.W.keepIn K (.ref f19) = true)
    (a20 : PySem.W.nsIn K mainGlobals "_pipe_from" = some (some (.ref f20)))
    {oc20 : Value} {od20 an20 : Option Addr} {sl20 : Array (Option Value)} {kV20 dc20 pm20 cd20 ct20 : Value}
    (l20 : K.lookup f20 = some ⟨oc20, od20, .func (PySem.W.fnOf "_pipe_from" "_pipe_from" (defArgs sPipeFrom) (defBody sPipeFrom) (defScope sPipeFrom) .none kV20 dc20 pm20 an20 cd20 ct20), sl20⟩)
    (c20 : PySem.W.codeIn K cd20 "_pipe_from" = true)
    (k20 : PySem.W.keepIn K (.ref f20) = true)
    (a21 : PySem.W.nsIn K mainGlobals "_share_from" = some (some (.ref f21)))
    {oc21 : Value} {od21 an21 : Option Addr} {sl21 : Array (Option Value)} {kV21 dc21 pm21 cd21 ct21 : Value}
    (l21 : K.lookup f21 = some ⟨oc21, od21, .func (PySem.W.fnOf "_share_from" "_share_from" (defArgs sShareFrom) (defBody sShareFrom) (defScope sShareFrom) .none kV21 dc21 pm21 an21 cd21 ct21), sl21⟩)
    (c21 : PySem.W.codeIn K cd21 "_share_from" = true)
    (k21 : PySem.W.keepIn K (.ref f21) = true)
    (a22 : PySem.W.nsIn K mainGlobals "fraction_from" = some (some (.ref f22)))
    {oc22 : Value} {od22 an22 : Option Addr} {sl22 : Array (Option Value)} {kV22 dc22 pm22 cd22 ct22 : Value}
    (l22 : K.lookup f22 = some ⟨oc22, od22, .func (PySem.W.fnOf "fraction_from" "fraction_from" (defArgs sFracFrom) (defBody sFracFrom) (defScope sFracFrom) .none kV22 dc22 pm22 an22 cd22 ct22), sl22⟩)
    (c22 : PySem.W.codeIn K cd22 "fraction_from" = true)
    (k22 : PySem.W.keepIn K (.ref f22) = true)
    (a23 : PySem.W.nsIn K mainGlobals "_signed_from" = some (some (.ref f23)))
    {oc23 : Value} {od23 an23 : Option Addr} {sl23 : Array (Option Value)} {kV23 dc23 pm23 cd23 ct23 : Value}
    (l23 : K.lookup f23 = some ⟨oc23, od23, .func (PySem.W.fnOf "_signed_from" "_signed_from" (defArgs sSigned) (defBody sSigned) (defScope sSigned) .none kV23 dc23 pm23 an23 cd23 ct23), sl23⟩)
    (c23 : PySem.W.codeIn K cd23 "_signed_from" = true)
    (k23 : PySem.W.keepIn K (.ref f23) = true)
    (a24 : PySem.W.nsIn K mainGlobals "number_from" = some (some (.ref f24)))
    {oc24 : Value} {od24 an24 : Option Addr} {sl24 : Array (Option Value)} {kV24 dc24 pm24 cd24 ct24 : Value}
    (l24 : K.lookup f24 = some ⟨oc24, od24, .func (PySem.W.fnOf "number_from" "number_from" (defArgs sNumber) (defBody sNumber) (defScope sNumber) .none kV24 dc24 pm24 an24 cd24 ct24), sl24⟩)
    (c24 : PySem.W.codeIn K cd24 "number_from" = true)
    (k24 : PySem.W.keepIn K (.ref f24) = true)
    (a25 : PySem.W.nsIn K mainGlobals "_law_jar" = some (some (.ref f25)))
    {oc25 : Value} {od25 an25 : Option Addr} {sl25 : Array (Option Value)} {kV25 dc25 pm25 cd25 ct25 : Value}
    (l25 : K.lookup f25 = some ⟨oc25, od25, .func (PySem.W.fnOf "_law_jar" "_law_jar" (defArgs KJ.sJar) (defBody KJ.sJar) (defScope KJ.sJar) .none kV25 dc25 pm25 an25 cd25 ct25), sl25⟩)
    (c25 : PySem.W.codeIn K cd25 "_law_jar" = true)
    (k25 : PySem.W.keepIn K (.ref f25) = true)
    (a26 : PySem.W.nsIn K mainGlobals "_law_dip" = some (some (.ref f26)))
    {oc26 : Value} {od26 an26 : Option Addr} {sl26 : Array (Option Value)} {kV26 dc26 pm26 cd26 ct26 : Value}
    (l26 : K.lookup f26 = some ⟨oc26, od26, .func (PySem.W.fnOf "_law_dip" "_law_dip" (defArgs KJ.sDip) (defBody KJ.sDip) (defScope KJ.sDip) .none kV26 dc26 pm26 an26 cd26 ct26), sl26⟩)
    (c26 : PySem.W.codeIn K cd26 "_law_dip" = true)
    (k26 : PySem.W.keepIn K (.ref f26) = true)
    (a27 : PySem.W.nsIn K mainGlobals "_law_one_of" = some (some (.ref f27)))
    {oc27 : Value} {od27 an27 : Option Addr} {sl27 : Array (Option Value)} {kV27 dc27 pm27 cd27 ct27 : Value}
    (l27 : K.lookup f27 = some ⟨oc27, od27, .func (PySem.W.fnOf "_law_one_of" "_law_one_of" (defArgs KJ.sOne) (defBody KJ.sOne) (defScope KJ.sOne) .none kV27 dc27 pm27 an27 cd27 ct27), sl27⟩)
    (c27 : PySem.W.codeIn K cd27 "_law_one_of" = true)
    (k27 : PySem.W.keepIn K (.ref f27) = true)
    (a28 : PySem.W.nsIn K mainGlobals "_law_same" = some (some (.ref f28)))
    {oc28 : Value} {od28 an28 : Option Addr} {sl28 : Array (Option Value)} {kV28 dc28 pm28 cd28 ct28 : Value}
    (l28 : K.lookup f28 = some ⟨oc28, od28, .func (PySem.W.fnOf "_law_same" "_law_same" (defArgs lSame3) (defBody lSame3) (defScope lSame3) .none kV28 dc28 pm28 an28 cd28 ct28), sl28⟩)
    (c28 : PySem.W.codeIn K cd28 "_law_same" = true)
    (k28 : PySem.W.keepIn K (.ref f28) = true)
    (a29 : PySem.W.nsIn K mainGlobals "_law_frac" = some (some (.ref f29)))
    {oc29 : Value} {od29 an29 : Option Addr} {sl29 : Array (Option Value)} {kV29 dc29 pm29 cd29 ct29 : Value}
    (l29 : K.lookup f29 = some ⟨oc29, od29, .func (PySem.W.fnOf "_law_frac" "_law_frac" (defArgs lFrac) (defBody lFrac) (defScope lFrac) .none kV29 dc29 pm29 an29 cd29 ct29), sl29⟩)
    (c29 : PySem.W.codeIn K cd29 "_law_frac" = true)
    (k29 : PySem.W.keepIn K (.ref f29) = true)
    (a30 : PySem.W.nsIn K mainGlobals "_law_told_part" = some (some (.ref f30)))
    {oc30 : Value} {od30 an30 : Option Addr} {sl30 : Array (Option Value)} {kV30 dc30 pm30 cd30 ct30 : Value}
    (l30 : K.lookup f30 = some ⟨oc30, od30, .func (PySem.W.fnOf "_law_told_part" "_law_told_part" (defArgs lToldPart) (defBody lToldPart) (defScope lToldPart) .none kV30 dc30 pm30 an30 cd30 ct30), sl30⟩)
    (c30 : PySem.W.codeIn K cd30 "_law_told_part" = true)
    (k30 : PySem.W.keepIn K (.ref f30) = true)
    (a31 : PySem.W.nsIn K mainGlobals "_law_lot" = some (some (.ref f31)))
    {oc31 : Value} {od31 an31 : Option Addr} {sl31 : Array (Option Value)} {kV31 dc31 pm31 cd31 ct31 : Value}
    (l31 : K.lookup f31 = some ⟨oc31, od31, .func (PySem.W.fnOf "_law_lot" "_law_lot" (defArgs lLot) (defBody lLot) (defScope lLot) .none kV31 dc31 pm31 an31 cd31 ct31), sl31⟩)
    (c31 : PySem.W.codeIn K cd31 "_law_lot" = true)
    (k31 : PySem.W.keepIn K (.ref f31) = true)
    (a32 : PySem.W.nsIn K mainGlobals "_law_net" = some (some (.ref f32)))
    {oc32 : Value} {od32 an32 : Option Addr} {sl32 : Array (Option Value)} {kV32 dc32 pm32 cd32 ct32 : Value}
    (l32 : K.lookup f32 = some ⟨oc32, od32, .func (PySem.W.fnOf "_law_net" "_law_net" (defArgs lNet) (defBody lNet) (defScope lNet) .none kV32 dc32 pm32 an32 cd32 ct32), sl32⟩)
    (c32 : PySem.W.codeIn K cd32 "_law_net" = true)
    (k32 : PySem.W.keepIn K (.ref f32) = true)
    (a33 : PySem.W.nsIn K mainGlobals "_law_is_whole" = some (some (.ref f33)))
    {oc33 : Value} {od33 an33 : Option Addr} {sl33 : Array (Option Value)} {kV33 dc33 pm33 cd33 ct33 : Value}
    (l33 : K.lookup f33 = some ⟨oc33, od33, .func (PySem.W.fnOf "_law_is_whole" "_law_is_whole" (defArgs lIsWhole) (defBody lIsWhole) (defScope lIsWhole) .none kV33 dc33 pm33 an33 cd33 ct33), sl33⟩)
    (c33 : PySem.W.codeIn K cd33 "_law_is_whole" = true)
    (k33 : PySem.W.keepIn K (.ref f33) = true)
    (a34 : PySem.W.nsIn K mainGlobals "_law_is_told" = some (some (.ref f34)))
    {oc34 : Value} {od34 an34 : Option Addr} {sl34 : Array (Option Value)} {kV34 dc34 pm34 cd34 ct34 : Value}
    (l34 : K.lookup f34 = some ⟨oc34, od34, .func (PySem.W.fnOf "_law_is_told" "_law_is_told" (defArgs lIsTold) (defBody lIsTold) (defScope lIsTold) .none kV34 dc34 pm34 an34 cd34 ct34), sl34⟩)
    (c34 : PySem.W.codeIn K cd34 "_law_is_told" = true)
    (k34 : PySem.W.keepIn K (.ref f34) = true)
    (a35 : PySem.W.nsIn K mainGlobals "_law_is_pipe" = some (some (.ref f35)))
    {oc35 : Value} {od35 an35 : Option Addr} {sl35 : Array (Option Value)} {kV35 dc35 pm35 cd35 ct35 : Value}
    (l35 : K.lookup f35 = some ⟨oc35, od35, .func (PySem.W.fnOf "_law_is_pipe" "_law_is_pipe" (defArgs lIsPipe) (defBody lIsPipe) (defScope lIsPipe) .none kV35 dc35 pm35 an35 cd35 ct35), sl35⟩)
    (c35 : PySem.W.codeIn K cd35 "_law_is_pipe" = true)
    (k35 : PySem.W.keepIn K (.ref f35) = true)
    (a36 : PySem.W.nsIn K mainGlobals "_law_are_tanks" = some (some (.ref f36)))
    {oc36 : Value} {od36 an36 : Option Addr} {sl36 : Array (Option Value)} {kV36 dc36 pm36 cd36 ct36 : Value}
    (l36 : K.lookup f36 = some ⟨oc36, od36, .func (PySem.W.fnOf "_law_are_tanks" "_law_are_tanks" (defArgs lAreTanks) (defBody lAreTanks) (defScope lAreTanks) .none kV36 dc36 pm36 an36 cd36 ct36), sl36⟩)
    (c36 : PySem.W.codeIn K cd36 "_law_are_tanks" = true)
    (k36 : PySem.W.keepIn K (.ref f36) = true)
    (a37 : PySem.W.nsIn K mainGlobals "_law_is_net" = some (some (.ref f37)))
    {oc37 : Value} {od37 an37 : Option Addr} {sl37 : Array (Option Value)} {kV37 dc37 pm37 cd37 ct37 : Value}
    (l37 : K.lookup f37 = some ⟨oc37, od37, .func (PySem.W.fnOf "_law_is_net" "_law_is_net" (defArgs lIsNet) (defBody lIsNet) (defScope lIsNet) .none kV37 dc37 pm37 an37 cd37 ct37), sl37⟩)
    (c37 : PySem.W.codeIn K cd37 "_law_is_net" = true)
    (k37 : PySem.W.keepIn K (.ref f37) = true)
    (a38 : PySem.W.nsIn K mainGlobals "_law_part_text" = some (some (.ref f38)))
    {oc38 : Value} {od38 an38 : Option Addr} {sl38 : Array (Option Value)} {kV38 dc38 pm38 cd38 ct38 : Value}
    (l38 : K.lookup f38 = some ⟨oc38, od38, .func (PySem.W.fnOf "_law_part_text" "_law_part_text" (defArgs lPartText) (defBody lPartText) (defScope lPartText) .none kV38 dc38 pm38 an38 cd38 ct38), sl38⟩)
    (c38 : PySem.W.codeIn K cd38 "_law_part_text" = true)
    (k38 : PySem.W.keepIn K (.ref f38) = true)
    (a39 : PySem.W.nsIn K mainGlobals "_law_rows_of" = some (some (.ref f39)))
    {oc39 : Value} {od39 an39 : Option Addr} {sl39 : Array (Option Value)} {kV39 dc39 pm39 cd39 ct39 : Value}
    (l39 : K.lookup f39 = some ⟨oc39, od39, .func (PySem.W.fnOf "_law_rows_of" "_law_rows_of" (defArgs lRowsOf) (defBody lRowsOf) (defScope lRowsOf) .none kV39 dc39 pm39 an39 cd39 ct39), sl39⟩)
    (c39 : PySem.W.codeIn K cd39 "_law_rows_of" = true)
    (k39 : PySem.W.keepIn K (.ref f39) = true)
    (a40 : PySem.W.nsIn K mainGlobals "_law_blanked" = some (some (.ref f40)))
    {oc40 : Value} {od40 an40 : Option Addr} {sl40 : Array (Option Value)} {kV40 dc40 pm40 cd40 ct40 : Value}
    (l40 : K.lookup f40 = some ⟨oc40, od40, .func (PySem.W.fnOf "_law_blanked" "_law_blanked" (defArgs lBlanked) (defBody lBlanked) (defScope lBlanked) .none kV40 dc40 pm40 an40 cd40 ct40), sl40⟩)
    (c40 : PySem.W.codeIn K cd40 "_law_blanked" = true)
    (k40 : PySem.W.keepIn K (.ref f40) = true)
    (a41 : PySem.W.nsIn K mainGlobals "_law_digits" = some (some (.ref f41)))
    {oc41 : Value} {od41 an41 : Option Addr} {sl41 : Array (Option Value)} {kV41 dc41 pm41 cd41 ct41 : Value}
    (l41 : K.lookup f41 = some ⟨oc41, od41, .func (PySem.W.fnOf "_law_digits" "_law_digits" (defArgs lDigits) (defBody lDigits) (defScope lDigits) .none kV41 dc41 pm41 an41 cd41 ct41), sl41⟩)
    (c41 : PySem.W.codeIn K cd41 "_law_digits" = true)
    (k41 : PySem.W.keepIn K (.ref f41) = true)
    (a42 : PySem.W.nsIn K mainGlobals "_law_share_of" = some (some (.ref f42)))
    {oc42 : Value} {od42 an42 : Option Addr} {sl42 : Array (Option Value)} {kV42 dc42 pm42 cd42 ct42 : Value}
    (l42 : K.lookup f42 = some ⟨oc42, od42, .func (PySem.W.fnOf "_law_share_of" "_law_share_of" (defArgs lShareOf) (defBody lShareOf) (defScope lShareOf) .none kV42 dc42 pm42 an42 cd42 ct42), sl42⟩)
    (c42 : PySem.W.codeIn K cd42 "_law_share_of" = true)
    (k42 : PySem.W.keepIn K (.ref f42) = true)
    (a43 : PySem.W.nsIn K mainGlobals "_law_row_sort" = some (some (.ref f43)))
    {oc43 : Value} {od43 an43 : Option Addr} {sl43 : Array (Option Value)} {kV43 dc43 pm43 cd43 ct43 : Value}
    (l43 : K.lookup f43 = some ⟨oc43, od43, .func (PySem.W.fnOf "_law_row_sort" "_law_row_sort" (defArgs lRowSort) (defBody lRowSort) (defScope lRowSort) .none kV43 dc43 pm43 an43 cd43 ct43), sl43⟩)
    (c43 : PySem.W.codeIn K cd43 "_law_row_sort" = true)
    (k43 : PySem.W.keepIn K (.ref f43) = true)
    (a44 : PySem.W.nsIn K mainGlobals "_law_read" = some (some (.ref f44)))
    {oc44 : Value} {od44 an44 : Option Addr} {sl44 : Array (Option Value)} {kV44 dc44 pm44 cd44 ct44 : Value}
    (l44 : K.lookup f44 = some ⟨oc44, od44, .func (PySem.W.fnOf "_law_read" "_law_read" (defArgs lRead) (defBody lRead) (defScope lRead) .none kV44 dc44 pm44 an44 cd44 ct44), sl44⟩)
    (c44 : PySem.W.codeIn K cd44 "_law_read" = true)
    (k44 : PySem.W.keepIn K (.ref f44) = true)
    (a45 : PySem.W.nsIn K mainGlobals "_law_told" = some (some (.ref f45)))
    {oc45 : Value} {od45 an45 : Option Addr} {sl45 : Array (Option Value)} {kV45 dc45 pm45 cd45 ct45 : Value}
    (l45 : K.lookup f45 = some ⟨oc45, od45, .func (PySem.W.fnOf "_law_told" "_law_told" (defArgs lToldT) (defBody lToldT) (defScope lToldT) .none kV45 dc45 pm45 an45 cd45 ct45), sl45⟩)
    (c45 : PySem.W.codeIn K cd45 "_law_told" = true)
    (k45 : PySem.W.keepIn K (.ref f45) = true)
    (a46 : PySem.W.nsIn K mainGlobals "_law_rewritten" = some (some (.ref f46)))
    {oc46 : Value} {od46 an46 : Option Addr} {sl46 : Array (Option Value)} {kV46 dc46 pm46 cd46 ct46 : Value}
    (l46 : K.lookup f46 = some ⟨oc46, od46, .func (PySem.W.fnOf "_law_rewritten" "_law_rewritten" (defArgs lRewr) (defBody lRewr) (defScope lRewr) .none kV46 dc46 pm46 an46 cd46 ct46), sl46⟩)
    (c46 : PySem.W.codeIn K cd46 "_law_rewritten" = true)
    (k46 : PySem.W.keepIn K (.ref f46) = true)
    (a47 : PySem.W.nsIn K mainGlobals "_law_right" = some (some (.ref f47)))
    {oc47 : Value} {od47 an47 : Option Addr} {sl47 : Array (Option Value)} {kV47 dc47 pm47 cd47 ct47 : Value}
    (l47 : K.lookup f47 = some ⟨oc47, od47, .func (PySem.W.fnOf "_law_right" "_law_right" (defArgs lRight3) (defBody lRight3) (defScope lRight3) .none kV47 dc47 pm47 an47 cd47 ct47), sl47⟩)
    (c47 : PySem.W.codeIn K cd47 "_law_right" = true)
    (k47 : PySem.W.keepIn K (.ref f47) = true)
    (a48 : PySem.W.nsIn K mainGlobals "law" = some (some (.ref f48)))
    {oc48 : Value} {od48 an48 : Option Addr} {sl48 : Array (Option Value)} {kV48 dc48 pm48 cd48 ct48 : Value}
    (l48 : K.lookup f48 = some ⟨oc48, od48, .func (PySem.W.fnOf "law" "law" (defArgs lLaw3) (defBody lLaw3) (defScope lLaw3) .none kV48 dc48 pm48 an48 cd48 ct48), sl48⟩)
    (c48 : PySem.W.codeIn K cd48 "law" = true)
    (k48 : PySem.W.keepIn K (.ref f48) = true)
    (ztype : PySem.W.nsIn K mainGlobals "type" = some none)
    (zint : PySem.W.nsIn K mainGlobals "int" = some none)
    (ztuple : PySem.W.nsIn K mainGlobals "tuple" = some none)
    (zstr : PySem.W.nsIn K mainGlobals "str" = some none)
    (zlen : PySem.W.nsIn K mainGlobals "len" = some none)
    (zabs : PySem.W.nsIn K mainGlobals "abs" = some none)
    (zall : PySem.W.nsIn K mainGlobals "all" = some none)
    (zenumerate : PySem.W.nsIn K mainGlobals "enumerate" = some none)
    (zzip : PySem.W.nsIn K mainGlobals "zip" = some none)
    (zisinstance : PySem.W.nsIn K mainGlobals "isinstance" = some none)
    (zbool : PySem.W.nsIn K mainGlobals "bool" = some none)
    (zrange : PySem.W.nsIn K mainGlobals "range" = some none)
    (zany : PySem.W.nsIn K mainGlobals "any" = some none)
    (zset : PySem.W.nsIn K mainGlobals "set" = some none)
    (zsorted : PySem.W.nsIn K mainGlobals "sorted" = some none)
    (zlist : PySem.W.nsIn K mainGlobals "list" = some none)
    (zrepr : PySem.W.nsIn K mainGlobals "repr" = some none)
    (zmax : PySem.W.nsIn K mainGlobals "max" = some none)
    (zmin : PySem.W.nsIn K mainGlobals "min" = some none)
    (zdivmod : PySem.W.nsIn K mainGlobals "divmod" = some none)
    {tk0 : Tok}
    (q0 : PySem.W.nsIn K mainGlobals "TOLD_BOUND" = some (some (.int 999 tk0)))
    {tk1 : Tok}
    (q1 : PySem.W.nsIn K mainGlobals "MOST_TANKS" = some (some (.int 4 tk1)))
    {tk2 : Tok}
    (q2 : PySem.W.nsIn K mainGlobals "MOST_UNKNOWNS" = some (some (.int 4 tk2)))
    {tk3 : Tok}
    (q3 : PySem.W.nsIn K mainGlobals "MOST_TOGETHER" = some (some (.int 7 tk3)))
    {tk4 : Tok}
    (q4 : PySem.W.nsIn K mainGlobals "MOST_PIPES" = some (some (.int 12 tk4)))
    {tkF : Tok}
    (qF : PySem.W.nsIn K mainGlobals "FIGURES" = some (some (.str "0123456789" tkF)))
    (qg : PySem.W.nsIn K mainGlobals "gcd" = some (some (.builtin "math.gcd")))
    (aCN : PySem.W.nsIn K mainGlobals "InvalidNet" = some (some (.ref CN)))
    {nmN qN : Str} {NN : Addr} {bsN bmN : List Value} {snN : List Str} {subN : List Value} {abN : Bool} {colN : Option Bool} {ddN : Option Addr} {kaN kbN kcN kdN keN : Option Value}
    (xCN : K.lookup CN = some (excClassObj nmN qN CN NN bsN bmN true snN subN abN colN ddN kaN kbN kcN kdN keN "ValueError.__new__"))
    (rvN : PySem.HandSPX.refsVE bmN = true)
    (iCN : PySem.W.findIn K (.ref CN) "__init__" = some (some (.ref IN)))
    {ociN : Value} {odiN aniN : Option Addr} {sliN : Array (Option Value)} {kViN dciN pmiN cdiN ctiN : Value}
    (liN : K.lookup IN = some ⟨ociN, odiN, .func (PySem.W.fnOf "__init__" "InvalidNet.__init__" (defArgs (inClass (top 3) 0)) (defBody (inClass (top 3) 0)) (defScope (inClass (top 3) 0)) .none kViN dciN pmiN aniN cdiN ctiN), sliN⟩)
    (ciN : PySem.W.codeIn K cdiN "InvalidNet.__init__" = true)
    (kiN : PySem.W.keepIn K (.ref IN) = true)
    (eBN : ercB K CN IN "given" = true)
    (aCT : PySem.W.nsIn K mainGlobals "InvalidText" = some (some (.ref CT)))
    {nmT qT : Str} {NT : Addr} {bsT bmT : List Value} {snT : List Str} {subT : List Value} {abT : Bool} {colT : Option Bool} {ddT : Option Addr} {kaT kbT kcT kdT keT : Option Value}
    (xCT : K.lookup CT = some (excClassObj nmT qT CT NT bsT bmT true snT subT abT colT ddT kaT kbT kcT kdT keT "ValueError.__new__"))
    (rvT : PySem.HandSPX.refsVE bmT = true)
    (iCT : PySem.W.findIn K (.ref CT) "__init__" = some (some (.ref IT)))
    {ociT : Value} {odiT aniT : Option Addr} {sliT : Array (Option Value)} {kViT dciT pmiT cdiT ctiT : Value}
    (liT : K.lookup IT = some ⟨ociT, odiT, .func (PySem.W.fnOf "__init__" "InvalidText.__init__" (defArgs (inClass (top 4) 0)) (defBody (inClass (top 4) 0)) (defScope (inClass (top 4) 0)) .none kViT dciT pmiT aniT cdiT ctiT), sliT⟩)
    (ciT : PySem.W.codeIn K cdiT "InvalidText.__init__" = true)
    (kiT : PySem.W.keepIn K (.ref IT) = true)
    (eBT : ercB K CT IT "index" = true)
    (nt : PySem.W.noTabs K = true)
    : ∃ (fd : FuncData) (cs : List (Addr × Addr)) (sp : Sp), (∀ p ∈ cs, h.get? p.2 = some { cls := .none, data := .fields #[] }) ∧ (∀ p ∈ cs, K.lookup p.2 = none) ∧ (∀ p ∈ cs, PySem.W.CodeHd h p.1 p.2) ∧ (∀ (s : Shared) (u : Value), BindsTo s fd ⟨[u], []⟩ [("script", u)]) ∧
        (∀ (H : Hp) (a : Addr) (ns : List Int), ns.length ≤ 63 → (∀ p ∈ cs, H p.2 = some (.tbl #[])) → SqL K H a (ns.map V.int) → sp [.ref a] H (fun v _ => v = .bl true) fun _ _ _ => False) ∧
        ∀ base : Heap, K.In base → base.Ns mainGlobals mg → (∀ p ∈ cs, GxR.TabB base mg p.1 p.2) → FnG l.prog w K mg base 15 fa fd ["script"] sp := by
  have e := hfa.symm.trans (PySem.W.mg_of X G a48)
  cases e
  have F0 := fun_mk (st := sWhole) l0 c0 k0
  have m0 := PySem.W.mg_of X G a0
  have b0 := F0.binds (ps := ["value"]) fun _ _ _ _ _ _ us hl => match us, hl with | [_], _ => rfl
  have F1 := fun_mk (st := sWithin) l1 c1 k1
  have m1 := PySem.W.mg_of X G a1
  have b1 := F1.binds (ps := ["value", "least", "most"]) fun _ _ _ _ _ _ us hl => match us, hl with | [_, _, _], _ => rfl
  have F2 := fun_mk (st := sRatio) l2 c2 k2
  have m2 := PySem.W.mg_of X G a2
  have b2 := F2.binds (ps := ["value"]) fun _ _ _ _ _ _ us hl => match us, hl with | [_], _ => rfl
  have F3 := fun_mk (st := sTold) l3 c3 k3
  have m3 := PySem.W.mg_of X G a3
  have b3 := F3.binds (ps := ["value"]) fun _ _ _ _ _ _ us hl => match us, hl with | [_], _ => rfl
  have F4 := fun_mk (st := sNet) l4 c4 k4
  have m4 := PySem.W.mg_of X G a4
  have b4 := F4.binds (ps := ["value"]) fun _ _ _ _ _ _ us hl => match us, hl with | [_], _ => rfl
  have F5 := fun_mk (st := sPipes) l5 c5 k5
  have m5 := PySem.W.mg_of X G a5
  have b5 := F5.binds (ps := ["pipes", "many", "unknowns"]) fun _ _ _ _ _ _ us hl => match us, hl with | [_, _, _], _ => rfl
  have F6 := fun_mk (st := sPipe) l6 c6 k6
  have m6 := PySem.W.mg_of X G a6
  have b6 := F6.binds (ps := ["pipe", "many", "unknowns"]) fun _ _ _ _ _ _ us hl => match us, hl with | [_, _, _], _ => rfl
  have F7 := fun_mk (st := sShare) l7 c7 k7
  have m7 := PySem.W.mg_of X G a7
  have b7 := F7.binds (ps := ["share", "unknowns"]) fun _ _ _ _ _ _ us hl => match us, hl with | [_, _], _ => rfl
  have F8 := fun_mk (st := sTanks) l8 c8 k8
  have m8 := PySem.W.mg_of X G a8
  have b8 := F8.binds (ps := ["tanks", "many"]) fun _ _ _ _ _ _ us hl => match us, hl with | [_, _], _ => rfl
  have F9 := fun_mk (st := sNeedNet) l9 c9 k9
  have m9 := PySem.W.mg_of X G a9
  have b9 := F9.binds (ps := ["net"]) fun _ _ _ _ _ _ us hl => match us, hl with | [_], _ => rfl
  have F10 := fun_mk (st := sTextOf) l10 c10 k10
  have m10 := PySem.W.mg_of X G a10
  have b10 := F10.binds (ps := ["net"]) fun _ _ _ _ _ _ us hl => match us, hl with | [_], _ => rfl
  have F11 := fun_mk (st := sPipeRow) l11 c11 k11
  have m11 := PySem.W.mg_of X G a11
  have b11 := F11.binds (ps := ["pipe"]) fun _ _ _ _ _ _ us hl => match us, hl with | [_], _ => rfl
  have F12 := fun_mk (st := sShareWord) l12 c12 k12
  have m12 := PySem.W.mg_of X G a12
  have b12 := F12.binds (ps := ["share"]) fun _ _ _ _ _ _ us hl => match us, hl with | [_], _ => rfl
  have F13 := fun_mk (st := sFracWord) l13 c13 k13
  have m13 := PySem.W.mg_of X G a13
  have b13 := F13.binds (ps := ["fraction"]) fun _ _ _ _ _ _ us hl => match us, hl with | [_], _ => rfl
  have F14 := fun_mk (st := sTanksRow) l14 c14 k14
  have m14 := PySem.W.mg_of X G a14
  have b14 := F14.binds (ps := ["name", "tanks"]) fun _ _ _ _ _ _ us hl => match us, hl with | [_, _], _ => rfl
  have F15 := fun_mk (st := sNetOf) l15 c15 k15
  have m15 := PySem.W.mg_of X G a15
  have b15 := F15.binds (ps := ["text"]) fun _ _ _ _ _ _ us hl => match us, hl with | [_], _ => rfl
  have F16 := fun_mk (st := sWordsOf) l16 c16 k16
  have m16 := PySem.W.mg_of X G a16
  have b16 := F16.binds (ps := ["row"]) fun _ _ _ _ _ _ us hl => match us, hl with | [_], _ => rfl
  have F17 := fun_mk (st := sNumsAt) l17 c17 k17
  have m17 := PySem.W.mg_of X G a17
  have b17 := F17.binds (ps := ["rows", "index", "name"]) fun _ _ _ _ _ _ us hl => match us, hl with | [_, _, _], _ => rfl
  have F18 := fun_mk (st := sCountAt) l18 c18 k18
  have m18 := PySem.W.mg_of X G a18
  have b18 := F18.binds (ps := ["rows", "index", "name"]) fun _ _ _ _ _ _ us hl => match us, hl with | [_, _, _], _ => rfl
  have F19 := fun_mk (st := sPipesFrom) l19 c19 k19
  have m19 := PySem.W.mg_of X G a19
  have b19 := F19.binds (ps := ["rows", "index"]) fun _ _ _ _ _ _ us hl => match us, hl with | [_, _], _ => rfl
  have F20 := fun_mk (st := sPipeFrom) l20 c20 k20
  have m20 := PySem.W.mg_of X G a20
  have b20 := F20.binds (ps := ["words"]) fun _ _ _ _ _ _ us hl => match us, hl with | [_], _ => rfl
  have F21 := fun_mk (st := sShareFrom) l21 c21 k21
  have m21 := PySem.W.mg_of X G a21
  have b21 := F21.binds (ps := ["word"]) fun _ _ _ _ _ _ us hl => match us, hl with | [_], _ => rfl
  have F22 := fun_mk (st := sFracFrom) l22 c22 k22
  have m22 := PySem.W.mg_of X G a22
  have b22 := F22.binds (ps := ["word"]) fun _ _ _ _ _ _ us hl => match us, hl with | [_], _ => rfl
  have F23 := fun_mk (st := sSigned) l23 c23 k23
  have m23 := PySem.W.mg_of X G a23
  have b23 := F23.binds (ps := ["word"]) fun _ _ _ _ _ _ us hl => match us, hl with | [_], _ => rfl
  have F24 := fun_mk (st := sNumber) l24 c24 k24
  have m24 := PySem.W.mg_of X G a24
  have b24 := F24.binds (ps := ["word"]) fun _ _ _ _ _ _ us hl => match us, hl with | [_], _ => rfl
  have F25 := fun_mk (st := KJ.sJar) l25 c25 k25
  have m25 := PySem.W.mg_of X G a25
  have b25 := F25.binds (ps := ["script", "turn"]) fun _ _ _ _ _ _ us hl => match us, hl with | [_, _], _ => rfl
  have F26 := fun_mk (st := KJ.sDip) l26 c26 k26
  have m26 := PySem.W.mg_of X G a26
  have b26 := F26.binds (ps := ["jar", "top"]) fun _ _ _ _ _ _ us hl => match us, hl with | [_, _], _ => rfl
  have F27 := fun_mk (st := KJ.sOne) l27 c27 k27
  have m27 := PySem.W.mg_of X G a27
  have b27 := F27.binds (ps := ["jar", "some"]) fun _ _ _ _ _ _ us hl => match us, hl with | [_, _], _ => rfl
  have F28 := fun_mk (st := lSame3) l28 c28 k28
  have m28 := PySem.W.mg_of X G a28
  have b28 := F28.binds (ps := ["told", "due"]) fun _ _ _ _ _ _ us hl => match us, hl with | [_, _], _ => rfl
  have F29 := fun_mk (st := lFrac) l29 c29 k29
  have m29 := PySem.W.mg_of X G a29
  have b29 := F29.binds (ps := ["top", "low"]) fun _ _ _ _ _ _ us hl => match us, hl with | [_, _], _ => rfl
  have F30 := fun_mk (st := lToldPart) l30 c30 k30
  have m30 := PySem.W.mg_of X G a30
  have b30 := F30.binds (ps := ["jar"]) fun _ _ _ _ _ _ us hl => match us, hl with | [_], _ => rfl
  have F31 := fun_mk (st := lLot) l31 c31 k31
  have m31 := PySem.W.mg_of X G a31
  have b31 := F31.binds (ps := ["jar", "many"]) fun _ _ _ _ _ _ us hl => match us, hl with | [_, _], _ => rfl
  have F32 := fun_mk (st := lNet) l32 c32 k32
  have m32 := PySem.W.mg_of X G a32
  have b32 := F32.binds (ps := ["jar", "most"]) fun _ _ _ _ _ _ us hl => match us, hl with | [_, _], _ => rfl
  have F33 := fun_mk (st := lIsWhole) l33 c33 k33
  have m33 := PySem.W.mg_of X G a33
  have b33 := F33.binds (ps := ["thing", "low", "high"]) fun _ _ _ _ _ _ us hl => match us, hl with | [_, _, _], _ => rfl
  have F34 := fun_mk (st := lIsTold) l34 c34 k34
  have m34 := PySem.W.mg_of X G a34
  have b34 := F34.binds (ps := ["thing"]) fun _ _ _ _ _ _ us hl => match us, hl with | [_], _ => rfl
  have F35 := fun_mk (st := lIsPipe) l35 c35 k35
  have m35 := PySem.W.mg_of X G a35
  have b35 := F35.binds (ps := ["many", "unknowns", "thing"]) fun _ _ _ _ _ _ us hl => match us, hl with | [_, _, _], _ => rfl
  have F36 := fun_mk (st := lAreTanks) l36 c36 k36
  have m36 := PySem.W.mg_of X G a36
  have b36 := F36.binds (ps := ["many", "thing"]) fun _ _ _ _ _ _ us hl => match us, hl with | [_, _], _ => rfl
  have F37 := fun_mk (st := lIsNet) l37 c37 k37
  have m37 := PySem.W.mg_of X G a37
  have b37 := F37.binds (ps := ["thing"]) fun _ _ _ _ _ _ us hl => match us, hl with | [_], _ => rfl
  have F38 := fun_mk (st := lPartText) l38 c38 k38
  have m38 := PySem.W.mg_of X G a38
  have b38 := F38.binds (ps := ["part"]) fun _ _ _ _ _ _ us hl => match us, hl with | [_], _ => rfl
  have F39 := fun_mk (st := lRowsOf) l39 c39 k39
  have m39 := PySem.W.mg_of X G a39
  have b39 := F39.binds (ps := ["net"]) fun _ _ _ _ _ _ us hl => match us, hl with | [_], _ => rfl
  have F40 := fun_mk (st := lBlanked) l40 c40 k40
  have m40 := PySem.W.mg_of X G a40
  have b40 := F40.binds (ps := ["jar", "words"]) fun _ _ _ _ _ _ us hl => match us, hl with | [_, _], _ => rfl
  have F41 := fun_mk (st := lDigits) l41 c41 k41
  have m41 := PySem.W.mg_of X G a41
  have b41 := F41.binds (ps := ["word"]) fun _ _ _ _ _ _ us hl => match us, hl with | [_], _ => rfl
  have F42 := fun_mk (st := lShareOf) l42 c42 k42
  have m42 := PySem.W.mg_of X G a42
  have b42 := F42.binds (ps := ["word"]) fun _ _ _ _ _ _ us hl => match us, hl with | [_], _ => rfl
  have F43 := fun_mk (st := lRowSort) l43 c43 k43
  have m43 := PySem.W.mg_of X G a43
  have b43 := F43.binds (ps := ["words"]) fun _ _ _ _ _ _ us hl => match us, hl with | [_], _ => rfl
  have F44 := fun_mk (st := lRead) l44 c44 k44
  have m44 := PySem.W.mg_of X G a44
  have b44 := F44.binds (ps := ["text"]) fun _ _ _ _ _ _ us hl => match us, hl with | [_], _ => rfl
  have F45 := fun_mk (st := lToldT) l45 c45 k45
  have m45 := PySem.W.mg_of X G a45
  have b45 := F45.binds (ps := ["text"]) fun _ _ _ _ _ _ us hl => match us, hl with | [_], _ => rfl
  have F46 := fun_mk (st := lRewr) l46 c46 k46
  have m46 := PySem.W.mg_of X G a46
  have b46 := F46.binds (ps := ["jar", "rows"]) fun _ _ _ _ _ _ us hl => match us, hl with | [_, _], _ => rfl
  have F47 := fun_mk (st := lRight3) l47 c47 k47
  have m47 := PySem.W.mg_of X G a47
  have b47 := F47.binds (ps := ["jar"]) fun _ _ _ _ _ _ us hl => match us, hl with | [_], _ => rfl
  have F48 := fun_mk (st := lLaw3) l48 c48 k48
  have m48 := PySem.W.mg_of X G a48
  have b48 := F48.binds (ps := ["script"]) fun _ _ _ _ _ _ us hl => match us, hl with | [_], _ => rfl
  obtain ⟨cp, Pp, ecp, cdp, gp, nnp⟩ := tab_def X m5 l5 nt tp
  have ecp : cd5 = .ref cp := ecp
  have FCp : FunC K "_are_pipes" "_are_pipes" sPipes f5 _ cp := ⟨_, _, _, _, _, _, _, _, by rw [ecp], l5, by rw [← ecp]; exact c5⟩
  obtain ⟨ct, Pt, ect, cdt, gt, nnt⟩ := tab_def X m8 l8 nt tt
  have ect : cd8 = .ref ct := ect
  have FCt : FunC K "_are_tanks" "_are_tanks" sTanks f8 _ ct := ⟨_, _, _, _, _, _, _, _, by rw [ect], l8, by rw [← ect]; exact c8⟩
  obtain ⟨cn, Pn, ecn, cdn, gn, nnn⟩ := tab_def X m24 l24 nt tn
  have ecn : cd24 = .ref cn := ecn
  have FCn : FunC K "number_from" "number_from" sNumber f24 _ cn := ⟨_, _, _, _, _, _, _, _, by rw [ecn], l24, by rw [← ecn]; exact c24⟩
  have TT : TxT mg := ⟨PySem.W.mg_none_of X G ztype, PySem.W.mg_none_of X G zint, PySem.W.mg_none_of X G ztuple, PySem.W.mg_none_of X G zstr, PySem.W.mg_none_of X G zlen, PySem.W.mg_none_of X G zabs, PySem.W.mg_none_of X G zall, PySem.W.mg_none_of X G zenumerate, PySem.W.mg_none_of X G zzip⟩
  have TL : TxL mg := { toTxT := TT, isinstance := PySem.W.mg_none_of X G zisinstance, bool := PySem.W.mg_none_of X G zbool, range := PySem.W.mg_none_of X G zrange, any := PySem.W.mg_none_of X G zany }
  have TD : TxD mg := { toTxL := TL, set := PySem.W.mg_none_of X G zset, sorted := PySem.W.mg_none_of X G zsorted, list := PySem.W.mg_none_of X G zlist, repr := PySem.W.mg_none_of X G zrepr, max := PySem.W.mg_none_of X G zmax, min := PySem.W.mg_none_of X G zmin }
  have TN : TxN K mg := { toTxD := TD, fig := ⟨_, PySem.W.mg_of X G qF⟩ }
  have TJ : TxJ mg := ⟨PySem.W.mg_none_of X G zint, PySem.W.mg_none_of X G zlen, PySem.W.mg_none_of X G zabs, PySem.W.mg_none_of X G zdivmod⟩
  have mc0 := PySem.W.mg_of X G q0
  have mc1 := PySem.W.mg_of X G q1
  have mc2 := PySem.W.mg_of X G q2
  have mc3 := PySem.W.mg_of X G q3
  have mc4 := PySem.W.mg_of X G q4
  have mg1 := PySem.W.mg_of X G qg
  have mCN := PySem.W.mg_of X G aCN
  have EN : ErC K CN IN "given" := ercB_ok eBN ⟨_, _, _, _, _, _, _, _, _, _, _, _, _, _, _, xCN, rvN⟩
  have FiN := fun_mk (st := (inClass (top 3) 0)) liN ciN kiN
  have biN := FiN.binds (ps := ["self", "given"]) fun _ _ _ _ _ _ us hl => match us, hl with | [_, _], _ => rfl
  have mCT := PySem.W.mg_of X G aCT
  have ET : ErC K CT IT "index" := ercB_ok eBT ⟨_, _, _, _, _, _, _, _, _, _, _, _, _, _, _, xCT, rvT⟩
  have FiT := fun_mk (st := (inClass (top 4) 0)) liT ciT kiT
  have biT := FiT.binds (ps := ["self", "index"]) fun _ _ _ _ _ _ us hl => match us, hl with | [_, _], _ => rfl
  refine ⟨PySem.W.fnOf "law" "law" (defArgs lLaw3) (defBody lLaw3) (defScope lLaw3) .none kV48 dc48 pm48 an48 cd48 ct48, [(cp, Pp), (ct, Pt), (cn, Pn)], spLaw3 K [Pp, Pt, Pn], ?_, ?_, ?_, fun s v => .of_eq rfl, fun H a ns hl ht hS => ⟨a, ns, rfl, hS, hl, ?_, fun _ => rfl⟩, fun base _ _ TB => ?_⟩
  · intro p hp
    simp only [List.mem_cons, List.not_mem_nil, or_false] at hp
    rcases hp with rfl | rfl | rfl <;> assumption
  · intro p hp
    simp only [List.mem_cons, List.not_mem_nil, or_false] at hp
    rcases hp with rfl | rfl | rfl <;> assumption
  · intro p hp
    simp only [List.mem_cons, List.not_mem_nil, or_false] at hp
    rcases hp with rfl | rfl | rfl <;> assumption
  · intro p hp
    simp only [List.mem_cons, List.not_mem_nil, or_false] at hp
    rcases hp with rfl | rfl | rfl
    · exact ⟨#[], ht (cp, p) (by simp), trivial⟩
    · exact ⟨#[], ht (ct, p) (by simp), trivial⟩
    · exact ⟨#[], ht (cn, p) (by simp), trivial⟩
  have TBp := TB (cp, Pp) (by simp)
  have TBt := TB (ct, Pt) (by simp)
  have TBn := TB (cn, Pn) (by simp)
  have G0 := ok_whole (P := l.prog) (w := w) (base := base) F0 TT
  have G1 := ok_within F1 G0 m0 k0 b0
  have G2 := ok_ratio F2 TT mg1 G0 m0 k0 b0
  have G3 := ok_told F3 TT mc0 ⟨_, rfl⟩ G2 m2 k2 b2
  have G7 := ok_share F7 TT G1 m1 k1 b1 G3 m3 k3 b3
  have G6 := ok_pipe F6 TT G1 m1 k1 b1 G7 m7 k7 b7
  have G5 := ok_pipes (Ps := [Pp, Pt, Pn]) FCp TT TBp (by simp) mc4 ⟨_, rfl⟩ G6 m6 k6 b6
  have G8 := ok_tanks (Ps := [Pp, Pt, Pn]) FCt TT TBt (by simp) G1 m1 k1 b1
  have G4 := ok_net F4 TT mc1 ⟨_, rfl⟩ mc2 ⟨_, rfl⟩ mc3 ⟨_, rfl⟩ G1 m1 k1 b1 G5 m5 k5 b5 G8 m8 k8 b8
  have GIN := ok_excI (P := l.prog) (w := w) (base := base) (mg := mg) (C := CN) FiN EN.o EN.nf ⟨rfl, rfl, rfl, by decide +kernel, rfl, by decide +kernel, by decide +kernel⟩ rfl (Or.inl rfl) (Or.inl rfl) (by decide) (by decide)
  have GIT := ok_excI (P := l.prog) (w := w) (base := base) (mg := mg) (C := CT) FiT ET.o ET.nf ⟨rfl, rfl, rfl, by decide +kernel, rfl, by decide +kernel, by decide +kernel⟩ rfl (Or.inl rfl) (Or.inl rfl) (by decide) (by decide)
  have G24 := ok_number (P := l.prog) (w := w) (base := base) (Ps := [Pp, Pt, Pn]) FCn TN TBn (by simp)
  have G23 := ok_signed F23 G24 m24 k24 b24
  have G22 := ok_fracfrom F22 G24 m24 k24 b24 G23 m23 k23 b23
  have G21 := ok_sharefrom F21 G24 m24 k24 b24 G22 m22 k22 b22
  have G20 := ok_pipefrom F20 TD G24 m24 k24 b24 G21 m21 k21 b21
  have G16 := ok_wordsof (P := l.prog) (w := w) (base := base) (mg := mg) F16
  have G17 := ok_numsat F17 TD G24 m24 k24 b24 ET GIT biT mCT
  have G18 := ok_countat F18 TD G17 m17 k17 b17 ET GIT biT mCT
  have G19 := ok_pipesfrom F19 TD G20 m20 k20 b20 ET GIT biT mCT
  have G15 := ok_netof F15 TD G16 m16 k16 b16 G18 m18 k18 b18 G19 m19 k19 b19 G17 m17 k17 b17 G4 m4 k4 b4 ET GIT biT mCT EN GIN biN mCN
  have G25 := ok_jar (P := l.prog) (w := w) (base := base) F25 TJ
  have G26 := ok_dip (P := l.prog) (w := w) (base := base) F26 TJ
  have G27 := ok_one F27 TJ G26 m26 k26 b26
  have G29 := ok_fracW (P := l.prog) (w := w) (base := base) F29 TT
  have GM29 := ok_frac (P := l.prog) (w := w) (base := base) F29 TL
  have G30 := ok_part2 F30 G26 m26 k26 b26 G27 m27 k27 b27 G29 m29 k29 b29
  have G31 := ok_lot2 F31 TD G26 m26 k26 b26
  have G32 := ok_make2 F32 TD G26 m26 k26 b26 G27 m27 k27 b27 G30 m30 k30 b30 G31 m31 k31 b31
  have G33 := ok_lwhole (P := l.prog) (w := w) (base := base) F33 TL
  have G34 := ok_ltold F34 TL G33 m33 k33 b33 GM29 m29 k29 b29
  have G35 := ok_lpipe F35 TL G33 m33 k33 b33 G34 m34 k34 b34
  have G36 := ok_ltanks F36 TL G33 m33 k33 b33
  have G37 := ok_lnet F37 TL G33 m33 k33 b33 G35 m35 k35 b35 G36 m36 k36 b36
  have G38 := ok_parttext (P := l.prog) (w := w) (base := base) F38 TD
  have G39 := ok_rowsof F39 TD G38 m38 k38 b38
  have G40 := ok_blanked2 F40 TD G27 m27 k27 b27
  have G41 := ok_digits (P := l.prog) (w := w) (base := base) (mg := mg) F41
  have G42 := ok_shareof F42 TD G41 m41 k41 b41
  have G43 := ok_rowsort F43 TD G41 m41 k41 b41 G42 m42 k42 b42
  have G44 := ok_read F44 TD G43 m43 k43 b43
  have G45 := ok_toldT (It := IT) F45 G15 m15 k15 b15 EN mCN
  have G46 := ok_rewr F46 TD G27 m27 k27 b27 G26 m26 k26 b26
  have G28 := ok_same3 (P := l.prog) (w := w) (base := base) F28 TD
  have G9 := ok_neednet F9 G4 m4 k4 b4
  have G13 := ok_fracword (P := l.prog) (w := w) (base := base) F13 TD
  have G12 := ok_shareword F12 TD G13 m13 k13 b13
  have G11 := ok_piperow F11 TD G12 m12 k12 b12
  have G14 := ok_tanksrow (P := l.prog) (w := w) (base := base) F14 TD
  have G10 := ok_textof F10 TD G9 m9 k9 b9 G11 m11 k11 b11 G14 m14 k14 b14
  have bk10 : KBinds K (PySem.W.fnOf "text_of" "text_of" (defArgs sTextOf) (defBody sTextOf) (defScope sTextOf) .none kV10 dc10 pm10 an10 cd10 ct10) ["net"] ["net"] gRev gRevV := binds1 (fun s a => .of_eq rfl) (fun s a => .of_eq rfl)
  have bk15 : KBinds K (PySem.W.fnOf "net_of" "net_of" (defArgs sNetOf) (defBody sNetOf) (defScope sNetOf) .none kV15 dc15 pm15 an15 cd15 ct15) ["text"] ["text"] gRev gRevV := binds1 (fun s a => .of_eq rfl) (fun s a => .of_eq rfl)
  have G47 := ok_right8 F47 TD G32 m32 k32 b32 G39 m39 k39 b39 G46 m46 k46 b46 G40 m40 k40 b40 G15 m15 k15 b15 bk15 G10 m10 k10 b10 bk10 G44 m44 k44 b44 G37 m37 k37 b37 G28 m28 k28 b28 G45 m45 k45 b45
  exact ok_law3 F48 TD G47 m47 k47 b47 G25 m25 k25 b25
end KP

set_option Elab.async false
set_option linter.all false
open PySem PySem.W PyProof.Rows in
set_option maxRecDepth 100000 in
set_option maxHeartbeats 0 in
theorem PySem.Challenge.cw_hiddenrates_k08_whole_texts_there_and_ba_holds : PySem.Challenge.rw_hiddenrates_k08_whole_texts_there_and_ba.Holds := by
  w_on; o_law; k_head; (case hw => w_witness2)
  k_fill
  refine KG.walkGT (l := PySem.Challenge.rw_hiddenrates_k08_whole_texts_there_and_ba) (n := 63) (k := 15) (x := "script") rfl (by decide) rfl ⟨rfl, by decide, by decide⟩ (fun w h Y => PySem.W.kIn_of Y) ?F
  case F =>
    intro w mg fa h inK G hmg tab
    refine' _root_.KP.all_mk8 inK G hmg (tab _ ?tp) (tab _ ?tt) (tab _ ?tn) ?a0 ?l0 ?c0 ?k0 ?a1 ?l1 ?c1 ?k1 ?a2 ?l2 ?c2 ?k2 ?a3 ?l3 ?c3 ?k3 ?a4 ?l4 ?c4 ?k4 ?a5 ?l5 ?c5 ?k5 ?a6 ?l6 ?c6 ?k6 ?a7 ?l7 ?c7 ?k7 ?a8 ?l8 ?c8 ?k8 ?a9 ?l9 ?c9 ?k9 ?a10 ?l10 ?c10 ?k10 ?a11 ?l11 ?c11 ?k11 ?a12 ?l12 ?c12 ?k12 ?a13 ?l13 ?c13 ?k13 ?a14 ?l14 ?c14 ?k14 ?a15 ?l15 ?c15 ?k15 ?a16 ?l16 ?c16 ?k16 ?a17 ?l17 ?c17 ?k17 ?a18 ?l18 ?c18 ?k18 ?a19 ?l19 ?c19 ?k19 ?a20 ?l20 ?c20 ?k20 ?a21 ?l21 ?c21 ?k21 ?a22 ?l22 ?c22 ?k22 ?a23 ?l23 ?c23 ?k23 ?a24 ?l24 ?c24 ?k24 ?a25 ?l25 ?c25 ?k25 ?a26 ?l26 ?c26 ?k26 ?a27 ?l27 ?c27 ?k27 ?a28 ?l28 ?c28 ?k28 ?a29 ?l29 ?c29 ?k29 ?a30 ?l30 ?c30 ?k30 ?a31 ?l31 ?c31 ?k31 ?a32 ?l32 ?c32 ?k32 ?a33 ?l33 ?c33 ?k33 ?a34 ?l34 ?c34 ?k34 ?a35 ?l35 ?c35 ?k35 ?a36 ?l36 ?c36 ?k36 ?a37 ?l37 ?c37 ?k37 ?a38 ?l38 ?c38 ?k38 ?a39 ?l39 ?c39 ?k39 ?a40 ?l40 ?c40 ?k40 ?a41 ?l41 ?c41 ?k41 ?a42 ?l42 ?c42 ?k42 ?a43 ?l43 ?c43 ?k43 ?a44 ?l44 ?c44 ?k44 ?a45 ?l45 ?c45 ?k45 ?a46 ?l46 ?c46 ?k46 ?a47 ?l47 ?c47 ?k47 ?a48 ?l48 ?c48 ?k48 ?ztype ?zint ?ztuple ?zstr ?zlen ?zabs ?zall ?zenumerate ?zzip ?zisinstance ?zbool ?zrange ?zany ?zset ?zsorted ?zlist ?zrepr ?zmax ?zmin ?zdivmod ?q0 ?q1 ?q2 ?q3 ?q4 ?qF ?qg ?aCN ?xCN ?rvN ?iCN ?liN ?ciN ?kiN ?eBN ?aCT ?xCT ?rvT ?iCT ?liT ?ciT ?kiT ?eBT ?nt
    (case a0 => k_is)
    (case l0 => k_is)
    (case c0 => k_is)
    (case k0 => k_is)
    (case a1 => k_is)
    (case l1 => k_is)
    (case c1 => k_is)
    (case k1 => k_is)
    (case a2 => k_is)
    (case l2 => k_is)
    (case c2 => k_is)
    (case k2 => k_is)
    (case a3 => k_is)
    (case l3 => k_is)
    (case c3 => k_is)
    (case k3 => k_is)
    (case a4 => k_is)
    (case l4 => k_is)
    (case c4 => k_is)
    (case k4 => k_is)
    (case a5 => k_is)
    (case l5 => k_is)
    (case c5 => k_is)
    (case k5 => k_is)
    (case a6 => k_is)
    (case l6 => k_is)
    (case c6 => k_is)
    (case k6 => k_is)
    (case a7 => k_is)
    (case l7 => k_is)
    (case c7 => k_is)
    (case k7 => k_is)
    (case a8 => k_is)
    (case l8 => k_is)
    (case c8 => k_is)
    (case k8 => k_is)
    (case a9 => k_is)
    (case l9 => k_is)
    (case c9 => k_is)
    (case k9 => k_is)
    (case a10 => k_is)
    (case l10 => k_is)
    (case c10 => k_is)
    (case k10 => k_is)
    (case a11 => k_is)
    (case l11 => k_is)
    (case c11 => k_is)
    (case k11 => k_is)
    (case a12 => k_is)
    (case l12 => k_is)
    (case c12 => k_is)
    (case k12 => k_is)
    (case a13 => k_is)
    (case l13 => k_is)
    (case c13 => k_is)
    (case k13 => k_is)
    (case a14 => k_is)
    (case l14 => k_is)
    (case c14 => k_is)
    (case k14 => k_is)
    (case a15 => k_is)
    (case l15 => k_is)
    (case c15 => k_is)
    (case k15 => k_is)
    (case a16 => k_is)
    (case l16 => k_is)
    (case c16 => k_is)
    (case k16 => k_is)
    (case a17 => k_is)
    (case l17 => k_is)
    (case c17 => k_is)
    (case k17 => k_is)
    (case a18 => k_is)
    (case l18 => k_is)
    (case c18 => k_is)
    (case k18 => k_is)
    (case a19 => k_is)
    (case l19 => k_is)
    (case c19 => k_is)
    (case k19 => k_is)
    (case a20 => k_is)
    (case l20 => k_is)
    (case c20 => k_is)
    (case k20 => k_is)
    (case a21 => k_is)
    (case l21 => k_is)
    (case c21 => k_is)
    (case k21 => k_is)
    (case a22 => k_is)
    (case l22 => k_is)
    (case c22 => k_is)
    (case k22 => k_is)
    (case a23 => k_is)
    (case l23 => k_is)
    (case c23 => k_is)
    (case k23 => k_is)
    (case a24 => k_is)
    (case l24 => k_is)
    (case c24 => k_is)
    (case k24 => k_is)
    (case a25 => k_is)
    (case l25 => k_is)
    (case c25 => k_is)
    (case k25 => k_is)
    (case a26 => k_is)
    (case l26 => k_is)
    (case c26 => k_is)
    (case k26 => k_is)
    (case a27 => k_is)
    (case l27 => k_is)
    (case c27 => k_is)
    (case k27 => k_is)
    (case a28 => k_is)
    (case l28 => k_is)
    (case c28 => k_is)
    (case k28 => k_is)
    (case a29 => k_is)
    (case l29 => k_is)
    (case c29 => k_is)
    (case k29 => k_is)
    (case a30 => k_is)
    (case l30 => k_is)
    (case c30 => k_is)
    (case k30 => k_is)
    (case a31 => k_is)
    (case l31 => k_is)
    (case c31 => k_is)
    (case k31 => k_is)
    (case a32 => k_is)
    (case l32 => k_is)
    (case c32 => k_is)
    (case k32 => k_is)
    (case a33 => k_is)
    (case l33 => k_is)
    (case c33 => k_is)
    (case k33 => k_is)
    (case a34 => k_is)
    (case l34 => k_is)
    (case c34 => k_is)
    (case k34 => k_is)
    (case a35 => k_is)
    (case l35 => k_is)
    (case c35 => k_is)
    (case k35 => k_is)
    (case a36 => k_is)
    (case l36 => k_is)
    (case c36 => k_is)
    (case k36 => k_is)
    (case a37 => k_is)
    (case l37 => k_is)
    (case c37 => k_is)
    (case k37 => k_is)
    (case a38 => k_is)
    (case l38 => k_is)
    (case c38 => k_is)
    (case k38 => k_is)
    (case a39 => k_is)
    (case l39 => k_is)
    (case c39 => k_is)
    (case k39 => k_is)
    (case a40 => k_is)
    (case l40 => k_is)
    (case c40 => k_is)
    (case k40 => k_is)
    (case a41 => k_is)
    (case l41 => k_is)
    (case c41 => k_is)
    (case k41 => k_is)
    (case a42 => k_is)
    (case l42 => k_is)
    (case c42 => k_is)
    (case k42 => k_is)
    (case a43 => k_is)
    (case l43 => k_is)
    (case c43 => k_is)
    (case k43 => k_is)
    (case a44 => k_is)
    (case l44 => k_is)
    (case c44 => k_is)
    (case k44 => k_is)
    (case a45 => k_is)
    (case l45 => k_is)
    (case c45 => k_is)
    (case k45 => k_is)
    (case a46 => k_is)
    (case l46 => k_is)
    (case c46 => k_is)
    (case k46 => k_is)
    (case a47 => k_is)
    (case l47 => k_is)
    (case c47 => k_is)
    (case k47 => k_is)
    (case a48 => k_is)
    (case l48 => k_is)
    (case c48 => k_is)
    (case k48 => k_is)
    (case ztype => k_is)
    (case zint => k_is)
    (case ztuple => k_is)
    (case zstr => k_is)
    (case zlen => k_is)
    (case zabs => k_is)
    (case zall => k_is)
    (case zenumerate => k_is)
    (case zzip => k_is)
    (case zisinstance => k_is)
    (case zbool => k_is)
    (case zrange => k_is)
    (case zany => k_is)
    (case zset => k_is)
    (case zsorted => k_is)
    (case zlist => k_is)
    (case zrepr => k_is)
    (case zmax => k_is)
    (case zmin => k_is)
    (case zdivmod => k_is)
    (case q0 => k_is)
    (case q1 => k_is)
    (case q2 => k_is)
    (case q3 => k_is)
    (case q4 => k_is)
    (case qF => k_is)
    (case qg => k_is)
    (case aCN => k_is)
    (case xCN => k_is)
    (case iCN => k_is)
    (case liN => k_is)
    (case ciN => k_is)
    (case kiN => k_is)
    (case aCT => k_is)
    (case xCT => k_is)
    (case iCT => k_is)
    (case liT => k_is)
    (case ciT => k_is)
    (case kiT => k_is)
    (case rvN => kernel_rfl)
    (case eBN => kernel_rfl)
    (case rvT => kernel_rfl)
    (case eBT => kernel_rfl)
    (case nt => kernel_rfl)
    (case tp => kernel_rfl)
    (case tt => kernel_rfl)
    (case tn => kernel_rfl)


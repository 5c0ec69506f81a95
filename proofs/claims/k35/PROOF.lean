import PyProof.Rows.All
import Wide.All
import OpenK.AllK
import Wide.FinOn
import KE.KExcSuper
import HandS.ForMost
import HandS.ForExc
import HandS.Property
import HandS.Codes
import HandS.TryMany
import HandS.Strs
import HandS.Deep
import HandS.IsInst
import HandS.TupSets
import HandS.Flt
import HandS.TryOnly
import HandS.TupAny
import HandS.Style
import HandS.Iter
import HandS.ForMost
import HandS.Walk
import HandS.ExcValue
import HandS.ExcInit
import HandS.Dict
import HandS.Conv
import HandS.SetFor
import PyProof.FactsAll.list_3
import HandS.TupMul
import KE.KRevSl
import PyProof.WalksMore
import HandS.Call
import HandS.Exc
import PyProof.ReprRoads
import PyProof.ReprLen
import PyProof.FitsInt
import HandS.RaiseMore
import HandS.Ends
import HandS.Words
import HandS.DictComp
import HandS.NoneIn
import HandS.SetKeys
import PyProof.TupleOfSeq
import KE.KSortTupG
import PyProof.CallFns
import HandS.SetBool
import HandS.ExcOwn
import KE.DatumOrd
import KE.DataMinMax
import PyProof.MaxThree
import PyProof.ListRange
import KE.DataFind
import KE.KExcIs
import KE.KIsAll
import HandS.ExcIs
import HandS.Text
import PyProof.FactsAll.subtypes_4
import PySem.Challenge.RW_starward_k35_votes_by_pairs
set_option Elab.async false
set_option linter.all false
set_option maxRecDepth 100000
set_option maxHeartbeats 4000000
set_option Elab.async false
set_option linter.all false
set_option maxRecDepth 100000
set_option maxHeartbeats 4000000
/-! An error class of the program over ValueError, at any depth, whose making says super's making of a text and keeps one field. -/
namespace PySem
namespace SwX
open PySem.W PySem.Calls PyProof.Rows PySem.HandSPX
def iA (fld : Str) (p1 p2 : Pos) : Arguments := { posonlyargs := [], args := [{ arg := "self", annotation := none, pos := p1 }, { arg := fld, annotation := none, pos := p2 }], vararg := none, kwonlyargs := [], kw_defaults := [], kwarg := none, defaults := [] }
def iB (txt fld : Str) (kx : Nat) (q1 q2 q3 q4 q5 q6 r1 r2 r3 r4 : Pos) : List Stmt :=
  [.Expr (.Call (.Attribute (.Call (.Name "super" q1) [] [] q2) "__init__" q3) [.Constant (.str txt) kx q4] [] q5) q6, .Assign [.Attribute (.Name "self" r1) fld r2] (.Name fld r3) r4]
def iS (fld : Str) : Scope := { kind := .function, names := [(PySem.Str.ofString "self", .local), (fld, .local), (PySem.Str.ofString "__class__", .free), (PySem.Str.ofString "super", .globalImplicit)], isGenerator := false, isCoroutine := false, more := [] }
/-- the call of super's making, read step by step -/
def SupEv (txt : Str) (kx : Nat) (q1 q2 q3 q4 q5 : Pos) : Prop := ∃ pl : Env → Sem Bool, ∀ env : Env, eval (.Call (.Attribute (.Call (.Name "super" q1) [] [] q2) "__init__" q3) [.Constant (.str txt) kx q4] [] q5) env = (do
    let ov ← attributeBase (.Call (.Name "super" q1) [] [] q2) "__init__" env (eval (.Call (.Name "super" q1) [] [] q2) env)
    standAt q3.atName
    let (f, first) ← holding [ov] (getMethod ov "__init__" (pl env))
    callWith q5 f first (backTo q5 (starEach [.Constant (.str txt) kx q4] env)) [])
example : SupEv "no attitude" 0 ⟨27, 8, 27, 13⟩ ⟨27, 8, 27, 15⟩ ⟨27, 8, 27, 24⟩ ⟨27, 25, 27, 49⟩ ⟨27, 8, 27, 50⟩ := ⟨_, fun _ => rfl⟩
structure SErr (P : Program) (K : Frag) (mg : Str → Option Value) (x fld : Str) (C fI : Addr) : Prop where
  gC : mg x = some (.ref C)
  cls : ∃ nm q N bs bm sn sub ab col dd k0 k1 k2 k3 k5, K.lookup C = some (excClassObj nm q C N bs bm true sn sub ab col dd k0 k1 k2 k3 k5 "ValueError.__new__") ∧ refsVE bm = true
  sa : findIn K (.ref C) "__setattr__" = some (some (.builtin "object.__setattr__"))
  ga : findIn K (.ref C) "__getattribute__" = some (some (.builtin "BaseException.__getattribute__"))
  gg : findIn K (.ref C) "__getattr__" = some none
  noF : findIn K (.ref C) fld = some none
  iC : findIn K (.ref C) "__init__" = some (some (.ref fI))
  tC : typeIn K (.ref fI) = some (.type "function")
  kC : keepIn K (.ref C) = true
  exC : subIn K (.ref C) (.type "BaseException") = some true
  veC : subIn K (.ref C) (.type "ValueError") = some true
  tyC : typeIn K (.ref C) = some (.type "type")
  hdC : hasDictIn K C = true
  te : exmOne K (.ref C) (.ref C) = some true
  al : ks_superIn K C C "__init__" = some (some (.builtin "ValueError.__init__"))
  self_ : mroIn K C (.ref C) = some true
  opq : nsIn K cStatics "thirdparty.any" = some none
  nsS : mg "super" = none
  okf : (fld == ("self" : Str)) = false
  okc : (("__class__" : Str) == fld) = false
  oks : (("super" : Str) == fld) = false
  okv : (("self" : Str) == fld) = false
  okd : (fld == ("__debug__" : Str)) = false
  fn : ∃ (oc : Value) (od : Option Addr) (doc pm : Value) (an : Option Addr) (cda cc : Addr) (ct : Value) (qual txt : Str) (kx : Nat) (osl : Array (Option Value)) (p1 p2 q1 q2 q3 q4 q5 q6 r1 r2 r3 r4 : Pos),
    K.lookup fI = some ⟨oc, od, .func (ksFn "__init__" qual (iA fld p1 p2) (iB txt fld kx q1 q2 q3 q4 q5 q6 r1 r2 r3 r4) (iS fld) .none .none doc pm an (.ref cda) ct cc), osl⟩ ∧ codeIn K (.ref cda) qual = true ∧
    (∃ ccl cdd vs ccs file tf, K.lookup cda = some ⟨ccl, cdd, .fields vs, ccs⟩ ∧ vs[2]? = some (.str file tf) ∧ ((P.main.file : Str) == file) = true) ∧
    (∃ cl cld csl, K.lookup cc = some ⟨cl, cld, .cell (some (.ref C)), csl⟩) ∧
    (∀ (x : Addr) (v : Value), bindArgs (ksFn "__init__" qual (iA fld p1 p2) (iB txt fld kx q1 q2 q3 q4 q5 q6 r1 r2 r3 r4) (iS fld) .none .none doc pm an (.ref cda) ct cc) ⟨[.ref x, v], []⟩ = pure [(("self" : Str), Value.ref x), (fld, v)]) ∧ SupEv txt kx q1 q2 q3 q4 q5
  top : (P.main.scope.names.lookup ("super" : Str)).isSome = false
theorem one_size (v : Value) : [v].length ≤ sizeLine := by
  rw [sizeLine_eq]
  exact (by decide : 1 ≤ 16777216)
/-- what the making leaves of a fresh exception at x -/
structure InitEnd (h h' : Heap) (x C dx t1 : Addr) (fld : Str) (v : Value) : Prop where
  keep : ∀ b o, b ≠ x → h.get? b = some o → h'.get? b = some o
  obj : h'.get? x = some { cls := .ref C, dict := some dx, data := .fields #[.ref t1, .none, .none, .none, .bool false, .none] }
  dbig : h.objs.size ≤ dx
  dne : dx ≠ x
  ns : h'.Ns1 dx (fun y => if y = fld then some v else none)
structure OwnMade (h h' : Heap) (e C d : Addr) (fld : Str) (v : Value) : Prop where
  keep : ∀ b o, h.get? b = some o → h'.get? b = some o
  new : h.objs.size ≤ e
  obj : ∃ t1 : Addr, h'.get? e = some ({ cls := .ref C, dict := some d, data := .fields #[.ref t1, .none, .none, .none, .bool false, .none] } : Obj)
  dbig : h.objs.size ≤ d
  dne : d ≠ e
  ns : h'.Ns1 d (fun y => if y = fld then some v else none)
section
variable {prog : Program} {w : World} {A : Around} {E : Value → Shared → Prop} {R : Result → Shared → Prop} {s : Shared} {K : Frag} {mg mb : Str → Option Value} {C fI : Addr} {xn fld : Str}
theorem sup_init (T : SErr prog K mg xn fld C fI) {x t0 : Addr} {v : Value} (X : K.In s.heap) (hlim : s.heap.NoLimit) (hg : s.heap.Ns mainGlobals mg) (hb : s.heap.Ns builtinsNs mb) (hbs : mb "super" = bootBuiltins "super")
    (hx : s.heap.get? x = some (excO C t0)) (hnx : K.lookup x = none) (hroom : A.depth < recursionLimit)
    (hq : ∀ h' tk dx t1, InitEnd s.heap h' x C dx t1 fld v → R (.ok (.ret .none)) { s with heap := h', toks := tk }) :
    codeAny (model prog w) A (.call (.ref fI) ⟨[.ref x, v], []⟩) R s := by
  obtain ⟨oc, od, doc, pm, an, cda, cc, ct, qual, txt, kx, osl, p1, p2, q1, q2, q3, q4, q5, q6, r1, r2, r3, r4, ho, hcd, ⟨ccl, cdd, vs, ccs, file, tf, hcode, hvs, hfile⟩, ⟨cl, cld, csl, hcell⟩, hbnd, ⟨pl, hev⟩⟩ := T.fn
  obtain ⟨nm, q, N, bs, bm, sn, sub, ab, col, dd, k0, k1, k2, k3, k5, hC, hbm⟩ := T.cls
  have hcl : clsIn K C = some { name := nm, bases := bs, mro := .ref C :: bm, ns := N, qualname := q, hasDict := true, slotNames := sn, subclasses := sub, abstract := ab, collection := col, hasDel := false } := by unfold clsIn; rw [hC] <;> rfl
  have hf1 : fld ≠ "self" := by simpa using T.okf
  have hlk : (iS fld).names.lookup fld = some .local := by
    show (List.lookup fld [(PySem.Str.ofString "self", NameKind.local), (fld, .local), (PySem.Str.ofString "__class__", .free), (PySem.Str.ofString "super", .globalImplicit)]) = some .local
    rw [List.lookup_cons]
    rw [show (fld == PySem.Str.ofString "self") = false from T.okf]
    simp
  have hkS : (iS fld).names.lookup ("super" : Str) = some .globalImplicit := by
    show (List.lookup ("super" : Str) [(PySem.Str.ofString "self", NameKind.local), (fld, .local), (PySem.Str.ofString "__class__", .free), (PySem.Str.ofString "super", .globalImplicit)]) = some .globalImplicit
    rw [List.lookup_cons, show (("super" : Str) == PySem.Str.ofString "self") = false by decide +kernel]
    simp only
    rw [List.lookup_cons, T.oks]
    rfl
  have hkC : (iS fld).names.lookup ("__class__" : Str) = some .free := by
    show (List.lookup ("__class__" : Str) [(PySem.Str.ofString "self", NameKind.local), (fld, .local), (PySem.Str.ofString "__class__", .free), (PySem.Str.ofString "super", .globalImplicit)]) = some .free
    rw [List.lookup_cons, show (("__class__" : Str) == PySem.Str.ofString "self") = false by decide +kernel]
    simp only
    rw [List.lookup_cons, T.okc]
    rfl
  have hself : List.lookup ("self" : Str) [(("self" : Str), Value.ref x), (fld, v)].reverse = some (Value.ref x) := by
    show List.lookup ("self" : Str) [(fld, v), (("self" : Str), Value.ref x)] = some (Value.ref x)
    rw [List.lookup_cons, T.okv]
    rfl
  have hfld : List.lookup fld [(("self" : Str), Value.ref x), (fld, v)].reverse = some v := by
    show List.lookup fld [(fld, v), (("self" : Str), Value.ref x)] = some v
    rw [List.lookup_cons, show (fld == fld) = true by simp]
  refine ks_codeAny_call_defAt (fd := ksFn "__init__" qual (iA fld p1 p2) (iB txt fld kx q1 q2 q3 q4 q5 q6 r1 r2 r3 r4) (iS fld) .none .none doc pm an (.ref cda) ct cc) (body := iB txt fld kx q1 q2 q3 q4 q5 q6 r1 r2 r3 r4) (binds := [(("self" : Str), Value.ref x), (fld, v)]) hroom (X _ _ ho) rfl hlim (codeRec_of X hcd) rfl
    (BindsTo.of_eq (hbnd x v)) ?_ ?_ (fun h₁ hn hk₁ => ?_) rfl rfl rfl
  · intro y hy
    simp only [iS, List.mem_cons, List.not_mem_nil, or_false] at hy
    rcases hy with rfl | rfl | rfl | rfl <;> simp
  · intro y hy
    rcases List.mem_cons.mp hy with rfl | hy
    · rfl
    rcases List.mem_cons.mp hy with rfl | hy
    · exact hlk
    · cases hy
  · have X₁ : K.In h₁ := X.keeps hk₁
    have hx₁ := hk₁ _ _ hx
    have hL : s.heap.objs.size ≠ x := Nat.ne_of_gt (Heap.lt_size hx)
    obtain ⟨hp, g, d, t, os⟩ := s
    obtain ⟨oD, hD1, hD2⟩ : ∃ oD, h₁.get? C = some oD ∧ oD.data = .cls { name := nm, bases := bs, mro := .ref C :: bm, ns := N, qualname := q, hasDict := true, slotNames := sn, subclasses := sub, abstract := ab, collection := col, hasDel := false } := ⟨_, X₁ _ _ hC, rfl⟩
    have xC : x ≠ C := fun z => by
      rw [z, X₁ _ _ hC] at hx₁
      cases hx₁
    refine ks_wpAt_execs_cons (ks_wpAt_Expr_any (ks_wpAt_MethodCall ?_ (hev _)))
    refine ks_wpAt_super_base (oc := ⟨ccl, cdd, .fields vs, ccs⟩) hkS hkC rfl rfl (X₁ _ _ ho) rfl rfl rfl (X₁ _ _ hcode) rfl hvs hfile T.top ?_
    refine ks_loadName_global rfl hkS (loadGlobal_builtin (hg.keeps hk₁) T.nsS (hb.keeps hk₁) (hbs.trans (by decide +kernel)) ⟨rfl, ?_⟩)
    refine wpAny_loadName_free rfl hkC rfl ⟨_, X₁ _ _ hcell, rfl⟩ ?_
    refine wpAny_loadName_local rfl rfl hn (v := .ref x) hself ?_
    refine ks_wpAny_isType_cls hD1 hD2 ⟨rfl, ?_⟩
    refine ks_wpAny_call_super hD1 hD2 hx₁ rfl (fun c e => by cases e) (looks_mroIn X₁ T.self_) (fun h2 e2 k2 => ?_)
    have X2 : K.In h2 := X₁.keeps k2
    have hx2 := k2 _ _ hx₁
    have I2 : InstAt h2 x (excO C t0) C none := ⟨hx2, rfl, rfl, trivial⟩
    refine kxs_getMethod kxs_ValueError e2 (looks_opaque X2 T.opq) (l₀ := .ref C :: bm) (fun A Q E s k q => wpAny_bind ((looks_clsIn X2 hcl) A _ E s k (wpAny_pure q))) rfl X2 ?_ (I2.type.andThen (looks_subIn X2 T.veC)) xC rfl ?_
    · have z := T.al
      unfold ks_superIn at z
      rw [hcl] at z
      exact z
    -- the wrapper is called with the text
    have hu0 : (h2.push (kxs_mw "ValueError.__init__" x)).get? h2.objs.size = some (kxs_mw "ValueError.__init__" x) := Heap.get?_push_at rfl rfl
    have k3 : ∀ b o, h2.get? b = some o → (h2.push (kxs_mw "ValueError.__init__" x)).get? b = some o := fun b o e => Heap.get?_push_of_some _ e
    refine kxs_callWith (i := "ValueError.__init__") (x := x) (by rfl) ?_
    refine evalArgs_plain ?_
    refine Calls.spliced_cons ?_
    show wpAny _ _ (eval (.Constant (.str txt) kx q4) _) _ _ _
    refine Calls.Constant_str ?_
    refine Calls.spliced_nil ⟨hu0, ?_⟩
    refine wpAny_call (codeAny_of_tree ?_)
    show wpAny _ _ (callAny (.ref h2.objs.size) ⟨[Value.str txt _], []⟩) _ _ _
    simp only [callAny]
    refine wpAny_bind (wpAny_load hu0 ?_)
    simp only [kxs_mw, show (Value.type "method-wrapper" == Value.type "method" || Value.type "method-wrapper" == Value.type "builtin_function_or_method" || Value.type "method-wrapper" == Value.type "method-wrapper") = true by decide, if_true]
    refine KFB.if_so (by decide) ?_
    refine wpAny_bind (check_bound_init F.excBase_ValueError.toExcCallFacts (k3 _ _ (X2 _ _ hC)) (k3 _ _ hx2) rfl ?_)
    refine wpAny_bind (wpAny_pure (wpAny_pure ?_))
    refine ⟨plainId_quiet F.excBase_ValueError.init.plain _, codeAny_builtin F.excBase_ValueError.initEntry ?_⟩
    refine exc_init_tree (cls := .ref C) (t0 := t0) (dv := none) (c2 := .none) (c3 := .none) (b4 := .bool false) (k3 _ _ hx2) (one_size _) (fun h4 k4 e4 t4 => ?_)
    -- self.fld = fld
    show wpAt _ _ _ (execs _ _) _ _ _
    have up : ∀ b o, b ≠ x → h₁.get? b = some o → h4.get? b = some o := fun b o hb e => k4 b o hb (k3 _ _ (k2 _ _ e))
    have X4 : K.In h4 := fun b o e => up b o (fun z => by rw [z, hnx] at e; cases e) (X₁ _ _ e)
    have hn4 : h4.Ns hp.objs.size (fun y => List.lookup y [(("self" : Str), Value.ref x), (fld, v)].reverse) := hn.at (fun o e => up _ o hL e)
    refine ks_wpAt_execs_cons (ks_wpAt_Assign_Attr (wpAt_of_wpAny (wpAny_Name (wpAny_loadName_local rfl hlk hn4 hfld (wpAny_Name (wpAny_loadName_local rfl rfl hn4 hself ?_) rfl)) ?_)))
    · refine set_plain X4 (ox := excO C _) (od := none) ⟨e4, rfl, rfl, trivial⟩ T.sa ?_
      refine exc_osa X4 e4 hcl (show refsVE (.ref C :: bm) = true from hbm) rfl T.noF (fun h5 tk5 dx k5 dn dne hx5 hn5 => ?_)
      show wpAt _ _ _ (execs _ _) _ _ _
      have z : hp.objs.size < h4.objs.size := hn4.lt
      exact wpAt_of_wpAny (wpAny_execs_nil (hq h5 tk5 dx _ ⟨fun b o hb e => k5 b o hb (up b o hb (hk₁ b o e)), hx5, Nat.le_of_lt (Nat.lt_of_lt_of_le z dn), dne, hn5⟩))
    · exact T.okd
theorem sup_made (T : SErr prog K mg xn fld C fI) {v : Value} (X : K.In s.heap) (hlim : s.heap.NoLimit) (hg : s.heap.Ns mainGlobals mg) (hb : s.heap.Ns builtinsNs mb) (hbs : mb "super" = bootBuiltins "super") (hroom : A.depth + 1 < recursionLimit)
    (hq : ∀ h' tk e d, OwnMade s.heap h' e C d fld v → R (.ok (.ret (.ref e))) { s with heap := h', toks := tk }) :
    codeAny (model prog w) A (.call (.ref C) ⟨[v], []⟩) R s := by
  obtain ⟨nm, q, N, bs, bm, sn, sub, ab, col, dd, k0, k1, k2, k3, k5, hC, hbm⟩ := T.cls
  obtain ⟨hp, g, dr, tk, os⟩ := s
  have k : ∀ b o, hp.get? b = some o → ((hp.push (kdv_tup [v])).push (excO C hp.objs.size)).get? b = some o := fun b o e => Heap.get?_push_of_some _ (Heap.get?_push_of_some _ e)
  have hget : ((hp.push (kdv_tup [v])).push (excO C hp.objs.size)).get? (hp.objs.size + 1) = some (excO C hp.objs.size) := by heap_get
  have hnx : K.lookup (hp.objs.size + 1) = none := by
    cases e : K.lookup (hp.objs.size + 1) with
    | none => rfl
    | some o =>
      have z : hp.get? (hp.objs.size + 1) = some o := X _ _ e
      exact absurd (Nat.lt_of_succ_lt (Heap.lt_size z)) (Nat.lt_irrefl _)
  refine call_own F.excBase_ValueError (fun Y => refsVE_contains Y bm hbm) (X _ _ hC) (looks_findIn X T.iC) (fun self => bind_fn X self T.tC) (one_size v) ?_
  refine sup_init (s := ⟨(hp.push (kdv_tup [v])).push (excO C hp.objs.size), g, dr, tk, os⟩) T (X.keeps k) (hlim.keeps k) (hg.keeps k) (hb.keeps k) hbs hget hnx ?_ fun h' tk' dx t1 ⟨k', hx, dn, dne, hns⟩ => ?_
  · show A.depth + 1 < recursionLimit
    exact hroom
  · have old : ∀ b o, hp.get? b = some o → h'.get? b = some o := fun b o e => k' b o (Nat.ne_of_lt (Nat.lt_succ_of_lt (Heap.lt_size e))) (k b o e)
    have z : hp.objs.size + 1 + 1 ≤ dx := by
      first
        | (simpa only [Heap.size_push] using dn)
        | exact dn
        | (have q := dn; rw [Heap.size_push, Heap.size_push] at q; exact q)
    exact ⟨rfl, hq h' tk' (hp.objs.size + 1) dx ⟨old, Nat.le_succ _, ⟨_, hx⟩, Nat.le_trans (Nat.le_trans (Nat.le_succ _) (Nat.le_succ _)) z, dne, hns⟩⟩

end
end SwX
end PySem
namespace L2
open PySem PySem.Spec PyProof.Rows
theorem relO_one {f g : Str} {v : V} {u : Value} (r : RelV v u) : RelO (List.lookup g [(f, v)]) (if g = f then some u else none) := by
  by_cases hw : g = f
  · subst hw
    rw [if_pos rfl, show List.lookup g [(g, v)] = some v by simp [List.lookup]]
    exact r
  · rw [if_neg hw, show List.lookup g [(f, v)] = none by
      have qw : (g == f) = false := by simpa using hw
      simp [List.lookup, qw]]
    trivial
section
variable {X : Cx} {C fI : Addr} {xn fld : Str}
/-- X(e), X such a class: its own dict d, new, keeps the field -/
def tMkS (C : Addr) (fld : Str) (ta : TA) : St → Hp → XK → Prop := fun σ H Q => ta σ H fun vs H1 => ∃ v, vs = [v] ∧ ∀ d, H1 d = none → Q (.ref C) (some d) (upd H1 d (.xd [(fld, v)]))
theorem pmk_sup {a : Expr} {ta : TA} {p pos : Pos} {k : Nat} (T : PySem.SwX.SErr X.prog X.K X.mg xn fld C fI) (hr : Room k X.A) (ha : PA X [a] ta) (hg : Gl X xn := by rfl) (hdb : (xn == ("__debug__" : Str)) = false := by decide)
    (he : starEach (a :: []) X.env = (false, eval a X.env) :: starEach [] X.env := by rfl) (hpl : (backTo pos (starEach [] X.env)).any (·.1) = false := by rfl) :
    PMk X (.Call (.Name xn p) [a] [] pos) (tMkS C fld ta) := by
  intro pins s σ H Q I h
  refine wpAny_Call_Name_kw (ld_glob I hg T.gC ?_ hdb)
  refine PySem.W.callWith_K (h₀ := X.base) I.ok.mod.kin T.kC (thn (ha.run pos pins s σ H _ I h) fun us s1 hh => ?_) he hpl
  obtain ⟨vs, H1, I1, r1, v, ev, q1⟩ := hh
  subst ev
  refine ⟨I1.kIn, ?_⟩
  cases r1 with
  | cons rv rn =>
    rename_i v' us'
    cases rn
    show wpAny _ _ (call (.ref C) [v']) _ _ _
    have hlim := I1.nolimit
    obtain ⟨mb, hb1, hb2⟩ := I1.mod.blt
    have hgl := I1.mod.glob.keeps I1.bk
    have hbl := hb1.keeps I1.bk
    have hkin := I1.kIn
    obtain ⟨hp, g, dr, tk, os⟩ := s1
    refine wpAny_call (PySem.SwX.sup_made T hkin hlim hgl hbl (hb2 _ (by decide)) (by have := hr.dp; omega) fun h' tk' e d M => ?_)
    show MkP X pins σ Q (.ref e) ⟨h', g, dr, tk', os⟩
    obtain ⟨t1, hoe⟩ := M.obj
    have hns := M.ns
    obtain ⟨G', g1, g2⟩ := restrict h' fun b => decide (b ≠ e)
    have gk : ∀ b, b ≠ e → G'.get? b = h'.get? b := fun b hb => g1 b (decide_eq_true hb)
    have ge : G'.get? e = none := g2 e (by simp)
    have old : ∀ b o, hp.get? b = some o → G'.get? b = some o := fun b o q => (gk b (Nat.ne_of_lt (Nat.lt_of_lt_of_le (Heap.lt_size q) M.new))).trans (M.keep b o q)
    have ob : ObjOk X.prog X.w (upd H1 d (.xd [(fld, v)])) G' d (.xd [(fld, v)]) :=
      ⟨_, hns.at (fun o q => (gk d M.dne).trans q), fun f => relO_one rv⟩
    have J : Inv X pins σ (upd H1 d (.xd [(fld, v)])) ⟨G', g, dr, tk', os⟩ := I1.laid (t' := tk') old M.dbig ob
    refine ⟨e, _, _, ⟨G', g, dr, tk', os⟩, _, .ref C, some d, rfl, J, fun b o q => ?_, ge, hoe, ⟨rfl, rfl⟩, rfl, rfl, ?_, rfl, I1.bare, raises_own T.exC T.tyC, q1 d (I1.hok.fresh M.dbig)⟩
    · by_cases hb : b = e
      · have q' : G'.get? b = some o := q
        rw [hb, ge] at q'; cases q'
      · exact (gk b hb).symm.trans q
    · rw [upd_ne (Ne.symm M.dne)]
      exact I1.hok.fresh M.new
/-- raise X(e) -/
def tRaiseS (C : Addr) (fld : Str) (W : WX) (ta : TA) : TS := fun _ σ H => tMkS C fld ta σ H fun cls d H' => W cls d σ H'
theorem ps_raiseS {a : Expr} {ta : TA} {W : WX} {p pos pos2 : Pos} {k : Nat} (hc : X.calm = true) (T : PySem.SwX.SErr X.prog X.K X.mg xn fld C fI) (hr : Room k X.A) (tk : Takes X W) (ha : PA X [a] ta) (hg : Gl X xn := by rfl) (hdb : (xn == ("__debug__" : Str)) = false := by decide)
    (he : starEach (a :: []) X.env = (false, eval a X.env) :: starEach [] X.env := by rfl) (hpl : (backTo pos (starEach [] X.env)).any (·.1) = false := by rfl) :
    PS X (.Raise (some (.Call (.Name xn p) [a] [] pos)) none pos2) (tRaiseS C fld W ta) := ps_raise hc tk (pmk_sup T hr ha hg hdb he hpl)
/-- n.fld, n the exception that the suite holds (at a; its class cls, its dict d) -/
def tErrFld (C : Addr) (fld : Str) (a : Addr) (cls : Value) (d : Option Addr) (te : TE) : TE := fun σ H Q => te σ H fun x H1 => x = .ref a ∧ cls = .ref C ∧ ∃ (dd : Addr) (v : V), d = some dd ∧ H1 dd = some (.xd [(fld, v)]) ∧ Q v H1
theorem pe_errFld {a : Addr} {oe : Obj} {cls : Value} {d : Option Addr} {pn : List (Addr × Obj)} {e : Expr} {te : TE} {pos : Pos} (T : PySem.SwX.SErr X.prog X.K X.mg xn fld C fI) (hz : Zc cls d oe) (hf : ∃ vs, oe.data = .fields vs) (he : PE (X.suite a ((a, oe) :: pn)) e te)
    (hb : attributeBase e fld X.env (eval e X.env) = eval e X.env := by rfl) :
    PE (X.suite a ((a, oe) :: pn)) (.Attribute e fld pos) (tErrFld C fld a cls d te) := by
  refine ⟨fun pins s σ H Q I h => ?_⟩
  refine attr_of hb (thn (he.run pins s σ H _ I h) fun u s1 hh => ?_)
  obtain ⟨x, H1, I1, rx, ex, ec, dd, v, ed, ea, q⟩ := hh
  subst ex
  obtain rfl : u = Value.ref a := rx
  subst ec
  subst ed
  obtain ⟨ha, _⟩ := I1.pin (a, oe) (List.mem_append_left _ List.mem_cons_self)
  obtain ⟨vs, hd⟩ := hf
  have hx : ObjOk X.prog X.w H1 s1.heap dd (.xd [(fld, v)]) := I1.hok dd _ ea
  obtain ⟨mA, hns, hr⟩ := hx
  obtain ⟨od, ho, hl⟩ := lookIn_ns hns
  have l : List.lookup fld [(fld, v)] = some v := by simp [List.lookup]
  obtain ⟨u, hu, ru⟩ := RelO.some_of (v := v) (o := mA fld) (by rw [← l]; exact hr fld)
  have J : PySem.W.InstAt s1.heap a oe C (some od) := ⟨ha, hz.1, by unfold PySem.W.notCls; rw [hd] <;> rfl, by rw [hz.2]; exact ho⟩
  exact HandSPX.exc_get I1.kIn J T.ga T.gg T.exC (PySem.W.findObj_own T.hdC T.noF rfl (by rw [hl, hu])) (handed_of ru) ⟨v, H1, I1.tok _, ru, q⟩
end
end L2
set_option Elab.async false
set_option linter.all false
set_option maxRecDepth 100000
set_option maxHeartbeats 4000000
/-! try with several clauses that all hand the error to one name. -/
namespace L2
open PySem PySem.Spec PyProof.Rows
/-- what follows a suite: the name is gone again -/
def noName (i : Nat) (D : Ends) : Ends := { nx := fun σ' H' => D.nx (σ'.set i none) H', rt := D.rt, bk := fun σ' H' => D.bk (σ'.set i none) H', ct := fun σ' H' => D.ct (σ'.set i none) H' }
abbrev ClauseT := Value × Bool × (Addr → Value → Option Addr → TS)
def wEach (K : PySem.W.Frag) (i : Nat) (Wout : WX) (D : Ends) : List ClauseT → WX
  | [] => Wout
  | (c, true, ts) :: r => fun cls d σ H => ∃ b, PySem.W.exmOne K cls c = some b ∧ (b = true → ∀ a, H a = none → ts a cls d (noName i D) (σ.set i (some (.ref a))) H) ∧ (b = false → wEach K i Wout D r cls d σ H)
  | (c, false, ts) :: r => fun cls d σ H => ∃ b, PySem.W.exmOne K cls c = some b ∧ (b = true → ∀ a, H a = none → ts a cls d D σ H) ∧ (b = false → wEach K i Wout D r cls d σ H)
inductive Clauses (X : Cx) (n : Str) : List ExceptHandler → List ClauseT → Prop
  | nil : Clauses X n [] []
  | cons {x : Str} {c : Value} {ts : Addr → Value → Option Addr → TS} {b₀ : Stmt} {suite : List Stmt} {np pos' : Pos} {hds : List ExceptHandler} {l : List ClauseT} (hc : Names X x c)
      (hsu : ∀ (a : Addr) (oe : Obj) (cls : Value) (d : Option Addr) (pn : List (Addr × Obj)), Zc cls d oe → (∃ vs, oe.data = .fields vs) → PSs (X.suite a ((a, oe) :: pn)) (b₀ :: suite) (ts a cls d)) (r : Clauses X n hds l) :
      Clauses X n (.ExceptHandler (some (.Name x np)) (some n) (b₀ :: suite) pos' :: hds) ((c, true, ts) :: l)
  | bare {x : Str} {c : Value} {ts : Addr → Value → Option Addr → TS} {b₀ : Stmt} {suite : List Stmt} {np pos' : Pos} {hds : List ExceptHandler} {l : List ClauseT} (hc : Names X x c)
      (hsu : ∀ (a : Addr) (oe : Obj) (cls : Value) (d : Option Addr) (pn : List (Addr × Obj)), Zc cls d oe → (∃ vs, oe.data = .fields vs) → PSs (X.suite a ((a, oe) :: pn)) (b₀ :: suite) (ts a cls d)) (r : Clauses X n hds l) :
      Clauses X n (.ExceptHandler (some (.Name x np)) none (b₀ :: suite) pos' :: hds) ((c, false, ts) :: l)
section
variable {X : Cx} {n : Str} {i : Nat} {body : List Stmt} {h₀ : ExceptHandler} {hds : List ExceptHandler} {l : List ClauseT} {pos : Pos} {tb : WX → TS} {Wout : WX}
/-- the clauses, one after the other, at an error that was met -/
theorem each_ok (hN : X.N.Nodup) (hi : X.N[i]? = some n) (hln : X.env.kindOf n = some .local) (hf : X.env.frame = some X.env.locals) (hs : X.stack = X.env :: X.outer) (tk : Takes X Wout) (ok : X.Ok)
    {a : Addr} {B : Heap} {cls : Value} {d : Option Addr} {pins : List (Addr × Obj)} {σ' : St} {H' : Hp} {D : Ends} {sI s' : Shared} {h3 : Heap} (J : Inv X pins σ' H' sI) (nb : ∀ b o, sI.heap.get? b = some o → b ∉ frs X.stack → B.get? b = some o)
    (up : sI.heap.UpToSlots s'.heap) (up3 : s'.heap.UpToSlots h3) (na : H' a = none) (os : s'.os = sI.os) (ag : AllBare s'.gens)
    (fl3 : HandSPX.FlyingZ B (X.env :: X.outer) a (Zc cls d) h3) (nL : a ≠ X.env.locals) (nF : a ∉ X.fs) : ∀ {hs' : List ExceptHandler} {l' : List ClauseT}, Clauses X n hs' l' → wEach X.K i Wout D l' cls d σ' H' →
      wpAny (model X.prog X.w) X.A (handleBy (.ref a) X.env hs') (SP X pins D) X.xe { s' with heap := h3 } := by
  have J3 : Inv X pins σ' H' { s' with heap := h3 } := J.landed nb fl3.1 (up.trans up3) os ag
  obtain ⟨oe3, vs3, he3, hz3, hd3⟩ := fl3.there
  have S3 := J3.suite he3 hd3 na nL nF
  intro hs' l' hk
  induction hk with
  | nil =>
    intro w
    apply wpAny_handleBy_nil
    obtain ⟨k1, k2, k3, oe, vs, T, oT, ts', he, hz, hd, h1, hr⟩ := id fl3
    unfold PySem.passOn
    apply wpAny_bind
    refine wpAny_field he hd h1 ?_
    rw [if_neg (show ¬ ((Value.ref T == Value.none) = true) from by simp)]
    have fin : wpAny (model X.prog X.w) X.A (setFlight (.ref a) X.env.frame) (fun _ s4 => wpAny (model X.prog X.w) X.A (throw (.ref a) : Sem Flow) (SP X pins D) X.xe s4) X.xe { s' with heap := h3 } := by
      rw [hf]
      refine HandSPX.setFlight_upZ fl3 fun h4 hh4 up4 => wpAny_throw (tk _ _ ?_)
      refine ⟨a, B, sI, pins, σ', H', cls, d, rfl, J, nb, (up.trans up3).trans up4, .inr (.inr ?_), na, os, ag, w⟩
      rw [hs]
      exact hh4
    first
      | exact wpAny_bind (wpAny_pure (wpAny_bind fin))
      | exact wpAny_bind fin
  | @cons x c ts b₀ suite np pos' hds2 l2 hc hsu r ih =>
    rintro ⟨b, hb1, hyes, hno⟩
    refine wpAny_handleBy_cons (codeAny_handlers_test ?_) (by intro q; cases q)
    have LT : PySem.W.Looks (model X.prog X.w) h3 (typeOf (.ref a)) cls := fun A Q E s k q => wpAny_typeOf_ref (k _ _ he3) (by rw [hz3.1]; exact q)
    have LM := PySem.W.exm_one (M := model X.prog X.w) (J3.kIn) LT hb1
    have test : ∀ {Q : Value → Shared → Prop} {E : Value → Shared → Prop}, Q c { s' with heap := h3 } → wpAny (model X.prog X.w) (X.A.mark (some (.ref a))) (eval (.Name x np) X.env) Q E { s' with heap := h3 } := by
      intro Q E q
      obtain ⟨hg, hdbg, hm | ⟨hm, hv, hnn⟩⟩ := hc
      · exact ld_glob (X := X.suite a ((a, oe3) :: (X.pn ++ pins))) S3 hg hm q hdbg
      · exact ld_blt (X := X.suite a ((a, oe3) :: (X.pn ++ pins))) S3 hg hm hv q hnn hdbg
    refine test (LM.here ?_)
    cases b with
    | false =>
      show wpAny _ X.A (handleBy (.ref a) X.env hds2) _ _ _
      exact ih (hno rfl)
    | true =>
      apply codeAny_handlers_suite_as
      refine HandSPX.lands_againZ fl3 fun h4 fl4 up4 => ?_
      have J4 : Inv X pins σ' H' { s' with heap := h4 } := J.landed nb fl4.1 ((up.trans up3).trans up4) os ag
      obtain ⟨oe4, vs4, he4, hz4, hd4⟩ := fl4.there
      have S4 := J4.suite he4 hd4 na nL nF
      refine store_ok (X := X.suite a ((a, oe4) :: (X.pn ++ pins))) (v := .ref a) S4 hN hi (.inl hln) rfl (fun s5 S5 => ?_) (.inr hln)
      have run := (hsu a oe4 cls d (X.pn ++ pins) hz4 ⟨_, hd4⟩).run [] s5 _ H' _ S5 (hyes rfl a na)
      refine wpAny_mono run (fun f s6 hsp => ?_) (fun _ _ z => z.elim)
      have gone : ∀ {σ6 : St} {H6 : Hp} {Q : Shared → Prop}, Inv (X.suite a ((a, oe4) :: (X.pn ++ pins))) [] σ6 H6 s6 → (∀ s7, Inv X pins (σ6.set i none) H6 s7 → Q s7) →
          wpAny (model X.prog X.w) X.A (do bindName X.env n .none; unbindBehindTheSuite X.env n pos') (fun _ s7 => Q s7) X.xe s6 := fun S6 hq => gone_ok (S6.unsuite ok) hN hi hln hq
      cases f with
      | ret u =>
        obtain ⟨v6, σ6, H6, S6, r6, q6⟩ := hsp
        exact gone S6 fun s7 J7 => ⟨_, _, _, J7, r6, q6⟩
      | next =>
        obtain ⟨σ6, H6, S6, q6⟩ := hsp
        exact gone S6 fun s7 J7 => ⟨_, _, J7, q6⟩
      | brk =>
        obtain ⟨σ6, H6, S6, q6⟩ := hsp
        exact gone S6 fun s7 J7 => ⟨_, _, J7, q6⟩
      | cont =>
        obtain ⟨σ6, H6, S6, q6⟩ := hsp
        exact gone S6 fun s7 J7 => ⟨_, _, J7, q6⟩
  | @bare x c ts b₀ suite np pos' hds2 l2 hc hsu r ih =>
    rintro ⟨b, hb1, hyes, hno⟩
    refine wpAny_handleBy_cons (codeAny_handlers_test ?_) (by intro q; cases q)
    have LT : PySem.W.Looks (model X.prog X.w) h3 (typeOf (.ref a)) cls := fun A Q E s k q => wpAny_typeOf_ref (k _ _ he3) (by rw [hz3.1]; exact q)
    have LM := PySem.W.exm_one (M := model X.prog X.w) (J3.kIn) LT hb1
    have test : ∀ {Q : Value → Shared → Prop} {E : Value → Shared → Prop}, Q c { s' with heap := h3 } → wpAny (model X.prog X.w) (X.A.mark (some (.ref a))) (eval (.Name x np) X.env) Q E { s' with heap := h3 } := by
      intro Q E q
      obtain ⟨hg, hdbg, hm | ⟨hm, hv, hnn⟩⟩ := hc
      · exact ld_glob (X := X.suite a ((a, oe3) :: (X.pn ++ pins))) S3 hg hm q hdbg
      · exact ld_blt (X := X.suite a ((a, oe3) :: (X.pn ++ pins))) S3 hg hm hv q hnn hdbg
    refine test (LM.here ?_)
    cases b with
    | false =>
      show wpAny _ X.A (handleBy (.ref a) X.env hds2) _ _ _
      exact ih (hno rfl)
    | true =>
      apply codeAny_handlers_suite
      refine HandSPX.lands_againZ fl3 fun h4 fl4 up4 => ?_
      have J4 : Inv X pins σ' H' { s' with heap := h4 } := J.landed nb fl4.1 ((up.trans up3).trans up4) os ag
      obtain ⟨oe4, vs4, he4, hz4, hd4⟩ := fl4.there
      have S4 := J4.suite he4 hd4 na nL nF
      have run := (hsu a oe4 cls d (X.pn ++ pins) hz4 ⟨_, hd4⟩).run [] _ _ H' _ S4 (hyes rfl a na)
      refine wpAny_mono run (fun f s6 hsp => ?_) (fun _ _ z => z.elim)
      cases f with
      | ret u =>
        obtain ⟨v6, σ6, H6, S6, r6, q6⟩ := hsp
        exact ⟨_, _, _, S6.unsuite ok, r6, q6⟩
      | next =>
        obtain ⟨σ6, H6, S6, q6⟩ := hsp
        exact ⟨_, _, S6.unsuite ok, q6⟩
      | brk =>
        obtain ⟨σ6, H6, S6, q6⟩ := hsp
        exact ⟨_, _, S6.unsuite ok, q6⟩
      | cont =>
        obtain ⟨σ6, H6, S6, q6⟩ := hsp
        exact ⟨_, _, S6.unsuite ok, q6⟩
/-- the reading of such a try, and of one with a single clause -/
def tTryEach (K : PySem.W.Frag) (i : Nat) (l : List ClauseT) (Wout : WX) (tb : WX → TS) : TS := fun D σ H => tb (wEach K i Wout D l) D σ H
def tTryAs (K : PySem.W.Frag) (c : Value) (i : Nat) (ts : Addr → Value → Option Addr → TS) (Wout : WX) (tb : WX → TS) : TS := fun D σ H => tb (wAs K c i ts Wout D) D σ H
theorem ps_try_one {x : Str} {c : Value} {b₀ : Stmt} {suite : List Stmt} {np pos' : Pos} {ts : Addr → Value → Option Addr → TS} (hs : X.stack = X.env :: X.outer) (hf : X.env.frame = some X.env.locals) (hN : X.N.Nodup) (hi : X.N[i]? = some n) (hln : X.env.kindOf n = some .local) (hc : Names X x c) (tk : Takes X Wout)
    (hb : ∀ (W : WX) (pn : List (Addr × Obj)) (xe : Value → Shared → Prop), Takes (X.tr pn xe) W → PassesOwn (model X.prog X.w) X.A X.env xe → PSs (X.tr pn xe) body (tb W))
    (hsu : ∀ (a : Addr) (oe : Obj) (cls : Value) (d : Option Addr) (pn : List (Addr × Obj)), Zc cls d oe → (∃ vs, oe.data = .fields vs) → PSs (X.suite a ((a, oe) :: pn)) (b₀ :: suite) (ts a cls d)) :
    PS X (.Try body [.ExceptHandler (some (.Name x np)) (some n) (b₀ :: suite) pos'] [] [] pos) (tTryAs X.K c i ts Wout tb) := ps_try_as hs hf hN hi hln hc tk hb hsu
theorem ps_try_each (hs : X.stack = X.env :: X.outer) (hf : X.env.frame = some X.env.locals) (hN : X.N.Nodup) (hi : X.N[i]? = some n) (hln : X.env.kindOf n = some .local) (tk : Takes X Wout)
    (hb : ∀ (W : WX) (pn : List (Addr × Obj)) (xe : Value → Shared → Prop), Takes (X.tr pn xe) W → PassesOwn (model X.prog X.w) X.A X.env xe → PSs (X.tr pn xe) body (tb W))
    (hh : Clauses X n (h₀ :: hds) l) : PS X (.Try body (h₀ :: hds) [] [] pos) (tTryEach X.K i l Wout tb) := by
  constructor
  intro pins s σ H D I h
  have ok := I.ok
  have hfr : X.A.frames = some (X.env :: X.outer) := by rw [ok.frames, hs]
  apply wpAny_Try_except
  have run := (hb (wEach X.K i Wout D l) (X.pn ++ pins) (fun e s₁ => wpAny (model X.prog X.w) X.A (noteFrame e X.env) (fun _ s₂ => wpAny (model X.prog X.w) X.A (setFlight e none) (fun _ s₃ =>
    wpAny (model X.prog X.w) X.A (handleBy e X.env (h₀ :: hds)) (SP X pins D) X.xe s₃) X.xe s₂) X.xe s₁) (fun u s' xx => ?_) PassesOwn.looking).run [] s σ H D (I.toTry _) h
  · refine wpAny_mono run (fun f s1 hsp => ?_) (fun e s1 he => he)
    cases f with
    | ret u =>
      obtain ⟨v, σ', H', J', r, q⟩ := hsp
      exact ⟨v, σ', H', J'.ofTry ok, r, q⟩
    | next =>
      obtain ⟨σ', H', J', q⟩ := hsp
      exact wpAny_execs_nil ⟨σ', H', J'.ofTry ok, q⟩
    | brk =>
      obtain ⟨σ', H', J', q⟩ := hsp
      exact ⟨σ', H', J'.ofTry ok, q⟩
    | cont =>
      obtain ⟨σ', H', J', q⟩ := hsp
      exact ⟨σ', H', J'.ofTry ok, q⟩
  · obtain ⟨a, B, sI, pins', σ', H', cls, d, rfl, J', nb, up, sky, na, os, ag, w⟩ := xx
    have J : Inv X pins σ' H' sI := J'.ofTry ok
    have sky' : Sky B (X.env :: X.outer) a (Zc cls d) X.env.locals s'.heap := by rw [← hs]; exact sky
    show wpAny (model X.prog X.w) X.A (noteFrame (.ref a) X.env) _ _ _
    refine Sky.land Zc.steady hfr hf sky' fun h3 fl3 up3 => ?_
    obtain ⟨oe3, vs3, he3, hz3, hd3⟩ := fl3.there
    have nfr : a ∉ frs (X.env :: X.outer) := fun hm => by
      obtain ⟨_, o', e', hnf⟩ := Heap.FunFrames.mem fl3.2.2.1 hm
      rw [he3] at e'
      cases e'
      exact hnf _ hd3
    have nL : a ≠ X.env.locals := fun z => nfr (List.mem_filterMap.mpr ⟨X.env, List.mem_cons_self, by rw [hf, z]⟩)
    have nF : a ∉ X.fs := fun hm => by
      obtain ⟨e, he, q⟩ := List.mem_filterMap.mp hm
      exact nfr (List.mem_filterMap.mpr ⟨e, List.mem_cons_of_mem _ he, q⟩)
    exact each_ok hN hi hln hf hs tk ok J nb up up3 na os ag fl3 nL nF hh w
end
end L2
set_option Elab.async false
set_option linter.all false
set_option maxRecDepth 100000
set_option maxHeartbeats 4000000
/-! What every text here shares: heaps that only grow, data that stay, the drawn numbers. -/
namespace Sw
open PySem PySem.Spec PyProof.Rows L2
theorem same_new {H : Hp} {p : Addr} {o : HO} (h : H p = none) : Same H (upd H p o) := fun b x e => by
  rw [upd_ne (ne_of_none e h)]
  exact e
theorem sqT_up {K : PySem.W.Frag} {H H' : Hp} {a : Addr} {xs : List V} (s : Same H H') (h : SqT K H a xs) : SqT K H' a xs := by
  rcases h with (h | ⟨o, h⟩) | h
  · exact .inl (.inl (s _ _ h))
  · exact .inl (.inr ⟨o, s _ _ h⟩)
  · exact .inr h
mutual
theorem dp_up {K : PySem.W.Frag} {H H' : Hp} (s : Same H H') : ∀ {v : V} {d : PyData}, Dp K H v d → Dp K H' v d
  | _, _, .non => .non
  | _, _, .bl b => .bl b
  | _, _, .int i => .int i
  | _, _, .str x => .str x
  | _, _, .lst q r => .lst (s.seq q) (dpAll_up s r)
  | _, _, .tup q r => .tup (sqT_up s q) (dpAll_up s r)
theorem dpAll_up {K : PySem.W.Frag} {H H' : Hp} (s : Same H H') : ∀ {vs : List V} {ds : List PyData}, DpAll K H vs ds → DpAll K H' vs ds
  | _, _, .nil => .nil
  | _, _, .cons q r => .cons (dp_up s q) (dpAll_up s r)
end
/-- a new tuple, told by what stays true -/
theorem tup_new {K : PySem.W.Frag} {H : Hp} {xs : List V} {Q : V → Hp → Prop} (h : ∀ (p : Addr) (H' : Hp), Same H H' → SqT K H' p xs → Q (.ref p) H') : ∀ p, H p = none → Q (.ref p) (upd H p (.tup xs)) :=
  fun p hp => h p _ (same_new hp) (.inl (.inl upd_same))
theorem lst_new {K : PySem.W.Frag} {H : Hp} {xs : List V} {Q : V → Hp → Prop} (h : ∀ (p : Addr) (H' : Hp), H p = none → Same H H' → H' p = some (.lst xs) → SqL K H' p xs → Q (.ref p) H') : ∀ p, H p = none → Q (.ref p) (upd H p (.lst xs)) :=
  fun p hp => h p _ hp (same_new hp) upd_same (.inl (.inl upd_same))
/-- one list of ours changed: all that stood before it was made stands -/
theorem same_put {H H1 : Hp} {p : Addr} {o : HO} (h0 : H p = none) (s : Same H H1) : Same H (upd H1 p o) := fun b x e => by
  rw [upd_ne (ne_of_none e h0)]
  exact s b x e
def Num (n : Int) : Prop := 0 ≤ n ∧ n < 1009
theorem sizeN {n : Nat} (h : n ≤ 200000) : n < sizeLine := Nat.lt_of_le_of_lt h (by decide)
theorem map_at {ns : List Int} {i : Nat} {x : V} (h : (ns.map V.int)[i]? = some x) : ∃ z, ns[i]? = some z ∧ x = V.int z := by
  rw [List.getElem?_map] at h
  cases e : ns[i]? with
  | none => rw [e] at h; cases h
  | some z => rw [e] at h; exact ⟨z, rfl, (Option.some.inj h).symm⟩
/-- law's row: a list of so many drawn numbers -/
def spRow (K : PySem.W.Frag) : Sp := fun vs H Q _ => ∃ c many : Int, vs = [.int c, .int many] ∧ 0 ≤ many ∧ many ≤ 2000 ∧
  ∀ (H' : Hp) (p : Addr) (ns : List Int), Same H H' → H p = none → H' p = some (.lst (ns.map V.int)) → (ns.length : Int) = many → (∀ n ∈ ns, Num n) → Q (.ref p) H'
def spNums (K : PySem.W.Frag) : Sp := fun vs H Q _ => ∃ (a : Addr) (xs : List Int) (many : Int), vs = [.ref a, .int many] ∧ SqL K H a (xs.map V.int) ∧ xs.length ≤ 63 ∧ 0 ≤ many ∧ many ≤ 1900 ∧
  ∀ (H' : Hp) (p : Addr) (ns : List Int), Same H H' → H p = none → H' p = some (.lst (ns.map V.int)) → (ns.length : Int) = many → (∀ n ∈ ns, Num n) → Q (.ref p) H'
end Sw
namespace Sw
open PySem PySem.Spec PyProof.Rows L2
/-- an error class over ValueError that keeps nothing of its own -/
structure PlainErr (K : PySem.W.Frag) (mg : Str → Option Value) (x : Str) (C : Addr) : Prop where
  g : mg x = some (.ref C)
  x : PySem.W.excIn K C [.type "ValueError", .type "Exception", .type "BaseException", .type "object"] "ValueError.__new__" = true
  k : PySem.W.keepIn K (.ref C) = true
  b : PySem.W.subIn K (.ref C) (.type "BaseException") = some true
  t : PySem.W.typeIn K (.ref C) = some (.type "type")
def spLaw (K : PySem.W.Frag) : Sp := fun vs H Q _ => ∃ (a : Addr) (ns : List Int), vs = [.ref a] ∧ SqL K H a (ns.map V.int) ∧ ns.length ≤ 63 ∧ ∀ H', Q (.bl true) H'
end Sw
namespace Sw
open PySem PySem.Spec PyProof.Rows L2
theorem cut_to {xs : List V} {j : Nat} : cutV xs none (some (j : Int)) = xs.take j := by
  unfold cutV
  rw [HT.sIx_none, HT.sIx_nat]
  show (xs.drop 0).take (min j xs.length - 0) = xs.take j
  rw [List.drop_zero, Nat.sub_zero]
  by_cases h : j ≤ xs.length
  · rw [Nat.min_eq_left h]
  · rw [Nat.min_eq_right (by omega), List.take_length, List.take_of_length_le (by omega)]
theorem cut_from {xs : List V} {j : Nat} : cutV xs (some (j : Int)) none = xs.drop j := by
  unfold cutV
  rw [HT.sIx_none, HT.sIx_nat]
  by_cases h : j ≤ xs.length
  · rw [Nat.min_eq_left h, ← List.length_drop, List.take_length]
  · rw [Nat.min_eq_right (by omega), List.drop_length, List.drop_of_length_le (by omega)]
    simp
theorem num_push {ns : List Int} {z : Int} (h : ∀ n ∈ ns, Num n) (hz : Num z) : ∀ n ∈ ns ++ [z], Num n := fun n hn => by
  rcases List.mem_append.mp hn with hn | hn
  · exact h n hn
  · rw [List.mem_singleton.mp hn]
    exact hz
theorem map_push (ns : List Int) (z : Int) : ns.map V.int ++ [V.int z] = (ns ++ [z]).map V.int := by
  rw [List.map_append]
  rfl
end Sw
namespace Sw
open PySem PySem.Spec PyProof.Rows L2
/-- an except clause that names a class at S asks whether the error's class lies under it -/
theorem exm_of {K : PySem.W.Frag} {D S : Addr} {b : Bool} (h1 : PySem.W.subIn K (.ref S) (.type "BaseException") = some true) (h2 : PySem.W.isClsIn K S = true) (h3 : PySem.W.typeIn K (.ref S) = some (.type "type")) (h4 : PySem.W.subIn K (.ref D) (.ref S) = some b) :
    PySem.W.exmOne K (.ref D) (.ref S) = some b := by
  have e1 : (PySem.W.subIn K (.ref S) (.type "BaseException") == some true) = true := by rw [h1] <;> rfl
  have e2 : ((PySem.W.clsIn K S).isSome && PySem.W.typeIn K (.ref S) == some (.type "type")) = true := by
    rw [show (PySem.W.clsIn K S).isSome = true from h2, h3] <;> rfl
  show (if (PySem.W.subIn K (.ref S) (.type "BaseException") == some true) = true then (if ((PySem.W.clsIn K S).isSome && PySem.W.typeIn K (.ref S) == some (.type "type")) = true then PySem.W.subIn K (.ref D) (.ref S) else none) else none) = some b
  rw [if_pos e1, if_pos e2]
  exact h4
end Sw
namespace Sw
open PySem PySem.Spec PyProof.Rows L2
theorem int_ne {i j : Int} (h : (!decide (V.int i = V.int j)) = true) : i ≠ j := fun e => by
  rw [e, decide_eq_true rfl] at h
  cases h
theorem int_eq {i j : Int} (h : ¬ (!decide (V.int i = V.int j)) = true) : i = j := by
  by_cases e : V.int i = V.int j
  · exact V.int.inj e
  · rw [decide_eq_false e] at h
    exact absurd rfl h
theorem of3 {α : Type} {l : List α} (h : ((l.length : Nat) : Int) = 3) : ∃ x y z, l = [x, y, z] := by
  match l, h with
  | [x, y, z], _ => exact ⟨x, y, z, rfl⟩
  | [], h => exact absurd h (by simp)
  | [_], h => exact absurd h (by simp)
  | [_, _], h => exact absurd h (by simp)
  | _ :: _ :: _ :: _ :: l, h => simp at h; omega
theorem of4 {α : Type} {l : List α} (h : ((l.length : Nat) : Int) = 4) : ∃ x y z u, l = [x, y, z, u] := by
  match l, h with
  | [x, y, z, u], _ => exact ⟨x, y, z, u, rfl⟩
  | [], h => exact absurd h (by simp)
  | [_], h => exact absurd h (by simp)
  | [_, _], h => exact absurd h (by simp)
  | [_, _, _], h => exact absurd h (by simp)
  | _ :: _ :: _ :: _ :: _ :: l, h => simp at h; omega
end Sw
namespace Sw
open PySem PySem.Spec PyProof.Rows L2
/-! ### the same rules, told by what stays true -/
def nTup (K : PySem.W.Frag) (H : Hp) (xs : List V) (Q : VK) : Prop := ∀ (p : Addr) (H2 : Hp), Same H H2 → SqT K H2 p xs → Q (.ref p) H2
def nLst (H : Hp) (xs : List V) (Q : VK) : Prop := ∀ (p : Addr) (H2 : Hp), Same H H2 → H p = none → H2 p = some (.lst xs) → Q (.ref p) H2
theorem nTup.at {K : PySem.W.Frag} {H : Hp} {xs : List V} {Q : VK} (h : nTup K H xs Q) (p : Addr) (n : H p = none) : Q (.ref p) (upd H p (.tup xs)) := h p _ (same_new n) (.inl (.inl upd_same))
theorem nLst.at {H : Hp} {xs : List V} {Q : VK} (h : nLst H xs Q) (p : Addr) (n : H p = none) : Q (.ref p) (upd H p (.lst xs)) := h p _ (same_new n) n upd_same
def tTupM (K : PySem.W.Frag) (t : TA) : TE := fun σ H Q => t σ H fun xs H1 => xs.length ≤ sizeLine ∧ nTup K H1 xs Q
def tLstM (t : TA) : TE := fun σ H Q => t σ H fun xs H1 => xs.length ≤ sizeLine ∧ nLst H1 xs Q
section
variable {X : Cx} {es : List Expr} {t : TA} {pos : Pos}
theorem pe_tupM {x1} (h : PA X es t) : PE X (.Tuple es x1 pos) (tTupM X.K t) := by
  constructor
  intro pins s σ H Q I hq
  apply wpAny_Tuple_spliced
  refine thn (h.run pos pins s σ H _ I hq) ?_
  rintro us s1 ⟨xs, H1, I1, r, z, q⟩
  refine ⟨r.length ▸ z, ?_⟩
  have hf : H1 s1.heap.objs.size = none := I1.hok.fresh (Nat.le_refl _)
  have J := I1.laid (t' := s1.toks) (a := s1.heap.objs.size) (o := .tup xs) (fun b u e => Heap.get?_push_of_some { cls := .type "tuple", data := .seq us.toArray } e) (Nat.le_refl _) ⟨z, us, r, ⟨_, Heap.get?_push_size _ rfl, rfl, _, rfl⟩⟩
  exact ⟨.ref _, _, J, rfl, q.at _ hf⟩
theorem pe_lstM (h : PA X es t) : PE X (.List es pos) (tLstM t) := by
  constructor
  intro pins s σ H Q I hq
  apply wpAny_List_spliced
  refine thn (h.run pos pins s σ H _ I hq) ?_
  rintro us s1 ⟨xs, H1, I1, r, z, q⟩
  refine ⟨r.length ▸ z, ?_⟩
  have hf : H1 s1.heap.objs.size = none := I1.hok.fresh (Nat.le_refl _)
  have J := I1.laid (t' := s1.toks) (a := s1.heap.objs.size) (o := .lst xs) (fun b u e => Heap.get?_push_of_some { cls := .type "list", data := .seq us.toArray } e) (Nat.le_refl _) ⟨z, us, 0, r, Heap.get?_push_size _ rfl⟩
  exact ⟨.ref _, _, J, rfl, q.at _ hf⟩
/-- t[lo:hi], not the whole of t -/
def rSlTM (K : PySem.W.Frag) : V → Option Int → Option Int → Hp → VK → Prop := fun x lo hi H Q => ∃ a xs, x = .ref a ∧ SqT K H a xs ∧ ¬ (HT.sIx xs.length 0 lo = 0 ∧ HT.sIx xs.length xs.length hi = xs.length) ∧ nTup K H (cutV xs lo hi) Q
theorem sl_tupM : SlR X (rSlTM X.K) := fun pins s σ H x v vl vu lo hi sl Q I rx hs pl pu ⟨b, xs, e, h1, h2, q⟩ => sl_tup pins s σ H x v vl vu lo hi sl Q I rx hs pl pu ⟨b, xs, e, h1, h2, q.at⟩
def rSlLM (K : PySem.W.Frag) : V → Option Int → Option Int → Hp → VK → Prop := fun x lo hi H Q => ∃ a xs, x = .ref a ∧ SqL K H a xs ∧ nLst H (cutV xs lo hi) Q
theorem sl_listM : SlR X (rSlLM X.K) := fun pins s σ H x v vl vu lo hi sl Q I rx hs pl pu ⟨b, xs, e, h1, q⟩ => sl_list pins s σ H x v vl vu lo hi sl Q I rx hs pl pu ⟨b, xs, e, h1, q.at⟩
def rCatTM (K : PySem.W.Frag) : R2 := fun x y H Q => ∃ a b xs ys, x = .ref a ∧ y = .ref b ∧ SqT K H a xs ∧ SqT K H b ys ∧ xs ≠ [] ∧ ys ≠ [] ∧ xs.length + ys.length ≤ sizeLine ∧ nTup K H (xs ++ ys) Q
theorem op_catTM : OpR X (binaryOp .Add) (rCatTM X.K) := fun pins s σ H x y v u Q I rx ry ⟨c, b, xs, ys, e1, e2, h1, h2, h3, h4, h5, q⟩ => op_catT pins s σ H x y v u Q I rx ry ⟨c, b, xs, ys, e1, e2, h1, h2, h3, h5, fun z => absurd z h4, fun _ => q.at⟩
def rCatM : R2 := fun x y H Q => ∃ l b xs zs, x = .ref l ∧ y = .ref b ∧ H l = some (.lst xs) ∧ H b = some (.lst zs) ∧ xs.length + zs.length ≤ sizeLine ∧ nLst H (xs ++ zs) Q
theorem op_catM : OpR X (binaryOp .Add) rCatM := fun pins s σ H x y v u Q I rx ry ⟨c, b, xs, ys, e1, e2, h1, h2, h3, q⟩ => op_cat pins s σ H x y v u Q I rx ry ⟨c, b, xs, ys, e1, e2, h1, h2, h3, q.at⟩
def rRepM : R2 := fun x y H Q => ∃ l k xs, x = .ref l ∧ y = .int k ∧ H l = some (.lst xs) ∧ -(2 ^ 63) ≤ k ∧ k < 2 ^ 63 ∧ xs.length * k.toNat ≤ sizeLine ∧ nLst H (List.replicate k.toNat xs).flatten Q
theorem op_repM : OpR X (binaryOp .Mult) rRepM := fun pins s σ H x y v u Q I rx ry ⟨c, k, xs, e1, e2, h1, h2, h3, h4, q⟩ => op_rep pins s σ H x y v u Q I rx ry ⟨c, k, xs, e1, e2, h1, h2, h3, h4, q.at⟩
end
end Sw
namespace Sw
open PySem PySem.Spec PyProof.Rows L2
/-- an instance is changed: lists and tuples stand -/
theorem sqL_ins {K : PySem.W.Frag} {H : Hp} {x C dx p : Addr} {fs : List (Str × V)} {o : HO} {xs : List V} (hx : H x = some (.ins C dx fs)) (h : SqL K H p xs) : SqL K (upd H x o) p xs := by
  rcases h with (h | ⟨u, h⟩) | h
  · exact .inl (.inl (by rw [upd_ne (fun z => by rw [z, hx] at h; cases h)]; exact h))
  · exact .inl (.inr ⟨u, by rw [upd_ne (fun z => by rw [z, hx] at h; cases h)]; exact h⟩)
  · exact .inr h
theorem sqT_ins {K : PySem.W.Frag} {H : Hp} {x C dx p : Addr} {fs : List (Str × V)} {o : HO} {xs : List V} (hx : H x = some (.ins C dx fs)) (h : SqT K H p xs) : SqT K (upd H x o) p xs := by
  rcases h with (h | ⟨u, h⟩) | h
  · exact .inl (.inl (by rw [upd_ne (fun z => by rw [z, hx] at h; cases h)]; exact h))
  · exact .inl (.inr ⟨u, by rw [upd_ne (fun z => by rw [z, hx] at h; cases h)]; exact h⟩)
  · exact .inr h
end Sw
namespace Sw
open PySem PySem.Spec PyProof.Rows L2
/-! ### data, and == of data -/
def dTI (ns : List Int) : PyData := .tuple (ns.map .int)
theorem dpAll_ints {K : PySem.W.Frag} {H : Hp} : ∀ ns : List Int, DpAll K H (ns.map V.int) (ns.map PyData.int)
  | [] => .nil
  | _ :: r => .cons (.int _) (dpAll_ints r)
theorem dp_ti {K : PySem.W.Frag} {H : Hp} {p : Addr} {ns : List Int} (h : SqT K H p (ns.map V.int)) : Dp K H (.ref p) (dTI ns) := .tup h (dpAll_ints ns)
theorem dp_t {K : PySem.W.Frag} {H : Hp} {p : Addr} {xs : List V} {ds : List PyData} (h : SqT K H p xs) (r : DpAll K H xs ds) : Dp K H (.ref p) (.tuple ds) := .tup h r
theorem dp_l {K : PySem.W.Frag} {H : Hp} {p : Addr} {xs : List V} {ds : List PyData} (h : H p = some (.lst xs)) (r : DpAll K H xs ds) : Dp K H (.ref p) (.list ds) := .lst (.inl (.inl h)) r
/-- data that can be compared, of a depth -/
def Lay (k : Nat) (d : PyData) : Prop := d.canLay0 = true ∧ d.depth ≤ k
theorem lay_int (k : Nat) (i : Int) : Lay k (.int i) := ⟨rfl, Nat.zero_le _⟩
theorem lay_non (k : Nat) : Lay k .none := ⟨rfl, Nat.zero_le _⟩
theorem lay_bool (k : Nat) (b : Bool) : Lay k (.bool b) := ⟨rfl, Nat.zero_le _⟩
theorem lay_all {k : Nat} : ∀ {ds : List PyData}, (∀ d ∈ ds, Lay k d) → PyData.canLayAll0 ds = true ∧ PyData.depthAll ds ≤ k
  | [], _ => ⟨rfl, Nat.zero_le _⟩
  | d :: r, h => by
    obtain ⟨a1, a2⟩ := h d List.mem_cons_self
    obtain ⟨b1, b2⟩ := lay_all (ds := r) fun x hx => h x (List.mem_cons_of_mem _ hx)
    refine ⟨?_, ?_⟩
    · show (d.canLay0 && PyData.canLayAll0 r) = true
      rw [a1, b1]
      rfl
    · show max d.depth (PyData.depthAll r) ≤ k
      omega
theorem lay_tuple {k : Nat} {ds : List PyData} (h : ∀ d ∈ ds, Lay k d) : Lay (k + 1) (.tuple ds) := by
  obtain ⟨a, b⟩ := lay_all h
  exact ⟨a, Nat.succ_le_succ b⟩
theorem lay_list {k : Nat} {ds : List PyData} (h : ∀ d ∈ ds, Lay k d) : Lay (k + 1) (.list ds) := by
  obtain ⟨a, b⟩ := lay_all h
  exact ⟨a, Nat.succ_le_succ b⟩
theorem lay_up {j k : Nat} {d : PyData} (h : Lay j d) (l : j ≤ k) : Lay k d := ⟨h.1, Nat.le_trans h.2 l⟩
theorem lay_ti (ns : List Int) : Lay 1 (dTI ns) := lay_tuple fun d hd => by
  obtain ⟨i, _, rfl⟩ := List.mem_map.mp hd
  exact lay_int 0 i
theorem lay_2 {k : Nat} {d e : PyData} (h1 : Lay k d) (h2 : Lay k e) : ∀ x ∈ [d, e], Lay k x := fun x hx => by
  rcases List.mem_cons.mp hx with rfl | hx
  · exact h1
  · rw [List.mem_singleton.mp hx]
    exact h2
theorem shaped_of {k : Nat} {d : PyData} (h : Lay k d) (hk : k ≤ 64) : SeqAt.shaped d = true := by
  unfold SeqAt.shaped
  rw [h.1, decide_eq_true (Nat.le_trans h.2 hk)]
  rfl
theorem ne_same {K : PySem.W.Frag} {k : Nat} {x y : V} {d : PyData} {H : Hp} {Q : VK} (l : Lay k d) (hk : k ≤ 64) (hx : Dp K H x d) (hy : Dp K H y d) (q : Q (.bl false) H) : rNeD K x y H Q :=
  ⟨d, d, hx, hy, shaped_of l hk, shaped_of l hk, by rw [SeqAt.eqv_refl d l.1]; exact q⟩
theorem eq_same {K : PySem.W.Frag} {k : Nat} {x y : V} {d : PyData} {H : Hp} {Q : VK} (l : Lay k d) (hk : k ≤ 64) (hx : Dp K H x d) (hy : Dp K H y d) (q : Q (.bl true) H) : rEqD K x y H Q :=
  ⟨d, d, hx, hy, shaped_of l hk, shaped_of l hk, by rw [SeqAt.eqv_refl d l.1]; exact q⟩
/-! ### a, b = e where e is a tuple or a list -/
def gSeq (K : PySem.W.Frag) (n : Nat) (t : TGs) : TG := fun v σ H Q => ∃ a xs, v = .ref a ∧ (SqT K H a xs ∨ SqL K H a xs) ∧ xs.length = n ∧ t xs σ H Q
theorem pg_seq {X : Cx} {es : List Expr} {k : Nat} {t : TGs} {n : Nat} {pos : Pos} (hc : X.calm = true) (h : PGs X es t)
    (hn : (assignEach es X.env).length = n := by rfl) (hst : (assignEach es X.env).findIdx? (·.1) = none := by rfl) : PG X (.Tuple es k pos) (gSeq X.K n t) := by
  constructor
  rintro pins s σ H v u Q I r ⟨b, xs, e, hq | hq, hl, w⟩
  · exact (pg_tup hc h hn hst).run pins s σ H v u Q I r ⟨b, xs, e, hq, hl, w⟩
  · exact (pg_lst hc h hn hst).run pins s σ H v u Q I r ⟨b, xs, e, hq, hl, w⟩
theorem emod_step (z d n : Int) : (z % n + d + n) % n = (z + d) % n := by
  rw [Int.add_emod_right, Int.emod_add_emod]
end Sw
namespace Sw
open PySem PySem.Spec PyProof.Rows L2
def numI (ns : List Int) (j : Int) : Int := ns.getD j.toNat 0
theorem nthI {ns : List Int} {j : Int} (h0 : 0 ≤ j) (h1 : j < (ns.length : Int)) : atI (ns.map V.int) j = some (.int (numI ns j)) := by
  obtain ⟨k, rfl⟩ := Int.eq_ofNat_of_zero_le h0
  refine atI_nat ?_
  have hk : k < ns.length := by omega
  rw [List.getElem?_map, List.getElem?_eq_getElem hk]
  show some (V.int ns[k]) = some (V.int (ns.getD k 0))
  rw [List.getD_eq_getElem?_getD, List.getElem?_eq_getElem hk]
  rfl
theorem num_at {ns : List Int} (h : ∀ n ∈ ns, Num n) (j : Int) : Num (numI ns j) := by
  unfold numI
  rw [List.getD_eq_getElem?_getD]
  cases e : ns[j.toNat]? with
  | none => exact ⟨by decide, by decide⟩
  | some z => exact h z (List.mem_of_getElem? e)
theorem iteD {c A B : Prop} [Decidable c] (hc : c) (h : A) : if decide c = true then A else B := by
  rw [if_pos (decide_eq_true hc)]
  exact h
end Sw
namespace Sw
open PySem PySem.Spec PyProof.Rows L2
/-! ### data without lists stand where a list is changed -/
theorem sqT_lst {K : PySem.W.Frag} {H : Hp} {l p : Addr} {xs ys : List V} {o : HO} (hl : H l = some (.lst xs)) (h : SqT K H p ys) : SqT K (upd H l o) p ys := by
  rcases h with (h | ⟨u, h⟩) | h
  · exact .inl (.inl (by rw [upd_ne (fun z => by rw [z, hl] at h; cases h)]; exact h))
  · exact .inl (.inr ⟨u, by rw [upd_ne (fun z => by rw [z, hl] at h; cases h)]; exact h⟩)
  · exact .inr h
mutual
def noL : PyData → Bool
  | .tuple ds => noLs ds
  | .list _ => false
  | .dict _ => false
  | _ => true
def noLs : List PyData → Bool
  | [] => true
  | d :: r => noL d && noLs r
end
mutual
theorem dp_put {K : PySem.W.Frag} {H : Hp} {l : Addr} {xs : List V} {o : HO} (hl : H l = some (.lst xs)) : ∀ {v : V} {d : PyData}, noL d = true → Dp K H v d → Dp K (upd H l o) v d
  | _, _, _, .non => .non
  | _, _, _, .bl b => .bl b
  | _, _, _, .int i => .int i
  | _, _, _, .str x => .str x
  | _, _, n, .lst q r => nomatch n
  | _, _, n, .tup q r => .tup (sqT_lst hl q) (dpAll_put hl n r)
theorem dpAll_put {K : PySem.W.Frag} {H : Hp} {l : Addr} {xs : List V} {o : HO} (hl : H l = some (.lst xs)) : ∀ {vs : List V} {ds : List PyData}, noLs ds = true → DpAll K H vs ds → DpAll K (upd H l o) vs ds
  | _, _, _, .nil => .nil
  | _, _, n, .cons q r => .cons (dp_put hl (Bool.and_eq_true_iff.mp n).1 q) (dpAll_put hl (Bool.and_eq_true_iff.mp n).2 r)
end
theorem noLs_ints : ∀ ns : List Int, noLs (ns.map PyData.int) = true
  | [] => rfl
  | _ :: r => by
    show (noL (.int _) && noLs (r.map PyData.int)) = true
    rw [noLs_ints r]
    rfl
theorem noL_ti (ns : List Int) : noL (dTI ns) = true := noLs_ints ns
theorem dpAll_push {K : PySem.W.Frag} {H : Hp} {v : V} {d : PyData} : ∀ {vs : List V} {ds : List PyData}, DpAll K H vs ds → Dp K H v d → DpAll K H (vs ++ [v]) (ds ++ [d])
  | _, _, .nil, h => .cons h .nil
  | _, _, .cons q r, h => .cons q (dpAll_push r h)
theorem dpAll_len {K : PySem.W.Frag} {H : Hp} : ∀ {vs : List V} {ds : List PyData}, DpAll K H vs ds → vs.length = ds.length
  | _, _, .nil => rfl
  | _, _, .cons _ r => congrArg (· + 1) (dpAll_len r)
theorem dpAll_get {K : PySem.W.Frag} {H : Hp} : ∀ {vs : List V} {ds : List PyData} {i : Nat} {v : V}, DpAll K H vs ds → vs[i]? = some v → ∃ d, ds[i]? = some d ∧ Dp K H v d
  | _, _, 0, _, .cons q _, h => ⟨_, rfl, Option.some.inj h ▸ q⟩
  | _, _, i + 1, _, .cons _ r, h => dpAll_get (i := i) r h
theorem dp_ti_inv {K : PySem.W.Frag} {H : Hp} {v : V} {ns : List Int} (h : Dp K H v (dTI ns)) : ∃ p, v = .ref p ∧ SqT K H p (ns.map V.int) := by
  cases h with
  | @tup p xs ds q r =>
    refine ⟨p, rfl, ?_⟩
    have e : ∀ {xs : List V} {ns : List Int}, DpAll K H xs (ns.map PyData.int) → xs = ns.map V.int := by
      intro xs ns
      induction ns generalizing xs with
      | nil => intro h; cases h; rfl
      | cons n r ih =>
        intro h
        cases h with
        | cons h1 h2 =>
          cases h1
          rw [ih h2]
          rfl
    rw [← e r]
    exact q
/-- so many different numbers below a bound: not more than the bound -/
theorem nodup_below : ∀ (k : Nat) (l : List Nat), l.Nodup → (∀ x ∈ l, x < k) → l.length ≤ k
  | 0, l, _, h => by
    cases l with
    | nil => exact Nat.le_refl _
    | cons x r => exact absurd (h x List.mem_cons_self) (Nat.not_lt_zero _)
  | k + 1, l, hn, h => by
    have hn2 : (l.erase k).Nodup := hn.erase k
    have ih := nodup_below k (l.erase k) hn2 fun x hx => by
      have h1 := h x (List.mem_of_mem_erase hx)
      have h2 : x ≠ k := fun e => by
        subst e
        exact (List.Nodup.not_mem_erase hn) hx
      omega
    have e := List.length_erase (a := k) (l := l)
    by_cases hm : k ∈ l
    · rw [if_pos hm] at e
      omega
    · rw [if_neg hm] at e
      omega
end Sw
set_option Elab.async false
set_option linter.all false
set_option maxRecDepth 100000
set_option maxHeartbeats 4000000
/-! Skies, attitudes, commands, motions: what each def tells, as plain functions of integers, and its promise. -/
namespace Sw
open PySem PySem.Spec PyProof.Rows L2
def turnX (q x y : Int) : Int := if q % 4 = 1 then -y else if q % 4 = 2 then -x else if q % 4 = 3 then y else x
def turnY (q x y : Int) : Int := if q % 4 = 1 then x else if q % 4 = 2 then -y else if q % 4 = 3 then -x else y
def isPose (n : Int) : List Int → Bool
  | [x, y, q] => decide (0 ≤ x ∧ x < n ∧ 0 ≤ y ∧ y < n ∧ 0 ≤ q ∧ q ≤ 3)
  | _ => false
def isCmd (n : Int) : List Int → Bool
  | [x, y, q] => decide (-n < x ∧ x < n ∧ -n < y ∧ y < n ∧ 0 ≤ q ∧ q ≤ 3)
  | _ => false
def isCam (n : Int) : List Int → Bool
  | [r, b, g, l] => decide (0 ≤ r ∧ r ≤ 4 ∧ 0 ≤ b ∧ b ≤ 2 ∧ 0 ≤ g ∧ g ≤ 2 ∧ 1 ≤ l ∧ l ≤ 9 ∧ b ≤ r ∧ 2 * (r + b) + 1 ≤ n)
  | _ => false
def isStar (n : Int) : List Int → Bool
  | [x, y, b] => decide (0 ≤ x ∧ x < n ∧ 0 ≤ y ∧ y < n ∧ 1 ≤ b ∧ b ≤ 9)
  | _ => false
def comp (n : Int) : List Int → List Int → List Int
  | [a, b, c], [d, e, g] => [(turnX g a b + d) % n, (turnY g a b + e) % n, (c + g) % 4]
  | _, _ => []
def inv (n : Int) : List Int → List Int
  | [a, b, c] => [turnX (2 - c) a b % n, turnY (2 - c) a b % n, (4 - c) % 4]
  | _ => []
def near (n part : Int) : Int := (part + n / 2) % n - n / 2
theorem pose_form {n : Int} {ns : List Int} (h : isPose n ns = true) : ∃ x y q, ns = [x, y, q] ∧ 0 ≤ x ∧ x < n ∧ 0 ≤ y ∧ y < n ∧ 0 ≤ q ∧ q ≤ 3 := by
  match ns, h with
  | [x, y, q], h =>
    have z := of_decide_eq_true h
    exact ⟨x, y, q, rfl, z⟩
theorem cmd_form {n : Int} {ns : List Int} (h : isCmd n ns = true) : ∃ x y q, ns = [x, y, q] ∧ -n < x ∧ x < n ∧ -n < y ∧ y < n ∧ 0 ≤ q ∧ q ≤ 3 := by
  match ns, h with
  | [x, y, q], h =>
    have z := of_decide_eq_true h
    exact ⟨x, y, q, rfl, z⟩
/-- the attributes of a sky, in the order in which they are stored -/
def skyF (n : Int) (ts tc : Addr) : List (Str × V) := putF "_camera" (.ref tc) (putF "_stars" (.ref ts) (putF "_side" (.int n) []))
theorem skyF_side (n : Int) (ts tc : Addr) : (skyF n ts tc).lookup ("_side" : Str) = some (.int n) := by
  unfold skyF
  rw [lookup_putF, if_neg (by decide +kernel), lookup_putF, if_neg (by decide +kernel), lookup_putF, if_pos rfl]
theorem skyF_stars (n : Int) (ts tc : Addr) : (skyF n ts tc).lookup ("_stars" : Str) = some (.ref ts) := by
  unfold skyF
  rw [lookup_putF, if_neg (by decide +kernel), lookup_putF, if_pos rfl]
theorem skyF_camera (n : Int) (ts tc : Addr) : (skyF n ts tc).lookup ("_camera" : Str) = some (.ref tc) := by
  unfold skyF
  rw [lookup_putF, if_pos rfl]
theorem skyF_two (n : Int) (ts : Addr) : (putF "_stars" (V.ref ts) (putF "_side" (.int n) [])).length < 1000 := by
  show (if ("_side" : Str) = "_stars" then _ else _ : List (Str × V)).length < 1000
  rw [if_neg (by decide +kernel)]
  show 2 < 1000
  decide
/-- a sky stands at p -/
def SkyAt (K : PySem.W.Frag) (C : Addr) (H : Hp) (p : Addr) (n : Int) (st : List V) (cam : List Int) : Prop :=
  ∃ dx ts tc, H p = some (.ins C dx (skyF n ts tc)) ∧ SqT K H ts st ∧ SqT K H tc (cam.map V.int)
theorem sky_up {K : PySem.W.Frag} {C : Addr} {H H' : Hp} {p : Addr} {n : Int} {st : List V} {cam : List Int} (s : Same H H') : SkyAt K C H p n st cam → SkyAt K C H' p n st cam := fun ⟨dx, ts, tc, h1, h2, h3⟩ =>
  ⟨dx, ts, tc, s _ _ h1, sqT_up s h2, sqT_up s h3⟩
def spTurn (K : PySem.W.Frag) : Sp := fun vs H Q _ => ∃ (q x y : Int) (p : Addr), vs = [.int q, .ref p] ∧ SqT K H p [.int x, .int y] ∧
  ∀ (H' : Hp) (p' : Addr), Same H H' → SqT K H' p' [.int (turnX q x y), .int (turnY q x y)] → Q (.ref p') H'
def spIs (K : PySem.W.Frag) (ok : Int → List Int → Bool) : Sp := fun vs H Q _ => ∃ (n : Int) (p : Addr) (ns : List Int), vs = [.int n, .ref p] ∧ SqT K H p (ns.map V.int) ∧ Q (.bl (ok n ns)) H
def spComp (K : PySem.W.Frag) : Sp := fun vs H Q _ => ∃ (n a b c d e g : Int) (p q : Addr), vs = [.int n, .ref p, .ref q] ∧ 0 < n ∧ SqT K H p [.int a, .int b, .int c] ∧ SqT K H q [.int d, .int e, .int g] ∧
  ∀ (H' : Hp) (p' : Addr), Same H H' → SqT K H' p' ((comp n [a, b, c] [d, e, g]).map V.int) → Q (.ref p') H'
def spInv (K : PySem.W.Frag) : Sp := fun vs H Q _ => ∃ (n a b c : Int) (p : Addr), vs = [.int n, .ref p] ∧ 0 < n ∧ SqT K H p [.int a, .int b, .int c] ∧
  ∀ (H' : Hp) (p' : Addr), Same H H' → SqT K H' p' ((inv n [a, b, c]).map V.int) → Q (.ref p') H'
def spSide : Sp := fun vs H Q _ => ∃ n : Int, vs = [.int n] ∧ Q (.bl (decide (4 ≤ n ∧ n ≤ 9))) H
def spNear : Sp := fun vs H Q _ => ∃ n k : Int, vs = [.int n, .int k] ∧ 0 < n ∧ Q (.int (near n k)) H
/-- a sky is made of no stars, all else as the rules ask -/
def spCheck0 (K : PySem.W.Frag) : Sp := fun vs H Q _ => ∃ (n : Int) (p c : Addr) (cam : List Int), vs = [.int n, .ref p, .ref c] ∧ SqL K H p [] ∧ SqT K H c (cam.map V.int) ∧ 4 ≤ n ∧ n ≤ 9 ∧ isCam n cam = true ∧ ∀ H', Same H H' → Q .non H'
def spInit0 (K : PySem.W.Frag) (C : Addr) : Sp := fun vs H Q _ => ∃ (x dx : Addr) (n : Int) (p c : Addr) (cam : List Int), vs = [.ref x, .int n, .ref p, .ref c] ∧ H x = some (.ins C dx []) ∧ SqL K H p [] ∧ SqT K H c (cam.map V.int) ∧ 4 ≤ n ∧ n ≤ 9 ∧ isCam n cam = true ∧
  ∀ H', SkyAt K C H' x n [] cam → (∀ b o, H b = some o → b ≠ x → H' b = some o) → Q .non H'
/-- a property of a sky that is an attribute -/
def spProp (K : PySem.W.Frag) (C : Addr) (f : Int → List V → List Int → V → Hp → Prop) : Sp := fun vs H Q _ => ∃ (p : Addr) (n : Int) (st : List V) (cam : List Int), vs = [.ref p] ∧ SkyAt K C H p n st cam ∧ ∀ v, f n st cam v H → Q v H
def spOfSide (K : PySem.W.Frag) (C : Addr) : Sp := fun vs H Q _ => ∃ (p : Addr) (n : Int) (st : List V) (cam : List Int), vs = [.ref p] ∧ SkyAt K C H p n st cam ∧ Q (.int n) H
/-- a tuple is asked of a sky: nothing comes back, or the error with the tuple -/
def spAsk (K : PySem.W.Frag) (C D : Addr) (fld : Str) (ok : Int → List Int → Bool) : Sp := fun vs H Q E => ∃ (p q : Addr) (n : Int) (st : List V) (cam ns : List Int), vs = [.ref p, .ref q] ∧ SkyAt K C H p n st cam ∧ SqT K H q (ns.map V.int) ∧
  (ok n ns = true → Q .non H) ∧ (ok n ns = false → ∀ (d : Addr) (H' : Hp), Same H H' → H' d = some (.xd [(fld, .ref q)]) → E (.ref D) (some d) H')
def spAsk2 (K : PySem.W.Frag) (C D : Addr) : Sp := fun vs H Q E => ∃ (p q r : Addr) (n : Int) (st : List V) (cam ns ms : List Int), vs = [.ref p, .ref q, .ref r] ∧ SkyAt K C H p n st cam ∧ SqT K H q (ns.map V.int) ∧ SqT K H r (ms.map V.int) ∧
  (isPose n ns = true → isPose n ms = true → Q .non H) ∧ (isPose n ns = false → ∀ (d : Addr) (H' : Hp), Same H H' → H' d = some (.xd [("attitude", .ref q)]) → E (.ref D) (some d) H') ∧
  (isPose n ns = true → isPose n ms = false → ∀ (d : Addr) (H' : Hp), Same H H' → H' d = some (.xd [("attitude", .ref r)]) → E (.ref D) (some d) H')
/-- an attitude, and a tuple of another kind done to it -/
def spDone (K : PySem.W.Frag) (C D F : Addr) (fld : Str) (ok : Int → List Int → Bool) (f : Int → List Int → List Int → List Int) : Sp := fun vs H Q E => ∃ (p q r : Addr) (n : Int) (st : List V) (cam ns ms : List Int), vs = [.ref p, .ref q, .ref r] ∧ SkyAt K C H p n st cam ∧ 0 < n ∧ SqT K H q (ns.map V.int) ∧ SqT K H r (ms.map V.int) ∧
  (isPose n ns = true → ok n ms = true → ∀ (H' : Hp) (p' : Addr), Same H H' → SqT K H' p' ((f n ns ms).map V.int) → Q (.ref p') H') ∧
  (isPose n ns = false → ∀ (d : Addr) (H' : Hp), Same H H' → H' d = some (.xd [("attitude", .ref q)]) → E (.ref D) (some d) H') ∧
  (isPose n ns = true → ok n ms = false → ∀ (d : Addr) (H' : Hp), Same H H' → H' d = some (.xd [(fld, .ref r)]) → E (.ref F) (some d) H')
def spBack (K : PySem.W.Frag) (C F : Addr) (fld : Str) (ok : Int → List Int → Bool) : Sp := fun vs H Q E => ∃ (p q : Addr) (n : Int) (st : List V) (cam ns : List Int), vs = [.ref p, .ref q] ∧ SkyAt K C H p n st cam ∧ 0 < n ∧ SqT K H q (ns.map V.int) ∧
  (ok n ns = true → ∀ (H' : Hp) (p' : Addr), Same H H' → SqT K H' p' ((inv n ns).map V.int) → Q (.ref p') H') ∧
  (ok n ns = false → ∀ (d : Addr) (H' : Hp), Same H H' → H' d = some (.xd [(fld, .ref q)]) → E (.ref F) (some d) H')
def iabs (x : Int) : Int := if x < 0 then -x else x
def imax (x y : Int) : Int := if y > x then y else x
/-- how far two attitudes are apart, none for unlike quarters -/
def apartI (n : Int) : List Int → List Int → Option Int
  | [a, b, c], [d, e, g] => if c = g then some (imax (iabs (near n (a - d))) (iabs (near n (b - e)))) else none
  | _, _ => none
def optV : Option Int → V
  | some i => .int i
  | none => .non
def farI (n s : Int) (a b : List Int) : Bool := match apartI n a b with
  | some k => decide (s < k)
  | none => true
def spApart (K : PySem.W.Frag) (C D : Addr) : Sp := fun vs H Q E => ∃ (p q r : Addr) (n : Int) (st : List V) (cam ns ms : List Int), vs = [.ref p, .ref q, .ref r] ∧ SkyAt K C H p n st cam ∧ 0 < n ∧ SqT K H q (ns.map V.int) ∧ SqT K H r (ms.map V.int) ∧
  (isPose n ns = true → isPose n ms = true → Q (optV (apartI n ns ms)) H) ∧ (isPose n ns = false → ∀ (d : Addr) (H' : Hp), Same H H' → H' d = some (.xd [("attitude", .ref q)]) → E (.ref D) (some d) H') ∧
  (isPose n ns = true → isPose n ms = false → ∀ (d : Addr) (H' : Hp), Same H H' → H' d = some (.xd [("attitude", .ref r)]) → E (.ref D) (some d) H')
def spFar (K : PySem.W.Frag) (C D : Addr) : Sp := fun vs H Q E => ∃ (p q r : Addr) (n s : Int) (st : List V) (cam ns ms : List Int), vs = [.ref p, .ref q, .ref r, .int s] ∧ SkyAt K C H p n st cam ∧ 0 < n ∧ SqT K H q (ns.map V.int) ∧ SqT K H r (ms.map V.int) ∧
  (isPose n ns = true → isPose n ms = true → Q (.bl (farI n s ns ms)) H) ∧ (isPose n ns = false → ∀ (d : Addr) (H' : Hp), Same H H' → H' d = some (.xd [("attitude", .ref q)]) → E (.ref D) (some d) H') ∧
  (isPose n ns = true → isPose n ms = false → ∀ (d : Addr) (H' : Hp), Same H H' → H' d = some (.xd [("attitude", .ref r)]) → E (.ref D) (some d) H')
end Sw
namespace Sw
open PySem PySem.Spec PyProof.Rows L2
theorem pose_len {n : Int} {ns : List Int} (h : ((ns.length : Nat) : Int) ≠ 3) : isPose n ns = false := by
  match ns, h with
  | [], _ => rfl
  | [_], _ => rfl
  | [_, _], _ => rfl
  | [_, _, _], h => exact absurd (by simp) h
  | _ :: _ :: _ :: _ :: _, _ => rfl
theorem cmd_len {n : Int} {ns : List Int} (h : ((ns.length : Nat) : Int) ≠ 3) : isCmd n ns = false := by
  match ns, h with
  | [], _ => rfl
  | [_], _ => rfl
  | [_, _], _ => rfl
  | [_, _, _], h => exact absurd (by simp) h
  | _ :: _ :: _ :: _ :: _, _ => rfl
theorem star_len {n : Int} {ns : List Int} (h : ((ns.length : Nat) : Int) ≠ 3) : isStar n ns = false := by
  match ns, h with
  | [], _ => rfl
  | [_], _ => rfl
  | [_, _], _ => rfl
  | [_, _, _], h => exact absurd (by simp) h
  | _ :: _ :: _ :: _ :: _, _ => rfl
theorem cam_len {n : Int} {ns : List Int} (h : ((ns.length : Nat) : Int) ≠ 4) : isCam n ns = false := by
  match ns, h with
  | [], _ => rfl
  | [_], _ => rfl
  | [_, _], _ => rfl
  | [_, _, _], _ => rfl
  | [_, _, _, _], h => exact absurd (by simp) h
  | _ :: _ :: _ :: _ :: _ :: _, _ => rfl
end Sw
namespace Sw
open PySem PySem.Spec PyProof.Rows L2
/-! ### what the law about commands reckons by itself -/
def spLTurn (K : PySem.W.Frag) : Sp := fun vs H Q _ => ∃ (q x y : Int) (p : Addr), vs = [.int q, .ref p] ∧ (SqT K H p [.int x, .int y] ∨ SqL K H p [.int x, .int y]) ∧ 0 ≤ q ∧ q ≤ 3 ∧
  ∀ (H' : Hp) (p' : Addr), Same H H' → SqT K H' p' [.int (turnX q x y), .int (turnY q x y)] → Q (.ref p') H'
def spWalked (K : PySem.W.Frag) : Sp := fun vs H Q _ => ∃ (n x y q i j l : Int) (p r : Addr), vs = [.int n, .ref p, .ref r] ∧ SqT K H p [.int x, .int y, .int q] ∧ SqT K H r [.int i, .int j, .int l] ∧ isPose n [x, y, q] = true ∧ 0 ≤ l ∧ l ≤ 3 ∧ -100 ≤ i ∧ i ≤ 100 ∧ -100 ≤ j ∧ j ≤ 100 ∧
  ∀ (H' : Hp) (p' : Addr), Same H H' → SqT K H' p' ((comp n [i, j, l] [x, y, q]).map V.int) → Q (.ref p') H'
def toldC (n : Int) (ns ms : List Int) : Int × List Int := if isPose n ns then (if isCmd n ms then (0, comp n ms ns) else (2, ms)) else (1, ns)
def spToldC (K : PySem.W.Frag) (C : Addr) : Sp := fun vs H Q _ => ∃ (p q r : Addr) (n : Int) (st : List V) (cam ns ms : List Int), vs = [.ref p, .ref q, .ref r] ∧ SkyAt K C H p n st cam ∧ 0 < n ∧ SqT K H q (ns.map V.int) ∧ SqT K H r (ms.map V.int) ∧
  ∀ (H' : Hp) (t b : Addr), Same H H' → SqT K H' t [.int (toldC n ns ms).1, .ref b] → SqT K H' b ((toldC n ns ms).2.map V.int) → Q (.ref t) H'
def backC (n : Int) (ns : List Int) : Int × List Int := if isCmd n ns then (0, inv n ns) else (2, ns)
def spBackC (K : PySem.W.Frag) (C : Addr) : Sp := fun vs H Q _ => ∃ (p q : Addr) (n : Int) (st : List V) (cam ns : List Int), vs = [.ref p, .ref q] ∧ SkyAt K C H p n st cam ∧ 0 < n ∧ SqT K H q (ns.map V.int) ∧
  ∀ (H' : Hp) (t b : Addr), Same H H' → SqT K H' t [.int (backC n ns).1, .ref b] → SqT K H' b ((backC n ns).2.map V.int) → Q (.ref t) H'
def orTI (ok : Bool) (ns : List Int) : PyData := if ok then .none else dTI ns
def spChecksC (K : PySem.W.Frag) (C : Addr) : Sp := fun vs H Q _ => ∃ (p q r : Addr) (n : Int) (st : List V) (cam ns ms : List Int), vs = [.ref p, .ref q, .ref r] ∧ SkyAt K C H p n st cam ∧ SqT K H q (ns.map V.int) ∧ SqT K H r (ms.map V.int) ∧
  ∀ (H' : Hp) (l : Addr) (x y : V), Same H H' → H' l = some (.lst [x, y]) → Dp K H' x (orTI (isPose n ns) ns) → Dp K H' y (orTI (isCmd n ms) ms) → Q (.ref l) H'
end Sw
namespace Sw
open PySem PySem.Spec PyProof.Rows L2
def chkV (ok : Bool) (q : Addr) : V := if ok then .non else .ref q
theorem chk_dp {K : PySem.W.Frag} {H : Hp} {q : Addr} {ns : List Int} (ok : Bool) (h : SqT K H q (ns.map V.int)) : Dp K H (chkV ok q) (orTI ok ns) := by
  cases ok with
  | true => exact .non
  | false => exact dp_ti h
theorem turnX_zero (q : Int) : turnX q 0 0 = 0 := by unfold turnX; split <;> (try split) <;> (try split) <;> rfl
theorem turnY_zero (q : Int) : turnY q 0 0 = 0 := by unfold turnY; split <;> (try split) <;> (try split) <;> rfl
theorem turnX_add (q a b c d : Int) : turnX q (a + c) (b + d) = turnX q a b + turnX q c d := by unfold turnX; split <;> (try split) <;> (try split) <;> omega
theorem turnY_add (q a b c d : Int) : turnY q (a + c) (b + d) = turnY q a b + turnY q c d := by unfold turnY; split <;> (try split) <;> (try split) <;> omega
end Sw
namespace Sw
open PySem PySem.Spec PyProof.Rows L2
theorem quarter_cases {q : Int} (h0 : 0 ≤ q) (h3 : q ≤ 3) : q = 0 ∨ q = 1 ∨ q = 2 ∨ q = 3 := by omega
theorem side_cases {n : Int} (h0 : 4 ≤ n) (h3 : n ≤ 9) : n = 4 ∨ n = 5 ∨ n = 6 ∨ n = 7 ∨ n = 8 ∨ n = 9 := by omega
theorem tX0 (x y : Int) : turnX 0 x y = x := rfl
theorem tX1 (x y : Int) : turnX 1 x y = -y := rfl
theorem tX2 (x y : Int) : turnX 2 x y = -x := rfl
theorem tX3 (x y : Int) : turnX 3 x y = y := rfl
theorem tY0 (x y : Int) : turnY 0 x y = y := rfl
theorem tY1 (x y : Int) : turnY 1 x y = x := rfl
theorem tY2 (x y : Int) : turnY 2 x y = -y := rfl
theorem tY3 (x y : Int) : turnY 3 x y = -x := rfl
theorem tXm (q x y : Int) : turnX q x y = turnX (q % 4) x y := by unfold turnX; rw [Int.emod_emod_of_dvd q (Int.dvd_refl 4)]
theorem tYm (q x y : Int) : turnY q x y = turnY (q % 4) x y := by unfold turnY; rw [Int.emod_emod_of_dvd q (Int.dvd_refl 4)]
theorem undo1 {n u v z x : Int} (h : (u % n + (v + x) % n) % n = z) (e : u + v = 0) (h0 : 0 ≤ x) (h1 : x < n) : z = x := by
  rw [← h, ← Int.add_emod, ← Int.add_assoc, e, Int.zero_add]
  exact Int.emod_eq_of_lt h0 h1
theorem neg_emod' (a n : Int) : (-(a % n)) % n = (-a) % n := by
  rw [← Int.emod_emod_of_dvd (-a) (Int.dvd_refl n)]
  conv => rhs; rw [← Int.mul_ediv_add_emod a n]
  rw [Int.neg_add, ← Int.mul_neg, Int.emod_emod_of_dvd _ (Int.dvd_refl n), Int.add_comm, Int.add_mul_emod_self_left]
theorem back_ok {n x y q i j l : Int} (hp : isPose n [x, y, q] = true) (l0 : 0 ≤ l) (l3 : l ≤ 3) : comp n (inv n [i, j, l]) (comp n [i, j, l] [x, y, q]) = [x, y, q] := by
  have h := of_decide_eq_true hp
  have key : ∀ u v w : Int, (w = u % n ∨ w = -(-u % n)) → u + v = 0 → ∀ z, 0 ≤ z → z < n → (w + (v + z) % n) % n = z := fun u v w hw e z z0 z1 => by
    have e1 : w % n = u % n := by
      rcases hw with rfl | rfl
      · exact Int.emod_emod_of_dvd u (Int.dvd_refl n)
      · rw [neg_emod', Int.neg_neg]
    rw [Int.add_emod, e1, Int.emod_emod_of_dvd _ (Int.dvd_refl n), ← Int.add_emod, ← Int.add_assoc, e, Int.zero_add]
    exact Int.emod_eq_of_lt z0 z1
  show [(turnX ((l + q) % 4) (turnX (2 - l) i j % n) (turnY (2 - l) i j % n) + (turnX q i j + x) % n) % n, (turnY ((l + q) % 4) (turnX (2 - l) i j % n) (turnY (2 - l) i j % n) + (turnY q i j + y) % n) % n, ((4 - l) % 4 + (l + q) % 4) % 4] = [x, y, q]
  have hq : ((4 - l) % 4 + (l + q) % 4) % 4 = q := by omega
  rw [hq]
  have X : (turnX ((l + q) % 4) (turnX (2 - l) i j % n) (turnY (2 - l) i j % n) + (turnX q i j + x) % n) % n = x := by
    refine key (-(turnX q i j)) _ _ ?_ (by omega) x h.1 h.2.1
    rcases quarter_cases l0 l3 with rfl | rfl | rfl | rfl <;> rcases quarter_cases h.2.2.2.2.1 h.2.2.2.2.2 with rfl | rfl | rfl | rfl <;> simp [turnX, turnY]
  have Y : (turnY ((l + q) % 4) (turnX (2 - l) i j % n) (turnY (2 - l) i j % n) + (turnY q i j + y) % n) % n = y := by
    refine key (-(turnY q i j)) _ _ ?_ (by omega) y h.2.2.1 h.2.2.2.1
    rcases quarter_cases l0 l3 with rfl | rfl | rfl | rfl <;> rcases quarter_cases h.2.2.2.2.1 h.2.2.2.2.2 with rfl | rfl | rfl | rfl <;> simp [turnX, turnY]
  rw [X, Y]
theorem comp_pose {n i j l x y q : Int} (hn : 0 < n) : isPose n (comp n [i, j, l] [x, y, q]) = true := by
  refine decide_eq_true ⟨Int.emod_nonneg _ (by omega), Int.emod_lt_of_pos _ hn, Int.emod_nonneg _ (by omega), Int.emod_lt_of_pos _ hn, by omega, by omega⟩
theorem inv_cmd {n i j l : Int} (hn : 0 < n) : isCmd n (inv n [i, j, l]) = true := by
  have a0 := Int.emod_nonneg (turnX (2 - l) i j) (show n ≠ 0 by omega)
  have a1 := Int.emod_lt_of_pos (turnX (2 - l) i j) hn
  have b0 := Int.emod_nonneg (turnY (2 - l) i j) (show n ≠ 0 by omega)
  have b1 := Int.emod_lt_of_pos (turnY (2 - l) i j) hn
  exact decide_eq_true ⟨by omega, a1, by omega, b1, by omega, by omega⟩
theorem turn_mod8 (q x y : Int) : turnX ((q + 8) % 4) x y = turnX q x y ∧ turnY ((q + 8) % 4) x y = turnY q x y := by
  rw [tXm q, tYm q, show (q + 8) % 4 = q % 4 by omega]
  exact ⟨rfl, rfl⟩
end Sw
namespace Sw
theorem poseF {n x y q : Int} (h : ¬ (0 ≤ x ∧ x < n ∧ 0 ≤ y ∧ y < n ∧ 0 ≤ q ∧ q ≤ 3)) : isPose n [x, y, q] = false := decide_eq_false h
theorem cmdF {n x y q : Int} (h : ¬ (-n < x ∧ x < n ∧ -n < y ∧ y < n ∧ 0 ≤ q ∧ q ≤ 3)) : isCmd n [x, y, q] = false := decide_eq_false h
theorem poseT {n x y q : Int} (h : 0 ≤ x ∧ x < n ∧ 0 ≤ y ∧ y < n ∧ 0 ≤ q ∧ q ≤ 3) : isPose n [x, y, q] = true := decide_eq_true h
end Sw
set_option Elab.async false
set_option linter.all false
set_option maxRecDepth 100000
set_option maxHeartbeats 4000000
/-! repr of data, where it is known that no repr is under way; defs that want to know so. -/
namespace SwG
open PySem PySem.Spec PyProof.Rows L2
/-- data whose text is told -/
structure Shw (d : PyData) : Prop where
  sh : d.showable = true
  nd : d.hasDict = false
  lv : d.leavesShort 13 = true
  wt : d.weight ≤ 1000000
  dp : d.depth ≤ 60
def rRepr (K : PySem.W.Frag) : List V → Hp → VK → Prop := fun xs H Q => ∃ x d, xs = [x] ∧ Dp K H x d ∧ Shw d ∧ Q (.str d.shown) H
theorem cr_repr {X : Cx} (hq : X.A.guards = some []) (hu : X.A.units + 64 < cLine) : CallR X (.builtin "repr") (rRepr X.K) := by
  rintro pins s σ H xs us Q I r ⟨x, d, rfl, hd, hw, q⟩
  cases r with
  | cons rx rt =>
    cases rt
    rename_i u
    obtain ⟨as, rd⟩ := Dp.reads I d x u hd rx
    have fits : d.shown.length ≤ sizeLine := PyData.shown_fits (B := 13) (by decide) (by decide) hw.lv (Nat.le_trans hw.wt (by decide))
    have far : ∀ a, Reads s.heap (.ref a) d as → wpAny (model X.prog X.w) X.A (call (.builtin "repr") [.ref a]) (EP X pins σ Q) X.xe s := fun a z =>
      repr_of_reads' z hw.sh (fun t => absurd t (by rw [hw.nd]; exact Bool.false_ne_true)) hq (by have := hw.dp; omega) (fun _ _ e => e) (fun h' t tk kp => ⟨.str _, H, I.kept kp, ⟨_, rfl⟩, q⟩) fits
    cases rd with
    | none => exact PySem.P.repr_of_none ⟨.str _, H, I.tok _, ⟨_, rfl⟩, q⟩
    | bool b => exact PySem.P.repr_of_bool ⟨.str _, H, I.tok _, ⟨_, rfl⟩, q⟩
    | int i t => exact PySem.P.repr_of_int (of_decide_eq_true hw.sh) ⟨.str _, H, I.tok _, ⟨_, rfl⟩, q⟩
    | str y t => exact PySem.P.repr_of_str ⟨.str _, H, I.tok _, ⟨_, rfl⟩, q⟩ fits
    | list h1 h2 h3 h4 => exact far _ (.list h1 h2 h3 h4)
    | tuple h1 h2 h3 h4 => exact far _ (.tuple h1 h2 h3 h4)
    | dict h1 h2 h3 h4 h5 => exact far _ (.dict h1 h2 h3 h4 h5)
/-- a def that is called where no repr is under way -/
structure FnG (P : Program) (w : World) (K : PySem.W.Frag) (mg : Str → Option Value) (base : Heap) (CX : CXT) (k : Nat) (f : Addr) (fd : FuncData) (ps : List Str) (sp : Sp) : Prop where
  many : ∀ vs H Q E, sp vs H Q E → vs.length = ps.length
  go : ∀ (A : Around) (outer : List Env) (s : Shared) (H : Hp) (args : Args) (us : List Value) (vs : List V) (Q : VK) (E : XK), A.guards = some [] → Room k A →
    Env0 P w K mg base A outer s H → BindsTo s fd args (ps.zip us) → Vals vs us → sp vs H Q E → codeAny (model P w) A (.call (.ref f) args) (CR CX outer P w H s Q E) s
theorem FnG.mono {P : Program} {w : World} {K : PySem.W.Frag} {mg : Str → Option Value} {base : Heap} {CX : CXT} {j k : Nat} {f : Addr} {fd : FuncData} {ps : List Str} {sp : Sp} (F : FnG P w K mg base CX j f fd ps sp) (h : j ≤ k) : FnG P w K mg base CX k f fd ps sp :=
  ⟨F.many, fun A outer s H args us vs Q E gd room => F.go A outer s H args us vs Q E gd (room.mono h)⟩
section
variable {P : Program} {w : World} {K : PySem.W.Frag} {mg : Str → Option Value} {base : Heap}
/-- as Fun.ok of the library -/
theorem okG {x qual : Str} {st : Stmt} {f : Addr} {fd : FuncData} {N ps : List Str} {k : Nat} {sp : Sp} (F : Fun K x qual st f fd) (S : FnScope N ps (defScope st)) (many : ∀ vs H Q E, sp vs H Q E → vs.length = ps.length)
    (hb : ∀ (cdv : Value) (A : Around) (outer : List Env) (s : Shared) (H : Hp) (vs : List V) (Q : VK) (E : XK), (A.deeper (envOfC qual (defScope st) s.heap.objs.size f cdv)).guards = some [] → Room k (A.deeper (envOfC qual (defScope st) s.heap.objs.size f cdv)) → sp vs H Q E →
      ∃ t, PSs (cxOf CX0 P w K mg base N qual (defScope st) f cdv A outer s H E).nox (defBody st) t ∧ t { nx := fun _ H' => Q .non H', rt := Q } (start N vs) H) : FnG P w K mg base CX0 (k + 1) f fd ps sp := by
  obtain ⟨oc, od, kV, doc, pm, an, cdv, ct, osl, rfl, lk, hcd⟩ := F.ex
  refine ⟨many, ?_⟩
  intro A outer s H args us vs Q E gd room env bd rv hs
  have stays : ∀ b o, base.get? b = some o → s.heap.get? b = some o := fun b o e => (env.bs b o e).1
  have inK : K.In s.heap := env.mod.kin.keeps stays
  refine codeAny_call_function room.depth (inK _ _ lk) rfl S.co S.gen rfl (PySem.W.codeRec_of inK hcd) (bd _ _ _ _ ?_)
  refine wpAny_newFunctionEnv_cells S.kind ?_ ?_
  · rintro ⟨n, v⟩ hy
    refine (S.par n (List.of_mem_zip hy).1).imp id fun q => ⟨q, ?_⟩
    exact PySem.W.cellsFrom_some _ _ _ (Or.inl q)
  intro en he s1 ic
  cases he
  refine ⟨(env.mod.nolimit.keeps stays).keeps ic.toInCall.keep, codeAny_func ?_⟩
  obtain ⟨t, body, want⟩ := hb cdv A outer s H vs Q E gd (room.deeper _) hs
  have J := inv_start (CX := CX0) (E := E) S room.hd env (many _ _ _ _ hs) rv ic
  refine wpAny_mono (body.nox.run [] s1 (start N vs) H _ J want) ?_ (fun _ _ z => z)
  intro fl s' z
  cases fl with
  | ret u =>
    obtain ⟨v, τ, H', L, e, q⟩ := z
    exact ⟨v, H', L.os, L.bare, L.base, L.hok, e, q⟩
  | next =>
    obtain ⟨τ, H', L, q⟩ := z
    exact ⟨.non, H', L.os, L.bare, L.base, L.hok, rfl, q⟩
  | brk => exact z.elim fun _ z => z.elim fun _ z => False.elim z.2
  | cont => exact z.elim fun _ z => z.elim fun _ z => False.elim z.2
end
section
variable {X : Cx} {CX : CXT} {k : Nat} {f : Addr} {fd : FuncData} {ps : List Str} {sp : Sp} {E : XK} {x : Str} {p pos : Pos} {e : Expr} {es : List Expr} {t : TA}
/-- a call of such a def -/
theorem pe_callG (hq : X.A.guards = some []) (F : FnG X.prog X.w X.K X.mg X.base CX k f fd ps sp) (hr : Room k X.A) (hg : Gl X x) (hm : X.mg x = some (.ref f)) (hk : PySem.W.keepIn X.K (.ref f) = true) (hb : Binds X.K fd ps []) (hx : Passes CX X E)
    (ha : PA X (e :: es) t) (hdb : (x == ("__debug__" : Str)) = false := by decide) (he : starEach (e :: es) X.env = (false, eval e X.env) :: starEach es X.env := by rfl) (hpl : (backTo pos (starEach es X.env)).any (·.1) = false := by rfl) :
    PE X (.Call (.Name x p) (e :: es) [] pos) (tCall sp [] E t) := by
  constructor
  intro pins s σ H Q I h
  refine wpAny_Call_Name_kw (ld_glob I hg hm ?_ hdb)
  refine PySem.W.callWith_K (h₀ := X.base) I.ok.mod.kin hk (thn (ha.run pos pins s σ H _ I h) ?_) he hpl
  rintro us s1 ⟨vs, H1, I1, r, q⟩
  refine ⟨I1.kIn, ?_⟩
  have q' : sp vs H1 Q E := by
    have z := q
    rw [List.append_nil] at z
    exact z
  have eq : us ++ [] = us := List.append_nil us
  have hl : us.length = ps.length := by rw [← r.length]; exact F.many _ _ _ _ q'
  have bd := hb s1 us I1.kIn (by rw [eq]; exact hl)
  rw [eq] at bd
  refine wpAny_call (codeAny_mono (F.go X.A X.stack s1 H1 ⟨us, []⟩ us vs Q E hq hr I1.env0 bd r q') ?_)
  intro o s' z
  match o, z with
  | .error e, z => exact hx pins σ H1 s1 e s' I1 z
  | .ok (.ret u), z => exact I1.after z
end
/-- the law's own call -/
theorem law_callG {P : Program} {w : World} {K : PySem.W.Frag} {mg mb : Str → Option Value} {k : Nat} {fa a : Addr} {fd : FuncData} {x : Str} {sp : Sp} {s₁ : Shared} {vs : List Value} {ns : List Int}
    (KX : K.In s₁.heap) (hns : s₁.heap.Ns mainGlobals mg) (hbn : s₁.heap.Ns builtinsNs mb) (hbb : ∀ x : Str, x ≠ "__name__" → mb x = bootBuiltins x) (lim : s₁.heap.NoLimit) (hgs : s₁.gens = #[])
    (ha : s₁.heap.get? a = some { cls := .type "list", data := .seq vs.toArray }) (hi : IntsAre vs ns) (hl : ns.length ≤ sizeLine) (room : Room k callerA)
    (F : ∀ base : Heap, K.In base → base.Ns mainGlobals mg → FnG P w K mg base CX0 k fa fd [x] sp) (hbind : ∀ (s : Shared) (u : Value), BindsTo s fd ⟨[u], []⟩ [(x, u)])
    (hsp : ∀ H : Hp, Only H → SqL K H a (ns.map V.int) → sp [.ref a] H (fun v _ => v = .bl true) fun _ _ _ => False) :
    codeAny (model P w) callerA (.call (.ref fa) ⟨[.ref a], []⟩) (fun r s' => r = .ok (.ret (.bool true)) ∧ OldK s₁.heap s'.heap ∧ s'.os = s₁.os ∧ AllBare s'.gens) s₁ := by
  -- what is tracked: nothing, or the script alone
  have main : ∀ H : Hp, Only H → SqL K H a (ns.map V.int) → HOk P w H s₁.heap → (∀ b u, H b = some u → b = a ∧ K.lookup a = none) →
      codeAny (model P w) callerA (.call (.ref fa) ⟨[.ref a], []⟩) (fun r s' => r = .ok (.ret (.bool true)) ∧ OldK s₁.heap s'.heap ∧ s'.os = s₁.os ∧ AllBare s'.gens) s₁ := by
    intro H only sq ok just
    have shown : ∀ {b : Addr} {o : Obj}, s₁.heap.get? b = some o → H b = none → (hidT s₁.heap H).get? b = some o := fun e n => hidT_get e n
    have free : ∀ {b : Addr}, b ≠ a → H b = none := fun {b} n => by
      cases q : H b with
      | none => rfl
      | some u => exact absurd (just b u q).1 n
    have names : ∀ {b : Addr} {m : Str → Option Value}, s₁.heap.Ns b m → (hidT s₁.heap H).Ns b m := by
      rintro b m ⟨o, es, ep, e, d, r⟩
      refine ⟨o, es, ep, shown e (free fun z => ?_), d, r⟩
      rw [z, ha] at e
      cases e
      cases d
    have inK : K.In (hidT s₁.heap H) := fun b o e => shown (KX b o e) (by
      cases q : H b with
      | none => rfl
      | some u =>
        have z := just b u q
        rw [z.1, z.2] at e
        cases e)
    have md : Mod K mg (hidT s₁.heap H) := by
      obtain ⟨mc, l1, l2⟩ := lim
      exact ⟨inK, names hns, ⟨mb, names hbn, hbb⟩, mc, names l1, l2⟩
    have en : Env0 P w K mg (hidT s₁.heap H) callerA [] s₁ H := by
      refine ⟨rfl, md, fun b o e => of_hidT e, Nat.le_of_eq (hidT_size _ _), trivial, fun b hb => ?_, ok, .of_eq hgs⟩
      exact absurd (show b ∈ ([] : List Addr) from hb) List.not_mem_nil
    refine codeAny_mono ((F _ inK (names hns)).go callerA [] s₁ H ⟨[.ref a], []⟩ [.ref a] [.ref a] _ _ rfl room en (hbind s₁ (.ref a)) (.cons rfl .nil) (hsp H only sq)) ?_
    intro r s' z
    match r, z with
    | .error e, z => exact False.elim z
    | .ok (.ret u), z =>
      obtain ⟨v, H', os, bare, un, ok', rv, q⟩ := z
      cases (show v = .bl true from q)
      cases (show u = Value.bool true from rv)
      refine ⟨rfl, OldK.of_keep fun b o e => ?_, os, bare⟩
      rcases only b with n | ⟨ob, xs, n⟩
      · exact un.keep b o e n (fun z => absurd (show b ∈ ([] : List Addr) from z) List.not_mem_nil) List.not_mem_nil
      · obtain ⟨e1, _⟩ := ok b _ n
        obtain ⟨e2, _⟩ := ok' b _ (un.frzs b ob _ n)
        rw [e] at e1
        cases e1
        exact e2
  have rv := vals_ints hi
  cases hk : K.lookup a with
  | none =>
    refine main (fun b => if b = a then some (.frz { cls := .type "list", data := .seq vs.toArray } (.lst (ns.map V.int))) else none) ?_ (.inl (.inr ⟨_, if_pos rfl⟩)) ?_ ?_
    · intro b
      by_cases e : b = a
      · exact .inr ⟨_, _, if_pos e⟩
      · exact .inl (if_neg e)
    · intro b u z
      by_cases e : b = a
      · have y := (if_pos e).symm.trans z
        cases y
        cases e
        exact ⟨ha, by rw [List.length_map]; exact hl, vs, _, rv, ha⟩
      · have y := (if_neg e).symm.trans z
        cases y
    · intro b u z
      by_cases e : b = a
      · exact ⟨e, hk⟩
      · have y := (if_neg e).symm.trans z
        cases y
  | some o =>
    have e := KX a o hk
    rw [ha] at e
    cases e
    refine main (fun _ => none) (fun _ => .inl rfl) (.inr ?_) (fun b u z => ?_) fun b u z => ?_
    · exact ⟨_, vs.toArray, _, hk, rfl, rfl, rfl, by rw [List.size_toArray, hi.length]; exact hl, by simpa using rv⟩
    · cases (show (none : Option HO) = some u from z)
    · cases (show (none : Option HO) = some u from z)
theorem walk_ofG {l : PySem.W.OpenLaw} {n k : Nat} {q : Program} {loose : List Str} {XP : (Str → Option Value) → Heap → Prop} {YP : World → Heap → Prop} {d : DefRec} {K : Params → PySem.W.Frag} {sp : World → Sp} {x : Str}
    (h1 : l.most = some n) (h2 : n ≤ sizeLine) (h3 : d.params.defaults = []) (room : Room k callerA) (hY : ∀ (w : World) (h : Heap), YP w h → (K w.params).In h)
    (F : ∀ (w : World) (mg : Str → Option Value) (fa : Addr) (h : Heap), (K w.params).In h → h.Ns mainGlobals mg → mg d.name = some (.ref fa) →
      ∃ fd : FuncData, (∀ (s : Shared) (u : Value), BindsTo s fd ⟨[u], []⟩ [(x, u)]) ∧ ∀ base : Heap, (K w.params).In base → base.Ns mainGlobals mg → FnG l.prog w (K w.params) mg base CX0 k fa fd [x] (sp w))
    (hsp : ∀ (w : World) (H : Hp) (a : Addr) (ns : List Int), ns.length ≤ n → Only H → SqL (K w.params) H a (ns.map V.int) → sp w [.ref a] H (fun v _ => v = .bl true) fun _ _ _ => False) :
    PySem.W.WalkO q loose XP YP l.row.toRowW d [] (fun f vs => PySem.call f vs) := by
  refine Att.attach_call h1 h3 ?_
  intro w s₀ s₁ mg mb fa o pm cd doc a vs ns G Y ho hd hcd hmg hobj hints hlen hg
  have KX := hY w _ Y
  obtain ⟨fd, hb, hF⟩ := F w mg fa _ KX G.T.g hmg
  exact law_callG KX G.T.g G.T.b G.T.builtins G.T.nolimit hg hobj hints (Nat.le_trans hlen h2) room hF hb fun H hO hS => hsp w H a ns hlen hO hS
end SwG
namespace L2
open PySem PySem.Spec PyProof.Rows
theorem cr_allN {X : Cx} {K : PySem.W.Frag} (hc : X.calm = true) (h : X.K = K := by rfl) : CallR X (.builtin "all") (rAll K) := h ▸ cr_all hc
theorem cr_anyN {X : Cx} {K : PySem.W.Frag} (hc : X.calm = true) (h : X.K = K := by rfl) : CallR X (.builtin "any") (rAny K) := h ▸ cr_any hc
theorem cr_sumN {X : Cx} {K : PySem.W.Frag} (hc : X.calm = true) (h : X.K = K := by rfl) : CallR X (.builtin "sum") (rSum K) := h ▸ cr_sum hc
theorem cr_maxN {X : Cx} {K : PySem.W.Frag} (hc : X.calm = true) (h : X.K = K := by rfl) : CallR X (.builtin "max") (rMax K) := h ▸ cr_max hc
theorem cr_minN {X : Cx} {K : PySem.W.Frag} (hc : X.calm = true) (h : X.K = K := by rfl) : CallR X (.builtin "min") (rMin K) := h ▸ cr_min hc
end L2
namespace SwG
open PySem PySem.Spec PyProof.Rows L2
/-- data whose text is told, of a weight and a depth -/
structure Shb (w k : Nat) (d : PyData) : Prop where
  sh : d.showable = true
  nd : d.hasDict = false
  lv : d.leavesShort 13 = true
  wt : d.weight ≤ w
  dp : d.depth ≤ k
theorem Shb.shw {w k : Nat} {d : PyData} (h : Shb w k d) (hw : w ≤ 1000000 := by decide) (hk : k ≤ 60 := by decide) : Shw d := ⟨h.sh, h.nd, h.lv, Nat.le_trans h.wt hw, Nat.le_trans h.dp hk⟩
theorem shb_int {i : Int} (h : i.natAbs < 10 ^ 12) : Shb 41 0 (.int i) := by
  have hl : i.natAbs.log2 < 40 := by
    by_cases h0 : i.natAbs = 0
    · rw [h0]
      decide
    · exact (Nat.log2_lt h0).mpr (Nat.lt_of_lt_of_le h (by decide))
  refine ⟨decide_eq_true (by omega), rfl, ?_, ?_, Nat.le_refl _⟩
  · refine decide_eq_true ?_
    show (Str.ofString (toString i)).length ≤ 13
    rw [PySem.ofString_length]
    exact int_text_length_le10 (k := 12) (by decide) h
  · show (if i == 0 then 0 else i.natAbs.log2 + 1) ≤ 41
    split <;> omega
theorem shb_non : Shb 41 0 .none := ⟨rfl, rfl, rfl, Nat.zero_le _, Nat.zero_le _⟩
theorem shb_bool (b : Bool) : Shb 41 0 (.bool b) := ⟨rfl, rfl, rfl, Nat.zero_le _, Nat.zero_le _⟩
theorem shb_all {w k : Nat} : ∀ {ds : List PyData}, (∀ d ∈ ds, Shb w k d) → PyData.showableAll ds = true ∧ PyData.hasDictAll ds = false ∧ PyData.leavesShortAll 13 ds = true ∧ PyData.weightAll ds ≤ ds.length * (w + 1) ∧ PyData.depthAll ds ≤ k
  | [], _ => ⟨rfl, rfl, rfl, Nat.zero_le _, Nat.zero_le _⟩
  | d :: r, h => by
    have hd := h d List.mem_cons_self
    obtain ⟨h1, h2, h3, h4, h5⟩ := shb_all (ds := r) fun x hx => h x (List.mem_cons_of_mem _ hx)
    refine ⟨?_, ?_, ?_, ?_, ?_⟩
    · show (d.showable && PyData.showableAll r) = true
      rw [hd.sh, h1]
      rfl
    · show (d.hasDict || PyData.hasDictAll r) = false
      rw [hd.nd, h2]
      rfl
    · show (d.leavesShort 13 && PyData.leavesShortAll 13 r) = true
      rw [hd.lv, h3]
      rfl
    · show d.weight + 1 + PyData.weightAll r ≤ (r.length + 1) * (w + 1)
      rw [Nat.add_mul, Nat.one_mul]
      have := hd.wt
      omega
    · show max d.depth (PyData.depthAll r) ≤ k
      have := hd.dp
      omega
theorem shb_list {w k : Nat} {ds : List PyData} (h : ∀ d ∈ ds, Shb w k d) : Shb (ds.length * (w + 1)) (k + 1) (.list ds) := by
  obtain ⟨h1, h2, h3, h4, h5⟩ := shb_all h
  exact ⟨h1, h2, h3, h4, Nat.succ_le_succ h5⟩
theorem shb_tuple {w k : Nat} {ds : List PyData} (h : ∀ d ∈ ds, Shb w k d) : Shb (ds.length * (w + 1)) (k + 1) (.tuple ds) := by
  obtain ⟨h1, h2, h3, h4, h5⟩ := shb_all h
  exact ⟨h1, h2, h3, h4, Nat.succ_le_succ h5⟩
theorem Shb.up {w k w' k' : Nat} {d : PyData} (h : Shb w k d) (hw : w ≤ w') (hk : k ≤ k') : Shb w' k' d := ⟨h.sh, h.nd, h.lv, Nat.le_trans h.wt hw, Nat.le_trans h.dp hk⟩
theorem shb_ints {ns : List Int} (h : ∀ i ∈ ns, i.natAbs < 10 ^ 12) : Shb (ns.length * 42) 1 (.list (ns.map .int)) := by
  have := shb_list (w := 41) (k := 0) (ds := ns.map PyData.int) fun d hd => by
    obtain ⟨i, hi, rfl⟩ := List.mem_map.mp hd
    exact shb_int (h i hi)
  rwa [List.length_map] at this
end SwG
namespace SwG
open PySem PySem.Spec PyProof.Rows L2
theorem ne_str {x : Str} {H : Hp} {Q : VK} (q : Q (.bl false) H) : rNe (.str x) (.str x) H Q := by
  have e : (!decide (V.str x = V.str x)) = false := by rw [decide_eq_true rfl]; rfl
  exact ⟨rfl, e ▸ q⟩
theorem eq_str {x : Str} {H : Hp} {Q : VK} (q : Q (.bl true) H) : rEq (.str x) (.str x) H Q := by
  have e : decide (V.str x = V.str x) = true := decide_eq_true rfl
  exact ⟨rfl, e ▸ q⟩
end SwG
set_option Elab.async false
set_option linter.all false
set_option maxRecDepth 100000
set_option maxHeartbeats 4000000
/-! Lists of tuples of integers: stars and spots. -/
namespace Sw
open PySem PySem.Spec PyProof.Rows L2
abbrev Tups := List (Addr × List Int)
def refs (ks : Tups) : List V := ks.map fun p => V.ref p.1
def keys (ks : Tups) : List (List Int) := ks.map (·.2)
def TupsAt (K : PySem.W.Frag) (H : Hp) (ks : Tups) : Prop := ∀ p ∈ ks, SqT K H p.1 (p.2.map V.int)
theorem tups_up {K : PySem.W.Frag} {H H' : Hp} {ks : Tups} (s : Same H H') (h : TupsAt K H ks) : TupsAt K H' ks := fun p hp => sqT_up s (h p hp)
theorem refs_len (ks : Tups) : (refs ks).length = ks.length := List.length_map ..
theorem keys_len (ks : Tups) : (keys ks).length = ks.length := List.length_map ..
theorem dp_tups {K : PySem.W.Frag} {H : Hp} : ∀ {ks : Tups}, TupsAt K H ks → DpAll K H (refs ks) ((keys ks).map dTI)
  | [], _ => .nil
  | p :: r, h => .cons (dp_ti (h p List.mem_cons_self)) (dp_tups fun q hq => h q (List.mem_cons_of_mem _ hq))
/-- len of a set of such -/
def rLenT (P : Program) (w : World) : List V → Hp → VK → Prop := fun xs H Q => ∃ (b : Addr) (L : Tups), xs = [.ref b] ∧ H b = some (SetTO P w b L) ∧ ((keys L).Nodup → Q (.int L.length) H)
theorem cr_lenT {X : Cx} : CallR X (.builtin "len") (rLenT X.prog X.w) := by
  intro pins s σ H xs us Q I hv ⟨b, L, ex, hb, q⟩
  subst ex
  cases hv with
  | cons r1 r2 =>
    cases r2
    rename_i u1
    obtain rfl : u1 = Value.ref b := r1
    have z : ObjOk X.prog X.w H s.heap b (SetTO X.prog X.w b L) := I.hok b _ hb
    obtain ⟨⟨⟨es, ep, t, ⟨o, g1, g2, g3⟩, h1, h2, h3, _, _, h4, h5⟩⟩, _⟩ := z
    have hsz : es.size = L.length := by
      rw [← Array.length_toList, h1]
      exact List.length_map ..
    have hdm : t.dummies.size = 0 := by rw [h2.dm]; rfl
    have hps : t.place.size = L.length := by rw [h2.sz, List.length_map]
    have hf : t.fits es.size = true := by
      unfold PySem.SetTable.fits
      rw [Bool.and_eq_true]
      refine ⟨by rw [hps, hsz]; exact beq_self_eq_true _, decide_eq_true ?_⟩
      unfold PySem.SetTable.fill
      omega
    refine call_len_set g1 g2 g3 hf (by rw [hsz]; omega) ?_
    rw [hsz]
    exact ⟨.int L.length, H, (I.tok _).tok _, ⟨_, rfl⟩, q h3⟩
theorem len_le_of_sub {α : Type} [DecidableEq α] : ∀ {l m : List α}, l.Nodup → (∀ x ∈ l, x ∈ m) → l.length ≤ m.length
  | [], _, _, _ => Nat.zero_le _
  | x :: r, m, hn, hs => by
    have hn' := List.nodup_cons.mp hn
    have hx : x ∈ m := hs x List.mem_cons_self
    have := len_le_of_sub (l := r) (m := m.erase x) hn'.2 fun y hy => (List.mem_erase_of_ne (fun e => hn'.1 (by rw [← e]; exact hy))).mpr (hs y (List.mem_cons_of_mem _ hy))
    rw [List.length_erase_of_mem hx] at this
    have := List.length_pos_of_mem hx
    simp only [List.length_cons]
    omega
theorem shorter {α : Type} [DecidableEq α] : ∀ {l : List α}, ¬ l.Nodup → ∃ m : List α, m.length < l.length ∧ ∀ x ∈ l, x ∈ m
  | [], h => absurd List.nodup_nil h
  | x :: r, h => by
    by_cases hx : x ∈ r
    · exact ⟨r, by simp, fun y hy => by
        rcases List.mem_cons.mp hy with rfl | hy
        · exact hx
        · exact hy⟩
    · obtain ⟨m, h1, h2⟩ := shorter (l := r) fun hr => h (List.nodup_cons.mpr ⟨hx, hr⟩)
      exact ⟨x :: m, by simpa using h1, fun y hy => by
        rcases List.mem_cons.mp hy with rfl | hy
        · exact List.mem_cons_self
        · exact List.mem_cons_of_mem _ (h2 y hy)⟩
theorem set_len {ks L : Tups} (h1 : ∀ p ∈ L, p ∈ ks) (h2 : ∀ p ∈ ks, p.2 ∈ L.map (·.2)) (hn : (keys L).Nodup) : (L.length < ks.length) ↔ ¬ (keys ks).Nodup := by
  have s1 : ∀ x ∈ keys L, x ∈ keys ks := fun x hx => by
    obtain ⟨p, hp, rfl⟩ := List.mem_map.mp hx
    exact List.mem_map_of_mem (h1 p hp)
  have s2 : ∀ x ∈ keys ks, x ∈ keys L := fun x hx => by
    obtain ⟨p, hp, rfl⟩ := List.mem_map.mp hx
    exact h2 p hp
  constructor
  · intro hl hk
    have := len_le_of_sub hk s2
    rw [keys_len, keys_len] at this
    omega
  · intro hk
    obtain ⟨m, hm, hs⟩ := shorter hk
    have := len_le_of_sub hn fun x hx => hs x (s1 x hx)
    rw [keys_len] at this hm
    omega
theorem perm_map_inv {α β : Type} {f : α → β} {l m : List β} (h : l.Perm m) : ∀ {ks : List α}, m = ks.map f → ∃ ks' : List α, ks'.Perm ks ∧ l = ks'.map f := by
  induction h with
  | nil =>
    intro ks e
    refine ⟨[], ?_, rfl⟩
    rw [show ks = [] by simpa using e.symm]
  | cons x _ ih =>
    intro ks e
    cases ks with
    | nil => cases e
    | cons k r =>
      rw [List.map_cons] at e
      injection e with e1 e2
      obtain ⟨r', h1, h2⟩ := ih e2
      exact ⟨k :: r', .cons _ h1, by rw [e1, h2]; rfl⟩
  | swap x y _ =>
    intro ks e
    match ks, e with
    | a :: b :: r, e =>
      rw [List.map_cons, List.map_cons] at e
      injection e with e1 e2
      injection e2 with e2 e3
      exact ⟨b :: a :: r, .swap .., by rw [e1, e2, e3]; rfl⟩
  | trans _ _ ih1 ih2 =>
    intro ks e
    obtain ⟨k1, h1, e1⟩ := ih2 e
    obtain ⟨k2, h2, e2⟩ := ih1 e1
    exact ⟨k2, h2.trans h1, e2⟩
theorem code_inj {B : Int} : ∀ {a b : List Int}, a.length = b.length → TS.Bd B a → TS.Bd B b → TS.code B a = TS.code B b → a = b
  | [], [], _, _, _, _ => rfl
  | d :: r, e :: q, hl, ha, hb, hc => by
    have hl' : r.length = q.length := by simpa using hl
    by_cases h1 : d < e
    · have := TS.code_lt hl' ha.tail hb.tail h1
      omega
    by_cases h2 : e < d
    · have := TS.code_lt hl'.symm hb.tail ha.tail h2
      omega
    obtain rfl : d = e := by omega
    have z1 := mt (TS.code_same (B := B) (d := d) hl').mpr (by omega)
    have z2 := mt (TS.code_same (B := B) (d := d) hl'.symm).mpr (by omega)
    rw [code_inj hl' ha.tail hb.tail (by omega)]
/-- tuples in their order -/
def Asc (B : Int) (l : List (List Int)) : Prop := l.Pairwise fun a b => TS.code B a ≤ TS.code B b
def Fit (d : Nat) (B : Int) (l : List (List Int)) : Prop := ∀ a ∈ l, a.length = d ∧ TS.Bd B a
theorem asc_unique {d : Nat} {B : Int} {l m : List (List Int)} (hl : Asc B l) (hm : Asc B m) (hp : l.Perm m) (hf : Fit d B l) : l = m :=
  List.Perm.eq_of_pairwise (le := fun a b => TS.code B a ≤ TS.code B b) (fun a b ha hb h1 h2 => by
    obtain ⟨a1, a2⟩ := hf a ha
    obtain ⟨b1, b2⟩ := hf b (hp.mem_iff.mpr hb)
    exact code_inj (a1.trans b1.symm) a2 b2 (by omega)) hl hm hp
/-- sorted(l), l a list of tuples of d integers from 0 to below B -/
def rSortM (K : PySem.W.Frag) (d : Nat) (B : Int) : List V → Hp → VK → Prop := fun vs H Q => ∃ (b : Addr) (ks : Tups), vs = [.ref b] ∧ SqL K H b (refs ks) ∧ TupsAt K H ks ∧ ks.length < 64 ∧ Fit d B (keys ks) ∧
  ∀ (p : Addr) (ks' : Tups) (H' : Hp), Same H H' → H p = none → H' p = some (.lst (refs ks')) → ks'.Perm ks → Asc B (keys ks') → Q (.ref p) H'
theorem tupI_unique {X : Cx} {pins : List (Addr × Obj)} {σ : L2.St} {H : Hp} {s : Shared} (I : Inv X pins σ H s) {p : Addr} {a b : List Int} (h1 : SqT X.K H p (a.map V.int)) (h2 : SqT X.K H p (b.map V.int)) : a = b := by
  have e := I.tuple_inj h1 h2
  have inj : ∀ {a b : List Int}, a.map V.int = b.map V.int → a = b := by
    intro a
    induction a with
    | nil => intro b h; cases b with
      | nil => rfl
      | cons _ _ => cases h
    | cons x r ih =>
      intro b h
      cases b with
      | nil => cases h
      | cons y q =>
        rw [List.map_cons, List.map_cons] at h
        injection h with h1 h2
        rw [V.int.inj h1, ih h2]
  exact inj e
theorem cr_sortM {X : Cx} {d : Nat} {B : Int} (hd : 1 ≤ d) : CallR X (.builtin "sorted") (rSortM X.K d B) := by
  intro pins s σ H xs us Q I hv ⟨b, ks, ex, hb, ht, hl, hf, q⟩
  refine cr_sortT (d := d) (B := B) hd pins s σ H xs us Q I hv ⟨b, refs ks, ex, hb, by rw [refs_len]; exact hl, fun x hx => ?_, fun ys p hp hw np => ?_⟩
  · obtain ⟨k, hk, rfl⟩ := List.mem_map.mp hx
    obtain ⟨z1, z2⟩ := hf k.2 (List.mem_map_of_mem hk)
    exact ⟨k.2, ⟨k.1, rfl, ht k hk⟩, z1, z2⟩
  · obtain ⟨ks', h1, rfl⟩ := perm_map_inv (f := fun p : Addr × List Int => V.ref p.1) hp (ks := ks) rfl
    refine q p ks' _ (same_new np) np upd_same h1 ?_
    have hw' := List.pairwise_map.mp hw
    refine List.pairwise_map.mpr ?_
    have mem : ∀ k ∈ ks', TupI X.K H (V.ref k.1) k.2 := fun k hk => ⟨k.1, rfl, ht k (h1.mem_iff.mp hk)⟩
    exact hw'.imp_of_mem fun {x y} hx hy z => z _ _ (mem x hx) (mem y hy)
/-! what a sky may be -/
def isSky (n : Int) (kk : List (List Int)) (cam : List Int) : Bool := decide (4 ≤ n ∧ n ≤ 9) && kk.all (isStar n) && decide kk.Nodup && decide (kk.length ≤ 20) && isCam n cam
theorem star_fit {n : Int} {a : List Int} (h : isStar n a = true) (h9 : n ≤ 9) : a.length = 3 ∧ TS.Bd 10 a := by
  match a, h with
  | [x, y, b], h =>
    have z := of_decide_eq_true h
    refine ⟨rfl, fun m hm => ?_⟩
    simp only [List.mem_cons, List.not_mem_nil, or_false] at hm
    rcases hm with rfl | rfl | rfl <;> omega
theorem stars_fit {n : Int} {l : List (List Int)} (h : l.all (isStar n) = true) (h9 : n ≤ 9) : Fit 3 10 l := fun a ha => star_fit (List.all_eq_true.mp h a ha) h9
theorem sky_parts {n : Int} {kk : List (List Int)} {cam : List Int} (h : isSky n kk cam = true) : (4 ≤ n ∧ n ≤ 9) ∧ kk.all (isStar n) = true ∧ kk.Nodup ∧ kk.length ≤ 20 ∧ isCam n cam = true := by
  unfold isSky at h
  simp only [Bool.and_eq_true, decide_eq_true_eq] at h
  obtain ⟨⟨⟨⟨h1, h2⟩, h3⟩, h4⟩, h5⟩ := h
  exact ⟨h1, h2, h3, h4, h5⟩
theorem isSky_perm {n : Int} {kk mm : List (List Int)} {cam : List Int} (h : kk.Perm mm) : isSky n kk cam = isSky n mm cam := by
  unfold isSky
  rw [h.length_eq, show kk.all (isStar n) = mm.all (isStar n) from Bool.eq_iff_iff.mpr (by rw [List.all_eq_true, List.all_eq_true]; exact ⟨fun z x hx => z x (h.mem_iff.mpr hx), fun z x hx => z x (h.mem_iff.mp hx)⟩), show decide kk.Nodup = decide mm.Nodup from decide_eq_decide.mpr h.nodup_iff]
/-- the checks of a sky -/
def spCheck (K : PySem.W.Frag) (D : Addr) : Sp := fun vs H Q E => ∃ (n : Int) (l c : Addr) (ks : Tups) (cam : List Int), vs = [.int n, .ref l, .ref c] ∧ SqL K H l (refs ks) ∧ TupsAt K H ks ∧ SqT K H c (cam.map V.int) ∧ ks.length < 64 ∧
  (isSky n (keys ks) cam = true → ∀ H', Same H H' → Q .non H') ∧ (isSky n (keys ks) cam = false → ∀ H', Same H H' → E (.ref D) none H')
def SkyS (K : PySem.W.Frag) (C : Addr) (H : Hp) (p : Addr) (n : Int) (ks : Tups) (cam : List Int) : Prop := SkyAt K C H p n (refs ks) cam ∧ TupsAt K H ks
theorem skyS_up {K : PySem.W.Frag} {C : Addr} {H H' : Hp} {p : Addr} {n : Int} {ks : Tups} {cam : List Int} (s : Same H H') (h : SkyS K C H p n ks cam) : SkyS K C H' p n ks cam := ⟨sky_up s h.1, tups_up s h.2⟩
def spInit (K : PySem.W.Frag) (C D : Addr) : Sp := fun vs H Q E => ∃ (x dx : Addr) (n : Int) (l c : Addr) (ks : Tups) (cam : List Int), vs = [.ref x, .int n, .ref l, .ref c] ∧ H x = some (.ins C dx []) ∧ SqL K H l (refs ks) ∧ TupsAt K H ks ∧ SqT K H c (cam.map V.int) ∧ ks.length < 64 ∧
  (isSky n (keys ks) cam = true → ∀ (H' : Hp) (ks' : Tups), SkyS K C H' x n ks' cam → ks'.Perm ks → Asc 10 (keys ks') → (∀ b o, H b = some o → b ≠ x → H' b = some o) → Q .non H') ∧
  (isSky n (keys ks) cam = false → ∀ H', Same H H' → E (.ref D) none H')
end Sw
namespace L2
open PySem PySem.Spec PyProof.Rows
def tTryOnly (K : PySem.W.Frag) (c : Value) (ts : Addr → Value → Option Addr → TS) (Wout : WX) (tb : WX → TS) : TS := fun D σ H => tb (wOnly K c ts Wout D) D σ H
theorem ps_try_only1 {X : Cx} {x : Str} {c : Value} {body suite : List Stmt} {b₀ : Stmt} {np pos pos' : Pos} {tb : WX → TS} {ts : Addr → Value → Option Addr → TS} {Wout : WX} (hs : X.stack = X.env :: X.outer) (hf : X.env.frame = some X.env.locals) (hc : Names X x c) (tk : Takes X Wout)
    (hb : ∀ (W : WX) (pn : List (Addr × Obj)) (xe : Value → Shared → Prop), Takes (X.tr pn xe) W → PassesOwn (model X.prog X.w) X.A X.env xe → PSs (X.tr pn xe) body (tb W))
    (hsu : ∀ (a : Addr) (oe : Obj) (cls : Value) (d : Option Addr) (pn : List (Addr × Obj)), Zc cls d oe → (∃ vs, oe.data = .fields vs) → PSs (X.suite a ((a, oe) :: pn)) (b₀ :: suite) (ts a cls d)) :
    PS X (.Try body [.ExceptHandler (some (.Name x np)) none (b₀ :: suite) pos'] [] [] pos) (tTryOnly X.K c ts Wout tb) := ps_try_only hs hf hc tk hb hsu
end L2
namespace Sw
open PySem PySem.Spec PyProof.Rows L2
theorem iteD2 {c A B : Prop} [Decidable c] (hc : c) (h : A) : if decide c = true then A else B := by
  rw [if_pos (decide_eq_true hc)]
  exact h
theorem iteD3 {c A B : Prop} [Decidable c] (hc : ¬ c) (h : B) : if decide c = true then A else B := by
  rw [if_neg (by rw [decide_eq_false hc]; decide)]
  exact h
end Sw
namespace Sw
open PySem PySem.Spec PyProof.Rows L2
theorem pickI {zs : List Int} {j : Int} {P : Int → Prop} (h : ∀ z ∈ zs, P z) (h0 : 0 ≤ j) (h1 : j < (zs.length : Int)) : ∃ z, atI (zs.map V.int) j = some (.int z) ∧ P z := by
  refine ⟨_, nthI h0 h1, ?_⟩
  unfold numI
  rw [List.getD_eq_getElem?_getD, List.getElem?_eq_getElem (by omega)]
  exact h _ (List.getElem_mem _)
/-- the drawn parts of a sky -/
def spParts (K : PySem.W.Frag) : Sp := fun vs H Q _ => ∃ (p1 : Addr) (ns : List Int) (at' most : Int), vs = [.ref p1, .int at', .int most] ∧ SqL K H p1 (ns.map V.int) ∧ (∀ n ∈ ns, Num n) ∧ 0 ≤ at' ∧ 0 ≤ most ∧ most ≤ 20 ∧ at' + 6 + 3 * most ≤ (ns.length : Int) ∧
  ∀ (H' : Hp) (t l c : Addr) (n : Int) (ks : Tups) (cam : List Int), Same H H' → SqT K H' t [.int n, .ref l, .ref c] → H l = none → H' l = some (.lst (refs ks)) → TupsAt K H' ks → SqT K H' c (cam.map V.int) →
    isSky n (keys ks) cam = true → (ks.length : Int) ≤ most → Asc 10 (keys ks) → Q (.ref t) H'
end Sw
namespace Sw
open PySem PySem.Spec PyProof.Rows L2
theorem min2I (a b : Int) : nuMin2 (.int a) (.int b) = some (.int (if b < a then b else a)) := by
  show some (if decide (b < a) = true then V.int b else V.int a) = _
  by_cases h : b < a
  · rw [decide_eq_true h, if_pos h]
    rfl
  · rw [decide_eq_false h, if_neg h]
    rfl
def rMin3I : List V → Hp → VK → Prop := fun xs H Q => ∃ a b c : Int, xs = [.int a, .int b, .int c] ∧ ∀ m : Int, m ≤ a → m ≤ b → m ≤ c → (m = a ∨ m = b ∨ m = c) → Q (.int m) H
theorem call_min3I {X : Cx} (hc : X.calm = true) : CallR X (.builtin "min") rMin3I := fun pins s σ H xs us Q I hv ⟨a, b, c, e, q⟩ => by
  refine call_min3Nu hc pins s σ H xs us Q I hv ⟨.int a, .int b, .int c, .int (if c < (if b < a then b else a) then c else (if b < a then b else a)), e, ?_, q _ ?_ ?_ ?_ ?_⟩
  · show (nuMin2 (.int a) (.int b)).bind (fun m => nuMin2 m (.int c)) = _
    rw [min2I]
    exact min2I _ _
  all_goals (repeat' split) <;> omega
end Sw
namespace Sw
open PySem PySem.Spec PyProof.Rows L2
theorem eqvAll_ints : ∀ a b : List Int, PyData.eqvAll (a.map .int) (b.map .int) = decide (a = b)
  | [], [] => rfl
  | [], _ :: _ => rfl
  | _ :: _, [] => rfl
  | x :: r, y :: q => by
    show ((x == y) && PyData.eqvAll (r.map .int) (q.map .int)) = _
    rw [eqvAll_ints r q]
    by_cases h : x = y <;> by_cases h2 : r = q <;> simp [h, h2]
theorem eqv_ti (a b : List Int) : PyData.eqv (dTI a) (dTI b) = decide (a = b) := eqvAll_ints a b
theorem any_tups (kk : List (List Int)) (k : List Int) : ((kk.map dTI).any fun z => PyData.eqv z (dTI k)) = decide (k ∈ kk) := by
  induction kk with
  | nil => rfl
  | cons q r ih =>
    rw [List.map_cons, List.any_cons, ih, eqv_ti]
    by_cases h : q = k
    · subst h
      simp
    · rw [decide_eq_false h, Bool.false_or]
      by_cases hm : k ∈ r
      · rw [decide_eq_true hm, decide_eq_true (List.mem_cons_of_mem _ hm)]
      · rw [decide_eq_false hm, decide_eq_false (fun z => (List.mem_cons.mp z).elim (fun e => h e.symm) hm)]
theorem lay_tups (kk : List (List Int)) : Lay 2 (.list (kk.map dTI)) := lay_list fun d hd => by
  obtain ⟨p, _, rfl⟩ := List.mem_map.mp hd
  exact lay_ti _
theorem refs_push (ks : Tups) (p : Addr × List Int) : refs ks ++ [V.ref p.1] = refs (ks ++ [p]) := by
  unfold refs
  rw [List.map_append]
  rfl
theorem keys_push (ks : Tups) (p : Addr × List Int) : keys (ks ++ [p]) = keys ks ++ [p.2] := by
  unfold keys
  rw [List.map_append]
  rfl
theorem tups_put {K : PySem.W.Frag} {H : Hp} {l : Addr} {xs : List V} {o : HO} {ks : Tups} (hl : H l = some (.lst xs)) (h : TupsAt K H ks) : TupsAt K (upd H l o) ks := fun p hp => sqT_lst hl (h p hp)
theorem nodup_push {α : Type} {l : List α} {x : α} (h : l.Nodup) (hx : x ∉ l) : (l ++ [x]).Nodup := by
  rw [List.nodup_append]
  refine ⟨h, by simp, fun a ha b hb => ?_⟩
  rw [List.mem_singleton.mp hb]
  intro e
  exact hx (e ▸ ha)
end Sw
namespace Sw
open PySem PySem.Spec PyProof.Rows L2
def spOfStars (K : PySem.W.Frag) (C : Addr) : Sp := fun vs H Q _ => ∃ (p : Addr) (n : Int) (st : List V) (cam : List Int), vs = [.ref p] ∧ SkyAt K C H p n st cam ∧ ∀ ts, SqT K H ts st → Q (.ref ts) H
def spOfCamera (K : PySem.W.Frag) (C : Addr) : Sp := fun vs H Q _ => ∃ (p : Addr) (n : Int) (st : List V) (cam : List Int), vs = [.ref p] ∧ SkyAt K C H p n st cam ∧ ∀ tc, SqT K H tc (cam.map V.int) → Q (.ref tc) H
def spOfPart (K : PySem.W.Frag) (C : Addr) (i : Nat) : Sp := fun vs H Q _ => ∃ (p : Addr) (n : Int) (st : List V) (cam : List Int) (z : Int), vs = [.ref p] ∧ SkyAt K C H p n st cam ∧ cam[i]? = some z ∧ Q (.int z) H
theorem cam_form {n : Int} {cam : List Int} (h : isCam n cam = true) : ∃ r b g l, cam = [r, b, g, l] ∧ 0 ≤ r ∧ r ≤ 4 ∧ 0 ≤ b ∧ b ≤ 2 ∧ 0 ≤ g ∧ g ≤ 2 ∧ 1 ≤ l ∧ l ≤ 9 ∧ b ≤ r ∧ 2 * (r + b) + 1 ≤ n := by
  match cam, h with
  | [r, b, g, l], h => exact ⟨r, b, g, l, rfl, of_decide_eq_true h⟩
/-- a sky is tried: none, or what it tells -/
def skyD (n : Int) (kk : List (List Int)) (cam : List Int) : PyData := .tuple [.int n, .tuple (kk.map dTI), dTI cam, dTI cam]
def spToldS (K : PySem.W.Frag) : Sp := fun vs H Q _ => ∃ (n : Int) (l c : Addr) (ks : Tups) (cam : List Int), vs = [.int n, .ref l, .ref c] ∧ SqL K H l (refs ks) ∧ TupsAt K H ks ∧ SqT K H c (cam.map V.int) ∧ ks.length < 64 ∧
  (isSky n (keys ks) cam = false → ∀ H', Same H H' → Q .non H') ∧
  (isSky n (keys ks) cam = true → ∀ (H' : Hp) (t : Addr) (ks' : Tups), Same H H' → ks'.Perm ks → Asc 10 (keys ks') → Dp K H' (.ref t) (skyD n (keys ks') cam) → Q (.ref t) H')
def spIsSky (K : PySem.W.Frag) : Sp := fun vs H Q _ => ∃ (n : Int) (l c : Addr) (ks : Tups) (cam : List Int), vs = [.int n, .ref l, .ref c] ∧ SqL K H l (refs ks) ∧ TupsAt K H ks ∧ SqT K H c (cam.map V.int) ∧ ks.length < 64 ∧
  ∀ H', Same H H' → Q (.bl (isSky n (keys ks) cam)) H'
def spBroken (K : PySem.W.Frag) : Sp := fun vs H Q _ => ∃ (n : Int) (l c p1 : Addr) (at' : Int) (ks : Tups) (cam ns : List Int), vs = [.int n, .ref l, .ref c, .ref p1, .int at'] ∧ H l = some (.lst (refs ks)) ∧ TupsAt K H ks ∧ SqT K H c (cam.map V.int) ∧ ks.length ≤ 6 ∧ isCam n cam = true ∧
  SqL K H p1 (ns.map V.int) ∧ (∀ z ∈ ns, Num z) ∧ 0 ≤ at' ∧ at' + 1 < (ns.length : Int) ∧
  ∀ (H' : Hp) (t l' c' : Addr) (n' : Int) (ks' : Tups) (cam' : List Int), Same H H' → SqT K H' t [.int n', .ref l', .ref c'] → SqL K H' l' (refs ks') → TupsAt K H' ks' → SqT K H' c' (cam'.map V.int) → ks'.length < 64 → Q (.ref t) H'
theorem dp_tup_tups {K : PySem.W.Frag} {H : Hp} {t : Addr} {ks : Tups} (h : SqT K H t (refs ks)) (ht : TupsAt K H ks) : Dp K H (.ref t) (.tuple ((keys ks).map dTI)) := dp_t h (dp_tups ht)
end Sw
namespace Sw
open PySem PySem.Spec PyProof.Rows L2
def rCatAM (K : PySem.W.Frag) : R2 := fun x y H Q => ∃ a b xs ys, x = .ref a ∧ y = .ref b ∧ SqT K H a xs ∧ SqT K H b ys ∧ xs.length + ys.length ≤ sizeLine ∧ nTup K H (xs ++ ys) Q
theorem op_catAM {X : Cx} : OpR X (binaryOp .Add) (rCatAM X.K) := fun pins s σ H x y v u Q I rx ry ⟨c, b, xs, ys, e1, e2, h1, h2, h5, q⟩ =>
  op_catA pins s σ H x y v u Q I rx ry ⟨c, b, xs, ys, e1, e2, h1, h2, h5, fun z => q b H (Same.refl _) (by rw [z]; exact h2), fun _ z => q c H (Same.refl _) (by rw [z, List.append_nil]; exact h1), fun _ _ p np => q.at p np⟩
end Sw
namespace Sw
open PySem PySem.Spec PyProof.Rows L2
def rSlAM (K : PySem.W.Frag) : V → Option Int → Option Int → Hp → VK → Prop := fun x lo hi H Q => ∃ a xs, x = .ref a ∧ SqT K H a xs ∧ nTup K H (cutV xs lo hi) Q
theorem sl_tupAM {X : Cx} : SlR X (rSlAM X.K) := fun pins s σ H x v vl vu lo hi sl Q I rx hs pl pu ⟨b, xs, e, h1, q⟩ =>
  sl_tupA pins s σ H x v vl vu lo hi sl Q I rx hs pl pu ⟨b, xs, e, h1, fun z => q b H (Same.refl _) (by
    unfold cutV
    rw [z.1, z.2, Nat.sub_zero, List.drop_zero, List.take_length]
    exact h1), fun _ p np => q.at p np⟩
theorem cut_ints (zs : List Int) (lo hi : Option Int) : ∃ ys : List Int, cutV (zs.map V.int) lo hi = ys.map V.int ∧ ys.length ≤ zs.length := by
  unfold cutV
  rw [← List.map_drop, ← List.map_take]
  refine ⟨_, rfl, ?_⟩
  rw [List.length_take, List.length_drop]
  omega
theorem sizeL {n : Nat} (h : n ≤ 200000) : n ≤ sizeLine := Nat.le_of_lt (sizeN h)
theorem ints_app (a b : List Int) : a.map V.int ++ b.map V.int = (a ++ b).map V.int := List.map_append.symm
theorem cut_refs (ks : Tups) (lo hi : Option Int) : ∃ ks2 : Tups, cutV (refs ks) lo hi = refs ks2 ∧ (∀ p ∈ ks2, p ∈ ks) ∧ ks2.length ≤ ks.length := by
  unfold cutV refs
  rw [← List.map_drop, ← List.map_take]
  refine ⟨_, rfl, fun p hp => List.mem_of_mem_drop (List.mem_of_mem_take hp), ?_⟩
  rw [List.length_take, List.length_drop]
  omega
theorem refs_app (a b : Tups) : refs a ++ refs b = refs (a ++ b) := List.map_append.symm
theorem tups_app {K : PySem.W.Frag} {H : Hp} {a b : Tups} (h1 : TupsAt K H a) (h2 : TupsAt K H b) : TupsAt K H (a ++ b) := fun p hp => (List.mem_append.mp hp).elim (h1 p) (h2 p)
theorem tups_one {K : PySem.W.Frag} {H : Hp} {p : Addr} {k : List Int} (h : SqT K H p (k.map V.int)) : TupsAt K H [(p, k)] := fun q hq => by
  rw [List.mem_singleton.mp hq]
  exact h
end Sw
namespace Sw
open PySem PySem.Spec PyProof.Rows L2
theorem tyx_tup {K : PySem.W.Frag} {H : Hp} {p : Addr} {xs : List V} (h : SqT K H p xs) : TyX K H (.ref p) (.type "tuple") := by
  rcases h with (h | ⟨o, h⟩) | ⟨o, its, n, h1, h2, _⟩
  · exact .base (.tup h)
  · exact .fTuple h
  · exact .kTuple h1 h2
end Sw
namespace Sw
open PySem PySem.Spec PyProof.Rows L2
theorem lay_tupt (kk : List (List Int)) : Lay 2 (.tuple (kk.map dTI)) := lay_tuple fun d hd => by
  obtain ⟨p, _, rfl⟩ := List.mem_map.mp hd
  exact lay_ti _
theorem lay_sky (n : Int) (kk : List (List Int)) (cam : List Int) : Lay 3 (skyD n kk cam) := lay_tuple fun d hd => by
  simp only [List.mem_cons, List.not_mem_nil, or_false] at hd
  rcases hd with rfl | rfl | rfl | rfl
  · exact lay_int _ _
  · exact lay_tupt kk
  · exact lay_up (lay_ti _) (by decide)
  · exact lay_up (lay_ti _) (by decide)
end Sw
namespace Sw
open PySem PySem.Spec PyProof.Rows L2
/-! ### what is seen from where -/
def keyAt (kk : List (List Int)) (j : Int) : Option (List Int) := if 0 ≤ j then kk[j.toNat]? else none
def spStarAt (K : PySem.W.Frag) (C D : Addr) : Sp := fun vs H Q E => ∃ (p : Addr) (n : Int) (ks : Tups) (cam : List Int) (j : Int), vs = [.ref p, .int j] ∧ SkyS K C H p n ks cam ∧ ks.length ≤ 20 ∧
  (∀ q, 0 ≤ j → ks[j.toNat]? = some q → Q (.ref q.1) H) ∧ ((j < 0 ∨ (ks.length : Int) ≤ j) → ∀ (d : Addr) (H' : Hp), Same H H' → H' d = some (.xd [("number", .int j)]) → E (.ref D) (some d) H')
/-- the offset of a star at an attitude, none if it is not in reach -/
def offI (n : Int) : List Int → List Int → List Int → Option (Int × Int)
  | [r, b, _, _], [x, y, q], [sx, sy, _] =>
    let u := turnX (4 - q) (near n (sx - x)) (near n (sy - y))
    let v := turnY (4 - q) (near n (sx - x)) (near n (sy - y))
    if iabs u > r + b ∨ iabs v > r + b then none else some (u, v)
  | _, _, _ => none
def spOffOf (K : PySem.W.Frag) (C : Addr) : Sp := fun vs H Q _ => ∃ (p : Addr) (n : Int) (st : List V) (r b g l x y q sx sy bb : Int) (pa ps : Addr), vs = [.ref p, .ref pa, .ref ps] ∧ SkyAt K C H p n st [r, b, g, l] ∧ 0 < n ∧ SqT K H pa [.int x, .int y, .int q] ∧ SqT K H ps [.int sx, .int sy, .int bb] ∧
  (offI n [r, b, g, l] [x, y, q] [sx, sy, bb] = none → ∀ H', Same H H' → Q .non H') ∧
  (∀ u v, offI n [r, b, g, l] [x, y, q] [sx, sy, bb] = some (u, v) → ∀ (H' : Hp) (t : Addr), Same H H' → SqT K H' t [.int u, .int v] → Q (.ref t) H')
end Sw
namespace Sw
open PySem PySem.Spec PyProof.Rows L2
/-- offset of a star by its number, with its errors -/
def spOffset (K : PySem.W.Frag) (C D F : Addr) : Sp := fun vs H Q E => ∃ (p pa : Addr) (n : Int) (ks : Tups) (cam at_ : List Int) (j : Int), vs = [.ref p, .ref pa, .int j] ∧ SkyS K C H p n ks cam ∧ isSky n (keys ks) cam = true ∧ SqT K H pa (at_.map V.int) ∧
  (isPose n at_ = false → ∀ (d : Addr) (H' : Hp), Same H H' → H' d = some (.xd [("attitude", .ref pa)]) → E (.ref D) (some d) H') ∧
  (isPose n at_ = true → (j < 0 ∨ (ks.length : Int) ≤ j) → ∀ (d : Addr) (H' : Hp), Same H H' → H' d = some (.xd [("number", .int j)]) → E (.ref F) (some d) H') ∧
  (isPose n at_ = true → ∀ k : List Int, 0 ≤ j → (keys ks)[j.toNat]? = some k →
    (offI n cam at_ k = none → ∀ H', Same H H' → Q .non H') ∧ (∀ u v, offI n cam at_ k = some (u, v) → ∀ (H' : Hp) (t : Addr), Same H H' → SqT K H' t [.int u, .int v] → Q (.ref t) H'))
theorem star_form {n : Int} {k : List Int} (h : isStar n k = true) : ∃ x y b, k = [x, y, b] ∧ 0 ≤ x ∧ x < n ∧ 0 ≤ y ∧ y < n ∧ 1 ≤ b ∧ b ≤ 9 := by
  match k, h with
  | [x, y, b], h => exact ⟨x, y, b, rfl, of_decide_eq_true h⟩
end Sw
set_option Elab.async false
set_option linter.all false
set_option maxRecDepth 100000
set_option maxHeartbeats 4000000
/-! enumerate over a tuple. -/
namespace PySem
namespace SwN
theorem stop_raise {α : Type} {M : Model} {A : Around} {E : Value → Shared → Prop} {s : Shared} {Q : α → Shared → Prop} (hA : A.handled = none)
   (q : ∀ (h' : Heap) (e : Addr), (∀ b o, s.heap.get? b = some o → h'.get? b = some o) → (∃ o, h'.get? e = some o ∧ o.cls = Value.type "StopIteration") → E (.ref e) { s with heap := h' }) :
   wpAny M A (do let e ← newExc (.type "StopIteration") []; raiseNew e : Sem α) Q E s := by
  refine wpAny_bind (wpAny_bind ?_)
  refine wpAny_newTuple ?_ (Nat.zero_le _)
  refine wpAny_bind ?_
  show wpAny _ _ (pure _) _ _ _
  refine wpAny_pure ?_
  refine wpAny_newObj_type ?_ ?_
  · refine wpAny_raiseNew_none hA (q _ _ (fun b o e => Heap.get?_push_of_some _ (Heap.get?_push_of_some _ e)) ⟨_, Heap.get?_push_size _ rfl, rfl⟩)
  · have e : ownMembersOf (Value.type "StopIteration") [] = #[] := rfl
    unfold sizeOk
    rw [e]
    show 6 ≤ sizeLine + 2
    rw [sizeLine_eq]
    decide
variable {prog : Program} {w : World} {A : Around} {E : Value → Shared → Prop} {s : Shared} {it t : Addr} {i : Nat} {items : Array Value} {x : Value}
theorem map_fields {o : Obj} {vs : Array Value} (h : o.data = Data.fields vs) (g : Array Value → Array Value) : (o.mapFields g).isFreed = false ∧ (o.mapFields g).cls = o.cls ∧ (o.mapFields g).data = Data.fields (g vs) := by
  obtain ⟨c, d, dt, sl⟩ := o
  have h' : dt = Data.fields vs := h
  subst h'
  exact ⟨rfl, rfl, rfl⟩
theorem tup_item {Q : PySem.Fin → Shared → Prop} (hi : s.heap.IsTupleIter it t i) (ht : s.heap.IsTuple t items) (hx : items[i]? = some x)
   (q : ∀ h' : Heap, h'.IsTupleIter it t (i + 1) → Heap.SameBut it s.heap h' → Q (.done (.ret x)) { s with heap := h' }) : wpAny (model prog w) A (Builtin.«tuple_iterator.__next__» { pos := [Value.ref it] }) Q E s := by
  obtain ⟨o, h1, h2, h3⟩ := hi
  obtain ⟨ot, g1, g2, n, g3⟩ := ht
  refine wpAny_bind ?_
  show wpAny _ _ (pure (Value.ref it, [])) _ _ _
  refine wpAny_pure ?_
  refine wpAny_bind (wpAny_field h1 h3 rfl ?_)
  show wpAny _ _ (if (Value.ref t == Value.none) = true then _ else _) _ _ _
  rw [if_neg (show ¬ ((Value.ref t == Value.none) = true) from by simp)]
  refine wpAny_bind (wpAny_field h1 h3 rfl ?_)
  refine wpAny_bind (wpAny_seqItems g1 g3 ?_)
  show wpAny _ _ (match items[(i : Int).toNat]? with | some x => _ | none => _) _ _ _
  rw [Int.toNat_natCast, hx]
  refine wpAny_bind (wpAny_setField h1 h3 (by show 1 < 2; omega) ?_)
  refine wpAny_pure ?_
  have m := map_fields h3 fun z => z.setIfInBounds 1 (rawInt (i + 1))
  exact q _ ⟨_, Heap.get?_update_self _ h1 m.1, m.2.1.trans h2, m.2.2⟩ ⟨Heap.size_update _ _ _, fun b hb => Heap.get?_update_ne _ _ _ _ hb⟩
theorem tup_end {Q : PySem.Fin → Shared → Prop} (hA : A.handled = none) (hi : s.heap.IsTupleIter it t i) (ht : s.heap.IsTuple t items) (hx : items[i]? = none)
   (q : ∀ (h' : Heap) (e : Addr), Heap.ExtBut it s.heap h' → (∃ o, h'.get? e = some o ∧ o.cls = Value.type "StopIteration") → E (.ref e) { s with heap := h' }) : wpAny (model prog w) A (Builtin.«tuple_iterator.__next__» { pos := [Value.ref it] }) Q E s := by
  obtain ⟨o, h1, h2, h3⟩ := hi
  obtain ⟨ot, g1, g2, n, g3⟩ := ht
  refine wpAny_bind ?_
  show wpAny _ _ (pure (Value.ref it, [])) _ _ _
  refine wpAny_pure ?_
  refine wpAny_bind (wpAny_field h1 h3 rfl ?_)
  show wpAny _ _ (if (Value.ref t == Value.none) = true then _ else _) _ _ _
  rw [if_neg (show ¬ ((Value.ref t == Value.none) = true) from by simp)]
  refine wpAny_bind (wpAny_field h1 h3 rfl ?_)
  refine wpAny_bind (wpAny_seqItems g1 g3 ?_)
  show wpAny _ _ (match items[(i : Int).toNat]? with | some x => _ | none => _) _ _ _
  rw [Int.toNat_natCast, hx]
  refine wpAny_bind (wpAny_rule ?_)
  refine wpAny_bind (wpAny_setField h1 h3 (by show 0 < 2; omega) ?_)
  refine stop_raise hA fun h' e k ne => q h' e (fun b o hb e' => k b o ?_) ne
  exact (Heap.get?_update_ne _ _ _ _ hb).trans e'
theorem next_item {Q : Value → Shared → Prop} (hi : s.heap.IsTupleIter it t i) (ht : s.heap.IsTuple t items) (hx : items[i]? = some x)
    (q : ∀ h' : Heap, h'.IsTupleIter it t (i + 1) → Heap.SameBut it s.heap h' → Q x { s with heap := h' }) : wpAny (model prog w) A (Builtin.SmallTypes.nextOf (.ref it)) Q E s := by
  have hT : s.TypeIs (.ref it) "tuple_iterator" := by
    obtain ⟨o, h1, h2, _⟩ := hi
    exact ⟨o, h1, h2⟩
  refine wpAny_bind (wpAny_callSpecial?_slotG hT PyProof.Rows.slot_tupleiter_next.toG ?_)
  refine call_meets (S := fun A R s => s.heap.IsTupleIter it t i ∧ s.heap.IsTuple t items ∧ ∀ h' : Heap, h'.IsTupleIter it t (i + 1) → Heap.SameBut it s.heap h' → R (.ok (.ret x)) { s with heap := h' })
    PyProof.Rows.slot_tupleiter_next hT PyProof.Rows.entry_tupleiter_next (PyProof.Rows.args_tupleiter_next _) ?_ ⟨hi, ht, fun h' a b => ?_⟩
  · intro prog w A R s ⟨a, b, c⟩
    exact tup_item a b hx c
  · exact wpAny_pure (q h' a b)
theorem next_end {Q : Value → Shared → Prop} (hA : A.handled = none) (hi : s.heap.IsTupleIter it t i) (ht : s.heap.IsTuple t items) (hx : items[i]? = none)
    (q : ∀ (h' : Heap) (e : Addr), Heap.ExtBut it s.heap h' → (∃ o, h'.get? e = some o ∧ o.cls = Value.type "StopIteration") → E (.ref e) { s with heap := h' }) : wpAny (model prog w) A (Builtin.SmallTypes.nextOf (.ref it)) Q E s := by
  have hT : s.TypeIs (.ref it) "tuple_iterator" := by
    obtain ⟨o, h1, h2, _⟩ := hi
    exact ⟨o, h1, h2⟩
  refine wpAny_bind (wpAny_callSpecial?_slotG hT PyProof.Rows.slot_tupleiter_next.toG ?_)
  refine call_meets (S := fun A R s => A.handled = none ∧ s.heap.IsTupleIter it t i ∧ s.heap.IsTuple t items ∧ ∀ (h' : Heap) (e : Addr), Heap.ExtBut it s.heap h' → (∃ o, h'.get? e = some o ∧ o.cls = Value.type "StopIteration") → R (.error (.ref e)) { s with heap := h' })
    PyProof.Rows.slot_tupleiter_next hT PyProof.Rows.entry_tupleiter_next (PyProof.Rows.args_tupleiter_next _) ?_ ⟨hA, hi, ht, fun h' e a b => ?_⟩
  · intro prog w A R s ⟨hA, a, b, c⟩
    exact tup_end hA a b hx c
  · exact q h' e a b
theorem draws_tuple (hA : A.handled = none) (hne : t ≠ it) (items : Array Value) : Draws prog w A it [it, t] items.size (fun i v => items[i]? = some v) fun i h => h.IsTupleIter it t i ∧ h.IsTuple t items where
  live := fun i h ⟨⟨o, h1, _⟩, _⟩ => ⟨o, h1⟩
  frame := fun i h h' ⟨⟨o, h1, h2⟩, ot, g1, g2⟩ k => ⟨⟨o, k it (by simp) o h1, h2⟩, ot, k t (by simp) ot g1, g2⟩
  item := fun i s Q E hi ⟨a, b⟩ q => next_item a b (Array.getElem?_eq_getElem hi) fun h' c d => q _ h' _ (Array.getElem?_eq_getElem hi) ⟨c, by
    obtain ⟨ot, g1, g2⟩ := b
    exact ⟨ot, (d.2 t hne).trans g1, g2⟩⟩ d
  done := fun s Q E ⟨a, b⟩ q => next_end hA a b (Array.getElem?_eq_none (Nat.le_refl _)) q
theorem new_cls (a : Value) : Builtin.SmallTypes.newClass "enumerate" { pos := [Value.type "enumerate", a] } = pure (Value.type "enumerate", [a]) := by
  unfold Builtin.SmallTypes.newClass
  simp only [sub_enumerate]
  rfl
theorem bool_app {α : Type} {M : Model} {A : Around} {E : Value → Shared → Prop} {s : Shared} {Q : α → Shared → Prop} {F : Bool → Sem α} (h : ∀ b, wpAny M A (F b) Q E s) (b : Bool) : wpAny M A (F b) Q E s := h b
theorem en {prog : Program} {w : World} {A : Around} {E : Value → Shared → Prop} {s : Shared} {t : Addr} {items : Array Value} {Q : PySem.Fin → Shared → Prop} (ht : s.heap.IsTuple t items)
   (q : Q (.done (.ret (.ref (s.heap.push { cls := Value.type "tuple_iterator", data := Data.fields #[Value.ref t, Value.int 0 0] }).objs.size))) { s with heap := (s.heap.push { cls := Value.type "tuple_iterator", data := Data.fields #[Value.ref t, Value.int 0 0] }).push { cls := Value.type "enumerate", data := Data.fields #[Value.none, Value.bool false, Value.ref s.heap.objs.size, rawInt 0, Value.none, Value.none] } }) :
   wpAny (model prog w) A (Builtin.«enumerate.__new__» { pos := [Value.type "enumerate", Value.ref t] }) Q E s := by
  refine wpAny_bind ?_
  rw [new_cls]
  refine wpAny_pure ?_
  show wpAny _ _ (ite ((Value.type "enumerate" == Value.type "enumerate") = true) (Bind.bind (Builtin.SmallTypes.calledThroughType (Value.type "enumerate")) _) _) _ _ _
  rw [if_pos (by decide)]
  refine wpAny_bind ?_
  refine wpAny_bind (wpAny_stack_any fun st => wpAny_pure ?_)
  have fin : wpAny (model prog w) A (do
      let z ← pyIter (Value.ref t)
      let r ← Builtin.SmallTypes.newRecord (Value.type "enumerate") (Builtin.SmallTypes.ownedTupleFields ++ [z, rawInt 0, Value.none, Value.none])
      ret r) Q E s := by
    refine wpAny_bind (wpAny_pyIter_tuple ht ?_)
    refine wpAny_bind ?_
    show wpAny _ _ (newObj (Value.type "enumerate") (Data.fields #[Value.none, Value.bool false, Value.ref s.heap.objs.size, rawInt 0, Value.none, Value.none])) _ _ _
    refine wpAny_newObj_type ?_ ?_
    · exact wpAny_pure q
    · show 6 ≤ sizeLine + 2
      rw [sizeLine_eq]
      decide
  show wpAny _ _ (ite _ (Bind.bind _ _) (Bind.bind _ _)) _ _ _
  have leaf : ∀ {y : Sem (Value × Option Value)} {k : Value × Option Value → Sem PySem.Fin}, y = pure (Value.ref t, none) → wpAny (model prog w) A (k (Value.ref t, none)) Q E s → wpAny (model prog w) A (y >>= k) Q E s := fun e h => by
    rw [e]
    exact wpAny_bind (wpAny_pure h)
  split <;> split <;> exact leaf rfl fin
theorem call_enum {prog : Program} {w : World} {A : Around} {E : Value → Shared → Prop} {s : Shared} {t : Addr} {items : Array Value} {Q : Value → Shared → Prop} (ht : s.heap.IsTuple t items)
    (q : ∀ h' : Heap, IsEnum h' (s.heap.objs.size + 1) s.heap.objs.size 0 Value.none → h'.IsTupleIter s.heap.objs.size t 0 → h'.objs.size = s.heap.objs.size + 2 → (∀ b o, s.heap.get? b = some o → h'.get? b = some o) → Q (.ref (s.heap.objs.size + 1)) { s with heap := h' }) :
    wpAny (model prog w) A (call (.type "enumerate") [.ref t]) Q E s := by
  refine callType_new (S := fun A R s => s.heap.IsTuple t items ∧ R (.ok (.ret (.ref (s.heap.push { cls := Value.type "tuple_iterator", data := Data.fields #[Value.ref t, Value.int 0 0] }).objs.size))) { s with heap := (s.heap.push { cls := Value.type "tuple_iterator", data := Data.fields #[Value.ref t, Value.int 0 0] }).push { cls := Value.type "enumerate", data := Data.fields #[Value.none, Value.bool false, Value.ref s.heap.objs.size, rawInt 0, Value.none, Value.none] } })
    F.called_enumerate (by decide) (F.typeCall_enumerate_1 _) (F.newCall_enumerate_1 _) (fun obj => F.args_object_init_2 _ _) F.entry_enumerate_new ?_ ?_
  · intro prog w A R s ⟨a, b⟩
    exact en a b
  · have e1 : (s.heap.push { cls := Value.type "tuple_iterator", data := Data.fields #[Value.ref t, Value.int 0 0] }).objs.size = s.heap.objs.size + 1 := Heap.size_push ..
    refine ⟨ht, ⟨_, Heap.get?_push_size _ rfl, rfl⟩, ?_⟩
    have z := q ((s.heap.push { cls := Value.type "tuple_iterator", data := Data.fields #[Value.ref t, Value.int 0 0] }).push { cls := Value.type "enumerate", data := Data.fields #[Value.none, Value.bool false, Value.ref s.heap.objs.size, rawInt 0, Value.none, Value.none] })
      (by
        show Heap.get? _ _ = _
        rw [← e1]
        exact Heap.get?_push_size _ rfl)
      ⟨_, Heap.get?_push_of_some _ (Heap.get?_push_size _ rfl), rfl, rfl⟩ (by rw [Heap.size_push, e1]) (fun b o e => Heap.get?_push_of_some _ (Heap.get?_push_of_some _ e))
    rw [← e1] at z
    exact z
end SwN
end PySem
namespace PySem
namespace SwN
theorem end_enum {prog : Program} {w : World} {A : Around} {E : Value → Shared → Prop} {s : Shared} {e it t : Addr} {i : Nat} {old : Value} {items : Array Value} {Q : Option Value → Shared → Prop} (hA : A.in1.handled = none) (he : IsEnum s.heap e it (i : Int) old) (hi : s.heap.IsTupleIter it t i) (ht : s.heap.IsTuple t items) (hl : items.size ≤ i)
    (hei : e ≠ it) (hte : t ≠ e) (hti : t ≠ it)
    (q : ∀ (h' : Heap) (tk : Nat), (∀ b o, b ≠ e → b ≠ it → s.heap.get? b = some o → h'.get? b = some o) → Q none { s with heap := h', toks := tk }) : wpAny (model prog w) A (pyNext (.ref e)) Q E s := by
  have D : Draws prog w A.in1 it [it, t] i (fun _ _ => True) (fun j h => j = i ∧ h.IsTupleIter it t i ∧ h.IsTuple t items) :=
    { live := fun j h ⟨_, ⟨o, h1, _⟩, _⟩ => ⟨o, h1⟩
      frame := fun j h h' ⟨hj, ⟨o, h1, h2⟩, ot, g1, g2⟩ k => ⟨hj, ⟨o, k it (by simp) o h1, h2⟩, ot, k t (by simp) ot g1, g2⟩
      item := fun j s Q E hj ⟨hj', _⟩ _ => absurd hj' (Nat.ne_of_lt hj)
      done := fun s Q E ⟨_, a, b⟩ q => next_end hA a b (Array.getElem?_eq_none hl) q }
  have wt := WalksT.enumerateD D e hei (by simp [hei, Ne.symm hte]) (by simp)
  refine wt.done s Q E ⟨⟨old, he⟩, rfl, hi, ht⟩ fun h' tk kp => q h' tk fun b o b1 b2 z => kp b o (by simp [b1, b2]) z
end SwN
end PySem
namespace PySem
namespace SwN
theorem self_enum {prog : Program} {w : World} {A : Around} {E : Value → Shared → Prop} {s : Shared} {e it : Addr} {i : Int} {old : Value} {Q : Value → Shared → Prop} (h : IsEnum s.heap e it i old) (q : Q (.ref e) s) : wpAny (model prog w) A (pyIter (.ref e)) Q E s := by
  have hT : s.TypeIs (.ref e) "enumerate" := ⟨_, h, rfl⟩
  refine wpAny_pyIter_slot hT F.slot_enumerate_iter ?_
  refine call_meets (S := fun A R s => R (.ok (.ret (.ref e))) s) F.slot_enumerate_iter hT F.entry_enumerate_iter (F.args_enumerate_iter_1 _) ?_ ?_
  · intro prog w A R s hR
    refine wpAny_bind ?_
    show wpAny _ _ (pure (Value.ref e, [])) _ _ _
    exact wpAny_pure (wpAny_pure hR)
  · exact ⟨"enumerate", _, hT, F.slot_enumerate_next.lookup, q⟩
end SwN
end PySem
namespace L2
open PySem PySem.Spec PyProof.Rows
/-- the turns of enumerate(t), t a tuple -/
def Itet (K : PySem.W.Frag) (a : Addr) : It where
  go := fun i H => ∃ xs x, SqT K H a xs ∧ xs[i]? = some x
  yld := fun i H v H' => ∃ T x, v = V.ref T ∧ H T = none ∧ H' = upd H T (.tup [.int i, x]) ∧ ∀ xs, SqT K H a xs → xs[i]? = some x
  stop := fun i H => ∃ xs, SqT K H a xs ∧ xs.length ≤ i
def iEnumT (K : PySem.W.Frag) (ta : TE) : TI := fun σ H R => ta σ H fun v H1 => ∃ a xs, v = .ref a ∧ SqT K H1 a xs ∧ R (Itet K a) H1
theorem vals_len {xs : List V} {us : List Value} (h : Vals xs us) : xs.length = us.length := by
  induction h with
  | nil => rfl
  | cons _ _ ih => rw [List.length_cons, List.length_cons, ih]
theorem turn_enumT {P : Program} {w : World} {K : PySem.W.Frag} {elts : List Expr} {k : Nat} {pos : Pos} {e it t : Addr} (hei : e ≠ it) (hte : t ≠ e) (hti : t ≠ it) :
    Turn P w K (.Tuple elts k pos) (Itet K t) [e, it] e (fun i h => (∃ old, IsEnum h e it (i : Int) old) ∧ h.IsTupleIter it t i) where
  mem := by simp
  obj := fun i h ⟨⟨old, h1⟩, o, g1, g2, g3⟩ b hb => by
    simp only [List.mem_cons, List.not_mem_nil, or_false] at hb
    rcases hb with rfl | rfl
    · exact ⟨_, h1, fun v z => by cases z⟩
    · exact ⟨o, g1, fun v z => by rw [g3] at z; cases z⟩
  keep := fun i h h' ⟨⟨old, h1⟩, o, g1, g2⟩ q => ⟨⟨old, q e (by simp) _ h1⟩, o, q it (by simp) o g1, g2⟩
  self := fun A i s Q E ⟨⟨old, h1⟩, h2⟩ q => PySem.SwN.self_enum h1 q
  item := by
    intro X hp hw hK hc i pins s σ H E I fok ⟨⟨old, he⟩, hi⟩ ⟨xs, x, hq, hx⟩
    subst hp hw hK
    have hA : X.A.in1.handled = none := I.ok.hd hc
    obtain ⟨its, hv, htup, hsz⟩ := I.tuple hq
    obtain ⟨u, hu, ru⟩ := Vals.get hv hx
    have wt := WalksT.enumerateD (PySem.SwN.draws_tuple (prog := X.prog) (w := X.w) hA hti its.toArray) e hei (by simp [hei, Ne.symm hte]) (by simp)
    have hin : i < its.toArray.size := by
      rw [List.size_toArray, ← vals_len hv]
      exact (List.getElem?_eq_some_iff.mp hx).1
    refine wt.item i s _ E hin ⟨⟨old, he⟩, hi, htup⟩ fun T vals h1 tk pt hT tupT mid kp => ⟨.ref T, rfl, wt.go elts k pos i T _ _ E mid fun h2 st kp2 => ?_⟩
    obtain ⟨tt, y, hy, rfl⟩ := pt
    have hyu : y = u := by
      have z : its.toArray[i]? = some u := by rw [List.getElem?_toArray]; exact hu
      rw [z] at hy
      exact (Option.some.inj hy).symm
    subst hyu
    have hTe : T ≠ e ∧ T ≠ it := ⟨mid.2.2.1, mid.2.2.2⟩
    have kp12 : ∀ b o, b ≠ e → b ≠ it → s.heap.get? b = some o → h2.get? b = some o := fun b o b1 b2 q => kp2 b o (by simp [b1, b2]) (kp b o (by simp [b1, b2]) q)
    obtain ⟨oT, t1, t2, nn, t3⟩ := tupT
    have tT : h2.get? T = some oT := kp2 T oT (by simp [hTe.1, hTe.2]) t1
    have sT : s.heap.get? T = none := by
      cases z : s.heap.get? T with
      | none => rfl
      | some o => exact absurd (Heap.lt_size z) (Nat.not_lt.mpr hT)
    obtain ⟨f1, f2, f3, f4, f5, f6⟩ := fok e (by simp)
    obtain ⟨g1, g2, g3, g4, g5, g6⟩ := fok it (by simp)
    obtain ⟨m1, a1, a2⟩ := restrict s.heap fun b => decide (b ≠ e)
    obtain ⟨m2, b1, b2⟩ := restrict h2 fun b => decide (b ≠ T)
    have I1 : Inv X pins σ H ⟨m1, s.gens, s.drawn, s.toks, s.os⟩ := I.turned (it := e) (t' := s.toks) (fun b o hb q => (a1 b (decide_eq_true hb)).trans q) f1 f2 f4 f5 f6
    have I2 : Inv X pins σ H ⟨m2, s.gens, s.drawn, tk, s.os⟩ := Inv.turned (s := ⟨m1, s.gens, s.drawn, s.toks, s.os⟩) (it := it) (t' := tk) I1 (fun b o hb q => by
      have q' : m1.get? b = some o := q
      have be : b ≠ e := fun z => by
        rw [z, a2 e (by simp)] at q'
        cases q'
      have q2 : s.heap.get? b = some o := (a1 b (decide_eq_true be)).symm.trans q'
      have bT : b ≠ T := fun z => by rw [z, sT] at q2; cases q2
      exact (b1 b (decide_eq_true bT)).trans (kp12 b o be hb q2)) g1 g2 g4 g5 g6
    have HT : H T = none := I.hok.fresh hT
    have tup : SqT X.K (upd H T (.tup [.int i, x])) T [.int i, x] := .inl (.inl upd_same)
    have I3 : Inv X pins σ (upd H T (.tup [.int i, x])) ⟨h2, s.gens, s.drawn, tk, s.os⟩ := Inv.laidN (s := ⟨m2, s.gens, s.drawn, tk, s.os⟩) (t' := tk) I2 (fun b o q => by
      have q' : m2.get? b = some o := q
      have bT : b ≠ T := fun z => by
        rw [z, b2 T (by simp)] at q'
        cases q'
      exact (b1 b (decide_eq_true bT)).symm.trans q') (b2 T (by simp)) HT ⟨(by show 2 ≤ sizeLine; decide), [_, _], .cons ⟨_, rfl⟩ (.cons ru .nil), ⟨oT, tT, t2, nn, t3⟩⟩
    refine ⟨.ref T, _, I3, rfl, ⟨T, x, rfl, HT, rfl, fun ys hys => ?_⟩, ⟨st.1, st.2.1⟩, fun b hb => ?_⟩
    · rw [I.tuple_inj hys hq]
      exact hx
    · simp only [List.mem_cons, List.not_mem_nil, or_false] at hb
      rcases hb with rfl | rfl
      · rw [upd_ne (Ne.symm hTe.1)]
        exact f1
      · rw [upd_ne (Ne.symm hTe.2)]
        exact g1
  done := by
    intro X hp hw hK hc i pins s σ H E I fok ⟨⟨old, he⟩, hi⟩ ⟨xs, hq, hl⟩
    subst hp hw hK
    have hA : X.A.in1.handled = none := I.ok.hd hc
    obtain ⟨its, hv, htup, hsz⟩ := I.tuple hq
    have wt := WalksT.enumerateD (PySem.SwN.draws_tuple (prog := X.prog) (w := X.w) hA hti its.toArray) e hei (by simp [hei, Ne.symm hte]) (by simp)
    obtain ⟨f1, f2, f3, f4, f5, f6⟩ := fok e (by simp)
    obtain ⟨g1, g2, g3, g4, g5, g6⟩ := fok it (by simp)
    have hle : its.toArray.size ≤ i := by
      rw [List.size_toArray, ← vals_len hv]
      exact hl
    refine PySem.SwN.end_enum hA he hi htup hle hei hte hti fun h2 tk kp12 => ⟨rfl, ?_⟩
    obtain ⟨m1, a1, a2⟩ := restrict s.heap fun b => decide (b ≠ e)
    have I1 : Inv X pins σ H ⟨m1, s.gens, s.drawn, s.toks, s.os⟩ := I.turned (it := e) (t' := s.toks) (fun b o hb q => (a1 b (decide_eq_true hb)).trans q) f1 f2 f4 f5 f6
    exact Inv.turned (s := ⟨m1, s.gens, s.drawn, s.toks, s.os⟩) (it := it) (t' := tk) I1 (fun b o hb q => by
      have q' : m1.get? b = some o := q
      have be : b ≠ e := fun z => by
        rw [z, a2 e (by simp)] at q'
        cases q'
      exact kp12 b o be hb ((a1 b (decide_eq_true be)).symm.trans q')) g1 g2 g4 g5 g6
/-- for i, x in enumerate(t), t a tuple -/
theorem pi_enumT {X : Cx} {e : Expr} {te : TE} {p pos tpos : Pos} {elts : List Expr} {kk : Nat} (hg : Gl X "enumerate") (hm : X.mg "enumerate" = none) (he : PE X e te)
    (hs : starEach [e] X.env = [(false, eval e X.env)] := by rfl) : PI X (.Tuple elts kk tpos) (.Call (.Name "enumerate" p) [e] [] pos) (iEnumT X.K te) := by
  refine ⟨fun pins s σ H R I h => ?_⟩
  refine wpAny_Call_Name_kw (ld_blt I hg hm (u := .type "enumerate") (by decide +kernel) ?_)
  rw [hs]
  show wpAny _ _ (callWith pos (Value.type "enumerate") [] [(false, _)] []) _ _ _
  refine callWith_type1 ?_
  show wpAny _ _ (eval e X.env) _ _ _
  refine thn (he.run pins s σ H _ I h) fun u s1 hh => ?_
  obtain ⟨v, H1, I1, rv, a, xs, ev, hq, hR⟩ := hh
  subst ev
  obtain rfl : u = Value.ref a := rv
  obtain ⟨its, hv, htup, _⟩ := I1.tuple hq
  refine PySem.SwN.call_enum htup fun h' h1 h2 h3 k => ?_
  have n1 : H1 s1.heap.objs.size = none := I1.hok.fresh (Nat.le_refl _)
  have n2 : H1 (s1.heap.objs.size + 1) = none := I1.hok.fresh (Nat.le_succ _)
  have F1 : FpOk X pins H1 s1.heap.objs.size := I1.fpOk (Nat.le_refl _) n1
  have F2 : FpOk X pins H1 (s1.heap.objs.size + 1) := I1.fpOk (Nat.le_succ _) n2
  obtain ⟨f1, f2, f3, f4, f5, f6⟩ := id F1
  have J : Inv X pins σ H1 { s1 with heap := h' } := I1.turned (it := s1.heap.objs.size) (t' := s1.toks) (fun b o _ q => k b o q) f1 f2 f4 f5 f6
  refine PySem.SwN.self_enum h1 ?_
  obtain ⟨oT, t1, _⟩ := htup
  have la : a < s1.heap.objs.size := Heap.lt_size t1
  refine ⟨s1.heap.objs.size + 1, [s1.heap.objs.size + 1, s1.heap.objs.size], _, Itet X.K a, H1, rfl, J, turn_enumT (Nat.succ_ne_self _) (Nat.ne_of_lt (Nat.lt_succ_of_lt la)) (Nat.ne_of_lt la), ⟨⟨_, h1⟩, h2⟩, fun b hb => ?_, hR⟩
  simp only [List.mem_cons, List.not_mem_nil, or_false] at hb
  rcases hb with rfl | rfl
  · exact F2
  · exact F1
end L2
set_option Elab.async false
set_option linter.all false
set_option maxRecDepth 100000
set_option maxHeartbeats 4000000
/-! What can be seen from where. -/
namespace L2
open PySem PySem.Spec PyProof.Rows
theorem walk_enumT {K : PySem.W.Frag} {a : Addr} {xs : List V} : Walk (Itet K a) xs.length (fun H => SqT K H a xs) (YPair (fun i => some (.int i)) (fun i => xs[i]?)) where
  goes := fun i H hi h => ⟨xs, xs[i], h, List.getElem?_eq_getElem hi⟩
  stops := fun H h => ⟨xs, h, Nat.le_refl _⟩
  yields := fun i H x H' hi h ⟨T, y, e1, e2, e3, e4⟩ => ⟨T, .int i, y, e1, e2, e3, rfl, e4 xs h⟩
end L2
namespace Sw
open PySem PySem.Spec PyProof.Rows L2
def seenOne (n : Int) (cam at_ k : List Int) : Option (List Int) :=
  match offI n cam at_ k, cam, k with
  | some (u, v), [_, _, g, l], [_, _, b] => if l - g ≤ b then some [u, v, b] else none
  | _, _, _ => none
/-- the stars that can be seen, by number, with offset and brightness -/
def seenI (n : Int) (cam at_ : List Int) : Nat → List (List Int) → List (Int × List Int)
  | _, [] => []
  | j, k :: r => (match seenOne n cam at_ k with | some d => [((j : Int), d)] | none => []) ++ seenI n cam at_ (j + 1) r
theorem seenI_push (n : Int) (cam at_ : List Int) : ∀ (l : List (List Int)) (j : Nat) (k : List Int), seenI n cam at_ j (l ++ [k]) = seenI n cam at_ j l ++ (match seenOne n cam at_ k with | some d => [(((j + l.length : Nat) : Int), d)] | none => [])
  | [], j, k => by
    show (match seenOne n cam at_ k with | some d => [((j : Int), d)] | none => []) ++ [] = [] ++ _
    rw [List.append_nil, List.nil_append]
    rfl
  | x :: r, j, k => by
    show (match seenOne n cam at_ x with | some d => [((j : Int), d)] | none => []) ++ seenI n cam at_ (j + 1) (r ++ [k]) = ((match seenOne n cam at_ x with | some d => [((j : Int), d)] | none => []) ++ seenI n cam at_ (j + 1) r) ++ _
    rw [seenI_push n cam at_ r (j + 1) k, List.append_assoc, show j + 1 + r.length = j + (x :: r).length by simp only [List.length_cons]; omega]
theorem seenI_lt (n : Int) (cam at_ : List Int) : ∀ (l : List (List Int)) (j : Nat), ∀ z ∈ seenI n cam at_ j l, z.1 < ((j + l.length : Nat) : Int)
  | [], j, z, h => by cases h
  | x :: r, j, z, h => by
    rcases List.mem_append.mp h with h | h
    · cases e : seenOne n cam at_ x with
      | none => rw [e] at h; cases h
      | some d =>
        rw [e] at h
        rw [List.mem_singleton.mp h]
        simp only [List.length_cons]
        omega
    · have := seenI_lt n cam at_ r (j + 1) z h
      simp only [List.length_cons]
      omega
abbrev Shown := List (Int × Addr × List Int)
def shownK (zs : Shown) : List (Key × V) := zs.map fun z => (Sum.inl z.1, V.ref z.2.1)
def shownD (zs : Shown) : List (Int × List Int) := zs.map fun z => (z.1, z.2.2)
def ShownAt (K : PySem.W.Frag) (H : Hp) (zs : Shown) : Prop := ∀ z ∈ zs, SqT K H z.2.1 (z.2.2.map V.int)
theorem put_new {v : V} {j : Int} {zs : Shown} (h : ∀ z ∈ zs, z.1 < j) : putK (shownK zs) (.inl j) v = shownK zs ++ [(.inl j, v)] := by
  unfold putK
  rw [if_neg]
  intro q
  obtain ⟨y, hy, e⟩ := List.any_eq_true.mp q
  obtain ⟨z, hz, rfl⟩ := List.mem_map.mp hy
  have e' : (Sum.inl z.1 : Key) = Sum.inl j := of_decide_eq_true e
  injection e' with e'
  have := h z hz
  omega
/-- dict of what can be seen -/
def spApp (K : PySem.W.Frag) (C : Addr) : Sp := fun vs H Q _ => ∃ (p pa : Addr) (n : Int) (ks : Tups) (cam at_ : List Int), vs = [.ref p, .ref pa] ∧ SkyS K C H p n ks cam ∧ isSky n (keys ks) cam = true ∧ SqT K H pa (at_.map V.int) ∧ isPose n at_ = true ∧
  ∀ (H' : Hp) (d : Addr) (zs : Shown), Same H H' → H' d = some (.dK (shownK zs)) → ShownAt K H' zs → shownD zs = seenI n cam at_ 0 (keys ks) → Q (.ref d) H'
end Sw
namespace Sw
open PySem PySem.Spec PyProof.Rows L2
theorem none_back {H H' : Hp} {p : Addr} (s : Same H H') (n : H' p = none) : H p = none := by
  cases e : H p with
  | none => rfl
  | some o => rw [s _ _ e] at n; cases n
theorem sqT_dk {K : PySem.W.Frag} {H : Hp} {d p : Addr} {kvs : List (Key × V)} {o : HO} {ys : List V} (hl : H d = some (.dK kvs)) (h : SqT K H p ys) : SqT K (upd H d o) p ys := by
  rcases h with (h | ⟨u, h⟩) | h
  · exact .inl (.inl (by rw [upd_ne (fun z => by rw [z, hl] at h; cases h)]; exact h))
  · exact .inl (.inr ⟨u, by rw [upd_ne (fun z => by rw [z, hl] at h; cases h)]; exact h⟩)
  · exact .inr h
theorem shown_len (zs : Shown) : (shownK zs).length = zs.length := List.length_map ..
theorem shownD_len (zs : Shown) : (shownD zs).length = zs.length := List.length_map ..
theorem seenI_len (n : Int) (cam at_ : List Int) : ∀ (l : List (List Int)) (j : Nat), (seenI n cam at_ j l).length ≤ l.length
  | [], _ => Nat.le_refl _
  | k :: r, j => by
    show ((match seenOne n cam at_ k with | some d => [((j : Int), d)] | none => []) ++ seenI n cam at_ (j + 1) r).length ≤ _
    have := seenI_len n cam at_ r (j + 1)
    rw [List.length_append]
    cases seenOne n cam at_ k with
    | none => simp only [List.length_nil, List.length_cons]; omega
    | some d => simp only [List.length_cons, List.length_nil]; omega
end Sw
namespace Sw
open PySem PySem.Spec PyProof.Rows L2
def isSure (r b g l : Int) : List Int → Bool
  | [u, v, c] => decide (iabs u ≤ r - b) && decide (iabs v ≤ r - b) && decide (l + g ≤ c)
  | _ => false
def sureI (r b g l : Int) (ds : List (Int × List Int)) : List Int := (ds.filter fun z => isSure r b g l z.2).map (·.1)
def spSure (K : PySem.W.Frag) (C : Addr) : Sp := fun vs H Q _ => ∃ (p d : Addr) (n : Int) (st : List V) (r b g l : Int) (zs : Shown), vs = [.ref p, .ref d] ∧ SkyAt K C H p n st [r, b, g, l] ∧ H d = some (.dK (shownK zs)) ∧ ShownAt K H zs ∧ (∀ z ∈ zs, z.2.2.length = 3) ∧ zs.length ≤ 64 ∧
  ∀ (H' : Hp) (D : Addr), Same H H' → H D = none → H' D = some (.lst ((sureI r b g l (shownD zs)).map V.int)) → Q (.ref D) H'
end Sw
namespace Sw
open PySem PySem.Spec PyProof.Rows L2
def sureC (cam : List Int) (ds : List (Int × List Int)) : List Int :=
  match cam with
  | [r, b, g, l] => sureI r b g l ds
  | _ => []
theorem seenOne_three {n : Int} {cam at_ k d : List Int} (h : seenOne n cam at_ k = some d) : d.length = 3 := by
  unfold seenOne at h
  split at h
  · split at h
    · cases h
      rfl
    · cases h
  · cases h
theorem seenI_three (n : Int) (cam at_ : List Int) : ∀ (l : List (List Int)) (j : Nat), ∀ z ∈ seenI n cam at_ j l, z.2.length = 3
  | [], j, z, h => by cases h
  | x :: r, j, z, h => by
    rcases List.mem_append.mp h with h | h
    · cases e : seenOne n cam at_ x with
      | none => rw [e] at h; cases h
      | some d =>
        rw [e] at h
        rw [List.mem_singleton.mp h]
        exact seenOne_three e
    · exact seenI_three n cam at_ r (j + 1) z h
def seenN (n : Int) (cam at_ : List Int) (kk : List (List Int)) : List Int := (seenI n cam at_ 0 kk).map (·.1)
def sureN (n : Int) (cam at_ : List Int) (kk : List (List Int)) : List Int := sureC cam (seenI n cam at_ 0 kk)
/-- numbers of stars, told at an attitude, with its error -/
def spNumsOf (K : PySem.W.Frag) (C D : Addr) (f : Int → List Int → List Int → List (List Int) → List Int) : Sp := fun vs H Q E => ∃ (p pa : Addr) (n : Int) (ks : Tups) (cam at_ : List Int), vs = [.ref p, .ref pa] ∧ SkyS K C H p n ks cam ∧ isSky n (keys ks) cam = true ∧ SqT K H pa (at_.map V.int) ∧
  (isPose n at_ = false → ∀ (d : Addr) (H' : Hp), Same H H' → H' d = some (.xd [("attitude", .ref pa)]) → E (.ref D) (some d) H') ∧
  (isPose n at_ = true → ∀ (H' : Hp) (l : Addr), Same H H' → H l = none → H' l = some (.lst ((f n cam at_ (keys ks)).map V.int)) → Q (.ref l) H')
end Sw
namespace Sw
open PySem PySem.Spec PyProof.Rows L2
theorem near_iff {n z t room : Int} (h4 : 4 ≤ n) (h9 : n ≤ 9) (hr : 2 * room + 1 ≤ n) (t0 : -room ≤ t) (t1 : t ≤ room) : (t - z) % n = 0 ↔ near n z = t := by
  unfold near
  rcases side_cases h4 h9 with rfl | rfl | rfl | rfl | rfl | rfl <;> omega
theorem turn_back {q a b : Int} (q0 : 0 ≤ q) (q3 : q ≤ 3) : turnX (4 - q) (turnX q a b) (turnY q a b) = a ∧ turnY (4 - q) (turnX q a b) (turnY q a b) = b := by
  rcases quarter_cases q0 q3 with rfl | rfl | rfl | rfl
  · exact ⟨rfl, rfl⟩
  · exact ⟨show a = a from rfl, show - -b = b by omega⟩
  · exact ⟨show - -a = a by omega, show - -b = b by omega⟩
  · exact ⟨show - -a = a by omega, show b = b from rfl⟩
theorem turn_back2 {q a b : Int} (q0 : 0 ≤ q) (q3 : q ≤ 3) : turnX q (turnX (4 - q) a b) (turnY (4 - q) a b) = a ∧ turnY q (turnX (4 - q) a b) (turnY (4 - q) a b) = b := by
  rcases quarter_cases q0 q3 with rfl | rfl | rfl | rfl
  · exact ⟨rfl, rfl⟩
  · exact ⟨show - -a = a by omega, show b = b from rfl⟩
  · exact ⟨show - -a = a by omega, show - -b = b by omega⟩
  · exact ⟨show a = a from rfl, show - -b = b by omega⟩
theorem turn_bd {q a b room : Int} (q0 : 0 ≤ q) (q3 : q ≤ 3) (a0 : -room ≤ a) (a1 : a ≤ room) (b0 : -room ≤ b) (b1 : b ≤ room) : (-room ≤ turnX q a b ∧ turnX q a b ≤ room) ∧ (-room ≤ turnY q a b ∧ turnY q a b ≤ room) := by
  rcases quarter_cases q0 q3 with rfl | rfl | rfl | rfl
  · exact ⟨⟨a0, a1⟩, b0, b1⟩
  · exact ⟨⟨show -room ≤ -b by omega, show -b ≤ room by omega⟩, a0, a1⟩
  · exact ⟨⟨show -room ≤ -a by omega, show -a ≤ room by omega⟩, show -room ≤ -b by omega, show -b ≤ room by omega⟩
  · exact ⟨⟨b0, b1⟩, show -room ≤ -a by omega, show -a ≤ room by omega⟩
theorem off_some {n r b g l x y q sx sy bb u v : Int} (h : offI n [r, b, g, l] [x, y, q] [sx, sy, bb] = some (u, v)) : (-(r + b) ≤ u ∧ u ≤ r + b) ∧ (-(r + b) ≤ v ∧ v ≤ r + b) := by
  unfold offI at h
  simp only at h
  split at h
  · cases h
  · rename_i hh
    cases h
    unfold iabs at hh
    constructor <;> constructor <;> (repeat' split at hh) <;> omega
theorem off_iff {n r b g l x y q sx sy bb dx dy : Int} (h4 : 4 ≤ n) (h9 : n ≤ 9) (hr : 2 * (r + b) + 1 ≤ n) (q0 : 0 ≤ q) (q3 : q ≤ 3) (a0 : -(r + b) ≤ dx) (a1 : dx ≤ r + b) (b0 : -(r + b) ≤ dy) (b1 : dy ≤ r + b) :
    ((x + turnX q dx dy - sx) % n = 0 ∧ (y + turnY q dx dy - sy) % n = 0) ↔ offI n [r, b, g, l] [x, y, q] [sx, sy, bb] = some (dx, dy) := by
  obtain ⟨⟨c0, c1⟩, d0, d1⟩ := turn_bd q0 q3 a0 a1 b0 b1
  rw [show x + turnX q dx dy - sx = turnX q dx dy - (sx - x) by omega, show y + turnY q dx dy - sy = turnY q dx dy - (sy - y) by omega, near_iff h4 h9 hr c0 c1, near_iff h4 h9 hr d0 d1]
  constructor
  · rintro ⟨e1, e2⟩
    unfold offI
    simp only
    rw [e1, e2, (turn_back q0 q3).1, (turn_back q0 q3).2, if_neg]
    unfold iabs
    intro z
    (repeat' split at z) <;> omega
  · intro h
    unfold offI at h
    simp only at h
    split at h
    · cases h
    · have h' := Option.some.inj h
      injection h' with e1 e2
      rw [← e1, ← e2]
      exact ⟨(turn_back2 q0 q3).1.symm, (turn_back2 q0 q3).2.symm⟩
end Sw
namespace Sw
open PySem PySem.Spec PyProof.Rows L2
def PartsAt (K : PySem.W.Frag) (H : Hp) (t : Addr) (n : Int) (ks : Tups) (cam : List Int) : Prop := ∃ l c : Addr, SqT K H t [.int n, .ref l, .ref c] ∧ SqL K H l (refs ks) ∧ TupsAt K H ks ∧ SqT K H c (cam.map V.int)
theorem parts_up {K : PySem.W.Frag} {H H' : Hp} {t : Addr} {n : Int} {ks : Tups} {cam : List Int} (s : Same H H') (h : PartsAt K H t n ks cam) : PartsAt K H' t n ks cam := by
  obtain ⟨l, c, h1, h2, h3, h4⟩ := h
  exact ⟨l, c, sqT_up s h1, s.seq h2, tups_up s h3, sqT_up s h4⟩
/-- the law's own way to an offset -/
def spLOff (K : PySem.W.Frag) : Sp := fun vs H Q _ => ∃ (pp pa ps : Addr) (n : Int) (ks : Tups) (r b g l x y q sx sy bb : Int), vs = [.ref pp, .ref pa, .ref ps] ∧ PartsAt K H pp n ks [r, b, g, l] ∧ 4 ≤ n ∧ n ≤ 9 ∧ isCam n [r, b, g, l] = true ∧ SqT K H pa [.int x, .int y, .int q] ∧ 0 ≤ q ∧ q ≤ 3 ∧ SqT K H ps [.int sx, .int sy, .int bb] ∧
  (offI n [r, b, g, l] [x, y, q] [sx, sy, bb] = none → ∀ H', Same H H' → Q .non H') ∧
  (∀ u v, offI n [r, b, g, l] [x, y, q] [sx, sy, bb] = some (u, v) → ∀ (H' : Hp) (t : Addr), Same H H' → SqT K H' t [.int u, .int v] → Q (.ref t) H')
end Sw
namespace Sw
open PySem PySem.Spec PyProof.Rows L2
/-- is a star within so much, and bright enough -/
def inOne (n : Int) (cam at_ : List Int) (room least : Int) (k : List Int) : Bool :=
  match offI n cam at_ k, k with
  | some (u, v), [_, _, b] => decide (iabs u ≤ room) && decide (iabs v ≤ room) && decide (least ≤ b)
  | _, _ => false
def inI (n : Int) (cam at_ : List Int) (room least : Int) : Nat → List (List Int) → List Int
  | _, [] => []
  | j, k :: r => (if inOne n cam at_ room least k then [(j : Int)] else []) ++ inI n cam at_ room least (j + 1) r
theorem inI_push (n : Int) (cam at_ : List Int) (room least : Int) : ∀ (l : List (List Int)) (j : Nat) (k : List Int), inI n cam at_ room least j (l ++ [k]) = inI n cam at_ room least j l ++ (if inOne n cam at_ room least k then [((j + l.length : Nat) : Int)] else [])
  | [], j, k => by
    show (if inOne n cam at_ room least k then [(j : Int)] else []) ++ [] = [] ++ _
    rw [List.append_nil, List.nil_append]
    rfl
  | x :: r, j, k => by
    show (if inOne n cam at_ room least x then [(j : Int)] else []) ++ inI n cam at_ room least (j + 1) (r ++ [k]) = ((if inOne n cam at_ room least x then [(j : Int)] else []) ++ inI n cam at_ room least (j + 1) r) ++ _
    rw [inI_push n cam at_ room least r (j + 1) k, List.append_assoc, show j + 1 + r.length = j + (x :: r).length by simp only [List.length_cons]; omega]
def spInside (K : PySem.W.Frag) : Sp := fun vs H Q _ => ∃ (pp pa : Addr) (n : Int) (ks : Tups) (cam at_ : List Int) (room least : Int), vs = [.ref pp, .ref pa, .int room, .int least] ∧ PartsAt K H pp n ks cam ∧ isSky n (keys ks) cam = true ∧ SqT K H pa (at_.map V.int) ∧ isPose n at_ = true ∧
  ∀ (H' : Hp) (l : Addr), Same H H' → H' l = some (.lst ((inI n cam at_ room least 0 (keys ks)).map V.int)) → Q (.ref l) H'
end Sw
namespace Sw
open PySem PySem.Spec PyProof.Rows L2
theorem inI_len (n : Int) (cam at_ : List Int) (room least : Int) : ∀ (l : List (List Int)) (j : Nat), (inI n cam at_ room least j l).length ≤ l.length
  | [], _ => Nat.le_refl _
  | k :: r, j => by
    show ((if inOne n cam at_ room least k then [(j : Int)] else []) ++ inI n cam at_ room least (j + 1) r).length ≤ _
    have := inI_len n cam at_ room least r (j + 1)
    rw [List.length_append]
    split <;> simp only [List.length_cons, List.length_nil] <;> omega
end Sw
namespace Sw
open PySem PySem.Spec PyProof.Rows L2
def offD : Option (Int × Int) → PyData
  | some (u, v) => dTI [u, v]
  | none => .none
def toldE (n : Int) (cam at_ : List Int) (kk : List (List Int)) (j : Int) : PyData :=
  if isPose n at_ then (if j < 0 ∨ (kk.length : Int) ≤ j then .tuple [.int 2, .int j] else .tuple [.int 0, offD (offI n cam at_ (kk.getD j.toNat []))]) else .tuple [.int 1, dTI at_]
def spToldE (K : PySem.W.Frag) (C : Addr) : Sp := fun vs H Q _ => ∃ (p pa : Addr) (n : Int) (ks : Tups) (cam at_ : List Int) (j : Int), vs = [.ref p, .ref pa, .int j] ∧ SkyS K C H p n ks cam ∧ isSky n (keys ks) cam = true ∧ SqT K H pa (at_.map V.int) ∧
  ∀ (H' : Hp) (t : Addr), Same H H' → Dp K H' (.ref t) (toldE n cam at_ (keys ks) j) → Q (.ref t) H'
end Sw
set_option Elab.async false
set_option linter.all false
set_option maxRecDepth 100000
set_option maxHeartbeats 4000000
/-! Matchings as plain dicts of integers: ways that make them greater, and when none has more. -/
namespace Sw
open PySem PySem.Spec PyProof.Rows L2
abbrev MM := List (Int × Int)
def lk (m : MM) (k : Int) : Option Int := (m.find? fun z => decide (z.1 = k)).map (·.2)
theorem lk_nil (k : Int) : lk [] k = none := rfl
theorem lk_pos {z : Int × Int} {r : MM} {k : Int} (e : z.1 = k) : lk (z :: r) k = some z.2 := by simp [lk, List.find?_cons, e]
theorem lk_neg {z : Int × Int} {r : MM} {k : Int} (e : ¬ z.1 = k) : lk (z :: r) k = lk r k := by simp [lk, List.find?_cons, e]
theorem lk_some : ∀ {m : MM} {k v : Int}, lk m k = some v → (k, v) ∈ m
  | [], _, _, h => nomatch h
  | z :: r, k, v, h => by
    by_cases e : z.1 = k
    · rw [lk_pos e] at h
      have := Option.some.inj h
      rw [← e, ← this]
      exact List.mem_cons_self
    · rw [lk_neg e] at h
      exact List.mem_cons_of_mem _ (lk_some h)
theorem lk_mem : ∀ {m : MM} {k v : Int}, (m.map (·.1)).Nodup → (k, v) ∈ m → lk m k = some v
  | z :: r, k, v, hn, h => by
    rw [List.map_cons, List.nodup_cons] at hn
    rcases List.mem_cons.mp h with h | h
    · rw [← h]
      exact lk_pos rfl
    · have e : ¬ z.1 = k := fun e => hn.1 (by rw [e]; exact List.mem_map_of_mem (f := fun z : Int × Int => z.1) h)
      rw [lk_neg e]
      exact lk_mem hn.2 h
theorem lk_none {m : MM} {k : Int} (h : lk m k = none) : k ∉ m.map (·.1) := fun hk => by
  obtain ⟨z, hz, rfl⟩ := List.mem_map.mp hk
  have : ∀ {m : MM} {z : Int × Int}, z ∈ m → ∃ v, lk m z.1 = some v := by
    intro m
    induction m with
    | nil => intro z h; cases h
    | cons y r ih =>
      intro z h
      by_cases e : y.1 = z.1
      · exact ⟨_, lk_pos e⟩
      · rw [lk_neg e]
        rcases List.mem_cons.mp h with rfl | h
        · exact absurd rfl e
        · exact ih h
  obtain ⟨v, e⟩ := this hz
  rw [e] at h
  cases h
theorem lk_key {m : MM} {k v : Int} (h : lk m k = some v) : k ∈ m.map (·.1) := List.mem_map_of_mem (f := fun z : Int × Int => z.1) (lk_some h)
theorem lk_keyE {m : MM} {k : Int} (h : k ∈ m.map (·.1)) : ∃ v, lk m k = some v := by
  cases e : lk m k with
  | none => exact absurd h (lk_none e)
  | some v => exact ⟨v, rfl⟩
/-- the dict of it -/
def dI (m : MM) : List (Key × V) := m.map fun z => (Sum.inl z.1, V.int z.2)
theorem dI_len (m : MM) : (dI m).length = m.length := List.length_map ..
theorem inl_inj {i j : Int} (h : (Sum.inl i : Key) = Sum.inl j) : i = j := Sum.inl.inj h
theorem val_dI : ∀ (m : MM) (k : Int), valV (dI m) (.inl k) = (lk m k).map V.int
  | [], _ => rfl
  | z :: r, k => by
    by_cases e : z.1 = k
    · rw [lk_pos e]
      exact valV_pos (p := (Sum.inl z.1, V.int z.2)) (congrArg Sum.inl e)
    · rw [lk_neg e, ← val_dI r k]
      exact valV_neg (p := (Sum.inl z.1, V.int z.2)) (fun h => e (inl_inj h))
def putI (m : MM) (k v : Int) : MM := if (m.any fun z => decide (z.1 = k)) = true then m.map (fun z => if z.1 = k then (z.1, v) else z) else m ++ [(k, v)]
theorem any_dI (m : MM) (k : Int) : ((dI m).any fun kv => decide (kv.1 = (Sum.inl k : Key))) = (m.any fun z => decide (z.1 = k)) := by
  unfold dI
  rw [List.any_map]
  congr 1
  funext z
  by_cases e : z.1 = k
  · rw [decide_eq_true e]
    exact decide_eq_true (congrArg Sum.inl e)
  · rw [decide_eq_false e]
    exact decide_eq_false fun h => e (inl_inj h)
theorem put_dI (m : MM) (k v : Int) : putK (dI m) (.inl k) (.int v) = dI (putI m k v) := by
  unfold putK putI
  rw [any_dI]
  split
  · unfold dI
    rw [List.map_map, List.map_map]
    apply List.map_congr_left
    intro z _
    show (if (Sum.inl z.1 : Key) = Sum.inl k then _ else _) = _
    by_cases e : z.1 = k
    · rw [if_pos (congrArg Sum.inl e)]
      show _ = (Sum.inl (if z.1 = k then (z.1, v) else z).1, V.int (if z.1 = k then (z.1, v) else z).2)
      rw [if_pos e]
    · rw [if_neg (fun h => e (inl_inj h))]
      show _ = (Sum.inl (if z.1 = k then (z.1, v) else z).1, V.int (if z.1 = k then (z.1, v) else z).2)
      rw [if_neg e]
  · unfold dI
    rw [List.map_append]
    rfl
theorem mapInt_inj {a b : Option Int} (h : a.map V.int = b.map V.int) : a = b := by
  cases a <;> cases b <;> simp_all
theorem lk_put (m : MM) (k v j : Int) : lk (putI m k v) j = if j = k then some v else lk m j := by
  apply mapInt_inj
  rw [← val_dI, ← put_dI, valV_put, val_dI]
  by_cases e : j = k
  · rw [if_pos (congrArg Sum.inl e), if_pos e]
    rfl
  · rw [if_neg (fun h => e (inl_inj h)), if_neg e]
theorem put_keys (m : MM) (k v : Int) : (putI m k v).map (·.1) = if k ∈ m.map (·.1) then m.map (·.1) else m.map (·.1) ++ [k] := by
  unfold putI
  have e : (m.any fun z => decide (z.1 = k)) = true ↔ k ∈ m.map (·.1) := by
    rw [List.any_eq_true, List.mem_map]
    constructor
    · rintro ⟨z, hz, e⟩
      exact ⟨z, hz, of_decide_eq_true e⟩
    · rintro ⟨z, hz, e⟩
      exact ⟨z, hz, decide_eq_true e⟩
  by_cases h : k ∈ m.map (·.1)
  · rw [if_pos (e.mpr h), if_pos h, List.map_map]
    apply List.map_congr_left
    intro z _
    show (if z.1 = k then (z.1, v) else z).1 = z.1
    split <;> rfl
  · rw [if_neg (fun z => h (e.mp z)), if_neg h, List.map_append]
    rfl
theorem put_nodup {m : MM} {k v : Int} (h : (m.map (·.1)).Nodup) : ((putI m k v).map (·.1)).Nodup := by
  rw [put_keys]
  split
  · exact h
  · exact nodup_push h (by assumption)
theorem put_key {m : MM} {k v j : Int} : j ∈ (putI m k v).map (·.1) ↔ j = k ∨ j ∈ m.map (·.1) := by
  rw [put_keys]
  split
  · constructor
    · exact .inr
    · rintro (rfl | h)
      · assumption
      · exact h
  · rw [List.mem_append, List.mem_singleton]
    exact Or.comm
theorem put_new_m {m : MM} {k v : Int} (h : lk m k = none) : putI m k v = m ++ [(k, v)] := by
  unfold putI
  rw [if_neg]
  intro e
  obtain ⟨z, hz, e⟩ := List.any_eq_true.mp e
  exact lk_none h (by rw [← of_decide_eq_true e]; exact List.mem_map_of_mem (f := fun z : Int × Int => z.1) hz)
def dropI (m : MM) (k : Int) : MM := m.filter fun z => decide (z.1 ≠ k)
theorem drop_dI (m : MM) (k : Int) : dropK (dI m) (.inl k) = dI (dropI m k) := by
  unfold dropK dropI dI
  rw [List.filter_map]
  congr 1
  apply List.filter_congr
  intro z _
  show decide ((Sum.inl z.1 : Key) ≠ Sum.inl k) = decide (z.1 ≠ k)
  by_cases e : z.1 = k
  · exact (decide_eq_false (p := (Sum.inl z.1 : Key) ≠ Sum.inl k) (fun h => h (congrArg Sum.inl e))).trans (decide_eq_false (p := z.1 ≠ k) (fun h => h e)).symm
  · exact (decide_eq_true (p := (Sum.inl z.1 : Key) ≠ Sum.inl k) (fun h => e (inl_inj h))).trans (decide_eq_true (p := z.1 ≠ k) e).symm
theorem drop_nodup {m : MM} {k : Int} (h : (m.map (·.1)).Nodup) : ((dropI m k).map (·.1)).Nodup := List.Nodup.sublist (List.Sublist.map _ List.filter_sublist) h
theorem lk_drop : ∀ (m : MM) (k j : Int), lk (dropI m k) j = if j = k then none else lk m j
  | [], k, j => by split <;> rfl
  | z :: r, k, j => by
    unfold dropI
    by_cases e : z.1 = k
    · rw [List.filter_cons_of_neg (p := fun z : Int × Int => decide (z.1 ≠ k)) (by rw [decide_eq_false (p := z.1 ≠ k) (fun h => h e)]; decide)]
      show lk (dropI r k) j = _
      rw [lk_drop r k j]
      by_cases ej : j = k
      · rw [if_pos ej, if_pos ej]
      · rw [if_neg ej, if_neg ej, lk_neg (fun h => ej (h.symm.trans e))]
    · rw [List.filter_cons_of_pos (p := fun z : Int × Int => decide (z.1 ≠ k)) (decide_eq_true (p := z.1 ≠ k) e)]
      by_cases ez : z.1 = j
      · rw [lk_pos ez, if_neg (fun h => e (ez.trans h)), lk_pos ez]
      · rw [lk_neg ez]
        show lk (dropI r k) j = _
        rw [lk_drop r k j, lk_neg ez]
/-! ### matchings -/
structure Mt (P : Int → List Int) (m : MM) : Prop where
  nd : (m.map (·.1)).Nodup
  ed : ∀ k v, lk m k = some v → v ∈ P k
  inj : ∀ k j v, lk m k = some v → lk m j = some v → k = j
/-- the partners of these rows are held by them -/
def Shut (P : Int → List Int) (m : MM) (Z : List Int) : Prop := ∀ z ∈ Z, ∀ c ∈ P z, ∃ z' ∈ Z, lk m z' = some c
def has (m : MM) (k : Int) : Bool := (lk m k).isSome
theorem has_some {m : MM} {k : Int} (h : has m k = true) : ∃ v, lk m k = some v := Option.isSome_iff_exists.mp h
theorem split_len (l : List Int) (p q : Int → Bool) : (l.filter p).length = (l.filter fun x => p x && q x).length + (l.filter fun x => p x && !q x).length := by
  induction l with
  | nil => rfl
  | cons x r ih =>
    rw [List.filter_cons, List.filter_cons, List.filter_cons]
    cases p x <;> cases q x <;> simp [ih] <;> omega
theorem filter_le (l : List Int) (p q : Int → Bool) (h : ∀ x ∈ l, p x = true → q x = true) : (l.filter p).length ≤ (l.filter q).length := by
  induction l with
  | nil => exact Nat.le_refl _
  | cons x r ih =>
    have h1 := ih fun y hy => h y (List.mem_cons_of_mem _ hy)
    have h2 := h x List.mem_cons_self
    rw [List.filter_cons, List.filter_cons]
    cases hp : p x with
    | false => cases q x <;> simp at * <;> omega
    | true => rw [h2 hp]; simpa using h1
theorem map_nodup_of {l : List Int} {f : Int → Int} (hn : l.Nodup) (h : ∀ x ∈ l, ∀ y ∈ l, f x = f y → x = y) : (l.map f).Nodup := by
  induction l with
  | nil => exact List.nodup_nil
  | cons x r ih =>
    rw [List.nodup_cons] at hn
    rw [List.map_cons, List.nodup_cons]
    refine ⟨fun hm => ?_, ih hn.2 fun a ha b hb => h a (List.mem_cons_of_mem _ ha) b (List.mem_cons_of_mem _ hb)⟩
    obtain ⟨y, hy, e⟩ := List.mem_map.mp hm
    exact hn.1 (by rw [h x List.mem_cons_self y (List.mem_cons_of_mem _ hy) e.symm]; exact hy)
/-- none has more of the wanted rows -/
theorem best {P : Int → List Int} {m m' : MM} {Z W : List Int} (hW : W.Nodup) (hm : Mt P m) (hZ : Shut P m Z) (hZW : ∀ z ∈ Z, z ∈ W) (hF : ∀ r ∈ W, lk m r = none → r ∈ Z) (h' : Mt P m') :
    (W.filter (has m')).length ≤ (W.filter (has m)).length := by
  rw [split_len W (has m') (fun x => decide (x ∈ Z)), split_len W (has m) (fun x => decide (x ∈ Z))]
  refine Nat.add_le_add ?_ (filter_le _ _ _ fun x hx hp => ?_)
  · have hA : ∀ x ∈ W.filter (fun x => has m' x && decide (x ∈ Z)), (∃ v, lk m' x = some v) ∧ x ∈ Z := fun x hx => by
      obtain ⟨_, h⟩ := List.mem_filter.mp hx
      rw [Bool.and_eq_true] at h
      exact ⟨has_some h.1, of_decide_eq_true h.2⟩
    have n1 : ((W.filter fun x => has m' x && decide (x ∈ Z)).map fun x => (lk m' x).getD 0).Nodup := map_nodup_of (hW.filter _) fun x hx y hy e => by
      obtain ⟨⟨u, hu⟩, _⟩ := hA x hx
      obtain ⟨⟨v, hv⟩, _⟩ := hA y hy
      rw [hu, hv] at e
      have e' : u = v := e
      exact h'.inj x y u hu (by rw [e']; exact hv)
    have := len_le_of_sub n1 (m := (W.filter fun x => has m x && decide (x ∈ Z)).map fun x => (lk m x).getD 0) fun c hc => by
      obtain ⟨x, hx, rfl⟩ := List.mem_map.mp hc
      obtain ⟨⟨u, hu⟩, hxZ⟩ := hA x hx
      rw [hu]
      obtain ⟨z', hz', e⟩ := hZ x hxZ u (h'.ed _ _ hu)
      refine List.mem_map.mpr ⟨z', List.mem_filter.mpr ⟨hZW z' hz', ?_⟩, by rw [e]⟩
      rw [Bool.and_eq_true]
      exact ⟨by unfold has; rw [e]; rfl, decide_eq_true hz'⟩
    rw [List.length_map, List.length_map] at this
    exact this
  · rw [Bool.and_eq_true] at hp ⊢
    refine ⟨?_, hp.2⟩
    have hz : ¬ x ∈ Z := fun h => by rw [decide_eq_true h] at hp; exact nomatch hp.2
    unfold has
    cases e : lk m x with
    | none => exact absurd (hF x hx e) hz
    | some v => rfl
/-! ### ways -/
def Ch (m : MM) : MM → Prop
  | [] => True
  | [_] => True
  | x :: y :: r => lk m x.1 = some y.2 ∧ Ch m (y :: r)
/-- a way: its last step is that of the row which has no column yet -/
structure Way (P : Int → List Int) (m : MM) (start : Int) (p : MM) : Prop where
  ch : Ch m p
  ed : ∀ x ∈ p, x.2 ∈ P x.1
  cn : (p.map (·.2)).Nodup
  last : ∃ q c, p = q ++ [(start, c)]
  free : lk m start = none
theorem ch_tail {m : MM} {x : Int × Int} {r : MM} (h : Ch m (x :: r)) : Ch m r := by
  cases r with
  | nil => trivial
  | cons y r => exact h.2
/-- what a step's row holds: nothing, or the column of a later step -/
theorem ch_next {m : MM} {start : Int} : ∀ {p : MM}, Ch m p → (∃ q c, p = q ++ [(start, c)]) → ∀ x ∈ p, x.1 = start ∨ ∃ y ∈ p.tail, lk m x.1 = some y.2
  | [], _, ⟨q, c, e⟩, _, _ => by cases q <;> cases e
  | [x], _, ⟨q, c, e⟩, y, hy => by
    rw [List.mem_singleton.mp hy]
    cases q with
    | nil => rw [List.nil_append] at e; injection e with e _; left; rw [e]
    | cons a q => cases q <;> cases e
  | x :: y :: r, h, ⟨q, c, e⟩, z, hz => by
    rcases List.mem_cons.mp hz with rfl | hz
    · exact .inr ⟨y, List.mem_cons_self, h.1⟩
    · cases q with
      | nil => cases e
      | cons a q =>
        injection e with _ e
        rcases ch_next h.2 ⟨q, c, e⟩ z hz with h' | ⟨w, hw, h'⟩
        · exact .inl h'
        · exact .inr ⟨w, List.mem_cons_of_mem _ hw, h'⟩
theorem Way.tn {P : Int → List Int} {m : MM} {start : Int} {p : MM} (h : Way P m start p) : (p.map (·.1)).Nodup := by
  obtain ⟨ch, ed, cn, last, free⟩ := h
  induction p with
  | nil => exact List.nodup_nil
  | cons x r ih =>
    cases r with
    | nil => simp
    | cons y r =>
      obtain ⟨q, c, e⟩ := last
      cases q with
      | nil => cases e
      | cons a q =>
        injection e with _ e
        rw [List.map_cons, List.nodup_cons] at cn
        rw [List.map_cons, List.nodup_cons]
        refine ⟨fun hm => ?_, ih ch.2 (fun z hz => ed z (List.mem_cons_of_mem _ hz)) cn.2 ⟨q, c, e⟩⟩
        obtain ⟨z, hz, ez⟩ := List.mem_map.mp hm
        have h1 := ch.1
        rw [← ez] at h1
        rcases ch_next ch.2 ⟨q, c, e⟩ z hz with h' | ⟨w, hw, h'⟩
        · rw [h', free] at h1
          cases h1
        · rw [h'] at h1
          have ew : w.2 = y.2 := Option.some.inj h1
          have cn2 := cn.2
          rw [List.map_cons, List.nodup_cons] at cn2
          exact cn2.1 (by rw [← ew]; exact List.mem_map_of_mem (f := fun z : Int × Int => z.2) hw)
def swp (p : MM) : MM := p.map fun x => (x.2, x.1)
def appI (m p : MM) : MM := p.foldl (fun m x => putI m x.1 x.2) m
theorem lk_app : ∀ (p m : MM) (k : Int), (p.map (·.1)).Nodup → lk (appI m p) k = match lk p k with | some c => some c | none => lk m k
  | [], m, k, _ => rfl
  | x :: r, m, k, hn => by
    rw [List.map_cons, List.nodup_cons] at hn
    show lk (appI (putI m x.1 x.2) r) k = _
    rw [lk_app r _ k hn.2, lk_put]
    by_cases e : x.1 = k
    · have : lk r k = none := by
        cases h : lk r k with
        | none => rfl
        | some v => exact absurd (by rw [e]; exact lk_key h) hn.1
      rw [this, lk_pos e, if_pos e.symm]
    · rw [lk_neg e, if_neg (fun h => e h.symm)]
theorem app_nodup : ∀ (p : MM) {m : MM}, (m.map (·.1)).Nodup → ((appI m p).map (·.1)).Nodup
  | [], _, h => h
  | _ :: r, _, h => app_nodup r (put_nodup h)
theorem app_key : ∀ (p m : MM) (j : Int), j ∈ (appI m p).map (·.1) ↔ j ∈ p.map (·.1) ∨ j ∈ m.map (·.1)
  | [], m, j => by simp [appI]
  | x :: r, m, j => by
    show j ∈ (appI (putI m x.1 x.2) r).map (·.1) ↔ _
    rw [app_key r _ j, put_key, List.map_cons, List.mem_cons]
    constructor
    · rintro (h | h | h)
      · exact .inl (.inr h)
      · exact .inl (.inl h)
      · exact .inr h
    · rintro ((h | h) | h)
      · exact .inr (.inl h)
      · exact .inl h
      · exact .inr (.inr h)
/-- owners of columns -/
def Own (m o : MM) : Prop := ∀ r c, lk o c = some r ↔ lk m r = some c
/-- the matching behind a way -/
def cutM (m o : MM) : MM → MM
  | [] => m
  | x :: _ => match lk o x.2 with | some r => dropI m r | none => m
theorem cut_lk {m o : MM} (hO : Own m o) (x : Int × Int) (p : MM) (k : Int) : lk (cutM m o (x :: p)) k = if lk m k = some x.2 then none else lk m k := by
  show lk (match lk o x.2 with | some r => dropI m r | none => m) k = _
  cases e : lk o x.2 with
  | none =>
    show lk m k = _
    rw [if_neg]
    intro h
    rw [(hO k x.2).mpr h] at e
    cases e
  | some r =>
    show lk (dropI m r) k = _
    rw [lk_drop]
    have er := (hO r x.2).mp e
    by_cases ek : k = r
    · rw [if_pos ek, ek, if_pos er]
    · rw [if_neg ek, if_neg]
      intro h
      have := (hO k x.2).mpr h
      rw [e] at this
      exact ek (Option.some.inj this).symm
theorem swp_keys (p : MM) : (swp p).map (·.1) = p.map (·.2) := by
  unfold swp
  rw [List.map_map]
  rfl
theorem mem_swp {p : MM} {t c : Int} : (c, t) ∈ swp p ↔ (t, c) ∈ p := by
  unfold swp
  constructor
  · intro h
    obtain ⟨x, hx, e⟩ := List.mem_map.mp h
    injection e with e1 e2
    rw [← e1, ← e2]
    exact hx
  · intro h
    exact List.mem_map.mpr ⟨_, h, rfl⟩
/-- a step's column is owned by no one, or by the one ahead, or it is the first -/
theorem ch_prev {m : MM} : ∀ {x : Int × Int} {p : MM}, Ch m (x :: p) → ∀ y ∈ x :: p, y = x ∨ ∃ z ∈ x :: p, lk m z.1 = some y.2
  | x, [], _, y, hy => .inl (List.mem_singleton.mp hy)
  | x, w :: p, h, y, hy => by
    rcases List.mem_cons.mp hy with rfl | hy
    · exact .inl rfl
    · rcases ch_prev h.2 y hy with rfl | ⟨z, hz, e⟩
      · exact .inr ⟨x, List.mem_cons_self, h.1⟩
      · exact .inr ⟨z, List.mem_cons_of_mem _ hz, e⟩
structure Step (P : Int → List Int) (W : List Int) (m o : MM) (start : Int) (x : Int × Int) (p : MM) : Prop where
  mt : Mt P m
  own : Own m o
  on : (o.map (·.1)).Nodup
  way : Way P m start (x :: p)
  out : ∀ r, lk o x.2 = some r → r ∉ W
section
variable {P : Int → List Int} {W : List Int} {m o : MM} {start : Int} {x : Int × Int} {p : MM}
theorem Step.m1 (h : Step P W m o start x p) (k : Int) : lk (appI (cutM m o (x :: p)) (x :: p)) k = match lk (x :: p) k with | some c => some c | none => if lk m k = some x.2 then none else lk m k := by
  rw [lk_app _ _ _ h.way.tn, cut_lk h.own]
theorem Step.o1 (h : Step P W m o start x p) (c : Int) : lk (appI o (swp (x :: p))) c = match lk (swp (x :: p)) c with | some t => some t | none => lk o c := by
  rw [lk_app _ _ _ (by rw [swp_keys]; exact h.way.cn)]
theorem Step.in_p (h : Step P W m o start x p) {t c : Int} : lk (x :: p) t = some c ↔ (t, c) ∈ x :: p := ⟨lk_some, lk_mem h.way.tn⟩
theorem Step.in_s (h : Step P W m o start x p) {t c : Int} : lk (swp (x :: p)) c = some t ↔ (t, c) ∈ x :: p := ⟨fun e => mem_swp.mp (lk_some e), fun e => lk_mem (by rw [swp_keys]; exact h.way.cn) (mem_swp.mpr e)⟩
theorem Step.own' (h : Step P W m o start x p) : Own (appI (cutM m o (x :: p)) (x :: p)) (appI o (swp (x :: p))) := fun r c => by
  rw [h.m1, h.o1]
  cases e1 : lk (swp (x :: p)) c with
  | some t =>
    have ht := h.in_s.mp e1
    show some t = some r ↔ _
    constructor
    · intro e
      rw [← Option.some.inj e, h.in_p.mpr ht]
    · intro e
      cases e2 : lk (x :: p) r with
      | some c' =>
        rw [e2] at e
        have e3 : c' = c := Option.some.inj e
        rw [e3] at e2
        have := h.in_s.mpr (h.in_p.mp e2)
        rw [e1] at this
        exact this
      | none =>
        rw [e2] at e
        have e' : (if lk m r = some x.2 then none else lk m r) = some c := e
        split at e'
        · cases e'
        · rename_i hne
          rcases ch_prev h.way.ch _ ht with hx | ⟨z, hz, ez⟩
          · rw [← hx] at hne
            exact absurd e' hne
          · have := h.mt.inj _ _ _ ez e'
            rw [← this, h.in_p.mpr hz] at e2
            cases e2
  | none =>
    show lk o c = some r ↔ _
    rw [h.own r c]
    constructor
    · intro e
      have hnp : lk (x :: p) r = none := by
        cases e2 : lk (x :: p) r with
        | none => rfl
        | some c' =>
          rcases ch_next h.way.ch h.way.last _ (h.in_p.mp e2) with hs | ⟨y, hy, ey⟩
          · have hs' : r = start := hs
            rw [hs', h.way.free] at e
            cases e
          · have ey' : lk m r = some y.2 := ey
            rw [e] at ey'
            have hy' := h.in_s.mpr (show (y.1, y.2) ∈ x :: p from List.mem_cons_of_mem _ hy)
            rw [← Option.some.inj ey', e1] at hy'
            cases hy'
      rw [hnp]
      show (if lk m r = some x.2 then none else lk m r) = some c
      rw [if_neg]
      · exact e
      · intro e2
        rw [e] at e2
        have := h.in_s.mpr (show (x.1, x.2) ∈ x :: p from List.mem_cons_self)
        rw [← Option.some.inj e2, e1] at this
        cases this
    · intro e
      cases e2 : lk (x :: p) r with
      | some c' =>
        rw [e2] at e
        have e3 : c' = c := Option.some.inj e
        rw [e3] at e2
        rw [h.in_s.mpr (h.in_p.mp e2)] at e1
        cases e1
      | none =>
        rw [e2] at e
        have e' : (if lk m r = some x.2 then none else lk m r) = some c := e
        split at e'
        · cases e'
        · exact e'
theorem Step.mt' (h : Step P W m o start x p) : Mt P (appI (cutM m o (x :: p)) (x :: p)) := by
  refine ⟨app_nodup _ ?_, fun k v e => ?_, fun k j v e1 e2 => ?_⟩
  · show ((match lk o x.2 with | some r => dropI m r | none => m).map (fun z : Int × Int => z.1)).Nodup
    split
    · exact drop_nodup h.mt.nd
    · exact h.mt.nd
  · rw [h.m1] at e
    cases e2 : lk (x :: p) k with
    | some c =>
      rw [e2] at e
      rw [← Option.some.inj e]
      exact h.way.ed _ (h.in_p.mp e2)
    | none =>
      rw [e2] at e
      have e' : (if lk m k = some x.2 then none else lk m k) = some v := e
      split at e'
      · cases e'
      · exact h.mt.ed _ _ e'
  · have a := (h.own' k v).mpr e1
    have b := (h.own' j v).mpr e2
    rw [a] at b
    exact Option.some.inj b
theorem Step.start' (h : Step P W m o start x p) : ∃ c, lk (appI (cutM m o (x :: p)) (x :: p)) start = some c := by
  obtain ⟨q, c, e⟩ := h.way.last
  refine ⟨c, ?_⟩
  rw [h.m1, h.in_p.mpr (show (start, c) ∈ x :: p by rw [e]; simp)]
/-- columns stay -/
theorem Step.cols (h : Step P W m o start x p) {r c : Int} (e : lk m r = some c) : ∃ r', lk (appI (cutM m o (x :: p)) (x :: p)) r' = some c := by
  have := (h.own r c).mpr e
  cases e1 : lk (swp (x :: p)) c with
  | some t => exact ⟨t, by rw [h.m1, h.in_p.mpr (h.in_s.mp e1)]⟩
  | none => exact ⟨r, (h.own' r c).mp (by rw [h.o1, e1]; exact this)⟩
/-- wanted rows stay -/
theorem Step.rows (h : Step P W m o start x p) {r c : Int} (hr : r ∈ W) (e : lk m r = some c) : ∃ c', lk (appI (cutM m o (x :: p)) (x :: p)) r = some c' := by
  rw [h.m1]
  cases e2 : lk (x :: p) r with
  | some c' => exact ⟨c', rfl⟩
  | none =>
    refine ⟨c, ?_⟩
    show (if lk m r = some x.2 then none else lk m r) = some c
    rw [if_neg, e]
    intro e3
    exact h.out r ((h.own r x.2).mpr e3) hr
theorem Step.only (h : Step P W m o start x p) {r c : Int} (e : lk (appI (cutM m o (x :: p)) (x :: p)) r = some c) : r = start ∨ ∃ c', lk m r = some c' := by
  rw [h.m1] at e
  cases e2 : lk (x :: p) r with
  | some c' =>
    rcases ch_next h.way.ch h.way.last _ (h.in_p.mp e2) with hs | ⟨y, _, ey⟩
    · exact .inl hs
    · exact .inr ⟨_, ey⟩
  | none =>
    rw [e2] at e
    have e' : (if lk m r = some x.2 then none else lk m r) = some c := e
    split at e'
    · cases e'
    · exact .inr ⟨_, e'⟩
/-- a way does not come near rows that hold all their partners -/
theorem way_off {m : MM} {Z : List Int} (hi : ∀ k j v, lk m k = some v → lk m j = some v → k = j) (hZ : Shut P m Z) : ∀ {x : Int × Int} {p : MM}, Ch m (x :: p) → (∀ y ∈ x :: p, y.2 ∈ P y.1) → (∀ r, lk m r = some x.2 → r ∉ Z) → ∀ y ∈ x :: p, y.1 ∉ Z
  | x, [], _, ed, out, y, hy => by
    rw [List.mem_singleton.mp hy]
    intro hz
    obtain ⟨z', hz', e⟩ := hZ _ hz _ (ed x List.mem_cons_self)
    exact out z' e hz'
  | x, w :: p, ch, ed, out, y, hy => by
    have hx : x.1 ∉ Z := fun hz => by
      obtain ⟨z', hz', e⟩ := hZ _ hz _ (ed x List.mem_cons_self)
      exact out z' e hz'
    rcases List.mem_cons.mp hy with rfl | hy
    · exact hx
    · refine way_off hi hZ ch.2 (fun z hz => ed z (List.mem_cons_of_mem _ hz)) (fun r e => ?_) y hy
      rw [hi _ _ _ e ch.1]
      exact hx
theorem Step.shut (h : Step P W m o start x p) {Z : List Int} (hZ : Shut P m Z) (hZW : ∀ z ∈ Z, z ∈ W) : Shut P (appI (cutM m o (x :: p)) (x :: p)) Z := fun z hz c hc => by
  obtain ⟨z', hz', e⟩ := hZ z hz c hc
  refine ⟨z', hz', ?_⟩
  have off := way_off h.mt.inj hZ h.way.ch h.way.ed (fun r e hr => h.out r ((h.own r x.2).mpr e) (hZW r hr))
  rw [h.m1]
  have hn : lk (x :: p) z' = none := by
    cases e2 : lk (x :: p) z' with
    | none => rfl
    | some c' => exact absurd hz' (off _ (h.in_p.mp e2))
  rw [hn]
  show (if lk m z' = some x.2 then none else lk m z') = some c
  rw [if_neg, e]
  intro e3
  exact h.out z' ((h.own z' x.2).mpr e3) (hZW z' hz')
end
end Sw
set_option Elab.async false
set_option linter.all false
set_option maxRecDepth 100000
set_option maxHeartbeats 4000000
/-! Dicts: a comprehension that is assigned, one over a walk; pop of a key that may be None; a written True or False. -/
namespace L2
open PySem PySem.Spec PyProof.Rows
section
variable {X : Cx}
theorem ps_setDc {i : Nat} {y : Str} {py : Pos} {kx vx tg iter : Expr} {ifs : List Expr} {scope : Scope} {own : List (Str × Nat)} {pos spos : Pos} {wi : TI} {g : TG} {tt : TT} {tk tv : TE} (hc : X.calm = true) (hN : X.N.Nodup) (hy : X.N[i]? = some y) (hyl : X.env.scope.names.lookup y = some .local)
    (hsw : swapsWith (.DictComp kx vx [⟨tg, iter, ifs, 0⟩] scope pos) (some (.Name y py)) spos.line X.env = pure true) (hi : PI X tg iter wi) (ok : BlkOk X.N X.env.scope scope own)
    (hg : ∀ (s : Shared) (H : Hp) (C : Addr) (cl : List (Str × Addr)) (fp : List Addr), PG (X.blk s H scope (compEnvC scope cl C X.env) fp) tg g)
    (ht : ∀ (s : Shared) (H : Hp) (C : Addr) (cl : List (Str × Addr)) (fp : List Addr), PTs (X.blk s H scope (compEnvC scope cl C X.env) fp) ifs tt)
    (hk : ∀ (s : Shared) (H : Hp) (C : Addr) (cl : List (Str × Addr)) (fp : List Addr), PE (X.blk s H scope (compEnvC scope cl C X.env) fp) kx tk) (he : ∀ (s : Shared) (H : Hp) (C : Addr) (cl : List (Str × Addr)) (fp : List Addr), PE (X.blk s H scope (compEnvC scope cl C X.env) fp) vx tv)
    (hs : ∀ x, foldedSetIterable iter X.env x = pure x := by intro _; rfl) :
    PS X (.Assign [.Name y py] (.DictComp kx vx [⟨tg, iter, ifs, 0⟩] scope pos) spos) (tAsg (tDc wi g tt tk tv (own.map (·.2))) (gName i)) := by
  refine ⟨fun pins s σ H D I h => (exec_Assign_Name_used _ _ _ _ hsw).symm ▸ wpAny_bind (wpAny_standAt (wpAny_bind ?_))⟩
  show wpAny _ X.A (do let _ ← comprehension (.DictComp kx vx [⟨tg, iter, ifs, 0⟩] scope pos) scope X.env (firstIterPos [⟨tg, iter, ifs, 0⟩] pos) newDict false (eval iter X.env) (some (assign (.Name y py) X.env))) _ _ s
  have h' : tDc wi g tt tk tv (own.map (·.2)) σ H (fun x H1 => gName i x σ H1 D.nx) := h
  refine wpAny_bind (thn (dc_core (Qf := fun _ s' => SP X pins D .next s') hc hN I hi ok hg ht hk he hs h' fun L C s' m H' I' q hn f => ?_) fun _ s' hq => wpAny_pure (wpAny_pure hq))
  obtain ⟨f0, f1, f2, f3, f4, f5⟩ := f
  show wpAny _ _ (assign (.Name y py) X.env (.ref L)) _ _ _
  refine wpAny_assign_Name ((store_ok2 (v := V.ref L) I' hN hy (.inl hyl) rfl (fun s2 I2 ⟨a, sb, ha⟩ => ⟨m, hn.sameBut sb ?_, fun h3 sb3 => ⟨_, H', I2.turned (t' := s2.toks) (fun b o hb e => (sb3.2 b hb).trans e) f0 f1 f3 f4 f5, q⟩⟩) (.inr hyl)))
  rcases ha with z | z
  · exact fun e => f1 (e.trans z)
  · exact fun e => f4 y a z e.symm
theorem sw_trueD {kx vx : Expr} {gs : List Comprehension} {scope : Scope} {pos py : Pos} {y : Str} {l : Nat} {env : Env} (hk : env.scope.kind = .function) (hy : env.scope.names.lookup y = some .local) (hl : (py.line == pos.line) = true)
    (ha : (scope.names.any fun (n, k) => n == y && (k == .local || k == .cell)) = false) : swapsWith (.DictComp kx vx gs scope pos) (some (.Name y py)) l env = pure true := by
  unfold swapsWith
  simp only [show env.blockKind = .function by unfold Env.blockKind; rw [hk]; rfl, show env.kindOf y = some .local from hy, ha, Expr.pos, hl]
  rfl
/-- a dict comprehension over any walk -/
theorem dc_it {J : It} {n : Nat} {G : Hp → Prop} {Y : Nat → Hp → V → Hp → Prop} (w : Walk J n G Y) {g : TG} {tt : TT} {tk tv : TE} {vs : List Nat} {σ : St} {H1 : Hp} {D : Addr} {Qd : Hp → Prop} (Pv : Nat → Hp → Prop) (h0 : Pv 0 (upd H1 D (.dK []))) (hG : ∀ i H, i ≤ n → Pv i H → G H)
    (hs : ∀ i x H H', i < n → Pv i H → Y i H x H' → g x (wipe σ vs) H' fun σ2 H2 => wipe σ2 vs = wipe σ vs ∧ tt σ2 H2 fun b H3 =>
      if b = true then tk σ2 H3 fun y H4 => tv σ2 H4 fun z H5 => ∃ kvs k, y = kV k ∧ H5 D = some (.dK kvs) ∧ kvs.length < sizeLine ∧ Pv (i + 1) (upd H5 D (.dK (putK kvs k z))) else Pv (i + 1) H3) (hd : ∀ H, Pv n H → Qd H) :
    ∃ W : Nat → Nat → Hp → Prop, (∃ m, W 0 m (upd H1 D (.dK []))) ∧ ∀ i m H, W i m H →
      (J.stop i H ∧ Qd H) ∨ (J.go i H ∧ ∃ Nx : Hp → Prop, (∀ H', Nx H' → ∃ m', m' < m ∧ W (i + 1) m' H') ∧ ∀ x H', J.yld i H x H' → g x (wipe σ vs) H' fun σ2 H2 => wipe σ2 vs = wipe σ vs ∧ tt σ2 H2 fun b H3 =>
        if b = true then tk σ2 H3 fun y H4 => tv σ2 H4 fun z H5 => ∃ kvs k, y = kV k ∧ H5 D = some (.dK kvs) ∧ kvs.length < sizeLine ∧ Nx (upd H5 D (.dK (putK kvs k z))) else Nx H3) := by
  refine ⟨fun i m H => m + i = n ∧ Pv i H, ⟨n, Nat.add_zero n, h0⟩, ?_⟩
  rintro i m H ⟨hm, p⟩
  have q := hG i H (by omega) p
  cases m with
  | zero =>
    obtain rfl : i = n := by omega
    exact .inl ⟨w.stops H q, hd H p⟩
  | succ m =>
    have hlt : i < n := by omega
    exact .inr ⟨w.goes i H hlt q, Pv (i + 1), fun H' p' => ⟨m, Nat.lt_succ_self m, by omega, p'⟩, fun x H' y => hs i x H H' hlt p (w.yields i H x H' hlt q y)⟩
end
/-! ### d.pop(k, x), k an integer or a text or None -/
theorem pairs_none {P : Program} {w : World} : ∀ {es : List DictEntry} {vs : List (Key × Value)}, Pairs (mixKind P w) es vs → Pairs (noneKind P w) es (vs.map fun kv => (some kv.1, kv.2))
  | _, _, .nil => .nil
  | _, _, .cons h1 h2 r => .cons h1 h2 (pairs_none r)
theorem dict_none {P : Program} {w : World} {h : Heap} {a : Addr} {vs : List (Key × Value)} (d : h.DictOf (mixKind P w) a vs) : ∃ vs', h.DictOf (noneKind P w) a vs' ∧ valueAt vs' none = none := by
  obtain ⟨o, es, ep, ho, hx, hdt, hk, hp, hn⟩ := d
  refine ⟨_, ⟨o, es, ep, ho, hx, hdt, fun e he => ?_, pairs_none hp, ?_⟩, ?_⟩
  · obtain ⟨k, h1, h2⟩ := hk e he
    exact ⟨some k, h1, h2⟩
  · rw [List.map_map]
    have : (vs.map fun kv => (some kv.1 : Option Key)) = (vs.map (·.1)).map some := by rw [List.map_map]; rfl
    show (vs.map fun kv => (some kv.1 : Option Key)).Nodup
    rw [this]
    exact List.Pairwise.map _ (fun a b hab e => hab (Option.some.inj e)) hn
  · unfold valueAt
    rw [List.find?_map, Option.map_map]
    have : vs.find? ((fun kv : Option Key × Value => decide (kv.1 = none)) ∘ fun kv => (some kv.1, kv.2)) = none := by
      rw [List.find?_eq_none]
      intro x _
      show ¬ decide ((some x.1 : Option Key) = none) = true
      rw [decide_eq_false (fun z => nomatch z)]
      decide
    rw [this]
    rfl
section
variable {X : Cx} {o e f : Expr} {td ty tx : TE} {apos cpos : Pos}
def tDPopN (td ty tx : TE) : TE := fun σ H Q => td σ H fun x H1 => ∃ a, x = .ref a ∧ IsD H1 a ∧ ty σ H1 fun y H2 => tx σ H2 fun z H3 => ∃ kvs, H3 a = some (.dK kvs) ∧
  ((y = .non ∧ Q z H3) ∨ ∃ k, y = kV k ∧ (∀ v, valV kvs k = some v → Q v (upd H3 a (.dK (dropK kvs k)))) ∧ (valV kvs k = none → Q z H3))
theorem pe_dpopN (ho : PE X o td) (he : PE X e ty) (hf : PE X f tx) (m : M2 X o "pop" apos e f cpos) : PE X (.Call (.Attribute o "pop" apos) [e, f] [] cpos) (tDPopN td ty tx) := by
  refine ⟨fun pins s σ H Q I h => wpAny_Call_method m.base m.few m.line PySem.F.plainAttrs_dict PySem.F.slot_dict_pop PySem.F.type_dict_pop (thn (ho.run pins s σ H _ I h) fun u s1 ⟨x, H1, I1, rx, a, ex, d, q1⟩ => ?_)⟩
  obtain ⟨rfl, rfl⟩ : x = V.ref a ∧ u = Value.ref a := ⟨ex, by rw [ex] at rx; exact rx⟩
  obtain ⟨t1, t2, _⟩ := isD_at I1 d
  refine ⟨t1, t2, m.trees.symm ▸ Calls.callWith_builtin rfl (Calls.evalArgs_plain (Calls.spliced_cons (thn (he.run pins s1 σ H1 _ I1 q1) fun iv s2 ⟨y, H2, I2, ry, q2⟩ =>
    (Calls.spliced_cons (thn (hf.run pins s2 σ H2 _ I2 q2) fun fv s3 ⟨z, H3, I3, rz, kvs, ea, q3⟩ => (Calls.spliced_nil ?_))))))⟩
  rcases q3 with ⟨rfl, q3⟩ | ⟨k, rfl, q3, q4⟩
  · obtain rfl : iv = Value.none := ry
    obtain ⟨hz, hd, vs, rel, dd⟩ := dk_of I3.hok ea
    obtain ⟨vs', dd', hn⟩ := dict_none dd
    exact call_meetsIn PySem.F.slot_dict_pop dd.typeIs PySem.F.entry_dict_pop (PySem.F.args_dict_pop_3 _ _ _) (meets_dict_pop_default (noneKind X.prog X.w) (k := none) a rfl hd rfl fv) ⟨vs', dd', hn, ⟨z, H3, I3.tok _, rz, q3⟩⟩
  · cases l : valV kvs k with
    | some v => exact d_pop I3 ea ry l (.inr ⟨fv, rfl⟩) fun w' s4 I4 rw' => ⟨v, _, I4, rw', q3 v l⟩
    | none => exact d_popD I3 ea ry l fun s4 I4 => ⟨z, H3, I4, rz, q4 l⟩
end
end L2
namespace L2
open PySem PySem.Spec PyProof.Rows
/-! rules whose reading names K itself, for comprehensions -/
theorem ix_seqK {X : Cx} {K : PySem.W.Frag} (h : X.K = K := by rfl) : IxR X (rIx K) := h ▸ ix_seq
theorem op_in_seqK {X : Cx} {K : PySem.W.Frag} (h : X.K = K := by rfl) : OpR X (compareOp .In) (rIn K false) := h ▸ op_in_seq
theorem op_notIn_seqK {X : Cx} {K : PySem.W.Frag} (h : X.K = K := by rfl) : OpR X (compareOp .NotIn) (rIn K true) := h ▸ op_notIn_seq
theorem call_len_seqK {X : Cx} {K : PySem.W.Frag} (h : X.K = K := by rfl) : CallR X (.builtin "len") (fun xs H Q => ∃ p ys, xs = [.ref p] ∧ (SqL K H p ys ∨ SqT K H p ys) ∧ Q (.int ys.length) H) := h ▸ call_len_seq
end L2
set_option Elab.async false
set_option linter.all false
set_option maxRecDepth 100000
set_option maxHeartbeats 4000000
/-! A search for ways, step by step; promises of what makes matchings. -/
namespace Sw
open PySem PySem.Spec PyProof.Rows L2
/-- which row came to a column, in the sequence in which they came -/
def Tk (P : Int → List Int) (m : MM) (start : Int) (ts : MM) : Prop := ∀ (j : Nat) (c r : Int), ts[j]? = some (c, r) → c ∈ P r ∧ (r = start ∨ ∃ i : Nat, i < j ∧ ∃ c' r' : Int, ts[i]? = some (c', r') ∧ lk m r = some c')
def ChE (m : MM) : MM → Option Int → Prop
  | [], _ => True
  | [x], col => lk m x.1 = col
  | x :: y :: r, col => lk m x.1 = some y.2 ∧ ChE m (y :: r) col
theorem chE_ch {m : MM} : ∀ {p : MM} {col : Option Int}, ChE m p col → Ch m p
  | [], _, _ => trivial
  | [_], _, _ => trivial
  | _ :: y :: r, _, h => ⟨h.1, chE_ch (p := y :: r) h.2⟩
theorem chE_push {m : MM} {t c : Int} : ∀ {p : MM}, ChE m p (some c) → ChE m (p ++ [(t, c)]) (lk m t)
  | [], _ => rfl
  | [x], h => ⟨h, rfl⟩
  | x :: y :: r, h => ⟨h.1, chE_push (p := y :: r) h.2⟩
theorem chE_last {m : MM} : ∀ {p : MM} {col : Option Int}, p ≠ [] → ChE m p col → ∃ q x, p = q ++ [x] ∧ lk m x.1 = col
  | [], _, h, _ => absurd rfl h
  | [x], _, _, h => ⟨[], x, rfl, h⟩
  | x :: y :: r, _, _, h => by
    obtain ⟨q, z, e, hz⟩ := chE_last (p := y :: r) (fun e => nomatch e) h.2
    exact ⟨x :: q, z, by rw [e]; rfl, hz⟩
theorem getElem_keys {ts : MM} {i j : Nat} {c r r' : Int} (hn : (ts.map (·.1)).Nodup) (h1 : ts[i]? = some (c, r)) (h2 : ts[j]? = some (c, r')) : i = j := by
  obtain ⟨hi, e1⟩ := List.getElem?_eq_some_iff.mp h1
  obtain ⟨hj, e2⟩ := List.getElem?_eq_some_iff.mp h2
  have go : ∀ {i j : Nat} (hi : i < ts.length) (hj : j < ts.length), ts[i].1 = ts[j].1 → ¬ i < j := fun {i j} hi hj e hij => by
    refine List.pairwise_iff_getElem.mp hn i j (by rw [List.length_map]; exact hi) (by rw [List.length_map]; exact hj) hij ?_
    rw [List.getElem_map, List.getElem_map]
    exact e
  have a1 := go hi hj (by rw [e1, e2])
  have a2 := go hj hi (by rw [e1, e2])
  omega
/-- on the way back -/
structure Trc (P : Int → List Int) (m : MM) (start last : Int) (ts acc : MM) (col : Option Int) : Prop where
  ed : ∀ x ∈ acc, x.2 ∈ P x.1
  cn : (acc.map (·.2)).Nodup
  ch : ChE m acc col
  mem : ∀ x ∈ acc, ∃ i : Nat, ts[i]? = some (x.2, x.1)
  idx : ∀ c, col = some c → ∃ (j : Nat) (r : Int), ts[j]? = some (c, r) ∧ ∀ x ∈ acc, ∃ i : Nat, ts[i]? = some (x.2, x.1) ∧ j < i
  head : (acc = [] ∧ col = some last) ∨ ∃ t p, acc = (t, last) :: p
theorem Trc.step {P : Int → List Int} {m : MM} {start last c : Int} {ts acc : MM} (hT : Tk P m start ts) (hn : (ts.map (·.1)).Nodup) (hs : lk m start = none) (h : Trc P m start last ts acc (some c)) :
    ∃ (r : Int) (j : Nat), lk ts c = some r ∧ ts[j]? = some (c, r) ∧ Trc P m start last ts (acc ++ [(r, c)]) (lk m r) ∧ ∀ c', lk m r = some c' → ∃ (i : Nat) (r' : Int), ts[i]? = some (c', r') ∧ i < j := by
  obtain ⟨j, r, hj, hacc⟩ := h.idx c rfl
  obtain ⟨he, hr⟩ := hT j c r hj
  have below : ∀ c', lk m r = some c' → ∃ (i : Nat) (r' : Int), ts[i]? = some (c', r') ∧ i < j := fun c' e => by
    rcases hr with rfl | ⟨i, hi, c'', r', e1, e2⟩
    · rw [hs] at e
      cases e
    · rw [e] at e2
      rw [← Option.some.inj e2] at e1
      exact ⟨i, r', e1, hi⟩
  refine ⟨r, j, lk_mem hn (List.mem_of_getElem? hj), hj, ⟨fun x hx => ?_, ?_, chE_push h.ch, fun x hx => ?_, fun c' e => ?_, ?_⟩, below⟩
  · rcases List.mem_append.mp hx with hx | hx
    · exact h.ed x hx
    · rw [List.mem_singleton.mp hx]
      exact he
  · rw [List.map_append]
    refine nodup_push h.cn fun hm => ?_
    obtain ⟨x, hx, e⟩ := List.mem_map.mp hm
    obtain ⟨i, hi, hij⟩ := hacc x hx
    rw [e] at hi
    have := getElem_keys hn hi hj
    omega
  · rcases List.mem_append.mp hx with hx | hx
    · exact h.mem x hx
    · rw [List.mem_singleton.mp hx]
      exact ⟨j, hj⟩
  · obtain ⟨i, r', e1, hi⟩ := below c' e
    refine ⟨i, r', e1, fun x hx => ?_⟩
    rcases List.mem_append.mp hx with hx | hx
    · obtain ⟨k, hk, hjk⟩ := hacc x hx
      exact ⟨k, hk, by omega⟩
    · rw [List.mem_singleton.mp hx]
      exact ⟨j, hj, hi⟩
  · rcases h.head with ⟨h1, h2⟩ | ⟨t, p, h1⟩
    · rw [h1, ← Option.some.inj h2]
      exact .inr ⟨r, [], rfl⟩
    · rw [h1]
      exact .inr ⟨t, p ++ [(r, c)], rfl⟩
theorem Trc.done {P : Int → List Int} {m : MM} {start last : Int} {ts acc : MM} (hT : Tk P m start ts) (hs : lk m start = none) (h : Trc P m start last ts acc none) : ∃ t p, acc = (t, last) :: p ∧ Way P m start ((t, last) :: p) := by
  rcases h.head with ⟨_, h2⟩ | ⟨t, p, h1⟩
  · cases h2
  · refine ⟨t, p, h1, ?_⟩
    rw [← h1]
    refine ⟨chE_ch h.ch, h.ed, h.cn, ?_, hs⟩
    obtain ⟨q, x, e, hx⟩ := chE_last (by rw [h1]; exact fun z => nomatch z) h.ch
    obtain ⟨i, hi⟩ := h.mem x (by rw [e]; simp)
    rcases (hT i _ _ hi).2 with hr | ⟨_, _, c', _, _, e2⟩
    · exact ⟨q, x.2, by rw [e, ← hr]⟩
    · rw [hx] at e2
      cases e2
/-! ### the search -/
structure Bf (P : Int → List Int) (W : List Int) (m o : MM) (start : Int) (ts : MM) (qs : List Int) : Prop where
  tk : Tk P m start ts
  nd : (ts.map (·.1)).Nodup
  qe : qs = start :: ts.map fun z => (lk o z.1).getD 0
  ow : ∀ z ∈ ts, ∃ r, lk o z.1 = some r ∧ r ∈ W
  lo : ∀ z ∈ ts, 0 ≤ z.1 ∧ z.1 < 1000
theorem Bf.len {P : Int → List Int} {W : List Int} {m o : MM} {start : Int} {ts : MM} {qs : List Int} (h : Bf P W m o start ts qs) : ts.length ≤ 1000 ∧ qs.length = ts.length + 1 := by
  refine ⟨?_, by rw [h.qe, List.length_cons, List.length_map]⟩
  have n1 : ((ts.map (·.1)).map Int.toNat).Nodup := by
    rw [List.Nodup, List.pairwise_map]
    refine h.nd.imp_of_mem fun {a b} ha hb hab e => hab ?_
    obtain ⟨z, hz, rfl⟩ := List.mem_map.mp ha
    obtain ⟨y, hy, rfl⟩ := List.mem_map.mp hb
    have := h.lo z hz
    have := h.lo y hy
    omega
  have := nodup_below 1000 _ n1 fun x hx => by
    obtain ⟨a, ha, rfl⟩ := List.mem_map.mp hx
    obtain ⟨z, hz, rfl⟩ := List.mem_map.mp ha
    have := h.lo z hz
    omega
  rw [List.length_map, List.length_map] at this
  exact this
theorem tk_push {P : Int → List Int} {W : List Int} {m o : MM} {start : Int} {ts : MM} {qs : List Int} (h : Bf P W m o start ts qs) (hO : Own m o) {i : Nat} {row c : Int} (hi : qs[i]? = some row) (hc : c ∈ P row) : Tk P m start (ts ++ [(c, row)]) := fun j c' r e => by
  by_cases hj : j < ts.length
  · rw [List.getElem?_append_left hj] at e
    obtain ⟨e1, e2⟩ := h.tk j c' r e
    refine ⟨e1, e2.imp_right fun ⟨k, hk, c'', r', e3, e4⟩ => ⟨k, hk, c'', r', by rw [List.getElem?_append_left (by omega)]; exact e3, e4⟩⟩
  · rw [List.getElem?_append_right (by omega)] at e
    have hj0 : j - ts.length = 0 := by
      cases hk : j - ts.length with
      | zero => rfl
      | succ k => rw [hk] at e; cases e
    rw [hj0] at e
    have e' : (c, row) = (c', r) := Option.some.inj e
    injection e' with e1 e2
    rw [← e1, ← e2]
    refine ⟨hc, ?_⟩
    rw [h.qe] at hi
    cases i with
    | zero => exact .inl (Option.some.inj hi).symm
    | succ i =>
      rw [List.getElem?_cons_succ, List.getElem?_map] at hi
      cases ez : ts[i]? with
      | none => rw [ez] at hi; cases hi
      | some z =>
        rw [ez] at hi
        obtain ⟨r', h1, _⟩ := h.ow z (List.mem_of_getElem? ez)
        have h2 : (lk o z.1).getD 0 = row := Option.some.inj hi
        rw [h1] at h2
        have h3 : r' = row := h2
        have hl := (List.getElem?_eq_some_iff.mp ez).1
        refine .inr ⟨i, by omega, z.1, z.2, by rw [List.getElem?_append_left hl]; exact ez, (hO row z.1).mp (by rw [← h3]; exact h1)⟩
theorem Bf.push {P : Int → List Int} {W : List Int} {m o : MM} {start : Int} {ts : MM} {qs : List Int} (h : Bf P W m o start ts qs) (hO : Own m o) {i : Nat} {row c r : Int} (hi : qs[i]? = some row) (hc : c ∈ P row) (hl : 0 ≤ c ∧ c < 1000) (hn : lk ts c = none) (ho : lk o c = some r) (hr : r ∈ W) :
    Bf P W m o start (ts ++ [(c, row)]) (qs ++ [r]) := by
  refine ⟨tk_push h hO hi hc, ?_, ?_, fun z hz => ?_, fun z hz => ?_⟩
  · rw [List.map_append]
    exact nodup_push h.nd (lk_none hn)
  · rw [h.qe, List.map_append, List.cons_append, List.map_cons, List.map_nil, ho]
    rfl
  · rcases List.mem_append.mp hz with hz | hz
    · exact h.ow z hz
    · rw [List.mem_singleton.mp hz]
      exact ⟨r, ho, hr⟩
  · rcases List.mem_append.mp hz with hz | hz
    · exact h.lo z hz
    · rw [List.mem_singleton.mp hz]
      exact hl
/-- nothing is left to look at -/
theorem Bf.shut {P : Int → List Int} {W : List Int} {m o : MM} {start : Int} {ts : MM} {qs : List Int} (h : Bf P W m o start ts qs) (hO : Own m o) (hs : start ∈ W) (hd : ∀ (i : Nat) (row : Int), qs[i]? = some row → ∀ c ∈ P row, c ∈ ts.map (·.1)) :
    Shut P m qs ∧ start ∈ qs ∧ ∀ z ∈ qs, z ∈ W := by
  refine ⟨fun z hz c hc => ?_, by rw [h.qe]; exact List.mem_cons_self, fun z hz => ?_⟩
  · obtain ⟨i, hi⟩ := List.getElem?_of_mem hz
    obtain ⟨y, hy, rfl⟩ := List.mem_map.mp (hd i z hi c hc)
    obtain ⟨r, h1, h2⟩ := h.ow y hy
    refine ⟨r, ?_, (hO r y.1).mp h1⟩
    rw [h.qe]
    refine List.mem_cons_of_mem _ (List.mem_map.mpr ⟨y, hy, ?_⟩)
    rw [h1]
    rfl
  · rw [h.qe] at hz
    rcases List.mem_cons.mp hz with rfl | hz
    · exact hs
    · obtain ⟨y, hy, rfl⟩ := List.mem_map.mp hz
      obtain ⟨r, h1, h2⟩ := h.ow y hy
      rw [h1]
      exact h2
/-! ### promises -/
abbrev Prts := List (Int × Addr × List Int)
def prt (ps : Prts) (r : Int) : List Int := match ps.find? fun z => decide (z.1 = r) with
  | some z => z.2.2
  | none => []
def PrtAt (K : PySem.W.Frag) (H : Hp) (pd : Addr) (ps : Prts) : Prop := H pd = some (.dK (shownK ps)) ∧ ∀ z ∈ ps, SqL K H z.2.1 (z.2.2.map V.int)
theorem prtAt_up {K : PySem.W.Frag} {H H' : Hp} {pd : Addr} {ps : Prts} (s : Same H H') (h : PrtAt K H pd ps) : PrtAt K H' pd ps := ⟨s _ _ h.1, fun z hz => s.seq (h.2 z hz)⟩
def Small (ps : Prts) : Prop := ∀ z ∈ ps, (∀ c ∈ z.2.2, 0 ≤ c ∧ c < 1000) ∧ z.2.2.length ≤ 1000
theorem prt_small {ps : Prts} (h : Small ps) (r : Int) : (∀ c ∈ prt ps r, 0 ≤ c ∧ c < 1000) ∧ (prt ps r).length ≤ 1000 := by
  unfold prt
  cases e : ps.find? fun z => decide (z.1 = r) with
  | none => exact ⟨fun c hc => (nomatch hc), Nat.zero_le _⟩
  | some z => exact h z (List.mem_of_find?_eq_some e)
theorem val_shown (ps : Prts) (r : Int) : valV (shownK ps) (.inl r) = (ps.find? fun z => decide (z.1 = r)).map fun z => V.ref z.2.1 := by
  unfold valV shownK
  rw [List.find?_map, Option.map_map]
  congr 1
  congr 1
  funext z
  show decide ((Sum.inl z.1 : Key) = Sum.inl r) = decide (z.1 = r)
  by_cases e : z.1 = r
  · rw [decide_eq_true e]
    exact decide_eq_true (congrArg Sum.inl e)
  · rw [decide_eq_false e]
    exact decide_eq_false fun h => e (inl_inj h)
/-- what get(row, []) tells -/
theorem prt_get {K : PySem.W.Frag} {H : Hp} {pd e : Addr} {ps : Prts} (h : PrtAt K H pd ps) (he : H e = some (.lst [])) (r : Int) : ∃ q, (valV (shownK ps) (.inl r)).getD (.ref e) = .ref q ∧ SqL K H q ((prt ps r).map V.int) := by
  rw [val_shown]
  unfold prt
  cases ez : ps.find? fun z => decide (z.1 = r) with
  | none => exact ⟨e, rfl, .inl (.inl he)⟩
  | some z => exact ⟨z.2.1, rfl, h.2 z (List.mem_of_find?_eq_some ez)⟩
def dW (W : List Int) : List (Key × V) := W.map fun r => (Sum.inl r, V.bl true)
theorem val_dW (W : List Int) (r : Int) : (valV (dW W) (.inl r)).isSome = decide (r ∈ W) := by
  induction W with
  | nil => rfl
  | cons x t ih =>
    by_cases e : x = r
    · rw [show valV (dW (x :: t)) (.inl r) = some (.bl true) from valV_pos (p := (Sum.inl x, V.bl true)) (congrArg Sum.inl e), decide_eq_true (by rw [e]; exact List.mem_cons_self)]
      rfl
    · rw [show valV (dW (x :: t)) (.inl r) = valV (dW t) (.inl r) from valV_neg (p := (Sum.inl x, V.bl true)) (fun h => e (inl_inj h)), ih]
      by_cases hm : r ∈ t
      · rw [decide_eq_true hm, decide_eq_true (List.mem_cons_of_mem _ hm)]
      · rw [decide_eq_false hm, decide_eq_false (fun z => (List.mem_cons.mp z).elim (fun q => e q.symm) hm)]
def steps2 (p : MM) : List (List Int) := p.map fun x => [x.1, x.2]
def spTraced (K : PySem.W.Frag) : Sp := fun vs H Q _ => ∃ (dm dt : Addr) (m ts : MM) (P : Int → List Int) (start last : Int), vs = [.ref dm, .ref dt, .int last] ∧ H dm = some (.dK (dI m)) ∧ H dt = some (.dK (dI ts)) ∧ Tk P m start ts ∧ (ts.map (·.1)).Nodup ∧ lk m start = none ∧ last ∈ ts.map (·.1) ∧ ts.length ≤ 2000 ∧
  ∀ (H' : Hp) (l : Addr) (ks : Tups) (t : Int) (p : MM), Same H H' → H l = none → H' l = some (.lst (refs ks)) → TupsAt K H' ks → keys ks = steps2 ((t, last) :: p) → Way P m start ((t, last) :: p) → Q (.ref l) H'
def spSteps (K : PySem.W.Frag) : Sp := fun vs H Q _ => ∃ (pd dm do' ds : Addr) (ps : Prts) (m o : MM) (W : List Int) (start : Int), vs = [.ref pd, .ref dm, .ref do', .ref ds, .int start] ∧ PrtAt K H pd ps ∧ Small ps ∧ H dm = some (.dK (dI m)) ∧ H do' = some (.dK (dI o)) ∧ H ds = some (.dK (dW W)) ∧
  Mt (prt ps) m ∧ Own m o ∧ (o.map (·.1)).Nodup ∧ lk m start = none ∧ start ∈ W ∧
  (∀ (H' : Hp) (l : Addr) (R : List Int), Same H H' → H l = none → H' l = some (.lst []) → Shut (prt ps) m R → start ∈ R → (∀ z ∈ R, z ∈ W) → Q (.ref l) H') ∧
  (∀ (H' : Hp) (l : Addr) (ks : Tups) (x : Int × Int) (p : MM), Same H H' → H l = none → H' l = some (.lst (refs ks)) → TupsAt K H' ks → keys ks = steps2 (x :: p) → Step (prt ps) W m o start x p → Q (.ref l) H')
end Sw
namespace Sw
open PySem PySem.Spec PyProof.Rows L2
theorem get_dI {H : Hp} {a : Addr} {m : MM} {k : Int} {v : Option Int} (h : H a = some (.dK (dI m))) (e : lk m k = v) : DGet H a (.int k) (v.map V.int) := by
  have z : DGet H a (.int k) (valV (dI m) (.inl k)) := DGet.k (k := .inl k) h
  rw [val_dI, e] at z
  exact z
theorem get_dI1 {H : Hp} {a : Addr} {m : MM} {k v : Int} (h : H a = some (.dK (dI m))) (e : lk m k = some v) : DGet H a (.int k) (some (.int v)) := get_dI h e
theorem isD_of {H : Hp} {a : Addr} {kvs : List (Key × V)} (h : H a = some (.dK kvs)) : IsD H a := .inl ⟨_, .inl h⟩
theorem optV_map (o : Option Int) : (o.map V.int).getD .non = optV o := by cases o <;> rfl
def qOf (ps : Prts) (r : Int) (e : Addr) : Addr := match ps.find? fun z => decide (z.1 = r) with
  | some z => z.2.1
  | none => e
theorem qOf_eq (ps : Prts) (r : Int) (e : Addr) : (valV (shownK ps) (.inl r)).getD (.ref e) = .ref (qOf ps r e) := by
  rw [val_shown]
  unfold qOf
  cases ps.find? fun z => decide (z.1 = r) <;> rfl
theorem qOf_at {K : PySem.W.Frag} {H : Hp} {pd e : Addr} {ps : Prts} (h : PrtAt K H pd ps) (he : H e = some (.lst [])) (r : Int) : SqL K H (qOf ps r e) ((prt ps r).map V.int) := by
  unfold qOf prt
  cases ez : ps.find? fun z => decide (z.1 = r) with
  | none => exact .inl (.inl he)
  | some z => exact h.2 z (List.mem_of_find?_eq_some ez)
end Sw
namespace Sw
open PySem PySem.Spec PyProof.Rows L2
theorem same_unlock {H H2 : Hp} {d : Addr} {od : Obj} {u : HO} (hd : H d = some u) (S : Same (upd H d (.frz od u)) H2) : Same H (upd H2 d u) := fun q x e => by
  by_cases hq : q = d
  · subst hq
    rw [upd_same, ← hd]
    exact e
  · rw [upd_ne hq]
    exact S q x (by rw [upd_ne hq]; exact e)
theorem new_lock {H : Hp} {d D : Addr} {od : Obj} {u : HO} (nD : (upd H d (.frz od u)) D = none) : H D = none ∧ D ≠ d := by
  have hD : D ≠ d := fun e => by rw [e, upd_same] at nD; cases nD
  rw [upd_ne hD] at nD
  exact ⟨nD, hD⟩
theorem take_put {m : MM} {i : Nat} {r v : Int} (hn : (m.map (·.1)).Nodup) (hi : m[i]? = some (r, v)) : putI (m.take i) r v = m.take (i + 1) := by
  have e : m.take (i + 1) = m.take i ++ [(r, v)] := by rw [List.take_add_one, hi]; rfl
  rw [e]
  refine put_new_m ?_
  have n1 : ((m.take (i + 1)).map (·.1)).Nodup := List.Nodup.sublist (List.Sublist.map _ (List.take_sublist _ _)) hn
  rw [e, List.map_append, List.nodup_append] at n1
  cases el : lk (m.take i) r with
  | none => rfl
  | some v' => exact absurd rfl (n1.2.2 r (lk_key el) r (by simp))
theorem Mt.cn {P : Int → List Int} {m : MM} (h : Mt P m) : (m.map (·.2)).Nodup := by
  have hp := List.pairwise_map.mp h.nd
  refine List.pairwise_map.mpr (hp.imp_of_mem fun {x y} hx hy hxy e => hxy ?_)
  exact h.inj _ _ x.2 (lk_mem h.nd hx) (by rw [e]; exact lk_mem h.nd hy)
theorem own_swp {P : Int → List Int} {m : MM} (h : Mt P m) : Own m (swp m) := fun r c => by
  constructor
  · intro e
    exact lk_mem h.nd (mem_swp.mp (lk_some e))
  · intro e
    exact lk_mem (by rw [swp_keys]; exact h.cn) (mem_swp.mpr (lk_some e))
theorem own_len {m o : MM} (hn : (o.map (·.1)).Nodup) (h : Own m o) : o.length ≤ m.length := by
  have := len_le_of_sub hn (m := m.map (·.2)) fun c hc => by
    obtain ⟨r, e⟩ := lk_keyE hc
    exact List.mem_map.mpr ⟨_, lk_some ((h r c).mp e), rfl⟩
  rw [List.length_map, List.length_map] at this
  exact this
theorem mt_len {P : Int → List Int} {m m0 : MM} {W : List Int} (h : Mt P m) (ho : ∀ r c, lk m r = some c → r ∈ W ∨ ∃ c', lk m0 r = some c') : m.length ≤ W.length + m0.length := by
  have := len_le_of_sub h.nd (m := W ++ m0.map (·.1)) fun r hr => by
    obtain ⟨c, e⟩ := lk_keyE hr
    rcases ho r c e with h | ⟨c', h⟩
    · exact List.mem_append_left _ h
    · exact List.mem_append_right _ (lk_key h)
  rw [List.length_map, List.length_append, List.length_map] at this
  exact this
theorem app_push (m p : MM) (x : Int × Int) : appI m (p ++ [x]) = putI (appI m p) x.1 x.2 := by
  unfold appI
  rw [List.foldl_append]
  rfl
theorem putI_len (m : MM) (k v : Int) : (putI m k v).length ≤ m.length + 1 := by
  unfold putI
  split
  · rw [List.length_map]; omega
  · rw [List.length_append]; exact Nat.le_refl _
theorem appI_len : ∀ (p m : MM), (appI m p).length ≤ m.length + p.length
  | [], m => Nat.le_refl _
  | x :: r, m => by
    have h1 := appI_len r (putI m x.1 x.2)
    have h2 := putI_len m x.1 x.2
    show (appI (putI m x.1 x.2) r).length ≤ _
    rw [List.length_cons]
    omega
/-- what is left of a search for all wanted rows -/
structure More (P : Int → List Int) (W : List Int) (m0 g : MM) : Prop where
  mt : Mt P g
  cols : ∀ r c, lk m0 r = some c → ∃ r', lk g r' = some c
  rows : ∀ r c, r ∈ W → lk m0 r = some c → ∃ c', lk g r = some c'
  only : ∀ r c, lk g r = some c → r ∈ W ∨ ∃ c', lk m0 r = some c'
def spMore (K : PySem.W.Frag) : Sp := fun vs H Q _ => ∃ (pd wl dm : Addr) (ps : Prts) (W : List Int) (m0 : MM), vs = [.ref pd, .ref wl, .ref dm] ∧ PrtAt K H pd ps ∧ Small ps ∧ SqL K H wl (W.map V.int) ∧ W.Nodup ∧ W.length ≤ 1000 ∧ H dm = some (.dK (dI m0)) ∧ Mt (prt ps) m0 ∧ m0.length ≤ 1000 ∧
  ∀ (H' : Hp) (l : Addr) (g : MM) (Z : List Int), Same H H' → H l = none → H' l = some (.dK (dI g)) → More (prt ps) W m0 g → Shut (prt ps) g Z → (∀ z ∈ Z, z ∈ W) → (∀ r ∈ W, lk g r = none → r ∈ Z) → Q (.ref l) H'
end Sw
set_option Elab.async false
set_option linter.all false
set_option maxRecDepth 100000
set_option maxHeartbeats 4000000
/-! sorted(x), x a list or a tuple of tuples of integers of any size. -/
namespace Sw
open PySem PySem.Spec PyProof.Rows PyProof.Rows.G L2
/-- one tuple is below another one -/
def ltI : List Int → List Int → Bool
  | [], [] => false
  | [], _ :: _ => true
  | _ :: _, [] => false
  | x :: r, y :: q => decide (x < y) || (decide (x = y) && ltI r q)
theorem ltI_key : ∀ a b : List Int, (listOrd itemOrd).blt (a.map Sum.inl) (b.map Sum.inl) = ltI a b
  | [], [] => rfl
  | [], _ :: _ => rfl
  | _ :: _, [] => rfl
  | x :: r, y :: q => by
    show lexLt itemOrd (Sum.inl x :: r.map Sum.inl) (Sum.inl y :: q.map Sum.inl) = (decide (x < y) || (decide (x = y) && ltI r q))
    have ih : lexLt itemOrd (r.map Sum.inl) (q.map Sum.inl) = ltI r q := ltI_key r q
    by_cases h : x = y
    · subst h
      rw [lex_self, ih, decide_eq_true (rfl : x = x), decide_eq_false (Int.lt_irrefl x), Bool.false_or, Bool.true_and]
    · rw [lex_diff (fun e => h (Sum.inl.inj e)), decide_eq_false h, Bool.false_and, Bool.or_false]
      rfl
theorem ltI_total : ∀ a b : List Int, ltI a b = false → ltI b a = false → a = b
  | [], [], _, _ => rfl
  | [], _ :: _, h, _ => nomatch h
  | _ :: _, [], _, h => nomatch h
  | x :: r, y :: q, h1, h2 => by
    have h1' : (decide (x < y) || (decide (x = y) && ltI r q)) = false := h1
    have h2' : (decide (y < x) || (decide (y = x) && ltI q r)) = false := h2
    rw [Bool.or_eq_false_iff] at h1' h2'
    have a1 := of_decide_eq_false h1'.1
    have a2 := of_decide_eq_false h2'.1
    obtain rfl : x = y := by omega
    have b1 := h1'.2
    have b2 := h2'.2
    rw [decide_eq_true (rfl : x = x), Bool.true_and] at b1 b2
    rw [ltI_total r q b1 b2]
/-- tuples in their order, of any lengths -/
def AscL (l : List (List Int)) : Prop := l.Pairwise fun a b => ltI b a = false
theorem ascL_unique {l m : List (List Int)} (hl : AscL l) (hm : AscL m) (hp : l.Perm m) : l = m :=
  List.Perm.eq_of_pairwise (le := fun a b => ltI b a = false) (fun a b _ _ h1 h2 => (ltI_total b a h1 h2).symm) hl hm hp
/-- what a sorting tells of its values -/
theorem key_of {h : Heap} {v : Value} {ns : List Int} (x : TS.TupInts h v ns) : tupKeyC h (fun _ => false) v = some (ns.map Sum.inl) := by
  obtain ⟨t, its, rfl, ⟨o, h1, h2, n, h3⟩, hi⟩ := x
  have e : ∀ {vs : List Value} {ns : List Int} (i : Nat), IntsAre vs ns → tupItems (fun _ => false) i vs = some (ns.map Sum.inl) := by
    intro vs ns i q
    induction q generalizing i with
    | nil => rfl
    | cons k tk q ih =>
      show ((tupItems (fun _ => false) (i + 1) _).map (Sum.inl k :: ·)) = _
      rw [ih (i + 1)]
      rfl
  unfold tupKeyC isTupObj tupKey
  simp only [h1, h2, h3]
  exact e 0 hi
theorem tups_first {h : Heap} : ∀ {vs : List Value}, (∀ v ∈ vs, ∃ k ns, TS.TupInts h v (k :: ns)) → ∃ fs, TupsOf h (fun _ => false) vs fs
  | [], _ => ⟨[], .nil⟩
  | v :: r, q => by
    obtain ⟨fs, hf⟩ := tups_first fun x hx => q x (List.mem_cons_of_mem _ hx)
    obtain ⟨k, ns, t, its, e, ⟨o, h1, h2, n, h3⟩, hi⟩ := q v List.mem_cons_self
    cases hh : its.toList with
    | nil => rw [hh] at hi; cases hi
    | cons f w =>
      rw [hh] at hi
      cases hi with
      | cons _ tk _ => exact ⟨.int k tk :: fs, .cons ⟨t, o, its, n, e, h1, h2, h3, by rw [← Array.getElem?_toList, hh]; rfl, fun _ => ⟨k, tk, rfl⟩, fun z => nomatch z⟩ hf⟩
section
variable {prog : Program} {w : World} {A : Around} {E : Value → Shared → Prop} {s : Shared}
theorem sorted_any {l : Addr} {T : String} {o : Obj} {vs : List Value} {n : Nat} {key : Value → List Int} {Q : Value → Shared → Prop} (hT : T = "list" ∨ T = "tuple") (ho : s.heap.get? l = some o) (hc : o.cls = .type T) (hd : o.data = .seq vs.toArray n)
    (hk : ∀ v ∈ vs, TS.TupInts s.heap v (key v) ∧ key v ≠ []) (hL : vs.length ≤ sizeLine)
    (h : ∀ (out : Array Value) (h2 : Heap) (p : Addr), (∀ b x, s.heap.get? b = some x → h2.get? b = some x) → s.heap.get? p = none → (∃ ep, h2.get? p = some (seqObj "list" out ep)) → out.toList.Perm vs → out.toList.Pairwise (fun u v => ltI (key v) (key u) = false) → Q (.ref p) { s with heap := h2 }) :
    wpAny (model prog w) A (call (.builtin "sorted") [.ref l]) Q E s := by
  refine Calls.call_function_entry PyProof.Rows.kind_sorted PyProof.Rows.plain_sorted PyProof.Rows.entry_sorted (PyProof.Rows.args_sorted1 (.ref l)) ?_
  unfold Builtin.«sorted»
  refine wpAny_bind (m := checkCount "sorted" 1 1 _) ((wpAny_pure (wpAny_bind (wpAny_collect_seq (T := T) l hT ho hc hd (fun h1 k1 => ?_) (by rw [List.size_toArray]; exact hL)))))
  refine wpAny_bind (wpAny_newList ?go (by simpa using hL))
  show wpAny (model prog w) A.in1 _ _ E { s with heap := h1.push (seqObj "list" vs.toArray 0) }
  have hoL : (h1.push (seqObj "list" vs.toArray 0)).get? h1.objs.size = some (seqObj "list" vs.toArray 0) := Heap.get?_push_size _ rfl
  have keep : ∀ b x, s.heap.get? b = some x → (h1.push (seqObj "list" vs.toArray 0)).get? b = some x := fun b x e => Heap.get?_push_of_some _ (k1 b x e)
  have hnew : s.heap.get? h1.objs.size = none := by
    cases e : s.heap.get? h1.objs.size with
    | none => rfl
    | some x => exact absurd (Heap.lt_size (k1 _ _ e)) (Nat.lt_irrefl _)
  have hT2 : ∀ v ∈ vs, TS.TupInts (h1.push (seqObj "list" vs.toArray 0)) v (key v) := fun v hv => (hk v hv).1.keeps fun b x e _ => keep b x e
  obtain ⟨fs, hf⟩ := tups_first (h := h1.push (seqObj "list" vs.toArray 0)) (vs := vs) fun v hv => by
    have z := hT2 v hv
    cases e : key v with
    | nil => exact absurd e (hk v hv).2
    | cons k ns => exact ⟨k, ns, by rw [e] at z; exact z⟩
  refine wpAny_bind (wpAny_holding (wpAny_call_entry PyProof.Rows.slot_list_sort ⟨_, hoL, rfl⟩ PyProof.Rows.entry_list_sort (G.list_sort_tups (shape := fun _ => false) hoL hf (fun v hv => ⟨_, key_of (hT2 v hv)⟩) hL (fun st' a1 a2 a3 => ⟨_, rfl, ?_⟩)) (PyProof.Rows.args_list_sort (.ref h1.objs.size))))
  obtain ⟨ep, hep⟩ : ∃ ep, (sortedHeap (h1.push (seqObj "list" vs.toArray 0)) h1.objs.size vs ((arrOf st').map (·.2))).get? h1.objs.size = some (seqObj "list" ((arrOf st').map (·.2)) ep) := sortedHeap_at hoL
  have hp : (arrOf st').toList.Perm (vs.zip vs) := by rw [← pairsOf_toList]; exact Array.perm_iff_toList_perm.mp a1
  have hm : ∀ p ∈ (arrOf st').toList, p.1 = p.2 ∧ p.1 ∈ vs := fun p hp' => mem_zip_self (hp.mem_iff.mp hp')
  refine wpAny_pure ⟨_, rfl, h ((arrOf st').map (·.2)) _ _ (fun b x e => ?_) hnew ⟨ep, hep⟩ ?_ ?_⟩
  · have hb : b < h1.objs.size := Heap.lt_size (k1 b x e)
    rw [sortedHeap_old (Nat.ne_of_lt hb) (by rw [size_push']; exact Nat.lt_succ_of_lt hb)]
    exact keep b x e
  · rw [Array.toList_map]
    have z := hp.map Prod.snd
    rw [List.map_snd_zip (Nat.le_refl _)] at z
    exact z
  · rw [Array.toList_map, List.pairwise_map, List.pairwise_iff_getElem]
    intro i j hi hj hij
    have sz : (arrOf st').size = (pairsOf vs).size := a1.size_eq
    have z := a2 i j (Nat.le_of_lt hij) (by rw [← sz, ← Array.length_toList]; exact hj)
    have kk : ∀ (i : Nat) (hi : i < (arrOf st').toList.length), KK (tupKindC (h1.push (seqObj "list" vs.toArray 0)) fun _ => false) (arrOf st') i = (key ((arrOf st').toList[i]).2).map Sum.inl := fun i hi => by
      obtain ⟨e1, e2⟩ := hm _ (List.getElem_mem hi)
      unfold KK
      have e3 : (arrOf st')[i]? = some ((arrOf st').toList[i]) := by rw [← Array.getElem?_toList, List.getElem?_eq_getElem hi]
      rw [e3]
      show (tupKeyC _ _ _).getD _ = _
      rw [key_of (hT2 _ e2), ← e1]
      rfl
    rw [kk i hi, kk j hj] at z
    rw [← ltI_key]
    exact z
end
/-- sorted(x), told by keys -/
def rSortL (K : PySem.W.Frag) : List V → Hp → VK → Prop := fun vs H Q => ∃ (b : Addr) (ks : Tups), vs = [.ref b] ∧ (SqL K H b (refs ks) ∨ SqT K H b (refs ks)) ∧ TupsAt K H ks ∧ (∀ p ∈ ks, p.2 ≠ []) ∧
  ∀ (p : Addr) (ks' : Tups) (H' : Hp), Same H H' → H p = none → H' p = some (.lst (refs ks')) → ks'.Perm ks → AscL (keys ks') → Q (.ref p) H'
theorem cr_sortL {X : Cx} : CallR X (.builtin "sorted") (rSortL X.K) := by
  intro pins s σ H xs us Q I hv ⟨b, ks, ex, hb, ht, hne, q⟩
  subst ex
  rw [Vals.ref1 hv]
  obtain ⟨its, rv, hz, T, o, n, hT, ho, hc, hd⟩ : ∃ its : List Value, Vals (refs ks) its ∧ (refs ks).length ≤ sizeLine ∧ ∃ (T : String) (o : Obj) (n : Nat), (T = "list" ∨ T = "tuple") ∧ s.heap.get? b = some o ∧ o.cls = .type T ∧ o.data = .seq its.toArray n := by
    rcases hb with hb | hb
    · obtain ⟨its, rv, hl, hz⟩ := I.list hb
      obtain ⟨o, ho, hc, n, hd⟩ := hl.isList
      exact ⟨its, rv, hz, "list", o, n, .inl rfl, ho, hc, hd⟩
    · obtain ⟨its, rv, ⟨o, ho, hc, n, hd⟩, hz⟩ := I.tuple hb
      exact ⟨its, rv, hz, "tuple", o, n, .inr rfl, ho, hc, hd⟩
  obtain ⟨e1, e2⟩ := bkV_refs rv fun x m => by
    obtain ⟨p, _, rfl⟩ := List.mem_map.mp m
    exact ⟨_, rfl⟩
  -- a value's integers
  have hkey : ∀ v ∈ its, ∃ p ∈ ks, v = .ref p.1 := fun v hv => by
    obtain ⟨t, rfl⟩ := e2 v hv
    have hm : V.ref t ∈ refs ks := by
      rw [e1]
      exact List.mem_map.mpr ⟨_, hv, rfl⟩
    obtain ⟨p, hp, e⟩ := List.mem_map.mp hm
    injection e with e
    exact ⟨p, hp, by rw [e]⟩
  have hraw : ∀ p ∈ ks, TS.TupInts s.heap (.ref p.1) p.2 := fun p hp => tupI_raw I (ht p hp)
  refine sorted_any (key := TS.intsOf s.heap) hT ho hc hd (fun v hv => ?_) (by rw [← rv.length]; exact hz) fun out h2 p keep np hep h1 hw => ?_
  · obtain ⟨p, hp, rfl⟩ := hkey v hv
    have z := hraw p hp
    rw [z.ints]
    exact ⟨z, hne p hp⟩
  · obtain ⟨ep, hep⟩ := hep
    have hperm : (out.toList.map bkV).Perm (refs ks) := by
      rw [e1]
      exact h1.map bkV
    obtain ⟨ks', p1, p2⟩ := perm_map_inv (f := fun p : Addr × List Int => V.ref p.1) hperm (ks := ks) rfl
    have h3 : ∀ u ∈ out.toList, ∃ a, u = Value.ref a := fun u hu => e2 u (h1.mem_iff.mp hu)
    have hlen : (refs ks').length ≤ sizeLine := by rw [refs_len, p1.length_eq, ← refs_len]; exact hz
    have hvals : Vals (refs ks') out.toList := by
      have z := bkV_vals h3
      rw [p2] at z
      exact z
    have J := I.laidN (t' := s.toks) (a := p) (o := .lst (refs ks')) keep np (I.hok.gone np) ⟨hlen, out.toList, ep, hvals, hep⟩
    refine ⟨.ref p, _, J, rfl, q p ks' _ (same_new (I.hok.gone np)) (I.hok.gone np) upd_same p1 ?_⟩
    refine List.pairwise_map.mpr ?_
    have eo : out.toList = ks'.map fun p => Value.ref p.1 := by
      have z : ∀ {ks : Tups} {us : List Value}, Vals (refs ks) us → us = ks.map fun p => Value.ref p.1 := by
        intro ks
        induction ks with
        | nil => intro us z; cases z; rfl
        | cons x r ih =>
          intro us z
          cases z with
          | cons z1 z2 =>
            rw [ih z2]
            cases z1
            rfl
      exact z hvals
    rw [eo, List.pairwise_map] at hw
    exact hw.imp_of_mem fun {x y} hx hy z => by
      have zx := (hraw x (p1.mem_iff.mp hx)).ints
      have zy := (hraw y (p1.mem_iff.mp hy)).ints
      rw [zx, zy] at z
      exact z
end Sw
namespace Sw
open PySem PySem.Spec PyProof.Rows L2
theorem eqvAll_tups : ∀ a b : List (List Int), PyData.eqvAll (a.map dTI) (b.map dTI) = decide (a = b)
  | [], [] => rfl
  | [], _ :: _ => rfl
  | _ :: _, [] => rfl
  | x :: a, y :: b => by
    show (PyData.eqv (dTI x) (dTI y) && PyData.eqvAll (a.map dTI) (b.map dTI)) = _
    rw [eqv_ti, eqvAll_tups a b]
    by_cases h : x = y
    · by_cases h2 : a = b
      · rw [decide_eq_true h, decide_eq_true h2, decide_eq_true (by rw [h, h2])]; rfl
      · rw [decide_eq_true h, decide_eq_false h2, decide_eq_false (fun z => h2 (List.cons.inj z).2)]; rfl
    · rw [decide_eq_false h, decide_eq_false (fun z => h (List.cons.inj z).1)]; rfl
end Sw
set_option Elab.async false
set_option linter.all false
set_option maxRecDepth 100000
set_option maxHeartbeats 4000000
/-! Tables: rows by columns, matchings with as many rows as any. -/
namespace L2
open PySem PySem.Spec PyProof.Rows
theorem call_repr_bl {X : Cx} : CallR X (.builtin "repr") (fun xs H Q => ∃ b, xs = [.bl b] ∧ Q (.str (if b then "True" else "False")) H) := by
  intro pins s σ H xs us Q I r h
  obtain ⟨b, rfl, q⟩ := h
  obtain ⟨u, rfl, ru⟩ := vals1 r
  cases ru
  exact PySem.P.repr_of_bool ⟨.str _, H, I.tok _, ⟨_, rfl⟩, q⟩
/-! len(set(xs)), xs a list of integers -/
def met (ns : List Int) (i : Nat) : List Int := firstMet (fun i => ns.getD i 0) i
theorem met_facts (ns : List Int) : ∀ i, i ≤ ns.length → (met ns i).Nodup ∧ ∀ x, x ∈ met ns i ↔ x ∈ ns.take i
  | 0, _ => ⟨List.nodup_nil, fun x => by rw [List.take_zero]; rfl⟩
  | i + 1, hi => by
    obtain ⟨h1, h2⟩ := met_facts ns i (by omega)
    have hlt : i < ns.length := hi
    have e : ns.getD i 0 = ns[i] := by rw [List.getD_eq_getElem?_getD, List.getElem?_eq_getElem hlt]; rfl
    rw [show met ns (i + 1) = step_dedup (met ns i) (ns.getD i 0) from firstMet_succ _ i, List.take_add_one, List.getElem?_eq_getElem hlt, e]
    unfold step_dedup
    by_cases hm : ns[i] ∈ met ns i
    · rw [if_pos (show ((met ns i).any fun x => x == ns[i]) = true from List.any_eq_true.mpr ⟨_, hm, beq_self_eq_true _⟩)]
      refine ⟨h1, fun x => ?_⟩
      rw [h2, List.mem_append]
      constructor
      · exact .inl
      · rintro (h | h)
        · exact h
        · rw [List.mem_singleton.mp h]
          exact (h2 _).mp hm
    · rw [if_neg (fun z => by
        obtain ⟨y, hy, e'⟩ := List.any_eq_true.mp z
        exact hm (by rw [← (beq_iff_eq.mp e' : y = ns[i])]; exact hy))]
      refine ⟨Sw.nodup_push h1 hm, fun x => ?_⟩
      rw [List.mem_append, List.mem_append, h2]
      rfl
def tLenSetA (K : PySem.W.Frag) (ta : TE) : TE := fun σ H Q => ta σ H fun x H1 => ∃ (l : Addr) (ns : List Int), x = V.ref l ∧ SqL K H1 l (ns.map V.int) ∧ ns.length < 64 ∧ ∀ n : Nat, (n < ns.length ↔ ¬ ns.Nodup) → Q (.int n) H1
theorem pe_lenSetA {X : Cx} {a : Expr} {ta : TE} {p p2 q pos : Pos} (hc : X.calm = true) (hg : Gl X "len") (hm : X.mg "len" = none) (hg2 : Gl X "set") (hm2 : X.mg "set" = none) (ha : PE X a ta)
    (na : starEach [a] X.env = (false, eval a X.env) :: starEach [] X.env := by rfl) : PE X (.Call (.Name "len" p) [.Call (.Name "set" p2) [a] [] q] [] pos) (tLenSetA X.K ta) := by
  refine ⟨fun pins s σ H Q I h => Call_ (ld_blt I hg hm PySem.boot_len (PyProof.Rows.callWith_builtin1 (PyProof.Rows.args_cons ?_ rfl) rfl rfl))⟩
  refine Call_ (ld_blt I hg2 hm2 PyProof.Rows.boot_set (PyProof.Rows.callWith_type1 (PyProof.Rows.args_cons (thn (ha.run pins s σ H _ I h) fun v s1 ⟨x, H1, I1, r1, q1⟩ => PyProof.Rows.args_nil ?_) na) na rfl))
  obtain ⟨l, ns, rfl, hq, h1, q1⟩ := q1
  cases r1
  obtain ⟨its, r, pl, hz⟩ := I1.list hq
  have hl : its.toArray.size = ns.length := by rw [List.size_toArray, ← r.length, List.length_map]
  refine call_set_list (I1.ok.hd hc) pl.isList (ns := ns) (by simpa using r.ints) ((by unfold scanBound; omega)) fun h' tk hS hk => PyProof.Rows.args_nil ?_
  rw [hl] at hS
  obtain ⟨m1, m2⟩ := met_facts ns ns.length (Nat.le_refl _)
  rw [List.take_length] at m2
  have hle : (met ns ns.length).length ≤ ns.length := Sw.len_le_of_sub m1 fun x hx => (m2 x).mp hx
  obtain ⟨o, es, ep, t, ho, hex, hd, _, _, _, hf, hn⟩ := hS
  have I2 : Inv X pins σ H1 { s1 with heap := h', toks := tk } := I1.kept fun b o e => hk b o (Heap.lt_size e) e
  have hn' : es.size = (met ns ns.length).length := hn
  refine call_len_set ho hex hd hf (by omega) ⟨.int (met ns ns.length).length, H1, I2.tok _, ⟨_, by rw [hn']⟩, q1 _ ⟨fun hlt hnd => ?_, fun hnd => ?_⟩⟩
  · have := Sw.len_le_of_sub hnd fun x hx => (m2 x).mpr hx
    omega
  · obtain ⟨m, hm', hs⟩ := Sw.shorter hnd
    have := Sw.len_le_of_sub m1 (m := m) fun x hx => hs x ((m2 x).mp hx)
    omega
end L2
namespace Sw
open PySem PySem.Spec PyProof.Rows L2
/-- as `best`, for the edges of the wanted rows alone -/
theorem best2 {P P' : Int → List Int} {m m' : MM} {Z W : List Int} (hW : W.Nodup) (hm : Mt P m) (hZ : Shut P m Z) (hZW : ∀ z ∈ Z, z ∈ W) (hF : ∀ r ∈ W, lk m r = none → r ∈ Z) (h' : Mt P' m') (hP : ∀ r ∈ W, ∀ c ∈ P' r, c ∈ P r) :
    (W.filter (has m')).length ≤ (W.filter (has m)).length := by
  have e : ∀ r, r ∈ W → lk (m'.filter fun z => decide (z.1 ∈ W)) r = lk m' r := fun r hr => by
    cases el : lk m' r with
    | some c => exact lk_mem (List.Nodup.sublist (List.Sublist.map _ List.filter_sublist) h'.nd) (List.mem_filter.mpr ⟨lk_some el, decide_eq_true hr⟩)
    | none =>
      cases e2 : lk (m'.filter fun z => decide (z.1 ∈ W)) r with
      | none => rfl
      | some c =>
        have := lk_mem h'.nd (List.mem_filter.mp (lk_some e2)).1
        rw [el] at this
        cases this
  have sub : ∀ r c, lk (m'.filter fun z => decide (z.1 ∈ W)) r = some c → r ∈ W ∧ lk m' r = some c := fun r c h => by
    obtain ⟨h1, h2⟩ := List.mem_filter.mp (lk_some h)
    exact ⟨of_decide_eq_true h2, lk_mem h'.nd h1⟩
  have := best hW hm hZ hZW hF (m' := m'.filter fun z => decide (z.1 ∈ W)) ⟨List.Nodup.sublist (List.Sublist.map _ List.filter_sublist) h'.nd, fun k v h => hP k (sub k v h).1 v (h'.ed k v (sub k v h).2), fun k j v h1 h2 => h'.inj k j v (sub k v h1).2 (sub j v h2).2⟩
  have e2 : W.filter (has (m'.filter fun z => decide (z.1 ∈ W))) = W.filter (has m') := List.filter_congr fun r hr => by unfold has; rw [e r hr]
  rw [e2] at this
  exact this
/-- a table, its rows lists -/
def TabAt (K : PySem.W.Frag) (H : Hp) (t : Addr) (tb : Tups) : Prop := SqL K H t (refs tb) ∧ ∀ p ∈ tb, SqL K H p.1 (p.2.map V.int)
theorem tabAt_up {K : PySem.W.Frag} {H H' : Hp} {t : Addr} {tb : Tups} (s : Same H H') (h : TabAt K H t tb) : TabAt K H' t tb := ⟨s.seq h.1, fun p hp => s.seq (h.2 p hp)⟩
def tP (rows : List (List Int)) (r : Int) : List Int := if 0 ≤ r then (rows[r.toNat]?).getD [] else []
structure TabOk (rows : List (List Int)) : Prop where
  len : rows.length ≤ 1000
  lo : ∀ l ∈ rows, ∀ c ∈ l, 0 ≤ c ∧ c < 1000
  nd : ∀ l ∈ rows, l.Nodup
theorem below1000 {l : List Int} (hn : l.Nodup) (h : ∀ c ∈ l, 0 ≤ c ∧ c < 1000) : l.length ≤ 1000 := by
  have n1 : (l.map Int.toNat).Nodup := by
    rw [List.Nodup, List.pairwise_map]
    refine hn.imp_of_mem fun {a b} ha hb hab e => hab ?_
    have := h a ha
    have := h b hb
    omega
  have := nodup_below 1000 _ n1 fun x hx => by
    obtain ⟨a, ha, rfl⟩ := List.mem_map.mp hx
    have := h a ha
    omega
  rw [List.length_map] at this
  exact this
theorem tP_some {rows : List (List Int)} {r c : Int} (h : c ∈ tP rows r) : 0 ≤ r ∧ ∃ l, rows[r.toNat]? = some l ∧ c ∈ l := by
  unfold tP at h
  split at h
  · refine ⟨by assumption, ?_⟩
    cases e : rows[r.toNat]? with
    | none => rw [e] at h; cases h
    | some l => rw [e] at h; exact ⟨l, rfl, h⟩
  · cases h
theorem tP_lo {rows : List (List Int)} (h : TabOk rows) {r c : Int} (hc : c ∈ tP rows r) : 0 ≤ c ∧ c < 1000 := by
  obtain ⟨_, l, e, hl⟩ := tP_some hc
  exact h.lo l (List.mem_of_getElem? e) c hl
def psOf (tb : Tups) (W : List Int) : Prts := W.map fun r => (r, (tb.getD r.toNat (0, [])).1, (tb.getD r.toNat (0, [])).2)
theorem prt_psOf {tb : Tups} {W : List Int} {r : Int} (hr : r ∈ W) (h0 : 0 ≤ r) : prt (psOf tb W) r = tP (keys tb) r := by
  unfold prt psOf
  rw [List.find?_map]
  have : ∃ z, W.find? ((fun z : Int × Addr × List Int => decide (z.1 = r)) ∘ fun r => (r, (tb.getD r.toNat (0, [])).1, (tb.getD r.toNat (0, [])).2)) = some z ∧ z = r := by
    cases e : W.find? ((fun z : Int × Addr × List Int => decide (z.1 = r)) ∘ fun r => (r, (tb.getD r.toNat (0, [])).1, (tb.getD r.toNat (0, [])).2)) with
    | none =>
      have := List.find?_eq_none.mp e r hr
      exact absurd (decide_eq_true (rfl : r = r)) this
    | some z =>
      have h2 := List.find?_some e
      exact ⟨z, rfl, of_decide_eq_true (show decide (z = r) = true from h2)⟩
  obtain ⟨z, ez, rfl⟩ := this
  rw [ez]
  show (tb.getD z.toNat (0, [])).2 = tP (keys tb) z
  unfold tP keys
  rw [if_pos h0, List.getD_eq_getElem?_getD, List.getElem?_map]
  cases tb[z.toNat]? <;> rfl
theorem prt_psOf_none {tb : Tups} {W : List Int} {r : Int} (hr : r ∉ W) : prt (psOf tb W) r = [] := by
  unfold prt psOf
  rw [List.find?_map]
  have : W.find? ((fun z : Int × Addr × List Int => decide (z.1 = r)) ∘ fun r => (r, (tb.getD r.toNat (0, [])).1, (tb.getD r.toNat (0, [])).2)) = none := List.find?_eq_none.mpr fun x hx h => hr (by rw [← (of_decide_eq_true h : x = r)]; exact hx)
  rw [this]
  rfl
def MaxOn (P : Int → List Int) (W : List Int) (g : MM) : Prop := ∀ m', Mt P m' → (W.filter (has m')).length ≤ (W.filter (has g)).length
def spMates (K : PySem.W.Frag) : Sp := fun vs H Q _ => ∃ (t rl : Addr) (tb : Tups) (W : List Int), vs = [.ref t, .ref rl] ∧ TabAt K H t tb ∧ TabOk (keys tb) ∧ SqL K H rl (W.map V.int) ∧ W.Nodup ∧ (∀ r ∈ W, 0 ≤ r ∧ r < (tb.length : Int)) ∧
  ∀ (H' : Hp) (l : Addr) (g : MM), Same H H' → H l = none → H' l = some (.dK (dI g)) → Mt (tP (keys tb)) g → (∀ r c, lk g r = some c → r ∈ W) → MaxOn (tP (keys tb)) W g → Q (.ref l) H'
def spMost (K : PySem.W.Frag) : Sp := fun vs H Q _ => ∃ (t rl : Addr) (tb : Tups) (W : List Int), vs = [.ref t, .ref rl] ∧ TabAt K H t tb ∧ TabOk (keys tb) ∧ SqL K H rl (W.map V.int) ∧ W.Nodup ∧ (∀ r ∈ W, 0 ≤ r ∧ r < (tb.length : Int)) ∧
  ∀ (H' : Hp) (g : MM), Same H H' → Mt (tP (keys tb)) g → (∀ r c, lk g r = some c → r ∈ W) → MaxOn (tP (keys tb)) W g → Q (.int (W.filter (has g)).length) H'
theorem filter_all {W : List Int} {g : MM} (hW : W.Nodup) (hn : (g.map (·.1)).Nodup) (h : ∀ r c, lk g r = some c → r ∈ W) : (W.filter (has g)).length = g.length := by
  have a := len_le_of_sub (hW.filter (has g)) (m := g.map (·.1)) fun r hr => by
    obtain ⟨c, e⟩ := has_some (List.mem_filter.mp hr).2
    exact lk_key e
  have b := len_le_of_sub hn (m := W.filter (has g)) fun r hr => by
    obtain ⟨c, e⟩ := lk_keyE hr
    exact List.mem_filter.mpr ⟨h r c e, by unfold has; rw [e]; rfl⟩
  rw [List.length_map] at a b
  omega
def spByCol (K : PySem.W.Frag) : Sp := fun vs H Q _ => ∃ (t : Addr) (tb : Tups), vs = [.ref t] ∧ TabAt K H t tb ∧ TabOk (keys tb) ∧
  ∀ (H' : Hp) (d : Addr) (ps : Prts), Same H H' → H d = none → PrtAt K H' d ps → Small ps → (∀ c r, r ∈ prt ps c ↔ c ∈ tP (keys tb) r) → Q (.ref d) H'
def pairs2 (m : MM) : List (List Int) := m.map fun x => [x.1, x.2]
def spMatching (K : PySem.W.Frag) : Sp := fun vs H Q _ => ∃ (t rl cl : Addr) (tb : Tups) (W C : List Int), vs = [.ref t, .ref rl, .ref cl] ∧ TabAt K H t tb ∧ TabOk (keys tb) ∧ SqL K H rl (W.map V.int) ∧ W.Nodup ∧ (∀ r ∈ W, 0 ≤ r ∧ r < (tb.length : Int)) ∧
  SqL K H cl (C.map V.int) ∧ C.Nodup ∧ C.length ≤ 1000 ∧
  ∀ (H' : Hp) (l : Addr) (ks : Tups) (g : MM), Same H H' → H l = none → H' l = some (.lst (refs ks)) → TupsAt K H' ks → keys ks = pairs2 g → AscL (keys ks) → Mt (tP (keys tb)) g → MaxOn (tP (keys tb)) W g → (∀ m', Mt (tP (keys tb)) m' → (C.filter (has (swp m'))).length ≤ (C.filter (has (swp g))).length) → Q (.ref l) H'
end Sw
namespace Sw
open PySem PySem.Spec PyProof.Rows L2
def asc1 : List Int → Bool
  | [] => true
  | [_] => true
  | x :: y :: r => decide (x < y) && asc1 (y :: r)
theorem asc1_zip : ∀ ns : List Int, ((ns.zip ns.tail).map fun p => decide (p.1 < p.2)).all id = asc1 ns
  | [] => rfl
  | [_] => rfl
  | x :: y :: r => by
    show (decide (x < y) && (((y :: r).zip r).map fun p => decide (p.1 < p.2)).all id) = (decide (x < y) && asc1 (y :: r))
    rw [← asc1_zip (y :: r)]
    rfl
def isMt (rows : List (List Int)) (m : MM) : Bool := asc1 (m.map (·.1)) && decide (m.map (·.2)).Nodup && m.all fun x => decide (x.2 ∈ tP rows x.1)
def spAsc (K : PySem.W.Frag) : Sp := fun vs H Q _ => ∃ (l : Addr) (ns : List Int), vs = [.ref l] ∧ SqL K H l (ns.map V.int) ∧ ns.length ≤ 2000 ∧ ∀ H', Same H H' → Q (.bl (asc1 ns)) H'
def spIsMt (K : PySem.W.Frag) : Sp := fun vs H Q _ => ∃ (t tl : Addr) (tb ks : Tups) (m : MM), vs = [.ref t, .ref tl] ∧ TabAt K H t tb ∧ SqL K H tl (refs ks) ∧ TupsAt K H ks ∧ keys ks = pairs2 m ∧ m.length < 64 ∧ tb.length ≤ 1000 ∧ ∀ H', Same H H' → Q (.bl (isMt (keys tb) m)) H'
theorem pair_at {ks : Tups} {m : MM} {i : Nat} {q : Addr × List Int} (ek : keys ks = pairs2 m) (hq : ks[i]? = some q) : ∃ x, m[i]? = some x ∧ q.2 = [x.1, x.2] := by
  have e1 : (keys ks)[i]? = some q.2 := by unfold keys; rw [List.getElem?_map, hq]; rfl
  rw [ek] at e1
  unfold pairs2 at e1
  rw [List.getElem?_map] at e1
  cases e : m[i]? with
  | none => rw [e] at e1; cases e1
  | some x => rw [e] at e1; exact ⟨x, rfl, (Option.some.inj e1).symm⟩
theorem refs_at {ks : Tups} {i : Nat} {y : V} (h : (refs ks)[i]? = some y) : ∃ q, ks[i]? = some q ∧ y = V.ref q.1 := by
  unfold refs at h
  rw [List.getElem?_map] at h
  cases e : ks[i]? with
  | none => rw [e] at h; cases h
  | some q => rw [e] at h; exact ⟨q, rfl, (Option.some.inj h).symm⟩
theorem row_at {K : PySem.W.Frag} {H : Hp} {t : Addr} {tb : Tups} (h : TabAt K H t tb) {r : Int} (h0 : 0 ≤ r) (h1 : r < (tb.length : Int)) : ∃ q, tb[r.toNat]? = some q ∧ atI (refs tb) r = some (.ref q.1) ∧ SqL K H q.1 (q.2.map V.int) ∧ tP (keys tb) r = q.2 := by
  have hl : r.toNat < tb.length := by omega
  have e := List.getElem?_eq_getElem hl
  refine ⟨tb[r.toNat], e, ?_, h.2 _ (List.getElem_mem hl), ?_⟩
  · have z : atI (refs tb) ((r.toNat : Nat) : Int) = some (.ref tb[r.toNat].1) := atI_nat (by unfold refs; rw [List.getElem?_map, e]; rfl)
    rw [show ((r.toNat : Nat) : Int) = r by omega] at z
    exact z
  · unfold tP keys
    rw [if_pos h0, List.getElem?_map, e]
    rfl
/-! rows by columns, under way -/
structure RB (K : PySem.W.Frag) (H0 H : Hp) (d : Addr) (ps : Prts) (rows : List (List Int)) (i : Nat) (part : List Int) : Prop where
  ed : H d = some (.dK (shownK ps))
  ls : ∀ z ∈ ps, H z.2.1 = some (.lst (z.2.2.map V.int)) ∧ H0 z.2.1 = none
  an : (ps.map fun z => z.2.1).Nodup
  kn : (ps.map (·.1)).Nodup
  mem : ∀ c r, r ∈ prt ps c ↔ (0 ≤ r ∧ r < (i : Int) ∧ c ∈ tP rows r) ∨ (r = (i : Int) ∧ c ∈ part)
  nd : ∀ z ∈ ps, z.2.2.Nodup
  kl : ∀ z ∈ ps, 0 ≤ z.1 ∧ z.1 < 1000
theorem prt_mem {ps : Prts} {z : Int × Addr × List Int} (hn : (ps.map (·.1)).Nodup) (hz : z ∈ ps) : prt ps z.1 = z.2.2 := by
  unfold prt
  cases e : ps.find? fun y => decide (y.1 = z.1) with
  | none => exact absurd (decide_eq_true (rfl : z.1 = z.1)) (List.find?_eq_none.mp e z hz)
  | some y =>
    have h1 := List.mem_of_find?_eq_some e
    have h2 : y.1 = z.1 := of_decide_eq_true (by have := List.find?_some e; exact this)
    have : y = z := by
      have go : ∀ {ps : Prts}, (ps.map (·.1)).Nodup → y ∈ ps → z ∈ ps → y = z := by
        intro ps
        induction ps with
        | nil => intro _ h; cases h
        | cons w r ih =>
          intro hn hy hz
          rw [List.map_cons, List.nodup_cons] at hn
          rcases List.mem_cons.mp hy with e1 | hy' <;> rcases List.mem_cons.mp hz with e2 | hz'
          · rw [e1, e2]
          · exact absurd (by rw [← e1, h2]; exact List.mem_map_of_mem (f := fun z : Int × Addr × List Int => z.1) hz') hn.1
          · exact absurd (by rw [← e2, ← h2]; exact List.mem_map_of_mem (f := fun z : Int × Addr × List Int => z.1) hy') hn.1
          · exact ih hn.2 hy' hz'
      exact go hn h1 hz
    rw [this]
theorem prt_none {ps : Prts} {c : Int} (h : c ∉ ps.map (·.1)) : prt ps c = [] := by
  unfold prt
  have : ps.find? (fun z => decide (z.1 = c)) = none := List.find?_eq_none.mpr fun x hx e => h (by rw [← (of_decide_eq_true e : x.1 = c)]; exact List.mem_map_of_mem (f := fun z : Int × Addr × List Int => z.1) hx)
  rw [this]
def addTo (ps : Prts) (c r : Int) : Prts := ps.map fun z => if z.1 = c then (z.1, z.2.1, z.2.2 ++ [r]) else z
theorem prt_addTo (ps : Prts) (c r c' : Int) (hc : c ∈ ps.map (·.1)) : prt (addTo ps c r) c' = if c' = c then prt ps c' ++ [r] else prt ps c' := by
  induction ps with
  | nil => cases hc
  | cons z t ih =>
    unfold prt addTo
    rw [List.map_cons, List.find?_cons, List.find?_cons]
    have ez : (if z.1 = c then (z.1, z.2.1, z.2.2 ++ [r]) else z).1 = z.1 := by split <;> rfl
    rw [ez]
    by_cases h : z.1 = c'
    · rw [decide_eq_true h]
      show (if z.1 = c then (z.1, z.2.1, z.2.2 ++ [r]) else z).2.2 = _
      by_cases h2 : c' = c
      · rw [if_pos (h.trans h2), if_pos h2]
      · rw [if_neg (fun e => h2 (h.symm.trans e)), if_neg h2]
    · rw [decide_eq_false h]
      show prt (addTo t c r) c' = if c' = c then prt t c' ++ [r] else prt t c'
      by_cases hct : c ∈ t.map (·.1)
      · exact ih hct
      · have hz : z.1 = c := by
          rcases List.mem_cons.mp hc with e | e
          · exact e.symm
          · exact absurd e hct
        rw [if_neg (fun e => h (hz.trans e.symm))]
        have : addTo t c r = t := by
          unfold addTo
          rw [List.map_congr_left (g := id) fun w hw => by
            rw [if_neg]
            · rfl
            · intro e
              exact hct (by rw [← e]; exact List.mem_map_of_mem (f := fun z : Int × Addr × List Int => z.1) hw), List.map_id]
        rw [this]
theorem shown_addTo (ps : Prts) (c r : Int) : shownK (addTo ps c r) = shownK ps := by
  unfold shownK addTo
  rw [List.map_map]
  apply List.map_congr_left
  intro z _
  show (Sum.inl (if z.1 = c then (z.1, z.2.1, z.2.2 ++ [r]) else z).1, V.ref (if z.1 = c then (z.1, z.2.1, z.2.2 ++ [r]) else z).2.1) = (Sum.inl z.1, V.ref z.2.1)
  split <;> rfl
theorem prt_snoc {ps : Prts} {c : Int} {q : Addr} {l : List Int} (hc : c ∉ ps.map (·.1)) (c' : Int) : prt (ps ++ [(c, q, l)]) c' = if c' = c then l else prt ps c' := by
  unfold prt
  rw [List.find?_append]
  by_cases h : c' = c
  · rw [if_pos h, h]
    have : ps.find? (fun z => decide (z.1 = c)) = none := List.find?_eq_none.mpr fun x hx e => hc (by rw [← (of_decide_eq_true e : x.1 = c)]; exact List.mem_map_of_mem (f := fun z : Int × Addr × List Int => z.1) hx)
    rw [this]
    show (match List.find? (fun z => decide (z.1 = c)) [(c, q, l)] with | some z => z.2.2 | none => []) = l
    rw [List.find?_cons, decide_eq_true (show ((c, q, l) : Int × Addr × List Int).1 = c from rfl)]
  · rw [if_neg h]
    have : List.find? (fun z : Int × Addr × List Int => decide (z.1 = c')) [(c, q, l)] = none := by
      rw [List.find?_cons, decide_eq_false (show ¬ ((c, q, l) : Int × Addr × List Int).1 = c' from fun e => h e.symm)]
      rfl
    rw [this]
    cases ps.find? (fun z => decide (z.1 = c')) <;> rfl
end Sw
namespace Sw
open PySem PySem.Spec PyProof.Rows L2
theorem nodup_get {ps : Prts} {x y : Int × Addr × List Int} (hn : (ps.map fun z => z.2.1).Nodup) (hx : x ∈ ps) (hy : y ∈ ps) (e : x.2.1 = y.2.1) : x = y := by
  induction ps with
  | nil => cases hx
  | cons w r ih =>
    rw [List.map_cons, List.nodup_cons] at hn
    rcases List.mem_cons.mp hx with e1 | hx' <;> rcases List.mem_cons.mp hy with e2 | hy'
    · rw [e1, e2]
    · exact absurd (by rw [← e1, e]; exact List.mem_map_of_mem (f := fun z : Int × Addr × List Int => z.2.1) hy') hn.1
    · exact absurd (by rw [← e2, ← e]; exact List.mem_map_of_mem (f := fun z : Int × Addr × List Int => z.2.1) hx') hn.1
    · exact ih hn.2 hx' hy'
/-- a row goes to the list of a column that has one -/
theorem RB.add {K : PySem.W.Frag} {H0 H : Hp} {d : Addr} {ps : Prts} {rows : List (List Int)} {i : Nat} {part : List Int} {c : Int} {z : Int × Addr × List Int} (h : RB K H0 H d ps rows i part) (hz : z ∈ ps) (ez : z.1 = c) (hc : c ∉ part) :
    RB K H0 (upd H z.2.1 (.lst (z.2.2.map V.int ++ [.int (i : Int)]))) d (addTo ps c i) rows i (part ++ [c]) := by
  have hck : c ∈ ps.map (·.1) := by rw [← ez]; exact List.mem_map_of_mem (f := fun z : Int × Addr × List Int => z.1) hz
  have hd : d ≠ z.2.1 := fun e => by have := (h.ls z hz).1; rw [← e, h.ed] at this; cases this
  have same : ∀ y ∈ ps, y.1 = c → y = z := fun y hy ey => by
    have a1 := prt_mem h.kn hy
    have go : ∀ {ps : Prts}, (ps.map (·.1)).Nodup → y ∈ ps → z ∈ ps → y = z := by
      intro ps
      induction ps with
      | nil => intro _ h; cases h
      | cons w r ih =>
        intro hn hy hz
        rw [List.map_cons, List.nodup_cons] at hn
        rcases List.mem_cons.mp hy with e1 | hy' <;> rcases List.mem_cons.mp hz with e2 | hz'
        · rw [e1, e2]
        · exact absurd (by rw [← e1, ey, ← ez]; exact List.mem_map_of_mem (f := fun z : Int × Addr × List Int => z.1) hz') hn.1
        · exact absurd (by rw [← e2, ez, ← ey]; exact List.mem_map_of_mem (f := fun z : Int × Addr × List Int => z.1) hy') hn.1
        · exact ih hn.2 hy' hz'
    exact go h.kn hy hz
  refine ⟨by rw [upd_ne hd, shown_addTo]; exact h.ed, fun y hy => ?_, ?_, ?_, fun c' r => ?_, fun y hy => ?_, fun y hy => ?_⟩
  · obtain ⟨w, hw, rfl⟩ := List.mem_map.mp hy
    by_cases e : w.1 = c
    · rw [if_pos e, same w hw e]
      refine ⟨?_, (h.ls z hz).2⟩
      show (upd H z.2.1 _) z.2.1 = _
      rw [upd_same, map_push]
    · rw [if_neg e]
      refine ⟨?_, (h.ls w hw).2⟩
      rw [upd_ne fun e' => e (by rw [nodup_get h.an hw hz e']; exact ez)]
      exact (h.ls w hw).1
  · unfold addTo
    rw [List.map_map, List.map_congr_left (g := fun z => z.2.1) fun w _ => by show (if w.1 = c then (w.1, w.2.1, w.2.2 ++ [(i : Int)]) else w).2.1 = w.2.1; split <;> rfl]
    exact h.an
  · unfold addTo
    rw [List.map_map, List.map_congr_left (g := fun z => z.1) fun w _ => by show (if w.1 = c then (w.1, w.2.1, w.2.2 ++ [(i : Int)]) else w).1 = w.1; split <;> rfl]
    exact h.kn
  · rw [prt_addTo ps c i c' hck]
    by_cases e : c' = c
    · rw [if_pos e, List.mem_append, h.mem, List.mem_singleton, List.mem_append, List.mem_singleton]
      constructor
      · rintro ((h1 | ⟨h1, h2⟩) | h1)
        · exact .inl h1
        · exact .inr ⟨h1, .inl h2⟩
        · exact .inr ⟨h1, .inr e⟩
      · rintro (h1 | ⟨h1, h2⟩)
        · exact .inl (.inl h1)
        · exact .inr h1
    · rw [if_neg e, h.mem, List.mem_append, List.mem_singleton]
      constructor
      · rintro (h1 | ⟨h1, h2⟩)
        · exact .inl h1
        · exact .inr ⟨h1, .inl h2⟩
      · rintro (h1 | ⟨h1, h2 | h2⟩)
        · exact .inl h1
        · exact .inr ⟨h1, h2⟩
        · exact absurd h2 e
  · obtain ⟨w, hw, rfl⟩ := List.mem_map.mp hy
    by_cases e : w.1 = c
    · rw [if_pos e]
      refine nodup_push (h.nd w hw) fun hm => ?_
      rw [← prt_mem h.kn hw, e] at hm
      rcases (h.mem c i).mp hm with ⟨_, h2, _⟩ | ⟨_, h2⟩
      · omega
      · exact hc h2
    · rw [if_neg e]
      exact h.nd w hw
  · obtain ⟨w, hw, rfl⟩ := List.mem_map.mp hy
    by_cases e : w.1 = c
    · rw [if_pos e]
      exact h.kl w hw
    · rw [if_neg e]
      exact h.kl w hw
/-- a column comes in, with a list of its own -/
theorem RB.new {K : PySem.W.Frag} {H0 H : Hp} {d q : Addr} {ps : Prts} {rows : List (List Int)} {i : Nat} {part : List Int} {c : Int} (h : RB K H0 H d ps rows i part) (hk : c ∉ ps.map (·.1)) (hq : H q = some (.lst [])) (hq0 : H0 q = none) (hqn : ∀ z ∈ ps, z.2.1 ≠ q) (hl : 0 ≤ c ∧ c < 1000) :
    RB K H0 (upd H d (.dK (shownK (ps ++ [(c, q, [])])))) d (ps ++ [(c, q, [])]) rows i part := by
  have hd : ∀ b o, H b = some (.lst o) → b ≠ d := fun b o e z => by rw [z, h.ed] at e; cases e
  refine ⟨upd_same, fun y hy => ?_, ?_, ?_, fun c' r => ?_, fun y hy => ?_, fun y hy => ?_⟩
  · rcases List.mem_append.mp hy with hy | hy
    · obtain ⟨h1, h2⟩ := h.ls y hy
      exact ⟨by rw [upd_ne (hd _ _ h1)]; exact h1, h2⟩
    · rw [List.mem_singleton.mp hy]
      exact ⟨by rw [upd_ne (hd _ _ hq)]; exact hq, hq0⟩
  · rw [List.map_append]
    refine nodup_push h.an fun hm => ?_
    obtain ⟨z, hz, e⟩ := List.mem_map.mp hm
    exact hqn z hz e
  · rw [List.map_append]
    exact nodup_push h.kn hk
  · rw [prt_snoc hk]
    by_cases e : c' = c
    · rw [if_pos e, ← h.mem, e, prt_none hk]
    · rw [if_neg e]
      exact h.mem c' r
  · rcases List.mem_append.mp hy with hy | hy
    · exact h.nd y hy
    · rw [List.mem_singleton.mp hy]
      exact List.nodup_nil
  · rcases List.mem_append.mp hy with hy | hy
    · exact h.kl y hy
    · rw [List.mem_singleton.mp hy]
      exact hl
end Sw
namespace Sw
open PySem PySem.Spec PyProof.Rows L2
theorem inV_ints (x : Int) : ∀ ns : List Int, inV (.int x) (ns.map V.int) = decide (x ∈ ns)
  | [] => rfl
  | y :: r => by
    show (eqV (.int y) (.int x) || inV (.int x) (r.map V.int)) = _
    rw [inV_ints x r]
    show ((y == x) || decide (x ∈ r)) = _
    by_cases h : y = x
    · rw [h, beq_self_eq_true, Bool.true_or, decide_eq_true List.mem_cons_self]
    · rw [beq_eq_false_iff_ne.mpr h, Bool.false_or]
      by_cases hm : x ∈ r
      · rw [decide_eq_true hm, decide_eq_true (List.mem_cons_of_mem _ hm)]
      · rw [decide_eq_false hm, decide_eq_false (fun z => (List.mem_cons.mp z).elim (fun e => h e.symm) hm)]
end Sw
set_option Elab.async false
set_option linter.all false
set_option maxRecDepth 100000
set_option maxHeartbeats 4000000
/-! All matchings of a small table, row by row. -/
namespace Sw
open PySem PySem.Spec PyProof.Rows L2
def stepM (P : Int → List Int) (k : Int) (m : MM) : List MM := m :: ((P k).filter fun c => !decide (c ∈ m.map (·.2))).map fun c => m ++ [(k, c)]
def allM (P : Int → List Int) : Nat → List MM
  | 0 => [[]]
  | k + 1 => (allM P k).flatMap (stepM P k)
theorem asc1_iff : ∀ ns : List Int, asc1 ns = true ↔ ns.Pairwise (· < ·)
  | [] => ⟨fun _ => .nil, fun _ => rfl⟩
  | [x] => ⟨fun _ => List.pairwise_singleton _ _, fun _ => rfl⟩
  | x :: y :: r => by
    show (decide (x < y) && asc1 (y :: r)) = true ↔ _
    rw [Bool.and_eq_true, asc1_iff (y :: r), decide_eq_true_iff, List.pairwise_cons (a := x)]
    constructor
    · rintro ⟨h, h2⟩
      refine ⟨fun z hz => ?_, h2⟩
      rcases List.mem_cons.mp hz with rfl | hz
      · exact h
      · have := (List.pairwise_cons.mp h2).1 z hz
        omega
    · rintro ⟨h, h2⟩
      exact ⟨h y (List.mem_cons_self ..), h2⟩
def MtTo (P : Int → List Int) (k : Int) (m : MM) : Prop := (m.map (·.1)).Pairwise (· < ·) ∧ (m.map (·.2)).Nodup ∧ ∀ x ∈ m, x.2 ∈ P x.1 ∧ 0 ≤ x.1 ∧ x.1 < k
theorem mem_allM (P : Int → List Int) : ∀ (k : Nat) (m : MM), m ∈ allM P k ↔ MtTo P k m
  | 0, m => by
    show m ∈ [[]] ↔ _
    rw [List.mem_singleton]
    constructor
    · rintro rfl
      exact ⟨.nil, List.nodup_nil, fun x hx => by cases hx⟩
    · rintro ⟨_, _, h⟩
      cases m with
      | nil => rfl
      | cons x r =>
        have := h x (List.mem_cons_self ..)
        omega
  | k + 1, m => by
    show m ∈ (allM P k).flatMap (stepM P k) ↔ _
    rw [List.mem_flatMap]
    constructor
    · rintro ⟨m0, h0, hm⟩
      obtain ⟨a1, a2, a3⟩ := (mem_allM P k m0).mp h0
      unfold stepM at hm
      rcases List.mem_cons.mp hm with rfl | hm
      · exact ⟨a1, a2, fun x hx => ⟨(a3 x hx).1, (a3 x hx).2.1, by have := (a3 x hx).2.2; omega⟩⟩
      · obtain ⟨c, hc, rfl⟩ := List.mem_map.mp hm
        obtain ⟨c1, c2⟩ := List.mem_filter.mp hc
        have c3 : c ∉ m0.map (·.2) := by
          intro h
          rw [decide_eq_true h] at c2
          cases c2
        refine ⟨?_, ?_, fun x hx => ?_⟩
        · rw [List.map_append, List.pairwise_append]
          refine ⟨a1, List.pairwise_singleton _ _, fun u hu v hv => ?_⟩
          obtain ⟨x, hx, rfl⟩ := List.mem_map.mp hu
          rw [List.mem_singleton.mp (show v ∈ [(k : Int)] from hv)]
          exact (a3 x hx).2.2
        · rw [List.map_append]
          exact nodup_push a2 c3
        · rcases List.mem_append.mp hx with hx | hx
          · exact ⟨(a3 x hx).1, (a3 x hx).2.1, by have := (a3 x hx).2.2; omega⟩
          · rw [List.mem_singleton.mp hx]
            exact ⟨c1, Int.natCast_nonneg k, by show (k : Int) < ((k + 1 : Nat) : Int); omega⟩
    · rintro ⟨a1, a2, a3⟩
      rcases List.eq_nil_or_concat m with rfl | ⟨m0, y, rfl⟩
      · exact ⟨[], (mem_allM P k []).mpr ⟨.nil, List.nodup_nil, fun x hx => by cases hx⟩, List.mem_cons_self ..⟩
      · rw [List.concat_eq_append] at a1 a2 a3 ⊢
        rw [List.map_append, List.pairwise_append] at a1
        obtain ⟨b1, _, b3⟩ := a1
        rw [List.map_append, List.nodup_append] at a2
        obtain ⟨d1, _, d3⟩ := a2
        have hy := a3 y (List.mem_append_right _ (List.mem_singleton.mpr rfl))
        have lt : ∀ x ∈ m0, x.1 < y.1 := fun x hx => b3 x.1 (List.mem_map_of_mem hx) y.1 (List.mem_singleton.mpr rfl)
        by_cases e : y.1 = (k : Int)
        · refine ⟨m0, (mem_allM P k m0).mpr ⟨b1, d1, fun x hx => ⟨(a3 x (List.mem_append_left _ hx)).1, (a3 x (List.mem_append_left _ hx)).2.1, by rw [← e]; exact lt x hx⟩⟩, ?_⟩
          refine List.mem_cons_of_mem _ (List.mem_map.mpr ⟨y.2, List.mem_filter.mpr ⟨by rw [← e]; exact hy.1, ?_⟩, by rw [← e]⟩)
          rw [decide_eq_false fun h => d3 y.2 h y.2 (List.mem_singleton.mpr rfl) rfl]
          rfl
        · refine ⟨_, (mem_allM P k (m0 ++ [y])).mpr ⟨?_, ?_, fun x hx => ⟨(a3 x hx).1, (a3 x hx).2.1, ?_⟩⟩, List.mem_cons_self ..⟩
          · rw [List.map_append, List.pairwise_append]
            exact ⟨b1, List.pairwise_singleton _ _, b3⟩
          · rw [List.map_append, List.nodup_append]
            exact ⟨d1, List.nodup_cons.mpr ⟨(fun h => nomatch h), List.nodup_nil⟩, d3⟩
          · have h2 := hy.2.2
            rcases List.mem_append.mp hx with hx | hx
            · have := lt x hx
              omega
            · rw [List.mem_singleton.mp hx]
              omega
theorem flat_len {α β : Type} (f : α → List β) (b : Nat) : ∀ l : List α, (∀ x ∈ l, (f x).length ≤ b) → (l.flatMap f).length ≤ l.length * b
  | [], _ => Nat.zero_le _
  | x :: l, h => by
    rw [List.flatMap_cons, List.length_append, List.length_cons, Nat.add_mul, Nat.one_mul]
    have := flat_len f b l fun y hy => h y (List.mem_cons_of_mem _ hy)
    have := h x (List.mem_cons_self ..)
    omega
theorem stepM_len {P : Int → List Int} (h6 : ∀ r, (P r).length ≤ 6) (k : Int) (m : MM) : (stepM P k m).length ≤ 7 := by
  unfold stepM
  rw [List.length_cons, List.length_map]
  have := List.length_filter_le (fun c => !decide (c ∈ m.map (·.2))) (P k)
  have := h6 k
  omega
theorem allM_len {P : Int → List Int} (h6 : ∀ r, (P r).length ≤ 6) : ∀ k : Nat, (allM P k).length ≤ 7 ^ k
  | 0 => Nat.le_refl _
  | k + 1 => by
    have := flat_len (stepM P k) 7 (allM P k) fun x _ => stepM_len h6 k x
    have := Nat.mul_le_mul_right 7 (allM_len h6 k)
    rw [Nat.pow_succ]
    exact Nat.le_trans (by assumption) this
theorem allM_each {P : Int → List Int} : ∀ (k : Nat) (m : MM), m ∈ allM P k → m.length ≤ k
  | 0, m, h => by
    rw [List.mem_singleton.mp (show m ∈ [[]] from h)]
    exact Nat.le_refl _
  | k + 1, m, h => by
    obtain ⟨m0, h0, hm⟩ := List.mem_flatMap.mp (show m ∈ (allM P k).flatMap (stepM P k) from h)
    have := allM_each k m0 h0
    unfold stepM at hm
    rcases List.mem_cons.mp hm with rfl | hm
    · omega
    · obtain ⟨c, _, rfl⟩ := List.mem_map.mp hm
      rw [List.length_append, List.length_singleton]
      omega
/-- lists of lists of pairs -/
abbrev Ents := List (Addr × Tups × MM)
def eRefs (es : Ents) : List V := es.map fun e => V.ref e.1
def EntAt (K : PySem.W.Frag) (H : Hp) (es : Ents) : Prop := ∀ e ∈ es, H e.1 = some (.lst (refs e.2.1)) ∧ TupsAt K H e.2.1 ∧ keys e.2.1 = pairs2 e.2.2
theorem entAt_up {K : PySem.W.Frag} {H H' : Hp} {es : Ents} (s : Same H H') (h : EntAt K H es) : EntAt K H' es := fun e he => ⟨s _ _ (h e he).1, tups_up s (h e he).2.1, (h e he).2.2⟩
theorem eRefs_push (es : Ents) (e : Addr × Tups × MM) : eRefs (es ++ [e]) = eRefs es ++ [V.ref e.1] := by unfold eRefs; rw [List.map_append]; rfl
theorem eRefs_len (es : Ents) : (eRefs es).length = es.length := List.length_map ..
theorem eRefs_at {es : Ents} {i : Nat} {y : V} (h : (eRefs es)[i]? = some y) : ∃ e, es[i]? = some e ∧ y = V.ref e.1 := by
  unfold eRefs at h
  rw [List.getElem?_map] at h
  cases e : es[i]? with
  | none => rw [e] at h; cases h
  | some q => rw [e] at h; exact ⟨q, rfl, (Option.some.inj h).symm⟩
def mms (es : Ents) : List MM := es.map fun e => e.2.2
def spAllM (K : PySem.W.Frag) : Sp := fun vs H Q _ => ∃ (t : Addr) (tb : Tups), vs = [.ref t] ∧ TabAt K H t tb ∧ tb.length ≤ 5 ∧ (∀ r, (tP (keys tb) r).length ≤ 6) ∧
  ∀ (H' : Hp) (l : Addr) (es : Ents), Same H H' → H l = none → H' l = some (.lst (eRefs es)) → EntAt K H' es → mms es = allM (tP (keys tb)) tb.length → Q (.ref l) H'
def spDrawn (K : PySem.W.Frag) : Sp := fun vs H Q _ => ∃ (p1 : Addr) (ns : List Int) (at' : Int), vs = [.ref p1, .int at'] ∧ SqL K H p1 (ns.map V.int) ∧ (∀ n ∈ ns, Num n) ∧ 0 ≤ at' ∧ at' + 6 ≤ (ns.length : Int) ∧
  ∀ (H' : Hp) (t : Addr) (tb : Tups), Same H H' → H' t = some (.lst (refs tb)) → (∀ p ∈ tb, SqL K H' p.1 (p.2.map V.int)) → tb.length ≤ 5 → (∀ p ∈ tb, p.2.Nodup ∧ ∀ c ∈ p.2, 0 ≤ c ∧ c < 6) → Q (.ref t) H'
def spSome (K : PySem.W.Frag) : Sp := fun vs H Q _ => ∃ (n : Int) (many : Nat), vs = [.int n, .int many] ∧ many ≤ 6 ∧ Num n ∧
  ∀ (H' : Hp) (l : Addr) (W : List Int), Same H H' → H' l = some (.lst (W.map V.int)) → W.Nodup → (∀ r ∈ W, 0 ≤ r ∧ r < (many : Int)) → Q (.ref l) H'
def spBent (K : PySem.W.Frag) : Sp := fun vs H Q _ => ∃ (p1 tl : Addr) (ns : List Int) (at' : Int) (ks : Tups) (m : MM), vs = [.ref p1, .int at', .ref tl] ∧ SqL K H p1 (ns.map V.int) ∧ (∀ n ∈ ns, Num n) ∧ 0 ≤ at' ∧ at' + 3 ≤ (ns.length : Int) ∧ SqL K H tl (refs ks) ∧ TupsAt K H ks ∧ keys ks = pairs2 m ∧ m.length ≤ 20 ∧
  ∀ (H' : Hp) (l : Addr) (ks' : Tups) (m' : MM), Same H H' → H' l = some (.lst (refs ks')) → TupsAt K H' ks' → keys ks' = pairs2 m' → m'.length ≤ 40 → Q (.ref l) H'
def spRowsOf (K : PySem.W.Frag) : Sp := fun vs H Q _ => ∃ (tl rl : Addr) (ks : Tups) (m : MM) (W : List Int), vs = [.ref tl, .ref rl] ∧ SqL K H tl (refs ks) ∧ TupsAt K H ks ∧ keys ks = pairs2 m ∧ m.length ≤ 40 ∧ SqL K H rl (W.map V.int) ∧
  ∀ H', Same H H' → Q (.int (m.filter fun x => decide (x.1 ∈ W)).length) H'
def spColsOf (K : PySem.W.Frag) : Sp := fun vs H Q _ => ∃ (tl rl : Addr) (ks : Tups) (m : MM) (W : List Int), vs = [.ref tl, .ref rl] ∧ SqL K H tl (refs ks) ∧ TupsAt K H ks ∧ keys ks = pairs2 m ∧ m.length ≤ 40 ∧ SqL K H rl (W.map V.int) ∧
  ∀ H', Same H H' → Q (.int (m.filter fun x => decide (x.2 ∈ W)).length) H'
end Sw

namespace Sw
open PySem PySem.Spec PyProof.Rows L2
theorem ixN_nat {j n : Nat} (h : j < n) : ixN n (j : Int) = some j := by unfold ixN; rw [if_pos (Int.natCast_nonneg j), if_pos (by omega)]; rfl
theorem seqIx_nat {j n : Nat} (h : j < n) : seqIndex? (j : Int) n = some j := by
  unfold seqIndex?
  rw [if_neg (by omega : ¬ ((j : Int) < 0))]
  show (if (decide (0 ≤ (j : Int)) && decide ((j : Int) < n)) = true then some (j : Int).toNat else none) = some j
  rw [decide_eq_true (Int.natCast_nonneg j), decide_eq_true (by omega : (j : Int) < n)]
  rfl
theorem refs_erase : ∀ (ks : Tups) (j : Nat), (refs ks).eraseIdx j = refs (ks.eraseIdx j)
  | [], _ => rfl
  | _ :: _, 0 => rfl
  | k :: ks, j + 1 => congrArg (V.ref k.1 :: ·) (refs_erase ks j)
theorem refs_rev (ks : Tups) : (refs ks).reverse = refs ks.reverse := by unfold refs; rw [List.map_reverse]
theorem refs_set (ks : Tups) (j : Nat) (p : Addr) (k : List Int) : (refs ks).set j (.ref p) = refs (ks.set j (p, k)) := by unfold refs; rw [List.map_set]
def Prs (ks : Tups) : Prop := ∀ p ∈ ks, ∃ u v : Int, p.2 = [u, v]
theorem prs_of : ∀ {ks : Tups}, Prs ks → ∃ m : MM, keys ks = pairs2 m
  | [], _ => ⟨[], rfl⟩
  | k :: ks, h => by
    obtain ⟨u, v, e⟩ := h k (List.mem_cons_self ..)
    obtain ⟨m, hm⟩ := prs_of fun p hp => h p (List.mem_cons_of_mem _ hp)
    refine ⟨(u, v) :: m, ?_⟩
    show k.2 :: keys ks = [u, v] :: pairs2 m
    rw [e, hm]
theorem prs_mm {ks : Tups} {m : MM} (h : keys ks = pairs2 m) : Prs ks := fun p hp => by
  have h1 : p.2 ∈ keys ks := List.mem_map_of_mem (f := fun z : Addr × List Int => z.2) hp
  rw [h] at h1
  obtain ⟨x, _, e⟩ := List.mem_map.mp h1
  exact ⟨x.1, x.2, e.symm⟩
theorem mm_len {ks : Tups} {m : MM} (h : keys ks = pairs2 m) : m.length = ks.length := by
  have := congrArg List.length h
  unfold pairs2 at this
  rw [keys_len, List.length_map] at this
  exact this.symm
/-- a list of pairs in the making, with what stands before and behind it among the locals -/
def BentAt (K : PySem.W.Frag) (H : Hp) (a b : List (Option V)) (n most : Nat) (S : Prop) : L2.St → Hp → Prop := fun σ H2 => ∃ (fl : Addr) (ks : Tups), σ = a ++ some (.ref fl) :: b ∧ Same H H2 ∧ H fl = none ∧ H2 fl = some (.lst (refs ks)) ∧ TupsAt K H2 ks ∧ Prs ks ∧ ks.length ≤ most ∧ (S → ks.length = n)
theorem bent_app {K : PySem.W.Frag} {H H2 H3 : Hp} {a b : List (Option V)} {fl pt : Addr} {ks : Tups} {u v : Int} {n most : Nat} {S : Prop} (nf : H fl = none) (s2 : Same H H2) (e : H2 fl = some (.lst (refs ks))) (s3 : Same H2 H3) (t : TupsAt K H3 ks) (tt : SqT K H3 pt ([u, v].map V.int)) (p : Prs ks) (l : ks.length < most) (hS : ¬ S) :
    BentAt K H a b n most S (a ++ some (.ref fl) :: b) (upd H3 fl (.lst (refs ks ++ [V.ref pt]))) := by
  have e3 := s3 _ _ e
  refine ⟨fl, ks ++ [(pt, [u, v])], rfl, same_put nf (s2.trans s3), nf, by rw [upd_same, ← refs_push], tups_app (fun q hq => sqT_lst e3 (t q hq)) (tups_one (sqT_lst e3 tt)), fun q hq => ?_, by rw [List.length_append]; exact l, fun h => absurd h hS⟩
  rcases List.mem_append.mp hq with hq | hq
  · exact p q hq
  · rw [List.mem_singleton.mp hq]
    exact ⟨u, v, rfl⟩
theorem bent_set {K : PySem.W.Frag} {H H2 H3 : Hp} {a b : List (Option V)} {fl pt : Addr} {ks : Tups} {u v : Int} {n most j : Nat} {S : Prop} (nf : H fl = none) (s2 : Same H H2) (e : H2 fl = some (.lst (refs ks))) (s3 : Same H2 H3) (t : TupsAt K H3 ks) (tt : SqT K H3 pt ([u, v].map V.int)) (p : Prs ks) (l : ks.length ≤ most) (hS : S → ks.length = n) :
    BentAt K H a b n most S (a ++ some (.ref fl) :: b) (upd H3 fl (.lst ((refs ks).set j (V.ref pt)))) := by
  have e3 := s3 _ _ e
  refine ⟨fl, ks.set j (pt, [u, v]), rfl, same_put nf (s2.trans s3), nf, by rw [upd_same, refs_set ks j pt [u, v]], fun q hq => ?_, fun q hq => ?_, by rw [List.length_set]; exact l, fun h => by rw [List.length_set]; exact hS h⟩
  · rcases List.mem_or_eq_of_mem_set hq with hq | rfl
    · exact sqT_lst e3 (t q hq)
    · exact sqT_lst e3 tt
  · rcases List.mem_or_eq_of_mem_set hq with hq | rfl
    · exact p q hq
    · exact ⟨u, v, rfl⟩
theorem kindI {kd c : Int} (g : decide (V.int kd = V.int c) = true) : kd = c := by
  have := of_decide_eq_true g
  injection this
end Sw

namespace L2
open PySem PySem.Spec PyProof.Rows
theorem call_list_ofK {X : Cx} {K : PySem.W.Frag} (h : X.K = K := by rfl) : CallR X (.type "list") (fun xs H Q => ∃ p ys, xs = [V.ref p] ∧ (SqL K H p ys ∨ SqT K H p ys) ∧ ∀ l, H l = none → Q (.ref l) (upd H l (.lst ys))) := h ▸ call_list_of
end L2

namespace Sw
open PySem PySem.Spec PyProof.Rows L2
theorem asc_pairs {g : MM} (ha : AscL (pairs2 g)) (hn : (g.map (·.1)).Nodup) : (g.map (·.1)).Pairwise (· < ·) := by
  unfold AscL pairs2 at ha
  rw [List.pairwise_map] at ha ⊢
  rw [List.Nodup, List.pairwise_map] at hn
  refine (ha.and hn).imp fun {a b} h => ?_
  obtain ⟨h1, h2⟩ := h
  have h3 : (decide (b.1 < a.1) || (decide (b.1 = a.1) && ltI [b.2] [a.2])) = false := h1
  rw [Bool.or_eq_false_iff] at h3
  have := of_decide_eq_false h3.1
  omega
theorem pairs2_inj : ∀ {a b : MM}, pairs2 a = pairs2 b → a = b
  | [], [], _ => rfl
  | [], _ :: _, h => nomatch h
  | _ :: _, [], h => nomatch h
  | x :: a, y :: b, h => by
    have h1 : [x.1, x.2] = [y.1, y.2] := (List.cons.inj h).1
    injection h1 with h2 h3
    injection h3 with h4
    rw [pairs2_inj (List.cons.inj h).2, show x = y from Prod.ext h2 h4]
def mmD (m : MM) : PyData := .list ((pairs2 m).map dTI)
theorem eqv_mm (a b : MM) : PyData.eqv (mmD a) (mmD b) = decide (a = b) := by
  show PyData.eqvAll ((pairs2 a).map dTI) ((pairs2 b).map dTI) = _
  rw [eqvAll_tups]
  by_cases h : a = b
  · rw [h, decide_eq_true rfl, decide_eq_true rfl]
  · rw [decide_eq_false h, decide_eq_false fun z => h (pairs2_inj z)]
theorem any_mms (ms : List MM) (m : MM) : ((ms.map mmD).any fun z => PyData.eqv z (mmD m)) = decide (m ∈ ms) := by
  induction ms with
  | nil => rfl
  | cons q r ih =>
    rw [List.map_cons, List.any_cons, ih, eqv_mm]
    by_cases h : q = m
    · subst h
      simp
    · rw [decide_eq_false h, Bool.false_or]
      exact decide_eq_decide.mpr ⟨fun z => List.mem_cons_of_mem _ z, fun z => by
        rcases List.mem_cons.mp z with e | e
        · exact absurd e.symm h
        · exact e⟩
theorem lay_mm (m : MM) : Lay 2 (mmD m) := lay_tups _
theorem lay_mms (ms : List MM) : Lay 3 (.list (ms.map mmD)) := lay_list fun d hd => by
  obtain ⟨m, _, rfl⟩ := List.mem_map.mp hd
  exact lay_mm m
theorem dp_mm {K : PySem.W.Frag} {H : Hp} {l : Addr} {ks : Tups} {m : MM} (h : H l = some (.lst (refs ks))) (t : TupsAt K H ks) (e : keys ks = pairs2 m) : Dp K H (.ref l) (mmD m) := by
  have := dp_l h (dp_tups t)
  rw [e] at this
  exact this
theorem dp_mms {K : PySem.W.Frag} {H : Hp} : ∀ {es : Ents}, EntAt K H es → DpAll K H (eRefs es) ((mms es).map mmD)
  | [], _ => .nil
  | e :: r, h => .cons (dp_mm (h e List.mem_cons_self).1 (h e List.mem_cons_self).2.1 (h e List.mem_cons_self).2.2) (dp_mms fun q hq => h q (List.mem_cons_of_mem _ hq))
def tabD (rows : List (List Int)) : PyData := .list (rows.map fun r => .list (r.map PyData.int))
theorem lay_tab (rows : List (List Int)) : Lay 2 (tabD rows) := lay_list fun d hd => by
  obtain ⟨r, _, rfl⟩ := List.mem_map.mp hd
  refine lay_list fun d hd => ?_
  obtain ⟨i, _, rfl⟩ := List.mem_map.mp hd
  exact lay_int 0 i
theorem dpAll_tab {K : PySem.W.Frag} {H : Hp} : ∀ {tb : Tups}, (∀ p ∈ tb, SqL K H p.1 (p.2.map V.int)) → DpAll K H (refs tb) ((keys tb).map fun r => .list (r.map PyData.int))
  | [], _ => .nil
  | p :: r, h => .cons (.lst (h p List.mem_cons_self) (dpAll_ints _)) (dpAll_tab fun q hq => h q (List.mem_cons_of_mem _ hq))
theorem dp_tab {K : PySem.W.Frag} {H : Hp} {t : Addr} {tb : Tups} (h : TabAt K H t tb) : Dp K H (.ref t) (tabD (keys tb)) := .lst h.1 (dpAll_tab h.2)
theorem isMt_iff (rows : List (List Int)) (m : MM) : isMt rows m = decide (m ∈ allM (tP rows) rows.length) := by
  have e : isMt rows m = true ↔ m ∈ allM (tP rows) rows.length := by
    rw [mem_allM]
    unfold isMt MtTo
    rw [Bool.and_eq_true, Bool.and_eq_true, asc1_iff, decide_eq_true_iff, List.all_eq_true]
    constructor
    · rintro ⟨⟨h1, h2⟩, h3⟩
      refine ⟨h1, h2, fun x hx => ?_⟩
      have h4 := of_decide_eq_true (h3 x hx)
      obtain ⟨h5, l, hl, _⟩ := tP_some h4
      have := (List.getElem?_eq_some_iff.mp hl).1
      exact ⟨h4, h5, by omega⟩
    · rintro ⟨h1, h2, h3⟩
      exact ⟨⟨h1, h2⟩, fun x hx => decide_eq_true (h3 x hx).1⟩
  by_cases h : m ∈ allM (tP rows) rows.length
  · rw [decide_eq_true h]
    exact e.mpr h
  · rw [decide_eq_false h]
    cases e2 : isMt rows m with
    | false => rfl
    | true => exact absurd (e.mp e2) h
theorem mt_of_to {P : Int → List Int} {k : Int} {m : MM} (h : MtTo P k m) : Mt P m := by
  obtain ⟨h1, h2, h3⟩ := h
  have hnd : (m.map (·.1)).Nodup := h1.imp fun {a b} h e => by omega
  refine ⟨hnd, fun r c e => (h3 (r, c) (lk_some e)).1, fun r r' c e1 e2 => ?_⟩
  have m1 := lk_some e1
  have m2 := lk_some e2
  have hns : ((swp m).map (·.1)).Nodup := by rw [swp_keys]; exact h2
  have a1 := lk_mem (m := swp m) (k := c) (v := r) hns (List.mem_map.mpr ⟨(r, c), m1, rfl⟩)
  have a2 := lk_mem (m := swp m) (k := c) (v := r') hns (List.mem_map.mpr ⟨(r', c), m2, rfl⟩)
  rw [a1] at a2
  exact Option.some.inj a2
theorem cntR {P : Int → List Int} {m : MM} {W : List Int} (h : Mt P m) (hW : W.Nodup) : (m.filter fun x => decide (x.1 ∈ W)).length = (W.filter (has m)).length := by
  have hn : ((m.filter fun x => decide (x.1 ∈ W)).map (·.1)).Nodup := List.Nodup.sublist (List.Sublist.map _ List.filter_sublist) h.nd
  have a := len_le_of_sub hn (m := W.filter (has m)) fun r hr => by
    obtain ⟨x, hx, rfl⟩ := List.mem_map.mp hr
    obtain ⟨h1, h2⟩ := List.mem_filter.mp hx
    exact List.mem_filter.mpr ⟨of_decide_eq_true h2, by unfold has; rw [lk_mem (v := x.2) h.nd h1]; rfl⟩
  have b := len_le_of_sub (hW.filter (has m)) (m := (m.filter fun x => decide (x.1 ∈ W)).map (·.1)) fun r hr => by
    obtain ⟨h1, h2⟩ := List.mem_filter.mp hr
    obtain ⟨c, e⟩ := has_some h2
    exact List.mem_map.mpr ⟨(r, c), List.mem_filter.mpr ⟨lk_some e, decide_eq_true h1⟩, rfl⟩
  rw [List.length_map] at a b
  omega
theorem cntC {P : Int → List Int} {m : MM} {C : List Int} (h : Mt P m) (hC : C.Nodup) : (m.filter fun x => decide (x.2 ∈ C)).length = (C.filter (has (swp m))).length := by
  have hn : ((m.filter fun x => decide (x.2 ∈ C)).map (·.2)).Nodup := List.Nodup.sublist (List.Sublist.map _ List.filter_sublist) h.cn
  have hns : ((swp m).map (·.1)).Nodup := by rw [swp_keys]; exact h.cn
  have a := len_le_of_sub hn (m := C.filter (has (swp m))) fun c hr => by
    obtain ⟨x, hx, rfl⟩ := List.mem_map.mp hr
    obtain ⟨h1, h2⟩ := List.mem_filter.mp hx
    refine List.mem_filter.mpr ⟨of_decide_eq_true h2, ?_⟩
    have : (x.2, x.1) ∈ swp m := List.mem_map.mpr ⟨x, h1, rfl⟩
    unfold has
    rw [lk_mem (v := x.1) hns this]
    rfl
  have b := len_le_of_sub (hC.filter (has (swp m))) (m := (m.filter fun x => decide (x.2 ∈ C)).map (·.2)) fun c hr => by
    obtain ⟨h1, h2⟩ := List.mem_filter.mp hr
    obtain ⟨r, e⟩ := has_some h2
    obtain ⟨x, hx, ex⟩ := List.mem_map.mp (lk_some e)
    have hc : x.2 = c := (Prod.mk.inj ex).1
    exact List.mem_map.mpr ⟨x, List.mem_filter.mpr ⟨hx, decide_eq_true (by rw [hc]; exact h1)⟩, hc⟩
  rw [List.length_map] at a b
  omega
theorem row6 {tb : Tups} (h : ∀ p ∈ tb, p.2.Nodup ∧ ∀ c ∈ p.2, 0 ≤ c ∧ c < 6) (r : Int) : (tP (keys tb) r).length ≤ 6 := by
  unfold tP
  split
  · cases e : (keys tb)[r.toNat]? with
    | none => exact Nat.zero_le _
    | some l =>
      have hl : l ∈ keys tb := List.mem_of_getElem? e
      obtain ⟨p, hp, rfl⟩ := List.mem_map.mp hl
      obtain ⟨hn, hr⟩ := h p hp
      have n1 : (p.2.map Int.toNat).Nodup := by
        rw [List.Nodup, List.pairwise_map]
        refine hn.imp_of_mem fun {a b} ha hb hab e => hab ?_
        have := hr a ha
        have := hr b hb
        omega
      have := nodup_below 6 _ n1 fun x hx => by
        obtain ⟨a, ha, rfl⟩ := List.mem_map.mp hx
        have := hr a ha
        omega
      rw [List.length_map] at this
      exact this
  · exact Nat.zero_le _
theorem tabOk_of {tb : Tups} (hl : tb.length ≤ 5) (h : ∀ p ∈ tb, p.2.Nodup ∧ ∀ c ∈ p.2, 0 ≤ c ∧ c < 6) : TabOk (keys tb) := by
  refine ⟨by rw [keys_len]; omega, fun l hl c hc => ?_, fun l hl => ?_⟩
  · obtain ⟨p, hp, rfl⟩ := List.mem_map.mp hl
    have := (h p hp).2 c hc
    omega
  · obtain ⟨p, hp, rfl⟩ := List.mem_map.mp hl
    exact (h p hp).1
end Sw
set_option Elab.async false
set_option linter.all false
set_option maxRecDepth 100000
set_option maxHeartbeats 4000000
/-! Comprehensions of several clauses: list comprehensions of three, set comprehensions of two. -/
namespace SwC
open PySem PySem.Spec PyProof.Rows L2
section
variable {prog : Program} {w : World} {A : Around} {R : Result → Shared → Prop} {s : Shared} {e : Expr} {d : Nat} {t i i1 : Expr} {fs : List Expr} {it acc : Value} {env : Env}
def tests (fs : List Expr) (env : Env) : Sem Bool := forIn fs true fun c r => if r = true then do
  let ok ← PySem.isTrue c env (eval c env)
  pure (ForInStep.yield ok) else pure (ForInStep.yield r)
/-- a clause with another one behind it -/
theorem loop_mid (hu : A.under (Code.compLoop e d it acc env) = A) (hq : (Code.compLoop e d it acc env).quiet = true)
    (hden : (model prog w).den (Code.compLoop e d it acc env) = (compTurn e d it acc env).onRaise (fun x => (do
      noteFrame x env
      theTreesLotGoes x))) (ht : compTurn e d it acc env = (do
      standAt i.pos
      let r ← pyNext it
      match r with
      | none => pure (Fin.done Flow.next)
      | some v => do
        letOwnedTupleGo t it v
        assign t env v
        let ok ← tests fs env
        if ok = true then do
          let x ← eval i1 env
          standAt i1.pos
          let x ← foldedSetIterable i1 env x
          let it1 ← holding [x] (pyIter x)
          let _ ← runOwn (Code.compStart e (d + 1) it1 acc env) env
          again (Code.compLoop e d it acc env)
        else again (Code.compLoop e d it acc env)))
    (hs : ∀ x, foldedSetIterable i1 env x = pure x) (I : Nat → Shared → Prop)
    (turn : ∀ n s, I n s → wpAny (model prog w) A (pyNext it) (fun r s₁ => match r with
      | none => R (Except.ok Flow.next) s₁
      | some v => wpAny (model prog w) A (letOwnedTupleGo t it v) (fun _ s₁' => wpAny (model prog w) A (assign t env v) (fun _ s₂ => wpAny (model prog w) A (tests fs env) (fun ok s₃ =>
          if ok = true then wpAny (model prog w) A (eval i1 env) (fun x s₄ => wpAny (model prog w) A (pyIter x) (fun it1 s₅ => codeAny (model prog w) A (Code.compStart e (d + 1) it1 acc env) (fun r s' => match r with
              | Except.ok _ => ∃ m, m < n ∧ I m s'
              | Except.error _ => False) s₅) (fun _ _ => False) s₄) (fun _ _ => False) s₃
          else ∃ m, m < n ∧ I m s₃) (fun _ _ => False) s₂) (fun _ _ => False) s₁') (fun _ _ => False) s₁) (fun _ _ => False) s)
    (n : Nat) (h : I n s) : codeAny (model prog w) A (Code.compLoop e d it acc env) R s := by
  refine codeAny_loop hq I (fun n s hI => ?_) n h
  rw [hu, hden]
  refine wpAny_noted ?_
  rw [ht]
  refine wpAny_bind (wpAny_standAt (wpAny_bind (wpAny_mono (turn n s hI) (fun r s₁ h₁ => ?_) fun _ _ z => z.elim)))
  cases r with
  | none => exact wpAny_pure h₁
  | some v =>
    refine wpAny_bind (wpAny_mono h₁ (fun _ s₁' h₁' => ?_) fun _ _ z => z.elim)
    refine wpAny_bind (wpAny_mono h₁' (fun _ s₂ h₂ => ?_) fun _ _ z => z.elim)
    refine wpAny_bind (wpAny_mono h₂ (fun ok s₃ h₃ => ?_) fun _ _ z => z.elim)
    cases ok with
    | false => exact wpAny_pure ⟨rfl, h₃⟩
    | true =>
      refine wpAny_bind (wpAny_mono h₃ (fun x s₄ h₄ => ?_) fun _ _ z => z.elim)
      refine wpAny_bind (wpAny_standAt (wpAny_bind (wpAny_of_eq (hs x) (wpAny_bind (wpAny_holding (wpAny_mono h₄ (fun it1 s₅ h₅ => wpAny_bind (wpAny_runOwn ?_ ?_)) fun _ _ z => z.elim))))))
      · rw [Around.mark_none]
        refine codeAny_mono h₅ fun r s' hr => ?_
        cases r with
        | ok f => exact wpAny_pure ⟨rfl, hr⟩
        | error x => exact hr.elim
      · intro x
        cases x
/-- the last clause -/
theorem loop_last {em : Sem Unit} (hu : A.under (Code.compLoop e d it acc env) = A) (hq : (Code.compLoop e d it acc env).quiet = true)
    (hden : (model prog w).den (Code.compLoop e d it acc env) = (compTurn e d it acc env).onRaise (fun x => (do
      noteFrame x env
      theTreesLotGoes x))) (ht : compTurn e d it acc env = (do
      standAt i.pos
      let r ← pyNext it
      match r with
      | none => pure (Fin.done Flow.next)
      | some v => do
        letOwnedTupleGo t it v
        assign t env v
        let ok ← tests fs env
        if ok = true then do
          em
          again (Code.compLoop e d it acc env)
        else again (Code.compLoop e d it acc env)))
    (I : Nat → Shared → Prop)
    (turn : ∀ n s, I n s → wpAny (model prog w) A (pyNext it) (fun r s₁ => match r with
      | none => R (Except.ok Flow.next) s₁
      | some v => wpAny (model prog w) A (letOwnedTupleGo t it v) (fun _ s₁' => wpAny (model prog w) A (assign t env v) (fun _ s₂ => wpAny (model prog w) A (tests fs env) (fun ok s₃ =>
          if ok = true then wpAny (model prog w) A em (fun _ s₅ => ∃ m, m < n ∧ I m s₅) (fun _ _ => False) s₃
          else ∃ m, m < n ∧ I m s₃) (fun _ _ => False) s₂) (fun _ _ => False) s₁') (fun _ _ => False) s₁) (fun _ _ => False) s)
    (n : Nat) (h : I n s) : codeAny (model prog w) A (Code.compLoop e d it acc env) R s := by
  refine codeAny_loop hq I (fun n s hI => ?_) n h
  rw [hu, hden]
  refine wpAny_noted ?_
  rw [ht]
  refine wpAny_bind (wpAny_standAt (wpAny_bind (wpAny_mono (turn n s hI) (fun r s₁ h₁ => ?_) fun _ _ z => z.elim)))
  cases r with
  | none => exact wpAny_pure h₁
  | some v =>
    refine wpAny_bind (wpAny_mono h₁ (fun _ s₁' h₁' => ?_) fun _ _ z => z.elim)
    refine wpAny_bind (wpAny_mono h₁' (fun _ s₂ h₂ => ?_) fun _ _ z => z.elim)
    refine wpAny_bind (wpAny_mono h₂ (fun ok s₃ h₃ => ?_) fun _ _ z => z.elim)
    cases ok with
    | false => exact wpAny_pure ⟨rfl, h₃⟩
    | true => exact wpAny_bind (wpAny_mono h₃ (fun _ s₄ h₄ => wpAny_pure ⟨rfl, h₄⟩) fun _ _ z => z.elim)
end
section
variable {prog : Program} {w : World} {A : Around} {R : Result → Shared → Prop} {s : Shared} {elt t i t1 i1 t2 i2 : Expr} {fs fs1 fs2 : List Expr} {scope : Scope} {pos : Pos} {it acc : Value} {env : Env}
abbrev cl (t i : Expr) (fs : List Expr) : Comprehension := ⟨t, i, fs, 0⟩
/-- the turns of the clauses -/
theorem turn3_0 : compTurn (elt.ListComp [cl t i fs, cl t1 i1 fs1, cl t2 i2 fs2] scope pos) 0 it acc env = (do
      standAt i.pos
      let r ← pyNext it
      match r with
      | none => pure (Fin.done Flow.next)
      | some v => do
        letOwnedTupleGo t it v
        assign t env v
        let ok ← tests fs env
        if ok = true then do
          let x ← eval i1 env
          standAt i1.pos
          let x ← foldedSetIterable i1 env x
          let it1 ← holding [x] (pyIter x)
          let _ ← runOwn (Code.compStart (elt.ListComp [cl t i fs, cl t1 i1 fs1, cl t2 i2 fs2] scope pos) (0 + 1) it1 acc env) env
          again (Code.compLoop (elt.ListComp [cl t i fs, cl t1 i1 fs1, cl t2 i2 fs2] scope pos) 0 it acc env)
        else again (Code.compLoop (elt.ListComp [cl t i fs, cl t1 i1 fs1, cl t2 i2 fs2] scope pos) 0 it acc env)) := rfl
theorem turn3_1 : compTurn (elt.ListComp [cl t i fs, cl t1 i1 fs1, cl t2 i2 fs2] scope pos) 1 it acc env = (do
      standAt i1.pos
      let r ← pyNext it
      match r with
      | none => pure (Fin.done Flow.next)
      | some v => do
        letOwnedTupleGo t1 it v
        assign t1 env v
        let ok ← tests fs1 env
        if ok = true then do
          let x ← eval i2 env
          standAt i2.pos
          let x ← foldedSetIterable i2 env x
          let it1 ← holding [x] (pyIter x)
          let _ ← runOwn (Code.compStart (elt.ListComp [cl t i fs, cl t1 i1 fs1, cl t2 i2 fs2] scope pos) (1 + 1) it1 acc env) env
          again (Code.compLoop (elt.ListComp [cl t i fs, cl t1 i1 fs1, cl t2 i2 fs2] scope pos) 1 it acc env)
        else again (Code.compLoop (elt.ListComp [cl t i fs, cl t1 i1 fs1, cl t2 i2 fs2] scope pos) 1 it acc env)) := rfl
theorem turnS_0 : compTurn (elt.SetComp [cl t i fs, cl t1 i1 fs1] scope pos) 0 it acc env = (do
      standAt i.pos
      let r ← pyNext it
      match r with
      | none => pure (Fin.done Flow.next)
      | some v => do
        letOwnedTupleGo t it v
        assign t env v
        let ok ← tests fs env
        if ok = true then do
          let x ← eval i1 env
          standAt i1.pos
          let x ← foldedSetIterable i1 env x
          let it1 ← holding [x] (pyIter x)
          let _ ← runOwn (Code.compStart (elt.SetComp [cl t i fs, cl t1 i1 fs1] scope pos) (0 + 1) it1 acc env) env
          again (Code.compLoop (elt.SetComp [cl t i fs, cl t1 i1 fs1] scope pos) 0 it acc env)
        else again (Code.compLoop (elt.SetComp [cl t i fs, cl t1 i1 fs1] scope pos) 0 it acc env)) := rfl
def emL (elt : Expr) (acc : Value) (env : Env) : Sem Unit := do
  let y ← eval elt env
  let _ ← call (Value.builtin "list.append") [acc, y]
  pure ()
def emS (elt : Expr) (acc : Value) (env : Env) : Sem Unit := do
  let y ← eval elt env
  standAt elt.pos
  let _ ← call (Value.builtin "set.add") [acc, y]
  pure ()
theorem turn3_2 : compTurn (elt.ListComp [cl t i fs, cl t1 i1 fs1, cl t2 i2 fs2] scope pos) 2 it acc env = (do
      standAt i2.pos
      let r ← pyNext it
      match r with
      | none => pure (Fin.done Flow.next)
      | some v => do
        letOwnedTupleGo t2 it v
        assign t2 env v
        let ok ← tests fs2 env
        if ok = true then do
          emL elt acc env
          again (Code.compLoop (elt.ListComp [cl t i fs, cl t1 i1 fs1, cl t2 i2 fs2] scope pos) 2 it acc env)
        else again (Code.compLoop (elt.ListComp [cl t i fs, cl t1 i1 fs1, cl t2 i2 fs2] scope pos) 2 it acc env)) := rfl
theorem turnS_1 : compTurn (elt.SetComp [cl t i fs, cl t1 i1 fs1] scope pos) 1 it acc env = (do
      standAt i1.pos
      let r ← pyNext it
      match r with
      | none => pure (Fin.done Flow.next)
      | some v => do
        letOwnedTupleGo t1 it v
        assign t1 env v
        let ok ← tests fs1 env
        if ok = true then do
          emS elt acc env
          again (Code.compLoop (elt.SetComp [cl t i fs, cl t1 i1 fs1] scope pos) 1 it acc env)
        else again (Code.compLoop (elt.SetComp [cl t i fs, cl t1 i1 fs1] scope pos) 1 it acc env)) := rfl
end
section
variable {prog : Program} {w : World} {A : Around} {R : Result → Shared → Prop} {s : Shared} {e : Expr} {d : Nat} {i : Expr} {it acc : Value} {env : Env} {p : Pos}
theorem start_at (hu : A.under (Code.compStart e d it acc env) = A) (hq : ∀ it, (Code.compLoop e d it acc env).quiet = true)
    (hden : (model prog w).den (Code.compStart e d it acc env) = (compStart e d it acc env).onRaise (fun x => (do
      noteFrame x env
      standAt p)))
    (hs : compStart e d it acc env = (do
      let a ← ask
      if a.params.followText "comprehension-iter-twice" = true then again (Code.compLoop e d it acc env)
      else do
        rule "comprehension.iter-twice"
        standAt i.pos
        let it' ← pyIter it
        again (Code.compLoop e d it' acc env)))
    (h0 : codeAny (model prog w) A (Code.compLoop e d it acc env) R s)
    (h : wpAny (model prog w) A (pyIter it) (fun it' s' => codeAny (model prog w) A (Code.compLoop e d it' acc env) R s') (fun _ _ => False) s) :
    codeAny (model prog w) A (Code.compStart e d it acc env) R s := by
  refine codeAny_of_tree ?_
  rw [hu, hden]
  refine wpAny_notedAt ?_
  rw [hs]
  refine wpAny_bind (wpAny_askSetting (wpAny_ite ?_))
  split
  · exact wpAny_pure ⟨hq _, h0⟩
  · exact wpAny_bind (wpAny_rule (wpAny_bind (wpAny_standAt (wpAny_bind (wpAny_mono h (fun it' s' h' => wpAny_pure ⟨hq _, h'⟩) fun _ _ z => z.elim)))))
end
end SwC
namespace SwC
open PySem PySem.Spec PyProof.Rows L2
abbrev Body := L2.St → Hp → (Hp → Prop) → Prop
/-- one clause: what it walks, its target, its tests, and what is done in each turn -/
def tCl (wi : TI) (g : TG) (tt : TT) (vs : List Nat) (body : Body) : Body := fun σ H Nx => wi σ H fun J H1 => ∃ W : Nat → Nat → Hp → Prop, (∃ m, W 0 m H1) ∧ ∀ j k H, W j k H → (J.stop j H ∧ Nx H) ∨ (J.go j H ∧ ∃ N1 : Hp → Prop, (∀ H', N1 H' → ∃ k', k' < k ∧ W (j + 1) k' H') ∧ ∀ x H', J.yld j H x H' → g x (wipe σ vs) H' fun σ3 H5 => wipe σ3 vs = wipe σ vs ∧ tt σ3 H5 fun b H6 => if b = true then body σ3 H6 N1 else N1 H6)
def Does (X : Cx) (B : (Shared → Prop) → Shared → Prop) (body : Body) (vs : List Nat) : Prop := ∀ (pins : List (Addr × Obj)) (σ : L2.St) (H : Hp) (s : Shared) (Nx : Hp → Prop), L2.Inv X pins σ H s → body σ H Nx → B (fun s' => ∃ H', L2.Inv X pins (wipe σ vs) H' s' ∧ Nx H') s
def LoopOk (M : Model) (A : Around) (env : Env) (e : Expr) (d : Nat) (acc : Value) (t : Expr) (fs : List Expr) (B : (Shared → Prop) → Shared → Prop) : Prop := ∀ (R : Result → Shared → Prop) (it : Value) (I : Nat → Shared → Prop),
  (∀ n s, I n s → wpAny M A (pyNext it) (fun r s₁ => match r with
      | none => R (Except.ok Flow.next) s₁
      | some v => wpAny M A (letOwnedTupleGo t it v) (fun _ s₁' => wpAny M A (assign t env v) (fun _ s₂ => wpAny M A (tests fs env) (fun ok s₃ =>
          if ok = true then B (fun s' => ∃ m, m < n ∧ I m s') s₃
          else ∃ m, m < n ∧ I m s₃) (fun _ _ => False) s₂) (fun _ _ => False) s₁') (fun _ _ => False) s₁) (fun _ _ => False) s) →
  ∀ (n : Nat) (s : Shared), I n s → codeAny M A (Code.compLoop e d it acc env) R s
/-- the walk of a clause -/
theorem cl_loop {X : Cx} {B : (Shared → Prop) → Shared → Prop} {body : Body} {vs vsB : List Nat} {t : Expr} {fs : List Expr} {e : Expr} {d : Nat} {acc : Value} {g : TG} {tt : TT} {J : It} {fp : List Addr} {it : Addr} {tn : Nat → Heap → Prop} {pins : List (Addr × Obj)} {σ : L2.St} {R : Result → Shared → Prop} {Nx : Hp → Prop} {W : Nat → Nat → Hp → Prop}
    (hxe : X.xe = fun _ _ => False) (hc : X.calm = true)
    (hB : ∀ (P P' : Shared → Prop) s, (∀ s', P s' → P' s') → B P s → B P' s)
    (pg : PG X t g) (pt : PTs X fs tt) (hl : LoopOk (model X.prog X.w) X.A X.env e d acc t fs B) (hd : Does X B body vsB) (hv : ∀ i ∈ vsB, i ∈ vs)
    (T : Turn X.prog X.w X.K t J fp it tn) (f : ∀ H, (∀ b ∈ fp, H b = none) → ∀ b ∈ fp, FpOk X pins H b)
    (turn : ∀ j k H, W j k H → (J.stop j H ∧ Nx H) ∨ (J.go j H ∧ ∃ N1 : Hp → Prop, (∀ H', N1 H' → ∃ k', k' < k ∧ W (j + 1) k' H') ∧ ∀ x H', J.yld j H x H' → g x (wipe σ vs) H' fun σ3 H5 => wipe σ3 vs = wipe σ vs ∧ tt σ3 H5 fun b H6 => if b = true then body σ3 H6 N1 else N1 H6))
    (hR : ∀ H' s', L2.Inv X pins (wipe σ vs) H' s' → Nx H' → R (Except.ok Flow.next) s')
    {j m : Nat} {H : Hp} {s : Shared} (I0 : L2.Inv X pins (wipe σ vs) H s) (st : tn j s.heap) (n0 : ∀ b ∈ fp, H b = none) (w0 : W j m H) :
    codeAny (model X.prog X.w) X.A (Code.compLoop e d (.ref it) acc X.env) R s := by
  refine hl R (.ref it) (fun k s' => ∃ j H', L2.Inv X pins (wipe σ vs) H' s' ∧ tn j s'.heap ∧ (∀ b ∈ fp, H' b = none) ∧ W j k H') (fun n s5 a => ?_) m s ⟨j, H, I0, st, n0, w0⟩
  obtain ⟨j, H5, I5, st5, n5, w5⟩ := a
  rcases turn j n H5 w5 with ⟨stop, nx⟩ | ⟨go, N1, hN1, step⟩
  · refine thnF (T.done X rfl rfl rfl hc j pins s5 (wipe σ vs) H5 (fun _ _ => False) I5 (f H5 n5) st5 stop) fun r s6 z => ?_
    obtain ⟨rfl, I6⟩ := z
    exact hR H5 s6 I6 nx
  · refine thnF (T.item X rfl rfl rfl hc j pins s5 (wipe σ vs) H5 (fun _ _ => False) I5 (f H5 n5) st5 go) fun r s6 z => ?_
    obtain ⟨u, rfl, h6⟩ := z
    refine thnF h6 fun _ s7 z => ?_
    obtain ⟨x, H7, I7, r7, y7, st7, n7⟩ := z
    have I7' := I7.pinned (f H7 n7) (T.obj (j + 1) s7.heap st7)
    have h1 := pg.run (pins ++ pinsAt fp s7.heap) s7 (wipe σ vs) H7 x u _ I7' r7 (step x H7 y7)
    rw [hxe] at h1
    refine thnF h1 fun _ s8 z => ?_
    obtain ⟨σ8, H8, I8, hw8, q8⟩ := z
    have h2 := pt.run (pins ++ pinsAt fp s7.heap) s8 σ8 H8 _ I8 q8
    rw [hxe] at h2
    refine thnF h2 fun b s9 z => ?_
    obtain ⟨H9, I9, q9⟩ := z
    have fin : ∀ {σ9 : L2.St} {s' : Shared} {H' : Hp}, L2.Inv X (pins ++ pinsAt fp s7.heap) σ9 H' s' → (wipe σ vs).length = σ9.length → (∀ (i : Nat) (v : V), (wipe σ vs)[i]? = some (some v) → σ9[i]? = some (some v)) → N1 H' → ∃ m, m < n ∧ ∃ j H', L2.Inv X pins (wipe σ vs) H' s' ∧ tn j s'.heap ∧ (∀ b ∈ fp, H' b = none) ∧ W j m H' := by
      intro σ9 s' H' I' h1 h2 nx
      obtain ⟨m', hm, w'⟩ := hN1 H' nx
      have pin' : ∀ b ∈ fp, ∀ o, s7.heap.get? b = some o → s'.heap.get? b = some o ∧ H' b = none := fun b hb o ho => by
        have z := I'.pin (b, o) (List.mem_append_right _ (List.mem_append_right _ (mem_pinsAt hb ho)))
        exact ⟨z.1, z.2.1⟩
      refine ⟨m', hm, j + 1, H', (I'.unpinned).weak h1 h2, T.keep (j + 1) s7.heap s'.heap st7 fun b hb o ho => (pin' b hb o ho).1, fun b hb => ?_, w'⟩
      obtain ⟨o, ho, _⟩ := T.obj (j + 1) s7.heap st7 b hb
      exact (pin' b hb o ho).2
    have hl8 : (wipe σ vs).length = σ8.length := by rw [← hw8, wipe_length]
    cases b with
    | false => exact fin I9 hl8 (fun j v ej => (wipe_some (by rw [hw8]; exact ej)).1) q9
    | true =>
      refine hB _ _ _ (fun s' z => ?_) (hd _ σ8 H9 s9 N1 I9 q9)
      obtain ⟨H10, I10, nx⟩ := z
      refine fin I10 (hl8.trans (wipe_length σ8 vsB).symm) (fun j v ej => ?_) nx
      obtain ⟨e1, e2⟩ := wipe_some (σ := σ8) (vs := vs) (by rw [hw8]; exact ej)
      rw [wipe_out fun z => e2 (hv j z)]
      exact e1
/-- a clause behind another one -/
def BMid (M : Model) (A : Around) (env : Env) (e : Expr) (d : Nat) (i : Expr) (acc : Value) : (Shared → Prop) → Shared → Prop := fun P s => wpAny M A (eval i env) (fun x s₄ => wpAny M A (pyIter x) (fun it1 s₅ => codeAny M A (Code.compStart e d it1 acc env) (fun r s' => match r with
  | Except.ok _ => P s'
  | Except.error _ => False) s₅) (fun _ _ => False) s₄) (fun _ _ => False) s
def StartOk (M : Model) (A : Around) (env : Env) (e : Expr) (d : Nat) (acc : Value) : Prop := ∀ (R : Result → Shared → Prop) (it : Value) (s : Shared), codeAny M A (Code.compLoop e d it acc env) R s → wpAny M A (pyIter it) (fun it' s' => codeAny M A (Code.compLoop e d it' acc env) R s') (fun _ _ => False) s → codeAny M A (Code.compStart e d it acc env) R s
theorem cl_does {X : Cx} {B : (Shared → Prop) → Shared → Prop} {body : Body} {vs vsB : List Nat} {t i : Expr} {fs : List Expr} {e : Expr} {d : Nat} {acc : Value} {wi : TI} {g : TG} {tt : TT}
    (hxe : X.xe = fun _ _ => False) (hc : X.calm = true)
    (hB : ∀ (P P' : Shared → Prop) s, (∀ s', P s' → P' s') → B P s → B P' s)
    (pi : PI X t i wi) (pg : PG X t g) (pt : PTs X fs tt) (hl : LoopOk (model X.prog X.w) X.A X.env e d acc t fs B) (hs : StartOk (model X.prog X.w) X.A X.env e d acc) (hd : Does X B body vsB) (hv : ∀ i ∈ vsB, i ∈ vs) :
    Does X (BMid (model X.prog X.w) X.A X.env e d i acc) (tCl wi g tt vs body) vs := by
  intro pins σ H s Nx I h
  have h1 := pi.run pins s σ H _ I h
  rw [hxe] at h1
  refine thnF h1 fun xv s1 hx => thnF hx fun itv s2 h2 => ?_
  obtain ⟨it, fp, tn, J, H2, rfl, I2, T, st2, f2, W, ⟨m0, w0⟩, turn⟩ := h2
  have f : ∀ H, (∀ b ∈ fp, H b = none) → ∀ b ∈ fp, FpOk X pins H b := fun H hn b hb => ⟨hn b hb, (f2 b hb).2⟩
  have I2' : L2.Inv X pins (wipe σ vs) H2 s2 := I2.weak (wipe_length σ vs) fun j v ej => (wipe_some ej).1
  have loop : codeAny (model X.prog X.w) X.A (Code.compLoop e d (.ref it) acc X.env) (fun r s' => match r with
      | Except.ok _ => ∃ H', L2.Inv X pins (wipe σ vs) H' s' ∧ Nx H'
      | Except.error _ => False) s2 :=
    cl_loop hxe hc hB pg pt hl hd hv T f turn (fun H' s' I' nx => ⟨H', I', nx⟩) I2' st2 (fun b hb => (f2 b hb).1) w0
  exact hs _ _ _ loop (T.self _ 0 _ _ _ st2 loop)
/-- the first clause, when what it fills has been made -/
theorem outer {X : Cx} {pins : List (Addr × Obj)} {σ : L2.St} {H2 : Hp} {s2 S3 : Shared} {Q : VK} {ob : Obj} {o : HO} {D : Addr} {B : (Shared → Prop) → Shared → Prop} {body : Body} {vsB : List Nat} {t : Expr} {fs : List Expr} {e : Expr} {g : TG} {tt : TT} {J : It} {fp : List Addr} {it : Addr} {tn : Nat → Heap → Prop} {W : Nat → Nat → Hp → Prop} {scope : Scope} {own : List (Str × Nat)}
    (hc : X.calm = true) (hN : X.N.Nodup) (ok : BlkOk X.N X.env.scope scope own)
    (hB : ∀ (P P' : Shared → Prop) s, (∀ s', P s' → P' s') → B P s → B P' s)
    (hS : S3 = { s2 with heap := s2.heap.push ob }) (hD : D = s2.heap.objs.size)
    (I3 : L2.Inv X pins σ (upd H2 D o) S3) (T : Turn X.prog X.w X.K t J fp it tn) (st2 : tn 0 s2.heap) (f2 : ∀ b ∈ fp, FpOk X pins H2 b)
    (pg : PG (X.blk S3 (upd H2 D o) scope (compEnvC scope (cellsFrom (S3.heap.objs.size + 1) scope.names (cloFrom X.env.cells scope.names [])) S3.heap.objs.size X.env) fp) t g)
    (pt : PTs (X.blk S3 (upd H2 D o) scope (compEnvC scope (cellsFrom (S3.heap.objs.size + 1) scope.names (cloFrom X.env.cells scope.names [])) S3.heap.objs.size X.env) fp) fs tt)
    (hl : LoopOk (model X.prog X.w) X.A (compEnvC scope (cellsFrom (S3.heap.objs.size + 1) scope.names (cloFrom X.env.cells scope.names [])) S3.heap.objs.size X.env) e 0 (.ref D) t fs B)
    (hs : StartOk (model X.prog X.w) X.A (compEnvC scope (cellsFrom (S3.heap.objs.size + 1) scope.names (cloFrom X.env.cells scope.names [])) S3.heap.objs.size X.env) e 0 (.ref D))
    (hd : Does (X.blk S3 (upd H2 D o) scope (compEnvC scope (cellsFrom (S3.heap.objs.size + 1) scope.names (cloFrom X.env.cells scope.names [])) S3.heap.objs.size X.env) fp) B body vsB) (hv : ∀ i ∈ vsB, i ∈ own.map (·.2))
    {m0 : Nat} (w0 : W 0 m0 (upd H2 D o))
    (turn : ∀ j k H, W j k H → (J.stop j H ∧ Q (.ref D) H) ∨ (J.go j H ∧ ∃ N1 : Hp → Prop, (∀ H', N1 H' → ∃ k', k' < k ∧ W (j + 1) k' H') ∧ ∀ x H', J.yld j H x H' → g x (wipe σ (own.map (·.2))) H' fun σ3 H5 => wipe σ3 (own.map (·.2)) = wipe σ (own.map (·.2)) ∧ tt σ3 H5 fun b H6 => if b = true then body σ3 H6 N1 else N1 H6)) :
    codeAny (model X.prog X.w) X.A (Code.compStart e 0 (.ref it) (.ref D) (compEnvC scope (cellsFrom (S3.heap.objs.size + 1) scope.names (cloFrom X.env.cells scope.names [])) S3.heap.objs.size X.env))
      (compPost (model X.prog X.w) X.A X.xe none (EP X pins σ Q) (.ref D) S3.heap.objs.size)
      { heap := pushCells (S3.heap.push { cls := Value.type "dict", data := Data.dict #[] }) scope.names, gens := S3.gens, drawn := S3.drawn, toks := S3.toks, os := S3.os } := by
  have h3 : S3.heap = s2.heap.push ob := by rw [hS]
  have f3 : ∀ b ∈ fp, FpOk X pins (upd H2 D o) b ∧ b < S3.heap.objs.size := fun b hb => by
    obtain ⟨ob', e', _⟩ := T.obj 0 s2.heap st2 b hb
    have hlt := Heap.lt_size e'
    refine ⟨⟨?_, (f2 b hb).2⟩, ?_⟩
    · rw [upd_ne (by rw [hD]; exact Nat.ne_of_lt hlt)]
      exact (f2 b hb).1
    · rw [h3, Heap.size_push]
      exact Nat.lt_succ_of_lt hlt
  have n3 : ∀ b ∈ fp, (upd H2 D o) b = none := fun b hb => (f3 b hb).1.1
  have I4 := block_start I3 ok hN f3
  have st4 : tn 0 (pushCells (S3.heap.push { cls := Value.type "dict", data := Data.dict #[] }) scope.names) := T.keep 0 s2.heap _ st2 fun b _ ob' e' => pushCells_keeps scope.names _ b ob' (Heap.get?_push_of_some _ (by rw [h3]; exact Heap.get?_push_of_some _ e'))
  have f : ∀ H, (∀ b ∈ fp, H b = none) → ∀ b ∈ fp, FpOk (X.blk S3 (upd H2 D o) scope (compEnvC scope (cellsFrom (S3.heap.objs.size + 1) scope.names (cloFrom X.env.cells scope.names [])) S3.heap.objs.size X.env) fp) [] H b := fun H hn b hb =>
    ⟨hn b hb, (I4.ok.exf b hb).1, I4.ok.exfs b hb, .inl hb, fun x c e => (I4.ok.exf b hb).2 x c e, fun p hp => by cases hp⟩
  have loop := cl_loop (X := X.blk S3 (upd H2 D o) scope (compEnvC scope (cellsFrom (S3.heap.objs.size + 1) scope.names (cloFrom X.env.cells scope.names [])) S3.heap.objs.size X.env) fp) (R := compPost (model X.prog X.w) X.A X.xe none (EP X pins σ Q) (.ref D) S3.heap.objs.size) rfl hc hB pg pt hl hd hv T f turn (fun H' s6 I6 q => ?_) I4 st4 n3 w0
  · exact hs _ _ _ loop (T.self _ 0 _ _ _ st4 loop)
  · have I7 : L2.Inv X pins σ H' s6 := Inv.call' I3 I6.os I6.base I6.hok I6.bare fun b hb => ⟨(f3 b hb).1.2.2.2.1, (f3 b hb).1.2.1, (f3 b hb).1.2.2.2.2.1, (f3 b hb).1.2.2.2.2.2⟩
    have nC : H' S3.heap.objs.size = none := I6.free
    obtain ⟨m, hn, _⟩ := I6.loc
    obtain ⟨f0, f1, f2', f3', f4, f5⟩ := Inv.fpOk I3 (Nat.le_refl S3.heap.objs.size) nC
    exact ⟨m, hn, fun h'' sb => ⟨.ref D, H', Inv.turned I7 (fun b o hb e => (sb.2 b hb).trans e) f0 f1 f3' f4 f5, rfl, q⟩⟩
theorem bMid_mono {M : Model} {A : Around} {env : Env} {e : Expr} {d : Nat} {i : Expr} {acc : Value} (P P' : Shared → Prop) (s : Shared) (h : ∀ s', P s' → P' s') (b : BMid M A env e d i acc P s) : BMid M A env e d i acc P' s :=
  thnF b fun x s₄ h₄ => thnF h₄ fun it1 s₅ h₅ => codeAny_mono h₅ fun r s' hr => by
    cases r with
    | ok _ => exact h s' hr
    | error _ => exact hr.elim
def BLast (M : Model) (A : Around) (em : Sem Unit) : (Shared → Prop) → Shared → Prop := fun P s => wpAny M A em (fun _ s' => P s') (fun _ _ => False) s
theorem bLast_mono {M : Model} {A : Around} {em : Sem Unit} (P P' : Shared → Prop) (s : Shared) (h : ∀ s', P s' → P' s') (b : BLast M A em P s) : BLast M A em P' s := thnF b fun _ s' z => h s' z
def bodyL (te : TE) (D : Addr) : Body := fun σ H Nx => te σ H fun y H4 => ∃ acc, H4 D = some (.lst acc) ∧ acc.length < sizeLine ∧ Nx (upd H4 D (.lst (acc ++ [y])))
def bodyS (w : World) (te : TE) (D : Addr) : Body := fun σ H Nx => te σ H fun y H4 => ∃ (c : Int) (S : Int → Bool) (n : Nat), y = .int c ∧ H4 D = some (SetO w D S n) ∧ n + 1 < scanBound ∧ Nx (upd H4 D (SetO w D (fun j => S j || decide (j = c)) (if S c = true then n else n + 1)))
theorem does_L {X : Cx} {elt : Expr} {te : TE} {D : Addr} (hxe : X.xe = fun _ _ => False) (pe : PE X elt te) : Does X (BLast (model X.prog X.w) X.A (emL elt (.ref D) X.env)) (bodyL te D) [] := by
  intro pins σ H s Nx I h
  have h1 := pe.run pins s σ H _ I h
  rw [hxe] at h1
  refine wpAny_bind (thnF h1 fun u s1 z => ?_)
  obtain ⟨y, H4, I4, r4, acc, e4, l4, nx⟩ := z
  exact wpAny_bind (app_ok I4 e4 l4 r4 fun s' I' => wpAny_pure ⟨_, I'.weak (wipe_length _ _) (fun j v ej => (wipe_some ej).1), nx⟩)
theorem does_S {X : Cx} {elt : Expr} {te : TE} {D : Addr} (hxe : X.xe = fun _ _ => False) (pe : PE X elt te) : Does X (BLast (model X.prog X.w) X.A (emS elt (.ref D) X.env)) (bodyS X.w te D) [] := by
  intro pins σ H s Nx I h
  have h1 := pe.run pins s σ H _ I h
  rw [hxe] at h1
  refine wpAny_bind (thnF h1 fun u s1 z => ?_)
  obtain ⟨y, H4, I4, r4, c, S, n, rfl, e4, l4, nx⟩ := z
  have h2 := mt_sadd (X := X) pins s1 σ H4 (.ref D) [.int c] (.ref D) [u] (fun _ H' => Nx H') I4 rfl (.cons r4 .nil) ⟨D, c, S, n, rfl, rfl, e4, l4, nx⟩
  rw [hxe] at h2
  refine wpAny_bind (wpAny_standAt (wpAny_bind (thnF h2 fun _ s' z => wpAny_pure ?_)))
  obtain ⟨_, H5, I5, _, nx5⟩ := z
  exact ⟨H5, I5.weak (wipe_length _ _) (fun j v ej => (wipe_some ej).1), nx5⟩
/-- a list comprehension: the walk of its first clause, what is done in each turn -/
def tLcN (wi : TI) (g : TG) (tt : TT) (vs : List Nat) (body : Addr → Body) : TE := fun σ H Q => wi σ H fun J H1 => ∀ D, H1 D = none → ∃ W : Nat → Nat → Hp → Prop, (∃ m, W 0 m (upd H1 D (.lst []))) ∧ ∀ j k H, W j k H → (J.stop j H ∧ Q (.ref D) H) ∨ (J.go j H ∧ ∃ N1 : Hp → Prop, (∀ H', N1 H' → ∃ k', k' < k ∧ W (j + 1) k' H') ∧ ∀ x H', J.yld j H x H' → g x (wipe σ vs) H' fun σ3 H5 => wipe σ3 vs = wipe σ vs ∧ tt σ3 H5 fun b H6 => if b = true then body D σ3 H6 N1 else N1 H6)
def tScN (w : World) (wi : TI) (g : TG) (tt : TT) (vs : List Nat) (body : Addr → Body) : TE := fun σ H Q => wi σ H fun J H1 => ∀ D, H1 D = none → ∃ W : Nat → Nat → Hp → Prop, (∃ m, W 0 m (upd H1 D (SetO w D (fun _ => false) 0))) ∧ ∀ j k H, W j k H → (J.stop j H ∧ Q (.ref D) H) ∨ (J.go j H ∧ ∃ N1 : Hp → Prop, (∀ H', N1 H' → ∃ k', k' < k ∧ W (j + 1) k' H') ∧ ∀ x H', J.yld j H x H' → g x (wipe σ vs) H' fun σ3 H5 => wipe σ3 vs = wipe σ vs ∧ tt σ3 H5 fun b H6 => if b = true then body D σ3 H6 N1 else N1 H6)
section
variable {X : Cx} {elt t i t1 i1 t2 i2 : Expr} {fs fs1 fs2 : List Expr} {scope : Scope} {own : List (Str × Nat)} {vs1 vs2 : List Nat} {pos : Pos} {wi wi1 wi2 : TI} {g g1 g2 : TG} {tt tt1 tt2 : TT} {te : TE}
theorem pe_lc3 (hc : X.calm = true) (hN : X.N.Nodup) (hi : PI X t i wi) (ok : BlkOk X.N X.env.scope scope own) (hv1 : ∀ i ∈ vs1, i ∈ own.map (·.2)) (hv2 : ∀ i ∈ vs2, i ∈ vs1)
    (hg : ∀ (s : Shared) (H : Hp) (C : Addr) (cl : List (Str × Addr)) (fp : List Addr), PG (X.blk s H scope (compEnvC scope cl C X.env) fp) t g)
    (ht : ∀ (s : Shared) (H : Hp) (C : Addr) (cl : List (Str × Addr)) (fp : List Addr), PTs (X.blk s H scope (compEnvC scope cl C X.env) fp) fs tt)
    (hi1 : ∀ (s : Shared) (H : Hp) (C : Addr) (cl : List (Str × Addr)) (fp : List Addr), PI (X.blk s H scope (compEnvC scope cl C X.env) fp) t1 i1 wi1)
    (hg1 : ∀ (s : Shared) (H : Hp) (C : Addr) (cl : List (Str × Addr)) (fp : List Addr), PG (X.blk s H scope (compEnvC scope cl C X.env) fp) t1 g1)
    (ht1 : ∀ (s : Shared) (H : Hp) (C : Addr) (cl : List (Str × Addr)) (fp : List Addr), PTs (X.blk s H scope (compEnvC scope cl C X.env) fp) fs1 tt1)
    (hi2 : ∀ (s : Shared) (H : Hp) (C : Addr) (cl : List (Str × Addr)) (fp : List Addr), PI (X.blk s H scope (compEnvC scope cl C X.env) fp) t2 i2 wi2)
    (hg2 : ∀ (s : Shared) (H : Hp) (C : Addr) (cl : List (Str × Addr)) (fp : List Addr), PG (X.blk s H scope (compEnvC scope cl C X.env) fp) t2 g2)
    (ht2 : ∀ (s : Shared) (H : Hp) (C : Addr) (cl : List (Str × Addr)) (fp : List Addr), PTs (X.blk s H scope (compEnvC scope cl C X.env) fp) fs2 tt2)
    (he : ∀ (s : Shared) (H : Hp) (C : Addr) (cl : List (Str × Addr)) (fp : List Addr), PE (X.blk s H scope (compEnvC scope cl C X.env) fp) elt te)
    (hs : ∀ x, foldedSetIterable i X.env x = pure x := by intros; rfl) (hs1 : ∀ (env : Env) x, foldedSetIterable i1 env x = pure x := by intros; rfl) (hs2 : ∀ (env : Env) x, foldedSetIterable i2 env x = pure x := by intros; rfl) :
    PE X (.ListComp elt [cl t i fs, cl t1 i1 fs1, cl t2 i2 fs2] scope pos) (tLcN wi g tt (own.map (·.2)) fun D => tCl wi1 g1 tt1 vs1 (tCl wi2 g2 tt2 vs2 (bodyL te D))) := by
  constructor
  intro pins s σ H Q I h
  rw [eval_ListComp]
  refine wpAny_comprehension_free rfl hs (closure_ok fun y hy e => (ok.free y hy e).elim (fun k => I.ok.has y.1 (.inl k)) fun k => I.ok.has y.1 (.inr k)) ok.kind (fun y hy e => by rw [ok.uniq y hy, e]) (thn (hi.run pins s σ H _ I h) fun xv s1 hx => thn hx fun itv s2 h2 => ?_)
  obtain ⟨it, fp, tn, J, H2, rfl, I2, T, st2, f2, q⟩ := h2
  refine wpAny_newObj_type (newEnv_comp ?_)
  obtain ⟨W, ⟨m0, w0⟩, turn⟩ := q s2.heap.objs.size (HOk.fresh I2.hok (Nat.le_refl _))
  have I3 : L2.Inv X pins σ (upd H2 s2.heap.objs.size (.lst [])) { s2 with heap := s2.heap.push { cls := Value.type "list", data := Data.seq #[] } } :=
    Inv.laid I2 (fun b o e => Heap.get?_push_of_some _ e) (Nat.le_refl _) ⟨Nat.zero_le _, [], 0, .nil, Heap.get?_push_size s2.heap rfl⟩
  exact outer (S3 := { s2 with heap := s2.heap.push { cls := Value.type "list", data := Data.seq #[] } }) (D := s2.heap.objs.size) hc hN ok bMid_mono rfl rfl I3 T st2 f2 (hg _ _ _ _ _) (ht _ _ _ _ _)
    (fun R it I turn n s h => loop_mid rfl rfl rfl turn3_0 (hs1 _) I turn n h) (fun R it s h0 h => start_at rfl (fun _ => rfl) rfl rfl h0 h)
    (cl_does rfl hc bMid_mono (hi1 _ _ _ _ _) (hg1 _ _ _ _ _) (ht1 _ _ _ _ _) (fun R it I turn n s h => loop_mid rfl rfl rfl turn3_1 (hs2 _) I turn n h) (fun R it s h0 h => start_at rfl (fun _ => rfl) rfl rfl h0 h)
      (cl_does (vsB := []) rfl hc bLast_mono (hi2 _ _ _ _ _) (hg2 _ _ _ _ _) (ht2 _ _ _ _ _) (fun R it I turn n s h => loop_last rfl rfl rfl turn3_2 I turn n h) (fun R it s h0 h => start_at rfl (fun _ => rfl) rfl rfl h0 h) (does_L rfl (he _ _ _ _ _)) (fun _ h => by cases h)) hv2) hv1 w0 turn
theorem pe_sc2 (hc : X.calm = true) (hN : X.N.Nodup) (hi : PI X t i wi) (ok : BlkOk X.N X.env.scope scope own) (hv1 : ∀ i ∈ vs1, i ∈ own.map (·.2))
    (hg : ∀ (s : Shared) (H : Hp) (C : Addr) (cl : List (Str × Addr)) (fp : List Addr), PG (X.blk s H scope (compEnvC scope cl C X.env) fp) t g)
    (ht : ∀ (s : Shared) (H : Hp) (C : Addr) (cl : List (Str × Addr)) (fp : List Addr), PTs (X.blk s H scope (compEnvC scope cl C X.env) fp) fs tt)
    (hi1 : ∀ (s : Shared) (H : Hp) (C : Addr) (cl : List (Str × Addr)) (fp : List Addr), PI (X.blk s H scope (compEnvC scope cl C X.env) fp) t1 i1 wi1)
    (hg1 : ∀ (s : Shared) (H : Hp) (C : Addr) (cl : List (Str × Addr)) (fp : List Addr), PG (X.blk s H scope (compEnvC scope cl C X.env) fp) t1 g1)
    (ht1 : ∀ (s : Shared) (H : Hp) (C : Addr) (cl : List (Str × Addr)) (fp : List Addr), PTs (X.blk s H scope (compEnvC scope cl C X.env) fp) fs1 tt1)
    (he : ∀ (s : Shared) (H : Hp) (C : Addr) (cl : List (Str × Addr)) (fp : List Addr), PE (X.blk s H scope (compEnvC scope cl C X.env) fp) elt te)
    (hs : ∀ x, foldedSetIterable i X.env x = pure x := by intros; rfl) (hs1 : ∀ (env : Env) x, foldedSetIterable i1 env x = pure x := by intros; rfl) :
    PE X (.SetComp elt [cl t i fs, cl t1 i1 fs1] scope pos) (tScN X.w wi g tt (own.map (·.2)) fun D => tCl wi1 g1 tt1 vs1 (bodyS X.w te D)) := by
  constructor
  intro pins s σ H Q I h
  rw [PpSet.eval_SetComp]
  refine wpAny_comprehension_free rfl hs (closure_ok fun y hy e => (ok.free y hy e).elim (fun k => I.ok.has y.1 (.inl k)) fun k => I.ok.has y.1 (.inr k)) ok.kind (fun y hy e => by rw [ok.uniq y hy, e]) (thn (hi.run pins s σ H _ I h) fun xv s1 hx => thn hx fun itv s2 h2 => ?_)
  obtain ⟨it, fp, tn, J, H2, rfl, I2, T, st2, f2, q⟩ := h2
  refine PpSet.newSet_ok (newEnv_comp ?_)
  obtain ⟨W, ⟨m0, w0⟩, turn⟩ := q s2.heap.objs.size (HOk.fresh I2.hok (Nat.le_refl _))
  have I3 : L2.Inv X pins σ (upd H2 s2.heap.objs.size (SetO X.w s2.heap.objs.size (fun _ => false) 0)) { s2 with heap := s2.heap.push { cls := Value.type "set", data := Data.set #[] 0 (SetTable.fresh 0 0 !X.w.params.followText "set-order") } } :=
    Inv.laid I2 (fun b o e => Heap.get?_push_of_some _ e) (Nat.le_refl _) (setO_new (setR_fresh X.w))
  exact outer (S3 := { s2 with heap := s2.heap.push { cls := Value.type "set", data := Data.set #[] 0 (SetTable.fresh 0 0 !X.w.params.followText "set-order") } }) (D := s2.heap.objs.size) hc hN ok bMid_mono rfl rfl I3 T st2 f2 (hg _ _ _ _ _) (ht _ _ _ _ _)
    (fun R it I turn n s h => loop_mid rfl rfl rfl turnS_0 (hs1 _) I turn n h) (fun R it s h0 h => start_at rfl (fun _ => rfl) rfl rfl h0 h)
    (cl_does (vsB := []) rfl hc bLast_mono (hi1 _ _ _ _ _) (hg1 _ _ _ _ _) (ht1 _ _ _ _ _) (fun R it I turn n s h => loop_last rfl rfl rfl turnS_1 I turn n h) (fun R it s h0 h => start_at rfl (fun _ => rfl) rfl rfl h0 h) (does_S rfl (he _ _ _ _ _)) (fun _ h => by cases h)) hv1 w0 turn
end
/-- a clause, turn by turn -/
theorem cl_it {J : It} {n : Nat} {G : Hp → Prop} {Y : Nat → Hp → V → Hp → Prop} (w : Walk J n G Y) {g : TG} {tt : TT} {vs : List Nat} {σ : L2.St} {H1 : Hp} {body : Body} {Qd : Hp → Prop} (Pv : Nat → Hp → Prop) (h0 : Pv 0 H1) (hG : ∀ i H, i ≤ n → Pv i H → G H)
    (hs : ∀ i x H H', i < n → Pv i H → Y i H x H' → g x (wipe σ vs) H' fun σ2 H2 => wipe σ2 vs = wipe σ vs ∧ tt σ2 H2 fun b H3 => if b = true then body σ2 H3 (Pv (i + 1)) else Pv (i + 1) H3) (hd : ∀ H, Pv n H → Qd H) :
    ∃ W : Nat → Nat → Hp → Prop, (∃ m, W 0 m H1) ∧ ∀ j k H, W j k H → (J.stop j H ∧ Qd H) ∨ (J.go j H ∧ ∃ N1 : Hp → Prop, (∀ H', N1 H' → ∃ k', k' < k ∧ W (j + 1) k' H') ∧ ∀ x H', J.yld j H x H' → g x (wipe σ vs) H' fun σ3 H5 => wipe σ3 vs = wipe σ vs ∧ tt σ3 H5 fun b H6 => if b = true then body σ3 H6 N1 else N1 H6) := by
  refine ⟨fun i m H => m + i = n ∧ Pv i H, ⟨n, Nat.add_zero n, h0⟩, ?_⟩
  rintro i m H ⟨hm, p⟩
  have q := hG i H (by omega) p
  cases m with
  | zero =>
    obtain rfl : i = n := by omega
    exact .inl ⟨w.stops H q, hd H p⟩
  | succ m =>
    have hlt : i < n := by omega
    exact .inr ⟨w.goes i H hlt q, Pv (i + 1), fun H' p' => ⟨m, Nat.lt_succ_self m, by omega, p'⟩, fun x H' y => hs i x H H' hlt p (w.yields i H x H' hlt q y)⟩
theorem cl_list {K : PySem.W.Frag} {a : Addr} {xs : List V} {g : TG} {tt : TT} {vs : List Nat} {σ : L2.St} {H1 : Hp} {body : Body} {Qd : Hp → Prop} (Pv : Nat → Hp → Prop) (h0 : Pv 0 H1) (hG : ∀ i H, i ≤ xs.length → Pv i H → SqL K H a xs)
    (hs : ∀ i x H, xs[i]? = some x → Pv i H → g x (wipe σ vs) H fun σ2 H2 => wipe σ2 vs = wipe σ vs ∧ tt σ2 H2 fun b H3 => if b = true then body σ2 H3 (Pv (i + 1)) else Pv (i + 1) H3) (hd : ∀ H, Pv xs.length H → Qd H) :
    ∃ W : Nat → Nat → Hp → Prop, (∃ m, W 0 m H1) ∧ ∀ j k H, W j k H → ((Itl K a).stop j H ∧ Qd H) ∨ ((Itl K a).go j H ∧ ∃ N1 : Hp → Prop, (∀ H', N1 H' → ∃ k', k' < k ∧ W (j + 1) k' H') ∧ ∀ x H', (Itl K a).yld j H x H' → g x (wipe σ vs) H' fun σ3 H5 => wipe σ3 vs = wipe σ vs ∧ tt σ3 H5 fun b H6 => if b = true then body σ3 H6 N1 else N1 H6) := by
  refine cl_it walk_list Pv h0 hG (fun i x H H' hi p y => ?_) hd
  obtain ⟨rfl, hx⟩ : H' = H ∧ xs[i]? = some x := y
  exact hs i x H' hx p
theorem cl_range {lo : Int} {n : Nat} {g : TG} {tt : TT} {vs : List Nat} {σ : L2.St} {H1 : Hp} {body : Body} {Qd : Hp → Prop} (Pv : Nat → Hp → Prop) (h0 : Pv 0 H1)
    (hs : ∀ i H, i < n → Pv i H → g (.int (lo + (i : Nat))) (wipe σ vs) H fun σ2 H2 => wipe σ2 vs = wipe σ vs ∧ tt σ2 H2 fun b H3 => if b = true then body σ2 H3 (Pv (i + 1)) else Pv (i + 1) H3) (hd : ∀ H, Pv n H → Qd H) :
    ∃ W : Nat → Nat → Hp → Prop, (∃ m, W 0 m H1) ∧ ∀ j k H, W j k H → ((Itr lo n).stop j H ∧ Qd H) ∨ ((Itr lo n).go j H ∧ ∃ N1 : Hp → Prop, (∀ H', N1 H' → ∃ k', k' < k ∧ W (j + 1) k' H') ∧ ∀ x H', (Itr lo n).yld j H x H' → g x (wipe σ vs) H' fun σ3 H5 => wipe σ3 vs = wipe σ vs ∧ tt σ3 H5 fun b H6 => if b = true then body σ3 H6 N1 else N1 H6) := by
  refine cl_it walk_range Pv h0 (fun _ _ _ _ => trivial) (fun i x H H' hi p y => ?_) hd
  obtain ⟨rfl, rfl⟩ : H' = H ∧ x = .int (lo + (i : Nat)) := y
  exact hs i H' hi p
end SwC
set_option Elab.async false
set_option linter.all false
set_option maxRecDepth 100000
set_option maxHeartbeats 4000000
namespace L2
open PySem PySem.Spec PyProof.Rows
theorem pi_listK {X : Cx} {K : PySem.W.Frag} {tg e : Expr} {te : TE} (ha : PE X e te) (h : X.K = K := by rfl) : PI X tg e (iList K te) := h ▸ pi_list ha
end L2
namespace Sw
open PySem PySem.Spec PyProof.Rows L2
/-- the columns of some rows -/
def Cols (rows : List (List Int)) (L ns : List Int) : Prop := ns.Pairwise (· < ·) ∧ ∀ c, c ∈ ns ↔ ∃ r ∈ L, c ∈ tP rows r
structure Few (rows : List (List Int)) : Prop where
  len : rows.length ≤ 60
  lo : ∀ l ∈ rows, ∀ c ∈ l, 0 ≤ c ∧ c < 60
  nd : ∀ l ∈ rows, l.Nodup
def spPartners (K : PySem.W.Frag) : Sp := fun vs H Q _ => ∃ (t rl : Addr) (tb : Tups) (L : List Int), vs = [.ref t, .ref rl] ∧ TabAt K H t tb ∧ Few (keys tb) ∧ SqL K H rl (L.map V.int) ∧ (∀ r ∈ L, 0 ≤ r ∧ r < (tb.length : Int)) ∧
  ∀ (H' : Hp) (l : Addr) (ns : List Int), Same H H' → H' l = some (.lst (ns.map V.int)) → Cols (keys tb) L ns → Q (.ref l) H'
def spLack (K : PySem.W.Frag) : Sp := fun vs H Q _ => ∃ (t rl : Addr) (tb : Tups) (L : List Int), vs = [.ref t, .ref rl] ∧ TabAt K H t tb ∧ Few (keys tb) ∧ SqL K H rl (L.map V.int) ∧ (∀ r ∈ L, 0 ≤ r ∧ r < (tb.length : Int)) ∧
  ∀ (H' : Hp) (ns : List Int), Same H H' → Cols (keys tb) L ns → Q (.int ((L.length : Int) - ns.length)) H'
end Sw
namespace Sw
open PySem PySem.Spec PyProof.Rows L2
def spMatesZ (K : PySem.W.Frag) : Sp := fun vs H Q _ => ∃ (t rl : Addr) (tb : Tups) (W : List Int), vs = [.ref t, .ref rl] ∧ TabAt K H t tb ∧ TabOk (keys tb) ∧ SqL K H rl (W.map V.int) ∧ W.Nodup ∧ (∀ r ∈ W, 0 ≤ r ∧ r < (tb.length : Int)) ∧
  ∀ (H' : Hp) (l : Addr) (g : MM) (Z : List Int), Same H H' → H l = none → H' l = some (.dK (dI g)) → Mt (tP (keys tb)) g → (∀ r c, lk g r = some c → r ∈ W) → MaxOn (tP (keys tb)) W g → Shut (tP (keys tb)) g Z → (∀ z ∈ Z, z ∈ W) → (∀ r ∈ W, lk g r = none → r ∈ Z) → Q (.ref l) H'
/-- the rows that are reached from those without a mate, and no others -/
structure LeastBy (P : Int → List Int) (W : List Int) (g : MM) (F : List Int) : Prop where
  mt : Mt P g
  only : ∀ r c, lk g r = some c → r ∈ W
  sub : ∀ x ∈ F, x ∈ W
  free : ∀ r ∈ W, lk g r = none → r ∈ F
  shut : Shut P g F
  least : ∀ L : List Int, (∀ r ∈ W, lk g r = none → r ∈ L) → (∀ r ∈ L, ∀ c ∈ P r, ∀ r', lk g r' = some c → r' ∈ L) → ∀ x ∈ F, x ∈ L
def spLeast (K : PySem.W.Frag) : Sp := fun vs H Q _ => ∃ (t rl : Addr) (tb : Tups) (W : List Int), vs = [.ref t, .ref rl] ∧ TabAt K H t tb ∧ TabOk (keys tb) ∧ SqL K H rl (W.map V.int) ∧ W.Nodup ∧ W.length < 64 ∧ (∀ r ∈ W, 0 ≤ r ∧ r < (tb.length : Int)) ∧
  ∀ (H' : Hp) (l : Addr) (g : MM) (F : List Int), Same H H' → H' l = some (.lst (F.map V.int)) → F.Pairwise (· < ·) → LeastBy (tP (keys tb)) W g F → MaxOn (tP (keys tb)) W g → Q (.ref l) H'
end Sw
namespace Sw
open PySem PySem.Spec PyProof.Rows L2
theorem put_dW {q : List Int} {r : Int} (h : r ∉ q) : putK (dW q) (.inl r) (.bl true) = dW (q ++ [r]) := by
  rw [putK_new (k := (.inl r : Key)) (V.bl true) (by
    have z := val_dW q r
    rw [decide_eq_false h] at z
    cases ez : valV (dW q) (.inl r) with
    | none => rfl
    | some x => rw [ez] at z; cases z)]
  unfold dW
  rw [List.map_append]
  rfl
/-- rows that were reached -/
structure RQ (P : Int → List Int) (W : List Int) (g : MM) (Z q : List Int) : Prop where
  nd : q.Nodup
  sub : ∀ x ∈ q, x ∈ Z
  free : ∀ r ∈ W, lk g r = none → r ∈ q
  least : ∀ L : List Int, (∀ r ∈ W, lk g r = none → r ∈ L) → (∀ r ∈ L, ∀ c ∈ P r, ∀ r', lk g r' = some c → r' ∈ L) → ∀ x ∈ q, x ∈ L
end Sw
namespace Sw
open PySem PySem.Spec PyProof.Rows L2
def AscP (ps : Prts) : Prop := ∀ z ∈ ps, z.2.2.Pairwise (· < ·)
theorem asc_prt {ps : Prts} (h : AscP ps) (c : Int) : (prt ps c).Pairwise (· < ·) := by
  unfold prt
  cases e : ps.find? fun y => decide (y.1 = c) with
  | none => exact .nil
  | some y => exact h y (List.mem_of_find?_eq_some e)
theorem asc_add {K : PySem.W.Frag} {H0 H : Hp} {d : Addr} {ps : Prts} {rows : List (List Int)} {i : Nat} {part : List Int} {c : Int} (h : RB K H0 H d ps rows i part) (hA : AscP ps) (hc : c ∉ part) : AscP (addTo ps c i) := by
  intro z hz
  unfold addTo at hz
  obtain ⟨y, hy, rfl⟩ := List.mem_map.mp hz
  split
  · rename_i e
    rw [List.pairwise_append]
    refine ⟨hA y hy, List.pairwise_singleton _ _, fun a ha b hb => ?_⟩
    rw [List.mem_singleton.mp hb]
    rw [← prt_mem h.kn hy] at ha
    rcases (h.mem y.1 a).mp ha with ⟨_, h2, _⟩ | ⟨_, h2⟩
    · exact h2
    · exact absurd ((by simpa using e : y.1 = c) ▸ h2) hc
  · exact hA y hy
theorem asc_new {ps : Prts} {c : Int} {q : Addr} (hA : AscP ps) : AscP (ps ++ [(c, q, [])]) := fun z hz => by
  rcases List.mem_append.mp hz with hz | hz
  · exact hA z hz
  · rw [List.mem_singleton.mp hz]
    exact .nil
def spByColA (K : PySem.W.Frag) : Sp := fun vs H Q _ => ∃ (t : Addr) (tb : Tups), vs = [.ref t] ∧ TabAt K H t tb ∧ TabOk (keys tb) ∧
  ∀ (H' : Hp) (d : Addr) (ps : Prts), Same H H' → H d = none → PrtAt K H' d ps → Small ps → (∀ c r, r ∈ prt ps c ↔ c ∈ tP (keys tb) r) → (∀ c, (prt ps c).Pairwise (· < ·)) → (∀ z ∈ ps, H' z.2.1 ≠ none) → Q (.ref d) H'
/-- the table turned round -/
def turnedI (rows : List (List Int)) (c : Nat) : List Int := ((List.range rows.length).map Int.ofNat).filter fun r => decide ((c : Int) ∈ tP rows r)
theorem turned_eq {rows : List (List Int)} {c : Nat} {l : List Int} (h : l.Pairwise (· < ·)) (hm : ∀ r, r ∈ l ↔ (c : Int) ∈ tP rows r) : l = turnedI rows c := by
  have h2 : (turnedI rows c).Pairwise (· < ·) := by
    unfold turnedI
    refine List.Pairwise.filter _ ?_
    rw [List.pairwise_map]
    exact List.pairwise_lt_range.imp fun h => Int.ofNat_lt.mpr h
  have hm2 : ∀ r, r ∈ turnedI rows c ↔ (c : Int) ∈ tP rows r := fun r => by
    unfold turnedI
    rw [List.mem_filter, decide_eq_true_iff, List.mem_map]
    constructor
    · exact fun h => h.2
    · intro h
      obtain ⟨h0, l, hl, _⟩ := tP_some h
      have := (List.getElem?_eq_some_iff.mp hl).1
      exact ⟨⟨r.toNat, List.mem_range.mpr this, Int.toNat_of_nonneg h0⟩, h⟩
  refine List.Perm.eq_of_pairwise (le := fun a b : Int => a ≤ b) (fun a b _ _ h1 h2 => Int.le_antisymm h1 h2) (h.imp fun h => Int.le_of_lt h) (h2.imp fun h => Int.le_of_lt h) ?_
  rw [List.perm_ext_iff_of_nodup (h.imp fun h => Int.ne_of_lt h) (h2.imp fun h => Int.ne_of_lt h)]
  exact fun r => by rw [hm, hm2]
/-- rows of a list -/
def spTurned (K : PySem.W.Frag) : Sp := fun vs H Q _ => ∃ (t : Addr) (tb : Tups) (many : Nat), vs = [.ref t, .int many] ∧ TabAt K H t tb ∧ TabOk (keys tb) ∧ many ≤ 1000 ∧
  ∀ (H' : Hp) (l : Addr) (ks : Tups), Same H H' → H' l = some (.lst (refs ks)) → (∀ p ∈ ks, SqL K H' p.1 (p.2.map V.int)) → keys ks = (List.range many).map (turnedI (keys tb)) → Q (.ref l) H'
end Sw
namespace Sw
open PySem PySem.Spec PyProof.Rows L2
theorem sqL_put {K : PySem.W.Frag} {H : Hp} {a D : Addr} {xs : List V} {o : HO} (hn : a ≠ D) (h : SqL K H a xs) : SqL K (upd H D o) a xs := by
  rcases h with (h | ⟨u, h⟩) | h
  · exact .inl (.inl (by rw [upd_ne hn]; exact h))
  · exact .inl (.inr ⟨u, by rw [upd_ne hn]; exact h⟩)
  · exact .inr h
end Sw
namespace Sw
open PySem PySem.Spec PyProof.Rows L2
theorem qOf_ne {H : Hp} {ps : Prts} {r : Int} {e D : Addr} (h : ∀ z ∈ ps, H z.2.1 ≠ none) (hD : H D = none) (he : e ≠ D) : qOf ps r e ≠ D := by
  unfold qOf
  cases ez : ps.find? fun z => decide (z.1 = r) with
  | none => exact he
  | some z => exact fun e => h z (List.mem_of_find?_eq_some ez) (by rw [show z.2.1 = D from e]; exact hD)
end Sw
namespace Sw
open PySem PySem.Spec PyProof.Rows L2
/-! the law of least lots -/
def spLawLack (K : PySem.W.Frag) : Sp := fun vs H Q _ => ∃ (t rl : Addr) (tb : Tups) (L : List Int), vs = [.ref t, .ref rl] ∧ TabAt K H t tb ∧ (∀ r, (tP (keys tb) r).length ≤ 20) ∧ (∀ l ∈ keys tb, l.Nodup) ∧ SqL K H rl (L.map V.int) ∧ L.length ≤ 20 ∧ (∀ r ∈ L, 0 ≤ r ∧ r < (tb.length : Int)) ∧
  ∀ (H' : Hp) (ns : List Int), Same H H' → ns.Nodup → (∀ c, c ∈ ns ↔ ∃ r ∈ L, c ∈ tP (keys tb) r) → Q (.int ((L.length : Int) - ns.length)) H'
def partsL : List Int → List (List Int) → List (List Int)
  | [], f => f
  | x :: r, f => partsL r (f ++ f.map fun p => p ++ [x])
/-- lists of integers, plain in the heap -/
def IntsAt (H : Hp) (es : List (Addr × List Int)) : Prop := ∀ e ∈ es, H e.1 = some (.lst (e.2.map V.int))
def spLawParts (K : PySem.W.Frag) : Sp := fun vs H Q _ => ∃ (rl : Addr) (W : List Int), vs = [.ref rl] ∧ SqL K H rl (W.map V.int) ∧ W.length ≤ 6 ∧
  ∀ (H' : Hp) (l : Addr) (es : List (Addr × List Int)), Same H H' → H' l = some (.lst (refs es)) → IntsAt H' es → keys es = partsL W [[]] → Q (.ref l) H'
def lackI (P : Int → List Int) (L : List Int) (k : Int) : Prop := ∃ ns : List Int, ns.Nodup ∧ (∀ c, c ∈ ns ↔ ∃ r ∈ L, c ∈ P r) ∧ k = (L.length : Int) - ns.length
def spLawLeast (K : PySem.W.Frag) : Sp := fun vs H Q _ => ∃ (t rl : Addr) (tb : Tups) (W : List Int), vs = [.ref t, .ref rl] ∧ TabAt K H t tb ∧ (∀ r, (tP (keys tb) r).length ≤ 6) ∧ (∀ l ∈ keys tb, l.Nodup) ∧ SqL K H rl (W.map V.int) ∧ W.length ≤ 6 ∧ (∀ r ∈ W, 0 ≤ r ∧ r < (tb.length : Int)) ∧
  ∀ (H' : Hp) (l : Addr) (D : List Int), Same H H' → H' l = some (.lst (D.map V.int)) → D ∈ partsL W [[]] → (∀ M ∈ partsL W [[]], ∀ a b, lackI (tP (keys tb)) M a → lackI (tP (keys tb)) D b → a ≤ b) → (∀ M ∈ partsL W [[]], ∀ a, lackI (tP (keys tb)) M a → lackI (tP (keys tb)) D a → D.length ≤ M.length) → Q (.ref l) H'
def spLawExch (K : PySem.W.Frag) : Sp := fun vs H Q _ => ∃ (t : Addr) (tb : Tups) (many : Nat), vs = [.ref t, .int many] ∧ TabAt K H t tb ∧ tb.length ≤ 20 ∧ many ≤ 20 ∧
  ∀ (H' : Hp) (l : Addr) (ks : Tups), Same H H' → H' l = some (.lst (refs ks)) → (∀ p ∈ ks, SqL K H' p.1 (p.2.map V.int)) → keys ks = (List.range many).map (turnedI (keys tb)) → Q (.ref l) H'
end Sw
namespace Sw
open PySem PySem.Spec PyProof.Rows L2
theorem mem_partsL : ∀ (W : List Int) (f : List (List Int)) (p : List Int), p ∈ partsL W f ↔ ∃ q ∈ f, ∃ s, s.Sublist W ∧ p = q ++ s
  | [], f, p => by
    show p ∈ f ↔ _
    constructor
    · exact fun h => ⟨p, h, [], List.Sublist.refl _, (List.append_nil p).symm⟩
    · rintro ⟨q, hq, s, hs, rfl⟩
      rw [List.sublist_nil.mp hs, List.append_nil]
      exact hq
  | x :: W, f, p => by
    show p ∈ partsL W (f ++ f.map fun p => p ++ [x]) ↔ _
    rw [mem_partsL W]
    constructor
    · rintro ⟨q, hq, s, hs, rfl⟩
      rcases List.mem_append.mp hq with hq | hq
      · exact ⟨q, hq, s, hs.cons x, rfl⟩
      · obtain ⟨q', hq', rfl⟩ := List.mem_map.mp hq
        exact ⟨q', hq', x :: s, hs.cons_cons x, by rw [List.append_assoc]; rfl⟩
    · rintro ⟨q, hq, s, hs, rfl⟩
      cases hs with
      | cons _ hs => exact ⟨q, List.mem_append_left _ hq, s, hs, rfl⟩
      | cons_cons _ hs =>
        rename_i s'
        exact ⟨q ++ [x], List.mem_append_right _ (List.mem_map.mpr ⟨q, hq, rfl⟩), s', hs, by rw [List.append_assoc]; rfl⟩
theorem mem_parts {W p : List Int} : p ∈ partsL W [[]] ↔ p.Sublist W := by
  rw [mem_partsL]
  constructor
  · rintro ⟨q, hq, s, hs, rfl⟩
    rw [List.mem_singleton.mp hq]
    exact hs
  · exact fun h => ⟨[], List.mem_singleton.mpr rfl, p, h, rfl⟩
theorem partsL_len : ∀ (W : List Int) (f : List (List Int)), (partsL W f).length = f.length * 2 ^ W.length
  | [], f => (Nat.mul_one _).symm
  | x :: W, f => by
    show (partsL W (f ++ f.map fun p => p ++ [x])).length = _
    rw [partsL_len W, List.length_append, List.length_map, List.length_cons, Nat.pow_succ, Nat.mul_comm (2 ^ W.length) 2, ← Nat.mul_assoc, Nat.mul_two]
theorem same_card {a b : List Int} (ha : a.Nodup) (hb : b.Nodup) (h : ∀ x, x ∈ a ↔ x ∈ b) : a.length = b.length :=
  Nat.le_antisymm (len_le_of_sub ha fun x hx => (h x).mp hx) (len_le_of_sub hb fun x hx => (h x).mpr hx)
theorem lackI_uniq {P : Int → List Int} {M : List Int} {a b : Int} (ha : lackI P M a) (hb : lackI P M b) : a = b := by
  obtain ⟨n1, h1, m1, rfl⟩ := ha
  obtain ⟨n2, h2, m2, rfl⟩ := hb
  rw [same_card h1 h2 fun c => by rw [m1, m2]]
end Sw
namespace Sw
open PySem PySem.Spec PyProof.Rows L2
theorem ixN_last (n : Nat) : ixN (n + 1) (-1) = some n := by
  unfold ixN
  rw [if_neg (by decide), if_pos (by omega)]
  congr 1
  omega
theorem set_last {α : Type} (xs : List α) (a b : α) : (xs ++ [a]).set xs.length b = xs ++ [b] := by
  induction xs with
  | nil => rfl
  | cons x r ih => exact congrArg (x :: ·) ih
theorem cut_sub (zs : List Int) (lo hi : Option Int) : ∃ ys : List Int, cutV (zs.map V.int) lo hi = ys.map V.int ∧ ys.Sublist zs := by
  unfold cutV
  exact ⟨_, by rw [← List.map_drop, ← List.map_take], (List.take_sublist _ _).trans (List.drop_sublist _ _)⟩
end Sw
namespace Sw
open PySem PySem.Spec PyProof.Rows L2
def spSomeA (K : PySem.W.Frag) : Sp := fun vs H Q _ => ∃ (n : Int) (many : Nat), vs = [.int n, .int many] ∧ many ≤ 6 ∧ Num n ∧
  ∀ (H' : Hp) (l : Addr) (W : List Int), Same H H' → H' l = some (.lst (W.map V.int)) → W.Pairwise (· < ·) → W.length ≤ many → (∀ r ∈ W, 0 ≤ r ∧ r < (many : Int)) → Q (.ref l) H'
theorem asc_nodup {l : List Int} (h : l.Pairwise (· < ·)) : l.Nodup := h.imp fun h e => by omega
theorem asc_eq {l m : List Int} (hl : l.Pairwise (· < ·)) (hm : m.Pairwise (· < ·)) (h : ∀ x, x ∈ l ↔ x ∈ m) : l = m := by
  refine List.Perm.eq_of_pairwise (le := fun a b : Int => a ≤ b) (fun a b _ _ h1 h2 => Int.le_antisymm h1 h2) (hl.imp fun h => Int.le_of_lt h) (hm.imp fun h => Int.le_of_lt h) ?_
  rw [List.perm_ext_iff_of_nodup (asc_nodup hl) (asc_nodup hm)]
  exact h
theorem asc_sub {F W : List Int} (hF : F.Pairwise (· < ·)) (hW : W.Pairwise (· < ·)) (h : ∀ x ∈ F, x ∈ W) : F.Sublist W := by
  have e : F = W.filter fun x => decide (x ∈ F) := asc_eq hF (hW.filter _) fun x => by
    rw [List.mem_filter, decide_eq_true_iff]
    exact ⟨fun hx => ⟨h x hx, hx⟩, fun hx => hx.2⟩
  rw [e]
  exact List.filter_sublist
theorem ex_nodup : ∀ l : List Int, ∃ ns : List Int, ns.Nodup ∧ ∀ x, x ∈ ns ↔ x ∈ l
  | [] => ⟨[], List.nodup_nil, fun _ => Iff.rfl⟩
  | x :: r => by
    obtain ⟨ns, h1, h2⟩ := ex_nodup r
    by_cases h : x ∈ ns
    · exact ⟨ns, h1, fun y => by
        rw [h2, List.mem_cons]
        exact ⟨.inr, fun z => z.elim (fun e => by rw [e]; exact (h2 x).mp h) id⟩⟩
    · exact ⟨x :: ns, List.nodup_cons.mpr ⟨h, h1⟩, fun y => by rw [List.mem_cons, List.mem_cons, h2]⟩
theorem ex_lack (P : Int → List Int) (L : List Int) : ∃ x, lackI P L x := by
  obtain ⟨ns, h1, h2⟩ := ex_nodup (L.flatMap P)
  exact ⟨_, ns, h1, fun c => by rw [h2, List.mem_flatMap], rfl⟩
theorem filt_len (l : List Int) (p : Int → Bool) : (l.filter p).length + (l.filter fun x => !p x).length = l.length := by
  induction l with
  | nil => rfl
  | cons x r ih =>
    cases h : p x with
    | true => rw [List.filter_cons_of_pos h, List.filter_cons_of_neg (by simp [h]), List.length_cons, List.length_cons]; omega
    | false => rw [List.filter_cons_of_neg (by simp [h]), List.filter_cons_of_pos (by simp [h]), List.length_cons, List.length_cons]; omega
/-- of two lists: what is in one of them, what is in both -/
theorem union_card {a b u i : List Int} (ha : a.Nodup) (hb : b.Nodup) (hu : u.Nodup) (hi : i.Nodup) (h1 : ∀ x, x ∈ u ↔ x ∈ a ∨ x ∈ b) (h2 : ∀ x, x ∈ i ↔ x ∈ a ∧ x ∈ b) : u.length + i.length = a.length + b.length := by
  have e1 := filt_len b fun x => decide (x ∈ a)
  have e2 : (b.filter fun x => decide (x ∈ a)).length = i.length := same_card (hb.filter _) hi fun x => by
    rw [List.mem_filter, decide_eq_true_iff, h2]
    exact And.comm
  have e3 : (a ++ b.filter fun x => !decide (x ∈ a)).length = u.length := by
    refine same_card ?_ hu fun x => ?_
    · rw [List.nodup_append]
      refine ⟨ha, hb.filter _, fun y hy z hz e => ?_⟩
      have := (List.mem_filter.mp hz).2
      rw [← e, decide_eq_true hy] at this
      cases this
    · rw [List.mem_append, List.mem_filter, h1]
      by_cases hx : x ∈ a <;> simp [hx]
  rw [List.length_append] at e3
  omega
/-- lots that lack most are closed under what is in both -/
theorem lack_meet {P : Int → List Int} {A B I U : List Int} {a b i u : Int} (hA : A.Nodup) (hB : B.Nodup) (hI : I.Nodup) (hU : U.Nodup) (h1 : ∀ x, x ∈ U ↔ x ∈ A ∨ x ∈ B) (h2 : ∀ x, x ∈ I ↔ x ∈ A ∧ x ∈ B)
    (la : lackI P A a) (lb : lackI P B b) (li : lackI P I i) (lu : lackI P U u) : a + b ≤ i + u := by
  obtain ⟨na, na1, na2, rfl⟩ := la
  obtain ⟨nb, nb1, nb2, rfl⟩ := lb
  obtain ⟨ni, ni1, ni2, rfl⟩ := li
  obtain ⟨nu, nu1, nu2, rfl⟩ := lu
  have e1 := union_card hA hB hU hI h1 h2
  have e2 := union_card na1 nb1 nu1 (na1.filter fun x => decide (x ∈ nb)) (fun x => by
    rw [nu2, na2, nb2]
    constructor
    · rintro ⟨r, hr, hc⟩
      exact ((h1 r).mp hr).elim (fun h => .inl ⟨r, h, hc⟩) fun h => .inr ⟨r, h, hc⟩
    · rintro (⟨r, hr, hc⟩ | ⟨r, hr, hc⟩)
      · exact ⟨r, (h1 r).mpr (.inl hr), hc⟩
      · exact ⟨r, (h1 r).mpr (.inr hr), hc⟩) fun x => by rw [List.mem_filter, decide_eq_true_iff]
  have e3 : ni.length ≤ (na.filter fun x => decide (x ∈ nb)).length := len_le_of_sub ni1 fun x hx => by
    obtain ⟨r, hr, hc⟩ := (ni2 x).mp hx
    exact List.mem_filter.mpr ⟨(na2 x).mpr ⟨r, ((h2 r).mp hr).1, hc⟩, decide_eq_true ((nb2 x).mpr ⟨r, ((h2 r).mp hr).2, hc⟩)⟩
  omega
end Sw
namespace Sw
open PySem PySem.Spec PyProof.Rows L2
theorem full {a b : List Int} (ha : a.Nodup) (hab : ∀ x ∈ a, x ∈ b) (hl : b.length ≤ a.length) : ∀ x ∈ b, x ∈ a := fun x hx => by
  by_cases h : x ∈ a
  · exact h
  · have := len_le_of_sub (l := x :: a) (m := b) (List.nodup_cons.mpr ⟨h, ha⟩) fun y hy => by
      rcases List.mem_cons.mp hy with rfl | hy
      · exact hx
      · exact hab y hy
    rw [List.length_cons] at this
    omega
def matesOf (g : MM) (L : List Int) : List Int := (L.filter (has g)).map fun r => (lk g r).getD 0
theorem mem_mates {g : MM} {L : List Int} {c : Int} : c ∈ matesOf g L ↔ ∃ r ∈ L, lk g r = some c := by
  unfold matesOf
  rw [List.mem_map]
  constructor
  · rintro ⟨r, hr, rfl⟩
    obtain ⟨h1, h2⟩ := List.mem_filter.mp hr
    obtain ⟨c, e⟩ := has_some h2
    exact ⟨r, h1, by rw [e]; rfl⟩
  · rintro ⟨r, hr, e⟩
    exact ⟨r, List.mem_filter.mpr ⟨hr, by unfold has; rw [e]; rfl⟩, by rw [e]; rfl⟩
theorem nodup_mates {P : Int → List Int} {g : MM} {L : List Int} (h : Mt P g) (hL : L.Nodup) : (matesOf g L).Nodup := by
  unfold matesOf
  rw [List.Nodup, List.pairwise_map]
  refine (hL.filter _).imp_of_mem fun {a b} ha hb hab e => hab ?_
  obtain ⟨c, ea⟩ := has_some (List.mem_filter.mp ha).2
  obtain ⟨d, eb⟩ := has_some (List.mem_filter.mp hb).2
  have e' : (lk g a).getD 0 = (lk g b).getD 0 := e
  rw [ea, eb] at e'
  have e2 : c = d := e'
  exact h.inj a b c ea (by rw [eb, e2])
theorem len_mates (g : MM) (L : List Int) : (matesOf g L).length = (L.filter (has g)).length := List.length_map ..
theorem least_lack {P : Int → List Int} {W F : List Int} {g : MM} (h : LeastBy P W g F) (hW : W.Nodup) (hF : F.Nodup) : lackI P F ((W.length : Int) - (W.filter (has g)).length) := by
  obtain ⟨ns, n1, n2⟩ := ex_nodup (F.flatMap P)
  have n3 : ∀ c, c ∈ ns ↔ ∃ r ∈ F, c ∈ P r := fun c => by rw [n2, List.mem_flatMap]
  refine ⟨ns, n1, n3, ?_⟩
  have e1 : ns.length = (matesOf g F).length := same_card n1 (nodup_mates h.mt hF) fun c => by
    rw [n3, mem_mates]
    constructor
    · rintro ⟨r, hr, hc⟩
      exact h.shut r hr c hc
    · rintro ⟨r, hr, e⟩
      exact ⟨r, hr, h.mt.ed r c e⟩
  have e2 : (F.filter fun r => !has g r).length = (W.filter fun r => !has g r).length := same_card (hF.filter _) (hW.filter _) fun r => by
    rw [List.mem_filter, List.mem_filter]
    constructor
    · exact fun ⟨h1, h2⟩ => ⟨h.sub r h1, h2⟩
    · rintro ⟨h1, h2⟩
      refine ⟨h.free r h1 ?_, h2⟩
      unfold has at h2
      cases e : lk g r with
      | none => rfl
      | some c => rw [e] at h2; cases h2
  have e3 := filt_len F (has g)
  have e4 := filt_len W (has g)
  rw [len_mates] at e1
  omega
theorem least_le {P : Int → List Int} {W F L : List Int} {g : MM} {x : Int} (h : LeastBy P W g F) (hW : W.Nodup) (hL : L.Nodup) (hLW : ∀ r ∈ L, r ∈ W) (hx : lackI P L x) : x ≤ (W.length : Int) - (W.filter (has g)).length ∧ (x = (W.length : Int) - (W.filter (has g)).length → ∀ y ∈ F, y ∈ L) := by
  obtain ⟨ns, n1, n2, rfl⟩ := hx
  have m1 := nodup_mates h.mt hL
  have m2 : ∀ c ∈ matesOf g L, c ∈ ns := fun c hc => by
    obtain ⟨r, hr, e⟩ := mem_mates.mp hc
    exact (n2 c).mpr ⟨r, hr, h.mt.ed r c e⟩
  have l1 := len_le_of_sub m1 m2
  have s1 : ∀ r ∈ (L.filter fun r => !has g r), r ∈ (W.filter fun r => !has g r) := fun r hr => List.mem_filter.mpr ⟨hLW r (List.mem_filter.mp hr).1, (List.mem_filter.mp hr).2⟩
  have l2 := len_le_of_sub (hL.filter _) s1
  have e3 := filt_len L (has g)
  have e4 := filt_len W (has g)
  rw [len_mates] at l1
  refine ⟨by omega, fun e => ?_⟩
  have f1 := full m1 m2 (by rw [len_mates]; omega)
  have f2 := full (hL.filter _) s1 (by omega)
  refine h.least L (fun r hr hn => ?_) fun r hr c hc r' e' => ?_
  · exact (List.mem_filter.mp (f2 r (List.mem_filter.mpr ⟨hr, by unfold has; rw [hn]; rfl⟩))).1
  · obtain ⟨r'', h1, h2⟩ := mem_mates.mp (f1 c ((n2 c).mpr ⟨r, hr, hc⟩))
    rw [h.mt.inj r' r'' c e' h2]
    exact h1
/-- the told least lot -/
structure Due (P : Int → List Int) (W D : List Int) : Prop where
  sub : D.Sublist W
  top : ∀ M : List Int, M.Sublist W → ∀ a b, lackI P M a → lackI P D b → a ≤ b
  few : ∀ M : List Int, M.Sublist W → ∀ a, lackI P M a → lackI P D a → D.length ≤ M.length
theorem due_in {P : Int → List Int} {W D M : List Int} (h : Due P W D) (hW : W.Nodup) (hM : M.Sublist W) {b : Int} (hb : lackI P D b) (hm : lackI P M b) : ∀ y ∈ D, y ∈ M := by
  have nD := hW.sublist h.sub
  have nM := hW.sublist hM
  have sI : (D.filter fun x => decide (x ∈ M)).Sublist W := List.filter_sublist.trans h.sub
  have sU : (W.filter fun x => decide (x ∈ D ∨ x ∈ M)).Sublist W := List.filter_sublist
  obtain ⟨i, hi⟩ := ex_lack P (D.filter fun x => decide (x ∈ M))
  obtain ⟨u, hu⟩ := ex_lack P (W.filter fun x => decide (x ∈ D ∨ x ∈ M))
  have := lack_meet nD nM (nD.filter _) (hW.filter _) (fun x => by
    rw [List.mem_filter, decide_eq_true_iff]
    exact ⟨fun h => h.2, fun h' => ⟨h'.elim (fun z => h.sub.subset z) fun z => hM.subset z, h'⟩⟩) (fun x => by rw [List.mem_filter, decide_eq_true_iff]) hb hm hi hu
  have t1 := h.top _ sI i b hi hb
  have t2 := h.top _ sU u b hu hb
  have hib : i = b := by omega
  rw [hib] at hi
  have l1 := h.few _ sI b hi hb
  intro y hy
  have := full (nD.filter fun x => decide (x ∈ M)) (fun x hx => (List.mem_filter.mp hx).1) l1 y hy
  exact of_decide_eq_true (List.mem_filter.mp this).2
theorem due_eq {P : Int → List Int} {W D F : List Int} {g : MM} (h : Due P W D) (hW : W.Pairwise (· < ·)) (hL : LeastBy P W g F) (hF : F.Pairwise (· < ·)) : D = F ∧ lackI P D ((W.length : Int) - (W.filter (has g)).length) := by
  have nW := asc_nodup hW
  have nF := asc_nodup hF
  have sF := asc_sub hF hW hL.sub
  have lF := least_lack hL nW nF
  obtain ⟨b, hb⟩ := ex_lack P D
  have t1 := h.top F sF _ b lF hb
  obtain ⟨t2, t3⟩ := least_le hL nW (nW.sublist h.sub) (fun r hr => h.sub.subset hr) hb
  have e : b = (W.length : Int) - (W.filter (has g)).length := by omega
  rw [← e] at lF
  have h1 := due_in h nW sF hb lF
  have h2 := t3 e
  exact ⟨asc_eq (hW.sublist h.sub) hF fun x => ⟨h1 x, h2 x⟩, e ▸ hb⟩
end Sw
namespace Sw
open PySem PySem.Spec PyProof.Rows L2
def spDrawnA (K : PySem.W.Frag) : Sp := fun vs H Q _ => ∃ (p1 : Addr) (ns : List Int) (at' : Int), vs = [.ref p1, .int at'] ∧ SqL K H p1 (ns.map V.int) ∧ (∀ n ∈ ns, Num n) ∧ 0 ≤ at' ∧ at' + 6 ≤ (ns.length : Int) ∧
  ∀ (H' : Hp) (t : Addr) (tb : Tups), Same H H' → H' t = some (.lst (refs tb)) → IntsAt H' tb → tb.length ≤ 5 → (∀ p ∈ tb, p.2.Nodup ∧ ∀ c ∈ p.2, 0 ≤ c ∧ c < 6) → Q (.ref t) H'
theorem lay_ints (l : List Int) : Lay 1 (.list (l.map PyData.int)) := lay_list fun d hd => by
  obtain ⟨i, _, rfl⟩ := List.mem_map.mp hd
  exact lay_int 0 i
theorem eqv_ints_nil (l : List Int) : PyData.eqv (.list (l.map PyData.int)) (.list []) = decide (l = []) := by
  cases l with
  | nil => rfl
  | cons x r => rfl
theorem due_nil {P : Int → List Int} {W D : List Int} {b : Int} (h : Due P W D) (hb : lackI P D b) : D = [] ↔ b = 0 := by
  have l0 : lackI P [] 0 := ⟨[], List.nodup_nil, fun c => ⟨(fun h => by cases h), (fun ⟨_, h, _⟩ => by cases h)⟩, rfl⟩
  constructor
  · intro e
    rw [e] at hb
    exact lackI_uniq hb l0
  · intro e
    rw [e] at hb
    have := h.few [] (List.nil_sublist _) 0 l0 hb
    exact List.length_eq_zero_iff.mp (Nat.le_zero.mp this)
end Sw
set_option Elab.async false
set_option linter.all false
set_option maxRecDepth 100000
set_option maxHeartbeats 4000000
/-! A local name that holds one of two defs which may raise, called within a try. -/
namespace L2
open PySem PySem.Spec PyProof.Rows
def tCallVS (i : Nat) (f1 f2 : Addr) (sp1 sp2 : Sp) (E : St → XK) (t : TA) : TE := fun σ H Q =>
  (σ[i]? = some (some (V.ref f1)) ∧ t σ H fun vs H1 => sp1 vs H1 Q (E σ)) ∨ (σ[i]? = some (some (V.ref f2)) ∧ t σ H fun vs H1 => sp2 vs H1 Q (E σ))
section
variable {X : Cx} {CX : CXT} {i k1 k2 : Nat} {f1 f2 : Addr} {fd1 fd2 : FuncData} {ps1 ps2 : List Str} {sp1 sp2 : Sp} {E : St → XK} {x : Str} {p pos : Pos} {e : Expr} {es : List Expr} {t : TA}
theorem pe_callVS (F1 : FnOk X.prog X.w X.K X.mg X.base CX k1 f1 fd1 ps1 sp1) (F2 : FnOk X.prog X.w X.K X.mg X.base CX k2 f2 fd2 ps2 sp2) (hr1 : Room k1 X.A) (hr2 : Room k2 X.A)
    (kp1 : PySem.W.keepIn X.K (.ref f1) = true) (kp2 : PySem.W.keepIn X.K (.ref f2) = true) (b1 : Binds X.K fd1 ps1 []) (b2 : Binds X.K fd2 ps2 []) (hx : ∀ σ, PassesAt CX X σ (E σ))
    (hN : X.N[i]? = some x) (hv : Vis X.env.scope x) (ha : PA X (e :: es) t)
    (hd : (x == ("__debug__" : Str)) = false := by decide) (hcd : (x == ("__classdict__" : Str)) = false := by decide)
    (he : starEach (e :: es) X.env = (false, eval e X.env) :: starEach es X.env := by rfl) (hpl : (backTo pos (starEach es X.env)).any (·.1) = false := by rfl) :
    PE X (.Call (.Name x p) (e :: es) [] pos) (tCallVS i f1 f2 sp1 sp2 E t) := by
  refine ⟨fun pins s σ H Q I h => ?_⟩
  have go : ∀ {k : Nat} {f : Addr} {fd : FuncData} {ps : List Str} {sp : Sp}, FnOk X.prog X.w X.K X.mg X.base CX k f fd ps sp → Room k X.A → PySem.W.keepIn X.K (.ref f) = true → Binds X.K fd ps [] → σ[i]? = some (some (.ref f)) → (t σ H fun vs H1 => sp vs H1 Q (E σ)) → wpAny (model X.prog X.w) X.A (eval (.Call (.Name x p) (e :: es) [] pos) X.env) (EP X pins σ Q) X.xe s := fun {k f fd ps sp} F hr kp b hs ht => by
    refine wpAny_Call_Name_kw (thn ((pe_var (pos := p) hN hv hd hcd).run pins s σ H (fun v H1 => v = .ref f ∧ H1 = H) I ⟨.ref f, hs, rfl, rfl⟩) fun u s1 ⟨v, H1, I1, r1, q1⟩ => ?_)
    obtain ⟨rfl, rfl⟩ := q1
    cases r1
    refine PySem.W.callWith_K (h₀ := X.base) I.ok.mod.kin kp (thn (ha.run pos pins s1 σ _ _ I1 ht) fun us s2 ⟨vs, H2, I2, r, q⟩ => ⟨I2.kIn, ?_⟩) he hpl
    exact run_fnS F hr b (hx σ) I2 r q
  rcases h with ⟨h1, h2⟩ | ⟨h1, h2⟩
  · exact go F1 hr1 kp1 b1 h1 h2
  · exact go F2 hr2 kp2 b2 h1 h2
end
end L2
namespace Sw
open PySem PySem.Spec PyProof.Rows L2
def dLI (ns : List Int) : PyData := .list (ns.map .int)
theorem dp_li {K : PySem.W.Frag} {H : Hp} {p : Addr} {ns : List Int} (h : H p = some (.lst (ns.map V.int))) : Dp K H (.ref p) (dLI ns) := dp_l h (dpAll_ints ns)
theorem lay_li (ns : List Int) : Lay 1 (dLI ns) := lay_list fun d hd => by
  obtain ⟨i, _, rfl⟩ := List.mem_map.mp hd
  exact lay_int 0 i
def oneD (n : Int) (at_ : List Int) (l : List Int) : PyData := if isPose n at_ then dLI l else dTI at_
theorem lay_one (n : Int) (at_ l : List Int) : Lay 1 (oneD n at_ l) := by
  unfold oneD
  split
  · exact lay_li l
  · exact lay_ti at_
def listsD (n : Int) (cam at_ : List Int) (kk : List (List Int)) : List PyData := [oneD n at_ ((seenI n cam at_ 0 kk).map (·.1)), oneD n at_ (sureC cam (seenI n cam at_ 0 kk))]
/-- both lists, each with its error in its place -/
def spLists (K : PySem.W.Frag) (C : Addr) : Sp := fun vs H Q _ => ∃ (p pa : Addr) (n : Int) (ks : Tups) (cam at_ : List Int), vs = [.ref p, .ref pa] ∧ SkyS K C H p n ks cam ∧ isSky n (keys ks) cam = true ∧ SqT K H pa (at_.map V.int) ∧
  ∀ (H' : Hp) (l : Addr), Same H H' → Dp K H' (.ref l) (.list (listsD n cam at_ (keys ks))) → Q (.ref l) H'
/-! data that stand whatever the list at l becomes -/
def Off (K : PySem.W.Frag) (H : Hp) (l : Addr) (v : V) (d : PyData) : Prop := ∀ o, Dp K (upd H l o) v d
def OffAll (K : PySem.W.Frag) (H : Hp) (l : Addr) (vs : List V) (ds : List PyData) : Prop := ∀ o, DpAll K (upd H l o) vs ds
theorem same_off {H H' : Hp} {l : Addr} {o : HO} (h : ∀ q x, q ≠ l → H q = some x → H' q = some x) : Same (upd H l o) (upd H' l o) := fun q x e => by
  by_cases hq : q = l
  · subst hq
    rw [upd_same] at e ⊢
    exact e
  · rw [upd_ne hq] at e ⊢
    exact h q x hq e
theorem offAll_up {K : PySem.W.Frag} {H H' : Hp} {l : Addr} {vs : List V} {ds : List PyData} (h : ∀ q x, q ≠ l → H q = some x → H' q = some x) (d : OffAll K H l vs ds) : OffAll K H' l vs ds := fun o => dpAll_up (same_off h) (d o)
theorem offAll_push {K : PySem.W.Frag} {H : Hp} {l : Addr} {v : V} {d : PyData} {vs : List V} {ds : List PyData} (h1 : OffAll K H l vs ds) (h2 : Off K H l v d) : OffAll K H l (vs ++ [v]) (ds ++ [d]) := fun o => dpAll_push (h1 o) (h2 o)
theorem offAll_at {K : PySem.W.Frag} {H : Hp} {l : Addr} {o : HO} {vs : List V} {ds : List PyData} (hl : H l = some o) (h : OffAll K H l vs ds) : DpAll K H vs ds := dpAll_up (fun q x e => by
  by_cases hq : q = l
  · subst hq
    rw [upd_same] at e
    rw [hl]
    exact e
  · rw [upd_ne hq] at e
    exact e) (h o)
theorem off_ti {K : PySem.W.Frag} {H : Hp} {l p : Addr} {xs : List V} {ns : List Int} (hl : H l = some (.lst xs)) (h : SqT K H p (ns.map V.int)) : Off K H l (.ref p) (dTI ns) := fun _ => dp_ti (sqT_lst hl h)
theorem off_li {K : PySem.W.Frag} {H : Hp} {l p : Addr} {ns : List Int} (hne : p ≠ l) (h : H p = some (.lst (ns.map V.int))) : Off K H l (.ref p) (dLI ns) := fun _ => dp_li (by rw [upd_ne hne]; exact h)
/-! what is seen and sure, by the law's own way -/
theorem iabs_le {x r : Int} : iabs x ≤ r ↔ -r ≤ x ∧ x ≤ r := by
  unfold iabs
  split <;> omega
theorem seenI_in {n r b g l x y q : Int} (room least : Int) (hroom : room = r + b) (hleast : least = l - g) : ∀ (kk : List (List Int)) (j : Nat), kk.all (isStar n) = true →
    (seenI n [r, b, g, l] [x, y, q] j kk).map (·.1) = inI n [r, b, g, l] [x, y, q] room least j kk
  | [], _, _ => rfl
  | k :: t, j, h => by
    rw [List.all_cons, Bool.and_eq_true] at h
    obtain ⟨sx, sy, bb, rfl, _⟩ := star_form h.1
    show (((match seenOne n [r, b, g, l] [x, y, q] [sx, sy, bb] with | some d => [((j : Int), d)] | none => []) ++ seenI n [r, b, g, l] [x, y, q] (j + 1) t).map (·.1)) = (if inOne n [r, b, g, l] [x, y, q] room least [sx, sy, bb] then [(j : Int)] else []) ++ inI n [r, b, g, l] [x, y, q] room least (j + 1) t
    rw [List.map_append, seenI_in room least hroom hleast t (j + 1) h.2]
    congr 1
    cases e : offI n [r, b, g, l] [x, y, q] [sx, sy, bb] with
    | none => unfold seenOne inOne; rw [e]; rfl
    | some z =>
      obtain ⟨u, v⟩ := z
      have bd := off_some e
      have e1 : seenOne n [r, b, g, l] [x, y, q] [sx, sy, bb] = if l - g ≤ bb then some [u, v, bb] else none := by unfold seenOne; rw [e]
      have e2 : inOne n [r, b, g, l] [x, y, q] room least [sx, sy, bb] = decide (l - g ≤ bb) := by
        unfold inOne
        rw [e]
        show (decide (iabs u ≤ room) && decide (iabs v ≤ room) && decide (least ≤ bb)) = _
        rw [hroom, hleast, decide_eq_true (iabs_le.mpr bd.1), decide_eq_true (iabs_le.mpr bd.2)]
        rfl
      rw [e1, e2]
      by_cases hc : l - g ≤ bb
      · rw [if_pos hc, if_pos (decide_eq_true hc)]
        rfl
      · rw [if_neg hc, if_neg (by rw [decide_eq_false hc]; decide)]
        rfl
theorem sureI_app (r b g l : Int) (a c : List (Int × List Int)) : sureI r b g l (a ++ c) = sureI r b g l a ++ sureI r b g l c := by
  unfold sureI
  rw [List.filter_append, List.map_append]
theorem sureI_in {n r b g l x y q : Int} (hg : 0 ≤ g) (hb : 0 ≤ b) : ∀ (kk : List (List Int)) (j : Nat), kk.all (isStar n) = true →
    sureI r b g l (seenI n [r, b, g, l] [x, y, q] j kk) = inI n [r, b, g, l] [x, y, q] (r - b) (l + g) j kk
  | [], _, _ => rfl
  | k :: t, j, h => by
    rw [List.all_cons, Bool.and_eq_true] at h
    obtain ⟨sx, sy, bb, rfl, _⟩ := star_form h.1
    show sureI r b g l ((match seenOne n [r, b, g, l] [x, y, q] [sx, sy, bb] with | some d => [((j : Int), d)] | none => []) ++ seenI n [r, b, g, l] [x, y, q] (j + 1) t) = (if inOne n [r, b, g, l] [x, y, q] (r - b) (l + g) [sx, sy, bb] then [(j : Int)] else []) ++ inI n [r, b, g, l] [x, y, q] (r - b) (l + g) (j + 1) t
    rw [sureI_app, sureI_in hg hb t (j + 1) h.2]
    congr 1
    cases e : offI n [r, b, g, l] [x, y, q] [sx, sy, bb] with
    | none => unfold seenOne inOne; rw [e]; rfl
    | some z =>
      obtain ⟨u, v⟩ := z
      have e1 : seenOne n [r, b, g, l] [x, y, q] [sx, sy, bb] = if l - g ≤ bb then some [u, v, bb] else none := by unfold seenOne; rw [e]
      have e2 : inOne n [r, b, g, l] [x, y, q] (r - b) (l + g) [sx, sy, bb] = isSure r b g l [u, v, bb] := by
        unfold inOne
        rw [e]
        rfl
      rw [e1, e2]
      by_cases hc : l - g ≤ bb
      · rw [if_pos hc]
        show (([((j : Int), [u, v, bb])].filter fun z => isSure r b g l z.2).map (·.1)) = _
        rw [List.filter_cons]
        cases hs : isSure r b g l [u, v, bb] with
        | true => rfl
        | false => rfl
      · rw [if_neg hc]
        have : isSure r b g l [u, v, bb] = false := by
          show (decide (iabs u ≤ r - b) && decide (iabs v ≤ r - b) && decide (l + g ≤ bb)) = false
          rw [decide_eq_false (show ¬ l + g ≤ bb by omega), Bool.and_false]
        rw [this]
        rfl
end Sw
namespace Sw
open PySem PySem.Spec PyProof.Rows L2
theorem lay_offD (o : Option (Int × Int)) : Lay 1 (offD o) := by
  match o with
  | some (u, v) => exact lay_ti [u, v]
  | none => exact lay_non 1
theorem lay_pair {k : Nat} (i : Int) {d : PyData} (h : Lay k d) : Lay (k + 1) (.tuple [.int i, d]) := lay_tuple (lay_2 (lay_int _ _) h)
/-- a sky is made: what stood stands -/
theorem same_make {H : Hp} {x dx C : Addr} (nx : H x = none) (ndx : H dx = none) : Same H (upd (upd H dx (.own x)) x (.ins C dx [])) := fun q o e => by
  rw [upd_ne (ne_of_none e nx), upd_ne (ne_of_none e ndx)]
  exact e
end Sw
set_option Elab.async false
set_option linter.all false
set_option maxRecDepth 100000
set_option maxHeartbeats 4000000
/-! max and min of a tuple of integers. -/
namespace L2
open PySem PySem.Spec PyProof.Rows
open PySem.W (AlikeAll maxD minD maxD_ints minD_ints max_tuple_data min_tuple_data)
def rMaxTup (K : PySem.W.Frag) : List V → Hp → VK → Prop := fun vs H Q => ∃ (p : Addr) (i : Int) (ns : List Int), vs = [.ref p] ∧ SqT K H p ((i :: ns).map V.int) ∧ Q (.int (ns.foldl max i)) H
def rMinTup (K : PySem.W.Frag) : List V → Hp → VK → Prop := fun vs H Q => ∃ (p : Addr) (i : Int) (ns : List Int), vs = [.ref p] ∧ SqT K H p ((i :: ns).map V.int) ∧ Q (.int (ns.foldl min i)) H
theorem reads_ints {h : Heap} : ∀ {ns : List Int} {us : List Value}, Vals (ns.map V.int) us → ∃ as, ReadsAll h us (ns.map PyData.int) as
  | [], _, r => by
    cases r
    exact ⟨_, .nil⟩
  | n :: ns, _, r => by
    cases r with
    | cons rx rt =>
      obtain ⟨as, h2⟩ := reads_ints rt
      obtain ⟨t, rfl⟩ := rx
      exact ⟨_, .cons (.int n t) h2⟩
theorem alike_ints (i : Int) (ns : List Int) : AlikeAll (PyData.int i :: ns.map PyData.int) := by
  have mem : ∀ x ∈ (PyData.int i :: ns.map PyData.int), ∃ k, x = .int k := fun x hx => by
    rcases List.mem_cons.mp hx with rfl | hx
    · exact ⟨_, rfl⟩
    · obtain ⟨k, _, rfl⟩ := List.mem_map.mp hx
      exact ⟨k, rfl⟩
  refine ⟨fun x hx y hy => ?_, fun x hx => ?_⟩
  · obtain ⟨k, rfl⟩ := mem x hx
    obtain ⟨l, rfl⟩ := mem y hy
    rfl
  · obtain ⟨k, rfl⟩ := mem x hx
    exact nofun
theorem depth_ints : ∀ ns : List Int, PyData.depthAll (ns.map PyData.int) = 0
  | [] => rfl
  | n :: ns => by
    show max 0 (PyData.depthAll (ns.map PyData.int)) = 0
    rw [depth_ints ns]
    rfl
theorem cr_maxTup {X : Cx} (hc : X.calm = true) (hu : X.A.units + 1 < cLine) : CallR X (.builtin "max") (rMaxTup X.K) := by
  rintro pins s σ H vs us Q I r ⟨p, i, ns, rfl, hs, q⟩
  obtain ⟨its, rv, hl, _⟩ := I.tuple hs
  rw [Vals.ref1 r]
  obtain ⟨as, ra⟩ := reads_ints (h := s.heap) (ns := i :: ns) rv
  refine max_tuple_data (I.ok.hd hc) hl (x := .int i) (xs := ns.map .int) (by simpa using ra) (alike_ints i ns) (by rw [show PyData.depthAll (PyData.int i :: ns.map PyData.int) = 0 from depth_ints (i :: ns)]; exact hu) fun j v h' tk bs hj rd hk => ?_
  rw [maxD_ints] at rd
  cases rd
  exact ⟨.int _, H, I.kept hk, ⟨_, rfl⟩, q⟩
theorem cr_minTup {X : Cx} (hc : X.calm = true) (hu : X.A.units + 1 < cLine) : CallR X (.builtin "min") (rMinTup X.K) := by
  rintro pins s σ H vs us Q I r ⟨p, i, ns, rfl, hs, q⟩
  obtain ⟨its, rv, hl, _⟩ := I.tuple hs
  rw [Vals.ref1 r]
  obtain ⟨as, ra⟩ := reads_ints (h := s.heap) (ns := i :: ns) rv
  refine min_tuple_data (I.ok.hd hc) hl (x := .int i) (xs := ns.map .int) (by simpa using ra) (alike_ints i ns) (by rw [show PyData.depthAll (PyData.int i :: ns.map PyData.int) = 0 from depth_ints (i :: ns)]; exact hu) fun j v h' tk bs hj rd hk => ?_
  rw [minD_ints] at rd
  cases rd
  exact ⟨.int _, H, I.kept hk, ⟨_, rfl⟩, q⟩
end L2
set_option Elab.async false
set_option linter.all false
set_option maxRecDepth 100000
set_option maxHeartbeats 4000000
/-! Links between what is seen at two attitudes: the parts of the laws about them. -/
namespace Sw
open PySem PySem.Spec PyProof.Rows L2
def isRB (n : Int) (x : List Int) : Prop := ∃ r b : Int, x = [r, b] ∧ 0 ≤ r ∧ r ≤ 4 ∧ 0 ≤ b ∧ b ≤ 2 ∧ b ≤ r ∧ 2 * (r + b) + 1 ≤ n
def spCamL (K : PySem.W.Frag) : Sp := fun vs H Q _ => ∃ (p1 : Addr) (ns : List Int) (at' n : Int), vs = [.ref p1, .int at', .int n] ∧ SqL K H p1 (ns.map V.int) ∧ 0 ≤ at' ∧ at' + 3 ≤ (ns.length : Int) ∧ 4 ≤ n ∧ n ≤ 9 ∧
  ∀ (H' : Hp) (c : Addr) (cam : List Int), Same H H' → SqT K H' c (cam.map V.int) → isCam n cam = true → Q (.ref c) H'
def spStarsL (K : PySem.W.Frag) : Sp := fun vs H Q _ => ∃ (p1 : Addr) (ns : List Int) (at' n many : Int), vs = [.ref p1, .int at', .int n, .int many] ∧ SqL K H p1 (ns.map V.int) ∧ (∀ z ∈ ns, Num z) ∧ 0 ≤ at' ∧ 0 ≤ many ∧ many ≤ 20 ∧ at' + 1 + 3 * many ≤ (ns.length : Int) ∧ 4 ≤ n ∧ n ≤ 9 ∧
  ∀ (H' : Hp) (l : Addr) (ks : Tups), Same H H' → H l = none → H' l = some (.lst (refs ks)) → TupsAt K H' ks → (∀ x ∈ keys ks, isStar n x = true) → (keys ks).Nodup → (ks.length : Int) ≤ many → Asc 10 (keys ks) → Q (.ref l) H'
/-- the drawn parts of a sky, for skies of some sides -/
def spPartsL (K : PySem.W.Frag) : Sp := fun vs H Q _ => ∃ (p1 sl : Addr) (ns sides : List Int) (at' many : Int), vs = [.ref p1, .int at', .ref sl, .int many] ∧ SqL K H p1 (ns.map V.int) ∧ (∀ z ∈ ns, Num z) ∧ SqL K H sl (sides.map V.int) ∧ (∀ z ∈ sides, 4 ≤ z ∧ z ≤ 9) ∧ 0 < sides.length ∧ sides.length < 100 ∧ 0 ≤ at' ∧ 0 ≤ many ∧ many ≤ 20 ∧ at' + 5 + 3 * many ≤ (ns.length : Int) ∧
  ∀ (H' : Hp) (t : Addr) (n : Int) (ks : Tups) (cam : List Int), Same H H' → PartsAt K H' t n ks cam → isSky n (keys ks) cam = true → (ks.length : Int) ≤ many → Asc 10 (keys ks) → Q (.ref t) H'
def spMadeL (K : PySem.W.Frag) (C : Addr) : Sp := fun vs H Q _ => ∃ (t : Addr) (n : Int) (ks : Tups) (cam : List Int), vs = [.ref t] ∧ PartsAt K H t n ks cam ∧ isSky n (keys ks) cam = true ∧ Asc 10 (keys ks) ∧
  ∀ (H' : Hp) (p : Addr) (ks' : Tups), Same H H' → SkyS K C H' p n ks' cam → keys ks' = keys ks → Q (.ref p) H'
def spAttL (K : PySem.W.Frag) : Sp := fun vs H Q _ => ∃ (p1 : Addr) (ns : List Int) (at' n : Int), vs = [.ref p1, .int at', .int n] ∧ SqL K H p1 (ns.map V.int) ∧ 0 ≤ at' ∧ at' + 3 ≤ (ns.length : Int) ∧ 4 ≤ n ∧
  ∀ (H' : Hp) (p : Addr) (at_ : List Int), Same H H' → SqT K H' p (at_.map V.int) → isPose n at_ = true → Q (.ref p) H'
def spBeside (K : PySem.W.Frag) : Sp := fun vs H Q _ => ∃ (p1 q : Addr) (ns one : List Int) (at' n : Int), vs = [.ref p1, .int at', .int n, .ref q] ∧ SqL K H p1 (ns.map V.int) ∧ (∀ z ∈ ns, Num z) ∧ 0 ≤ at' ∧ at' + 4 ≤ (ns.length : Int) ∧ 4 ≤ n ∧ SqT K H q (one.map V.int) ∧ isPose n one = true ∧
  ∀ (H' : Hp) (p : Addr) (at_ : List Int), Same H H' → SqT K H' p (at_.map V.int) → isPose n at_ = true → Q (.ref p) H'
def spTurnedL (K : PySem.W.Frag) : Sp := fun vs H Q _ => ∃ q x y : Int, vs = [.int q, .int x, .int y] ∧ 0 ≤ q ∧ q ≤ 3 ∧
  ∀ (H' : Hp) (p' : Addr), Same H H' → SqT K H' p' [.int (turnX q x y), .int (turnY q x y)] → Q (.ref p') H'
theorem refs_pick {ks : Tups} {j : Int} (h0 : 0 ≤ j) (h1 : j < (ks.length : Int)) : ∃ q, ks[j.toNat]? = some q ∧ atI (refs ks) j = some (.ref q.1) := by
  obtain ⟨k, rfl⟩ := Int.eq_ofNat_of_zero_le h0
  have hk : k < ks.length := by omega
  refine ⟨ks[k], List.getElem?_eq_getElem hk, atI_nat ?_⟩
  unfold refs
  rw [List.getElem?_map, List.getElem?_eq_getElem hk]
  rfl
end Sw
namespace Sw
open PySem PySem.Spec PyProof.Rows L2
/-! ### dicts from numbers to tuples -/
theorem put_fresh {v : V} {j : Int} {zs : Shown} (h : ∀ z ∈ zs, z.1 ≠ j) : putK (shownK zs) (.inl j) v = shownK zs ++ [(.inl j, v)] := by
  unfold putK
  rw [if_neg]
  intro e
  rw [List.any_eq_true] at e
  obtain ⟨kv, hk, e⟩ := e
  obtain ⟨z, hz, rfl⟩ := List.mem_map.mp hk
  exact h z hz (inl_inj (of_decide_eq_true e))
theorem shown_push (zs : Shown) (z : Int × Addr × List Int) : shownK zs ++ [(Sum.inl z.1, V.ref z.2.1)] = shownK (zs ++ [z]) := by
  unfold shownK
  rw [List.map_append]
  rfl
def atK (S : List (Int × List Int)) (a : Int) : Option (List Int) := (S.find? fun z => decide (z.1 = a)).map (·.2)
theorem at_shown (zs : Shown) (a : Int) : atK (shownD zs) a = (zs.find? fun z => decide (z.1 = a)).map (·.2.2) := by
  unfold atK shownD
  rw [List.find?_map, Option.map_map]
  rfl
/-- what d[a] is -/
theorem get_shown {K : PySem.W.Frag} {H : Hp} {d : Addr} {zs : Shown} (h : H d = some (.dK (shownK zs))) (hz : ShownAt K H zs) (a : Int) :
    (atK (shownD zs) a = none → DGet H d (.int a) none) ∧ ∀ l, atK (shownD zs) a = some l → ∃ q, DGet H d (.int a) (some (.ref q)) ∧ SqT K H q (l.map V.int) := by
  have g : DGet H d (.int a) (valV (shownK zs) (.inl a)) := DGet.k (k := .inl a) h
  rw [val_shown] at g
  rw [at_shown]
  cases e : zs.find? fun z => decide (z.1 = a) with
  | none =>
    rw [e] at g
    exact ⟨fun _ => g, fun l z => by cases z⟩
  | some z =>
    rw [e] at g
    refine ⟨(fun z => by cases z), fun l el => ?_⟩
    have el' : z.2.2 = l := Option.some.inj el
    exact ⟨z.2.1, g, el' ▸ hz z (List.mem_of_find?_eq_some e)⟩
theorem atK_none {S : List (Int × List Int)} {a : Int} (h : ∀ z ∈ S, z.1 ≠ a) : atK S a = none := by
  unfold atK
  rw [List.find?_eq_none.mpr fun z hz => by simpa using h z hz]
  rfl
theorem atK_app (S T : List (Int × List Int)) (a : Int) : atK (S ++ T) a = (atK S a).or (atK T a) := by
  unfold atK
  rw [List.find?_append]
  cases S.find? fun z => decide (z.1 = a) <;> rfl
theorem seenI_ge (n : Int) (cam at_ : List Int) : ∀ (l : List (List Int)) (j : Nat), ∀ z ∈ seenI n cam at_ j l, (j : Int) ≤ z.1
  | [], j, z, h => by cases h
  | x :: r, j, z, h => by
    rcases List.mem_append.mp h with h | h
    · cases e : seenOne n cam at_ x with
      | none => rw [e] at h; cases h
      | some d =>
        rw [e] at h
        rw [List.mem_singleton.mp h]
        exact Int.le_refl _
    · have := seenI_ge n cam at_ r (j + 1) z h
      omega
theorem atK_seen (n : Int) (cam at_ : List Int) : ∀ (l : List (List Int)) (j m : Nat), atK (seenI n cam at_ j l) ((j + m : Nat) : Int) = (l[m]?).bind (seenOne n cam at_)
  | [], j, m => rfl
  | x :: r, j, m => by
    show atK ((match seenOne n cam at_ x with | some d => [((j : Int), d)] | none => []) ++ seenI n cam at_ (j + 1) r) _ = _
    rw [atK_app]
    cases m with
    | zero =>
      rw [atK_none (S := seenI n cam at_ (j + 1) r) fun z hz => by have := seenI_ge n cam at_ r (j + 1) z hz; omega, List.getElem?_cons_zero]
      show _ = seenOne n cam at_ x
      cases seenOne n cam at_ x with
      | none => rfl
      | some d =>
        unfold atK
        rw [List.find?_cons_of_pos (p := fun z : Int × List Int => decide (z.1 = ((j + 0 : Nat) : Int))) (decide_eq_true rfl)]
        rfl
    | succ m =>
      rw [List.getElem?_cons_succ, ← atK_seen n cam at_ r (j + 1) m, show j + (m + 1) = j + 1 + m by omega]
      have z : atK (match seenOne n cam at_ x with | some d => [((j : Int), d)] | none => []) ((j + 1 + m : Nat) : Int) = none := by
        refine atK_none fun z hz => ?_
        cases e : seenOne n cam at_ x with
        | none => rw [e] at hz; cases hz
        | some d =>
          rw [e] at hz
          rw [List.mem_singleton.mp hz]
          show (j : Int) ≠ _
          omega
      rw [z]
      rfl
theorem atK_seen0 (n : Int) (cam at_ : List Int) (l : List (List Int)) (m : Nat) : atK (seenI n cam at_ 0 l) (m : Int) = (l[m]?).bind (seenOne n cam at_) := by
  have := atK_seen n cam at_ l 0 m
  rwa [Nat.zero_add] at this
/-! ### linked stars -/
def nearB (cam : List Int) : List Int → List Int → Bool
  | [u, v, b], [x, y, c] => match cam with
    | [_, bl, g, _] => decide (-(2 * bl) ≤ u - x) && decide (u - x ≤ 2 * bl) && (decide (-(2 * bl) ≤ v - y) && decide (v - y ≤ 2 * bl)) && (decide (-(2 * g) ≤ b - c) && decide (b - c ≤ 2 * g))
    | _ => false
  | _, _ => false
/-- what is seen of the star with this number -/
def sO (n : Int) (cam at_ : List Int) (kk : List (List Int)) (m : Nat) : Option (List Int) := (kk[m]?).bind (seenOne n cam at_)
def lkN (n : Int) (cam : List Int) (kk : List (List Int)) (one other : List Int) (a b : Nat) : Bool :=
  match sO n cam one kk a, sO n cam other kk b with
  | some d, some e => nearB cam d e
  | _, _ => false
def rowN (n : Int) (cam : List Int) (kk : List (List Int)) (one other : List Int) (a : Nat) : List Int := ((List.range kk.length).filter (lkN n cam kk one other a)).map Int.ofNat
def tblN (n : Int) (cam : List Int) (kk : List (List Int)) (one other : List Int) : List (List Int) := (List.range kk.length).map (rowN n cam kk one other)
def linksN (n : Int) (cam : List Int) (kk : List (List Int)) (one other : List Int) : List (List Int) := (List.range kk.length).flatMap fun a : Nat => ((List.range kk.length).filter (lkN n cam kk one other a)).map fun b : Nat => [(a : Int), (b : Int)]
theorem row_seen (n : Int) (cam other : List Int) (d : List Int) (kk : List (List Int)) : ∀ i, i ≤ kk.length →
    ((seenI n cam other 0 (kk.take i)).filter fun z => nearB cam d z.2).map (·.1) = ((List.range i).filter fun b => match sO n cam other kk b with | some e => nearB cam d e | none => false).map Int.ofNat
  | 0, _ => rfl
  | i + 1, hi => by
    have hk : kk[i]? = some kk[i] := List.getElem?_eq_getElem hi
    have tk : kk.take (i + 1) = kk.take i ++ [kk[i]] := by rw [List.take_add_one, hk]; rfl
    rw [tk, seenI_push, List.filter_append, List.map_append, row_seen n cam other d kk i (by omega), List.range_succ, List.filter_append, List.map_append]
    congr 1
    rw [List.length_take, Nat.min_eq_left (by omega), Nat.zero_add]
    have es : sO n cam other kk i = seenOne n cam other kk[i] := by unfold sO; rw [hk]; rfl
    cases e : seenOne n cam other kk[i] with
    | none =>
      rw [e] at es
      rw [List.filter_cons_of_neg (by rw [es]; exact Bool.false_ne_true)]
      rfl
    | some w =>
      rw [e] at es
      cases z : nearB cam d w with
      | true =>
        rw [List.filter_cons_of_pos (by exact z), List.filter_cons_of_pos (by rw [es]; exact z)]
        rfl
      | false =>
        rw [List.filter_cons_of_neg (by rw [z]; exact Bool.false_ne_true), List.filter_cons_of_neg (by rw [es]; exact fun q => Bool.false_ne_true (z.symm.trans q))]
        rfl
theorem row_eq {n : Int} {cam one other : List Int} {kk : List (List Int)} {a : Nat} {d : List Int} (h : sO n cam one kk a = some d) :
    ((seenI n cam other 0 kk).filter fun z => nearB cam d z.2).map (·.1) = rowN n cam kk one other a := by
  have := row_seen n cam other d kk kk.length (Nat.le_refl _)
  rw [List.take_length] at this
  rw [this]
  unfold rowN
  congr 1
  apply List.filter_congr
  intro b _
  unfold lkN
  rw [h]
  cases sO n cam other kk b <;> rfl
theorem row_none {n : Int} {cam one other : List Int} {kk : List (List Int)} {a : Nat} (h : sO n cam one kk a = none) : rowN n cam kk one other a = [] := by
  unfold rowN
  rw [List.filter_eq_nil_iff.mpr]
  · rfl
  · intro b _
    unfold lkN
    rw [h]
    exact Bool.false_ne_true
end Sw
namespace Sw
open PySem PySem.Spec PyProof.Rows L2
structure OffD (K : PySem.W.Frag) (H : Hp) (d : Addr) (n : Int) (cam at_ : List Int) (kk : List (List Int)) (zs : Shown) : Prop where
  ed : H d = some (.dK (shownK zs))
  sh : ShownAt K H zs
  val : ∀ (m : Nat) (k : List Int), kk[m]? = some k → atK (shownD zs) (m : Int) = (offI n cam at_ k).map fun p => [p.1, p.2]
theorem offD_up {K : PySem.W.Frag} {H H' : Hp} {d : Addr} {n : Int} {cam at_ : List Int} {kk : List (List Int)} {zs : Shown} (s : Same H H') (h : OffD K H d n cam at_ kk zs) : OffD K H' d n cam at_ kk zs :=
  ⟨s _ _ h.ed, fun z hz => sqT_up s (h.sh z hz), h.val⟩
def spOffs (K : PySem.W.Frag) : Sp := fun vs H Q _ => ∃ (pp pa : Addr) (n : Int) (ks : Tups) (cam at_ : List Int), vs = [.ref pp, .ref pa] ∧ PartsAt K H pp n ks cam ∧ isSky n (keys ks) cam = true ∧ SqT K H pa (at_.map V.int) ∧ isPose n at_ = true ∧
  ∀ (H' : Hp) (d : Addr) (zs : Shown), Same H H' → OffD K H' d n cam at_ (keys ks) zs → Q (.ref d) H'
structure SeenD (K : PySem.W.Frag) (H : Hp) (d : Addr) (n : Int) (cam at_ : List Int) (kk : List (List Int)) (zs : Shown) : Prop where
  ed : H d = some (.dK (shownK zs))
  sh : ShownAt K H zs
  val : ∀ m : Nat, m < kk.length → atK (shownD zs) (m : Int) = (sO n cam at_ kk m).map (·.take 2)
theorem seenD_up {K : PySem.W.Frag} {H H' : Hp} {d : Addr} {n : Int} {cam at_ : List Int} {kk : List (List Int)} {zs : Shown} (s : Same H H') (h : SeenD K H d n cam at_ kk zs) : SeenD K H' d n cam at_ kk zs :=
  ⟨s _ _ h.ed, fun z hz => sqT_up s (h.sh z hz), h.val⟩
def spSeenL (K : PySem.W.Frag) : Sp := fun vs H Q _ => ∃ (pp pa : Addr) (n : Int) (ks : Tups) (cam at_ : List Int), vs = [.ref pp, .ref pa] ∧ PartsAt K H pp n ks cam ∧ isSky n (keys ks) cam = true ∧ SqT K H pa (at_.map V.int) ∧ isPose n at_ = true ∧
  ∀ (H' : Hp) (d : Addr) (zs : Shown), Same H H' → SeenD K H' d n cam at_ (keys ks) zs → Q (.ref d) H'
def spSureL (K : PySem.W.Frag) : Sp := fun vs H Q _ => ∃ (pp pa : Addr) (n : Int) (ks : Tups) (cam at_ : List Int), vs = [.ref pp, .ref pa] ∧ PartsAt K H pp n ks cam ∧ isSky n (keys ks) cam = true ∧ SqT K H pa (at_.map V.int) ∧ isPose n at_ = true ∧
  ∀ (H' : Hp) (l : Addr), Same H H' → H' l = some (.lst ((sureN n cam at_ (keys ks)).map V.int)) → Q (.ref l) H'
def spCommon : Sp := fun vs H Q _ => ∃ lo hi x y by' : Int, vs = [.int lo, .int hi, .int x, .int y, .int by'] ∧ -1000 ≤ lo ∧ lo ≤ 1000 ∧ -1000 ≤ hi ∧ hi ≤ 1000 ∧
  ∀ (H' : Hp) (b : Bool), Same H H' → (b = true ↔ ∃ k, lo ≤ k ∧ k ≤ hi ∧ iabs (k - x) ≤ by' ∧ iabs (k - y) ≤ by') → Q (.bl b) H'
def spLinksL (K : PySem.W.Frag) : Sp := fun vs H Q _ => ∃ (pp pa pb : Addr) (n : Int) (ks : Tups) (cam one other : List Int), vs = [.ref pp, .ref pa, .ref pb] ∧ PartsAt K H pp n ks cam ∧ isSky n (keys ks) cam = true ∧ SqT K H pa (one.map V.int) ∧ isPose n one = true ∧ SqT K H pb (other.map V.int) ∧ isPose n other = true ∧
  ∀ (H' : Hp) (l : Addr) (es : Tups), Same H H' → H' l = some (.lst (refs es)) → TupsAt K H' es → keys es = linksN n cam (keys ks) one other → Q (.ref l) H'
def spLots (K : PySem.W.Frag) : Sp := fun vs H Q _ => ∃ (rl : Addr) (W : List Int), vs = [.ref rl] ∧ SqL K H rl (W.map V.int) ∧ W.length ≤ 6 ∧
  ∀ (H' : Hp) (l : Addr) (es : List (Addr × List Int)), Same H H' → H' l = some (.lst (refs es)) → IntsAt H' es → keys es = partsL W [[]] → Q (.ref l) H'
def spLacks (K : PySem.W.Frag) : Sp := fun vs H Q _ => ∃ (pl rl : Addr) (es : Tups) (g : List (Int × Int)) (L : List Int), vs = [.ref pl, .ref rl] ∧ SqL K H pl (refs es) ∧ TupsAt K H es ∧ keys es = pairs2 g ∧ es.length ≤ 1000 ∧ SqL K H rl (L.map V.int) ∧ L.length ≤ 100 ∧
  ∀ (H' : Hp) (ns : List Int), Same H H' → ns.Nodup → (∀ c, c ∈ ns ↔ ∃ r ∈ L, (r, c) ∈ g) → Q (.int ((L.length : Int) - ns.length)) H'
def twoErr (D : Addr) (E : XK) (H : Hp) (q r : Addr) (n : Int) (ns ms : List Int) : Prop :=
  (isPose n ns = false → ∀ (d : Addr) (H' : Hp), Same H H' → H' d = some (.xd [("attitude", .ref q)]) → E (.ref D) (some d) H') ∧
  (isPose n ns = true → isPose n ms = false → ∀ (d : Addr) (H' : Hp), Same H H' → H' d = some (.xd [("attitude", .ref r)]) → E (.ref D) (some d) H')
structure ShD (K : PySem.W.Frag) (H : Hp) (d : Addr) (n : Int) (cam at_ : List Int) (kk : List (List Int)) (zs : Shown) : Prop where
  ed : H d = some (.dK (shownK zs))
  sh : ShownAt K H zs
  val : shownD zs = seenI n cam at_ 0 kk
theorem shD_up {K : PySem.W.Frag} {H H' : Hp} {d : Addr} {n : Int} {cam at_ : List Int} {kk : List (List Int)} {zs : Shown} (s : Same H H') (h : ShD K H d n cam at_ kk zs) : ShD K H' d n cam at_ kk zs :=
  ⟨s _ _ h.ed, fun z hz => sqT_up s (h.sh z hz), h.val⟩
def spShownAt (K : PySem.W.Frag) (C D : Addr) : Sp := fun vs H Q E => ∃ (p q r : Addr) (n : Int) (ks : Tups) (cam one other : List Int), vs = [.ref p, .ref q, .ref r] ∧ SkyS K C H p n ks cam ∧ isSky n (keys ks) cam = true ∧ SqT K H q (one.map V.int) ∧ SqT K H r (other.map V.int) ∧
  (isPose n one = true → isPose n other = true → ∀ (H' : Hp) (t d1 d2 : Addr) (z1 z2 : Shown), Same H H' → SqT K H' t [.ref d1, .ref d2] → d1 ≠ d2 → ShD K H' d1 n cam one (keys ks) z1 → ShD K H' d2 n cam other (keys ks) z2 → Q (.ref t) H') ∧ twoErr D E H q r n one other
def spLinkTab (K : PySem.W.Frag) (C : Addr) : Sp := fun vs H Q _ => ∃ (p d1 d2 : Addr) (n : Int) (ks : Tups) (cam one other : List Int) (z1 z2 : Shown), vs = [.ref p, .ref d1, .ref d2] ∧ d1 ≠ d2 ∧ SkyS K C H p n ks cam ∧ isSky n (keys ks) cam = true ∧ ShD K H d1 n cam one (keys ks) z1 ∧ ShD K H d2 n cam other (keys ks) z2 ∧
  ∀ (H' : Hp) (t : Addr) (tb : Tups), Same H H' → TabAt K H' t tb → keys tb = tblN n cam (keys ks) one other → Q (.ref t) H'
/-- the greatest lack -/
def LackIs (P : Int → List Int) (W : List Int) (x : Int) : Prop := (∃ M : List Int, M.Sublist W ∧ lackI P M x) ∧ ∀ M : List Int, M.Sublist W → ∀ y, lackI P M y → y ≤ x
def spLacks2 (K : PySem.W.Frag) (C : Addr) : Sp := fun vs H Q _ => ∃ (p d1 d2 : Addr) (n : Int) (ks : Tups) (cam one other : List Int) (z1 z2 : Shown), vs = [.ref p, .ref d1, .ref d2] ∧ d1 ≠ d2 ∧ SkyS K C H p n ks cam ∧ isSky n (keys ks) cam = true ∧ ShD K H d1 n cam one (keys ks) z1 ∧ ShD K H d2 n cam other (keys ks) z2 ∧
  ∀ (H' : Hp) (t : Addr) (x y : Int), Same H H' → SqT K H' t [.int x, .int y] → LackIs (tP (tblN n cam (keys ks) one other)) (sureN n cam one (keys ks)) x → LackIs (tP (tblN n cam (keys ks) other one)) (sureN n cam other (keys ks)) y → Q (.ref t) H'
def spLackOf (K : PySem.W.Frag) (C D : Addr) (f : Int → Int → Int) : Sp := fun vs H Q E => ∃ (p q r : Addr) (n : Int) (ks : Tups) (cam one other : List Int), vs = [.ref p, .ref q, .ref r] ∧ SkyS K C H p n ks cam ∧ isSky n (keys ks) cam = true ∧ SqT K H q (one.map V.int) ∧ SqT K H r (other.map V.int) ∧
  (isPose n one = true → isPose n other = true → ∀ (H' : Hp) (x y : Int), Same H H' → LackIs (tP (tblN n cam (keys ks) one other)) (sureN n cam one (keys ks)) x → LackIs (tP (tblN n cam (keys ks) other one)) (sureN n cam other (keys ks)) y → Q (.int (f x y)) H') ∧ twoErr D E H q r n one other
def spLeastOf (K : PySem.W.Frag) (C D : Addr) : Sp := fun vs H Q E => ∃ (p q r : Addr) (n : Int) (ks : Tups) (cam one other : List Int), vs = [.ref p, .ref q, .ref r] ∧ SkyS K C H p n ks cam ∧ isSky n (keys ks) cam = true ∧ SqT K H q (one.map V.int) ∧ SqT K H r (other.map V.int) ∧
  (isPose n one = true → isPose n other = true → ∀ (H' : Hp) (l : Addr) (g : MM) (F : List Int), Same H H' → H' l = some (.lst (F.map V.int)) → F.Pairwise (· < ·) → LeastBy (tP (tblN n cam (keys ks) one other)) (sureN n cam one (keys ks)) g F → Q (.ref l) H') ∧ twoErr D E H q r n one other
def spMostL (K : PySem.W.Frag) : Sp := fun vs H Q _ => ∃ (t rl : Addr) (tb : Tups) (W : List Int), vs = [.ref t, .ref rl] ∧ TabAt K H t tb ∧ TabOk (keys tb) ∧ SqL K H rl (W.map V.int) ∧ W.Nodup ∧ (∀ r ∈ W, 0 ≤ r ∧ r < (tb.length : Int)) ∧
  ∀ (H' : Hp) (m : Int), Same H H' → LackIs (tP (keys tb)) W ((W.length : Int) - m) → Q (.int m) H'
theorem lack_le {P : Int → List Int} {W L : List Int} {g : MM} {x : Int} (hM : Mt P g) (hW : W.Nodup) (hL : L.Nodup) (hLW : ∀ r ∈ L, r ∈ W) (hx : lackI P L x) : x ≤ (W.length : Int) - (W.filter (has g)).length := by
  obtain ⟨ns, hn, hc, rfl⟩ := hx
  have h1 : (matesOf g L).length ≤ ns.length := len_le_of_sub (nodup_mates hM hL) fun c hc' => by
    obtain ⟨r, hr, e⟩ := mem_mates.mp hc'
    exact (hc c).mpr ⟨r, hr, hM.ed r c e⟩
  rw [len_mates] at h1
  have h2 := filt_len L (has g)
  have h3 := filt_len W (has g)
  have h4 : (L.filter fun x => !has g x).length ≤ (W.filter fun x => !has g x).length := len_le_of_sub (hL.filter _) fun c hc' => by
    rw [List.mem_filter] at hc' ⊢
    exact ⟨hLW c hc'.1, hc'.2⟩
  omega
theorem lack_is {P : Int → List Int} {W Z : List Int} {g : MM} (hM : Mt P g) (hW : W.Nodup) (hZ : Shut P g Z) (hZW : ∀ z ∈ Z, z ∈ W) (hF : ∀ r ∈ W, lk g r = none → r ∈ Z) : LackIs P W ((W.length : Int) - (W.filter (has g)).length) := by
  refine ⟨⟨W.filter fun r => decide (r ∈ Z), List.filter_sublist, ?_⟩, fun M hMW y hy => lack_le hM hW (hMW.nodup hW) (fun r hr => hMW.subset hr) hy⟩
  have hm : ∀ r, r ∈ (W.filter fun r => decide (r ∈ Z)) ↔ r ∈ Z := fun r => by
    rw [List.mem_filter, decide_eq_true_iff]
    exact ⟨fun h => h.2, fun h => ⟨hZW r h, h⟩⟩
  have hn : (W.filter fun r => decide (r ∈ Z)).Nodup := hW.filter _
  generalize W.filter (fun r => decide (r ∈ Z)) = M at hm hn ⊢
  refine ⟨matesOf g M, nodup_mates hM hn, fun c => ?_, ?_⟩
  · rw [mem_mates]
    constructor
    · rintro ⟨r, hr, e⟩
      exact ⟨r, hr, hM.ed r c e⟩
    · rintro ⟨r, hr, e⟩
      obtain ⟨z, hz, e2⟩ := hZ r ((hm r).mp hr) c e
      exact ⟨z, (hm z).mpr hz, e2⟩
  · rw [len_mates]
    have h2 := filt_len M (has g)
    have h3 := filt_len W (has g)
    have h4 : (M.filter fun x => !has g x).length = (W.filter fun x => !has g x).length := same_card (hn.filter _) (hW.filter _) fun c => by
      rw [List.mem_filter, List.mem_filter, hm]
      have e : (!has g c) = true ↔ lk g c = none := by
        unfold has
        cases lk g c <;> simp
      rw [e]
      exact ⟨fun h => ⟨hZW c h.1, h.2⟩, fun h => ⟨hF c h.1 h.2, h.2⟩⟩
    omega
theorem lackIs_uniq {P : Int → List Int} {W : List Int} {x y : Int} (hx : LackIs P W x) (hy : LackIs P W y) : x = y := by
  obtain ⟨⟨M, h1, h2⟩, h3⟩ := hx
  obtain ⟨⟨N, h4, h5⟩, h6⟩ := hy
  have := h3 N h4 y h5
  have := h6 M h1 x h2
  omega
end Sw
namespace Sw
open PySem PySem.Spec PyProof.Rows L2
/-- what has been found up to here -/
structure OffV (n : Int) (cam at_ : List Int) (kk : List (List Int)) (vis : Int → Int → Nat → Prop) (zs : Shown) : Prop where
  from_ : ∀ z ∈ zs, ∃ (m : Nat) (k : List Int) (u v : Int), z.1 = (m : Int) ∧ kk[m]? = some k ∧ offI n cam at_ k = some (u, v) ∧ z.2.2 = [u, v] ∧ vis u v m
  to : ∀ (m : Nat) (k : List Int) (u v : Int), kk[m]? = some k → offI n cam at_ k = some (u, v) → vis u v m → ∃ z ∈ zs, z.1 = (m : Int)
theorem OffV.imp {n : Int} {cam at_ : List Int} {kk : List (List Int)} {vis vis' : Int → Int → Nat → Prop} {zs : Shown} (h : OffV n cam at_ kk vis zs) (e : ∀ (m : Nat) (k : List Int) (u v : Int), kk[m]? = some k → offI n cam at_ k = some (u, v) → (vis u v m ↔ vis' u v m)) : OffV n cam at_ kk vis' zs := by
  refine ⟨fun z hz => ?_, fun m k u v hk ho hv => h.to m k u v hk ho ((e m k u v hk ho).mpr hv)⟩
  obtain ⟨m, k, u, v, h1, h2, h3, h4, h5⟩ := h.from_ z hz
  exact ⟨m, k, u, v, h1, h2, h3, h4, (e m k u v h2 h3).mp h5⟩
theorem OffV.val {n : Int} {cam at_ : List Int} {kk : List (List Int)} {vis : Int → Int → Nat → Prop} {zs : Shown} (h : OffV n cam at_ kk vis zs) {m : Nat} {k : List Int} (all : ∀ u v, offI n cam at_ k = some (u, v) → vis u v m) (hk : kk[m]? = some k) :
    atK (shownD zs) (m : Int) = (offI n cam at_ k).map fun p => [p.1, p.2] := by
  rw [at_shown]
  cases e : zs.find? fun z => decide (z.1 = (m : Int)) with
  | none =>
    cases eo : offI n cam at_ k with
    | none => rfl
    | some p =>
      obtain ⟨u, v⟩ := p
      obtain ⟨z, hz, ez⟩ := h.to m k u v hk eo (all u v eo)
      have := List.find?_eq_none.mp e z hz
      exact absurd (decide_eq_true ez) this
  | some z =>
    have ez0 := List.find?_some (p := fun z : Int × Addr × List Int => decide (z.1 = (m : Int))) e
    have ez : z.1 = (m : Int) := of_decide_eq_true ez0
    obtain ⟨m', k', u, v, h1, h2, h3, h4, h5⟩ := h.from_ z (List.mem_of_find?_eq_some e)
    have em : m' = m := by omega
    rw [em, hk] at h2
    have ek := Option.some.inj h2
    rw [← ek] at h3
    rw [h3]
    show some z.2.2 = some [u, v]
    rw [h4]
theorem off_some3 {n r b g l x y q u v : Int} {k : List Int} (hk : isStar n k = true) (h : offI n [r, b, g, l] [x, y, q] k = some (u, v)) : (-(r + b) ≤ u ∧ u ≤ r + b) ∧ (-(r + b) ≤ v ∧ v ≤ r + b) := by
  obtain ⟨sx, sy, bb, rfl, _⟩ := star_form hk
  exact off_some h
end Sw
namespace Sw
open PySem PySem.Spec PyProof.Rows L2
theorem at_push (zs : Shown) (z : Int × Addr × List Int) (m : Int) : atK (shownD (zs ++ [z])) m = (atK (shownD zs) m).or (if z.1 = m then some z.2.2 else none) := by
  unfold shownD
  rw [List.map_append, atK_app]
  congr 1
  show atK [(z.1, z.2.2)] m = _
  unfold atK
  by_cases e : z.1 = m
  · rw [List.find?_cons_of_pos (p := fun z : Int × List Int => decide (z.1 = m)) (decide_eq_true e), if_pos e]
    rfl
  · rw [List.find?_cons_of_neg (p := fun z : Int × List Int => decide (z.1 = m)) (by simpa using e), if_neg e]
    rfl
theorem at_lt {zs : Shown} {i m : Int} (h : ∀ z ∈ zs, z.1 < i) (hm : i ≤ m) : atK (shownD zs) m = none := by
  refine atK_none fun z hz => ?_
  obtain ⟨y, hy, rfl⟩ := List.mem_map.mp hz
  have := h y hy
  show y.1 ≠ m
  omega
theorem seenOne_eq (n r b g l : Int) (at_ : List Int) (sx sy bb : Int) : seenOne n [r, b, g, l] at_ [sx, sy, bb] = match offI n [r, b, g, l] at_ [sx, sy, bb] with
    | some (u, v) => if l - g ≤ bb then some [u, v, bb] else none
    | none => none := by
  unfold seenOne
  cases offI n [r, b, g, l] at_ [sx, sy, bb] with
  | none => rfl
  | some p => rfl
theorem sO_eq {n : Int} {cam at_ : List Int} {kk : List (List Int)} {m : Nat} {k : List Int} (h : kk[m]? = some k) : sO n cam at_ kk m = seenOne n cam at_ k := by
  unfold sO
  rw [h]
  rfl
def sureOne (n r b g l : Int) (at_ : List Int) (sx sy bb : Int) : Bool := match offI n [r, b, g, l] at_ [sx, sy, bb] with
  | some (u, v) => decide (iabs u ≤ r - b) && decide (iabs v ≤ r - b) && decide (l + g ≤ bb)
  | none => false
theorem sure_step {n r b g l : Int} {at_ : List Int} {kk : List (List Int)} {i : Nat} {sx sy bb : Int} (g0 : 0 ≤ g) (hk : kk[i]? = some [sx, sy, bb]) :
    sureN n [r, b, g, l] at_ (kk.take (i + 1)) = sureN n [r, b, g, l] at_ (kk.take i) ++ (if sureOne n r b g l at_ sx sy bb then [(i : Int)] else []) := by
  have hi := (List.getElem?_eq_some_iff.mp hk).1
  have tk : kk.take (i + 1) = kk.take i ++ [[sx, sy, bb]] := by rw [List.take_add_one, hk]; rfl
  unfold sureN sureC
  show sureI r b g l _ = sureI r b g l _ ++ _
  rw [tk, seenI_push]
  unfold sureI
  rw [List.filter_append, List.map_append, List.length_take, Nat.min_eq_left (by omega), Nat.zero_add, seenOne_eq]
  congr 1
  unfold sureOne
  cases e : offI n [r, b, g, l] at_ [sx, sy, bb] with
  | none => rfl
  | some p =>
    obtain ⟨u, v⟩ := p
    show (List.filter (fun z => isSure r b g l z.2) (match (if l - g ≤ bb then some [u, v, bb] else none) with | some d => [((i : Int), d)] | none => [])).map (·.1) = if (decide (iabs u ≤ r - b) && decide (iabs v ≤ r - b) && decide (l + g ≤ bb)) = true then [(i : Int)] else []
    by_cases hb : l - g ≤ bb
    · rw [if_pos hb]
      show (List.filter (fun z => isSure r b g l z.2) [((i : Int), [u, v, bb])]).map (·.1) = _
      have z : isSure r b g l [u, v, bb] = (decide (iabs u ≤ r - b) && decide (iabs v ≤ r - b) && decide (l + g ≤ bb)) := rfl
      rw [← z]
      cases h : isSure r b g l [u, v, bb] with
      | true => rw [List.filter_cons_of_pos (by exact h)]; rfl
      | false => rw [List.filter_cons_of_neg (by rw [h]; exact Bool.false_ne_true)]; rfl
    · rw [if_neg hb, decide_eq_false (show ¬ l + g ≤ bb by omega), Bool.and_false]
      rfl
theorem clamp {lo hi w x y : Int} (h : lo ≤ hi) (w0 : 0 ≤ w) (x0 : lo - w ≤ x) (x1 : x ≤ hi + w) (y0 : lo - w ≤ y) (y1 : y ≤ hi + w) :
    (∃ k, lo ≤ k ∧ k ≤ hi ∧ iabs (k - x) ≤ w ∧ iabs (k - y) ≤ w) ↔ (-(2 * w) ≤ x - y ∧ x - y ≤ 2 * w) := by
  unfold iabs
  constructor
  · rintro ⟨k, h1, h2, h3, h4⟩
    split at h3 <;> split at h4 <;> omega
  · rintro ⟨h1, h2⟩
    by_cases e : x ≤ y
    · by_cases e2 : lo ≤ y - w
      · refine ⟨y - w, by omega, by omega, ?_, ?_⟩ <;> split <;> omega
      · refine ⟨lo, by omega, by omega, ?_, ?_⟩ <;> split <;> omega
    · by_cases e2 : lo ≤ x - w
      · refine ⟨x - w, by omega, by omega, ?_, ?_⟩ <;> split <;> omega
      · refine ⟨lo, by omega, by omega, ?_, ?_⟩ <;> split <;> omega
theorem links_mem {n : Int} {cam : List Int} {kk : List (List Int)} {one other : List Int} {r c : Int} : [r, c] ∈ linksN n cam kk one other ↔ c ∈ tP (tblN n cam kk one other) r := by
  unfold linksN tP tblN
  rw [List.mem_flatMap]
  constructor
  · rintro ⟨a, ha, h⟩
    obtain ⟨b, hb, e⟩ := List.mem_map.mp h
    injection e with e1 e2
    injection e2 with e2 _
    rw [List.mem_range] at ha
    rw [← e1, if_pos (Int.natCast_nonneg a), Int.toNat_natCast, List.getElem?_map, List.getElem?_range ha]
    exact List.mem_map.mpr ⟨b, hb, e2⟩
  · intro h
    split at h
    · rename_i h0
      obtain ⟨a, rfl⟩ := Int.eq_ofNat_of_zero_le h0
      rw [Int.toNat_natCast, List.getElem?_map] at h
      by_cases ha : a < kk.length
      · rw [List.getElem?_range ha] at h
        obtain ⟨b, hb, e⟩ := List.mem_map.mp (show c ∈ rowN n cam kk one other a from h)
        exact ⟨a, List.mem_range.mpr ha, List.mem_map.mpr ⟨b, hb, by rw [← e]; rfl⟩⟩
      · rw [List.getElem?_eq_none (by rw [List.length_range]; omega)] at h
        cases h
    · cases h
theorem tblN_ok (n : Int) (cam : List Int) (kk : List (List Int)) (one other : List Int) (h : kk.length ≤ 60) : TabOk (tblN n cam kk one other) := by
  have row : ∀ l ∈ tblN n cam kk one other, l.Nodup ∧ ∀ c ∈ l, 0 ≤ c ∧ c < 60 := fun l hl => by
    obtain ⟨a, ha, rfl⟩ := List.mem_map.mp hl
    refine ⟨by unfold rowN; rw [List.Nodup, List.pairwise_map]; exact (List.Pairwise.filter _ List.nodup_range).imp fun h e => h (Int.ofNat.inj e), fun c hc => ?_⟩
    obtain ⟨b, hb, rfl⟩ := List.mem_map.mp hc
    have := List.mem_range.mp (List.mem_filter.mp hb).1
    exact ⟨Int.natCast_nonneg b, by show (b : Int) < 60; omega⟩
  refine ⟨by unfold tblN; rw [List.length_map, List.length_range]; omega, fun l hl c hc => ?_, fun l hl => (row l hl).1⟩
  have := (row l hl).2 c hc
  omega
end Sw
namespace Sw
open PySem PySem.Spec PyProof.Rows L2
def linksTo (n : Int) (cam : List Int) (kk : List (List Int)) (one other : List Int) (i : Nat) : List (List Int) := (List.range i).flatMap fun a : Nat => ((List.range kk.length).filter (lkN n cam kk one other a)).map fun b : Nat => [(a : Int), (b : Int)]
theorem linksTo_succ (n : Int) (cam : List Int) (kk : List (List Int)) (one other : List Int) (i : Nat) : linksTo n cam kk one other (i + 1) = linksTo n cam kk one other i ++ (((List.range kk.length).filter (lkN n cam kk one other i)).map fun b : Nat => [(i : Int), (b : Int)]) := by
  unfold linksTo
  rw [List.range_succ, List.flatMap_append]
  congr 1
  exact List.append_nil _
/-- what is seen of a star, part by part -/
theorem sO_parts {n r b g l : Int} {at_ : List Int} {kk : List (List Int)} {m : Nat} {d : List Int} {x y q : Int} (eat : at_ = [x, y, q]) (hst : kk.all (isStar n) = true) (h : sO n [r, b, g, l] at_ kk m = some d) :
    ∃ u v c : Int, d = [u, v, c] ∧ (∃ sx sy, kk[m]? = some [sx, sy, c]) ∧ -(r + b) ≤ u ∧ u ≤ r + b ∧ -(r + b) ≤ v ∧ v ≤ r + b ∧ l - g ≤ c ∧ c ≤ 9 := by
  unfold sO at h
  cases hk : kk[m]? with
  | none => rw [hk] at h; cases h
  | some k =>
    rw [hk] at h
    have h' : seenOne n [r, b, g, l] at_ k = some d := h
    obtain ⟨sx, sy, bb, rfl, _, _, _, _, _, b9⟩ := star_form (List.all_eq_true.mp hst k (List.mem_of_getElem? hk))
    rw [seenOne_eq] at h'
    cases eo : offI n [r, b, g, l] at_ [sx, sy, bb] with
    | none => rw [eo] at h'; cases h'
    | some p =>
      obtain ⟨u, v⟩ := p
      rw [eo] at h'
      have h2 : (if l - g ≤ bb then some [u, v, bb] else none) = some d := h'
      by_cases hb : l - g ≤ bb
      · rw [if_pos hb] at h2
        rw [eat] at eo
        have := off_some eo
        exact ⟨u, v, bb, (Option.some.inj h2).symm, ⟨sx, sy, rfl⟩, this.1.1, this.1.2, this.2.1, this.2.2, hb, b9⟩
      · rw [if_neg hb] at h2
        cases h2
end Sw
namespace Sw
theorem keys_at {ks : Tups} {i : Nat} {k : List Int} (h : (keys ks)[i]? = some k) : ∃ q, ks[i]? = some q ∧ q.2 = k := by
  unfold keys at h
  rw [List.getElem?_map] at h
  cases e : ks[i]? with
  | none => rw [e] at h; cases h
  | some q => rw [e] at h; exact ⟨q, rfl, Option.some.inj h⟩
end Sw
namespace Sw
open PySem PySem.Spec PyProof.Rows L2
theorem shown3 {n : Int} {cam at_ : List Int} {kk : List (List Int)} {zs : Shown} (h : shownD zs = seenI n cam at_ 0 kk) : ∀ z ∈ zs, z.2.2.length = 3 := fun z hz =>
  seenI_three n cam at_ kk 0 (z.1, z.2.2) (by rw [← h]; exact List.mem_map_of_mem (f := fun z : Int × Addr × List Int => (z.1, z.2.2)) hz)
theorem seenI_asc (n : Int) (cam at_ : List Int) : ∀ (l : List (List Int)) (j : Nat), ((seenI n cam at_ j l).map (·.1)).Pairwise (· < ·)
  | [], _ => List.Pairwise.nil
  | x :: r, j => by
    show (((match seenOne n cam at_ x with | some d => [((j : Int), d)] | none => []) ++ seenI n cam at_ (j + 1) r).map (·.1)).Pairwise (· < ·)
    rw [List.map_append, List.pairwise_append]
    refine ⟨?_, seenI_asc n cam at_ r (j + 1), fun a ha b hb => ?_⟩
    · cases seenOne n cam at_ x with
      | none => exact List.Pairwise.nil
      | some d => exact List.pairwise_singleton _ _
    · obtain ⟨z, hz, rfl⟩ := List.mem_map.mp hb
      have h1 := seenI_ge n cam at_ r (j + 1) z hz
      cases e : seenOne n cam at_ x with
      | none => rw [e] at ha; cases ha
      | some d =>
        rw [e] at ha
        have h2 : a = (j : Int) := List.mem_singleton.mp ha
        omega
theorem sureN_asc (n : Int) (cam at_ : List Int) (kk : List (List Int)) : (sureN n cam at_ kk).Pairwise (· < ·) := by
  unfold sureN sureC
  split
  · unfold sureI
    exact List.Pairwise.sublist ((List.filter_sublist).map _) (seenI_asc n _ at_ kk 0)
  · exact List.Pairwise.nil
theorem sureN_nodup (n : Int) (cam at_ : List Int) (kk : List (List Int)) : (sureN n cam at_ kk).Nodup := asc_nodup (sureN_asc n cam at_ kk)
theorem sureN_mem {n : Int} {cam at_ : List Int} {kk : List (List Int)} {x : Int} (h : x ∈ sureN n cam at_ kk) : ∃ m : Nat, x = (m : Int) ∧ m < kk.length ∧ ∃ d, sO n cam at_ kk m = some d := by
  unfold sureN sureC at h
  split at h
  · rename_i r_ b_ g_ l_
    unfold sureI at h
    obtain ⟨z, hz, rfl⟩ := List.mem_map.mp h
    have hz' := (List.mem_filter.mp hz).1
    have h0 := seenI_ge n [r_, b_, g_, l_] at_ kk 0 z hz'
    have h1 := seenI_lt n [r_, b_, g_, l_] at_ kk 0 z hz'
    obtain ⟨m, hm⟩ := Int.eq_ofNat_of_zero_le (show 0 ≤ z.1 by omega)
    refine ⟨m, hm, by omega, z.2, ?_⟩
    have e := atK_seen0 n [r_, b_, g_, l_] at_ kk m
    unfold sO
    rw [← e]
    have hn : (seenI n [r_, b_, g_, l_] at_ 0 kk).Pairwise fun a b => a.1 ≠ b.1 := by
      have := seenI_asc n [r_, b_, g_, l_] at_ kk 0
      rw [List.pairwise_map] at this
      exact this.imp fun h => by omega
    unfold atK
    have hf : ∀ (S : List (Int × List Int)), S.Pairwise (fun a b => a.1 ≠ b.1) → z ∈ S → S.find? (fun y => decide (y.1 = (m : Int))) = some z := by
      intro S
      induction S with
      | nil => intro _ h; cases h
      | cons a t ih =>
        intro hp hm'
        rw [List.pairwise_cons] at hp
        by_cases ea : a = z
        · rw [ea]
          exact List.find?_cons_of_pos (p := fun y : Int × List Int => decide (y.1 = (m : Int))) (decide_eq_true hm)
        · have hzt : z ∈ t := (List.mem_cons.mp hm').resolve_left fun h => ea h.symm
          rw [List.find?_cons_of_neg (p := fun y : Int × List Int => decide (y.1 = (m : Int))) (by
            have := hp.1 z hzt
            simp only [decide_eq_true_eq]
            intro h
            exact this (h.trans hm.symm))]
          exact ih hp.2 hzt
    rw [hf _ hn hz']
    rfl
  · cases h
theorem sureN_in {n : Int} {cam at_ : List Int} {kk : List (List Int)} {x : Int} (h : x ∈ sureN n cam at_ kk) : 0 ≤ x ∧ x < (kk.length : Int) := by
  obtain ⟨m, rfl, hm, _⟩ := sureN_mem h
  omega
theorem sureN_len (n : Int) (cam at_ : List Int) (kk : List (List Int)) : (sureN n cam at_ kk).length ≤ kk.length := by
  have h := sureN_nodup n cam at_ kk
  have h2 := len_le_of_sub (l := sureN n cam at_ kk) (m := (List.range kk.length).map Int.ofNat) h fun x hx => by
    obtain ⟨m, rfl, hm, _⟩ := sureN_mem hx
    exact List.mem_map.mpr ⟨m, List.mem_range.mpr hm, rfl⟩
  rwa [List.length_map, List.length_range] at h2
theorem nearB_symm (cam d e : List Int) : nearB cam d e = nearB cam e d := by
  have f : ∀ k s t : Int, (decide (-(2 * k) ≤ s - t) && decide (s - t ≤ 2 * k)) = (decide (-(2 * k) ≤ t - s) && decide (t - s ≤ 2 * k)) := fun k s t => by
    by_cases h1 : -(2 * k) ≤ s - t <;> by_cases h2 : s - t ≤ 2 * k <;> by_cases h3 : -(2 * k) ≤ t - s <;> by_cases h4 : t - s ≤ 2 * k <;> simp only [h1, h2, h3, h4, decide_true, decide_false, Bool.and_true, Bool.and_false] <;> omega
  rcases d with _ | ⟨u, _ | ⟨v, _ | ⟨b, _ | ⟨_, _⟩⟩⟩⟩ <;> rcases e with _ | ⟨x, _ | ⟨y, _ | ⟨c, _ | ⟨_, _⟩⟩⟩⟩ <;> try rfl
  rcases cam with _ | ⟨_, _ | ⟨bl, _ | ⟨g, _ | ⟨_, _ | ⟨_, _⟩⟩⟩⟩⟩ <;> try rfl
  show (decide (-(2 * bl) ≤ u - x) && decide (u - x ≤ 2 * bl) && (decide (-(2 * bl) ≤ v - y) && decide (v - y ≤ 2 * bl)) && (decide (-(2 * g) ≤ b - c) && decide (b - c ≤ 2 * g))) = (decide (-(2 * bl) ≤ x - u) && decide (x - u ≤ 2 * bl) && (decide (-(2 * bl) ≤ y - v) && decide (y - v ≤ 2 * bl)) && (decide (-(2 * g) ≤ c - b) && decide (c - b ≤ 2 * g)))
  rw [f bl u x, f bl v y, f g b c]
theorem lkN_symm (n : Int) (cam : List Int) (kk : List (List Int)) (one other : List Int) (a b : Nat) : lkN n cam kk other one b a = lkN n cam kk one other a b := by
  unfold lkN
  cases sO n cam one kk a <;> cases sO n cam other kk b <;> first | rfl | exact nearB_symm _ _ _
theorem tbl_mem {n : Int} {cam : List Int} {kk : List (List Int)} {one other : List Int} {a b : Nat} (ha : a < kk.length) : ((b : Int) ∈ tP (tblN n cam kk one other) (a : Int)) ↔ b < kk.length ∧ lkN n cam kk one other a b = true := by
  unfold tP tblN
  rw [if_pos (Int.natCast_nonneg a), Int.toNat_natCast, List.getElem?_map, List.getElem?_range ha]
  show (b : Int) ∈ rowN n cam kk one other a ↔ _
  unfold rowN
  rw [List.mem_map]
  constructor
  · rintro ⟨c, hc, e⟩
    have ec : c = b := Int.ofNat.inj e
    rw [List.mem_filter, List.mem_range, ec] at hc
    exact hc
  · rintro ⟨h1, h2⟩
    exact ⟨b, List.mem_filter.mpr ⟨List.mem_range.mpr h1, h2⟩, rfl⟩
theorem tbl_turned (n : Int) (cam : List Int) (kk : List (List Int)) (one other : List Int) : (List.range kk.length).map (turnedI (tblN n cam kk one other)) = tblN n cam kk other one := by
  unfold tblN
  apply List.map_congr_left
  intro c hc
  have hc' := List.mem_range.mp hc
  unfold turnedI rowN
  rw [List.filter_map, List.length_map, List.length_range]
  congr 1
  apply List.filter_congr
  intro a ha
  have ha' := List.mem_range.mp ha
  have h := tbl_mem (n := n) (cam := cam) (one := one) (other := other) (b := c) ha'
  show decide ((c : Int) ∈ tP (tblN n cam kk one other) (a : Int)) = lkN n cam kk other one c a
  rw [lkN_symm]
  cases e : lkN n cam kk one other a c with
  | true => exact decide_eq_true (h.mpr ⟨hc', e⟩)
  | false => exact decide_eq_false fun z => by have := (h.mp z).2; rw [e] at this; cases this
end Sw
namespace Sw
open PySem PySem.Spec PyProof.Rows L2
def spAppN (K : PySem.W.Frag) (C : Addr) : Sp := fun vs H Q _ => ∃ (p pa : Addr) (n : Int) (ks : Tups) (cam at_ : List Int), vs = [.ref p, .ref pa] ∧ SkyS K C H p n ks cam ∧ isSky n (keys ks) cam = true ∧ SqT K H pa (at_.map V.int) ∧ isPose n at_ = true ∧
  ∀ (H' : Hp) (d : Addr) (zs : Shown), Same H H' → H d = none → ShD K H' d n cam at_ (keys ks) zs → Q (.ref d) H'
end Sw
namespace Sw
theorem same_both {H H2 : L2.Hp} {d : PySem.Addr} {o : L2.HO} (s : L2.Same H H2) : L2.Same (L2.upd H d o) (L2.upd H2 d o) := fun q x e => by
  by_cases h : q = d
  · rw [h, L2.upd_same] at e ⊢
    exact e
  · rw [L2.upd_ne h] at e ⊢
    exact s _ _ e
end Sw
namespace Sw
theorem atK_of_mem : ∀ {S : List (Int × List Int)} {z : Int × List Int}, (S.map (·.1)).Pairwise (· < ·) → z ∈ S → atK S z.1 = some z.2
  | x :: S, z, h, hz => by
    rw [List.map_cons, List.pairwise_cons] at h
    unfold atK
    by_cases e : x = z
    · rw [e, List.find?_cons_of_pos (p := fun y : Int × List Int => decide (y.1 = z.1)) (decide_eq_true rfl)]
      rfl
    · have hzS : z ∈ S := (List.mem_cons.mp hz).resolve_left fun h => e h.symm
      have lt := h.1 z.1 (List.mem_map_of_mem (f := fun z : Int × List Int => z.1) hzS)
      rw [List.find?_cons_of_neg (p := fun y : Int × List Int => decide (y.1 = z.1)) (by simp only [decide_eq_true_eq]; omega)]
      exact atK_of_mem h.2 hzS
end Sw
namespace Sw
open PySem PySem.Spec PyProof.Rows L2
def linksP (n : Int) (cam : List Int) (kk : List (List Int)) (one other : List Int) : List (Int × Int) := (List.range kk.length).flatMap fun a : Nat => ((List.range kk.length).filter (lkN n cam kk one other a)).map fun b : Nat => ((a : Int), (b : Int))
theorem linksP_eq (n : Int) (cam : List Int) (kk : List (List Int)) (one other : List Int) : linksN n cam kk one other = pairs2 (linksP n cam kk one other) := by
  unfold linksN linksP pairs2
  rw [List.map_flatMap]
  congr 1
  funext a
  rw [List.map_map]
  rfl
theorem linksP_mem {n : Int} {cam : List Int} {kk : List (List Int)} {one other : List Int} {r c : Int} : (r, c) ∈ linksP n cam kk one other ↔ c ∈ tP (tblN n cam kk one other) r := by
  rw [← links_mem, linksP_eq]
  unfold pairs2
  rw [List.mem_map]
  constructor
  · exact fun h => ⟨_, h, rfl⟩
  · rintro ⟨⟨a, b⟩, h, e⟩
    injection e with e1 e2
    injection e2 with e2 _
    have e1' : a = r := e1
    have e2' : b = c := e2
    rw [← e1', ← e2']
    exact h
theorem flat_le {α β : Type} (f : α → List β) (b : Nat) : ∀ l : List α, (∀ x ∈ l, (f x).length ≤ b) → (l.flatMap f).length ≤ l.length * b
  | [], _ => Nat.zero_le _
  | x :: l, h => by
    rw [List.flatMap_cons, List.length_append, List.length_cons, Nat.add_mul, Nat.one_mul]
    have := h x List.mem_cons_self
    have := flat_le f b l fun y hy => h y (List.mem_cons_of_mem _ hy)
    omega
theorem linksN_len (n : Int) (cam : List Int) (kk : List (List Int)) (one other : List Int) (h : kk.length ≤ 20) : (linksN n cam kk one other).length ≤ 400 := by
  unfold linksN
  have h1 := flat_le (fun a : Nat => ((List.range kk.length).filter (lkN n cam kk one other a)).map fun b : Nat => [(a : Int), (b : Int)]) 20 (List.range kk.length) fun a _ => by
    rw [List.length_map]
    have := List.length_filter_le (lkN n cam kk one other a) (List.range kk.length)
    rw [List.length_range] at this
    omega
  rw [List.length_range] at h1
  omega
/-- the greatest lack, as a law finds it -/
noncomputable def lackF (P : Int → List Int) (L : List Int) : Int := Classical.choose (ex_lack P L)
theorem lackF_is (P : Int → List Int) (L : List Int) : lackI P L (lackF P L) := Classical.choose_spec (ex_lack P L)
theorem lackF_eq {P : Int → List Int} {L : List Int} {x : Int} (h : lackI P L x) : x = lackF P L := lackI_uniq h (lackF_is P L)
def spRight (K : PySem.W.Frag) (C : Addr) : Sp := fun vs H Q _ => ∃ (t p q r : Addr) (n : Int) (ks kq : Tups) (cam one other : List Int), vs = [.ref t, .ref p, .ref q, .ref r] ∧ PartsAt K H t n ks cam ∧ SkyS K C H p n kq cam ∧ keys kq = keys ks ∧ isSky n (keys ks) cam = true ∧ ks.length ≤ 6 ∧ SqT K H q (one.map V.int) ∧ SqT K H r (other.map V.int) ∧ isPose n one = true ∧ isPose n other = true ∧
  ∀ (H' : Hp) (x : Int), Same H H' → LackIs (tP (tblN n cam (keys ks) one other)) (sureN n cam one (keys ks)) x → Q (.int x) H'
end Sw
namespace Sw
open PySem PySem.Spec PyProof.Rows L2
theorem no_err {D : Addr} {E : XK} {H : Hp} {q r : Addr} {n : Int} {one other : List Int} (h1 : isPose n one = true) (h2 : isPose n other = true) : twoErr D E H q r n one other :=
  ⟨fun e => Bool.noConfusion (h1.symm.trans e), fun _ e => Bool.noConfusion (h2.symm.trans e)⟩
end Sw
namespace Sw
open PySem PySem.Spec PyProof.Rows L2
theorem lackI_nil (P : Int → List Int) : lackI P [] 0 := ⟨[], List.nodup_nil, fun c => ⟨(fun h => by cases h), (fun ⟨_, h, _⟩ => by cases h)⟩, rfl⟩
theorem lackIs_bd {P : Int → List Int} {W : List Int} {x : Int} (h : LackIs P W x) : 0 ≤ x ∧ x ≤ W.length := by
  obtain ⟨⟨M, hM, ns, _, _, em⟩, hle⟩ := h
  have h0 := hle [] (List.nil_sublist _) 0 (lackI_nil P)
  have hl := hM.length_le
  omega
theorem lackIs_small {P : Int → List Int} {W : List Int} {x : Int} (h : LackIs P W x) (hW : W.length ≤ 60) : x.natAbs < 10 ^ 12 := by
  have := lackIs_bd h
  have : x.natAbs ≤ 60 := by omega
  exact Nat.lt_of_le_of_lt this (by decide)
theorem near_self {r b g l : Int} (b0 : 0 ≤ b) (g0 : 0 ≤ g) (u v c : Int) : nearB [r, b, g, l] [u, v, c] [u, v, c] = true := by
  show (decide (-(2 * b) ≤ u - u) && decide (u - u ≤ 2 * b) && (decide (-(2 * b) ≤ v - v) && decide (v - v ≤ 2 * b)) && (decide (-(2 * g) ≤ c - c) && decide (c - c ≤ 2 * g))) = true
  rw [decide_eq_true (show -(2 * b) ≤ u - u by omega), decide_eq_true (show u - u ≤ 2 * b by omega), decide_eq_true (show -(2 * b) ≤ v - v by omega), decide_eq_true (show v - v ≤ 2 * b by omega), decide_eq_true (show -(2 * g) ≤ c - c by omega), decide_eq_true (show c - c ≤ 2 * g by omega)]
  rfl
theorem self_in {n : Int} {cam at_ : List Int} {kk : List (List Int)} (hsky : isSky n kk cam = true) (hp : isPose n at_ = true) {x : Int} (h : x ∈ sureN n cam at_ kk) : x ∈ tP (tblN n cam kk at_ at_) x := by
  obtain ⟨_, hst, _, _, hcam⟩ := sky_parts hsky
  obtain ⟨r, b, g, l, rfl, _, _, b0, _, g0, _⟩ := cam_form hcam
  obtain ⟨ax, ay, aq, rfl, _⟩ := pose_form hp
  obtain ⟨m, rfl, hm, d, hd⟩ := sureN_mem h
  obtain ⟨u, v, c, rfl, _⟩ := sO_parts rfl hst hd
  refine (tbl_mem hm).mpr ⟨hm, ?_⟩
  unfold lkN
  rw [hd]
  exact near_self b0 g0 u v c
theorem self_le {n : Int} {cam at_ : List Int} {kk : List (List Int)} (hsky : isSky n kk cam = true) (hp : isPose n at_ = true) {M : List Int} (hM : M.Sublist (sureN n cam at_ kk)) {y : Int} (hy : lackI (tP (tblN n cam kk at_ at_)) M y) : y ≤ 0 := by
  obtain ⟨ns, hn, hc, rfl⟩ := hy
  have := len_le_of_sub (hM.nodup (sureN_nodup n cam at_ kk)) fun x hx => (hc x).mpr ⟨x, hx, self_in hsky hp (hM.subset hx)⟩
  omega
theorem self_lack {n : Int} {cam at_ : List Int} {kk : List (List Int)} (hsky : isSky n kk cam = true) (hp : isPose n at_ = true) {x : Int} (h : LackIs (tP (tblN n cam kk at_ at_)) (sureN n cam at_ kk) x) : x = 0 := by
  have h0 := h.2 [] (List.nil_sublist _) 0 (lackI_nil _)
  obtain ⟨⟨M, hM, hx⟩, _⟩ := h
  have := self_le hsky hp hM hx
  omega
theorem self_least {n : Int} {cam at_ : List Int} {kk : List (List Int)} (hsky : isSky n kk cam = true) (hp : isPose n at_ = true) {g : MM} {F : List Int} (hF : F.Pairwise (· < ·)) (h : LeastBy (tP (tblN n cam kk at_ at_)) (sureN n cam at_ kk) g F) : F = [] := by
  have hW := sureN_nodup n cam at_ kk
  have hFW : F.Sublist (sureN n cam at_ kk) := asc_sub hF (sureN_asc n cam at_ kk) h.sub
  have h1 := self_le hsky hp hFW (least_lack h hW (asc_nodup hF))
  have h2 := (least_le h hW List.nodup_nil (fun r hr => by cases hr) (lackI_nil _)).1
  have h3 := (least_le h hW List.nodup_nil (fun r hr => by cases hr) (lackI_nil _)).2 (by omega)
  cases F with
  | nil => rfl
  | cons x r => exact absurd (h3 x List.mem_cons_self) List.not_mem_nil
end Sw
set_option Elab.async false
set_option linter.all false
set_option maxRecDepth 100000
set_option maxHeartbeats 4000000
/-! Parting papers. -/
namespace Sw
open PySem PySem.Spec PyProof.Rows L2
def Parts (P : Int → List Int) (W L : List Int) (bound : Int) : Prop := asc1 L = true ∧ (∀ r ∈ L, r ∈ W) ∧ ∀ x, lackI P L x → bound < x
def spLacksMore (K : PySem.W.Frag) : Sp := fun vs H Q _ => ∃ (t rl tl : Addr) (tb : Tups) (W L : List Int) (bound : Int), vs = [.ref t, .ref rl, .ref tl, .int bound] ∧ TabAt K H t tb ∧ Few (keys tb) ∧ SqL K H rl (W.map V.int) ∧ (∀ r ∈ W, 0 ≤ r ∧ r < (tb.length : Int)) ∧ SqL K H tl (L.map V.int) ∧ L.length ≤ 100 ∧
  ∀ (H' : Hp) (b : Bool), Same H H' → (b = true ↔ Parts (tP (keys tb)) W L bound) → Q (.bl b) H'
def spPaper (K : PySem.W.Frag) (C D : Addr) : Sp := fun vs H Q E => ∃ (p q r : Addr) (n m f : Int) (ks : Tups) (cam one other : List Int), vs = [.ref p, .ref q, .ref r, .int m, .int f] ∧ SkyS K C H p n ks cam ∧ isSky n (keys ks) cam = true ∧ SqT K H q (one.map V.int) ∧ SqT K H r (other.map V.int) ∧
  (isPose n one = true → isPose n other = true → ∀ x y, LackIs (tP (tblN n cam (keys ks) one other)) (sureN n cam one (keys ks)) x → LackIs (tP (tblN n cam (keys ks) other one)) (sureN n cam other (keys ks)) y →
    (max x y ≤ m + f → ∀ H', Same H H' → Q .non H') ∧
    (¬ max x y ≤ m + f → y ≤ x → ∀ (H' : Hp) (t l : Addr) (g : MM) (F : List Int), Same H H' → SqT K H' t [.str "one", .ref l] → H' l = some (.lst (F.map V.int)) → F.Pairwise (· < ·) → LeastBy (tP (tblN n cam (keys ks) one other)) (sureN n cam one (keys ks)) g F → Q (.ref t) H') ∧
    (¬ max x y ≤ m + f → x < y → ∀ (H' : Hp) (t l : Addr) (g : MM) (F : List Int), Same H H' → SqT K H' t [.str "other", .ref l] → H' l = some (.lst (F.map V.int)) → F.Pairwise (· < ·) → LeastBy (tP (tblN n cam (keys ks) other one)) (sureN n cam other (keys ks)) g F → Q (.ref t) H')) ∧ twoErr D E H q r n one other
def spCheckP (K : PySem.W.Frag) (C D : Addr) : Sp := fun vs H Q E => ∃ (p q r pp tl : Addr) (n m f : Int) (ks : Tups) (cam one other L : List Int) (w : Str), vs = [.ref p, .ref q, .ref r, .int m, .int f, .ref pp] ∧ SkyS K C H p n ks cam ∧ isSky n (keys ks) cam = true ∧ SqT K H q (one.map V.int) ∧ SqT K H r (other.map V.int) ∧
  SqT K H pp [.str w, .ref tl] ∧ SqL K H tl (L.map V.int) ∧ L.length ≤ 100 ∧
  (isPose n one = true → isPose n other = true → ∀ (H' : Hp) (b : Bool), Same H H' → (b = true ↔ (w = "one" ∧ Parts (tP (tblN n cam (keys ks) one other)) (sureN n cam one (keys ks)) L (m + f)) ∨ (w = "other" ∧ Parts (tP (tblN n cam (keys ks) other one)) (sureN n cam other (keys ks)) L (m + f))) → Q (.bl b) H') ∧ twoErr D E H q r n one other
def spLeastL (K : PySem.W.Frag) : Sp := fun vs H Q _ => ∃ (pl hl : Addr) (es : Tups) (g : List (Int × Int)) (W : List Int) (P : Int → List Int), vs = [.ref pl, .ref hl] ∧ SqL K H pl (refs es) ∧ TupsAt K H es ∧ keys es = pairs2 g ∧ es.length ≤ 1000 ∧ SqL K H hl (W.map V.int) ∧ W.Pairwise (· < ·) ∧ W.length ≤ 6 ∧ (∀ r c, (r, c) ∈ g ↔ c ∈ P r) ∧
  ∀ (H' : Hp) (t l : Addr) (x : Int) (D : List Int), Same H H' → SqT K H' t [.int x, .ref l] → H' l = some (.lst (D.map V.int)) → LackIs P W x → (∀ (g : MM) (F : List Int), F.Pairwise (· < ·) → LeastBy P W g F → D = F) → Q (.ref t) H'
def spDrawnL (K : PySem.W.Frag) : Sp := fun vs H Q _ => ∃ (p1 hl : Addr) (ns W : List Int) (at' many : Int), vs = [.ref p1, .int at', .int many, .ref hl] ∧ SqL K H p1 (ns.map V.int) ∧ SqL K H hl (W.map V.int) ∧ 0 ≤ at' ∧ 0 ≤ many ∧ many ≤ 20 ∧ at' + 2 + many ≤ (ns.length : Int) ∧ W.length ≤ 20 ∧ (∀ r ∈ W, 0 ≤ r ∧ r < many) ∧
  ∀ (H' : Hp) (l : Addr) (L : List Int), Same H H' → H' l = some (.lst (L.map V.int)) → L.length ≤ 50 → Q (.ref l) H'
theorem tblN_few (n : Int) (cam : List Int) (kk : List (List Int)) (one other : List Int) (h : kk.length ≤ 60) : Few (tblN n cam kk one other) := by
  have row : ∀ l ∈ tblN n cam kk one other, l.Nodup ∧ ∀ c ∈ l, 0 ≤ c ∧ c < 60 := fun l hl => by
    obtain ⟨a, ha, rfl⟩ := List.mem_map.mp hl
    refine ⟨by unfold rowN; rw [List.Nodup, List.pairwise_map]; exact (List.Pairwise.filter _ List.nodup_range).imp fun h e => h (Int.ofNat.inj e), fun c hc => ?_⟩
    obtain ⟨b, hb, rfl⟩ := List.mem_map.mp hc
    have := List.mem_range.mp (List.mem_filter.mp hb).1
    exact ⟨Int.natCast_nonneg b, by show (b : Int) < 60; omega⟩
  exact ⟨by unfold tblN; rw [List.length_map, List.length_range]; omega, fun l hl c hc => (row l hl).2 c hc, fun l hl => (row l hl).1⟩
theorem eqv_ints (a b : List Int) : PyData.eqv (.list (a.map .int)) (.list (b.map .int)) = decide (a = b) := eqvAll_ints a b
theorem sorted_once {L S : List Int} (hp : S.Perm L) (hs : S.Pairwise (· ≤ ·)) : (L = S ∧ ∀ z ∈ L, L.count z = 1) ↔ asc1 L = true := by
  rw [asc1_iff]
  constructor
  · rintro ⟨rfl, h⟩
    have hn : L.Nodup := List.nodup_iff_count.mpr fun z => by
      by_cases hz : z ∈ L
      · rw [h z hz]
        exact Nat.le_refl _
      · rw [List.count_eq_zero.mpr hz]
        exact Nat.zero_le _
    exact (hs.and hn).imp fun {a b} h => by
      have h1 : a ≤ b := h.1
      have h2 : a ≠ b := h.2
      omega
  · intro h
    have hn := asc_nodup h
    refine ⟨?_, fun z hz => ?_⟩
    · have hS : S.Pairwise (· < ·) := (hs.and (hp.nodup_iff.mpr hn)).imp fun {a b} h => by
        have h1 : a ≤ b := h.1
        have h2 : a ≠ b := h.2
        omega
      exact asc_eq h hS fun x => hp.mem_iff.symm
    · have h1 := List.nodup_iff_count.mp hn z
      have h2 := List.count_pos_iff.mpr hz
      omega
end Sw
namespace L2
open PySem PySem.Spec PyProof.Rows
theorem pe_bmN {X : Cx} {o e : Expr} {es : List Expr} {to : TE} {t : TA} {name : Str} {apos cpos : Pos} {T id : String} {r : V → List V → Hp → VK → Prop} {K : PySem.W.Frag} (pa : PlainAttrs T) (slot : Slot T name id) (hty : typeOf (.builtin id) = pure (.type "method_descriptor")) (hm : MtR X id r) (ho : PE X o to) (ha : PA X (e :: es) t) (h : X.K = K := by rfl)
    (hbase : attributeBase o name X.env (eval o X.env) = eval o X.env := by rfl)
    (hfew : ((backTo cpos (starEach (e :: es) X.env)).all (fun x => !x.1) && (backToKw cpos (keywordEach [] X.env)).all (fun x => x.1.isSome)
      && decide ((e :: es).length + ([] : List Keyword).length + (if ([] : List Keyword).isEmpty then 0 else 1) < 30)) = true := by rfl)
    (hline : (apos.endLine == cpos.line) = true := by rfl) (hs : starEach (e :: es) X.env = (false, eval e X.env) :: starEach es X.env := by rfl) (hplain : (backTo cpos (starEach es X.env)).any (·.1) = false := by rfl) :
    PE X (.Call (.Attribute o name apos) (e :: es) [] cpos) (tBM K T r to t) := h ▸ pe_bm pa slot hty hm ho ha hbase hfew hline hs hplain
theorem mt_lcountN {X : Cx} {K : PySem.W.Frag} (h : X.K = K := by rfl) : MtR X "list.count" (rCntI K) := h ▸ mt_lcount
end L2
namespace Sw
open PySem PySem.Spec PyProof.Rows L2
theorem links_swap {n : Int} {cam : List Int} {kk : List (List Int)} {one other : List Int} (r c : Int) : (r, c) ∈ ((linksP n cam kk one other).map fun z : Int × Int => (z.2, z.1)) ↔ c ∈ tP (tblN n cam kk other one) r := by
  rw [← linksP_mem]
  unfold linksP
  rw [List.mem_map]
  constructor
  · rintro ⟨⟨x, y⟩, h, e⟩
    injection e with e1 e2
    obtain ⟨a, ha, h⟩ := List.mem_flatMap.mp h
    obtain ⟨b, hb, h⟩ := List.mem_map.mp h
    injection h with h1 h2
    obtain ⟨hb1, hb2⟩ := List.mem_filter.mp hb
    refine List.mem_flatMap.mpr ⟨b, hb1, List.mem_map.mpr ⟨a, List.mem_filter.mpr ⟨ha, by rw [← lkN_symm]; exact hb2⟩, ?_⟩⟩
    rw [← e1, ← e2, ← h1, ← h2]
  · intro h
    obtain ⟨a, ha, h⟩ := List.mem_flatMap.mp h
    obtain ⟨b, hb, h⟩ := List.mem_map.mp h
    injection h with h1 h2
    obtain ⟨hb1, hb2⟩ := List.mem_filter.mp hb
    refine ⟨(c, r), List.mem_flatMap.mpr ⟨b, hb1, List.mem_map.mpr ⟨a, List.mem_filter.mpr ⟨ha, by rw [lkN_symm]; exact hb2⟩, ?_⟩⟩, rfl⟩
    rw [← h1, ← h2]
theorem least_parts {P : Int → List Int} {W F : List Int} {g : MM} {x b : Int} (hLI : LackIs P W x) (hLB : LeastBy P W g F) (hW : W.Pairwise (· < ·)) (hF : F.Pairwise (· < ·)) (hb : b < x) : Parts P W F b := by
  have hWn := asc_nodup hW
  have hFW : F.Sublist W := asc_sub hF hW hLB.sub
  have h0 := least_lack hLB hWn (asc_nodup hF)
  have h1 := hLI.2 F hFW _ h0
  obtain ⟨⟨M, hM, hMm⟩, _⟩ := hLI
  have h2 := (least_le hLB hWn (hM.nodup hWn) (fun r hr => hM.subset hr) hMm).1
  refine ⟨(asc1_iff F).mpr hF, hLB.sub, fun z hz => ?_⟩
  have := lackI_uniq hz h0
  omega
theorem shb_word {w : Str} (h : w = "one" ∨ w = "other") : SwG.Shb 41 0 (.str w) := by
  rcases h with rfl | rfl
  · exact ⟨by decide +kernel, by decide +kernel, by decide +kernel, by decide +kernel, by decide +kernel⟩
  · exact ⟨by decide +kernel, by decide +kernel, by decide +kernel, by decide +kernel, by decide +kernel⟩
theorem shw_due {w : Str} {F : List Int} (h : w = "one" ∨ w = "other") (hF : ∀ i ∈ F, i.natAbs < 10 ^ 12) (hl : F.length ≤ 20) : SwG.Shw (.tuple [.str w, .list (F.map .int)]) :=
  (SwG.shb_tuple (w := 1000) (k := 1) (ds := [.str w, .list (F.map .int)]) fun d hd => by
    rcases List.mem_cons.mp hd with rfl | hd
    · exact (shb_word h).up (by decide) (by decide)
    · rw [List.mem_singleton.mp hd]
      exact (SwG.shb_ints hF).up (by omega) (by decide)).shw (by show 2 * (1000 + 1) ≤ 1000000; decide) (by decide)
theorem dp_ints {K : PySem.W.Frag} {H : Hp} : ∀ F : List Int, DpAll K H (F.map V.int) (F.map .int)
  | [] => .nil
  | x :: r => .cons (.int x) (dp_ints r)
theorem dp_due {K : PySem.W.Frag} {H : Hp} {t l : Addr} {w : Str} {F : List Int} (ht : SqT K H t [.str w, .ref l]) (hl : H l = some (.lst (F.map V.int))) : Dp K H (.ref t) (.tuple [.str w, .list (F.map .int)]) :=
  dp_t ht (.cons (.str _) (.cons (dp_l hl (dp_ints F)) .nil))
end Sw
set_option Elab.async false
set_option linter.all false
/-! Matchings made row by row (own work): a map from columns to rows, grown along ways of change. -/
namespace Sw
open PySem PySem.Spec PyProof.Rows L2
/-- how often a row owns -/
def own (o : MM) (s : Int) : Nat := (o.map (·.2)).count s
/-- a way was found for the row -/
structure KWay (P : Int → List Int) (o o' : MM) (T : List Int) (r : Int) : Prop where
  nd : (o'.map (·.1)).Nodup
  ed : ∀ c s, lk o' c = some s → c ∈ P s
  len : o'.length = o.length + 1
  cnt : ∀ s, own o' s = own o s + if s = r then 1 else 0
  on : ∀ c ∈ T, lk o' c = lk o c
  kept : ∀ F : List Int, (∀ z ∈ F, ∀ c ∈ P z, ∃ s ∈ F, lk o c = some s) → r ∉ F ∧ ∀ c s, s ∈ F → lk o c = some s → lk o' c = some s
/-- none was found -/
structure KWall (P : Int → List Int) (o : MM) (T T' : List Int) (r : Int) : Prop where
  sub : ∀ c ∈ T, c ∈ T'
  nb : ∀ c ∈ P r, c ∈ T'
  cl : ∀ c ∈ T', c ∈ T ∨ ∃ s, lk o c = some s ∧ ∀ d ∈ P s, d ∈ T'
theorem own_push (o : MM) (c r s : Int) : own (o ++ [(c, r)]) s = own o s + if s = r then 1 else 0 := by
  unfold own
  rw [List.map_append, List.count_append, List.map_cons, List.map_nil, List.count_singleton]
  congr 1
  by_cases h : s = r
  · rw [if_pos h, h]
    simp
  · rw [if_neg h]
    have : ¬ r = s := fun e => h e.symm
    simp [this]
theorem own_put : ∀ {o : MM} {c t r : Int}, (o.map (·.1)).Nodup → lk o c = some t → ∀ s, own (putI o c r) s + (if s = t then 1 else 0) = own o s + if s = r then 1 else 0
  | [], c, t, r, hn, h, s => by cases h
  | (k, v) :: o, c, t, r, hn, h, s => by
    rw [List.map_cons, List.nodup_cons] at hn
    by_cases hk : k = c
    · have hv : v = t := by
        rw [lk_pos (z := (k, v)) hk] at h
        exact Option.some.inj h
      have e : putI ((k, v) :: o) c r = (k, r) :: o := by
        unfold putI
        rw [if_pos (by rw [List.any_cons, decide_eq_true hk]; rfl), List.map_cons, if_pos hk]
        congr 1
        have hn1 : k ∉ o.map (·.1) := hn.1
        refine (List.map_congr_left fun z hz => ?_).trans (List.map_id _)
        rw [if_neg fun e => hn1 (by rw [hk, ← e]; exact List.mem_map_of_mem (f := fun z : Int × Int => z.1) hz)]
        rfl
      rw [e]
      unfold own
      rw [List.map_cons, List.map_cons, List.count_cons, List.count_cons, hv]
      have h1 : ((r == s) = true) ↔ s = r := by rw [beq_iff_eq]; exact eq_comm
      have h2 : ((t == s) = true) ↔ s = t := by rw [beq_iff_eq]; exact eq_comm
      simp only [h1, h2]
      omega
    · rw [lk_neg (z := (k, v)) hk] at h
      have hin : (o.any fun z => decide (z.1 = c)) = true := by
        rw [List.any_eq_true]
        exact ⟨_, lk_some h, decide_eq_true rfl⟩
      have e : putI ((k, v) :: o) c r = (k, v) :: putI o c r := by
        unfold putI
        rw [if_pos hin, if_pos (by rw [List.any_cons, hin, Bool.or_true]), List.map_cons, if_neg hk]
      rw [e]
      have ih := own_put (r := r) hn.2 h s
      unfold own at ih ⊢
      rw [List.map_cons, List.map_cons, List.count_cons, List.count_cons]
      show _ + (if (v == s) = true then 1 else 0) + _ = _ + (if (v == s) = true then 1 else 0) + _
      omega
theorem put_len {o : MM} {c t r : Int} (h : lk o c = some t) : (putI o c r).length = o.length := by
  unfold putI
  rw [if_pos (by rw [List.any_eq_true]; exact ⟨_, lk_some h, decide_eq_true rfl⟩), List.length_map]
/-- a column that none owns -/
theorem way_base {P : Int → List Int} {o : MM} {T : List Int} {r c : Int} (hn : (o.map (·.1)).Nodup) (he : ∀ c s, lk o c = some s → c ∈ P s) (hc : lk o c = none) (hp : c ∈ P r) (hT : c ∉ T) : KWay P o (putI o c r) T r where
  nd := put_nodup hn
  ed := fun d s h => by
    rw [lk_put] at h
    by_cases hd : d = c
    · rw [if_pos hd] at h
      rw [hd, ← Option.some.inj h]
      exact hp
    · rw [if_neg hd] at h
      exact he d s h
  len := by rw [put_new_m hc, List.length_append]; rfl
  cnt := fun s => by rw [put_new_m hc, own_push]
  on := fun d hd => by rw [lk_put, if_neg fun e => hT (by rw [← e]; exact hd)]
  kept := fun F hF => by
    refine ⟨fun hr => ?_, fun d s hs h => ?_⟩
    · obtain ⟨s, _, h⟩ := hF r hr c hp
      rw [hc] at h
      cases h
    · rw [lk_put, if_neg fun e => by rw [e, hc] at h; cases h]
      exact h
/-- a column whose owner finds a way -/
theorem way_step {P : Int → List Int} {o o1 : MM} {T T1 : List Int} {r s c : Int} (hc : lk o c = some s) (hp : c ∈ P r) (hT : c ∉ T) (hsub : ∀ d ∈ T, d ∈ T1) (hcT : c ∈ T1) (W : KWay P o o1 T1 s) : KWay P o (putI o1 c r) T r := by
  have h1 : lk o1 c = some s := by rw [W.on c hcT]; exact hc
  refine ⟨put_nodup W.nd, fun d t h => ?_, by rw [put_len h1, W.len], fun t => ?_, fun d hd => ?_, fun F hF => ?_⟩
  · rw [lk_put] at h
    by_cases hd : d = c
    · rw [if_pos hd] at h
      rw [hd, ← Option.some.inj h]
      exact hp
    · rw [if_neg hd] at h
      exact W.ed d t h
  · have a := own_put (r := r) W.nd h1 t
    have b := W.cnt t
    omega
  · rw [lk_put, if_neg fun e => hT (by rw [← e]; exact hd)]
    exact W.on d (hsub d hd)
  · obtain ⟨k1, k2⟩ := W.kept F hF
    refine ⟨fun hr => ?_, fun d t ht h => ?_⟩
    · obtain ⟨t, ht, h⟩ := hF r hr c hp
      rw [hc] at h
      exact k1 (Option.some.inj h ▸ ht)
    · rw [lk_put, if_neg fun e => by rw [e, hc] at h; exact k1 (Option.some.inj h ▸ ht)]
      exact k2 d t ht h
end Sw
namespace Sw
open PySem PySem.Spec PyProof.Rows L2
theorem own_pos {o : MM} {s : Int} (hn : (o.map (·.1)).Nodup) : 0 < own o s ↔ ∃ c, lk o c = some s := by
  unfold own
  rw [List.count_pos_iff, List.mem_map]
  constructor
  · rintro ⟨⟨c, t⟩, h, rfl⟩
    exact ⟨c, lk_mem hn h⟩
  · rintro ⟨c, h⟩
    exact ⟨_, lk_some h, rfl⟩
/-- what holds when some rows have been tried -/
structure KSt (P : Int → List Int) (W : List Int) (o : MM) : Prop where
  nd : (o.map (·.1)).Nodup
  ed : ∀ c s, lk o c = some s → c ∈ P s
  one : ∀ s, own o s ≤ 1
  only : ∀ c s, lk o c = some s → s ∈ W
  cert : ∃ F : List Int, (∀ z ∈ F, z ∈ W) ∧ (∀ r ∈ W, own o r = 0 → r ∈ F) ∧ ∀ z ∈ F, ∀ c ∈ P z, ∃ s ∈ F, lk o c = some s
theorem kst_nil (P : Int → List Int) : KSt P [] [] := ⟨List.nodup_nil, (fun c s h => by cases h), (fun s => Nat.zero_le _), (fun c s h => by cases h), [], (fun z hz => by cases hz), (fun r hr => by cases hr), fun z hz => by cases hz⟩
theorem kst_way {P : Int → List Int} {W : List Int} {o o' : MM} {r : Int} (h : KSt P W o) (hr : r ∉ W) (w : KWay P o o' [] r) : KSt P (W ++ [r]) o' := by
  have hz : own o r = 0 := by
    by_cases e : 0 < own o r
    · obtain ⟨c, e⟩ := (own_pos h.nd).mp e
      exact absurd (h.only c r e) hr
    · omega
  refine ⟨w.nd, w.ed, fun s => ?_, fun c s e => ?_, ?_⟩
  · rw [w.cnt]
    have := h.one s
    by_cases e : s = r
    · rw [if_pos e, e, hz]
      decide
    · rw [if_neg e]
      omega
  · have p := (own_pos w.nd).mpr ⟨c, e⟩
    rw [w.cnt] at p
    by_cases e2 : s = r
    · exact List.mem_append_right _ (List.mem_singleton.mpr e2)
    · rw [if_neg e2] at p
      obtain ⟨d, e3⟩ := (own_pos h.nd).mp p
      exact List.mem_append_left _ (h.only d s e3)
  · obtain ⟨F, f1, f2, f3⟩ := h.cert
    refine ⟨F, fun z hz => List.mem_append_left _ (f1 z hz), fun q hq e => ?_, fun z hz c hc => ?_⟩
    · rw [w.cnt] at e
      rcases List.mem_append.mp hq with hq | hq
      · exact f2 q hq (by omega)
      · rw [List.mem_singleton.mp hq, if_pos rfl] at e
        omega
    · obtain ⟨s, hs, e⟩ := f3 z hz c hc
      exact ⟨s, hs, (w.kept F f3).2 c s hs e⟩
theorem kst_wall {P : Int → List Int} {W T : List Int} {o : MM} {r : Int} (h : KSt P W o) (w : KWall P o [] T r) : KSt P (W ++ [r]) o := by
  obtain ⟨F, f1, f2, f3⟩ := h.cert
  have cl : ∀ c ∈ T, ∃ s, lk o c = some s ∧ ∀ d ∈ P s, d ∈ T := fun c hc => (w.cl c hc).resolve_left fun e => by cases e
  have ow : ∀ c ∈ T, ∃ s ∈ T.filterMap (lk o), lk o c = some s := fun c hc => by
    obtain ⟨s, e, _⟩ := cl c hc
    exact ⟨s, List.mem_filterMap.mpr ⟨c, hc, e⟩, e⟩
  refine ⟨h.nd, h.ed, h.one, fun c s e => List.mem_append_left _ (h.only c s e), F ++ r :: T.filterMap (lk o), fun z hz => ?_, fun q hq e => ?_, fun z hz c hc => ?_⟩
  · rcases List.mem_append.mp hz with hz | hz
    · exact List.mem_append_left _ (f1 z hz)
    · rcases List.mem_cons.mp hz with rfl | hz
      · exact List.mem_append_right _ (List.mem_singleton.mpr rfl)
      · obtain ⟨c, _, e⟩ := List.mem_filterMap.mp hz
        exact List.mem_append_left _ (h.only c z e)
  · rcases List.mem_append.mp hq with hq | hq
    · exact List.mem_append_left _ (f2 q hq e)
    · rw [List.mem_singleton.mp hq]
      exact List.mem_append_right _ List.mem_cons_self
  · have far : ∀ c ∈ T, ∃ s ∈ F ++ r :: T.filterMap (lk o), lk o c = some s := fun c hc => by
      obtain ⟨s, hs, e⟩ := ow c hc
      exact ⟨s, List.mem_append_right _ (List.mem_cons_of_mem _ hs), e⟩
    rcases List.mem_append.mp hz with hz | hz
    · obtain ⟨s, hs, e⟩ := f3 z hz c hc
      exact ⟨s, List.mem_append_left _ hs, e⟩
    · rcases List.mem_cons.mp hz with rfl | hz
      · exact far c (w.nb c hc)
      · obtain ⟨d, hd, e⟩ := List.mem_filterMap.mp hz
        obtain ⟨s, e2, h2⟩ := cl d hd
        rw [e] at e2
        rw [← Option.some.inj e2] at h2
        exact far c (h2 c hc)
theorem swp_nodup {o : MM} (h : ∀ s, own o s ≤ 1) : ((swp o).map (·.1)).Nodup := by
  have e : (swp o).map (·.1) = o.map (·.2) := by
    unfold swp
    rw [List.map_map]
    rfl
  rw [e]
  exact List.nodup_iff_count.mpr h
theorem lk_swp {o : MM} (hn : (o.map (·.1)).Nodup) (h : ∀ s, own o s ≤ 1) {r c : Int} : lk (swp o) r = some c ↔ lk o c = some r := by
  constructor
  · intro e
    have := lk_some e
    unfold swp at this
    obtain ⟨⟨a, b⟩, hm, e2⟩ := List.mem_map.mp this
    injection e2 with e3 e4
    rw [← e3, ← e4]
    exact lk_mem hn hm
  · intro e
    refine lk_mem (swp_nodup h) ?_
    unfold swp
    exact List.mem_map.mpr ⟨(c, r), lk_some e, rfl⟩
theorem kst_least {P : Int → List Int} {W : List Int} {o : MM} (h : KSt P W o) (hW : W.Nodup) : ∃ F : List Int, F.Sublist W ∧ LeastBy P W (swp o) F := by
  obtain ⟨F, f1, f2, f3⟩ := h.cert
  have sw : ∀ {r c : Int}, lk (swp o) r = some c ↔ lk o c = some r := lk_swp h.nd h.one
  have fr : ∀ r ∈ W, lk (swp o) r = none → r ∈ F := fun r hr e => f2 r hr (by
    by_cases p : 0 < own o r
    · obtain ⟨c, e3⟩ := (own_pos h.nd).mp p
      rw [sw.mpr e3] at e
      cases e
    · omega)
  have cl : ∀ r ∈ F, ∀ c ∈ P r, ∀ r', lk (swp o) r' = some c → r' ∈ F := fun r hr c hc r' e => by
    obtain ⟨s, hs, e2⟩ := f3 r hr c hc
    rw [sw.mp e] at e2
    rw [Option.some.inj e2]
    exact hs
  let Ok : Int → Prop := fun x => ∀ L : List Int, (∀ r ∈ W, lk (swp o) r = none → r ∈ L) → (∀ r ∈ L, ∀ c ∈ P r, ∀ r', lk (swp o) r' = some c → r' ∈ L) → x ∈ L
  have hm : ∀ x, x ∈ (W.filter fun x => @decide (Ok x) (Classical.propDecidable _)) ↔ x ∈ W ∧ Ok x := fun x => by
    rw [List.mem_filter, @decide_eq_true_iff _ (Classical.propDecidable _)]
  refine ⟨_, List.filter_sublist (p := fun x => @decide (Ok x) (Classical.propDecidable _)), ⟨swp_nodup h.one, fun k v e => h.ed v k (sw.mp e), fun k j v e1 e2 => ?_⟩, fun r c e => h.only c r (sw.mp e), fun x hx => ((hm x).mp hx).1, fun r hr e => (hm r).mpr ⟨hr, fun L l1 _ => l1 r hr e⟩, fun z hz c hc => ?_, fun L l1 l2 x hx => ((hm x).mp hx).2 L l1 l2⟩
  · have a := sw.mp e1
    have b := sw.mp e2
    rw [a] at b
    exact Option.some.inj b
  · have hz2 := ((hm z).mp hz).2
    obtain ⟨s, hs, e⟩ := f3 z (hz2 F fr cl) c hc
    exact ⟨s, (hm s).mpr ⟨f1 s hs, fun L l1 l2 => l2 z (hz2 L l1 l2) c hc s (sw.mpr e)⟩, sw.mpr e⟩
theorem kst_len {P : Int → List Int} {W : List Int} {o : MM} (h : KSt P W o) (hW : W.Nodup) : (W.filter (has (swp o))).length = o.length := by
  have hn : (o.map (·.2)).Nodup := List.nodup_iff_count.mpr h.one
  rw [← List.length_map (f := fun z : Int × Int => z.2) (as := o)]
  refine same_card (hW.filter _) hn fun r => ?_
  rw [List.mem_filter]
  constructor
  · rintro ⟨_, e⟩
    obtain ⟨c, e⟩ := has_some e
    exact List.mem_map.mpr ⟨_, lk_some ((lk_swp h.nd h.one).mp e), rfl⟩
  · intro hr
    obtain ⟨⟨c, s⟩, hm, rfl⟩ := List.mem_map.mp hr
    have e := lk_mem h.nd hm
    refine ⟨h.only c _ e, ?_⟩
    unfold has
    rw [(lk_swp h.nd h.one).mpr e]
    rfl
/-- what _law_at_once tells -/
theorem kst_lack {P : Int → List Int} {W : List Int} {o : MM} (h : KSt P W o) (hW : W.Nodup) : (∃ M : List Int, M.Sublist W ∧ lackI P M ((W.length : Int) - o.length)) ∧ ∀ M : List Int, M.Sublist W → ∀ y, lackI P M y → y ≤ (W.length : Int) - o.length := by
  obtain ⟨F, hF, hLB⟩ := kst_least h hW
  rw [← kst_len h hW]
  exact ⟨⟨_, hF, least_lack hLB hW (hF.nodup hW)⟩, fun M hM y hy => (least_le hLB hW (hM.nodup hW) (fun r hr => hM.subset hr) hy).1⟩
end Sw
namespace Sw
open PySem PySem.Spec PyProof.Rows L2
/-- all stays but what lies at two places -/
def Same2 (a b : Addr) (H H' : Hp) : Prop := ∀ x o, x ≠ a → x ≠ b → H x = some o → H' x = some o
theorem Same2.trans {a b : Addr} {H1 H2 H3 : Hp} (h : Same2 a b H1 H2) (g : Same2 a b H2 H3) : Same2 a b H1 H3 := fun x o ha hb e => g x o ha hb (h x o ha hb e)
theorem same2_refl (a b : Addr) (H : Hp) : Same2 a b H H := fun _ _ _ _ e => e
theorem same2_of {a b : Addr} {H H' : Hp} (s : Same H H') : Same2 a b H H' := fun x o _ _ e => s x o e
theorem same2_fst {a b : Addr} {H : Hp} {o : HO} : Same2 a b H (upd H a o) := fun x _ ha _ e => by rw [upd_ne ha]; exact e
theorem same2_snd {a b : Addr} {H : Hp} {o : HO} : Same2 a b H (upd H b o) := fun x _ _ hb e => by rw [upd_ne hb]; exact e
theorem rd2 {a b p : Addr} {H H' : Hp} {o : HO} (s : Same2 a b H H') (ha : p ≠ a) (hb : p ≠ b) (h : Rd H p o) : Rd H' p o := by
  rcases h with h | ⟨n, h⟩
  · exact .inl (s _ _ ha hb h)
  · exact .inr ⟨n, s _ _ ha hb h⟩
theorem sqL2 {K : PySem.W.Frag} {a b p : Addr} {H H' : Hp} {xs : List V} (s : Same2 a b H H') (ha : p ≠ a) (hb : p ≠ b) (h : SqL K H p xs) : SqL K H' p xs := h.imp (rd2 s ha hb) id
theorem sqT2 {K : PySem.W.Frag} {a b p : Addr} {H H' : Hp} {d : List (Key × V)} {l : List V} {xs : List V} (s : Same2 a b H H') (ea : H a = some (.dK d)) (eb : H b = some (.lst l)) (h : SqT K H p xs) : SqT K H' p xs := by
  rcases h with h | h
  · refine .inl (rd2 s ?_ ?_ h)
    · rintro rfl
      rcases h with h | ⟨n, h⟩ <;> rw [ea] at h <;> cases h
    · rintro rfl
      rcases h with h | ⟨n, h⟩ <;> rw [eb] at h <;> cases h
  · exact .inr h
def spWay (K : PySem.W.Frag) (n : Nat) : Sp := fun vs H Q _ => ∃ (pl ow tl : Addr) (es : Tups) (G : List (Int × Int)) (o : MM) (T C : List Int) (r : Int) (P : Int → List Int), vs = [.ref pl, .int r, .ref ow, .ref tl] ∧ SqL K H pl (refs es) ∧ pl ≠ ow ∧ pl ≠ tl ∧ TupsAt K H es ∧ keys es = pairs2 G ∧ (∀ a c, (a, c) ∈ G ↔ c ∈ P a) ∧ (∀ a c, (a, c) ∈ G → c ∈ C) ∧
  H ow = some (.dK (dI o)) ∧ H tl = some (.lst (T.map V.int)) ∧ (o.map (·.1)).Nodup ∧ (∀ c s, lk o c = some s → c ∈ P s) ∧ T.Nodup ∧ (∀ c ∈ T, c ∈ C) ∧ C.length ≤ 1000 ∧ C.length < T.length + n ∧
  ∀ (H' : Hp) (c : Bool) (o' : MM) (T' : List Int), Same2 ow tl H H' → H' ow = some (.dK (dI o')) → H' tl = some (.lst (T'.map V.int)) → (c = true → KWay P o o' T r) → (c = false → o' = o ∧ KWall P o T T' r ∧ T'.Nodup ∧ ∀ c ∈ T', c ∈ C) → Q (.bl c) H'
end Sw
namespace Sw
open PySem PySem.Spec PyProof.Rows L2
def spOnce (K : PySem.W.Frag) : Sp := fun vs H Q _ => ∃ (pl wl : Addr) (es : Tups) (G : List (Int × Int)) (W C : List Int) (P : Int → List Int), vs = [.ref pl, .ref wl] ∧ H pl = some (.lst (refs es)) ∧ TupsAt K H es ∧ keys es = pairs2 G ∧ (∀ a c, (a, c) ∈ G ↔ c ∈ P a) ∧ (∀ a c, (a, c) ∈ G → c ∈ C) ∧ C.length ≤ 20 ∧ SqL K H wl (W.map V.int) ∧ W.Nodup ∧
  ∀ (H' : Hp) (o : MM), Same H H' → KSt P W o → Q (.int o.length) H'
end Sw
namespace Sw
open PySem PySem.Spec PyProof.Rows L2
def CoupI (n : Int) (cam : List Int) (kk : List (List Int)) (one other : List Int) (g : MM) : Prop := AscL (pairs2 g) ∧ Mt (tP (tblN n cam kk one other)) g ∧ MaxOn (tP (tblN n cam kk one other)) (sureN n cam one kk) g ∧ ∀ m', Mt (tP (tblN n cam kk one other)) m' → ((sureN n cam other kk).filter (has (swp m'))).length ≤ ((sureN n cam other kk).filter (has (swp g))).length
def spCoup2 (K : PySem.W.Frag) (C : Addr) : Sp := fun vs H Q _ => ∃ (p d1 d2 : Addr) (n : Int) (ks : Tups) (cam one other : List Int) (z1 z2 : Shown), vs = [.ref p, .ref d1, .ref d2] ∧ d1 ≠ d2 ∧ SkyS K C H p n ks cam ∧ isSky n (keys ks) cam = true ∧ ShD K H d1 n cam one (keys ks) z1 ∧ ShD K H d2 n cam other (keys ks) z2 ∧
  ∀ (H' : Hp) (l : Addr) (es : Tups) (g : MM), Same H H' → H' l = some (.lst (refs es)) → TupsAt K H' es → keys es = pairs2 g → CoupI n cam (keys ks) one other g → Q (.ref l) H'
def spCouples (K : PySem.W.Frag) (C D : Addr) : Sp := fun vs H Q E => ∃ (p q r : Addr) (n : Int) (ks : Tups) (cam one other : List Int), vs = [.ref p, .ref q, .ref r] ∧ SkyS K C H p n ks cam ∧ isSky n (keys ks) cam = true ∧ SqT K H q (one.map V.int) ∧ SqT K H r (other.map V.int) ∧
  (isPose n one = true → isPose n other = true → ∀ (H' : Hp) (l : Addr) (es : Tups) (g : MM), Same H H' → H' l = some (.lst (refs es)) → TupsAt K H' es → keys es = pairs2 g → CoupI n cam (keys ks) one other g → Q (.ref l) H') ∧ twoErr D E H q r n one other
def spDiffer (K : PySem.W.Frag) : Sp := fun vs H Q _ => ∃ (l : Addr) (L : List Int), vs = [.ref l] ∧ SqL K H l (L.map V.int) ∧ L.length ≤ 1000 ∧ ∀ (H' : Hp) (b : Bool), Same H H' → (b = true ↔ L.Nodup) → Q (.bl b) H'
end Sw
namespace Sw
open PySem PySem.Spec PyProof.Rows L2
theorem tbl_turn {n : Int} {cam : List Int} {kk : List (List Int)} {one other : List Int} {r c : Int} (h : c ∈ tP (tblN n cam kk one other) r) : r ∈ tP (tblN n cam kk other one) c := by
  rw [← links_swap c r (n := n) (cam := cam) (kk := kk) (one := one) (other := other)]
  exact List.mem_map.mpr ⟨(r, c), linksP_mem.mpr h, rfl⟩
theorem mt_swp {P P' : Int → List Int} {g : MM} (h : Mt P g) (hP : ∀ r c, c ∈ P r → r ∈ P' c) : Mt P' (swp g) := by
  have hn : ((swp g).map (·.1)).Nodup := by
    rw [swp_keys, List.Nodup, List.pairwise_map]
    have h1 := List.pairwise_map.mp h.nd
    refine List.Pairwise.imp_of_mem (fun {a b} ha hb hab e => hab ?_) h1
    exact h.inj a.1 b.1 a.2 (lk_mem h.nd ha) (by rw [e]; exact lk_mem h.nd hb)
  refine ⟨hn, fun k v e => hP v k (h.ed v k (lk_mem h.nd (mem_swp.mp (lk_some e)))), fun k j v e1 e2 => ?_⟩
  have a := lk_mem h.nd (mem_swp.mp (lk_some e1))
  have b := lk_mem h.nd (mem_swp.mp (lk_some e2))
  rw [a] at b
  exact Option.some.inj b
theorem swp_swp (g : MM) : swp (swp g) = g := by
  unfold swp
  rw [List.map_map]
  exact (List.map_congr_left fun z _ => rfl).trans (List.map_id _)
theorem kst_best {P : Int → List Int} {W : List Int} {o : MM} (h : KSt P W o) (hW : W.Nodup) : (∀ m', Mt P m' → (W.filter (has m')).length ≤ o.length) ∧ Mt P (swp o) ∧ (W.filter (has (swp o))).length = o.length := by
  obtain ⟨F, _, hLB⟩ := kst_least h hW
  refine ⟨fun m' hm' => ?_, hLB.mt, kst_len h hW⟩
  rw [← kst_len h hW]
  exact best hW hLB.mt hLB.shut hLB.sub hLB.free hm'
theorem coup_one {n : Int} {cam : List Int} {kk : List (List Int)} {one other : List Int} {g o : MM} (hc : CoupI n cam kk one other g) (h : KSt (tP (tblN n cam kk one other)) (sureN n cam one kk) o) : ((sureN n cam one kk).filter (has g)).length = o.length := by
  obtain ⟨h1, h2, h3⟩ := kst_best h (sureN_nodup _ _ _ _)
  have a := h1 g hc.2.1
  have b := hc.2.2.1 _ h2
  omega
theorem coup_two {n : Int} {cam : List Int} {kk : List (List Int)} {one other : List Int} {g o : MM} (hc : CoupI n cam kk one other g) (h : KSt (tP (tblN n cam kk other one)) (sureN n cam other kk) o) : ((sureN n cam other kk).filter (has (swp g))).length = o.length := by
  obtain ⟨h1, h2, h3⟩ := kst_best h (sureN_nodup _ _ _ _)
  have a := h1 (swp g) (mt_swp hc.2.1 fun r c => tbl_turn)
  have b := hc.2.2.2 (swp (swp o)) (mt_swp h2 fun r c => tbl_turn)
  rw [swp_swp] at b
  omega
theorem has_keys {g : MM} (hn : (g.map (·.1)).Nodup) (x : Int) : has g x = decide (x ∈ g.map (·.1)) := by
  rw [Bool.eq_iff_iff, decide_eq_true_iff]
  constructor
  · intro h
    obtain ⟨v, e⟩ := has_some h
    exact List.mem_map.mpr ⟨_, lk_some e, rfl⟩
  · intro h
    obtain ⟨z, hz, rfl⟩ := List.mem_map.mp h
    unfold has
    rw [lk_mem hn hz]
    rfl
end Sw
namespace L2
open PySem PySem.Spec PyProof.Rows
theorem op_notInDK {X : Cx} {K : PySem.W.Frag} (hu : X.A.units + 65 < cLine) (h : X.K = K := by rfl) : OpR X (compareOp .NotIn) (rNotInD K) := h ▸ op_notInD hu
end L2
namespace Sw
open PySem PySem.Spec PyProof.Rows L2
theorem linksP_cols {n : Int} {cam : List Int} {kk : List (List Int)} {one other : List Int} {r c : Int} (h : (r, c) ∈ linksP n cam kk one other) : r ∈ (List.range kk.length).map Int.ofNat ∧ c ∈ (List.range kk.length).map Int.ofNat := by
  unfold linksP at h
  obtain ⟨a, ha, h⟩ := List.mem_flatMap.mp h
  obtain ⟨b, hb, h⟩ := List.mem_map.mp h
  injection h with h1 h2
  exact ⟨List.mem_map.mpr ⟨a, ha, h1⟩, List.mem_map.mpr ⟨b, (List.mem_filter.mp hb).1, h2⟩⟩
theorem rNe_int {a b : Int} {H : Hp} {Q : VK} (e : a = b) (q : Q (.bl false) H) : rNe (.int a) (.int b) H Q := ⟨rfl, by rw [e, decide_eq_true rfl]; exact q⟩
theorem rEq_int {a b : Int} {H : Hp} {Q : VK} (e : a = b) (q : Q (.bl true) H) : rEq (.int a) (.int b) H Q := ⟨rfl, by rw [e, decide_eq_true rfl]; exact q⟩
end Sw
set_option Elab.async false
set_option linter.all false
/-! What of a sky fits spots (own work; k26, k29, k31, k32, k78). -/
namespace Sw
open PySem PySem.Spec PyProof.Rows L2
/-- an offset and a brightness fit a spot -/
def fitS (b g : Int) : List Int → List Int → Bool
  | [u, v, c], [x, y, z] => decide (iabs (u - x) ≤ b) && decide (iabs (v - y) ≤ b) && decide (iabs (c - z) ≤ g)
  | _, _ => false
def ftN (n : Int) (cam : List Int) (kk : List (List Int)) (at_ : List Int) (sp : List (List Int)) (i j : Nat) : Bool := match cam, sO n cam at_ kk i, sp[j]? with
  | [_, b, g, _], some d, some s => fitS b g d s
  | _, _, _ => false
def fitTo (n : Int) (cam : List Int) (kk : List (List Int)) (at_ : List Int) (sp : List (List Int)) (i : Nat) : MM := (List.range i).flatMap fun a : Nat => ((List.range sp.length).filter (ftN n cam kk at_ sp a)).map fun c : Nat => ((a : Int), (c : Int))
theorem fitTo_succ (n : Int) (cam : List Int) (kk : List (List Int)) (at_ : List Int) (sp : List (List Int)) (i : Nat) : fitTo n cam kk at_ sp (i + 1) = fitTo n cam kk at_ sp i ++ ((List.range sp.length).filter (ftN n cam kk at_ sp i)).map fun c : Nat => ((i : Int), (c : Int)) := by
  unfold fitTo
  rw [List.range_succ, List.flatMap_append]
  congr 1
  exact List.append_nil _
/-- spots: three integers each -/
def Spots3 (sp : List (List Int)) : Prop := ∀ z ∈ sp, ∃ x y c : Int, z = [x, y, c]
def spFit (K : PySem.W.Frag) : Sp := fun vs H Q _ => ∃ (pp pa pt : Addr) (n : Int) (ks ss : Tups) (cam at_ : List Int), vs = [.ref pp, .ref pa, .ref pt] ∧ PartsAt K H pp n ks cam ∧ isSky n (keys ks) cam = true ∧ SqT K H pa (at_.map V.int) ∧ isPose n at_ = true ∧ SqT K H pt (refs ss) ∧ TupsAt K H ss ∧ Spots3 (keys ss) ∧ ss.length ≤ 60 ∧
  ∀ (H' : Hp) (l : Addr) (es : Tups), Same H H' → H' l = some (.lst (refs es)) → TupsAt K H' es → keys es = pairs2 (fitTo n cam (keys ks) at_ (keys ss) (keys ks).length) → Q (.ref l) H'
end Sw
namespace Sw
open PySem PySem.Spec PyProof.Rows L2
def spGLack (K : PySem.W.Frag) : Sp := fun vs H Q _ => ∃ (t wl q r : Addr) (n : Int) (ks : Tups) (cam one other W : List Int), vs = [.ref t, .ref wl, .ref q, .ref r] ∧ PartsAt K H t n ks cam ∧ isSky n (keys ks) cam = true ∧ SqL K H wl (W.map V.int) ∧ W.Nodup ∧ SqT K H q (one.map V.int) ∧ isPose n one = true ∧ SqT K H r (other.map V.int) ∧ isPose n other = true ∧
  ∀ (H' : Hp) (o : MM), Same H H' → KSt (tP (tblN n cam (keys ks) one other)) W o → Q (.int ((W.length : Int) - o.length)) H'
def spBoth (K : PySem.W.Frag) : Sp := fun vs H Q _ => ∃ (sl ll : Addr) (S L : List Int), vs = [.ref sl, .ref ll] ∧ SqL K H sl (S.map V.int) ∧ SqL K H ll (L.map V.int) ∧ S.length ≤ 1000 ∧
  ∀ (H' : Hp) (l : Addr), Same H H' → H' l = some (.lst ((S.filter fun x => decide (x ∈ L)).map V.int)) → Q (.ref l) H'
end Sw
set_option Elab.async false
set_option linter.all false
set_option maxRecDepth 100000
set_option maxHeartbeats 4000000
/-! max of three, list(range(n)), the set of a list of integers (own work). -/
namespace L2
open PySem PySem.Spec PyProof.Rows
def mx3 (i j k : Int) : Int := if j > i then (if k > j then k else j) else (if k > i then k else i)
theorem mx3_le {i j k z : Int} : mx3 i j k ≤ z ↔ i ≤ z ∧ j ≤ z ∧ k ≤ z := by
  unfold mx3
  by_cases h1 : j > i
  · rw [if_pos h1]
    by_cases h2 : k > j
    · rw [if_pos h2]; omega
    · rw [if_neg h2]; omega
  · rw [if_neg h1]
    by_cases h2 : k > i
    · rw [if_pos h2]; omega
    · rw [if_neg h2]; omega
theorem mx3_ge (i j k : Int) : i ≤ mx3 i j k ∧ j ≤ mx3 i j k ∧ k ≤ mx3 i j k := mx3_le.mp (Int.le_refl _)
theorem call_max3 {X : Cx} (hc : X.calm = true) : CallR X (.builtin "max") (fun xs H Q => ∃ i j k, xs = [.int i, .int j, .int k] ∧ Q (.int (mx3 i j k)) H) := by
  intro pins s σ H xs us Q I r h
  obtain ⟨i, j, k, rfl, q⟩ := h
  cases r with
  | cons r1 r =>
    cases r with
    | cons r2 r =>
      cases r with
      | cons r3 r =>
        cases r
        obtain ⟨t1, rfl⟩ := r1
        obtain ⟨t2, rfl⟩ := r2
        obtain ⟨t3, rfl⟩ := r3
        refine max_three_ints (I.ok.hd hc) fun h' tk kp => ⟨_, H, I.kept kp, ?_, q⟩
        unfold mx3
        by_cases h1 : j > i
        · rw [if_pos h1, if_pos h1]
          by_cases h2 : k > j
          · rw [if_pos h2, if_pos h2]; exact ⟨_, rfl⟩
          · rw [if_neg h2, if_neg h2]; exact ⟨_, rfl⟩
        · rw [if_neg h1, if_neg h1]
          by_cases h2 : k > i
          · rw [if_pos h2, if_pos h2]; exact ⟨_, rfl⟩
          · rw [if_neg h2, if_neg h2]; exact ⟨_, rfl⟩
end L2
namespace L2
open PySem PySem.Spec PyProof.Rows
abbrev noSet (w : World) : Obj := { cls := .type "set", dict := none, data := .set #[] 0 (.fresh 0 0 (!w.params.followText "set-order")) }
section
variable {P : Program} {w : World} {A : Around} {E : Value → Shared → Prop} {s : Shared}
/-- set(x): what is left to do when the empty set is there -/
theorem set_made {x : Value} {Q : Value → Shared → Prop} {W : Value → Shared → Prop} (hW : W = fun r z => r = .none ∧ Q (.ref s.heap.objs.size) z)
    (go : wpAny (model P w) A.in1.in1 (Builtin.«set.__init__» ⟨[.ref s.heap.objs.size, x], []⟩)
      (fun fin z => match fin with | .done f => wants W E (.ok f) z | .again c => c.quiet = true ∧ codeAny (model P w) A.in1 c (wants W E) z)
      (fun e z => wants W E (.error e) z) { s with heap := s.heap.push (noSet w) }) : wpAny (model P w) A (call (.type "set") [x]) Q E s := by
  have tc := F.called_set
  obtain ⟨c0, l0, em⟩ := tc.mro
  have e1 := tc.made
  have e2 := tc.sub
  have e3 := tc.notType
  have e4 := tc.canCreate
  have e5 := F.typeCall_set_1 x
  refine wpAny_call (codeAny_of_tree ?_)
  show wpAny _ _ (callAny (.type "set") _) _ _ _
  refine wpAny_pure ⟨Code.quiet_builtin _ (by decide +kernel), codeAny_builtin F.entry_type_call (by
    rw [Around.under_plain (weight_type_call_type "set" [x] []) rfl]
    repeat any_goals (first | wp_step | assumption)
    refine codeAny_mono (code_set_led1 x (E := E) (Q₁ := fun o z => o = .ref s.heap.objs.size ∧ z = { s with heap := s.heap.push (noSet w) }) ⟨rfl, rfl⟩) fun r z hr => ?_
    match r, hr with
    | .error _, hr => exact hr
    | .ok (.ret o), hr =>
      obtain ⟨rfl, rfl⟩ := hr
      have hT : Shared.TypeIs { s with heap := s.heap.push (noSet w) } (.ref s.heap.objs.size) "set" := ⟨_, Heap.get?_push_size _ rfl, rfl⟩
      have e6 := tc.init.lookup
      have e7 := tc.init.bind (.ref s.heap.objs.size)
      repeat any_goals (first | wp_step | assumption)
      refine codeAny_mono (codeAny_call_builtin (R := wants W E) tc.init.plain F.entry_set_init (check_set_init_1 hT go)) fun r2 z2 hr2 => ?_
      match r2, hr2 with
      | .error _, hr2 => exact hr2
      | .ok (.ret o), hr2 =>
        subst hW
        obtain ⟨rfl, q⟩ := hr2
        repeat any_goals (first | wp_step | assumption))⟩
/-- set(xs), xs a list of integers -/
theorem set_of_list {l : Addr} {its : Array Value} (ns : List Int) {Q : Value → Shared → Prop} (hh : A.handled = none) (hl : s.heap.IsList l its) (hi : IntsAre its.toList ns) (hb : ns.length + 1 < scanBound)
    (k : ∀ (h' : Heap) (tk c : Nat), SetR w h' s.heap.objs.size (fun j => decide (j ∈ ns)) c → c ≤ ns.length → (∀ b o, s.heap.get? b = some o → h'.get? b = some o) → Q (.ref s.heap.objs.size) { s with heap := h', toks := tk }) :
    wpAny (model P w) A (call (.type "set") [.ref l]) Q E s := by
  have hz : its.size = ns.length := by
    rw [← Array.length_toList]
    exact hi.length
  refine set_made rfl ?_
  obtain ⟨⟨_, od, _, os⟩, eo, rfl, m, rfl⟩ := hl
  have old : ∀ {b : Addr} {o : Obj}, s.heap.get? b = some o → (s.heap.push (noSet w)).get? b = some o := fun e => Heap.get?_push_of_some _ e
  have eo1 := old eo
  have hl1 : (s.heap.push (noSet w)).IsList l its := ⟨_, eo1, rfl, m, rfl⟩
  have f1 := F.sub_list_set
  have f2 := F.sub_list_frozenset
  have f3 : (Value.type "list" == Value.type "dict") = false := by decide
  unfold Builtin.«set.__init__» noKeywords Builtin.Frozenset.updateFrom
  generalize hI : pyIter = I
  wp_walk
  subst hI
  refine wpAny_pyIter_list hl1 (wpAny_bind (wpAny_runValue ?_))
  have z1 : (s.heap.push (noSet w)).objs.size = s.heap.objs.size + 1 := Heap.size_push ..
  have z2 : l < s.heap.objs.size := Heap.lt_size eo
  have n1 : l ≠ (s.heap.push (noSet w)).objs.size := Nat.ne_of_lt (z1 ▸ Nat.lt_succ_of_lt z2)
  have h3 : A.in1.in1.in1.handled = none := hh
  refine set_update_ints ((Walks.list h3 _ l n1 its).toS) s.heap.objs.size (fun hm => ?_) ns hz hb (fun i v hv => ?_) its.size 0 _ (Nat.sub_zero _) (Nat.zero_le _)
    ⟨⟨_, Heap.get?_push_size _ rfl, rfl, rfl⟩, hl1.push _⟩ ⟨0, Nat.le_refl 0, setR_new_at (Heap.get?_push_of_some _ (Heap.get?_push_size _ rfl))⟩ ?_
  · rcases List.mem_cons.mp hm with e | hm
    · exact Nat.ne_of_lt (Nat.lt_succ_self _) (e.trans z1)
    · exact Nat.ne_of_gt z2 (List.mem_singleton.mp hm)
  · have hlt : i < ns.length := hz ▸ (Array.getElem?_eq_some_iff.mp hv).1
    obtain ⟨t, e⟩ := PyProof.Rows.IntsAre.int_at hi i v (by rw [Array.getElem?_toList]; exact hv)
    exact ⟨ns[i], t, List.getElem?_eq_getElem hlt, by rw [e, List.getD_eq_getElem?_getD, List.getElem?_eq_getElem hlt]; rfl⟩
  · rintro ⟨h', g, d, tk, o⟩ c hm hc hS
    obtain rfl : g = s.gens := hm.gens
    obtain rfl : d = s.drawn := hm.drawn
    obtain rfl : o = s.os := hm.os
    show wpAny _ _ _ _ _ _
    refine wpAny_pure ?_
    show wpAny _ _ (ret Value.none) _ _ _
    refine wpAny_pure ⟨rfl, k h' tk c hS (hz ▸ hc) fun b o e => hm.heap b o (fun hm => ?_) (Heap.get?_push_of_some _ (old e))⟩
    have hlt := Heap.lt_size e
    rcases List.mem_cons.mp hm with e | hm
    · exact Nat.ne_of_lt hlt e
    · exact Nat.ne_of_lt (Nat.lt_succ_of_lt hlt) ((List.mem_singleton.mp hm).trans z1)
end
end L2
namespace L2
open PySem PySem.Spec PyProof.Rows
/-- sorted(set(xs)) -/
def tSortSet (K : PySem.W.Frag) (te : TE) : TE := fun σ H Q => te σ H fun x H1 => ∃ (l : Addr) (ns : List Int), x = V.ref l ∧ SqL K H1 l (ns.map V.int) ∧ ns.length < 60 ∧
  ∀ (p : Addr) (out : List Int), out.Pairwise (· < ·) → (∀ k : Int, k ∈ out ↔ k ∈ ns) → H1 p = none → Q (.ref p) (upd H1 p (.lst (out.map V.int)))
theorem pe_sortSet {X : Cx} {a : Expr} {ta : TE} {p p2 q pos : Pos} (hc : X.calm = true) (hg : Gl X "sorted") (hm : X.mg "sorted" = none) (hg2 : Gl X "set") (hm2 : X.mg "set" = none) (ha : PE X a ta)
    (na : starEach [a] X.env = (false, eval a X.env) :: starEach [] X.env := by rfl) : PE X (.Call (.Name "sorted" p) [.Call (.Name "set" p2) [a] [] q] [] pos) (tSortSet X.K ta) := by
  refine ⟨fun pins s σ H Q I h => Call_ (ld_blt I hg hm PyProof.Rows.boot_sorted (PyProof.Rows.callWith_builtin1 (PyProof.Rows.args_cons ?_ rfl) rfl rfl))⟩
  refine Call_ (ld_blt I hg2 hm2 PyProof.Rows.boot_set (PyProof.Rows.callWith_type1 (PyProof.Rows.args_cons (thn (ha.run pins s σ H _ I h) fun v s1 ⟨x, H1, I1, r1, q1⟩ => PyProof.Rows.args_nil ?_) na) na rfl))
  obtain ⟨l, ns, rfl, hq, h1, q1⟩ := q1
  cases r1
  obtain ⟨its, r, pl, hz⟩ := I1.list hq
  refine set_of_list ns (I1.ok.hd hc) pl.isList (by simpa using r.ints) (by unfold scanBound; omega) fun h' tk c R hcn kp => PyProof.Rows.args_nil ?_
  have I2 : Inv X pins σ H1 { s1 with heap := h', toks := tk } := I1.kept kp
  have R2 : SetR X.w ({ s1 with heap := h', toks := tk } : Shared).heap s1.heap.objs.size (fun j => decide (j ∈ ns)) c := R
  generalize ({ s1 with heap := h', toks := tk } : Shared) = s2 at I2 R2 ⊢
  refine sorted_set R2 (I2.ok.hd hc) (by omega) fun s' p out d N k g o hp hgp hi hs hmm hl => ?_
  have hlen : (N.map V.int).length ≤ sizeLine := by rw [List.length_map, hl, sizeLine_eq]; omega
  have hn : H1 p = none := I2.hok.fresh hp
  have J : Inv X pins σ (upd H1 p (.lst (N.map V.int))) { s2 with heap := s'.heap, gens := s'.gens, drawn := s'.drawn, toks := s'.toks } :=
    I2.call (ch := []) (Un.laid k hp hn) (I2.hok.laid k hp ⟨hlen, out.toList, d, vals_of_ints hi, hgp⟩) (by rw [g]; exact I2.bare) (fun _ z => nomatch z)
  have e : s' = { s2 with heap := s'.heap, gens := s'.gens, drawn := s'.drawn, toks := s'.toks } := by
    cases s'
    cases s2
    cases o
    rfl
  rw [e]
  exact ⟨.ref p, _, J, rfl, q1 p N hs (fun z => by rw [hmm z]; exact decide_eq_true_iff) hn⟩
/-- list(range(n)) -/
def tListRng (te : TE) : TE := fun σ H Q => te σ H fun x H1 => ∃ n : Nat, x = V.int n ∧ n ≤ 1000 ∧ ∀ l, H1 l = none → Q (.ref l) (upd H1 l (.lst ((List.range n).map fun i : Nat => V.int (i : Int))))
theorem pe_listRng {X : Cx} {a : Expr} {ta : TE} {p p2 q pos : Pos} (hc : X.calm = true) (hg : Gl X "list") (hm : X.mg "list" = none) (hg2 : Gl X "range") (hm2 : X.mg "range" = none) (ha : PE X a ta)
    (na : starEach [a] X.env = (false, eval a X.env) :: starEach [] X.env := by rfl) : PE X (.Call (.Name "list" p) [.Call (.Name "range" p2) [a] [] q] [] pos) (tListRng ta) := by
  refine ⟨fun pins s σ H Q I h => Call_ (ld_blt I hg hm PyProof.Rows.boot_list (PyProof.Rows.callWith_type1 (PyProof.Rows.args_cons ?_ rfl) rfl rfl))⟩
  refine Call_ (ld_blt I hg2 hm2 PyProof.Rows.boot_range (PyProof.Rows.callWith_type1 (PyProof.Rows.args_cons (thn (ha.run pins s σ H _ I h) fun v s1 ⟨x, H1, I1, r1, q1⟩ => PyProof.Rows.args_nil ?_) na) na rfl))
  obtain ⟨n, rfl, hn, q1⟩ := q1
  obtain ⟨t, rfl⟩ := r1
  refine call_range_1 (PyProof.Rows.args_nil ?_)
  have hR : IsRange ({ s1 with heap := s1.heap.push { cls := .type "range", data := .fields #[.int 0 s1.toks, .int (n : Int) t, .int 1 (s1.toks + 1)] }, toks := s1.toks + 1 + 1 } : Shared).heap s1.heap.objs.size 0 n 1 s1.toks t (s1.toks + 1) := IsRange.new ..
  have I2 : Inv X pins σ H1 ({ s1 with heap := s1.heap.push { cls := .type "range", data := .fields #[.int 0 s1.toks, .int (n : Int) t, .int 1 (s1.toks + 1)] }, toks := s1.toks + 1 + 1 } : Shared) := I1.kept fun b o e => Heap.get?_push_of_some _ e
  generalize ({ s1 with heap := s1.heap.push { cls := .type "range", data := .fields #[.int 0 s1.toks, .int (n : Int) t, .int 1 (s1.toks + 1)] }, toks := s1.toks + 1 + 1 } : Shared) = s2 at I2 hR ⊢
  refine call_list_range (n := n) (I2.ok.hd hc) hR (small_one (by omega) (by omega) (by omega) (by omega)) (by rw [rangeSize_one]; split <;> omega) (by omega) fun h' tk acc c kp hg' hI => ?_
  obtain ⟨hsz, hat⟩ := hI
  have hlen : ((List.range n).map fun i : Nat => V.int (i : Int)).length ≤ sizeLine := by rw [List.length_map, List.length_range, sizeLine_eq]; omega
  have vals : ∀ (m : List Nat) (us : List Value), (us.length = m.length) → (∀ i (h : i < us.length), ∃ j t, m[i]? = some j ∧ us[i] = .int (j : Int) t) → Vals (m.map fun i : Nat => V.int (i : Int)) us := by
    intro m
    induction m with
    | nil => intro us hl _; cases us with
      | nil => exact .nil
      | cons _ _ => cases hl
    | cons j m ih =>
      intro us hl h
      cases us with
      | nil => cases hl
      | cons u us =>
        obtain ⟨j', t, e1, e2⟩ := h 0 (Nat.succ_pos _)
        obtain rfl : j = j' := Option.some.inj e1
        exact .cons ⟨t, e2⟩ (ih us (Nat.succ.inj hl) fun i hi => h (i + 1) (Nat.succ_lt_succ hi))
  have hfr : H1 s2.heap.objs.size = none := I2.hok.fresh (Nat.le_refl _)
  have J := I2.laid (t' := tk) (a := s2.heap.objs.size) (o := .lst ((List.range n).map fun i : Nat => V.int (i : Int))) kp (Nat.le_refl _) (show ObjOk X.prog X.w _ h' _ (.lst ((List.range n).map fun i : Nat => V.int (i : Int))) from ⟨hlen, acc.toList, c, vals _ _ (by rw [Array.length_toList, List.length_range, hsz]) (fun i hi => ?_), hg'⟩)
  · exact ⟨.ref s2.heap.objs.size, _, J, rfl, q1 _ hfr⟩
  · rw [Array.length_toList, hsz] at hi
    obtain ⟨t2, e⟩ := hat i acc[i] (Array.getElem?_eq_getElem (by omega))
    exact ⟨i, t2, List.getElem?_range hi, by rw [Array.getElem_toList, e]; congr 1; omega⟩
end L2
set_option Elab.async false
set_option linter.all false
/-! A sighting that misleads (own work; k32). -/
namespace Sw
open PySem PySem.Spec PyProof.Rows L2
/-- a permutation moves positions, no two to one -/
theorem perm_idx {α : Type} {l m : List α} (h : l.Perm m) : ∃ f : Nat → Nat, (∀ i, i < l.length → f i < m.length ∧ m[f i]? = l[i]?) ∧ ∀ i j, i < l.length → j < l.length → f i = f j → i = j := by
  induction h with
  | nil => exact ⟨id, fun i hi => absurd hi (Nat.not_lt_zero _), fun i j _ _ e => e⟩
  | cons x _ ih =>
    obtain ⟨f, h1, h2⟩ := ih
    refine ⟨fun i => match i with | 0 => 0 | i + 1 => f i + 1, fun i hi => ?_, fun i j hi hj e => ?_⟩
    · cases i with
      | zero => exact ⟨Nat.succ_pos _, rfl⟩
      | succ i =>
        have := h1 i (Nat.lt_of_succ_lt_succ hi)
        exact ⟨Nat.succ_lt_succ this.1, by simpa using this.2⟩
    · cases i with
      | zero =>
        cases j with
        | zero => rfl
        | succ j => cases e
      | succ i =>
        cases j with
        | zero => cases e
        | succ j => rw [h2 i j (Nat.lt_of_succ_lt_succ hi) (Nat.lt_of_succ_lt_succ hj) (Nat.succ.inj e)]
  | swap x y l =>
    refine ⟨fun i => match i with | 0 => 1 | 1 => 0 | i + 2 => i + 2, fun i hi => ?_, fun i j hi hj e => ?_⟩
    · match i, hi with
      | 0, _ => exact ⟨by simp, rfl⟩
      | 1, _ => exact ⟨by simp, rfl⟩
      | i + 2, hi => exact ⟨hi, by simp⟩
    · match i, j, e with
      | 0, 0, _ => rfl
      | 0, 1, e => cases e
      | 0, j + 2, e => simp at e
      | 1, 0, e => cases e
      | 1, 1, _ => rfl
      | 1, j + 2, e => simp at e
      | i + 2, 0, e => simp at e
      | i + 2, 1, e => simp at e
      | i + 2, j + 2, e => exact e
  | trans _ _ ih1 ih2 =>
    obtain ⟨f, f1, f2⟩ := ih1
    obtain ⟨g, g1, g2⟩ := ih2
    refine ⟨fun i => g (f i), fun i hi => ?_, fun i j hi hj e => f2 i j hi hj (g2 _ _ (f1 i hi).1 (f1 j hj).1 e)⟩
    have a := f1 i hi
    have b := g1 _ a.1
    exact ⟨b.1, b.2.trans a.2⟩
theorem nodup_map_inj {α β : Type} {f : α → β} : ∀ {l : List α}, (l.map f).Nodup → ∀ x ∈ l, ∀ y ∈ l, f x = f y → x = y
  | [], _, x, hx, _, _, _ => by cases hx
  | a :: l, h, x, hx, y, hy, e => by
    rw [List.map_cons, List.nodup_cons] at h
    rcases List.mem_cons.mp hx with ex | hx'
    · rcases List.mem_cons.mp hy with ey | hy'
      · rw [ex, ey]
      · exact absurd (by rw [← ex, e]; exact List.mem_map_of_mem (f := f) hy') h.1
    · rcases List.mem_cons.mp hy with ey | hy'
      · exact absurd (by rw [← ey, ← e]; exact List.mem_map_of_mem (f := f) hx') h.1
      · exact nodup_map_inj h.2 x hx' y hy' e
/-- the partners that pairs give -/
def pOf (G : MM) (a : Int) : List Int := (G.filter fun z => decide (z.1 = a)).map (·.2)
theorem pOf_mem {G : MM} {a c : Int} : (a, c) ∈ G ↔ c ∈ pOf G a := by
  unfold pOf
  constructor
  · intro h
    exact List.mem_map.mpr ⟨(a, c), List.mem_filter.mpr ⟨h, decide_eq_true rfl⟩, rfl⟩
  · intro h
    obtain ⟨⟨a', c'⟩, h', rfl⟩ := List.mem_map.mp h
    obtain ⟨h2, e⟩ := List.mem_filter.mp h'
    have e := of_decide_eq_true e
    rw [← show a' = a from e]
    exact h2
theorem pOf_swp {G : MM} {a c : Int} (h : c ∈ pOf G a) : a ∈ pOf (swp G) c := pOf_mem.mp (mem_swp.mpr (pOf_mem.mpr h))
theorem fit_mem {n : Int} {cam : List Int} {kk : List (List Int)} {at_ : List Int} {sp : List (List Int)} {i a c : Nat} (h1 : a < i) (h2 : c < sp.length) (h3 : ftN n cam kk at_ sp a c = true) : ((a : Int), (c : Int)) ∈ fitTo n cam kk at_ sp i :=
  List.mem_flatMap.mpr ⟨a, List.mem_range.mpr h1, List.mem_map.mpr ⟨c, List.mem_filter.mpr ⟨List.mem_range.mpr h2, h3⟩, rfl⟩⟩
theorem fit_cols {n : Int} {cam : List Int} {kk : List (List Int)} {at_ : List Int} {sp : List (List Int)} {i : Nat} {a c : Int} (h : (a, c) ∈ fitTo n cam kk at_ sp i) : a ∈ (List.range i).map Int.ofNat ∧ c ∈ (List.range sp.length).map Int.ofNat := by
  unfold fitTo at h
  obtain ⟨x, hx, h⟩ := List.mem_flatMap.mp h
  obtain ⟨y, hy, h⟩ := List.mem_map.mp h
  injection h with e1 e2
  exact ⟨List.mem_map.mpr ⟨x, hx, e1⟩, List.mem_map.mpr ⟨y, (List.mem_filter.mp hy).1, e2⟩⟩
/-- stars with spots of their own among some -/
theorem fit_match {n r b g l : Int} {kk : List (List Int)} {at_ : List Int} {sp L : List (List Int)} (hp : sp.Perm L) (Z : List (Int × Nat)) (h1 : (Z.map (·.1)).Nodup) (h2 : (Z.map (·.2)).Nodup)
    (h3 : ∀ z ∈ Z, ∃ m : Nat, z.1 = (m : Int) ∧ m < kk.length ∧ ∃ d s, sO n [r, b, g, l] at_ kk m = some d ∧ L[z.2]? = some s ∧ fitS b g d s = true) :
    ∃ m : MM, Mt (pOf (fitTo n [r, b, g, l] kk at_ sp kk.length)) m ∧ m.map (·.1) = Z.map (·.1) ∧ ∀ c ∈ m.map (·.2), c ∈ (List.range sp.length).map Int.ofNat := by
  obtain ⟨f, f1, f2⟩ := perm_idx hp.symm
  have lt : ∀ z ∈ Z, z.2 < L.length := fun z hz => by
    obtain ⟨_, _, _, _, _, _, e, _⟩ := h3 z hz
    exact (List.getElem?_eq_some_iff.mp e).1
  have ek : (Z.map fun z => (z.1, (f z.2 : Int))).map (·.1) = Z.map (·.1) := by rw [List.map_map]; rfl
  refine ⟨Z.map fun z => (z.1, (f z.2 : Int)), ⟨by rw [ek]; exact h1, fun k v e => ?_, fun k j v e1 e2 => ?_⟩, ek, fun c hc => ?_⟩
  · obtain ⟨z, hz, e⟩ := List.mem_map.mp (lk_some e)
    injection e with e1 e2
    obtain ⟨m, em, hm, d, s, hd, hs, hf⟩ := h3 z hz
    rw [← e1, ← e2, em]
    have hfz := f1 _ (lt z hz)
    refine pOf_mem.mp (fit_mem hm hfz.1 ?_)
    unfold ftN
    rw [hd, hfz.2, hs]
    exact hf
  · obtain ⟨z, hz, e1⟩ := List.mem_map.mp (lk_some e1)
    obtain ⟨y, hy, e2⟩ := List.mem_map.mp (lk_some e2)
    injection e1 with a1 b1
    injection e2 with a2 b2
    have : f z.2 = f y.2 := by
      have := b1.trans b2.symm
      exact Int.ofNat.inj this
    have := nodup_map_inj h2 z hz y hy (f2 _ _ (lt z hz) (lt y hy) this)
    rw [← a1, ← a2, this]
  · rw [List.map_map] at hc
    obtain ⟨z, hz, rfl⟩ := List.mem_map.mp hc
    exact List.mem_map.mpr ⟨f z.2, List.mem_range.mpr (f1 _ (lt z hz)).1, rfl⟩
theorem has_key {m : MM} {k : Int} (hn : (m.map (·.1)).Nodup) (h : k ∈ m.map (·.1)) : has m k = true := by
  rw [has_keys hn]
  exact decide_eq_true h
theorem held_ge {W X : List Int} {m : MM} (hn : (m.map (·.1)).Nodup) (hX : X.Nodup) (h : ∀ x ∈ X, x ∈ W ∧ x ∈ m.map (·.1)) : X.length ≤ (W.filter (has m)).length :=
  len_le_of_sub hX fun x hx => List.mem_filter.mpr ⟨(h x hx).1, has_key hn (h x hx).2⟩
/-! ### the spots -/
def cspot : List Int → List Int → List Int → List Int
  | [r, b, g, l], [x, y, c], [x', y', c'] => [mx3 (x - b) (x' - b) (-r), mx3 (y - b) (y' - b) (-r), mx3 (c - g) (c' - g) l]
  | _, _, _ => []
def isSp : List Int → List Int → Prop
  | [r, _, g, l], s => ∃ x y c : Int, s = [x, y, c] ∧ -r ≤ x ∧ x ≤ r ∧ -r ≤ y ∧ y ≤ r ∧ l ≤ c ∧ c ≤ 9 + g
  | _, _ => False
/-- what a camera can see -/
def Vis (r b g l : Int) : List Int → Prop
  | [u, v, c] => -(r + b) ≤ u ∧ u ≤ r + b ∧ -(r + b) ≤ v ∧ v ≤ r + b ∧ l - g ≤ c ∧ c ≤ 9
  | _ => False
theorem sO_vis {n r b g l : Int} {at_ : List Int} {kk : List (List Int)} {m : Nat} {d : List Int} (hp : isPose n at_ = true) (hst : kk.all (isStar n) = true) (h : sO n [r, b, g, l] at_ kk m = some d) : Vis r b g l d := by
  obtain ⟨x, y, q, rfl, _⟩ := pose_form hp
  obtain ⟨u, v, c, rfl, _, h⟩ := sO_parts rfl hst h
  exact h
theorem fitS_iff {b g u v c x y z : Int} : fitS b g [u, v, c] [x, y, z] = true ↔ (-b ≤ u - x ∧ u - x ≤ b) ∧ (-b ≤ v - y ∧ v - y ≤ b) ∧ (-g ≤ c - z ∧ c - z ≤ g) := by
  show (decide (iabs (u - x) ≤ b) && decide (iabs (v - y) ≤ b) && decide (iabs (c - z) ≤ g)) = true ↔ _
  rw [Bool.and_eq_true, Bool.and_eq_true, decide_eq_true_iff, decide_eq_true_iff, decide_eq_true_iff, iabs_le, iabs_le, iabs_le, and_assoc]
theorem cspot_ok {r b g l : Int} {d e : List Int} (b0 : 0 ≤ b) (g0 : 0 ≤ g) (r0 : 0 ≤ r) (l9 : l ≤ 9) (hd : Vis r b g l d) (he : Vis r b g l e) (hn : nearB [r, b, g, l] d e = true) :
    isSp [r, b, g, l] (cspot [r, b, g, l] d e) ∧ fitS b g d (cspot [r, b, g, l] d e) = true ∧ fitS b g e (cspot [r, b, g, l] d e) = true := by
  match d, e, hd, he, hn with
  | [u, v, c], [u', v', c'], hd, he, hn =>
    have hn' : (decide (-(2 * b) ≤ u - u') && decide (u - u' ≤ 2 * b) && (decide (-(2 * b) ≤ v - v') && decide (v - v' ≤ 2 * b)) && (decide (-(2 * g) ≤ c - c') && decide (c - c' ≤ 2 * g))) = true := hn
    simp only [Bool.and_eq_true, decide_eq_true_eq] at hn'
    obtain ⟨⟨⟨n1, n2⟩, n3, n4⟩, n5, n6⟩ := hn'
    obtain ⟨d1, d2, d3, d4, d5, d6⟩ := hd
    obtain ⟨e1, e2, e3, e4, e5, e6⟩ := he
    have x1 := mx3_ge (u - b) (u' - b) (-r)
    have x2 : mx3 (u - b) (u' - b) (-r) ≤ r := mx3_le.mpr (by omega)
    have x3 : mx3 (u - b) (u' - b) (-r) ≤ u + b := mx3_le.mpr (by omega)
    have x4 : mx3 (u - b) (u' - b) (-r) ≤ u' + b := mx3_le.mpr (by omega)
    have y1 := mx3_ge (v - b) (v' - b) (-r)
    have y2 : mx3 (v - b) (v' - b) (-r) ≤ r := mx3_le.mpr (by omega)
    have y3 : mx3 (v - b) (v' - b) (-r) ≤ v + b := mx3_le.mpr (by omega)
    have y4 : mx3 (v - b) (v' - b) (-r) ≤ v' + b := mx3_le.mpr (by omega)
    have z1 := mx3_ge (c - g) (c' - g) l
    have z2 : mx3 (c - g) (c' - g) l ≤ 9 + g := mx3_le.mpr (by omega)
    have z3 : mx3 (c - g) (c' - g) l ≤ c + g := mx3_le.mpr (by omega)
    have z4 : mx3 (c - g) (c' - g) l ≤ c' + g := mx3_le.mpr (by omega)
    refine ⟨⟨_, _, _, rfl, ?_⟩, ?_, ?_⟩
    · omega
    · show fitS b g [u, v, c] [mx3 (u - b) (u' - b) (-r), mx3 (v - b) (v' - b) (-r), mx3 (c - g) (c' - g) l] = true
      rw [fitS_iff]
      omega
    · show fitS b g [u', v', c'] [mx3 (u - b) (u' - b) (-r), mx3 (v - b) (v' - b) (-r), mx3 (c - g) (c' - g) l] = true
      rw [fitS_iff]
      omega
theorem near_vis {r b g l : Int} {d : List Int} (b0 : 0 ≤ b) (g0 : 0 ≤ g) (hd : Vis r b g l d) : nearB [r, b, g, l] d d = true := by
  match d, hd with
  | [u, v, c], _ => exact near_self b0 g0 u v c
end Sw
namespace Sw
open PySem PySem.Spec PyProof.Rows L2
def dO (n : Int) (cam at_ : List Int) (kk : List (List Int)) (a : Int) : List Int := (sO n cam at_ kk a.toNat).getD []
def misA (n : Int) (cam : List Int) (kk : List (List Int)) (one tr : List Int) (m : MM) : List (List Int) := m.map fun z => cspot cam (dO n cam one kk z.1) (dO n cam tr kk z.2)
def misF (n : Int) (cam : List Int) (kk : List (List Int)) (tr : List Int) (m : MM) : List (Int × List Int) := (seenI n cam tr 0 kk).filter fun z => !decide (z.1 ∈ m.map (·.2))
def misB (n : Int) (cam : List Int) (kk : List (List Int)) (tr : List Int) (m : MM) : List (List Int) := (misF n cam kk tr m).map fun z => cspot cam z.2 z.2
def misG (W : List Int) (m : MM) (k : Nat) : List Int := (W.filter fun x => !decide (x ∈ m.map (·.1))).drop k
def misC (n : Int) (cam : List Int) (kk : List (List Int)) (one : List Int) (W : List Int) (m : MM) (k : Nat) : List (List Int) := (misG W m k).map (dO n cam one kk)
def misL (n : Int) (cam : List Int) (kk : List (List Int)) (one tr : List Int) (W : List Int) (m : MM) (k : Nat) : List (List Int) := misA n cam kk one tr m ++ misB n cam kk tr m ++ misC n cam kk one W m k
theorem dO_eq {n : Int} {cam at_ : List Int} {kk : List (List Int)} {a : Nat} {d : List Int} (h : sO n cam at_ kk a = some d) : dO n cam at_ kk (a : Int) = d := by
  unfold dO
  rw [Int.toNat_natCast, h]
  rfl
theorem seen_at {n : Int} {cam at_ : List Int} {kk : List (List Int)} {z : Int × List Int} (h : z ∈ seenI n cam at_ 0 kk) : ∃ a : Nat, z.1 = (a : Int) ∧ a < kk.length ∧ sO n cam at_ kk a = some z.2 := by
  have h0 := seenI_ge n cam at_ kk 0 z h
  have h1 := seenI_lt n cam at_ kk 0 z h
  obtain ⟨m, hm⟩ := Int.eq_ofNat_of_zero_le (show 0 ≤ z.1 by omega)
  refine ⟨m, hm, by omega, ?_⟩
  unfold sO
  rw [← atK_seen0 n cam at_ kk m]
  have e := atK_of_mem (seenI_asc n cam at_ kk 0) h
  rw [show z.1 = (m : Int) from hm] at e
  exact e
theorem edge_at {n : Int} {cam : List Int} {kk : List (List Int)} {one tr : List Int} {m : MM} (hM : Mt (tP (tblN n cam kk one tr)) m) {z : Int × Int} (hz : z ∈ m) :
    ∃ a s : Nat, z.1 = (a : Int) ∧ z.2 = (s : Int) ∧ a < kk.length ∧ s < kk.length ∧ ∃ d e, sO n cam one kk a = some d ∧ sO n cam tr kk s = some e ∧ nearB cam d e = true := by
  have h := linksP_mem.mpr (hM.ed _ _ (lk_mem hM.nd hz))
  unfold linksP at h
  obtain ⟨a, ha, h⟩ := List.mem_flatMap.mp h
  obtain ⟨s, hs, h⟩ := List.mem_map.mp h
  injection h with e1 e2
  obtain ⟨hs1, hs2⟩ := List.mem_filter.mp hs
  refine ⟨a, s, e1.symm, e2.symm, List.mem_range.mp ha, List.mem_range.mp hs1, ?_⟩
  unfold lkN at hs2
  cases ed : sO n cam one kk a with
  | none => rw [ed] at hs2; cases hs2
  | some d =>
    cases ee : sO n cam tr kk s with
    | none => rw [ed, ee] at hs2; cases hs2
    | some e =>
      rw [ed, ee] at hs2
      exact ⟨d, e, rfl, rfl, hs2⟩
theorem sure_src {n r b g l : Int} {at_ : List Int} {kk : List (List Int)} {x : Int} (h : x ∈ sureN n [r, b, g, l] at_ kk) : ∃ z ∈ seenI n [r, b, g, l] at_ 0 kk, z.1 = x ∧ isSure r b g l z.2 = true := by
  have h' : x ∈ ((seenI n [r, b, g, l] at_ 0 kk).filter fun z => isSure r b g l z.2).map (·.1) := h
  obtain ⟨z, hz, e⟩ := List.mem_map.mp h'
  obtain ⟨h1, h2⟩ := List.mem_filter.mp hz
  exact ⟨z, h1, e, h2⟩
theorem sure_spot {r b g l : Int} {d : List Int} (b0 : 0 ≤ b) (g0 : 0 ≤ g) (hv : Vis r b g l d) (h : isSure r b g l d = true) : isSp [r, b, g, l] d ∧ fitS b g d d = true := by
  match d, hv, h with
  | [u, v, c], hv, h =>
    obtain ⟨v1, v2, v3, v4, v5, v6⟩ := hv
    have h' : (decide (iabs u ≤ r - b) && decide (iabs v ≤ r - b) && decide (l + g ≤ c)) = true := h
    simp only [Bool.and_eq_true, decide_eq_true_eq, iabs_le] at h'
    obtain ⟨⟨h1, h2⟩, h3⟩ := h'
    refine ⟨⟨u, v, c, rfl, ?_⟩, fitS_iff.mpr ?_⟩ <;> omega
/-- what the sighting is made of -/
structure Mis (n r b g l : Int) (kk : List (List Int)) (one tr : List Int) (W : List Int) (m : MM) : Prop where
  sky : isSky n kk [r, b, g, l] = true
  p1 : isPose n one = true
  p2 : isPose n tr = true
  mt : Mt (tP (tblN n [r, b, g, l] kk one tr)) m
  wn : W.Nodup
  sure : ∀ x ∈ W, x ∈ sureN n [r, b, g, l] one kk
  rows : ∀ a c, lk m a = some c → a ∈ W
section
variable {n r b g l : Int} {kk : List (List Int)} {one tr : List Int} {W : List Int} {m : MM} {k : Nat}
theorem Mis.cam (h : Mis n r b g l kk one tr W m) : 0 ≤ r ∧ 0 ≤ b ∧ 0 ≤ g ∧ l ≤ 9 ∧ kk.all (isStar n) = true := by
  obtain ⟨_, hs, _, _, hc⟩ := sky_parts h.sky
  obtain ⟨r', b', g', l', e, c⟩ := cam_form hc
  injection e with e1 e
  injection e with e2 e
  injection e with e3 e
  injection e with e4 e
  subst e1 e2 e3 e4
  exact ⟨c.1, c.2.2.1, c.2.2.2.2.1, c.2.2.2.2.2.2.2.1, hs⟩
theorem Mis.edge (h : Mis n r b g l kk one tr W m) {z : Int × Int} (hz : z ∈ m) : ∃ a s : Nat, z.1 = (a : Int) ∧ z.2 = (s : Int) ∧ a < kk.length ∧ s < kk.length ∧ ∃ d e c, sO n [r, b, g, l] one kk a = some d ∧ sO n [r, b, g, l] tr kk s = some e ∧
    cspot [r, b, g, l] (dO n [r, b, g, l] one kk z.1) (dO n [r, b, g, l] tr kk z.2) = c ∧ isSp [r, b, g, l] c ∧ fitS b g d c = true ∧ fitS b g e c = true := by
  obtain ⟨r0, b0, g0, l9, hs⟩ := h.cam
  obtain ⟨a, s, e1, e2, h1, h2, d, e, h3, h4, h5⟩ := edge_at h.mt hz
  have := cspot_ok b0 g0 r0 l9 (sO_vis h.p1 hs h3) (sO_vis h.p2 hs h4) h5
  refine ⟨a, s, e1, e2, h1, h2, d, e, _, h3, h4, rfl, ?_⟩
  rw [e1, e2, dO_eq h3, dO_eq h4]
  exact this
theorem Mis.own (h : Mis n r b g l kk one tr W m) {z : Int × List Int} (hz : z ∈ misF n [r, b, g, l] kk tr m) : ∃ a : Nat, z.1 = (a : Int) ∧ a < kk.length ∧ sO n [r, b, g, l] tr kk a = some z.2 ∧ isSp [r, b, g, l] (cspot [r, b, g, l] z.2 z.2) ∧ fitS b g z.2 (cspot [r, b, g, l] z.2 z.2) = true := by
  obtain ⟨r0, b0, g0, l9, hs⟩ := h.cam
  obtain ⟨a, h1, h2, h3⟩ := seen_at (List.mem_filter.mp hz).1
  have hv := sO_vis h.p2 hs h3
  have := cspot_ok b0 g0 r0 l9 hv hv (near_vis b0 g0 hv)
  exact ⟨a, h1, h2, h3, this.1, this.2.1⟩
theorem Mis.guide (h : Mis n r b g l kk one tr W m) {x : Int} (hx : x ∈ misG W m k) : x ∈ W ∧ x ∉ m.map (·.1) ∧ ∃ a : Nat, ∃ d, x = (a : Int) ∧ a < kk.length ∧ sO n [r, b, g, l] one kk a = some d ∧ dO n [r, b, g, l] one kk x = d ∧ isSp [r, b, g, l] d ∧ fitS b g d d = true := by
  obtain ⟨r0, b0, g0, l9, hs⟩ := h.cam
  have hx' := List.mem_of_mem_drop hx
  obtain ⟨hW, hn⟩ := List.mem_filter.mp hx'
  obtain ⟨z, hz, e, hsu⟩ := sure_src (h.sure x hW)
  obtain ⟨a, h1, h2, h3⟩ := seen_at hz
  have := sure_spot b0 g0 (sO_vis h.p1 hs h3) hsu
  refine ⟨hW, by simpa using hn, a, z.2, e ▸ h1, h2, h3, ?_, this⟩
  rw [← e, h1]
  exact dO_eq h3
theorem Mis.spots (h : Mis n r b g l kk one tr W m) : ∀ s ∈ misL n [r, b, g, l] kk one tr W m k, isSp [r, b, g, l] s := fun s hs => by
  rcases List.mem_append.mp hs with hs | hs
  · rcases List.mem_append.mp hs with hs | hs
    · obtain ⟨z, hz, rfl⟩ := List.mem_map.mp hs
      obtain ⟨_, _, _, _, _, _, _, _, _, _, _, rfl, e, _⟩ := h.edge hz
      exact e
    · obtain ⟨z, hz, rfl⟩ := List.mem_map.mp hs
      obtain ⟨_, _, _, _, e, _⟩ := h.own hz
      exact e
  · obtain ⟨x, hx, rfl⟩ := List.mem_map.mp hs
    obtain ⟨_, _, _, d, _, _, _, e, e2, _⟩ := h.guide hx
    rw [e]
    exact e2
theorem misF_nodup (h : Mis n r b g l kk one tr W m) : (m.map (·.2) ++ (misF n [r, b, g, l] kk tr m).map (·.1)).Nodup := by
  refine List.nodup_append.mpr ⟨h.mt.cn, (List.filter_sublist.map _).nodup (asc_nodup (seenI_asc n [r, b, g, l] tr kk 0)), fun x hx y hy e => ?_⟩
  obtain ⟨z, hz, rfl⟩ := List.mem_map.mp hy
  have := (List.mem_filter.mp hz).2
  rw [e] at hx
  rw [decide_eq_true hx] at this
  cases this
theorem misG_nodup (h : Mis n r b g l kk one tr W m) : (m.map (·.1) ++ misG W m k).Nodup := by
  refine List.nodup_append.mpr ⟨h.mt.nd, ((List.drop_sublist _ _).trans List.filter_sublist).nodup h.wn, fun x hx y hy e => ?_⟩
  exact (h.guide hy).2.1 (e ▸ hx)
theorem filt_split {α : Type} (p : α → Bool) : ∀ l : List α, (l.filter p).length + (l.filter fun x => !p x).length = l.length
  | [] => rfl
  | x :: l => by
    have := filt_split p l
    cases h : p x with
    | true =>
      rw [List.filter_cons_of_pos h, List.filter_cons_of_neg (by rw [h]; decide), List.length_cons, List.length_cons]
      omega
    | false =>
      rw [List.filter_cons_of_neg (by rw [h]; decide), List.filter_cons_of_pos (by rw [h]; decide), List.length_cons, List.length_cons]
      omega
theorem misG_len (h : Mis n r b g l kk one tr W m) : (misG W m k).length = W.length - m.length - k := by
  unfold misG
  rw [List.length_drop]
  have e := filt_split (fun x => decide (x ∈ m.map (·.1))) W
  have e2 := filter_all h.wn h.mt.nd h.rows
  rw [List.filter_congr fun x _ => has_keys h.mt.nd x] at e2
  omega
theorem mis_len (h : Mis n r b g l kk one tr W m) {f : Int} (hb : (W.length : Int) - m.length ≤ (k : Int) + f) (f0 : 0 ≤ f) : ((misL n [r, b, g, l] kk one tr W m k).length : Int) ≤ (kk.length : Int) + f := by
  have h1 := len_le_of_sub (m := (List.range kk.length).map Int.ofNat) (misF_nodup h) fun x hx => by
    rcases List.mem_append.mp hx with hx | hx
    · obtain ⟨z, hz, rfl⟩ := List.mem_map.mp hx
      obtain ⟨_, s, _, e, _, hs, _⟩ := h.edge hz
      exact List.mem_map.mpr ⟨s, List.mem_range.mpr hs, e.symm⟩
    · obtain ⟨z, hz, rfl⟩ := List.mem_map.mp hx
      obtain ⟨a, e, ha, _⟩ := h.own hz
      exact List.mem_map.mpr ⟨a, List.mem_range.mpr ha, e.symm⟩
  rw [List.length_append, List.length_map, List.length_map, List.length_map, List.length_range] at h1
  unfold misL misA misB misC
  rw [List.length_append, List.length_append, List.length_map, List.length_map, List.length_map, misG_len h]
  have := filter_all h.wn h.mt.nd h.rows
  have := List.length_filter_le (has m) W
  omega
theorem zip_fst {α : Type} (l : List α) (j : Nat) : (l.zipIdx j).map (·.1) = l := List.zipIdx_map_fst j l
theorem zip_at {α : Type} {l : List α} {j : Nat} {z : α × Nat} (h : z ∈ l.zipIdx j) : ∃ i, z.2 = j + i ∧ l[i]? = some z.1 := by
  obtain ⟨x, i⟩ := z
  obtain ⟨h1, h2⟩ := List.mem_zipIdx_iff_le_and_getElem?_sub.mp h
  exact ⟨i - j, (by show i = _; omega), h2⟩
theorem Mis.match_tr (h : Mis n r b g l kk one tr W m) {sp : List (List Int)} (hp : sp.Perm (misL n [r, b, g, l] kk one tr W m k)) :
    ∃ q : MM, Mt (pOf (fitTo n [r, b, g, l] kk tr sp kk.length)) q ∧ q.map (·.1) = m.map (·.2) ++ (misF n [r, b, g, l] kk tr m).map (·.1) ∧ ∀ c ∈ q.map (·.2), c ∈ (List.range sp.length).map Int.ofNat := by
  have := fit_match (n := n) (kk := kk) (at_ := tr) hp ((m.map (·.2) ++ (misF n [r, b, g, l] kk tr m).map (·.1)).zipIdx) (by rw [zip_fst]; exact misF_nodup h) (by rw [List.zipIdx_map_snd]; exact List.nodup_range') fun z hz => by
    obtain ⟨i, e, hi⟩ := zip_at hz
    have e : z.2 = i := by omega
    rw [e]
    by_cases hl : i < m.length
    · rw [List.getElem?_append_left (by rw [List.length_map]; exact hl), List.getElem?_map] at hi
      obtain ⟨y, hy, ey⟩ := Option.map_eq_some_iff.mp hi
      obtain ⟨a, s, e1, e2, h1, h2, d, e', c, h3, h4, ec, h5, h6, h7⟩ := h.edge (List.mem_of_getElem? hy)
      refine ⟨s, ey.symm.trans e2, h2, e', c, h4, ?_, h7⟩
      unfold misL misA
      rw [List.append_assoc, List.getElem?_append_left (by rw [List.length_map]; exact hl), List.getElem?_map, hy]
      exact congrArg some ec
    · rw [List.getElem?_append_right (by rw [List.length_map]; omega), List.length_map, List.getElem?_map] at hi
      obtain ⟨y, hy, ey⟩ := Option.map_eq_some_iff.mp hi
      obtain ⟨a, h1, h2, h3, h4, h5⟩ := h.own (List.mem_of_getElem? hy)
      refine ⟨a, ey.symm.trans h1, h2, y.2, _, h3, ?_, h5⟩
      have hlt := (List.getElem?_eq_some_iff.mp hy).1
      unfold misL misA misB
      rw [List.append_assoc, List.getElem?_append_right (by rw [List.length_map]; omega), List.length_map, List.getElem?_append_left (by rw [List.length_map]; exact hlt), List.getElem?_map, hy]
      rfl
  rw [zip_fst] at this
  exact this
theorem Mis.match_one (h : Mis n r b g l kk one tr W m) {sp : List (List Int)} (hp : sp.Perm (misL n [r, b, g, l] kk one tr W m k)) :
    ∃ q : MM, Mt (pOf (fitTo n [r, b, g, l] kk one sp kk.length)) q ∧ q.map (·.1) = m.map (·.1) ++ misG W m k := by
  have hz2 : ∀ {α β : Type} (l : List α) (l' : List β) (i j : Nat), i + l.length ≤ j → (((l.zipIdx i).map (·.2)) ++ (l'.zipIdx j).map (·.2)).Nodup := fun l l' i j hij => by
    rw [List.zipIdx_map_snd, List.zipIdx_map_snd]
    refine List.nodup_append.mpr ⟨List.nodup_range', List.nodup_range', fun x hx y hy e => ?_⟩
    have a := List.mem_range'_1.mp hx
    have b := List.mem_range'_1.mp hy
    omega
  have := fit_match (n := n) (kk := kk) (at_ := one) hp ((m.map (·.1)).zipIdx ++ (misG W m k).zipIdx (m.length + (misF n [r, b, g, l] kk tr m).length)) (by rw [List.map_append, zip_fst, zip_fst]; exact misG_nodup h)
    (by rw [List.map_append]; exact hz2 _ _ _ _ (by rw [List.length_map]; omega)) fun z hz => by
    rcases List.mem_append.mp hz with hz | hz
    · obtain ⟨i, e, hi⟩ := zip_at hz
      have e : z.2 = i := by omega
      rw [e]
      rw [List.getElem?_map] at hi
      obtain ⟨y, hy, ey⟩ := Option.map_eq_some_iff.mp hi
      have hl := (List.getElem?_eq_some_iff.mp hy).1
      obtain ⟨a, s, e1, e2, h1, h2, d, e', c, h3, h4, ec, h5, h6, h7⟩ := h.edge (List.mem_of_getElem? hy)
      refine ⟨a, ey.symm.trans e1, h1, d, c, h3, ?_, h6⟩
      unfold misL misA
      rw [List.append_assoc, List.getElem?_append_left (by rw [List.length_map]; exact hl), List.getElem?_map, hy]
      exact congrArg some ec
    · obtain ⟨i, e, hi⟩ := zip_at hz
      obtain ⟨_, _, a, d, h1, h2, h3, h4, h5, h6⟩ := h.guide (List.mem_of_getElem? hi)
      refine ⟨a, h1, h2, d, d, h3, ?_, h6⟩
      unfold misL misA misB misC
      rw [List.getElem?_append_right (by rw [List.length_append, List.length_map, List.length_map]; omega), List.length_append, List.length_map, List.length_map, e,
        show m.length + (misF n [r, b, g, l] kk tr m).length + i - (m.length + (misF n [r, b, g, l] kk tr m).length) = i by omega, List.getElem?_map, hi]
      exact congrArg some h4
  rw [List.map_append, zip_fst, zip_fst] at this
  obtain ⟨q, h1, h2, _⟩ := this
  exact ⟨q, h1, h2⟩
/-- none of the sure stars of the true attitude is missing -/
theorem Mis.need (h : Mis n r b g l kk one tr W m) {sp : List (List Int)} (hp : sp.Perm (misL n [r, b, g, l] kk one tr W m k)) {o : MM} (ho : KSt (pOf (fitTo n [r, b, g, l] kk tr sp kk.length)) (sureN n [r, b, g, l] tr kk) o) :
    ((sureN n [r, b, g, l] tr kk).length : Int) - o.length ≤ 0 := by
  obtain ⟨q, hq, e, _⟩ := h.match_tr hp
  have h1 := (kst_best ho (sureN_nodup _ _ _ _)).1 q hq
  have h2 := held_ge (W := sureN n [r, b, g, l] tr kk) hq.nd (sureN_nodup _ _ _ _) fun x hx => ⟨hx, by
    rw [e]
    obtain ⟨z, hz, ez, _⟩ := sure_src hx
    by_cases ht : x ∈ m.map (·.2)
    · exact List.mem_append_left _ ht
    · exact List.mem_append_right _ (List.mem_map.mpr ⟨z, List.mem_filter.mpr ⟨hz, by rw [ez, decide_eq_false ht]; rfl⟩, ez⟩)⟩
  omega
/-- at most so many of the spots are false ones -/
theorem Mis.more (h : Mis n r b g l kk one tr W m) {sp : List (List Int)} (hp : sp.Perm (misL n [r, b, g, l] kk one tr W m k)) {o : MM} (ho : KSt (pOf (swp (fitTo n [r, b, g, l] kk tr sp kk.length))) ((List.range sp.length).map Int.ofNat) o)
    {f : Int} (hb : (W.length : Int) - m.length ≤ (k : Int) + f) (f0 : 0 ≤ f) : (sp.length : Int) - o.length ≤ f := by
  obtain ⟨q, hq, e, hc⟩ := h.match_tr hp
  have hn : ((List.range sp.length).map Int.ofNat).Nodup := by
    rw [List.Nodup, List.pairwise_map]
    exact List.nodup_range.imp fun hab e => hab (Int.ofNat.inj e)
  have hs := mt_swp (P' := pOf (swp (fitTo n [r, b, g, l] kk tr sp kk.length))) hq fun r c hrc => pOf_swp hrc
  have h1 := (kst_best ho hn).1 (swp q) hs
  have h2 := held_ge (W := (List.range sp.length).map Int.ofNat) (X := q.map (·.2)) hs.nd hq.cn fun x hx => ⟨hc x hx, by rw [swp_keys]; exact hx⟩
  have h3 := congrArg List.length e
  rw [List.length_map, List.length_append, List.length_map, List.length_map] at h3
  have h4 := hp.length_eq
  unfold misL misA misB misC at h4
  rw [List.length_append, List.length_append, List.length_map, List.length_map, List.length_map, misG_len h] at h4
  rw [List.length_map] at h2
  omega
/-- as many of the guides as may be are missing -/
theorem Mis.less (h : Mis n r b g l kk one tr W m) {sp : List (List Int)} (hp : sp.Perm (misL n [r, b, g, l] kk one tr W m k)) {o : MM} (ho : KSt (pOf (fitTo n [r, b, g, l] kk one sp kk.length)) W o) :
    (W.length : Int) - o.length ≤ k := by
  obtain ⟨q, hq, e⟩ := h.match_one hp
  have h1 := (kst_best ho h.wn).1 q hq
  have h2 := held_ge (W := W) hq.nd (misG_nodup (k := k) h) fun x hx => ⟨by
    rcases List.mem_append.mp hx with hx | hx
    · obtain ⟨z, hz, rfl⟩ := List.mem_map.mp hx
      exact h.rows _ _ (lk_mem h.mt.nd hz)
    · exact (h.guide hx).1, by rw [e]; exact hx⟩
  rw [List.length_append, List.length_map, misG_len h] at h2
  omega
end
end Sw
namespace Sw
open PySem PySem.Spec PyProof.Rows L2
theorem sub_back {a b : List Int} (ha : a.Nodup) (h : ∀ x ∈ a, x ∈ b) (hl : b.length ≤ a.length) : ∀ x ∈ b, x ∈ a := fun x hx => by
  by_cases hxa : x ∈ a
  · exact hxa
  · have := len_le_of_sub (l := x :: a) (m := b) (List.nodup_cons.mpr ⟨hxa, ha⟩) fun y hy => (List.mem_cons.mp hy).elim (fun e => e ▸ hx) (h y)
    rw [List.length_cons] at this
    omega
/-- `matching` without wanted columns -/
def spMatchE (K : PySem.W.Frag) : Sp := fun vs H Q _ => ∃ (t rl cl : Addr) (tb : Tups) (W : List Int), vs = [.ref t, .ref rl, .ref cl] ∧ TabAt K H t tb ∧ TabOk (keys tb) ∧ SqL K H rl (W.map V.int) ∧ W.Nodup ∧ (∀ r ∈ W, 0 ≤ r ∧ r < (tb.length : Int)) ∧ SqL K H cl [] ∧
  ∀ (H' : Hp) (l : Addr) (ks : Tups) (g : MM), Same H H' → H' l = some (.lst (refs ks)) → TupsAt K H' ks → keys ks = pairs2 g → Mt (tP (keys tb)) g → MaxOn (tP (keys tb)) W g → (∀ r c, lk g r = some c → r ∈ W) → Q (.ref l) H'
def spComSpot (K : PySem.W.Frag) (C : Addr) : Sp := fun vs H Q _ => ∃ (p u v : Addr) (n : Int) (st : List V) (r b g l : Int) (d e : List Int), vs = [.ref p, .ref u, .ref v] ∧ SkyAt K C H p n st [r, b, g, l] ∧ SqT K H u (d.map V.int) ∧ SqT K H v (e.map V.int) ∧ d.length = 3 ∧ e.length = 3 ∧
  ∀ (H' : Hp) (t : Addr), Same H H' → SqT K H' t ((cspot [r, b, g, l] d e).map V.int) → Q (.ref t) H'
/-- some numbers of stars -/
def Nums (ks : Tups) (L : List Int) : Prop := L.length < 60 ∧ ∀ j ∈ L, 0 ≤ j ∧ j < (ks.length : Int)
def spLotOf (K : PySem.W.Frag) (C : Addr) : Sp := fun vs H Q _ => ∃ (p gl : Addr) (n : Int) (ks : Tups) (cam L : List Int), vs = [.ref p, .ref gl] ∧ SkyS K C H p n ks cam ∧ ks.length ≤ 20 ∧ SqL K H gl (L.map V.int) ∧ Nums ks L ∧
  ∀ (H' : Hp) (l : Addr) (N : List Int), Same H H' → H' l = some (.lst (N.map V.int)) → (∀ x, x ∈ N ↔ x ∈ L) → Q (.ref l) H'
def heldN (n : Int) (cam : List Int) (kk : List (List Int)) (one L : List Int) : List Int := (sureN n cam one kk).filter fun x => decide (x ∈ L)
def spLinksG (K : PySem.W.Frag) (C : Addr) : Sp := fun vs H Q _ => ∃ (p gl q r : Addr) (n : Int) (ks : Tups) (cam one tr L : List Int), vs = [.ref p, .ref gl, .ref q, .ref r] ∧ SkyS K C H p n ks cam ∧ isSky n (keys ks) cam = true ∧ SqL K H gl (L.map V.int) ∧ Nums ks L ∧ SqT K H q (one.map V.int) ∧ isPose n one = true ∧ SqT K H r (tr.map V.int) ∧ isPose n tr = true ∧
  ∀ (H' : Hp) (t tt wl : Addr) (tb : Tups), Same H H' → SqT K H' t [.ref tt, .ref wl] → TabAt K H' tt tb → keys tb = tblN n cam (keys ks) one tr → H' wl = some (.lst ((heldN n cam (keys ks) one L).map V.int)) → Q (.ref t) H'
def MisM (n : Int) (cam : List Int) (kk : List (List Int)) (one tr W : List Int) (g : MM) : Prop := Mt (tP (tblN n cam kk one tr)) g ∧ MaxOn (tP (tblN n cam kk one tr)) W g ∧ ∀ r c, lk g r = some c → r ∈ W
def spMisl (K : PySem.W.Frag) (C : Addr) : Sp := fun vs H Q _ => ∃ (p gl q r : Addr) (n mi fa : Int) (ks : Tups) (cam one tr L : List Int), vs = [.ref p, .ref gl, .ref q, .ref r, .int mi, .int fa] ∧ SkyS K C H p n ks cam ∧ isSky n (keys ks) cam = true ∧ SqL K H gl (L.map V.int) ∧ Nums ks L ∧ SqT K H q (one.map V.int) ∧ isPose n one = true ∧ SqT K H r (tr.map V.int) ∧ isPose n tr = true ∧
  0 ≤ mi ∧ mi ≤ 100 ∧ 0 ≤ fa ∧ fa ≤ 100 ∧
  (∀ (H' : Hp) (g : MM), Same H H' → MisM n cam (keys ks) one tr (heldN n cam (keys ks) one L) g → mi + fa < ((heldN n cam (keys ks) one L).length : Int) - g.length → Q .non H') ∧
  ∀ (H' : Hp) (g : MM) (t : Addr) (es : Tups), Same H H' → MisM n cam (keys ks) one tr (heldN n cam (keys ks) one L) g → ((heldN n cam (keys ks) one L).length : Int) - g.length ≤ mi + fa → SqT K H' t (refs es) → TupsAt K H' es →
    (keys es).Perm (misL n cam (keys ks) one tr (heldN n cam (keys ks) one L) g mi.toNat) → AscL (keys es) → Q (.ref t) H'
/-! ### of the law -/
def spIsSpotL (K : PySem.W.Frag) : Sp := fun vs H Q _ => ∃ (t z : Addr) (n : Int) (ks : Tups) (cam s : List Int), vs = [.ref t, .ref z] ∧ PartsAt K H t n ks cam ∧ isCam n cam = true ∧ SqT K H z (s.map V.int) ∧ isSp cam s ∧ ∀ H', Same H H' → Q (.bl true) H'
def spIsSight (K : PySem.W.Frag) : Sp := fun vs H Q _ => ∃ (t z : Addr) (n f : Int) (ks es : Tups) (cam : List Int), vs = [.ref t, .ref z, .int f] ∧ PartsAt K H t n ks cam ∧ isCam n cam = true ∧ SqT K H z (refs es) ∧ TupsAt K H es ∧ (∀ s ∈ keys es, isSp cam s) ∧ AscL (keys es) ∧ es.length ≤ 60 ∧ (es.length : Int) ≤ (ks.length : Int) + f ∧ ∀ H', Same H H' → Q (.bl true) H'
def spNeedL (K : PySem.W.Frag) : Sp := fun vs H Q _ => ∃ (pp pa pt : Addr) (n : Int) (ks ss : Tups) (cam at_ : List Int), vs = [.ref pp, .ref pa, .ref pt] ∧ PartsAt K H pp n ks cam ∧ isSky n (keys ks) cam = true ∧ SqT K H pa (at_.map V.int) ∧ isPose n at_ = true ∧ SqT K H pt (refs ss) ∧ TupsAt K H ss ∧ Spots3 (keys ss) ∧ ss.length ≤ 20 ∧
  ∀ (H' : Hp) (t : Addr) (o1 o2 : MM), Same H H' → KSt (pOf (fitTo n cam (keys ks) at_ (keys ss) (keys ks).length)) (sureN n cam at_ (keys ks)) o1 → KSt (pOf (swp (fitTo n cam (keys ks) at_ (keys ss) (keys ks).length))) ((List.range (keys ss).length).map Int.ofNat) o2 →
    SqT K H' t [.int (((sureN n cam at_ (keys ks)).length : Int) - o1.length), .int (((keys ss).length : Int) - o2.length)] → Q (.ref t) H'
def spLetsL (K : PySem.W.Frag) : Sp := fun vs H Q _ => ∃ (pp pa pt : Addr) (n mi fa : Int) (ks ss : Tups) (cam at_ : List Int), vs = [.ref pp, .ref pa, .ref pt, .int mi, .int fa] ∧ PartsAt K H pp n ks cam ∧ isSky n (keys ks) cam = true ∧ SqT K H pa (at_.map V.int) ∧ isPose n at_ = true ∧ SqT K H pt (refs ss) ∧ TupsAt K H ss ∧ Spots3 (keys ss) ∧ ss.length ≤ 20 ∧
  (∀ o1 : MM, KSt (pOf (fitTo n cam (keys ks) at_ (keys ss) (keys ks).length)) (sureN n cam at_ (keys ks)) o1 → ((sureN n cam at_ (keys ks)).length : Int) - o1.length ≤ mi) ∧
  (∀ o2 : MM, KSt (pOf (swp (fitTo n cam (keys ks) at_ (keys ss) (keys ks).length))) ((List.range (keys ss).length).map Int.ofNat) o2 → ((keys ss).length : Int) - o2.length ≤ fa) ∧
  ∀ (H' : Hp), Same H H' → Q (.bl true) H'
end Sw
namespace Sw
open PySem PySem.Spec PyProof.Rows L2
theorem ty_sqT {K : PySem.W.Frag} {H : Hp} {a : Addr} {xs : List V} (h : SqT K H a xs) : TyX K H (.ref a) (.type "tuple") := by
  rcases h with (h | ⟨o, h⟩) | ⟨o, its, n, e, c, _⟩
  · exact .base (.tup h)
  · exact .fTuple h
  · exact .kTuple e c
end Sw
namespace Sw
open PySem PySem.Spec PyProof.Rows L2
theorem vis3 {r b g l : Int} {d : List Int} (h : Vis r b g l d) : d.length = 3 := by
  match d, h with
  | [_, _, _], _ => rfl
theorem sqT_frz {K : PySem.W.Frag} {H : Hp} {d p : Addr} {od : Obj} {kvs : List (Key × V)} {o : HO} {ys : List V} (hl : H d = some (.frz od (.dK kvs))) (h : SqT K H p ys) : SqT K (upd H d o) p ys := by
  rcases h with (h | ⟨u, h⟩) | h
  · exact .inl (.inl (by rw [upd_ne (fun z => by rw [z, hl] at h; cases h)]; exact h))
  · exact .inl (.inr ⟨u, by rw [upd_ne (fun z => by rw [z, hl] at h; cases h)]; exact h⟩)
  · exact .inr h
theorem sky_dk {K : PySem.W.Frag} {C : Addr} {H : Hp} {p d : Addr} {n : Int} {st : List V} {cam : List Int} {kvs : List (Key × V)} {o : HO} (hl : H d = some (.dK kvs)) (h : SkyAt K C H p n st cam) : SkyAt K C (upd H d o) p n st cam := by
  obtain ⟨dx, ts, tc, h1, h2, h3⟩ := h
  exact ⟨dx, ts, tc, by rw [upd_ne (fun z => by rw [z, hl] at h1; cases h1)]; exact h1, sqT_dk hl h2, sqT_dk hl h3⟩
theorem inV_not (x : Int) (ns : List Int) : (if true then !inV (V.int x) (ns.map V.int) else inV (V.int x) (ns.map V.int)) = !decide (x ∈ ns) := by
  rw [if_pos rfl, inV_ints]
end Sw
namespace Sw
open PySem PySem.Spec PyProof.Rows L2
theorem mis_best {P : Int → List Int} {W : List Int} {g o : MM} (hW : W.Nodup) (hM : Mt P g) (hX : MaxOn P W g) (hr : ∀ r c, lk g r = some c → r ∈ W) (h : KSt P W o) : g.length = o.length := by
  obtain ⟨h1, h2, h3⟩ := kst_best h hW
  have a := h1 g hM
  have b := hX _ h2
  rw [filter_all hW hM.nd hr] at a b
  omega
theorem rNe_bl {a b : Bool} {H : Hp} {Q : VK} (e : a = b) (q : Q (.bl false) H) : rNe (.bl a) (.bl b) H Q := ⟨rfl, by rw [e, decide_eq_true rfl]; exact q⟩
end Sw
set_option Elab.async false
set_option linter.all false
set_option maxRecDepth 100000
set_option maxHeartbeats 4000000
/-! All attitudes of a sky, ascending. -/
namespace Sw
open PySem PySem.Spec PyProof.Rows L2
def attY (x y k : Nat) : List (List Int) := (List.range k).map fun q : Nat => [(x : Int), (y : Int), (q : Int)]
def attX (x j : Nat) : List (List Int) := (List.range j).flatMap fun y : Nat => attY x y 4
def attsI (n i : Nat) : List (List Int) := (List.range i).flatMap fun x : Nat => attX x n
theorem attY_succ (x y k : Nat) : attY x y (k + 1) = attY x y k ++ [[(x : Int), (y : Int), (k : Int)]] := by
  unfold attY
  rw [List.range_succ, List.map_append]
  rfl
theorem attX_succ (x j : Nat) : attX x (j + 1) = attX x j ++ attY x j 4 := by
  unfold attX
  rw [List.range_succ, List.flatMap_append]
  simp
theorem attsI_succ (n i : Nat) : attsI n (i + 1) = attsI n i ++ attX i n := by
  unfold attsI
  rw [List.range_succ, List.flatMap_append]
  simp
def spAtts (K : PySem.W.Frag) (C : Addr) : Sp := fun vs H Q _ => ∃ (p : Addr) (n : Int) (st : List V) (cam : List Int), vs = [.ref p] ∧ SkyAt K C H p n st cam ∧ 0 ≤ n ∧ n ≤ 9 ∧
  ∀ (H' : Hp) (l : Addr) (ks : Tups), Same H H' → H l = none → H' l = some (.lst (refs ks)) → TupsAt K H' ks → keys ks = attsI n.toNat n.toNat → Q (.ref l) H'
end Sw
set_option Elab.async false
set_option linter.all false
/-! Sightings that confuse two attitudes (own work; k26, k23). -/
namespace L2
open PySem PySem.Spec PyProof.Rows
open Sw (Tups refs keys TupsAt dTI dp_tups eqv_ti)
theorem plain_ints : ∀ ns : List Int, PyData.plainAll (ns.map PyData.int) = true
  | [] => rfl
  | n :: ns => by
    show (PyData.plain (.int n) && PyData.plainAll (ns.map PyData.int)) = true
    rw [plain_ints ns]
    rfl
theorem plain_ti (z : List Int) : (dTI z).plain = true := plain_ints z
theorem plain_tis : ∀ kk : List (List Int), PyData.plainAll (kk.map dTI) = true
  | [] => rfl
  | z :: kk => by
    show (PyData.plain (dTI z) && PyData.plainAll (kk.map dTI)) = true
    rw [plain_tis kk, plain_ti]
    rfl
theorem count_tis (kk : List (List Int)) (k : List Int) : ((kk.map dTI).countP fun y => PyData.eqv y (dTI k)) = kk.count k := by
  induction kk with
  | nil => rfl
  | cons q r ih =>
    rw [List.map_cons, List.countP_cons, List.count_cons, ih, eqv_ti]
    congr 1
    by_cases h : q = k
    · rw [decide_eq_true h, h]
      simp
    · rw [decide_eq_false h]
      simp [h]
/-- l.count(t), a list of tuples of integers -/
def rCntT (K : PySem.W.Frag) : V → List V → Hp → VK → Prop := fun x xs H Q => ∃ (a : Addr) (y : V) (ks : Tups) (k : List Int), x = .ref a ∧ xs = [y] ∧ SqL K H a (refs ks) ∧ TupsAt K H ks ∧ Dp K H y (dTI k) ∧ Q (.int ((keys ks).count k : Nat)) H
theorem mt_lcountT {X : Cx} (hu : X.A.units + 65 < cLine) : MtR X "list.count" (rCntT X.K) := by
  intro pins s σ H x xs v us Q I rx rxs h
  obtain ⟨a, y, ks, k, rfl, rfl, hs, ht, hy, q⟩ := h
  cases rx
  obtain ⟨u, rfl, ru⟩ := rxs.one
  obtain ⟨bs, r1⟩ := Dp.reads I (dTI k) y u hy ru
  obtain ⟨its, rv, pl, hz⟩ := I.list hs
  obtain ⟨as, h4⟩ := Dp.readsAll I _ _ its (dp_tups ht) rv
  refine SeqAt.count_list_data pl.isList (show ReadsAll s.heap its.toArray.toList ((keys ks).map dTI) as from h4) r1 (plain_tis _) (plain_ti _) ?_ ⟨.int ((keys ks).count k : Nat), H, I.tok _, ⟨s.toks, by rw [count_tis]⟩, q⟩
  have hd : (dTI k).depth ≤ 1 := by
    show PyData.depthAll (k.map .int) + 1 ≤ 1
    rw [depth_ints k]
    exact Nat.le_refl _
  omega
theorem mt_lcountTN {X : Cx} {K : PySem.W.Frag} (hu : X.A.units + 65 < cLine) (h : X.K = K := by rfl) : MtR X "list.count" (rCntT K) := h ▸ mt_lcountT hu
end L2
namespace Sw
open PySem PySem.Spec PyProof.Rows L2
theorem cam_of {n r b g l : Int} {kk : List (List Int)} (h : isSky n kk [r, b, g, l] = true) : 0 ≤ r ∧ 0 ≤ b ∧ 0 ≤ g ∧ l ≤ 9 ∧ kk.all (isStar n) = true := by
  obtain ⟨_, hs, _, _, hc⟩ := sky_parts h
  obtain ⟨r', b', g', l', e, c⟩ := cam_form hc
  injection e with e1 e
  injection e with e2 e
  injection e with e3 e
  injection e with e4 e
  subst e1 e2 e3 e4
  exact ⟨c.1, c.2.2.1, c.2.2.2.2.1, c.2.2.2.2.2.2.2.1, hs⟩
/-- one side of a sighting -/
theorem side_num {n r b g l : Int} {kk : List (List Int)} {at_ : List Int} {sp L : List (List Int)} (hp : sp.Perm L) (Z : List (Int × Nat)) (h1 : (Z.map (·.1)).Nodup) (h2 : (Z.map (·.2)).Nodup)
    (h3 : ∀ z ∈ Z, ∃ m : Nat, z.1 = (m : Int) ∧ m < kk.length ∧ ∃ d s, sO n [r, b, g, l] at_ kk m = some d ∧ L[z.2]? = some s ∧ fitS b g d s = true) {S : List Int} (hS : S.Nodup) {k : Nat} (hc : S.length ≤ (S.filter fun x => decide (x ∈ Z.map (·.1))).length + k) :
    (∀ o : MM, KSt (pOf (fitTo n [r, b, g, l] kk at_ sp kk.length)) S o → (S.length : Int) - o.length ≤ k) ∧
    ∀ o : MM, KSt (pOf (swp (fitTo n [r, b, g, l] kk at_ sp kk.length))) ((List.range sp.length).map Int.ofNat) o → Z.length ≤ o.length := by
  obtain ⟨q, hq, e, hcols⟩ := fit_match (n := n) (kk := kk) (at_ := at_) hp Z h1 h2 h3
  refine ⟨fun o ho => ?_, fun o ho => ?_⟩
  · have a := (kst_best ho hS).1 q hq
    rw [List.filter_congr fun x _ => has_keys hq.nd x, e] at a
    omega
  · have hn : ((List.range sp.length).map Int.ofNat).Nodup := by
      rw [List.Nodup, List.pairwise_map]
      exact List.nodup_range.imp fun hab e => hab (Int.ofNat.inj e)
    have hs := mt_swp (P' := pOf (swp (fitTo n [r, b, g, l] kk at_ sp kk.length))) hq fun r c hrc => pOf_swp hrc
    have a := (kst_best ho hn).1 (swp q) hs
    have b := held_ge (W := (List.range sp.length).map Int.ofNat) (X := q.map (·.2)) hs.nd hq.cn fun x hx => ⟨hcols x hx, by rw [swp_keys]; exact hx⟩
    have c := congrArg List.length e
    rw [List.length_map, List.length_map] at c
    rw [List.length_map] at b
    omega
/-- what covers a lot but for some -/
theorem cover {S V : List Int} (hS : S.Nodup) {k : Nat} : S.length ≤ (S.filter fun x => decide (x ∈ V ++ (S.filter fun x => !decide (x ∈ V)).drop k)).length + k := by
  have a := filt_split (fun x => decide (x ∈ V)) S
  have h := len_le_of_sub (l := (S.filter fun x => decide (x ∈ V)) ++ (S.filter fun x => !decide (x ∈ V)).drop k) (m := S.filter fun x => decide (x ∈ V ++ (S.filter fun x => !decide (x ∈ V)).drop k)) (by
    refine List.nodup_append.mpr ⟨hS.filter _, ((List.drop_sublist _ _).trans List.filter_sublist).nodup hS, fun x hx y hy e => ?_⟩
    have h1 := of_decide_eq_true (List.mem_filter.mp hx).2
    have h2 := (List.mem_filter.mp (List.mem_of_mem_drop hy)).2
    rw [← e, decide_eq_true h1] at h2
    cases h2) fun x hx => by
    rcases List.mem_append.mp hx with hx | hx
    · obtain ⟨q1, q2⟩ := List.mem_filter.mp hx
      exact List.mem_filter.mpr ⟨q1, decide_eq_true (List.mem_append_left _ (of_decide_eq_true q2))⟩
    · exact List.mem_filter.mpr ⟨(List.mem_filter.mp (List.mem_of_mem_drop hx)).1, decide_eq_true (List.mem_append_right _ hx)⟩
  rw [List.length_append, List.length_drop] at h
  omega
def confL (n : Int) (cam : List Int) (kk : List (List Int)) (one other : List Int) (m : MM) (k1 k2 : Nat) : List (List Int) :=
  misA n cam kk one other m ++ (misG (sureN n cam one kk) m k1).map (dO n cam one kk) ++ (misG (sureN n cam other kk) (swp m) k2).map (dO n cam other kk)
section
variable {n r b g l : Int} {kk : List (List Int)} {one other : List Int} {m : MM} {k : Nat}
theorem own_at {at_ : List Int} {C : MM} (hsky : isSky n kk [r, b, g, l] = true) (hp : isPose n at_ = true) {x : Int} (hx : x ∈ misG (sureN n [r, b, g, l] at_ kk) C k) : x ∉ C.map (·.1) ∧ ∃ a : Nat, ∃ d, x = (a : Int) ∧ a < kk.length ∧ sO n [r, b, g, l] at_ kk a = some d ∧ dO n [r, b, g, l] at_ kk x = d ∧ isSp [r, b, g, l] d ∧ fitS b g d d = true := by
  obtain ⟨r0, b0, g0, l9, hs⟩ := cam_of hsky
  obtain ⟨hW, hn⟩ := List.mem_filter.mp (List.mem_of_mem_drop hx)
  obtain ⟨z, hz, e, hsu⟩ := sure_src hW
  obtain ⟨a, h1, h2, h3⟩ := seen_at hz
  have := sure_spot b0 g0 (sO_vis hp hs h3) hsu
  refine ⟨by simpa using hn, a, z.2, e ▸ h1, h2, h3, ?_, this⟩
  rw [← e, h1]
  exact dO_eq h3
theorem own_nodup {at_ : List Int} {C : MM} (hsky : isSky n kk [r, b, g, l] = true) (hp : isPose n at_ = true) (hn : (C.map (·.1)).Nodup) : (C.map (·.1) ++ misG (sureN n [r, b, g, l] at_ kk) C k).Nodup := by
  refine List.nodup_append.mpr ⟨hn, ((List.drop_sublist _ _).trans List.filter_sublist).nodup (sureN_nodup _ _ _ _), fun x hx y hy e => ?_⟩
  exact (own_at hsky hp hy).1 (e ▸ hx)
structure Conf (n r b g l : Int) (kk : List (List Int)) (one other : List Int) (m : MM) : Prop where
  sky : isSky n kk [r, b, g, l] = true
  p1 : isPose n one = true
  p2 : isPose n other = true
  mt : Mt (tP (tblN n [r, b, g, l] kk one other)) m
theorem Conf.edge (h : Conf n r b g l kk one other m) {z : Int × Int} (hz : z ∈ m) : ∃ a s : Nat, z.1 = (a : Int) ∧ z.2 = (s : Int) ∧ a < kk.length ∧ s < kk.length ∧ ∃ d e c, sO n [r, b, g, l] one kk a = some d ∧ sO n [r, b, g, l] other kk s = some e ∧
    cspot [r, b, g, l] (dO n [r, b, g, l] one kk z.1) (dO n [r, b, g, l] other kk z.2) = c ∧ isSp [r, b, g, l] c ∧ fitS b g d c = true ∧ fitS b g e c = true := by
  obtain ⟨r0, b0, g0, l9, hs⟩ := cam_of h.sky
  obtain ⟨a, s, e1, e2, h1, h2, d, e, h3, h4, h5⟩ := edge_at h.mt hz
  have := cspot_ok b0 g0 r0 l9 (sO_vis h.p1 hs h3) (sO_vis h.p2 hs h4) h5
  refine ⟨a, s, e1, e2, h1, h2, d, e, _, h3, h4, rfl, ?_⟩
  rw [e1, e2, dO_eq h3, dO_eq h4]
  exact this
theorem Conf.spots (h : Conf n r b g l kk one other m) {k1 k2 : Nat} : ∀ s ∈ confL n [r, b, g, l] kk one other m k1 k2, isSp [r, b, g, l] s := fun s hs => by
  rcases List.mem_append.mp hs with hs | hs
  · rcases List.mem_append.mp hs with hs | hs
    · obtain ⟨z, hz, rfl⟩ := List.mem_map.mp hs
      obtain ⟨_, _, _, _, _, _, _, _, _, _, _, rfl, e, _⟩ := h.edge hz
      exact e
    · obtain ⟨x, hx, rfl⟩ := List.mem_map.mp hs
      obtain ⟨_, _, d, _, _, _, e, e2, _⟩ := own_at h.sky h.p1 hx
      rw [e]
      exact e2
  · obtain ⟨x, hx, rfl⟩ := List.mem_map.mp hs
    obtain ⟨_, _, d, _, _, _, e, e2, _⟩ := own_at h.sky h.p2 hx
    rw [e]
    exact e2
theorem zips_nodup {α β : Type} (l : List α) (l' : List β) (i j : Nat) (hij : i + l.length ≤ j) : (((l.zipIdx i).map (·.2)) ++ (l'.zipIdx j).map (·.2)).Nodup := by
  rw [List.zipIdx_map_snd, List.zipIdx_map_snd]
  refine List.nodup_append.mpr ⟨List.nodup_range', List.nodup_range', fun x hx y hy e => ?_⟩
  have a := List.mem_range'_1.mp hx
  have b := List.mem_range'_1.mp hy
  omega
theorem Conf.fst_ (h : Conf n r b g l kk one other m) {k1 k2 : Nat} {sp : List (List Int)} (hp : sp.Perm (confL n [r, b, g, l] kk one other m k1 k2)) :
    (∀ o : MM, KSt (pOf (fitTo n [r, b, g, l] kk one sp kk.length)) (sureN n [r, b, g, l] one kk) o → ((sureN n [r, b, g, l] one kk).length : Int) - o.length ≤ k1) ∧
    ∀ o : MM, KSt (pOf (swp (fitTo n [r, b, g, l] kk one sp kk.length))) ((List.range sp.length).map Int.ofNat) o → m.length + (misG (sureN n [r, b, g, l] one kk) m k1).length ≤ o.length := by
  have hz : ((m.map (·.1)).zipIdx ++ (misG (sureN n [r, b, g, l] one kk) m k1).zipIdx m.length).map (·.1) = m.map (·.1) ++ misG (sureN n [r, b, g, l] one kk) m k1 := by rw [List.map_append, zip_fst, zip_fst]
  have := side_num (n := n) (kk := kk) (at_ := one) hp ((m.map (·.1)).zipIdx ++ (misG (sureN n [r, b, g, l] one kk) m k1).zipIdx m.length) (by rw [hz]; exact own_nodup h.sky h.p1 h.mt.nd)
    (by rw [List.map_append]; exact zips_nodup _ _ _ _ (by rw [List.length_map]; omega)) (fun z hz => by
    rcases List.mem_append.mp hz with hz | hz
    · obtain ⟨i, e, hi⟩ := zip_at hz
      have e : z.2 = i := by omega
      rw [e]
      rw [List.getElem?_map] at hi
      obtain ⟨y, hy, ey⟩ := Option.map_eq_some_iff.mp hi
      have hl := (List.getElem?_eq_some_iff.mp hy).1
      obtain ⟨a, s, e1, e2, h1, h2, d, e', c, h3, h4, ec, h5, h6, h7⟩ := h.edge (List.mem_of_getElem? hy)
      refine ⟨a, ey.symm.trans e1, h1, d, c, h3, ?_, h6⟩
      unfold confL misA
      rw [List.append_assoc, List.getElem?_append_left (by rw [List.length_map]; exact hl), List.getElem?_map, hy]
      exact congrArg some ec
    · obtain ⟨i, e, hi⟩ := zip_at hz
      obtain ⟨_, a, d, h1, h2, h3, h4, h5, h6⟩ := own_at h.sky h.p1 (List.mem_of_getElem? hi)
      have hl := (List.getElem?_eq_some_iff.mp hi).1
      refine ⟨a, h1, h2, d, d, h3, ?_, h6⟩
      unfold confL misA
      rw [List.append_assoc, List.getElem?_append_right (by rw [List.length_map]; omega), List.length_map, e, show m.length + i - m.length = i by omega, List.getElem?_append_left (by rw [List.length_map]; exact hl), List.getElem?_map, hi]
      exact congrArg some h4) (S := sureN n [r, b, g, l] one kk) (sureN_nodup _ _ _ _) (k := k1) (by rw [hz]; exact cover (sureN_nodup _ _ _ _))
  refine ⟨this.1, fun o ho => ?_⟩
  have a := this.2 o ho
  rw [List.length_append, List.length_zipIdx, List.length_zipIdx, List.length_map] at a
  exact a
theorem Conf.snd_ (h : Conf n r b g l kk one other m) {k1 k2 : Nat} {sp : List (List Int)} (hp : sp.Perm (confL n [r, b, g, l] kk one other m k1 k2)) :
    (∀ o : MM, KSt (pOf (fitTo n [r, b, g, l] kk other sp kk.length)) (sureN n [r, b, g, l] other kk) o → ((sureN n [r, b, g, l] other kk).length : Int) - o.length ≤ k2) ∧
    ∀ o : MM, KSt (pOf (swp (fitTo n [r, b, g, l] kk other sp kk.length))) ((List.range sp.length).map Int.ofNat) o → m.length + (misG (sureN n [r, b, g, l] other kk) (swp m) k2).length ≤ o.length := by
  have hsn : ((swp m).map (·.1)).Nodup := by rw [swp_keys]; exact h.mt.cn
  have hsk : m.map (·.2) = (swp m).map (·.1) := (swp_keys m).symm
  have hz : ((m.map (·.2)).zipIdx ++ (misG (sureN n [r, b, g, l] other kk) (swp m) k2).zipIdx (m.length + (misG (sureN n [r, b, g, l] one kk) m k1).length)).map (·.1) = (swp m).map (·.1) ++ misG (sureN n [r, b, g, l] other kk) (swp m) k2 := by rw [List.map_append, zip_fst, zip_fst, hsk]
  have := side_num (n := n) (kk := kk) (at_ := other) hp ((m.map (·.2)).zipIdx ++ (misG (sureN n [r, b, g, l] other kk) (swp m) k2).zipIdx (m.length + (misG (sureN n [r, b, g, l] one kk) m k1).length)) (by rw [hz]; exact own_nodup h.sky h.p2 hsn)
    (by rw [List.map_append]; exact zips_nodup _ _ _ _ (by rw [List.length_map]; omega)) (fun z hz => by
    rcases List.mem_append.mp hz with hz | hz
    · obtain ⟨i, e, hi⟩ := zip_at hz
      have e : z.2 = i := by omega
      rw [e]
      rw [List.getElem?_map] at hi
      obtain ⟨y, hy, ey⟩ := Option.map_eq_some_iff.mp hi
      have hl := (List.getElem?_eq_some_iff.mp hy).1
      obtain ⟨a, s, e1, e2, h1, h2, d, e', c, h3, h4, ec, h5, h6, h7⟩ := h.edge (List.mem_of_getElem? hy)
      refine ⟨s, ey.symm.trans e2, h2, e', c, h4, ?_, h7⟩
      unfold confL misA
      rw [List.append_assoc, List.getElem?_append_left (by rw [List.length_map]; exact hl), List.getElem?_map, hy]
      exact congrArg some ec
    · obtain ⟨i, e, hi⟩ := zip_at hz
      obtain ⟨_, a, d, h1, h2, h3, h4, h5, h6⟩ := own_at h.sky h.p2 (List.mem_of_getElem? hi)
      refine ⟨a, h1, h2, d, d, h3, ?_, h6⟩
      unfold confL misA
      rw [List.getElem?_append_right (by rw [List.length_append, List.length_map, List.length_map]; omega), List.length_append, List.length_map, List.length_map, e,
        show m.length + (misG (sureN n [r, b, g, l] one kk) m k1).length + i - (m.length + (misG (sureN n [r, b, g, l] one kk) m k1).length) = i by omega, List.getElem?_map, hi]
      exact congrArg some h4) (S := sureN n [r, b, g, l] other kk) (sureN_nodup _ _ _ _) (k := k2) (by rw [hz]; exact cover (sureN_nodup _ _ _ _))
  refine ⟨this.1, fun o ho => ?_⟩
  have a := this.2 o ho
  rw [List.length_append, List.length_zipIdx, List.length_zipIdx, List.length_map] at a
  exact a
theorem confL_len (k1 k2 : Nat) : (confL n [r, b, g, l] kk one other m k1 k2).length = m.length + (misG (sureN n [r, b, g, l] one kk) m k1).length + (misG (sureN n [r, b, g, l] other kk) (swp m) k2).length := by
  unfold confL misA
  rw [List.length_append, List.length_append, List.length_map, List.length_map, List.length_map]
theorem misG_len2 {S : List Int} {C : MM} : (misG S C k).length = S.length - (S.filter fun x => decide (x ∈ C.map (·.1))).length - k := by
  unfold misG
  rw [List.length_drop]
  have e := filt_split (fun x => decide (x ∈ C.map (·.1))) S
  omega
theorem Conf.stars (h : Conf n r b g l kk one other m) : m.length + (misG (sureN n [r, b, g, l] one kk) m k).length ≤ kk.length := by
  have h1 := len_le_of_sub (m := (List.range kk.length).map Int.ofNat) (own_nodup (k := k) h.sky h.p1 h.mt.nd) fun x hx => by
    rcases List.mem_append.mp hx with hx | hx
    · obtain ⟨z, hz, rfl⟩ := List.mem_map.mp hx
      obtain ⟨a, _, e, _, ha, _⟩ := h.edge hz
      exact List.mem_map.mpr ⟨a, List.mem_range.mpr ha, e.symm⟩
    · obtain ⟨_, a, _, e, ha, _⟩ := own_at h.sky h.p1 hx
      exact List.mem_map.mpr ⟨a, List.mem_range.mpr ha, e.symm⟩
  rw [List.length_append, List.length_map, List.length_map, List.length_range] at h1
  exact h1
end
end Sw
namespace Sw
open PySem PySem.Spec PyProof.Rows L2
/-- both sides, when the lacks are at most the sum of the bounds -/
theorem conf_nums {n r b g l : Int} {kk : List (List Int)} {one other : List Int} {m o1 o2 : MM} {mi fa : Int} {sp : List (List Int)} (h : Conf n r b g l kk one other m) (hC : CoupI n [r, b, g, l] kk one other m)
    (k1 : KSt (tP (tblN n [r, b, g, l] kk one other)) (sureN n [r, b, g, l] one kk) o1) (k2 : KSt (tP (tblN n [r, b, g, l] kk other one)) (sureN n [r, b, g, l] other kk) o2)
    (x1 : ((sureN n [r, b, g, l] one kk).length : Int) - o1.length ≤ mi + fa) (x2 : ((sureN n [r, b, g, l] other kk).length : Int) - o2.length ≤ mi + fa) (m0 : 0 ≤ mi) (f0 : 0 ≤ fa)
    (hp : sp.Perm (confL n [r, b, g, l] kk one other m mi.toNat mi.toNat)) :
    ((∀ o : MM, KSt (pOf (fitTo n [r, b, g, l] kk one sp kk.length)) (sureN n [r, b, g, l] one kk) o → ((sureN n [r, b, g, l] one kk).length : Int) - o.length ≤ mi) ∧
      ∀ o : MM, KSt (pOf (swp (fitTo n [r, b, g, l] kk one sp kk.length))) ((List.range sp.length).map Int.ofNat) o → (sp.length : Int) - o.length ≤ fa) ∧
    ((∀ o : MM, KSt (pOf (fitTo n [r, b, g, l] kk other sp kk.length)) (sureN n [r, b, g, l] other kk) o → ((sureN n [r, b, g, l] other kk).length : Int) - o.length ≤ mi) ∧
      ∀ o : MM, KSt (pOf (swp (fitTo n [r, b, g, l] kk other sp kk.length))) ((List.range sp.length).map Int.ofNat) o → (sp.length : Int) - o.length ≤ fa) ∧
    (sp.length : Int) ≤ (kk.length : Int) + fa := by
  have hl := hp.length_eq.trans (confL_len _ _)
  have c1 := coup_one hC k1
  have c2 := coup_two hC k2
  rw [List.filter_congr fun x _ => has_keys h.mt.nd x] at c1
  rw [List.filter_congr fun x _ => has_keys (show ((swp m).map (·.1)).Nodup by rw [swp_keys]; exact h.mt.cn) x] at c2
  have g1 := misG_len2 (k := mi.toNat) (S := sureN n [r, b, g, l] one kk) (C := m)
  have g2 := misG_len2 (k := mi.toNat) (S := sureN n [r, b, g, l] other kk) (C := swp m)
  have hs := h.stars (k := mi.toNat)
  obtain ⟨a1, a2⟩ := h.fst_ hp
  obtain ⟨b1, b2⟩ := h.snd_ hp
  refine ⟨⟨fun o ho => ?_, fun o ho => ?_⟩, ⟨fun o ho => ?_, fun o ho => ?_⟩, ?_⟩
  · have := a1 o ho
    omega
  · have := a2 o ho
    omega
  · have := b1 o ho
    omega
  · have := b2 o ho
    omega
  · omega
noncomputable def lackW (P : Int → List Int) (W : List Int) : Int := @dite Int (∃ x, LackIs P W x) (Classical.propDecidable _) (fun h => Classical.choose h) fun _ => 0
theorem lackW_eq {P : Int → List Int} {W : List Int} {x : Int} (h : LackIs P W x) : lackW P W = x := by
  have he : ∃ x, LackIs P W x := ⟨x, h⟩
  unfold lackW
  rw [dif_pos he]
  exact lackIs_uniq (Classical.choose_spec he) h
theorem kst_lackIs {P : Int → List Int} {W : List Int} {o : MM} (h : KSt P W o) (hW : W.Nodup) : LackIs P W ((W.length : Int) - o.length) := kst_lack h hW
/-- how unlike two attitudes are -/
noncomputable def unlW (n : Int) (cam : List Int) (kk : List (List Int)) (one other : List Int) : Int := max (lackW (tP (tblN n cam kk one other)) (sureN n cam one kk)) (lackW (tP (tblN n cam kk other one)) (sureN n cam other kk))
theorem unlW_eq {n : Int} {cam : List Int} {kk : List (List Int)} {one other : List Int} {x y : Int} (hx : LackIs (tP (tblN n cam kk one other)) (sureN n cam one kk) x) (hy : LackIs (tP (tblN n cam kk other one)) (sureN n cam other kk) y) : unlW n cam kk one other = max x y := by
  unfold unlW
  rw [lackW_eq hx, lackW_eq hy]
def spOwn (K : PySem.W.Frag) (C : Addr) : Sp := fun vs H Q _ => ∃ (p d cl : Addr) (n k : Int) (ks : Tups) (cam at_ L : List Int) (zs : Shown), vs = [.ref p, .ref d, .ref cl, .int k] ∧ SkyS K C H p n ks cam ∧ isSky n (keys ks) cam = true ∧ isPose n at_ = true ∧ ShD K H d n cam at_ (keys ks) zs ∧ SqL K H cl (L.map V.int) ∧ 0 ≤ k ∧
  ∀ (H' : Hp) (l : Addr) (es : Tups), Same H H' → H' l = some (.lst (refs es)) → TupsAt K H' es → keys es = (((sureN n cam at_ (keys ks)).filter fun x => !decide (x ∈ L)).drop k.toNat).map (dO n cam at_ (keys ks)) → Q (.ref l) H'
def spComSight (K : PySem.W.Frag) (C : Addr) : Sp := fun vs H Q _ => ∃ (p q r : Addr) (n k1 k2 : Int) (ks : Tups) (cam one other : List Int), vs = [.ref p, .ref q, .ref r, .int k1, .int k2] ∧ SkyS K C H p n ks cam ∧ isSky n (keys ks) cam = true ∧ SqT K H q (one.map V.int) ∧ isPose n one = true ∧ SqT K H r (other.map V.int) ∧ isPose n other = true ∧ 0 ≤ k1 ∧ 0 ≤ k2 ∧
  ∀ (H' : Hp) (g : MM) (t : Addr) (es : Tups), Same H H' → CoupI n cam (keys ks) one other g → SqT K H' t (refs es) → TupsAt K H' es → (keys es).Perm (confL n cam (keys ks) one other g k1.toNat k2.toNat) → AscL (keys es) → Q (.ref t) H'
def spConfusable (K : PySem.W.Frag) (C D : Addr) : Sp := fun vs H Q E => ∃ (p q r : Addr) (n mi fa : Int) (ks : Tups) (cam one other : List Int), vs = [.ref p, .ref q, .ref r, .int mi, .int fa] ∧ SkyS K C H p n ks cam ∧ isSky n (keys ks) cam = true ∧ SqT K H q (one.map V.int) ∧ SqT K H r (other.map V.int) ∧
  (isPose n one = true → isPose n other = true → ∀ H' : Hp, Same H H' → Q (.bl (decide (unlW n cam (keys ks) one other ≤ mi + fa))) H') ∧ twoErr D E H q r n one other
def spConfSight (K : PySem.W.Frag) (C D : Addr) : Sp := fun vs H Q E => ∃ (p q r : Addr) (n mi fa : Int) (ks : Tups) (cam one other : List Int), vs = [.ref p, .ref q, .ref r, .int mi, .int fa] ∧ SkyS K C H p n ks cam ∧ isSky n (keys ks) cam = true ∧ SqT K H q (one.map V.int) ∧ SqT K H r (other.map V.int) ∧ 0 ≤ mi ∧
  (isPose n one = true → isPose n other = true → (mi + fa < unlW n cam (keys ks) one other → ∀ H' : Hp, Same H H' → Q .non H') ∧
    (unlW n cam (keys ks) one other ≤ mi + fa → ∀ (H' : Hp) (g : MM) (t : Addr) (es : Tups), Same H H' → CoupI n cam (keys ks) one other g → SqT K H' t (refs es) → TupsAt K H' es → (keys es).Perm (confL n cam (keys ks) one other g mi.toNat mi.toNat) → AscL (keys es) → Q (.ref t) H')) ∧ twoErr D E H q r n one other
noncomputable def nearTo (n : Int) (cam : List Int) (kk : List (List Int)) (one : List Int) (m : Int) : List (List Int) := (attsI n.toNat n.toNat).filter fun o => decide (unlW n cam kk one o ≤ m)
def spConfWith (K : PySem.W.Frag) (C D : Addr) : Sp := fun vs H Q E => ∃ (p q : Addr) (n mi fa : Int) (ks : Tups) (cam one : List Int), vs = [.ref p, .ref q, .int mi, .int fa] ∧ SkyS K C H p n ks cam ∧ isSky n (keys ks) cam = true ∧ SqT K H q (one.map V.int) ∧
  (isPose n one = true → ∀ (H' : Hp) (l : Addr) (es : Tups), Same H H' → H' l = some (.lst (refs es)) → TupsAt K H' es → keys es = nearTo n cam (keys ks) one (mi + fa) → Q (.ref l) H') ∧
  (isPose n one = false → ∀ (d : Addr) (H' : Hp), Same H H' → H' d = some (.xd [("attitude", .ref q)]) → E (.ref D) (some d) H')
/-! ### of the law -/
def spLackL (K : PySem.W.Frag) : Sp := fun vs H Q _ => ∃ (t q r : Addr) (n : Int) (ks : Tups) (cam one other : List Int), vs = [.ref t, .ref q, .ref r] ∧ PartsAt K H t n ks cam ∧ isSky n (keys ks) cam = true ∧ SqT K H q (one.map V.int) ∧ isPose n one = true ∧ SqT K H r (other.map V.int) ∧ isPose n other = true ∧
  ∀ (H' : Hp) (o : MM), Same H H' → KSt (tP (tblN n cam (keys ks) one other)) (sureN n cam one (keys ks)) o → Q (.int (((sureN n cam one (keys ks)).length : Int) - o.length)) H'
def spUnlL (K : PySem.W.Frag) : Sp := fun vs H Q _ => ∃ (t q r : Addr) (n : Int) (ks : Tups) (cam one other : List Int), vs = [.ref t, .ref q, .ref r] ∧ PartsAt K H t n ks cam ∧ isSky n (keys ks) cam = true ∧ SqT K H q (one.map V.int) ∧ isPose n one = true ∧ SqT K H r (other.map V.int) ∧ isPose n other = true ∧
  ∀ (H' : Hp) (o1 o2 : MM), Same H H' → KSt (tP (tblN n cam (keys ks) one other)) (sureN n cam one (keys ks)) o1 → KSt (tP (tblN n cam (keys ks) other one)) (sureN n cam other (keys ks)) o2 → Q (.int (unlW n cam (keys ks) one other)) H'
def spIsAttL (K : PySem.W.Frag) : Sp := fun vs H Q _ => ∃ (z : Addr) (n : Int) (at_ : List Int), vs = [.int n, .ref z] ∧ SqT K H z (at_.map V.int) ∧ isPose n at_ = true ∧ ∀ H', Same H H' → Q (.bl true) H'
end Sw
namespace L2
open PySem PySem.Spec PyProof.Rows
theorem cr_maxTupK {X : Cx} {K : PySem.W.Frag} (hc : X.calm = true) (hu : X.A.units + 1 < cLine) (h : X.K = K := by rfl) : CallR X (.builtin "max") (rMaxTup K) := h ▸ cr_maxTup hc hu
end L2
namespace Sw
open PySem PySem.Spec PyProof.Rows L2
theorem ltI_asymm : ∀ a b : List Int, ltI a b = true → ltI b a = false
  | [], [], h => by cases h
  | [], _ :: _, _ => rfl
  | _ :: _, [], h => by cases h
  | x :: r, y :: q, h => by
    have h' : (decide (x < y) || (decide (x = y) && ltI r q)) = true := h
    show (decide (y < x) || (decide (y = x) && ltI q r)) = false
    rw [Bool.or_eq_true, Bool.and_eq_true, decide_eq_true_iff, decide_eq_true_iff] at h'
    rcases h' with h' | ⟨h1, h2⟩
    · rw [decide_eq_false (by omega), decide_eq_false (show ¬ y = x by omega)]
      rfl
    · rw [decide_eq_false (by omega), ltI_asymm r q h2, Bool.and_false]
      rfl
theorem lt3_iff {a b c a' b' c' : Int} : ltI [a, b, c] [a', b', c'] = true ↔ a < a' ∨ (a = a' ∧ (b < b' ∨ (b = b' ∧ c < c'))) := by
  show (decide (a < a') || (decide (a = a') && (decide (b < b') || (decide (b = b') && (decide (c < c') || (decide (c = c') && false)))))) = true ↔ _
  simp only [Bool.or_eq_true, Bool.and_eq_true, decide_eq_true_eq, Bool.and_false, Bool.or_false]
theorem attX_mem {x j : Nat} {o : List Int} : o ∈ attX x j ↔ ∃ y q : Nat, y < j ∧ q < 4 ∧ o = [(x : Int), (y : Int), (q : Int)] := by
  unfold attX attY
  rw [List.mem_flatMap]
  constructor
  · rintro ⟨y, hy, h⟩
    obtain ⟨q, hq, rfl⟩ := List.mem_map.mp h
    exact ⟨y, q, List.mem_range.mp hy, List.mem_range.mp hq, rfl⟩
  · rintro ⟨y, q, hy, hq, rfl⟩
    exact ⟨y, List.mem_range.mpr hy, List.mem_map.mpr ⟨q, List.mem_range.mpr hq, rfl⟩⟩
theorem atts_mem {n i : Nat} {o : List Int} : o ∈ attsI n i ↔ ∃ x y q : Nat, x < i ∧ y < n ∧ q < 4 ∧ o = [(x : Int), (y : Int), (q : Int)] := by
  unfold attsI
  rw [List.mem_flatMap]
  constructor
  · rintro ⟨x, hx, h⟩
    obtain ⟨y, q, hy, hq, e⟩ := attX_mem.mp h
    exact ⟨x, y, q, List.mem_range.mp hx, hy, hq, e⟩
  · rintro ⟨x, y, q, hx, hy, hq, e⟩
    exact ⟨x, List.mem_range.mpr hx, attX_mem.mpr ⟨y, q, hy, hq, e⟩⟩
theorem atts_pose {n : Int} {o : List Int} (h0 : 0 ≤ n) : o ∈ attsI n.toNat n.toNat ↔ isPose n o = true := by
  rw [atts_mem]
  constructor
  · rintro ⟨x, y, q, hx, hy, hq, rfl⟩
    exact decide_eq_true (by omega)
  · intro h
    obtain ⟨x, y, q, rfl, h1, h2, h3, h4, h5, h6⟩ := pose_form h
    obtain ⟨x', rfl⟩ := Int.eq_ofNat_of_zero_le h1
    obtain ⟨y', rfl⟩ := Int.eq_ofNat_of_zero_le h3
    obtain ⟨q', rfl⟩ := Int.eq_ofNat_of_zero_le h5
    exact ⟨x', y', q', by omega, by omega, by omega, rfl⟩
theorem atts_lt (n i : Nat) : (attsI n i).Pairwise fun a b => ltI a b = true := by
  unfold attsI
  rw [List.pairwise_flatMap]
  refine ⟨fun x _ => ?_, List.pairwise_lt_range.imp fun {a b} h u hu v hv => ?_⟩
  · unfold attX
    rw [List.pairwise_flatMap]
    refine ⟨fun y _ => ?_, List.pairwise_lt_range.imp fun {a b} h u hu v hv => ?_⟩
    · unfold attY
      rw [List.pairwise_map]
      exact List.pairwise_lt_range.imp fun {a b} h => lt3_iff.mpr (by omega)
    · unfold attY at hu hv
      obtain ⟨q, _, rfl⟩ := List.mem_map.mp hu
      obtain ⟨q', _, rfl⟩ := List.mem_map.mp hv
      exact lt3_iff.mpr (by omega)
  · obtain ⟨y, q, _, _, rfl⟩ := attX_mem.mp hu
    obtain ⟨y', q', _, _, rfl⟩ := attX_mem.mp hv
    exact lt3_iff.mpr (by omega)
theorem attsI_len (n : Nat) : ∀ i, (attsI n i).length = 4 * n * i
  | 0 => rfl
  | i + 1 => by
    have hx : ∀ x j, (attX x j).length = 4 * j := fun x j => by
      induction j with
      | zero => rfl
      | succ j ih =>
        rw [attX_succ, List.length_append, ih]
        unfold attY
        rw [List.length_map, List.length_range]
        omega
    rw [attsI_succ, List.length_append, attsI_len n i, hx, Nat.mul_add, Nat.mul_one]
theorem atts_nodup (n i : Nat) : (attsI n i).Nodup := (atts_lt n i).imp fun {a b} h e => by
  have := ltI_asymm a b h
  rw [e] at this h
  rw [h] at this
  cases this
theorem near_asc {n : Int} {cam : List Int} {kk : List (List Int)} {one : List Int} {m : Int} : AscL (nearTo n cam kk one m) :=
  ((atts_lt n.toNat n.toNat).imp fun {a b} h => ltI_asymm a b h).sublist List.filter_sublist
theorem near_count {n : Int} {cam : List Int} {kk : List (List Int)} {one o : List Int} {m : Int} (h0 : 0 ≤ n) (hp : isPose n o = true) : (nearTo n cam kk one m).count o = if unlW n cam kk one o ≤ m then 1 else 0 := by
  have hn : (nearTo n cam kk one m).Nodup := (atts_nodup _ _).sublist List.filter_sublist
  by_cases h : unlW n cam kk one o ≤ m
  · rw [if_pos h]
    have hm : o ∈ nearTo n cam kk one m := List.mem_filter.mpr ⟨(atts_pose h0).mpr hp, decide_eq_true h⟩
    have a := List.nodup_iff_count.mp hn o
    have b := List.count_pos_iff.mpr hm
    omega
  · rw [if_neg h]
    exact List.count_eq_zero.mpr fun hm => h (of_decide_eq_true (List.mem_filter.mp hm).2)
theorem near_pose {n : Int} {cam : List Int} {kk : List (List Int)} {one o : List Int} {m : Int} (h0 : 0 ≤ n) (h : o ∈ nearTo n cam kk one m) : isPose n o = true := (atts_pose h0).mp (List.mem_filter.mp h).1
theorem near_len {n : Int} {cam : List Int} {kk : List (List Int)} {one : List Int} {m : Int} (h9 : n ≤ 9) : (nearTo n cam kk one m).length ≤ 400 := by
  have := List.length_filter_le (fun o => decide (unlW n cam kk one o ≤ m)) (attsI n.toNat n.toNat)
  rw [attsI_len] at this
  have h : 4 * n.toNat * n.toNat ≤ 4 * 9 * 9 := Nat.mul_le_mul (by omega) (by omega)
  unfold nearTo
  omega
end Sw
namespace Sw
open PySem PySem.Spec PyProof.Rows L2
theorem unl_self {n : Int} {cam : List Int} {kk : List (List Int)} {one : List Int} (hsky : isSky n kk cam = true) (hp : isPose n one = true) : unlW n cam kk one one = 0 := by
  have h0 : LackIs (tP (tblN n cam kk one one)) (sureN n cam one kk) 0 := by
    refine ⟨⟨[], List.nil_sublist _, lackI_nil _⟩, fun M hM y hy => self_le hsky hp hM hy⟩
  rw [unlW_eq h0 h0]
  rfl
end Sw
set_option Elab.async false
set_option linter.all false
set_option maxRecDepth 100000
set_option maxHeartbeats 4000000
/-! Errors that are held as values. -/
namespace Sw
open PySem PySem.Spec PyProof.Rows L2
def ErrV (H : Hp) (e C : Addr) : Prop := H e = some (ExO (.ref C) e) ∨ ∃ (d : Addr) (f : Str) (v : V), H e = some (exo e C (some d)) ∧ H d = some (.xd [(f, v)])
def ErrF (H : Hp) (e C : Addr) (f : Str) (v : V) : Prop := ∃ d : Addr, H e = some (exo e C (some d)) ∧ H d = some (.xd [(f, v)])
theorem errV_up {H H' : Hp} {e C : Addr} (s : Same H H') (h : ErrV H e C) : ErrV H' e C := by
  rcases h with h | ⟨d, f, v, h1, h2⟩
  · exact .inl (s _ _ h)
  · exact .inr ⟨d, f, v, s _ _ h1, s _ _ h2⟩
theorem errF_up {H H' : Hp} {e C : Addr} {f : Str} {v : V} (s : Same H H') (h : ErrF H e C f v) : ErrF H' e C f v := by
  obtain ⟨d, h1, h2⟩ := h
  exact ⟨d, s _ _ h1, s _ _ h2⟩
theorem ErrF.v {H : Hp} {e C : Addr} {f : Str} {v : V} (h : ErrF H e C f v) : ErrV H e C := by
  obtain ⟨d, h1, h2⟩ := h
  exact .inr ⟨d, f, v, h1, h2⟩
structure ErrC (K : PySem.W.Frag) (C : Addr) : Prop where
  x : ExcC K C
  i : PySem.W.isClsIn K C = true
def rIsV (K : PySem.W.Frag) : List V → Hp → VK → Prop := fun xs H Q => ∃ (e C : Addr) (c : V) (cv : Value) (b : Bool), xs = [.ref e, c] ∧ ErrV H e C ∧ ErrC K C ∧ ClsV c cv ∧ PySem.W.kitOne K (.ref C) cv = some b ∧ Q (.bl b) H
theorem call_isV {X : Cx} : CallR X (.builtin "isinstance") (rIsV X.K) := by
  intro pins s σ H xs us Q I hv ⟨e, C, c, cv, b, ex, he, hC, hcv, hk, q⟩
  subst ex
  cases hv with
  | cons r1 r2 =>
    cases r2 with
    | cons r2 r3 =>
      cases r3
      rename_i u1 u2
      obtain rfl : u1 = Value.ref e := r1
      obtain rfl : u2 = cv := by
        cases hcv
        · exact r2
        · exact r2
      obtain ⟨oe, od, J⟩ : ∃ oe od, PySem.W.InstAt s.heap e oe C od := by
        rcases he with h | ⟨d, f, v, h1, h2⟩
        · have z : ObjOk X.prog X.w H s.heap e (ExO (.ref C) e) := I.hok e _ h
          obtain ⟨⟨oe, vs, g1, g2, g3, _⟩, _⟩ := z
          refine ⟨oe, none, g1, g2.1, ?_, ?_⟩
          · unfold PySem.W.notCls
            rw [g3] <;> rfl
          · rw [g2.2]
            trivial
        · have z : ObjOk X.prog X.w H s.heap e (exo e C (some d)) := I.hok e _ h1
          obtain ⟨⟨t1, g1⟩, _⟩ := z
          have y : ObjOk X.prog X.w H s.heap d (.xd [(f, v)]) := I.hok d _ h2
          obtain ⟨mA, hns, hr⟩ := y
          obtain ⟨od, ho, hl⟩ := lookIn_ns hns
          exact ⟨_, some od, g1, rfl, rfl, ho⟩
      refine PySem.W.kia_one (PySem.W.kitx_exc (ox := oe) (od := od) (gt := none) hC.i hC.x.hg hC.x.hk hC.x.hs hC.x.ha hC.x.hn hC.x.ht hC.x.hm) I.kIn J hk (by intro z; cases z) fun tk => ?_
      exact ⟨.bl b, H, I.tok _, rfl, q⟩
/-! making them -/
def nErr (C : Addr) (H : Hp) (Q : VK) : Prop := ∀ (e : Addr) (H2 : Hp), Same H H2 → ErrV H2 e C → Q (.ref e) H2
def tErr1 (C : Addr) (te : TE) : TE := fun σ H Q => te σ H fun _ H1 => nErr C H1 Q
def tMore (te : TE) : TE := fun σ H Q => ∃ Q0 : VK, te σ H Q0 ∧ ∀ x H1, Q0 x H1 → Q x H1
theorem pe_more {X : Cx} {e : Expr} {te : TE} (he : PE X e te) : PE X e (tMore te) :=
  ⟨fun pins s σ H _ I ⟨Q0, h, q⟩ => thn (he.run pins s σ H Q0 I h) fun _ _ ⟨v, H1, I1, r, h1⟩ => ⟨v, H1, I1, r, q _ _ h1⟩⟩
theorem pe_err1 {X : Cx} {C : Addr} {xn : Str} {e : Expr} {te : TE} {p pos : Pos} (T : PlainErr X.K X.mg xn C) (he : PE X e te) (hg : Gl X xn := by rfl)
    (hs : starEach [e] X.env = (false, eval e X.env) :: starEach [] X.env := by rfl) (hdb : (xn == ("__debug__" : Str)) = false := by decide) :
    PE X (.Call (.Name xn p) [e] [] pos) (tErr1 C te) := by
  refine ⟨fun pins s σ H Q I h => ?_⟩
  exact (pe_exc1 PySem.F.excBase_ValueError T.x T.g T.k hg (pe_more he) hs hdb).run pins s σ H Q I ⟨_, h, fun x H1 q e n => q e _ (same_new n) (.inl upd_same)⟩
def tErrS (C : Addr) (fld : Str) (ta : TA) : TE := fun σ H Q => ta σ H fun vs H1 => ∃ v, vs = [v] ∧ ∀ (e : Addr) (H2 : Hp), Same H1 H2 → ErrF H2 e C fld v → Q (.ref e) H2
section
variable {X : Cx} {C fI : Addr} {xn fld : Str}
theorem pe_errS {a : Expr} {ta : TA} {p pos : Pos} {k : Nat} (T : PySem.SwX.SErr X.prog X.K X.mg xn fld C fI) (hr : Room k X.A) (ha : PA X [a] ta) (hg : Gl X xn := by rfl) (hdb : (xn == ("__debug__" : Str)) = false := by decide)
    (he : starEach (a :: []) X.env = (false, eval a X.env) :: starEach [] X.env := by rfl) (hpl : (backTo pos (starEach [] X.env)).any (·.1) = false := by rfl) :
    PE X (.Call (.Name xn p) [a] [] pos) (tErrS C fld ta) := by
  refine ⟨fun pins s σ H Q I h => ?_⟩
  refine wpAny_Call_Name_kw (ld_glob I hg T.gC ?_ hdb)
  refine PySem.W.callWith_K (h₀ := X.base) I.ok.mod.kin T.kC (thn (ha.run pos pins s σ H _ I h) fun us s1 hh => ?_) he hpl
  obtain ⟨vs, H1, I1, r1, v, ev, q1⟩ := hh
  subst ev
  refine ⟨I1.kIn, ?_⟩
  cases r1 with
  | cons rv rn =>
    rename_i v' us'
    cases rn
    show wpAny _ _ (call (.ref C) [v']) _ _ _
    have hlim := I1.nolimit
    obtain ⟨mb, hb1, hb2⟩ := I1.mod.blt
    have hgl := I1.mod.glob.keeps I1.bk
    have hbl := hb1.keeps I1.bk
    have hkin := I1.kIn
    obtain ⟨hp, g, dr, tk, os⟩ := s1
    refine wpAny_call (PySem.SwX.sup_made T hkin hlim hgl hbl (hb2 _ (by decide)) (by have := hr.dp; omega) fun h' tk' e d M => ?_)
    obtain ⟨t1, hoe⟩ := M.obj
    have hns := M.ns
    obtain ⟨G', g1, g2⟩ := restrict h' fun b => decide (b ≠ e)
    have gk : ∀ b, b ≠ e → G'.get? b = h'.get? b := fun b hb => g1 b (decide_eq_true hb)
    have ge : G'.get? e = none := g2 e (by simp)
    have old : ∀ b o, hp.get? b = some o → G'.get? b = some o := fun b o q => (gk b (Nat.ne_of_lt (Nat.lt_of_lt_of_le (Heap.lt_size q) M.new))).trans (M.keep b o q)
    have ob : ObjOk X.prog X.w (upd H1 d (.xd [(fld, v)])) G' d (.xd [(fld, v)]) :=
      ⟨_, hns.at (fun o q => (gk d M.dne).trans q), fun f => relO_one rv⟩
    have J : Inv X pins σ (upd H1 d (.xd [(fld, v)])) ⟨G', g, dr, tk', os⟩ := I1.laid (t' := tk') old M.dbig ob
    have fe : upd H1 d (.xd [(fld, v)]) e = none := by
      rw [upd_ne (Ne.symm M.dne)]
      exact I1.hok.fresh M.new
    have fd : H1 d = none := I1.hok.fresh M.dbig
    have J2 : Inv X pins σ (upd (upd H1 d (.xd [(fld, v)])) e (exo e C (some d))) ⟨h', g, dr, tk', os⟩ := by
      refine J.laidN (t' := tk') (fun b o q => ?_) ge fe ⟨⟨t1, hoe⟩, ⟨_, hoe⟩, ?_⟩
      · by_cases hb : b = e
        · have q' : G'.get? b = some o := q
          rw [hb, ge] at q'
          cases q'
        · exact (gk b hb).symm.trans q
      · rintro h1 h2 ⟨t2, z⟩ hz
        exact ⟨t2, hz _ z⟩
    refine ⟨.ref e, _, J2, rfl, q1 e _ ((same_new fd).trans (same_new fe)) ⟨d, upd_same, ?_⟩⟩
    rw [upd_ne M.dne]
    exact upd_same
/-- e.fld of such an error -/
def tErrGet (C : Addr) (fld : Str) (te : TE) : TE := fun σ H Q => te σ H fun x H1 => ∃ (e : Addr) (v : V), x = .ref e ∧ ErrF H1 e C fld v ∧ Q v H1
theorem pe_errGet {e : Expr} {te : TE} {pos : Pos} (T : PySem.SwX.SErr X.prog X.K X.mg xn fld C fI) (he : PE X e te)
    (hb : attributeBase e fld X.env (eval e X.env) = eval e X.env := by rfl) :
    PE X (.Attribute e fld pos) (tErrGet C fld te) := by
  refine ⟨fun pins s σ H Q I h => ?_⟩
  refine attr_of hb (thn (he.run pins s σ H _ I h) fun u s1 hh => ?_)
  obtain ⟨x, H1, I1, rx, b, v, ex, ⟨dd, h1, h2⟩, q⟩ := hh
  subst ex
  obtain rfl : u = Value.ref b := rx
  have z : ObjOk X.prog X.w H1 s1.heap b (exo b C (some dd)) := I1.hok b _ h1
  obtain ⟨⟨t1, g1⟩, _⟩ := z
  have hx : ObjOk X.prog X.w H1 s1.heap dd (.xd [(fld, v)]) := I1.hok dd _ h2
  obtain ⟨mA, hns, hr⟩ := hx
  obtain ⟨od, ho, hl⟩ := lookIn_ns hns
  have l : List.lookup fld [(fld, v)] = some v := by simp [List.lookup]
  obtain ⟨u, hu, ru⟩ := RelO.some_of (v := v) (o := mA fld) (by rw [← l]; exact hr fld)
  have J : PySem.W.InstAt s1.heap b _ C (some od) := ⟨g1, rfl, rfl, ho⟩
  exact HandSPX.exc_get I1.kIn J T.ga T.gg T.exC (PySem.W.findObj_own T.hdC T.noF rfl (by rw [hl, hu])) (handed_of ru) ⟨v, H1, I1.tok _, ru, q⟩
end
/-! of what kinds -/
def kindsB (K : PySem.W.Frag) (cs : List Addr) : Bool := cs.all fun C => cs.all fun D => PySem.W.kitOne K (.ref C) (.ref D) == some (decide (C = D))
def underB (K : PySem.W.Frag) (cs : List Addr) (S : Addr) : Bool := cs.all fun C => PySem.W.kitOne K (.ref C) (.ref S) == some true && PySem.W.kitOne K (.ref C) (.type "ValueError") == some true
theorem kinds_at {K : PySem.W.Frag} {cs : List Addr} (h : kindsB K cs = true) {C D : Addr} (hC : C ∈ cs) (hD : D ∈ cs) : PySem.W.kitOne K (.ref C) (.ref D) = some (decide (C = D)) := by
  have z := List.all_eq_true.mp (List.all_eq_true.mp h C hC) D hD
  simpa using z
theorem under_at {K : PySem.W.Frag} {cs : List Addr} {S C : Addr} (h : underB K cs S = true) (hC : C ∈ cs) : PySem.W.kitOne K (.ref C) (.ref S) = some true ∧ PySem.W.kitOne K (.ref C) (.type "ValueError") = some true := by
  have z := List.all_eq_true.mp h C hC
  simpa using z
def one? (C D : Addr) : Int := if decide (C = D) = true then 1 else 0
theorem sum_kinds {C : Addr} : ∀ {cs : List Addr}, cs.Nodup → C ∈ cs → (cs.map (one? C)).sum = 1
  | [], _, h => by cases h
  | D :: r, hn, h => by
    have hn' := List.nodup_cons.mp hn
    rw [List.map_cons, List.sum_cons]
    by_cases e : C = D
    · subst e
      have z : ∀ {l : List Addr}, C ∉ l → (l.map (one? C)).sum = 0 := by
        intro l
        induction l with
        | nil => intro _; rfl
        | cons x l ih =>
          intro hx
          rw [List.map_cons, List.sum_cons, ih (fun q => hx (List.mem_cons_of_mem _ q))]
          unfold one?
          rw [decide_eq_false (fun q : C = x => hx (q ▸ List.mem_cons_self))]
          rfl
      rw [z hn'.1]
      unfold one?
      rw [decide_eq_true rfl]
      rfl
    · rw [sum_kinds hn'.2 (List.mem_of_ne_of_mem e h)]
      unfold one?
      rw [decide_eq_false e]
      rfl
def spKinds (cs : List Addr) : Sp := fun vs H Q _ => ∃ e C : Addr, vs = [.ref e] ∧ C ∈ cs ∧ ErrV H e C ∧ Q (.int 1) H
end Sw
set_option Elab.async false
set_option linter.all false
/-! Links told as pairs, and what is refused (own work; k23). -/
namespace L2
open PySem PySem.Spec PyProof.Rows
/-- isinstance(e, S), e the error that the clause holds -/
def rErrIsi (C S a : Addr) (cls : Value) (d : Option Addr) : List V → Hp → VK → Prop := fun xs H Q => xs = [.ref a, .ref S] ∧ cls = .ref C ∧ (∃ (dd : Addr) (f : Str) (v : V), d = some dd ∧ H dd = some (.xd [(f, v)])) ∧ Q (.bl true) H
theorem call_errIsi {X : Cx} {a C S : Addr} {oe : Obj} {cls : Value} {d : Option Addr} {pn : List (Addr × Obj)} (hC : Sw.ErrC X.K C) (hk : PySem.W.kitOne X.K (.ref C) (.ref S) = some true) (hz : Zc cls d oe) (hf : ∃ vs, oe.data = .fields vs) :
    CallR (X.suite a ((a, oe) :: pn)) (.builtin "isinstance") (rErrIsi C S a cls d) := by
  intro pins s σ H xs us Q I hv ⟨ex, ec, ⟨dd, f, v, ed, ea⟩, q⟩
  subst ex ec ed
  cases hv with
  | cons r1 r2 =>
    cases r2 with
    | cons r2 r3 =>
      cases r3
      rename_i u1 u2
      obtain rfl : u1 = Value.ref a := r1
      obtain rfl : u2 = Value.ref S := r2
      obtain ⟨ha, _⟩ := I.pin (a, oe) (List.mem_append_left _ List.mem_cons_self)
      obtain ⟨vs, hd⟩ := hf
      have hx : ObjOk X.prog X.w H s.heap dd (.xd [(f, v)]) := I.hok dd _ ea
      obtain ⟨mA, hns, hr⟩ := hx
      obtain ⟨od, ho, hl⟩ := lookIn_ns hns
      have J : PySem.W.InstAt s.heap a oe C (some od) := ⟨ha, hz.1, by unfold PySem.W.notCls; rw [hd] <;> rfl, by rw [hz.2]; exact ho⟩
      refine PySem.W.kia_one (PySem.W.kitx_exc (ox := oe) (od := some od) (gt := none) hC.i hC.x.hg hC.x.hk hC.x.hs hC.x.ha hC.x.hn hC.x.ht hC.x.hm) I.kIn J hk (by intro z; cases z) fun tk => ?_
      exact ⟨.bl true, H, I.tok _, rfl, q⟩
theorem op_eqDK {X : Cx} {K : PySem.W.Frag} (hu : X.A.units + 64 < cLine) (h : X.K = K := by rfl) : OpR X (compareOp .Eq) (rEqD K) := h ▸ op_eqD hu
end L2
namespace Sw
open PySem PySem.Spec PyProof.Rows L2
def spLinked (K : PySem.W.Frag) (C D : Addr) : Sp := fun vs H Q E => ∃ (p q r : Addr) (n : Int) (ks : Tups) (cam one other : List Int), vs = [.ref p, .ref q, .ref r] ∧ SkyS K C H p n ks cam ∧ isSky n (keys ks) cam = true ∧ SqT K H q (one.map V.int) ∧ SqT K H r (other.map V.int) ∧
  (isPose n one = true → isPose n other = true → ∀ (H' : Hp) (l : Addr) (es : Tups), Same H H' → H' l = some (.lst (refs es)) → TupsAt K H' es → keys es = linksN n cam (keys ks) one other → Q (.ref l) H') ∧ twoErr D E H q r n one other
/-- one of both is refused: the first one that is none -/
def Bad (n : Int) (one other bad : List Int) (kind : Int) : Prop := (isPose n one = false ∧ one = bad) ∨ (isPose n one = true ∧ isPose n other = false ∧ other = bad ∧ kind < 9)
def spCalled (K : PySem.W.Frag) (C D : Addr) : Sp := fun vs H Q E => ∃ (p q r : Addr) (n kind : Int) (ks : Tups) (cam one other bad : List Int), vs = [.int kind, .ref p, .ref q, .ref r] ∧ SkyS K C H p n ks cam ∧ isSky n (keys ks) cam = true ∧ ks.length ≤ 6 ∧ SqT K H q (one.map V.int) ∧ SqT K H r (other.map V.int) ∧ 0 ≤ kind ∧ kind ≤ 9 ∧ Bad n one other bad kind ∧
  ∀ (d x : Addr) (H' : Hp), Same H H' → SqT K H' x (bad.map V.int) → H' d = some (.xd [("attitude", .ref x)]) → E (.ref D) (some d) H'
def spRefused (K : PySem.W.Frag) (C : Addr) : Sp := fun vs H Q _ => ∃ (p q r bl : Addr) (n kind : Int) (ks : Tups) (cam one other bad : List Int), vs = [.int kind, .ref p, .ref q, .ref r, .ref bl] ∧ SkyS K C H p n ks cam ∧ isSky n (keys ks) cam = true ∧ ks.length ≤ 6 ∧ SqT K H q (one.map V.int) ∧ SqT K H r (other.map V.int) ∧ SqT K H bl (bad.map V.int) ∧ 0 ≤ kind ∧ kind ≤ 9 ∧ Bad n one other bad kind ∧
  ∀ H', Same H H' → Q (.bl true) H'
theorem links_flat (n : Int) (cam : List Int) (kk : List (List Int)) (one other : List Int) : linksN n cam kk one other = (List.range kk.length).flatMap fun a : Nat => (rowN n cam kk one other a).map fun b => [(a : Int), b] := by
  unfold linksN rowN
  congr 1
  funext a
  rw [List.map_map]
  rfl
theorem seen_flat {β : Type} (n : Int) (cam at_ : List Int) (G : Int → List β) : ∀ (l : List (List Int)) (j : Nat), (∀ m : Nat, (l[m]?).bind (seenOne n cam at_) = none → G ((j + m : Nat) : Int) = []) →
    (seenI n cam at_ j l).flatMap (fun z => G z.1) = (List.range l.length).flatMap fun m : Nat => G ((j + m : Nat) : Int)
  | [], j, _ => rfl
  | k :: r, j, h => by
    have ih := seen_flat n cam at_ G r (j + 1) fun m hm => by
      have := h (m + 1) hm
      rw [show j + 1 + m = j + (m + 1) by omega]
      exact this
    show ((match seenOne n cam at_ k with | some d => [((j : Int), d)] | none => []) ++ seenI n cam at_ (j + 1) r).flatMap (fun z => G z.1) = _
    rw [List.flatMap_append, ih, List.length_cons, List.range_succ_eq_map, List.flatMap_cons, List.flatMap_map]
    have e2 : (List.range r.length).flatMap (fun m : Nat => G ((j + 1 + m : Nat) : Int)) = (List.range r.length).flatMap fun m : Nat => G ((j + m.succ : Nat) : Int) := by
      congr 1
      funext m
      rw [show j + 1 + m = j + m.succ by omega]
    rw [e2]
    congr 1
    cases e : seenOne n cam at_ k with
    | none =>
      have := h 0 (by show (some k).bind _ = none; exact e)
      rw [this]
      rfl
    | some d =>
      show G (j : Int) ++ [] = G ((j + 0 : Nat) : Int)
      rw [List.append_nil]
      rfl
theorem flat_congr {α β : Type} {f g : α → List β} : ∀ {l : List α}, (∀ a ∈ l, f a = g a) → l.flatMap f = l.flatMap g
  | [], _ => rfl
  | a :: l, h => by rw [List.flatMap_cons, List.flatMap_cons, h a List.mem_cons_self, flat_congr fun b hb => h b (List.mem_cons_of_mem _ hb)]
theorem links_seen (n : Int) (cam : List Int) (kk : List (List Int)) (one other : List Int) : ((seenI n cam one 0 kk).map (·.1)).flatMap (fun a => (tP (tblN n cam kk one other) a).map fun b => [a, b]) = linksN n cam kk one other := by
  rw [List.flatMap_map]
  have := seen_flat n cam one (fun a => (tP (tblN n cam kk one other) a).map fun b => [a, b]) kk 0 fun m hm => by
    rw [Nat.zero_add]
    show (tP (tblN n cam kk one other) (m : Int)).map _ = []
    have e : tP (tblN n cam kk one other) (m : Int) = [] := by
      unfold tP tblN
      rw [if_pos (Int.natCast_nonneg m), Int.toNat_natCast, List.getElem?_map]
      by_cases hl : m < kk.length
      · rw [List.getElem?_range hl]
        exact row_none hm
      · rw [List.getElem?_eq_none (by rw [List.length_range]; omega)]
        rfl
    rw [e]
    rfl
  rw [this, links_flat]
  refine flat_congr fun a ha => ?_
  rw [Nat.zero_add]
  unfold tP tblN
  rw [if_pos (Int.natCast_nonneg a), Int.toNat_natCast, List.getElem?_map, List.getElem?_range (List.mem_range.mp ha)]
  rfl
theorem links_lt (n : Int) (cam : List Int) (kk : List (List Int)) (one other : List Int) : (linksN n cam kk one other).Pairwise fun a b => ltI a b = true := by
  unfold linksN
  rw [List.pairwise_flatMap]
  refine ⟨fun x _ => ?_, List.pairwise_lt_range.imp fun {a b} h u hu v hv => ?_⟩
  · rw [List.pairwise_map]
    refine (List.pairwise_lt_range.imp fun {a b} h => ?_).sublist List.filter_sublist
    show (decide ((x : Int) < x) || (decide ((x : Int) = x) && (decide ((a : Int) < b) || _))) = true
    rw [decide_eq_true (rfl : (x : Int) = x), decide_eq_true (show (a : Int) < b by omega)]
    simp
  · obtain ⟨q, _, rfl⟩ := List.mem_map.mp hu
    obtain ⟨q', _, rfl⟩ := List.mem_map.mp hv
    show (decide ((a : Int) < b) || _) = true
    rw [decide_eq_true (show (a : Int) < b by omega)]
    rfl
theorem links_asc (n : Int) (cam : List Int) (kk : List (List Int)) (one other : List Int) : AscL (linksN n cam kk one other) := (links_lt n cam kk one other).imp fun {a b} h => ltI_asymm a b h
theorem lt_nodup {l : List (List Int)} (h : l.Pairwise fun a b => ltI a b = true) : l.Nodup := h.imp fun {a b} h e => by
  have := ltI_asymm a b h
  rw [e] at this h
  rw [h] at this
  cases this
/-- the links of both sides -/
theorem links_perm (n : Int) (cam : List Int) (kk : List (List Int)) (one other : List Int) : (linksN n cam kk other one).Perm (pairs2 (swp (linksP n cam kk one other))) := by
  have hn := lt_nodup (links_lt n cam kk one other)
  rw [linksP_eq] at hn
  have hP : (linksP n cam kk one other).Nodup := by
    unfold pairs2 at hn
    rw [List.Nodup, List.pairwise_map] at hn
    exact hn.imp fun {a b} h e => h (by rw [e])
  have hQ : (pairs2 (swp (linksP n cam kk one other))).Nodup := by
    unfold pairs2 swp
    rw [List.map_map, List.Nodup, List.pairwise_map]
    refine hP.imp fun {a b} h e => h ?_
    have e' : [a.2, a.1] = [b.2, b.1] := e
    injection e' with e1 e2
    injection e2 with e2 _
    exact Prod.ext e2 e1
  refine (List.perm_ext_iff_of_nodup (lt_nodup (links_lt n cam kk other one)) hQ).mpr fun z => ?_
  rw [linksP_eq]
  unfold pairs2
  rw [List.mem_map, List.mem_map]
  constructor
  · rintro ⟨x, hx, rfl⟩
    exact ⟨x, mem_swp.mpr (linksP_mem.mpr (tbl_turn (linksP_mem.mp hx))), rfl⟩
  · rintro ⟨x, hx, rfl⟩
    exact ⟨x, linksP_mem.mpr (tbl_turn (linksP_mem.mp (mem_swp.mp hx))), rfl⟩
end Sw
namespace Sw
open PySem PySem.Spec PyProof.Rows L2
theorem tP_len (n : Int) (cam : List Int) (kk : List (List Int)) (one other : List Int) (a : Int) : (tP (tblN n cam kk one other) a).length ≤ kk.length := by
  unfold tP
  split
  · unfold tblN
    rw [List.getElem?_map]
    cases e : (List.range kk.length)[a.toNat]? with
    | none => exact Nat.zero_le _
    | some m =>
      show (rowN n cam kk one other m).length ≤ _
      unfold rowN
      rw [List.length_map]
      have := List.length_filter_le (lkN n cam kk one other m) (List.range kk.length)
      rw [List.length_range] at this
      exact this
  · exact Nat.zero_le _
theorem shw_links {n : Int} {cam : List Int} {kk : List (List Int)} {one other : List Int} (h : kk.length ≤ 20) : SwG.Shw (.list ((linksN n cam kk one other).map dTI)) := by
  have hl := linksN_len n cam kk one other h
  refine (SwG.shb_list (w := 84) (k := 1) (ds := (linksN n cam kk one other).map dTI) fun d hd => ?_).shw (by rw [List.length_map]; omega) (by decide)
  obtain ⟨z, hz, rfl⟩ := List.mem_map.mp hd
  rw [linksP_eq] at hz
  unfold pairs2 at hz
  obtain ⟨x, hx, rfl⟩ := List.mem_map.mp hz
  have hc := linksP_cols (r := x.1) (c := x.2) hx
  have h1 : x.1.natAbs < 10 ^ 12 := by
    obtain ⟨m, hm, e⟩ := List.mem_map.mp hc.1
    have := List.mem_range.mp hm
    rw [← e]
    show m < 10 ^ 12
    omega
  have h2 : x.2.natAbs < 10 ^ 12 := by
    obtain ⟨m, hm, e⟩ := List.mem_map.mp hc.2
    have := List.mem_range.mp hm
    rw [← e]
    show m < 10 ^ 12
    omega
  exact SwG.shb_tuple (w := 41) (k := 0) (ds := [.int x.1, .int x.2]) fun d hd => by
    rcases List.mem_cons.mp hd with rfl | hd
    · exact SwG.shb_int h1
    · rw [List.mem_singleton.mp hd]
      exact SwG.shb_int h2
end Sw
namespace Sw
open PySem PySem.Spec PyProof.Rows L2
theorem sqL_dk {K : PySem.W.Frag} {H : Hp} {d p : Addr} {kvs : List (Key × V)} {o : HO} {ys : List V} (hl : H d = some (.dK kvs)) (h : SqL K H p ys) : SqL K (upd H d o) p ys := by
  rcases h with (h | ⟨u, h⟩) | h
  · exact .inl (.inl (by rw [upd_ne (fun z => by rw [z, hl] at h; cases h)]; exact h))
  · exact .inl (.inr ⟨u, by rw [upd_ne (fun z => by rw [z, hl] at h; cases h)]; exact h⟩)
  · exact .inr h
end Sw
namespace Sw
open PySem PySem.Spec PyProof.Rows L2
theorem kind_eq {i j : Int} (h : decide (V.int i = V.int j) = true) : i = j := by
  have := of_decide_eq_true h
  injection this
theorem kind_ne {i j : Int} (h : ¬ decide (V.int i = V.int j) = true) : i ≠ j := fun e => h (by rw [e]; exact decide_eq_true rfl)
end Sw
set_option Elab.async false
set_option linter.all false
set_option maxRecDepth 100000
set_option maxHeartbeats 4000000
/-! Spots, what fits, sightings. -/
namespace Sw
open PySem PySem.Spec PyProof.Rows L2
def isSpot : List Int → List Int → Bool
  | [r, _, g, l], [x, y, b] => decide (iabs x ≤ r ∧ iabs y ≤ r ∧ l ≤ b ∧ b ≤ 9 + g)
  | _, _ => false
theorem spot_len {r bl g l : Int} {sp : List Int} (h : ((sp.length : Nat) : Int) ≠ 3) : isSpot [r, bl, g, l] sp = false := by
  match sp, h with
  | [], _ => rfl
  | [_], _ => rfl
  | [_, _], _ => rfl
  | [_, _, _], h => exact absurd (by simp) h
  | _ :: _ :: _ :: _ :: _, _ => rfl
theorem spot_form {cam sp : List Int} (h : isSpot cam sp = true) : ∃ x y b, sp = [x, y, b] := by
  match cam, sp, h with
  | [r, _, g, l], [x, y, b], _ => exact ⟨x, y, b, rfl⟩
def nearC (bl g : Int) : List Int → List Int → Bool
  | [x, y, b], [u, v, c] => decide (iabs (x - u) ≤ bl ∧ iabs (y - v) ≤ bl ∧ iabs (b - c) ≤ g)
  | _, _ => false
/-- does a spot fit a star -/
def fitsI (n : Int) (cam at_ k sp : List Int) : Bool :=
  match offI n cam at_ k, cam, k with
  | some (u, v), [_, bl, g, _], [_, _, b] => nearC bl g [u, v, b] sp
  | _, _, _ => false
instance (l : List (List Int)) : Decidable (AscL l) := inferInstanceAs (Decidable (List.Pairwise _ _))
/-- is a row of tuples a sighting -/
def isSight (cam : List Int) (kk : List (List Int)) : Bool := kk.all (isSpot cam) && decide (AscL kk) && decide (kk.length ≤ 60)
def spIsSpot (K : PySem.W.Frag) (C : Addr) : Sp := fun vs H Q _ => ∃ (p ps : Addr) (n : Int) (st : List V) (r b g l : Int) (sp : List Int), vs = [.ref p, .ref ps] ∧ SkyAt K C H p n st [r, b, g, l] ∧ SqT K H ps (sp.map V.int) ∧ Q (.bl (isSpot [r, b, g, l] sp)) H
def spLSpot (K : PySem.W.Frag) : Sp := fun vs H Q _ => ∃ (pp ps : Addr) (n : Int) (ks : Tups) (r b g l : Int) (sp : List Int), vs = [.ref pp, .ref ps] ∧ PartsAt K H pp n ks [r, b, g, l] ∧ SqT K H ps (sp.map V.int) ∧ Q (.bl (isSpot [r, b, g, l] sp)) H
def spNear3 (K : PySem.W.Frag) : Sp := fun vs H Q _ => ∃ (p q : Addr) (x y c u v d b g : Int), vs = [.ref p, .ref q, .int b, .int g] ∧ SqT K H p [.int x, .int y, .int c] ∧ SqT K H q [.int u, .int v, .int d] ∧ Q (.bl (nearC b g [x, y, c] [u, v, d])) H
def spSight (K : PySem.W.Frag) (C D : Addr) : Sp := fun vs H Q E => ∃ (p ps : Addr) (n : Int) (st : List V) (r b g l : Int) (ks : Tups), vs = [.ref p, .ref ps] ∧ SkyAt K C H p n st [r, b, g, l] ∧ SqT K H ps (refs ks) ∧ TupsAt K H ks ∧
  (isSight [r, b, g, l] (keys ks) = true → ∀ H', Same H H' → Q .non H') ∧ (isSight [r, b, g, l] (keys ks) = false → ∀ H', Same H H' → E (.ref D) none H')
def spTaken (K : PySem.W.Frag) (C : Addr) : Sp := fun vs H Q _ => ∃ (p ps : Addr) (n : Int) (st : List V) (r b g l : Int) (ks : Tups), vs = [.ref p, .ref ps] ∧ SkyAt K C H p n st [r, b, g, l] ∧ SqT K H ps (refs ks) ∧ TupsAt K H ks ∧
  ∀ H', Same H H' → Q (.bl (isSight [r, b, g, l] (keys ks))) H'
def spFits (K : PySem.W.Frag) (C D F S : Addr) : Sp := fun vs H Q E => ∃ (p pa ps : Addr) (n : Int) (ks : Tups) (cam at_ sp : List Int) (j : Int), vs = [.ref p, .ref pa, .int j, .ref ps] ∧ SkyS K C H p n ks cam ∧ isSky n (keys ks) cam = true ∧ SqT K H pa (at_.map V.int) ∧ SqT K H ps (sp.map V.int) ∧
  (isPose n at_ = false → ∀ (d : Addr) (H' : Hp), Same H H' → H' d = some (.xd [("attitude", .ref pa)]) → E (.ref D) (some d) H') ∧
  (isPose n at_ = true → (j < 0 ∨ (ks.length : Int) ≤ j) → ∀ (d : Addr) (H' : Hp), Same H H' → H' d = some (.xd [("number", .int j)]) → E (.ref F) (some d) H') ∧
  (isPose n at_ = true → ∀ k : List Int, 0 ≤ j → (keys ks)[j.toNat]? = some k → (isSpot cam sp = false → ∀ H', Same H H' → E (.ref S) none H') ∧ (isSpot cam sp = true → ∀ H', Same H H' → Q (.bl (fitsI n cam at_ k sp)) H'))
def spLFits (K : PySem.W.Frag) : Sp := fun vs H Q _ => ∃ (pp pa ps pt : Addr) (n : Int) (ks : Tups) (r b g l x y q sx sy bb u v c : Int), vs = [.ref pp, .ref pa, .ref ps, .ref pt] ∧ PartsAt K H pp n ks [r, b, g, l] ∧ 4 ≤ n ∧ n ≤ 9 ∧ isCam n [r, b, g, l] = true ∧ SqT K H pa [.int x, .int y, .int q] ∧ 0 ≤ q ∧ q ≤ 3 ∧ SqT K H ps [.int sx, .int sy, .int bb] ∧ SqT K H pt [.int u, .int v, .int c] ∧
  ∀ H', Same H H' → Q (.bl (fitsI n [r, b, g, l] [x, y, q] [sx, sy, bb] [u, v, c])) H'
def toldF (n : Int) (cam at_ : List Int) (kk : List (List Int)) (j : Int) (sp : List Int) : PyData :=
  if isPose n at_ then (if j < 0 ∨ (kk.length : Int) ≤ j then .tuple [.int 2, .int j] else if isSpot cam sp then .tuple [.int 0, .bool (fitsI n cam at_ (kk.getD j.toNat []) sp)] else .tuple [.int 3, .none]) else .tuple [.int 1, dTI at_]
def spToldF (K : PySem.W.Frag) (C : Addr) : Sp := fun vs H Q _ => ∃ (p pa ps : Addr) (n : Int) (ks : Tups) (cam at_ sp : List Int) (j : Int), vs = [.ref p, .ref pa, .int j, .ref ps] ∧ SkyS K C H p n ks cam ∧ isSky n (keys ks) cam = true ∧ SqT K H pa (at_.map V.int) ∧ SqT K H ps (sp.map V.int) ∧
  ∀ (H' : Hp) (t : Addr), Same H H' → Dp K H' (.ref t) (toldF n cam at_ (keys ks) j sp) → Q (.ref t) H'
/-- a drawn spot -/
def spLDraw (K : PySem.W.Frag) : Sp := fun vs H Q _ => ∃ (pp pa p1 : Addr) (n : Int) (ks : Tups) (r b g l x y q at' : Int) (ns : List Int), vs = [.ref pp, .ref pa, .ref p1, .int at'] ∧ PartsAt K H pp n ks [r, b, g, l] ∧ isSky n (keys ks) [r, b, g, l] = true ∧ SqT K H pa [.int x, .int y, .int q] ∧ 0 ≤ q ∧ q ≤ 3 ∧
  SqL K H p1 (ns.map V.int) ∧ 0 ≤ at' ∧ at' + 4 < (ns.length : Int) ∧ ∀ (H' : Hp) (t : Addr) (u v c : Int), Same H H' → SqT K H' t [.int u, .int v, .int c] → Q (.ref t) H'
/-- two lists of such are compared -/
theorem ne_tups {K : PySem.W.Frag} {x y : V} {a b : List (List Int)} {H : Hp} {Q : VK} (hx : Dp K H x (.list (a.map dTI))) (hy : Dp K H y (.list (b.map dTI))) (q : Q (.bl (!decide (a = b))) H) : rNeD K x y H Q :=
  ⟨_, _, hx, hy, shaped_of (lay_tups a) (by decide), shaped_of (lay_tups b) (by decide), by rw [show PyData.eqv (.list (a.map dTI)) (.list (b.map dTI)) = decide (a = b) from eqvAll_tups a b]; exact q⟩
theorem eq_tups {K : PySem.W.Frag} {x y : V} {a b : List (List Int)} {H : Hp} {Q : VK} (hx : Dp K H x (.list (a.map dTI))) (hy : Dp K H y (.list (b.map dTI))) (q : Q (.bl (decide (a = b))) H) : rEqD K x y H Q :=
  ⟨_, _, hx, hy, shaped_of (lay_tups a) (by decide), shaped_of (lay_tups b) (by decide), by rw [show PyData.eqv (.list (a.map dTI)) (.list (b.map dTI)) = decide (a = b) from eqvAll_tups a b]; exact q⟩
/-- a list is its own sorting just if it ascends -/
theorem sorted_same {ks ks' : Tups} (hp : ks'.Perm ks) (ha : AscL (keys ks')) : decide (keys ks = keys ks') = decide (AscL (keys ks)) := by
  by_cases h : AscL (keys ks)
  · rw [decide_eq_true h, decide_eq_true (ascL_unique h ha (hp.map _).symm)]
  · rw [decide_eq_false h, decide_eq_false (fun e => h (by rw [e]; exact ha))]
end Sw
namespace Sw
open PySem PySem.Spec PyProof.Rows L2
theorem refs_rep (m : Nat) (k : Tups) : (List.replicate m (refs k)).flatten = refs (List.replicate m k).flatten := by
  unfold refs
  rw [List.map_flatten, List.map_replicate]
theorem mem_rep {m : Nat} {k : Tups} {p : Addr × List Int} (h : p ∈ (List.replicate m k).flatten) : p ∈ k := by
  obtain ⟨l, hl, hp⟩ := List.mem_flatten.mp h
  rw [(List.mem_replicate.mp hl).2] at hp
  exact hp
theorem rep_len (m : Nat) (k : Tups) : (List.replicate m k).flatten.length = m * k.length := by
  rw [List.length_flatten, List.map_replicate, List.sum_replicate_nat]
/-- a row of the law: a tuple of tuples, none of them empty -/
def RowAt (K : PySem.W.Frag) (H : Hp) (y : V) : Prop := ∃ (t : Addr) (kr : Tups), y = .ref t ∧ SqT K H t (refs kr) ∧ TupsAt K H kr ∧ (∀ p ∈ kr, p.2 ≠ []) ∧ kr.length ≤ 4000
theorem rowAt_up {K : PySem.W.Frag} {H H' : Hp} {y : V} (s : Same H H') : RowAt K H y → RowAt K H' y := fun ⟨t, kr, e, h1, h2, h3, h4⟩ => ⟨t, kr, e, sqT_up s h1, tups_up s h2, h3, h4⟩
theorem isSight_cut {cam : List Int} {kk : List (List Int)} (h : kk.length ≤ 60) : isSight cam kk = ((kk.map (isSpot cam)).all id && decide (AscL kk)) := by
  unfold isSight
  rw [decide_eq_true h, Bool.and_true, List.all_map]
  rfl
end Sw
set_option Elab.async false
set_option linter.all false
/-! Frames: a sky and a sighting, with what is known of looks and attitudes (own work; k12 and its family). -/
namespace Sw
open PySem PySem.Spec PyProof.Rows L2
abbrev DT := List (List L2.Key × V)
def frF (p st df dn : Addr) : List (Str × V) := putF "_needs" (.ref dn) (putF "_fitting" (.ref df) (putF "_sighting" (.ref st) (putF "_sky" (.ref p) [])))
theorem frF_sky (p st df dn : Addr) : (frF p st df dn).lookup ("_sky" : Str) = some (.ref p) := by
  unfold frF
  rw [lookup_putF, if_neg (by decide +kernel), lookup_putF, if_neg (by decide +kernel), lookup_putF, if_neg (by decide +kernel), lookup_putF, if_pos rfl]
theorem frF_sight (p st df dn : Addr) : (frF p st df dn).lookup ("_sighting" : Str) = some (.ref st) := by
  unfold frF
  rw [lookup_putF, if_neg (by decide +kernel), lookup_putF, if_neg (by decide +kernel), lookup_putF, if_pos rfl]
theorem frF_fit (p st df dn : Addr) : (frF p st df dn).lookup ("_fitting" : Str) = some (.ref df) := by
  unfold frF
  rw [lookup_putF, if_neg (by decide +kernel), lookup_putF, if_pos rfl]
theorem frF_need (p st df dn : Addr) : (frF p st df dn).lookup ("_needs" : Str) = some (.ref dn) := by
  unfold frF
  rw [lookup_putF, if_pos rfl]
/-- the spots that are near to a look -/
def nearK (b g : Int) (sp : List (List Int)) (d : List Int) : List Int := ((List.range sp.length).filter fun k => match sp[k]? with | some s => nearC b g d s | none => false).map Int.ofNat
def FitD (H : Hp) (b g : Int) (sp : List (List Int)) (F : DT) : Prop := ∀ e ∈ F, ∃ (d : List Int) (l : Addr), e = (d.map Sum.inl, .ref l) ∧ H l = some (.lst ((nearK b g sp d).map V.int))
/-- what is told of an attitude -/
def MaxIs (P : Int → List Int) (W : List Int) (m : Int) : Prop := ∃ g : MM, Mt P g ∧ (∀ r c, lk g r = some c → r ∈ W) ∧ MaxOn P W g ∧ m = ((W.filter (has g)).length : Int)
def NeedIs (P : Int → List Int) (S R : List Int) (k x y : Int) : Prop := LackIs P S x ∧ LackIs P R ((R.length : Int) - (k - y)) ∧ MaxIs P S ((S.length : Int) - x) ∧ MaxIs P R (k - y)
def spMostX (K : PySem.W.Frag) : Sp := fun vs H Q _ => ∃ (t rl : Addr) (tb : Tups) (W : List Int), vs = [.ref t, .ref rl] ∧ TabAt K H t tb ∧ TabOk (keys tb) ∧ SqL K H rl (W.map V.int) ∧ W.Nodup ∧ (∀ r ∈ W, 0 ≤ r ∧ r < (tb.length : Int)) ∧
  ∀ (H' : Hp) (m : Int), Same H H' → LackIs (tP (keys tb)) W ((W.length : Int) - m) → MaxIs (tP (keys tb)) W m → Q (.int m) H'
def tabF (n : Int) (cam : List Int) (kk sp : List (List Int)) (at_ : List Int) : List (List Int) := (List.range kk.length).map fun a => match cam, sO n cam at_ kk a with
  | [_, b, g, _], some d => nearK b g sp d
  | _, _ => []
def NeedAt (n : Int) (cam : List Int) (kk sp : List (List Int)) (at_ : List Int) (x y : Int) : Prop := NeedIs (tP (tabF n cam kk sp at_)) (sureN n cam at_ kk) ((List.range kk.length).map Int.ofNat) sp.length x y
def NeedD (K : PySem.W.Frag) (H : Hp) (n : Int) (cam : List Int) (kk sp : List (List Int)) (N : DT) : Prop := ∀ e ∈ N, ∃ (at_ : List Int) (t : Addr) (x y : Int), e = (at_.map Sum.inl, .ref t) ∧ SqT K H t [.int x, .int y] ∧ NeedAt n cam kk sp at_ x y
structure FrAt (K : PySem.W.Frag) (C Cf : Addr) (H : Hp) (x p st df dn : Addr) (n : Int) (ks : Tups) (cam : List Int) (ss : Tups) (F N : DT) : Prop where
  ins : ∃ dx, H x = some (.ins Cf dx (frF p st df dn))
  sky : SkyS K C H p n ks cam
  hst : SqT K H st (refs ss)
  hss : TupsAt K H ss
  ef : H df = some (.dT F)
  en : H dn = some (.dT N)
  ne : df ≠ dn
  fit : ∀ b g, cam = [cam.getD 0 0, b, g, cam.getD 3 0] → FitD H b g (keys ss) F
  need : NeedD K H n cam (keys ks) (keys ss) N
/-- all stays but the two dicts -/
theorem at2 {df dn q : Addr} {H H' : Hp} {F N : DT} {o : HO} (s : Same2 df dn H H') (ef : H df = some (.dT F)) (en : H dn = some (.dT N)) (h : H q = some o) (ho : ∀ F, o ≠ .dT F) : H' q = some o :=
  s _ _ (fun e => ho F (by rw [e, ef] at h; exact (Option.some.inj h).symm)) (fun e => ho N (by rw [e, en] at h; exact (Option.some.inj h).symm)) h
theorem rd_2 {df dn q : Addr} {H H' : Hp} {F N : DT} {o : HO} (s : Same2 df dn H H') (ef : H df = some (.dT F)) (en : H dn = some (.dT N)) (h : Rd H q o) (ho : ∀ F, o ≠ .dT F) : Rd H' q o := by
  rcases h with h | ⟨u, h⟩
  · exact .inl (at2 s ef en h ho)
  · exact .inr ⟨u, at2 s ef en h fun _ e => by cases e⟩
theorem sqT_2 {K : PySem.W.Frag} {df dn q : Addr} {H H' : Hp} {F N : DT} {xs : List V} (s : Same2 df dn H H') (ef : H df = some (.dT F)) (en : H dn = some (.dT N)) (h : SqT K H q xs) : SqT K H' q xs := h.imp (fun h => rd_2 s ef en h fun _ e => by cases e) id
theorem sqL_2 {K : PySem.W.Frag} {df dn q : Addr} {H H' : Hp} {F N : DT} {xs : List V} (s : Same2 df dn H H') (ef : H df = some (.dT F)) (en : H dn = some (.dT N)) (h : SqL K H q xs) : SqL K H' q xs := h.imp (fun h => rd_2 s ef en h fun _ e => by cases e) id
theorem tups_2 {K : PySem.W.Frag} {df dn : Addr} {H H' : Hp} {F N : DT} {ks : Tups} (s : Same2 df dn H H') (ef : H df = some (.dT F)) (en : H dn = some (.dT N)) (h : TupsAt K H ks) : TupsAt K H' ks := fun p hp => sqT_2 s ef en (h p hp)
theorem skyS_2 {K : PySem.W.Frag} {C df dn p : Addr} {H H' : Hp} {F N : DT} {n : Int} {ks : Tups} {cam : List Int} (s : Same2 df dn H H') (ef : H df = some (.dT F)) (en : H dn = some (.dT N)) (h : SkyS K C H p n ks cam) : SkyS K C H' p n ks cam := by
  obtain ⟨⟨dx, ts, tc, h1, h2, h3⟩, ht⟩ := h
  exact ⟨⟨dx, ts, tc, at2 s ef en h1 (fun _ e => by cases e), sqT_2 s ef en h2, sqT_2 s ef en h3⟩, tups_2 s ef en ht⟩
theorem frAt_up {K : PySem.W.Frag} {C Cf : Addr} {H H' : Hp} {x p st df dn : Addr} {n : Int} {ks ss : Tups} {cam : List Int} {F N : DT} (s : Same H H') (h : FrAt K C Cf H x p st df dn n ks cam ss F N) : FrAt K C Cf H' x p st df dn n ks cam ss F N where
  ins := let ⟨dx, e⟩ := h.ins; ⟨dx, s _ _ e⟩
  sky := skyS_up s h.sky
  hst := sqT_up s h.hst
  hss := tups_up s h.hss
  ef := s _ _ h.ef
  en := s _ _ h.en
  ne := h.ne
  fit := fun b g e z hz => let ⟨d, l, e1, e2⟩ := h.fit b g e z hz; ⟨d, l, e1, s _ _ e2⟩
  need := fun z hz => let ⟨a, t, x, y, e1, e2, e3⟩ := h.need z hz; ⟨a, t, x, y, e1, sqT_up s e2, e3⟩
def spFrInit (K : PySem.W.Frag) (C Cf : Addr) : Sp := fun vs H Q _ => ∃ (x dx p st : Addr) (n : Int) (ks ss : Tups) (cam : List Int), vs = [.ref x, .ref p, .ref st] ∧ H x = some (.ins Cf dx []) ∧ SkyS K C H p n ks cam ∧ SqT K H st (refs ss) ∧ TupsAt K H ss ∧
  ∀ (H' : Hp) (df dn : Addr), FrAt K C Cf H' x p st df dn n ks cam ss [] [] → (∀ b o, H b = some o → b ≠ x → H' b = some o) → (∀ o, H df = some o → df = x) → (∀ o, H dn = some o → dn = x) → df ≠ x → dn ≠ x → Q .non H'
def spNearTo (K : PySem.W.Frag) (C Cf : Addr) : Sp := fun vs H Q _ => ∃ (x lo p st df dn : Addr) (n r b g l : Int) (ks ss : Tups) (F N : DT) (d : List Int), vs = [.ref x, .ref lo] ∧ FrAt K C Cf H x p st df dn n ks [r, b, g, l] ss F N ∧ H lo = some (.tup (d.map V.int)) ∧ d.length = 3 ∧ (∀ z ∈ keys ss, z.length = 3) ∧ ss.length ≤ 64 ∧ F.length ≤ 100000 ∧
  ∀ (H' : Hp) (li : Addr) (F' : DT), Same2 df dn H H' → FrAt K C Cf H' x p st df dn n ks [r, b, g, l] ss F' N → H' li = some (.lst ((nearK b g (keys ss) d).map V.int)) → F'.length ≤ F.length + 1 → Q (.ref li) H'
def spTabSure (K : PySem.W.Frag) (C Cf : Addr) : Sp := fun vs H Q _ => ∃ (x pa p st df dn : Addr) (n : Int) (ks ss : Tups) (cam at_ : List Int) (F N : DT), vs = [.ref x, .ref pa] ∧ FrAt K C Cf H x p st df dn n ks cam ss F N ∧ isSky n (keys ks) cam = true ∧ SqT K H pa (at_.map V.int) ∧ isPose n at_ = true ∧ (∀ z ∈ keys ss, z.length = 3) ∧ ss.length ≤ 64 ∧ F.length ≤ 90000 ∧
  ∀ (H' : Hp) (t tl wl : Addr) (tb : Tups) (F' : DT), Same2 df dn H H' → FrAt K C Cf H' x p st df dn n ks cam ss F' N → SqT K H' t [.ref tl, .ref wl] → TabAt K H' tl tb → keys tb = tabF n cam (keys ks) (keys ss) at_ → H' wl = some (.lst ((sureN n cam at_ (keys ks)).map V.int)) → F'.length ≤ F.length + 20 → Q (.ref t) H'
def spFrNeed (K : PySem.W.Frag) (C Cf : Addr) : Sp := fun vs H Q _ => ∃ (x pa p st df dn : Addr) (n : Int) (ks ss : Tups) (cam at_ : List Int) (F N : DT), vs = [.ref x, .ref pa] ∧ FrAt K C Cf H x p st df dn n ks cam ss F N ∧ isSky n (keys ks) cam = true ∧ H pa = some (.tup (at_.map V.int)) ∧ isPose n at_ = true ∧ (∀ z ∈ keys ss, z.length = 3) ∧ ss.length ≤ 64 ∧ F.length ≤ 90000 ∧ N.length ≤ 90000 ∧
  ∀ (H' : Hp) (t : Addr) (z y : Int) (F' N' : DT), Same2 df dn H H' → FrAt K C Cf H' x p st df dn n ks cam ss F' N' → SqT K H' t [.int z, .int y] → NeedAt n cam (keys ks) (keys ss) at_ z y → F'.length ≤ F.length + 20 → N'.length ≤ N.length + 1 → Q (.ref t) H'
def spFrSpots (K : PySem.W.Frag) (C Cf : Addr) : Sp := fun vs H Q _ => ∃ (x p st df dn : Addr) (n : Int) (ks ss : Tups) (cam : List Int) (F N : DT), vs = [.ref x] ∧ FrAt K C Cf H x p st df dn n ks cam ss F N ∧ ss.length ≤ 64 ∧
  ∀ (H' : Hp) (l : Addr), Same H H' → H' l = some (.lst (((List.range ss.length).map Int.ofNat).map V.int)) → Q (.ref l) H'
end Sw
namespace Sw
open PySem PySem.Spec PyProof.Rows L2
theorem putF_len (k : Str) (v : V) : ∀ fs : List (Str × V), (putF k v fs).length ≤ fs.length + 1
  | [] => Nat.le_refl _
  | (g, x) :: r => by
    show (if g = k then (g, v) :: r else (g, x) :: putF k v r).length ≤ _
    by_cases h : g = k
    · rw [if_pos h]
      exact Nat.le_succ _
    · rw [if_neg h]
      exact Nat.succ_le_succ (putF_len k v r)
theorem kmap (d : List Int) : (d.map (Sum.inl : Int → L2.Key)).map kV = d.map V.int := by
  rw [List.map_map]
  rfl
theorem inl_map {a b : List Int} (h : a.map (Sum.inl : Int → L2.Key) = b.map Sum.inl) : a = b := by
  induction a generalizing b with
  | nil => cases b with
    | nil => rfl
    | cons _ _ => cases h
  | cons x r ih => cases b with
    | nil => cases h
    | cons y q =>
      injection h with h1 h2
      rw [Sum.inl.inj h1, ih h2]
theorem val_mem {κ : Type} [DecidableEq κ] {kvs : List (κ × V)} {k : κ} {v : V} (h : valV kvs k = some v) : (k, v) ∈ kvs := by
  unfold valV at h
  obtain ⟨e, he, rfl⟩ := Option.map_eq_some_iff.mp h
  have h1 := List.find?_some he
  have h2 := List.mem_of_find?_eq_some he
  have h3 : e.1 = k := of_decide_eq_true h1
  rw [← h3]
  exact h2
theorem val_put {κ : Type} [DecidableEq κ] {kvs : List (κ × V)} {k : κ} {v : V} (h : valV kvs k = none) : putK kvs k v = kvs ++ [(k, v)] ∧ valV (putK kvs k v) k = some v := by
  have hn : ¬ ((kvs.any fun kv => decide (kv.1 = k)) = true) := fun ha => by
    unfold valV at h
    have h1 := Option.map_eq_none_iff.mp h
    obtain ⟨e, he, h2⟩ := List.any_eq_true.mp ha
    exact absurd h2 (List.find?_eq_none.mp h1 e he)
  have e : putK kvs k v = kvs ++ [(k, v)] := by
    unfold putK
    rw [if_neg hn]
  refine ⟨e, ?_⟩
  rw [e]
  unfold valV at h ⊢
  rw [List.find?_append, Option.map_eq_none_iff.mp h, List.find?_cons_of_pos (by exact decide_eq_true rfl)]
  rfl
end Sw
namespace Sw
open PySem PySem.Spec PyProof.Rows L2
theorem frAt_put {K : PySem.W.Frag} {C Cf : Addr} {H : Hp} {x p st df dn li : Addr} {n r b g l : Int} {ks ss : Tups} {F N : DT} {d : List Int} (h : FrAt K C Cf H x p st df dn n ks [r, b, g, l] ss F N) (hl : H li = some (.lst ((nearK b g (keys ss) d).map V.int))) (hv : valV F (d.map (Sum.inl : Int → L2.Key)) = none) :
    FrAt K C Cf (upd H df (.dT (putK F (d.map Sum.inl) (.ref li)))) x p st df dn n ks [r, b, g, l] ss (putK F (d.map Sum.inl) (.ref li)) N := by
  have s : Same2 df dn H (upd H df (.dT (putK F (d.map Sum.inl) (.ref li)))) := same2_fst
  obtain ⟨dx, hi⟩ := h.ins
  refine ⟨⟨dx, at2 s h.ef h.en hi (fun _ e => by cases e)⟩, skyS_2 s h.ef h.en h.sky, sqT_2 s h.ef h.en h.hst, tups_2 s h.ef h.en h.hss, upd_same, by rw [upd_ne (Ne.symm h.ne)]; exact h.en, h.ne, fun b' g' e z hz => ?_, fun z hz => ?_⟩
  · injection e with _ e
    injection e with e1 e
    injection e with e2 _
    subst e1 e2
    rw [(val_put hv).1] at hz
    rcases List.mem_append.mp hz with hz | hz
    · obtain ⟨d', l', e1, e2⟩ := h.fit _ _ rfl z hz
      exact ⟨d', l', e1, at2 s h.ef h.en e2 (fun _ e => by cases e)⟩
    · rw [List.mem_singleton.mp hz]
      exact ⟨d, li, rfl, at2 s h.ef h.en hl (fun _ e => by cases e)⟩
  · obtain ⟨a, t, u, v, e1, e2, e3⟩ := h.need z hz
    exact ⟨a, t, u, v, e1, sqT_2 s h.ef h.en e2, e3⟩
theorem frAt_putN {K : PySem.W.Frag} {C Cf : Addr} {H : Hp} {x p st df dn t : Addr} {n u v : Int} {ks ss : Tups} {cam at_ : List Int} {F N : DT} (h : FrAt K C Cf H x p st df dn n ks cam ss F N) (ht : SqT K H t [.int u, .int v]) (hn : NeedAt n cam (keys ks) (keys ss) at_ u v) (hv : valV N (at_.map (Sum.inl : Int → L2.Key)) = none) :
    FrAt K C Cf (upd H dn (.dT (putK N (at_.map Sum.inl) (.ref t)))) x p st df dn n ks cam ss F (putK N (at_.map Sum.inl) (.ref t)) := by
  have s : Same2 df dn H (upd H dn (.dT (putK N (at_.map Sum.inl) (.ref t)))) := same2_snd
  obtain ⟨dx, hi⟩ := h.ins
  refine ⟨⟨dx, at2 s h.ef h.en hi (fun _ e => by cases e)⟩, skyS_2 s h.ef h.en h.sky, sqT_2 s h.ef h.en h.hst, tups_2 s h.ef h.en h.hss, by rw [upd_ne h.ne]; exact h.ef, upd_same, h.ne, fun b g e z hz => ?_, fun z hz => ?_⟩
  · obtain ⟨d, l, e1, e2⟩ := h.fit b g e z hz
    exact ⟨d, l, e1, at2 s h.ef h.en e2 (fun _ e => by cases e)⟩
  · rw [(val_put hv).1] at hz
    rcases List.mem_append.mp hz with hz | hz
    · obtain ⟨a, t', u', v', e1, e2, e3⟩ := h.need z hz
      exact ⟨a, t', u', v', e1, sqT_2 s h.ef h.en e2, e3⟩
    · rw [List.mem_singleton.mp hz]
      exact ⟨at_, t, u, v, rfl, sqT_2 s h.ef h.en ht, hn⟩
end Sw
namespace Sw
open PySem PySem.Spec PyProof.Rows L2
/-- the drawn looks, each one a plain tuple -/
def ShownX (H : Hp) (zs : Shown) : Prop := ∀ z ∈ zs, H z.2.1 = some (.tup (z.2.2.map V.int))
theorem shownX_at {K : PySem.W.Frag} {H : Hp} {zs : Shown} (h : ShownX H zs) : ShownAt K H zs := fun z hz => .inl (.inl (h z hz))
theorem tup_dk {H : Hp} {d p : Addr} {kvs : List (L2.Key × V)} {o : HO} {ys : List V} (hl : H d = some (.dK kvs)) (h : H p = some (.tup ys)) : (upd H d o) p = some (.tup ys) := by
  rw [upd_ne (fun z => by rw [z, hl] at h; cases h)]
  exact h
def spAppX (K : PySem.W.Frag) (C : Addr) : Sp := fun vs H Q _ => ∃ (p pa : Addr) (n : Int) (ks : Tups) (cam at_ : List Int), vs = [.ref p, .ref pa] ∧ SkyS K C H p n ks cam ∧ isSky n (keys ks) cam = true ∧ SqT K H pa (at_.map V.int) ∧ isPose n at_ = true ∧
  ∀ (H' : Hp) (d : Addr) (zs : Shown), Same H H' → H d = none → H' d = some (.dK (shownK zs)) → ShownX H' zs → shownD zs = seenI n cam at_ 0 (keys ks) → Q (.ref d) H'
end Sw
namespace Sw
open PySem PySem.Spec PyProof.Rows L2
theorem same2_put {a b d : Addr} {H H' : Hp} {o : HO} (n : H d = none) (s : Same2 a b H H') : Same2 a b H (upd H' d o) := fun q o' ha hb e => by
  rw [upd_ne (fun z => by rw [z, n] at e; cases e)]
  exact s q o' ha hb e
/-- what a frame tells leans on nothing at an address that holds another kind of thing -/
theorem frAt_off {K : PySem.W.Frag} {C Cf : Addr} {H : Hp} {x p st df dn d : Addr} {n : Int} {ks ss : Tups} {cam : List Int} {F N : DT} {w o : HO} (hd : H d = some w) (hi : ∀ c y f, w ≠ .ins c y f) (ht : ∀ xs, w ≠ .tup xs) (hf : ∀ u xs, w ≠ .frz u (.tup xs)) (hT : ∀ F, w ≠ .dT F) (hl : ∀ xs : List Int, w ≠ .lst (xs.map V.int)) (h : FrAt K C Cf H x p st df dn n ks cam ss F N) : FrAt K C Cf (upd H d o) x p st df dn n ks cam ss F N := by
  have off : ∀ q o1, H q = some o1 → o1 ≠ w → (upd H d o) q = some o1 := fun q o1 e hne => by
    rw [upd_ne (fun z => by rw [z, hd] at e; exact hne (Option.some.inj e).symm)]
    exact e
  have sq : ∀ {q : Addr} {xs : List V}, SqT K H q xs → SqT K (upd H d o) q xs := fun h => by
    rcases h with (h | ⟨u, h⟩) | h
    · exact .inl (.inl (off _ _ h fun e => ht _ e.symm))
    · exact .inl (.inr ⟨u, off _ _ h fun e => hf _ _ e.symm⟩)
    · exact .inr h
  obtain ⟨dx, h0⟩ := h.ins
  obtain ⟨⟨dy, ts, tc, h1, h2, h3⟩, h4⟩ := h.sky
  refine ⟨⟨dx, off _ _ h0 fun e => hi _ _ _ e.symm⟩, ⟨⟨dy, ts, tc, off _ _ h1 fun e => hi _ _ _ e.symm, sq h2, sq h3⟩, fun q hq => sq (h4 q hq)⟩, sq h.hst, fun q hq => sq (h.hss q hq), off _ _ h.ef fun e => hT _ e.symm, off _ _ h.en fun e => hT _ e.symm, h.ne, fun b g e z hz => ?_, fun z hz => ?_⟩
  · obtain ⟨d', l', e1, e2⟩ := h.fit b g e z hz
    exact ⟨d', l', e1, off _ _ e2 fun e => hl _ e.symm⟩
  · obtain ⟨a, t, u, v, e1, e2, e3⟩ := h.need z hz
    exact ⟨a, t, u, v, e1, sq e2, e3⟩
theorem frAt_dk {K : PySem.W.Frag} {C Cf : Addr} {H : Hp} {x p st df dn d : Addr} {n : Int} {ks ss : Tups} {cam : List Int} {F N : DT} {kvs : List (L2.Key × V)} {o : HO} (hd : H d = some (.dK kvs)) (h : FrAt K C Cf H x p st df dn n ks cam ss F N) : FrAt K C Cf (upd H d o) x p st df dn n ks cam ss F N :=
  frAt_off hd (fun _ _ _ e => by cases e) (fun _ e => by cases e) (fun _ _ e => by cases e) (fun _ e => by cases e) (fun _ e => by cases e) h
theorem frAt_fdk {K : PySem.W.Frag} {C Cf : Addr} {H : Hp} {x p st df dn d : Addr} {u : PySem.Obj} {n : Int} {ks ss : Tups} {cam : List Int} {F N : DT} {kvs : List (L2.Key × V)} {o : HO} (hd : H d = some (.frz u (.dK kvs))) (h : FrAt K C Cf H x p st df dn n ks cam ss F N) : FrAt K C Cf (upd H d o) x p st df dn n ks cam ss F N :=
  frAt_off hd (fun _ _ _ e => by cases e) (fun _ e => by cases e) (fun _ _ e => by cases e) (fun _ e => by cases e) (fun _ e => by cases e) h
theorem frAt_lr {K : PySem.W.Frag} {C Cf : Addr} {H : Hp} {x p st df dn d : Addr} {n : Int} {ks ss : Tups} {cam : List Int} {F N : DT} {tb : Tups} {o : HO} (hd : H d = some (.lst (refs tb))) (h0 : 0 < tb.length) (h : FrAt K C Cf H x p st df dn n ks cam ss F N) : FrAt K C Cf (upd H d o) x p st df dn n ks cam ss F N :=
  frAt_off hd (fun _ _ _ e => by cases e) (fun _ e => by cases e) (fun _ _ e => by cases e) (fun _ e => by cases e) (fun xs e => by
    injection e with e
    cases tb with
    | nil => exact absurd h0 (by decide)
    | cons z r => cases xs with
      | nil => cases e
      | cons y s => injection e with e1 _; cases e1) h
def rowF (n : Int) (cam : List Int) (kk sp : List (List Int)) (at_ : List Int) (a : Nat) : List Int := match cam, sO n cam at_ kk a with
  | [_, b, g, _], some d => nearK b g sp d
  | _, _ => []
theorem tabF_eq (n : Int) (cam : List Int) (kk sp : List (List Int)) (at_ : List Int) : tabF n cam kk sp at_ = (List.range kk.length).map (rowF n cam kk sp at_) := rfl
end Sw
namespace Sw
open PySem PySem.Spec PyProof.Rows L2
theorem frF_non (p st df dn : Addr) {m : Str} (h1 : ¬ m = "_needs") (h2 : ¬ m = "_fitting") (h3 : ¬ m = "_sighting") (h4 : ¬ m = "_sky") : (frF p st df dn).lookup m = none := by
  unfold frF
  rw [lookup_putF, if_neg h1, lookup_putF, if_neg h2, lookup_putF, if_neg h3, lookup_putF, if_neg h4]
  rfl
end Sw
namespace Sw
open PySem PySem.Spec PyProof.Rows L2
theorem nearK_row (b g : Int) (sp : List (List Int)) (d : List Int) : (nearK b g sp d).Nodup ∧ ∀ c ∈ nearK b g sp d, 0 ≤ c ∧ c < (sp.length : Int) := by
  unfold nearK
  refine ⟨by rw [List.Nodup, List.pairwise_map]; exact (List.Pairwise.filter _ List.nodup_range).imp fun h e => h (Int.ofNat.inj e), fun c hc => ?_⟩
  obtain ⟨k, hk, rfl⟩ := List.mem_map.mp hc
  have := List.mem_range.mp (List.mem_filter.mp hk).1
  exact ⟨Int.natCast_nonneg k, by show (k : Int) < _; omega⟩
theorem rowF_row (n : Int) (cam : List Int) (kk sp : List (List Int)) (at_ : List Int) (a : Nat) : (rowF n cam kk sp at_ a).Nodup ∧ ∀ c ∈ rowF n cam kk sp at_ a, 0 ≤ c ∧ c < (sp.length : Int) := by
  unfold rowF
  split
  · exact nearK_row _ _ _ _
  · exact ⟨List.nodup_nil, fun c hc => by cases hc⟩
theorem tabF_ok {n : Int} {cam : List Int} {kk sp : List (List Int)} {at_ : List Int} (hk : kk.length ≤ 1000) (hs : sp.length ≤ 1000) : TabOk (tabF n cam kk sp at_) := by
  rw [tabF_eq]
  refine ⟨by rw [List.length_map, List.length_range]; exact hk, fun l hl c hc => ?_, fun l hl => ?_⟩
  · obtain ⟨a, _, rfl⟩ := List.mem_map.mp hl
    have := (rowF_row n cam kk sp at_ a).2 c hc
    omega
  · obtain ⟨a, _, rfl⟩ := List.mem_map.mp hl
    exact (rowF_row n cam kk sp at_ a).1
theorem nodupK (n : Nat) : ((List.range n).map Int.ofNat).Nodup := by
  rw [List.Nodup, List.pairwise_map]
  exact List.nodup_range.imp fun h e => h (Int.ofNat.inj e)
theorem lackIs_of {P : Int → List Int} {W : List Int} {x : Int} {k : Nat} (h : LackIs P W x) (hW : W.length ≤ k) : 0 ≤ x ∧ x ≤ k := by
  have := lackIs_bd h
  omega
end Sw
namespace Sw
open PySem PySem.Spec PyProof.Rows L2
theorem same_of2 {df dn : Addr} {H H1 H2 : Hp} (n1 : H df = none) (n2 : H dn = none) (s1 : Same H H1) (s2 : Same2 df dn H1 H2) : Same H H2 := fun q o e => s2 q o (fun z => by rw [z, n1] at e; cases e) (fun z => by rw [z, n2] at e; cases e) (s1 q o e)
theorem sight_parts {cam : List Int} {kk : List (List Int)} (h : isSight cam kk = true) : kk.all (isSpot cam) = true ∧ AscL kk ∧ kk.length ≤ 60 := by
  unfold isSight at h
  rw [Bool.and_eq_true, Bool.and_eq_true] at h
  exact ⟨h.1.1, of_decide_eq_true h.1.2, of_decide_eq_true h.2⟩
theorem sight_three {r b g l : Int} {kk : List (List Int)} (h : isSight [r, b, g, l] kk = true) : ∀ z ∈ kk, z.length = 3 := fun z hz => by
  by_cases e : ((z.length : Nat) : Int) = 3
  · omega
  · have h1 := spot_len (r := r) (bl := b) (g := g) (l := l) e
    have h2 := List.all_eq_true.mp (sight_parts h).1 z hz
    rw [h1] at h2
    cases h2
/-- the two things that are looked at: what is refused, and what else follows -/
def Checked (C D S : Addr) (p pa ps : Addr) (n : Int) (cam at_ : List Int) (sp : List (List Int)) (H : Hp) (E : XK) (ok : Prop) : Prop :=
  (isPose n at_ = false → ∀ (d : Addr) (H' : Hp), Same H H' → H' d = some (.xd [("attitude", .ref pa)]) → E (.ref D) (some d) H') ∧
  (isPose n at_ = true → isSight cam sp = false → ∀ H', Same H H' → E (.ref S) none H') ∧
  (isPose n at_ = true → isSight cam sp = true → ok)
theorem Checked.mono {C D S p pa ps : Addr} {n : Int} {cam at_ : List Int} {sp : List (List Int)} {H : Hp} {E : XK} {ok ok' : Prop} (h : Checked C D S p pa ps n cam at_ sp H E ok) (f : isPose n at_ = true → isSight cam sp = true → ok → ok') : Checked C D S p pa ps n cam at_ sp H E ok' :=
  ⟨h.1, h.2.1, fun a b => f a b (h.2.2 a b)⟩
def spCheckedF (K : PySem.W.Frag) (C Cf D S : Addr) : Sp := fun vs H Q E => ∃ (p pa ps : Addr) (n : Int) (ks ss : Tups) (cam at_ : List Int), vs = [.ref p, .ref pa, .ref ps] ∧ SkyS K C H p n ks cam ∧ isSky n (keys ks) cam = true ∧ SqT K H pa (at_.map V.int) ∧ SqT K H ps (refs ss) ∧ TupsAt K H ss ∧
  Checked C D S p pa ps n cam at_ (keys ss) H E (∀ (H' : Hp) (x df dn : Addr), Same H H' → H df = none → H dn = none → FrAt K C Cf H' x p ps df dn n ks cam ss [] [] → Q (.ref x) H')
def spTableOf (K : PySem.W.Frag) (C D S : Addr) : Sp := fun vs H Q E => ∃ (p pa ps : Addr) (n : Int) (ks ss : Tups) (cam at_ : List Int), vs = [.ref p, .ref pa, .ref ps] ∧ SkyS K C H p n ks cam ∧ isSky n (keys ks) cam = true ∧ SqT K H pa (at_.map V.int) ∧ SqT K H ps (refs ss) ∧ TupsAt K H ss ∧
  Checked C D S p pa ps n cam at_ (keys ss) H E (∀ (H' : Hp) (t : Addr) (tb : Tups), Same H H' → TabAt K H' t tb → keys tb = tabF n cam (keys ks) (keys ss) at_ → Q (.ref t) H')
def spNeedOf (K : PySem.W.Frag) (C D S : Addr) : Sp := fun vs H Q E => ∃ (p pa ps : Addr) (n : Int) (ks ss : Tups) (cam at_ : List Int), vs = [.ref p, .ref pa, .ref ps] ∧ SkyS K C H p n ks cam ∧ isSky n (keys ks) cam = true ∧ SqT K H pa (at_.map V.int) ∧ (isPose n at_ = true → H pa = some (.tup (at_.map V.int))) ∧ SqT K H ps (refs ss) ∧ TupsAt K H ss ∧
  Checked C D S p pa ps n cam at_ (keys ss) H E (∀ (H' : Hp) (t : Addr) (z y : Int), Same H H' → SqT K H' t [.int z, .int y] → NeedAt n cam (keys ks) (keys ss) at_ z y → Q (.ref t) H')
def spExplain (K : PySem.W.Frag) (C D S : Addr) : Sp := fun vs H Q E => ∃ (p pa ps : Addr) (n : Int) (ks ss : Tups) (cam at_ : List Int), vs = [.ref p, .ref pa, .ref ps] ∧ SkyS K C H p n ks cam ∧ isSky n (keys ks) cam = true ∧ SqT K H pa (at_.map V.int) ∧ SqT K H ps (refs ss) ∧ TupsAt K H ss ∧
  Checked C D S p pa ps n cam at_ (keys ss) H E (∀ (H' : Hp) (l : Addr) (rs : Tups) (g : MM), Same H H' → H' l = some (.lst (refs rs)) → TupsAt K H' rs → keys rs = pairs2 g → AscL (keys rs) → Mt (tP (tabF n cam (keys ks) (keys ss) at_)) g → MaxOn (tP (tabF n cam (keys ks) (keys ss) at_)) (sureN n cam at_ (keys ks)) g →
    (∀ m', Mt (tP (tabF n cam (keys ks) (keys ss) at_)) m' → (((List.range ss.length).map Int.ofNat).filter (has (swp m'))).length ≤ (((List.range ss.length).map Int.ofNat).filter (has (swp g))).length) → Q (.ref l) H')
def spWithin (K : PySem.W.Frag) : Sp := fun vs H Q _ => ∃ (t : Addr) (z y m f : Int), vs = [.ref t, .int m, .int f] ∧ SqT K H t [.int z, .int y] ∧ Q (.bl (decide (z ≤ m) && decide (y ≤ f))) H
def spCanBe (K : PySem.W.Frag) (C D S : Addr) : Sp := fun vs H Q E => ∃ (p pa ps : Addr) (n m f : Int) (ks ss : Tups) (cam at_ : List Int), vs = [.ref p, .ref pa, .ref ps, .int m, .int f] ∧ SkyS K C H p n ks cam ∧ isSky n (keys ks) cam = true ∧ SqT K H pa (at_.map V.int) ∧ (isPose n at_ = true → H pa = some (.tup (at_.map V.int))) ∧ SqT K H ps (refs ss) ∧ TupsAt K H ss ∧
  Checked C D S p pa ps n cam at_ (keys ss) H E (∀ (H' : Hp) (z y : Int), Same H H' → NeedAt n cam (keys ks) (keys ss) at_ z y → Q (.bl (decide (z ≤ m) && decide (y ≤ f))) H')
end Sw
set_option Elab.async false
set_option linter.all false
/-! What attitudes need: the law's own reckoning (own work; k12). -/
namespace Sw
open PySem PySem.Spec PyProof.Rows L2
def nearL (n i : Int) : Int := if 2 * (i % n) ≤ n then i % n else i % n - n
def offU (n : Int) : List Int → List Int → Int
  | [x, y, q], [sx, sy, _] => turnX ((4 - q) % 4) (nearL n (sx - x)) (nearL n (sy - y))
  | _, _ => 0
def offV (n : Int) : List Int → List Int → Int
  | [x, y, q], [sx, sy, _] => turnY ((4 - q) % 4) (nearL n (sx - x)) (nearL n (sy - y))
  | _, _ => 0
theorem nearL_near {n i : Int} (hn : 0 < n) : near n i = nearL n i ∨ (2 * nearL n i = n ∧ 2 * near n i = -n) := by
  have h0 := Int.emod_nonneg i (show n ≠ 0 by omega)
  have h1 := Int.emod_lt_of_pos i hn
  unfold near nearL
  rw [← Int.emod_add_emod]
  generalize i % n = t at h0 h1 ⊢
  by_cases h : t + n / 2 < n
  · rw [Int.emod_eq_of_lt (by omega) h]
    by_cases g : 2 * t ≤ n
    · rw [if_pos g]
      omega
    · rw [if_neg g]
      omega
  · have e : (t + n / 2) % n = t + n / 2 - n := by
      rw [show t + n / 2 = (t + n / 2 - n) + n by omega, Int.add_emod_right]
      rw [Int.emod_eq_of_lt (by omega) (by omega)]
      omega
    rw [e]
    by_cases g : 2 * t ≤ n
    · rw [if_pos g]
      omega
    · rw [if_neg g]
      omega
theorem imax_le {a b c : Int} : imax a b ≤ c ↔ a ≤ c ∧ b ≤ c := by
  unfold imax
  split <;> omega
theorem offI_law {n r b g l x y q sx sy bb : Int} (hn : 2 * (r + b) + 1 ≤ n) (hr : 0 ≤ r + b) (q0 : 0 ≤ q) (q3 : q ≤ 3) :
    offI n [r, b, g, l] [x, y, q] [sx, sy, bb] = if imax (iabs (offU n [x, y, q] [sx, sy, bb])) (iabs (offV n [x, y, q] [sx, sy, bb])) ≤ r + b then some (offU n [x, y, q] [sx, sy, bb], offV n [x, y, q] [sx, sy, bb]) else none := by
  have hA := nearL_near (i := sx - x) (show 0 < n by omega)
  have hB := nearL_near (i := sy - y) (show 0 < n by omega)
  show (if iabs (turnX (4 - q) (near n (sx - x)) (near n (sy - y))) > r + b ∨ iabs (turnY (4 - q) (near n (sx - x)) (near n (sy - y))) > r + b then none else some (turnX (4 - q) (near n (sx - x)) (near n (sy - y)), turnY (4 - q) (near n (sx - x)) (near n (sy - y)))) = _
  show _ = if imax (iabs (turnX ((4 - q) % 4) (nearL n (sx - x)) (nearL n (sy - y)))) (iabs (turnY ((4 - q) % 4) (nearL n (sx - x)) (nearL n (sy - y)))) ≤ r + b then some (turnX ((4 - q) % 4) (nearL n (sx - x)) (nearL n (sy - y)), turnY ((4 - q) % 4) (nearL n (sx - x)) (nearL n (sy - y))) else none
  generalize near n (sx - x) = A at hA ⊢
  generalize near n (sy - y) = B at hB ⊢
  generalize nearL n (sx - x) = A' at hA ⊢
  generalize nearL n (sy - y) = B' at hB ⊢
  have key : ∀ u v u' v' : Int, (u = u' ∨ (iabs u > r + b ∧ iabs u' > r + b)) → (v = v' ∨ (iabs v > r + b ∧ iabs v' > r + b)) → (if iabs u > r + b ∨ iabs v > r + b then none else some (u, v)) = if imax (iabs u') (iabs v') ≤ r + b then some (u', v') else (none : Option (Int × Int)) := by
    intro u v u' v' h1 h2
    by_cases h : imax (iabs u') (iabs v') ≤ r + b
    · rw [if_pos h]
      obtain ⟨a1, a2⟩ := imax_le.mp h
      rcases h1 with rfl | h1
      · rcases h2 with rfl | h2
        · rw [if_neg (by omega)]
        · omega
      · omega
    · rw [if_neg h]
      have h' : ¬ (iabs u' ≤ r + b ∧ iabs v' ≤ r + b) := fun z => h (imax_le.mpr z)
      rcases h1 with rfl | h1
      · rcases h2 with rfl | h2
        · rw [if_pos (by omega)]
        · rw [if_pos (.inr h2.1)]
      · rw [if_pos (.inl h1.1)]
  have far : ∀ A A' : Int, (A = A' ∨ (2 * A' = n ∧ 2 * A = -n)) → (A = A' ∨ (iabs A > r + b ∧ iabs A' > r + b)) ∧ (-A = -A' ∨ (iabs (-A) > r + b ∧ iabs (-A') > r + b)) := by
    intro A A' h
    rcases h with rfl | h
    · exact ⟨.inl rfl, .inl rfl⟩
    · refine ⟨.inr ⟨?_, ?_⟩, .inr ⟨?_, ?_⟩⟩ <;> (unfold iabs; split <;> omega)
  have hq : q = 0 ∨ q = 1 ∨ q = 2 ∨ q = 3 := by omega
  refine key _ _ _ _ ?_ ?_
  · rcases hq with rfl | rfl | rfl | rfl <;> simp only [turnX, Int.reduceSub, Int.reduceMod, Int.reduceEq, if_true, if_false, ite_true, ite_false]
    · exact (far _ _ hA).1
    · exact (far _ _ hB).1
    · exact (far _ _ hA).2
    · exact (far _ _ hB).2
  · rcases hq with rfl | rfl | rfl | rfl <;> simp only [turnY, Int.reduceSub, Int.reduceMod, Int.reduceEq, if_true, if_false, ite_true, ite_false]
    · exact (far _ _ hB).1
    · exact (far _ _ hA).2
    · exact (far _ _ hB).2
    · exact (far _ _ hA).1
end Sw
namespace Sw
open PySem PySem.Spec PyProof.Rows L2
def k2 (k : List Int) : Int := k.getD 2 0
def visL (n : Int) (at_ : List Int) (room least : Int) (k : List Int) : Bool := decide (imax (iabs (offU n at_ k)) (iabs (offV n at_ k)) ≤ room) && decide (least ≤ k2 k)
def visAt (n : Int) (at_ : List Int) (kk : List (List Int)) (room least : Int) (i : Nat) : Bool := match kk[i]? with
  | some k => visL n at_ room least k
  | none => false
def shownP (n : Int) (at_ : List Int) (kk : List (List Int)) (room least : Int) (i : Nat) : List Int := ((List.range i).filter (visAt n at_ kk room least)).map Int.ofNat
theorem shownP_step {n : Int} {at_ : List Int} {kk : List (List Int)} {room least : Int} {i : Nat} {k : List Int} (h : kk[i]? = some k) : shownP n at_ kk room least (i + 1) = shownP n at_ kk room least i ++ (if visL n at_ room least k then [(i : Int)] else []) := by
  unfold shownP
  rw [List.range_succ, List.filter_append, List.map_append]
  congr 1
  have e : visAt n at_ kk room least i = visL n at_ room least k := by unfold visAt; rw [h]
  cases z : visL n at_ room least k with
  | true => rw [List.filter_cons_of_pos (by rw [e, z])]; rfl
  | false => rw [List.filter_cons_of_neg (by rw [e, z]; decide)]; rfl
theorem shownP_len (n : Int) (at_ : List Int) (kk : List (List Int)) (room least : Int) (i : Nat) : (shownP n at_ kk room least i).length ≤ i := by
  unfold shownP
  rw [List.length_map]
  have := List.length_filter_le (visAt n at_ kk room least) (List.range i)
  rwa [List.length_range] at this
theorem shownP_mem {n : Int} {at_ : List Int} {kk : List (List Int)} {room least : Int} {i : Nat} {x : Int} (h : x ∈ shownP n at_ kk room least i) : ∃ m : Nat, x = (m : Int) ∧ m < i := by
  obtain ⟨m, hm, rfl⟩ := List.mem_map.mp h
  exact ⟨m, rfl, List.mem_range.mp (List.mem_filter.mp hm).1⟩
theorem cam_room {n r b g l : Int} (h : isCam n [r, b, g, l] = true) : 2 * (r + b) + 1 ≤ n ∧ 0 ≤ r + b ∧ 0 ≤ b ∧ 0 ≤ g := by
  have z := of_decide_eq_true h
  omega
theorem vis_sure {n r b g l x y q sx sy bb : Int} (hc : isCam n [r, b, g, l] = true) (q0 : 0 ≤ q) (q3 : q ≤ 3) : visL n [x, y, q] (r - b) (l + g) [sx, sy, bb] = sureOne n r b g l [x, y, q] sx sy bb := by
  obtain ⟨c1, c2, c3, c4⟩ := cam_room hc
  unfold sureOne
  rw [offI_law c1 c2 q0 q3]
  show (decide (imax (iabs (offU n [x, y, q] [sx, sy, bb])) (iabs (offV n [x, y, q] [sx, sy, bb])) ≤ r - b) && decide (l + g ≤ bb)) = _
  generalize offU n [x, y, q] [sx, sy, bb] = U
  generalize offV n [x, y, q] [sx, sy, bb] = V
  by_cases h : imax (iabs U) (iabs V) ≤ r + b
  · rw [if_pos h]
    show _ = (decide (iabs U ≤ r - b) && decide (iabs V ≤ r - b) && decide (l + g ≤ bb))
    congr 1
    rw [← Bool.decide_and]
    exact decide_eq_decide.mpr imax_le
  · rw [if_neg h, decide_eq_false (fun z => h (by omega))]
    rfl
theorem shown_sure {n : Int} {cam at_ : List Int} {kk : List (List Int)} {r b g l : Int} (hcam : cam = [r, b, g, l]) (hsky : isSky n kk cam = true) (hp : isPose n at_ = true) : ∀ i, i ≤ kk.length → shownP n at_ kk (r - b) (l + g) i = sureN n cam at_ (kk.take i)
  | 0, _ => by
    subst hcam
    rfl
  | i + 1, h => by
    subst hcam
    obtain ⟨_, hstars, _, _, hc⟩ := sky_parts hsky
    obtain ⟨x, y, q, rfl, _, _, _, _, q0, q3⟩ := pose_form hp
    have hk : kk[i]? = some kk[i] := List.getElem?_eq_getElem (by omega)
    obtain ⟨sx, sy, bb, e3, _⟩ := star_form (List.all_eq_true.mp hstars kk[i] (List.mem_of_getElem? hk))
    rw [e3] at hk
    rw [shownP_step hk, sure_step (cam_room hc).2.2.2 hk, shown_sure rfl hsky hp i (by omega), vis_sure hc q0 q3]
/-- the law's own row of a star -/
def fitL (n b g : Int) (at_ k s : List Int) : Bool := decide (imax (iabs (offU n at_ k - s.getD 0 0)) (iabs (offV n at_ k - s.getD 1 0)) ≤ b) && decide (iabs (k2 k - k2 s) ≤ g)
def fitAt (n b g : Int) (at_ k : List Int) (sp : List (List Int)) (j : Nat) : Bool := match sp[j]? with
  | some s => fitL n b g at_ k s
  | none => false
theorem rowF_law {n : Int} {cam at_ : List Int} {kk sp : List (List Int)} {r b g l : Int} {b0 g0 : Int} (hcam : cam = [r, b, g, l]) (hsky : isSky n kk cam = true) (hp : isPose n at_ = true) (hs : isSight [r, b0, g0, l] sp = true) {m : Nat} {k : List Int} (hk : kk[m]? = some k) : rowF n cam kk sp at_ m = ((List.range sp.length).filter (fitAt n b g at_ k sp)).map Int.ofNat := by
  subst hcam
  obtain ⟨_, hstars, _, _, hc⟩ := sky_parts hsky
  obtain ⟨c1, c2, c3, c4⟩ := cam_room hc
  obtain ⟨x, y, q, rfl, _, _, _, _, q0, q3⟩ := pose_form hp
  obtain ⟨sx, sy, bb, rfl, _⟩ := star_form (List.all_eq_true.mp hstars k (List.mem_of_getElem? hk))
  have hsp : ∀ s ∈ sp, ∃ u v w, s = [u, v, w] ∧ iabs u ≤ r ∧ iabs v ≤ r ∧ l ≤ w := fun s hs' => by
    have h1 := List.all_eq_true.mp (sight_parts hs).1 s hs'
    obtain ⟨u, v, w, rfl⟩ := spot_form h1
    have h2 := of_decide_eq_true h1
    exact ⟨u, v, w, rfl, h2.1, h2.2.1, h2.2.2.1⟩
  unfold rowF
  rw [sO_eq hk, seenOne_eq, offI_law c1 c2 q0 q3]
  have none_ : (∀ s ∈ sp, fitL n b g [x, y, q] [sx, sy, bb] s = false) → ([] : List Int) = ((List.range sp.length).filter (fitAt n b g [x, y, q] [sx, sy, bb] sp)).map Int.ofNat := fun h => by
    rw [List.filter_eq_nil_iff.mpr]
    · rfl
    · intro j _
      unfold fitAt
      cases e : sp[j]? with
      | none => exact fun z => by cases z
      | some s => exact fun z => by have h1 := h s (List.mem_of_getElem? e); have z : fitL n b g [x, y, q] [sx, sy, bb] s = true := z; rw [h1] at z; cases z
  by_cases h : imax (iabs (offU n [x, y, q] [sx, sy, bb])) (iabs (offV n [x, y, q] [sx, sy, bb])) ≤ r + b
  · rw [if_pos h]
    show (match [r, b, g, l], (if l - g ≤ bb then some [offU n [x, y, q] [sx, sy, bb], offV n [x, y, q] [sx, sy, bb], bb] else none) with | [_, b, g, _], some d => nearK b g sp d | _, _ => []) = _
    by_cases h2 : l - g ≤ bb
    · rw [if_pos h2]
      show nearK b g sp _ = _
      unfold nearK
      congr 1
      apply List.filter_congr
      intro j _
      unfold fitAt
      cases e : sp[j]? with
      | none => rfl
      | some s =>
        obtain ⟨u, v, w, rfl, _⟩ := hsp s (List.mem_of_getElem? e)
        show decide (_ ∧ _ ∧ _) = (decide (imax (iabs (offU n [x, y, q] [sx, sy, bb] - u)) (iabs (offV n [x, y, q] [sx, sy, bb] - v)) ≤ b) && decide (iabs (bb - w) ≤ g))
        rw [← Bool.decide_and]
        apply decide_eq_decide.mpr
        rw [imax_le, and_assoc]
    · rw [if_neg h2]
      refine none_ fun s hs' => ?_
      obtain ⟨u, v, w, rfl, _, _, hw⟩ := hsp s hs'
      show (_ && decide (iabs (bb - w) ≤ g)) = false
      have e : decide (iabs (bb - w) ≤ g) = false := decide_eq_false (fun z => by rw [iabs_le] at z; omega)
      rw [e, Bool.and_false]
  · rw [if_neg h]
    refine none_ fun s hs' => ?_
    obtain ⟨u, v, w, rfl, hu, hv, _⟩ := hsp s hs'
    show (decide (imax (iabs (offU n [x, y, q] [sx, sy, bb] - u)) (iabs (offV n [x, y, q] [sx, sy, bb] - v)) ≤ b) && _) = false
    rw [decide_eq_false (fun z => h ?_), Bool.false_and]
    rw [imax_le, iabs_le, iabs_le] at z ⊢
    rw [iabs_le] at hu hv
    omega
def spNearL : Sp := fun vs H Q _ => ∃ n i : Int, vs = [.int n, .int i] ∧ 0 < n ∧ n ≤ 9 ∧ Q (.int (nearL n i)) H
def spTurnP (K : PySem.W.Frag) : Sp := fun vs H Q _ => ∃ (q x y : Int) (pr : Addr), vs = [.int q, .ref pr] ∧ 0 ≤ q ∧ q ≤ 3 ∧ SqT K H pr [.int x, .int y] ∧
  ∀ (H' : Hp) (p : Addr), Same H H' → SqT K H' p [.int (turnX q x y), .int (turnY q x y)] → Q (.ref p) H'
def spOffP (K : PySem.W.Frag) : Sp := fun vs H Q _ => ∃ (pp pa ps : Addr) (n x y q sx sy bb : Int) (ks : Tups) (cam : List Int), vs = [.ref pp, .ref pa, .ref ps] ∧ PartsAt K H pp n ks cam ∧ 0 < n ∧ n ≤ 9 ∧ SqT K H pa [.int x, .int y, .int q] ∧ 0 ≤ q ∧ q ≤ 3 ∧ SqT K H ps [.int sx, .int sy, .int bb] ∧
  ∀ (H' : Hp) (p : Addr), Same H H' → SqT K H' p [.int (offU n [x, y, q] [sx, sy, bb]), .int (offV n [x, y, q] [sx, sy, bb])] → Q (.ref p) H'
def spShownP (K : PySem.W.Frag) : Sp := fun vs H Q _ => ∃ (pp pa : Addr) (n room least : Int) (ks : Tups) (cam at_ : List Int), vs = [.ref pp, .ref pa, .int room, .int least] ∧ PartsAt K H pp n ks cam ∧ isSky n (keys ks) cam = true ∧ SqT K H pa (at_.map V.int) ∧ isPose n at_ = true ∧
  ∀ (H' : Hp) (l : Addr), Same H H' → H l = none → H' l = some (.lst ((shownP n at_ (keys ks) room least ks.length).map V.int)) → Q (.ref l) H'
def spSeenP (K : PySem.W.Frag) : Sp := fun vs H Q _ => ∃ (pp pa : Addr) (n r b g l : Int) (ks : Tups) (at_ : List Int), vs = [.ref pp, .ref pa] ∧ PartsAt K H pp n ks [r, b, g, l] ∧ isSky n (keys ks) [r, b, g, l] = true ∧ SqT K H pa (at_.map V.int) ∧ isPose n at_ = true ∧
  ∀ (H' : Hp) (q : Addr), Same H H' → H q = none → H' q = some (.lst ((shownP n at_ (keys ks) (r + b) (l - g) ks.length).map V.int)) → Q (.ref q) H'
def spSureP (K : PySem.W.Frag) : Sp := fun vs H Q _ => ∃ (pp pa : Addr) (n : Int) (ks : Tups) (cam at_ : List Int), vs = [.ref pp, .ref pa] ∧ PartsAt K H pp n ks cam ∧ isSky n (keys ks) cam = true ∧ SqT K H pa (at_.map V.int) ∧ isPose n at_ = true ∧
  ∀ (H' : Hp) (q : Addr), Same H H' → H q = none → H' q = some (.lst ((sureN n cam at_ (keys ks)).map V.int)) → Q (.ref q) H'
end Sw
namespace Sw
open PySem PySem.Spec PyProof.Rows L2
def spAllM6 (K : PySem.W.Frag) : Sp := fun vs H Q _ => ∃ (t : Addr) (tb : Tups), vs = [.ref t] ∧ TabAt K H t tb ∧ tb.length ≤ 6 ∧ (∀ r, (tP (keys tb) r).length ≤ 6) ∧
  ∀ (H' : Hp) (l : Addr) (es : Ents), Same H H' → H l = none → H' l = some (.lst (eRefs es)) → EntAt K H' es → mms es = allM (tP (keys tb)) tb.length → Q (.ref l) H'
/-- what a matching leaves out -/
def leftS (W : List Int) (m : MM) : Int := ((W.filter fun s => decide (s ∉ m.map (·.1))).length : Int)
def spLeft (K : PySem.W.Frag) : Sp := fun vs H Q _ => ∃ (tl wl : Addr) (many : Int) (W : List Int) (rs : Tups) (m : MM), vs = [.ref tl, .ref wl, .int many] ∧ SqL K H wl (W.map V.int) ∧ W.length ≤ 1000 ∧ SqL K H tl (refs rs) ∧ TupsAt K H rs ∧ keys rs = pairs2 m ∧ m.length ≤ 1000 ∧
  ∀ (H' : Hp) (t : Addr), Same H H' → SqT K H' t [.int (leftS W m), .int (many - (m.length : Int))] → Q (.ref t) H'
end Sw
namespace Sw
open PySem PySem.Spec PyProof.Rows L2
theorem notIn_ints (x : Int) (L : List Int) : (!inV (V.int x) (L.map V.int)) = decide (x ∉ L) := by
  rw [inV_ints]
  by_cases h : x ∈ L
  · rw [decide_eq_true h, decide_eq_false (fun z => z h)]
    rfl
  · rw [decide_eq_false h, decide_eq_true h]
    rfl
end Sw
namespace Sw
open PySem PySem.Spec PyProof.Rows L2
/-- a matching, row by row -/
def sortM (n : Nat) (g : MM) : MM := (List.range n).filterMap fun i : Nat => (lk g (i : Int)).map fun c => ((i : Int), c)
theorem sortM_mem {n : Nat} {g : MM} {x : Int × Int} : x ∈ sortM n g ↔ ∃ i : Nat, i < n ∧ x.1 = (i : Int) ∧ lk g (i : Int) = some x.2 := by
  unfold sortM
  rw [List.mem_filterMap]
  constructor
  · rintro ⟨i, hi, e⟩
    obtain ⟨c, hc, rfl⟩ := Option.map_eq_some_iff.mp e
    exact ⟨i, List.mem_range.mp hi, rfl, hc⟩
  · rintro ⟨i, hi, e1, e2⟩
    refine ⟨i, List.mem_range.mpr hi, ?_⟩
    rw [e2, ← e1]
    rfl
theorem sortM_asc (n : Nat) (g : MM) : ((sortM n g).map (·.1)).Pairwise (· < ·) := by
  rw [List.pairwise_map]
  unfold sortM
  refine List.Pairwise.filterMap _ (R := fun a b : Nat => a < b) ?_ List.pairwise_lt_range
  intro a b hab x hx y hy
  obtain ⟨c, _, rfl⟩ := Option.map_eq_some_iff.mp hx
  obtain ⟨d, _, rfl⟩ := Option.map_eq_some_iff.mp hy
  show (a : Int) < b
  omega
theorem sortM_lk {n : Nat} {g : MM} (i : Nat) (hi : i < n) : lk (sortM n g) (i : Int) = lk g (i : Int) := by
  cases e : lk g (i : Int) with
  | none =>
    cases h : lk (sortM n g) (i : Int) with
    | none => rfl
    | some c =>
      obtain ⟨j, _, e1, e2⟩ := sortM_mem.mp (lk_some h)
      have e1 : (i : Int) = j := e1
      rw [← e1, e] at e2
      cases e2
  | some c =>
    exact lk_mem ((sortM_asc n g).imp fun h => Int.ne_of_lt h) (sortM_mem.mpr ⟨i, hi, rfl, e⟩)
theorem sortM_all {rows : List (List Int)} {g : MM} (hM : Mt (tP rows) g) : sortM rows.length g ∈ allM (tP rows) rows.length := by
  rw [mem_allM]
  refine ⟨sortM_asc _ _, ?_, fun x hx => ?_⟩
  · rw [List.Nodup, List.pairwise_map]
    have h1 : (sortM rows.length g).Nodup := by
      have := (sortM_asc rows.length g).imp (S := fun a b : Int => a ≠ b) fun h => Int.ne_of_lt h
      rw [List.pairwise_map] at this
      exact this.imp fun h e => h (by rw [e])
    refine h1.imp_of_mem fun {x y} hx hy hxy e => hxy ?_
    obtain ⟨i, _, a1, a2⟩ := sortM_mem.mp hx
    obtain ⟨j, _, b1, b2⟩ := sortM_mem.mp hy
    rw [← e] at b2
    have := hM.inj _ _ _ a2 b2
    exact Prod.ext (by rw [a1, b1, this]) e
  · obtain ⟨i, hi, a1, a2⟩ := sortM_mem.mp hx
    rw [a1]
    exact ⟨hM.ed _ _ a2, Int.natCast_nonneg i, by omega⟩
theorem leftS_eq (W : List Int) (m : MM) : leftS W m = (W.length : Int) - ((W.filter (has m)).length : Int) := by
  unfold leftS
  have h : (W.filter fun s => decide (s ∉ m.map (·.1))) = W.filter fun s => !has m s := by
    apply List.filter_congr
    intro s _
    by_cases e : has m s = true
    · obtain ⟨v, hv⟩ := has_some e
      rw [e, decide_eq_false (fun z => z (List.mem_map_of_mem (f := fun x : Int × Int => x.1) (lk_some hv)))]
      rfl
    · have e' : has m s = false := by cases z : has m s with
        | true => exact absurd z e
        | false => rfl
      rw [e', decide_eq_true]
      · rfl
      · intro z
        obtain ⟨x, hx, rfl⟩ := List.mem_map.mp z
        unfold has lk at e'
        cases f : m.find? fun z => decide (z.1 = x.1) with
        | none => exact absurd (decide_eq_true rfl) (List.find?_eq_none.mp f x hx)
        | some w => rw [f] at e'; cases e'
  rw [h]
  have := split_len W (fun _ => true) (has m)
  have a1 : (W.filter fun _ => true) = W := List.filter_eq_self.mpr fun _ _ => rfl
  rw [a1] at this
  simp only [Bool.true_and] at this
  have e2 : (W.filter fun x => has m x) = W.filter (has m) := rfl
  rw [e2] at this
  omega
/-- the law's own needs: the least that any matching leaves out -/
def LawNeed (P : Int → List Int) (n : Nat) (S : List Int) (k x y : Int) : Prop :=
  (∀ m ∈ allM P n, x ≤ leftS S m ∧ y ≤ k - (m.length : Int)) ∧ (∃ m ∈ allM P n, x = leftS S m) ∧ ∃ m ∈ allM P n, y = k - (m.length : Int)
end Sw
namespace Sw
open PySem PySem.Spec PyProof.Rows L2
theorem tP_row {rows : List (List Int)} {r c : Int} (h : c ∈ tP rows r) : ∃ i : Nat, r = (i : Int) ∧ i < rows.length := by
  obtain ⟨h2, l, hl, _⟩ := tP_some h
  have := (List.getElem?_eq_some_iff.mp hl).1
  exact ⟨r.toNat, by omega, this⟩
theorem in_rng {n i : Nat} (h : i < n) : (i : Int) ∈ (List.range n).map Int.ofNat := List.mem_map.mpr ⟨i, List.mem_range.mpr h, rfl⟩
theorem all_len {rows : List (List Int)} {m : MM} (hM : Mt (tP rows) m) : (((List.range rows.length).map Int.ofNat).filter (has m)).length = m.length := by
  refine filter_all (nodupK _) hM.nd fun r c e => ?_
  obtain ⟨i, rfl, hi⟩ := tP_row (hM.ed _ _ e)
  exact in_rng hi
theorem sort_filter {n : Nat} {g : MM} {S : List Int} (hS : ∀ s ∈ S, ∃ i : Nat, s = (i : Int) ∧ i < n) : S.filter (has (sortM n g)) = S.filter (has g) := by
  apply List.filter_congr
  intro s hs
  obtain ⟨i, rfl, hi⟩ := hS s hs
  unfold has
  rw [sortM_lk i hi]
theorem need_law {rows : List (List Int)} {S : List Int} {k x y z w : Int} (hS : ∀ s ∈ S, ∃ i : Nat, s = (i : Int) ∧ i < rows.length) (hN : NeedIs (tP rows) S ((List.range rows.length).map Int.ofNat) k z w) (hL : LawNeed (tP rows) rows.length S k x y) : z = x ∧ w = y := by
  obtain ⟨_, _, ⟨g, hM, _, hX, e1⟩, ⟨g2, hM2, _, hX2, e2⟩⟩ := hN
  obtain ⟨h1, ⟨m0, hm0, e3⟩, ⟨m1, hm1, e4⟩⟩ := hL
  have a1 := (h1 _ (sortM_all hM)).1
  rw [leftS_eq, sort_filter hS] at a1
  have a2 := hX m0 (mt_of_to ((mem_allM _ _ _).mp hm0))
  rw [leftS_eq] at e3
  have a3 := (h1 _ (sortM_all hM2)).2
  have M2 := mt_of_to ((mem_allM _ _ _).mp (sortM_all hM2))
  rw [← all_len M2, sort_filter (fun s hs => by obtain ⟨i, hi, rfl⟩ := List.mem_map.mp hs; exact ⟨i, rfl, List.mem_range.mp hi⟩)] at a3
  have M1 := mt_of_to ((mem_allM _ _ _).mp hm1)
  have a4 := hX2 m1 M1
  rw [all_len M1] at a4
  omega
theorem cols_len {rows : List (List Int)} {C : List Int} {m : MM} (hM : Mt (tP rows) m) (hC : C.Nodup) (hc : ∀ r c, c ∈ tP rows r → c ∈ C) : (C.filter (has (swp m))).length = m.length := by
  rw [filter_all hC (by unfold swp; rw [List.map_map]; exact hM.cn) fun r c e => by
    have h := lk_some e
    unfold swp at h
    obtain ⟨x, hx, e2⟩ := List.mem_map.mp h
    have e5 : x.2 = r := congrArg Prod.fst e2
    rw [← e5]
    exact hc _ _ (hM.ed _ _ (lk_mem hM.nd hx))]
  unfold swp
  rw [List.length_map]
theorem told_law {rows : List (List Int)} {S C : List Int} {k x y : Int} {g : MM} (hM : Mt (tP rows) g) (hX : MaxOn (tP rows) S g) (hC : C.Nodup) (hc : ∀ r c, c ∈ tP rows r → c ∈ C) (hY : ∀ m', Mt (tP rows) m' → (C.filter (has (swp m'))).length ≤ (C.filter (has (swp g))).length) (ha : (g.map (·.1)).Pairwise (· < ·)) (hL : LawNeed (tP rows) rows.length S k x y) : g ∈ allM (tP rows) rows.length ∧ leftS S g = x ∧ k - (g.length : Int) = y := by
  have inA : g ∈ allM (tP rows) rows.length := by
    rw [mem_allM]
    refine ⟨ha, hM.cn, fun x hx => ?_⟩
    have h1 := hM.ed x.1 x.2 (lk_mem hM.nd hx)
    obtain ⟨i, e, hi⟩ := tP_row h1
    exact ⟨h1, by omega, by omega⟩
  obtain ⟨h1, ⟨m0, hm0, e3⟩, ⟨m1, hm1, e4⟩⟩ := hL
  have M0 := mt_of_to ((mem_allM _ _ _).mp hm0)
  have M1 := mt_of_to ((mem_allM _ _ _).mp hm1)
  have a1 := h1 g inA
  have a2 := hX m0 M0
  have a3 := hY m1 M1
  rw [cols_len M1 hC hc, cols_len hM hC hc] at a3
  rw [leftS_eq] at e3
  rw [leftS_eq] at a1 ⊢
  exact ⟨inA, by omega, by omega⟩
def spLNeed (K : PySem.W.Frag) : Sp := fun vs H Q _ => ∃ (tl wl : Addr) (many : Int) (tb : Tups) (W : List Int), vs = [.ref tl, .ref wl, .int many] ∧ TabAt K H tl tb ∧ tb.length ≤ 6 ∧ (∀ r, (tP (keys tb) r).length ≤ 6) ∧ SqL K H wl (W.map V.int) ∧ W.length ≤ 1000 ∧
  ∀ (H' : Hp) (t : Addr) (x y : Int), Same H H' → SqT K H' t [.int x, .int y] → LawNeed (tP (keys tb)) tb.length W many x y → Q (.ref t) H'
end Sw
namespace Sw
open PySem PySem.Spec PyProof.Rows L2
def spLTable (K : PySem.W.Frag) : Sp := fun vs H Q _ => ∃ (pp pa ps : Addr) (n : Int) (ks ss : Tups) (cam at_ : List Int), vs = [.ref pp, .ref pa, .ref ps] ∧ PartsAt K H pp n ks cam ∧ isSky n (keys ks) cam = true ∧ SqT K H pa (at_.map V.int) ∧ isPose n at_ = true ∧ SqT K H ps (refs ss) ∧ TupsAt K H ss ∧ isSight cam (keys ss) = true ∧
  ∀ (H' : Hp) (t : Addr) (tb : Tups), Same H H' → H' t = some (.lst (refs tb)) → (∀ p ∈ tb, H' p.1 = some (.lst (p.2.map V.int))) → keys tb = tabF n cam (keys ks) (keys ss) at_ → Q (.ref t) H'
def nearU (n b : Int) (at_ k : List Int) (sp : List (List Int)) (j : Nat) : Bool := match sp[j]? with
  | some s => decide (imax (iabs (offU n at_ k - s.getD 0 0)) (iabs (offV n at_ k - s.getD 1 0)) ≤ b)
  | none => false
def gladK (g : Int) (k : List Int) (sp : List (List Int)) (j : Nat) : Bool := match sp[j]? with
  | some s => decide (iabs (k2 k - k2 s) ≤ g)
  | none => false
theorem two_filters (n b g : Int) (at_ k : List Int) (sp : List (List Int)) (l : List Nat) : (l.filter (nearU n b at_ k sp)).filter (gladK g k sp) = l.filter (fitAt n b g at_ k sp) := by
  rw [List.filter_filter]
  apply List.filter_congr
  intro j _
  unfold nearU gladK fitAt
  cases sp[j]? with
  | none => rfl
  | some s => exact Bool.and_comm _ _
end Sw
namespace Sw
open PySem PySem.Spec PyProof.Rows L2
def refD (n : Int) (cam at_ : List Int) (sp : List (List Int)) : PyData := if isPose n at_ = true then (if isSight cam sp = true then .none else .tuple [.str "sighting", .none]) else .tuple [.str "attitude", dTI at_]
def spRefusedP (K : PySem.W.Frag) (C : Addr) : Sp := fun vs H Q _ => ∃ (kind : Int) (p pa ps : Addr) (n : Int) (ks ss : Tups) (cam at_ : List Int), vs = [.int kind, .ref p, .ref pa, .ref ps] ∧ SkyS K C H p n ks cam ∧ isSky n (keys ks) cam = true ∧ SqT K H pa (at_.map V.int) ∧ (isPose n at_ = true → H pa = some (.tup (at_.map V.int))) ∧ SqT K H ps (refs ss) ∧ TupsAt K H ss ∧
  ∀ (H' : Hp) (v : V), Same H H' → Dp K H' v (refD n cam at_ (keys ss)) → Q v H'
end Sw
namespace Sw
open PySem PySem.Spec PyProof.Rows L2
def cams12 : List (List Int) := [[5, 1, 0], [5, 1, 1], [6, 1, 1], [7, 2, 1], [4, 1, 0], [5, 2, 0], [7, 1, 1], [9, 2, 2], [9, 3, 1], [8, 2, 1], [6, 2, 0], [7, 2, 1]]
def okC : List Int → Bool
  | [n, r, b] => decide (4 ≤ n ∧ n ≤ 9 ∧ 0 ≤ b ∧ b ≤ 2 ∧ b ≤ r ∧ r ≤ 4 ∧ 2 * (r + b) + 1 ≤ n)
  | _ => false
theorem cams_ok : ∀ q ∈ cams12, ∃ n r b, q = [n, r, b] ∧ 4 ≤ n ∧ n ≤ 9 ∧ 0 ≤ b ∧ b ≤ 2 ∧ b ≤ r ∧ r ≤ 4 ∧ 2 * (r + b) + 1 ≤ n := fun q hq => by
  have h : cams12.all okC = true := by decide
  have h1 := List.all_eq_true.mp h q hq
  match q, h1 with
  | [n, r, b], h1 => exact ⟨n, r, b, rfl, of_decide_eq_true h1⟩
theorem pickT {cs : Tups} {j : Int} (h0 : 0 ≤ j) (h1 : j < (cs.length : Int)) : ∃ q ∈ cs, atI (refs cs) j = some (.ref q.1) := by
  obtain ⟨m, rfl⟩ := Int.eq_ofNat_of_zero_le h0
  have hm : m < cs.length := by omega
  exact ⟨cs[m], List.getElem_mem hm, atI_nat (by unfold refs; rw [List.getElem?_map, List.getElem?_eq_getElem hm]; rfl)⟩
def spSkyL (K : PySem.W.Frag) : Sp := fun vs H Q _ => ∃ (p1 : Addr) (ns : List Int) (at' many : Int), vs = [.ref p1, .int at', .int many] ∧ SqL K H p1 (ns.map V.int) ∧ (∀ z ∈ ns, Num z) ∧ 0 ≤ at' ∧ 0 ≤ many ∧ many ≤ 20 ∧ at' + 7 + 2 * many ≤ (ns.length : Int) ∧
  ∀ (H' : Hp) (t pp pa : Addr) (n : Int) (ks : Tups) (cam at_ : List Int), Same H H' → SqT K H' t [.ref pp, .ref pa] → PartsAt K H' pp n ks cam → isSky n (keys ks) cam = true → Asc 10 (keys ks) → (ks.length : Int) ≤ many → H' pa = some (.tup (at_.map V.int)) → isPose n at_ = true → Q (.ref t) H'
end Sw
namespace Sw
open PySem PySem.Spec PyProof.Rows L2
def spSightL (K : PySem.W.Frag) : Sp := fun vs H Q _ => ∃ (p1 pp pa : Addr) (ns : List Int) (at' many n r b g l : Int) (ks : Tups) (at_ : List Int), vs = [.ref p1, .int at', .ref pp, .ref pa, .int many] ∧ SqL K H p1 (ns.map V.int) ∧ (∀ z ∈ ns, Num z) ∧ 0 ≤ at' ∧ 0 ≤ many ∧ many ≤ 20 ∧ at' + 3 + 2 * many ≤ (ns.length : Int) ∧ PartsAt K H pp n ks [r, b, g, l] ∧ isSky n (keys ks) [r, b, g, l] = true ∧ SqT K H pa (at_.map V.int) ∧ isPose n at_ = true ∧
  ∀ (H' : Hp) (ps : Addr) (ss : Tups), Same H H' → SqT K H' ps (refs ss) → TupsAt K H' ss → isSight [r, b, g, l] (keys ss) = true → (ss.length : Int) ≤ many → Q (.ref ps) H'
end Sw

set_option Elab.async false
set_option linter.all false
/-! set(t) of a tuple of tuples (own work; k12). The loop is the library's set_update_tups. -/
namespace L2
open PySem PySem.Spec PyProof.Rows
section
variable {P : Program} {w : World} {A : Around} {E : Value → Shared → Prop} {s : Shared}
theorem nothing_past {h : Heap} (b : Addr) (hb : h.objs.size ≤ b) : h.get? b = none := by
  cases q : h.get? b with
  | none => rfl
  | some o =>
    have := Heap.lt_size q
    exact absurd hb (Nat.not_le.mpr this)
set_option maxRecDepth 100000 in
set_option maxHeartbeats 3200000 in
theorem set_of_tuple {l : Addr} {items : Array Value} (ks : List (Addr × List Int)) {Q : Value → Shared → Prop} (hh : A.handled = none) (hl : s.heap.IsTuple l items) (hit : items.toList = ks.map fun p => Value.ref p.1)
    (hk : ∀ p ∈ ks, IsT P w s.heap p.2 p.1) (hfew : ks.length < 64) (hu : A.units + 3 < cLine)
    (h : ∀ (h' : Heap) (tk : Nat) L es ep t, SetTR P w h' s.heap.objs.size L es ep t → Got ks ks.length L → (∀ b o, s.heap.get? b = some o → h'.get? b = some o) → Q (.ref s.heap.objs.size) { s with heap := h', toks := tk }) :
    wpAny (model P w) A (call (.type "set") [.ref l]) Q E s := by
  have hisz : items.size = ks.length := by rw [← Array.length_toList, hit, List.length_map]
  obtain ⟨c, tl, hmro⟩ := F.called_set.mro
  have m1 := F.called_set.made
  have m2 := F.called_set.sub
  refine wpAny_call (codeAny_of_tree ?_)
  show wpAny _ _ (callAny (.type "set") _) _ _ _
  refine wpAny_pure ⟨Code.quiet_builtin _ (by decide +kernel), codeAny_builtin F.entry_type_call ?_⟩
  rw [Around.under_plain (weight_type_call_type "set" [.ref l] []) rfl]
  have m3 := F.called_set.notType
  have m4 := F.called_set.canCreate
  have m5 := F.typeCall_set_1 (.ref l)
  repeat (any_goals (first | assumption | wp_step))
  refine codeAny_mono (code_set_led1 (.ref l) (E := E) (Q₁ := fun obj s₁ => obj = .ref s.heap.objs.size ∧ s₁ = { s with heap := s.heap.push { cls := .type "set", dict := none, data := .set #[] 0 (.fresh 0 0 (!w.params.followText "set-order")) } }) ⟨rfl, rfl⟩) fun r s₁ hr => ?_
  cases r with
  | error e => exact hr
  | ok fl =>
    cases fl with
    | ret obj =>
      obtain ⟨rfl, rfl⟩ := hr
      have hS : (s.heap.push { cls := .type "set", dict := none, data := .set #[] 0 (.fresh 0 0 (!w.params.followText "set-order")) }).get? s.heap.objs.size = some { cls := .type "set", dict := none, data := .set #[] 0 (.fresh 0 0 (!w.params.followText "set-order")) } := Heap.get?_push_size _ rfl
      have hT : Shared.TypeIs { s with heap := s.heap.push { cls := .type "set", dict := none, data := .set #[] 0 (.fresh 0 0 (!w.params.followText "set-order")) } } (.ref s.heap.objs.size) "set" := ⟨_, hS, rfl⟩
      have m6 := F.called_set.init.lookup
      have m7 := F.called_set.init.bind (.ref s.heap.objs.size)
      repeat (any_goals (first | assumption | wp_step))
      refine codeAny_mono (codeAny_call_builtin (R := wants (fun r s₂ => r = .none ∧ ∃ h' tk L es ep t, s₂ = { s with heap := h', toks := tk } ∧ SetTR P w h' s.heap.objs.size L es ep t ∧ Got ks ks.length L ∧
          (∀ b o, s.heap.get? b = some o → h'.get? b = some o)) E) F.called_set.init.plain F.entry_set_init (check_set_init_1 hT ?_)) fun r₂ s₂ hr₂ => ?_
      · have hl1 : (s.heap.push { cls := .type "set", dict := none, data := .set #[] 0 (.fresh 0 0 (!w.params.followText "set-order")) }).IsTuple l items := hl.push _
        obtain ⟨⟨ocls, odict, odata, oslots⟩, hol, hcl, nl, hdl⟩ := id hl
        simp only at hcl hdl
        subst hcl
        subst hdl
        have hlS : l < s.heap.objs.size := Heap.lt_size hol
        have hol' : (s.heap.push { cls := .type "set", dict := none, data := .set #[] 0 (.fresh 0 0 (!w.params.followText "set-order")) }).get? l = some { cls := .type "tuple", dict := odict, data := .seq items nl, slots := oslots } := Heap.get?_push_of_some _ hol
        have m8 := F.sub_tuple_set
        have m9 := F.sub_tuple_frozenset
        have hne : (Value.type "tuple" == Value.type "dict") = false := by decide
        unfold Builtin.«set.__init__» noKeywords Builtin.Frozenset.updateFrom
        generalize hPI : pyIter = PI
        wp_walk
        subst hPI
        refine wpAny_pyIter_tuple hl1 ?_
        refine wpAny_bind ?_
        refine wpAny_runValue ?_
        have hh3 : A.in1.in1.in1.handled = none := by simp [hh]
        have sz : (s.heap.push { cls := .type "set", dict := none, data := .set #[] 0 (.fresh 0 0 (!w.params.followText "set-order")) }).objs.size = s.heap.objs.size + 1 := Heap.size_push ..
        have hneI : l ≠ (s.heap.push { cls := .type "set", dict := none, data := .set #[] 0 (.fresh 0 0 (!w.params.followText "set-order")) }).objs.size := by rw [sz]; exact Nat.ne_of_lt (Nat.lt_succ_of_lt hlS)
        have hSf : s.heap.objs.size ∉ [(s.heap.push { cls := .type "set", dict := none, data := .set #[] 0 (.fresh 0 0 (!w.params.followText "set-order")) }).objs.size, l] := by
          rw [sz]
          intro z
          rcases List.mem_cons.mp z with z | z
          · omega
          · have z2 := List.mem_singleton.mp z
            exact absurd hlS (by rw [z2]; exact Nat.lt_irrefl _)
        have hval : ∀ (i : Nat) (v : Value), items[i]? = some v → ∃ p, ks[i]? = some p ∧ v = .ref p.1 := fun i v hv => by
          rw [← Array.getElem?_toList, hit, List.getElem?_map] at hv
          obtain ⟨p, hp, rfl⟩ := Option.map_eq_some_iff.mp hv
          exact ⟨p, hp, rfl⟩
        refine set_update_tups ((Walks.tuple hh3 _ l hneI items).toS) s.heap.objs.size hSf ks hisz hfew hval s.heap hk (nothing_past _ (Nat.le_refl _)) (fun b hb => nothing_past b (by rw [List.mem_singleton.mp hb, sz]; omega)) hu (items.size - 0) 0 _ (by omega) (Nat.zero_le _)
          ⟨⟨_, Heap.get?_push_size _ rfl, rfl, rfl⟩, hl1.push _⟩ (fun b o e => Heap.get?_push_of_some _ (Heap.get?_push_of_some _ e)) ⟨[], #[], 0, _, setTR_fresh (Heap.get?_push_of_some _ hS), Got.zero ks⟩ ?_
        rintro ⟨h', g2, d', tk', os'⟩ L es ep t hm hS' g' hkp
        obtain rfl : g2 = s.gens := hm.gens
        obtain rfl : d' = s.drawn := hm.drawn
        obtain rfl : os' = s.os := hm.os
        show wpAny _ _ _ _ _ _
        refine wpAny_pure ?_
        show wpAny _ _ (ret Value.none) _ _ _
        rw [hisz] at g'
        exact wpAny_pure ⟨rfl, h', tk', L, es, ep, t, rfl, hS', g', hkp⟩
      · cases r₂ with
        | error e => exact hr₂
        | ok fl₂ =>
          cases fl₂ with
          | ret r =>
            obtain ⟨rfl, h', tk, L, es, ep, t, rfl, hS', g', hk'⟩ := hr₂
            repeat (any_goals (first | assumption | wp_step))
            exact h _ _ _ _ _ _ hS' g' hk'
          | _ => exact hr₂.elim
    | _ => exact hr.elim
end
section
variable {X : Cx}
/-- set(xs), xs a tuple of tuples of integers -/
def rSetOfTT (K : PySem.W.Frag) (P : Program) (w : World) : List V → Hp → VK → Prop := fun xs H Q => ∃ (l : Addr) (ks : List (Addr × List Int)), xs = [V.ref l] ∧ SqT K H l (ks.map fun p => V.ref p.1) ∧ (∀ p ∈ ks, SqT K H p.1 (p.2.map V.int)) ∧ ks.length < 64 ∧
  ∀ a L, H a = none → (∀ p ∈ L, p ∈ ks) → (∀ p ∈ ks, p.2 ∈ L.map (·.2)) → Q (.ref a) (upd H a (SetTO P w a L))
theorem cr_setOfTT (hc : X.calm = true) (hu : X.A.units + 64 < cLine) : CallR X (.type "set") (rSetOfTT X.K X.prog X.w) := by
  intro pins s σ H xs us Q I r h
  obtain ⟨l, ks, rfl, hl, hk, hf, q⟩ := h
  rw [Vals.ref1 r]
  obtain ⟨its, rv, pl, _⟩ := I.tuple hl
  have hn : H s.heap.objs.size = none := I.hok.fresh (Nat.le_refl _)
  refine set_of_tuple (P := X.prog) (w := X.w) ks (I.ok.hd hc) pl (by simpa using refs_of_vals rv) (fun p hp => I.isT (hk p hp)) hf (by omega) fun h' tk L es ep t R g k => ?_
  refine ⟨.ref s.heap.objs.size, upd H s.heap.objs.size (SetTO X.prog X.w s.heap.objs.size L), I.laid (t' := tk) k (Nat.le_refl _) (setTO_new R.t0), rfl, q _ L hn (fun p hp => List.mem_of_mem_take (g.sub p hp)) fun p hp => ?_⟩
  exact g.all p ((List.take_length (l := ks)).symm ▸ hp : p ∈ ks.take ks.length)
end
end L2
set_option Elab.async false
set_option linter.all false
/-! t[::-1] of a tuple (own work; k12). -/
namespace Sw
open PySem PySem.Spec PyProof.Rows L2 HT
theorem adj_rev (n : Nat) : Builtin.Slice.sliceAdjust none none (-1) (n : Int) = ((n : Int) - 1, -1) := rfl
theorem places_rev (n : Nat) : Builtin.Slice.slicePlaces ((n : Int) - 1) (-1) (-1) = n := by
  unfold Builtin.Slice.slicePlaces
  have h1 : ¬ ((-1 : Int) > 0) := by omega
  simp only [h1, if_false]
  rw [show (- (-1) : Int) = 1 by decide, Int.ediv_one]
  split <;> omega
theorem fm_congr {α β : Type} {f g : α → Option β} : ∀ {l : List α}, (∀ x ∈ l, f x = g x) → l.filterMap f = l.filterMap g
  | [], _ => rfl
  | x :: r, h => by rw [List.filterMap_cons, List.filterMap_cons, h x List.mem_cons_self, fm_congr fun y hy => h y (List.mem_cons_of_mem _ hy)]
theorem pick_rev (xs : Array Value) : ((List.range xs.size).filterMap fun (m : Nat) => xs[((xs.size : Int) - 1 + (m : Int) * (-1)).toNat]?).toArray = xs.toList.reverse.toArray := by
  have e : ((List.range xs.size).filterMap fun (m : Nat) => xs[((xs.size : Int) - 1 + (m : Int) * (-1)).toNat]?) = (((List.range xs.size).map fun k => xs.size - 1 - k).filterMap (xs[·]?)) := by
    rw [List.filterMap_map]
    refine fm_congr fun m hm => ?_
    have := List.mem_range.mp hm
    show xs[((xs.size : Int) - 1 + (m : Int) * (-1)).toNat]? = xs[xs.size - 1 - m]?
    congr 1
    omega
  rw [e, PySem.W.krv_range, List.filterMap_reverse, PySem.W.krv_all]
section
variable {prog : Program} {w : World} {A : Around} {E : Value → Shared → Prop} {s : Shared}
theorem sliceApplied_rev {sl : Addr} {vs : Value} {n : Nat} {Q : Int × Int × Nat → Shared → Prop} (hs : s.heap.IsSliceOf sl .none .none vs) (ps : IsPart vs (some (-1)))
    (h : Q ((n : Int) - 1, -1, n) s) : wpAny (model prog w) A (Builtin.Slice.sliceApplied (.ref sl) (pure (n : Int))) Q E s := by
  obtain ⟨os, hos, hcs, hds⟩ := id hs
  unfold Builtin.Slice.sliceApplied Builtin.Slice.sliceFields
  refine wpAny_bind (wpAny_bind (wpAny_field hos hds (x := .none) rfl (wpAny_bind (wpAny_field hos hds (x := .none) rfl (wpAny_bind (wpAny_field hos hds (x := vs) rfl (wpAny_pure ?_)))))))
  refine wpAny_bind (HT.slicePart_ ps ?_)
  show wpAny _ _ (if ((-1 : Int) == 0) = true then _ else _) _ _ s
  rw [if_neg (by decide)]
  refine wpAny_bind (HT.slicePart_ .none (wpAny_bind (HT.slicePart_ .none (wpAny_bind (wpAny_pure ?_)))))
  show wpAny _ _ (match Builtin.Slice.sliceAdjust none none (-1) (n : Int) with | (lo, hi) => pure (lo, (-1 : Int), Builtin.Slice.slicePlaces lo hi (-1))) _ _ s
  rw [adj_rev n]
  show wpAny _ _ (pure ((n : Int) - 1, (-1 : Int), Builtin.Slice.slicePlaces ((n : Int) - 1) (-1) (-1))) _ _ s
  rw [places_rev]
  exact wpAny_pure h
theorem getItem_tuple_rev {t sl : Addr} {items : Array Value} {vs : Value} {Q : Value → Shared → Prop} (ht : IsTup s.heap t items) (hs : s.heap.IsSliceOf sl .none .none vs) (ps : IsPart vs (some (-1)))
    (h : Q (.ref s.heap.objs.size) { s with heap := s.heap.push { cls := .type "tuple", data := .seq items.toList.reverse.toArray } })
    (hsz : items.size ≤ sizeLine) : wpAny (model prog w) A (getItem (.ref t) (.ref sl)) Q E s := by
  have htake : sizeOk (.seq items.toList.reverse.toArray) := by
    show items.toList.reverse.toArray.size ≤ sizeLine
    rw [List.size_toArray, List.length_reverse, Array.length_toList]
    exact hsz
  obtain ⟨os, hos, hcs, hds⟩ := id hs
  have hTs : s.TypeIs (.ref sl) "slice" := ⟨os, hos, hcs⟩
  unfold getItem
  try with_reducible refine wpAny_holding ?_
  first | refine wpAny_bind (wpAny_pure ?_) | skip
  refine wpAny_bind (wpAny_sequenceKey ht.typeIs (by decide) ?_)
  refine wpAny_bind (wpAny_callSpecial?_slot (name := Str.ofString "__getitem__") ht.typeIs PyProof.Rows.slot_tuple_getitem
    (wpAny_call_entry PyProof.Rows.slot_tuple_getitem ht.typeIs entry_tuple_getitem ?_ (args_tuple_getitem _ _)))
  show wpAny _ _ (Builtin.Tuple.tupleItemsOf (.ref t) >>= _) _ _ s
  refine wpAny_bind (tupleItemsOf_ ht ?_)
  refine wpAny_bind (wpAny_typeOf hTs ?_)
  rw [if_pos (by decide)]
  refine wpAny_bind (sliceApplied_rev hs ps ?_)
  have hno : ¬ ((((items.size : Int) - 1) == 0 && (-1 : Int) == 1 && items.size == items.size) = true) := by
    intro q
    rw [Bool.and_eq_true, Bool.and_eq_true] at q
    exact absurd q.1.2 (by decide)
  show wpAny _ _ (if ((((items.size : Int) - 1) == 0 && (-1 : Int) == 1 && items.size == items.size) = true) then _ else _) _ _ s
  rw [if_neg hno, pick_rev]
  first
    | exact wpAny_bind (m := Builtin.Tuple.tupleExact _) (wpAny_newObj_type (wpAny_pure ⟨_, rfl, wpAny_pure h⟩) htake)
    | exact wpAny_bind (m := Builtin.Tuple.tupleExact _) (wpAny_newObj_type (wpAny_bind (wpAny_pure (wpAny_pure ⟨_, rfl, wpAny_pure h⟩))) htake)
    | exact wpAny_bind (wpAny_bind (m := Builtin.Tuple.tupleExact _) (wpAny_newObj_type (wpAny_pure (wpAny_pure ⟨_, rfl, wpAny_pure h⟩)) htake))
    | exact wpAny_bind (wpAny_bind (m := Builtin.Tuple.tupleExact _) (wpAny_newObj_type (wpAny_pure ⟨_, rfl, wpAny_pure h⟩) htake))
end
def tRevT (K : PySem.W.Frag) (te : TE) : TE := fun σ H Q => te σ H fun x H1 => ∃ a xs, x = .ref a ∧ SqT K H1 a xs ∧ ∀ p, H1 p = none → Q (.ref p) (upd H1 p (.tup xs.reverse))
theorem pe_revT {X : Cx} {e : Expr} {te : TE} {k : Nat} {p1 p2 p3 pos : Pos} (he : PE X e te) : PE X (.Subscript e (.Slice none none (some (.UnaryOp .USub (.Constant (.int 1) k p1) p2)) p3) pos) (tRevT X.K te) := by
  refine ⟨fun pins s σ H Q I h => ?_⟩
  refine Subscript_ (thn (he.run pins s σ H _ I h) fun v s1 ⟨x, H1, I1, r1, q1⟩ => ?_)
  obtain ⟨a, xs, ex, hx, q⟩ := q1
  subst ex
  cases r1
  have hst : PO X (some (.UnaryOp .USub (.Constant (.int 1) k p1) p2)) (tPart (tUn (rU fun i => .int (-i)) (tC (.int 1)))) := po_some (pe_un un_neg pe_int)
  refine wpAny_Slice (thn (po_none.run pins s1 σ H1 (fun o H2 => o = none ∧ H2 = H1) I1 ⟨rfl, rfl⟩) fun vl s2 ⟨l, H2, I2, pl, el, e2⟩ => ?_)
  subst el e2
  refine thn (po_none.run pins s2 σ H2 (fun o H3 => o = none ∧ H3 = H2) I2 ⟨rfl, rfl⟩) fun vu s3 ⟨u, H3, I3, pu, eu, e3⟩ => ?_
  subst eu e3
  refine thn (hst.run pins s3 σ H3 (fun o H4 => o = some (-1) ∧ H4 = H3) I3 ⟨1, rfl, -1, rfl, rfl, rfl⟩) fun vs s4 ⟨o, H4, I4, ps, eo, e4⟩ => ?_
  subst eo e4
  cases pl
  cases pu
  have I5 : Inv X pins σ H4 { s4 with heap := s4.heap.push { cls := .type "slice", data := .fields #[.none, .none, vs] } } := I4.kept (t' := s4.toks) fun b ob q => Heap.get?_push_of_some _ q
  obtain ⟨its, r, ht, hz⟩ := I5.tuple hx
  have hlen := r.length
  show wpAny (model X.prog X.w) X.A (subscriptTail e (.Slice none none (some (.UnaryOp .USub (.Constant (.int 1) k p1) p2)) p3) (.ref a) (.ref s4.heap.objs.size)) (EP X pins σ Q) X.xe { s4 with heap := s4.heap.push { cls := .type "slice", data := .fields #[.none, .none, vs] } }
  refine tail_any (ops := [.ref a, .ref s4.heap.objs.size]) ht.typeIs (PyProof.Rows.slot_tuple_getitem.lookup) ?_ (by with_unfolding_all rfl)
  refine getItem_tuple_rev ht (Heap.IsSliceOf.new _ .none .none vs) ps ?_ (by rw [List.size_toArray]; omega)
  refine ⟨.ref _, _, I5.laid (t' := s4.toks) (o := .tup xs.reverse) (fun b ob q => Heap.get?_push_of_some _ q) (Nat.le_refl _) ?_, rfl, q _ (I5.hok.fresh (Nat.le_refl _))⟩
  exact ⟨by rw [List.length_reverse]; exact hz, _, r.reverse, IsTup.new _ _⟩
end Sw
set_option Elab.async false
set_option linter.all false
/-! Errors of sightings and attitudes, drawn (own work; k12). -/
namespace Sw
open PySem PySem.Spec PyProof.Rows L2
theorem pick5 {P : Addr → Prop} {a0 a1 a2 a3 a4 : Addr} (h0 : P a0) (h1 : P a1) (h2 : P a2) (h3 : P a3) (h4 : P a4) {j : Int} (hj0 : 0 ≤ j) (hj1 : j < 5) : ∃ q, atI [V.ref a0, .ref a1, .ref a2, .ref a3, .ref a4] j = some (.ref q) ∧ P q := by
  obtain ⟨m, rfl⟩ := Int.eq_ofNat_of_zero_le hj0
  have hm : m < 5 := by omega
  match m, hm with
  | 0, _ => exact ⟨a0, atI_nat rfl, h0⟩
  | 1, _ => exact ⟨a1, atI_nat rfl, h1⟩
  | 2, _ => exact ⟨a2, atI_nat rfl, h2⟩
  | 3, _ => exact ⟨a3, atI_nat rfl, h3⟩
  | 4, _ => exact ⟨a4, atI_nat rfl, h4⟩
def WrongAt (K : PySem.W.Frag) (n : Int) (H : Hp) (q : Addr) : Prop := ∃ at_ : List Int, SqT K H q (at_.map V.int) ∧ isPose n at_ = false
def BadAt (K : PySem.W.Frag) (cam : List Int) (H : Hp) (q : Addr) : Prop := ∃ ss : Tups, SqT K H q (refs ss) ∧ TupsAt K H ss ∧ isSight cam (keys ss) = false
theorem wrong_up {K : PySem.W.Frag} {n : Int} {H H' : Hp} {q : Addr} (s : Same H H') : WrongAt K n H q → WrongAt K n H' q := fun ⟨a, h1, h2⟩ => ⟨a, sqT_up s h1, h2⟩
theorem bad_up {K : PySem.W.Frag} {cam : List Int} {H H' : Hp} {q : Addr} (s : Same H H') : BadAt K cam H q → BadAt K cam H' q := fun ⟨a, h1, h2, h3⟩ => ⟨a, sqT_up s h1, tups_up s h2, h3⟩
theorem wrong_mk {K : PySem.W.Frag} {n : Int} {H : Hp} {q : Addr} {x y z : Int} (h : SqT K H q [.int x, .int y, .int z]) (hb : ¬ (0 ≤ x ∧ x < n ∧ 0 ≤ y ∧ y < n ∧ 0 ≤ z ∧ z ≤ 3)) : WrongAt K n H q := ⟨[x, y, z], h, decide_eq_false hb⟩
theorem bad_one {K : PySem.W.Frag} {r b g l : Int} {H : Hp} {q p : Addr} {x y z : Int} (h : SqT K H q [.ref p]) (hp : SqT K H p [.int x, .int y, .int z]) (hb : ¬ (iabs x ≤ r ∧ iabs y ≤ r ∧ l ≤ z ∧ z ≤ 9 + g)) : BadAt K [r, b, g, l] H q := by
  refine ⟨[(p, [x, y, z])], h, fun e he => ?_, ?_⟩
  · rw [List.mem_singleton.mp he]
    exact hp
  · unfold isSight
    have e : (keys [(p, [x, y, z])]).all (isSpot [r, b, g, l]) = false := by
      show (isSpot [r, b, g, l] [x, y, z] && true) = false
      rw [Bool.and_true]
      exact decide_eq_false hb
    rw [e]
    rfl
theorem flat_rep {α : Type} (x : α) : ∀ n : Nat, (List.replicate n [x]).flatten = List.replicate n x
  | 0 => rfl
  | n + 1 => by
    rw [List.replicate_succ, List.replicate_succ, List.flatten_cons, flat_rep x n]
    rfl
theorem bad_many {K : PySem.W.Frag} {cam : List Int} {H : Hp} {q p : Addr} {x y z : Int} (h : SqT K H q (List.replicate 61 [V.ref p]).flatten) (hp : SqT K H p [.int x, .int y, .int z]) : BadAt K cam H q := by
  refine ⟨List.replicate 61 (p, [x, y, z]), ?_, fun e he => ?_, ?_⟩
  · rw [flat_rep] at h
    unfold refs
    rw [List.map_replicate]
    exact h
  · rw [List.eq_of_mem_replicate he]
    exact hp
  · unfold isSight
    have e : decide ((keys (List.replicate 61 (p, [x, y, z]))).length ≤ 60) = false := by
      unfold keys
      rw [List.length_map, List.length_replicate]
      decide
    rw [e, Bool.and_false]
theorem refD_wrong {n : Int} {cam at_ : List Int} {sp : List (List Int)} (h : isPose n at_ = false) : refD n cam at_ sp = .tuple [.str "attitude", dTI at_] := by
  unfold refD
  rw [if_neg (by rw [h]; decide)]
theorem refD_bad {n : Int} {cam at_ : List Int} {sp : List (List Int)} (h : isPose n at_ = true) (h2 : isSight cam sp = false) : refD n cam at_ sp = .tuple [.str "sighting", .none] := by
  unfold refD
  rw [if_pos h, if_neg (by rw [h2]; decide)]
theorem refD_good {n : Int} {cam at_ : List Int} {sp : List (List Int)} (h : isPose n at_ = true) (h2 : isSight cam sp = true) : refD n cam at_ sp = .none := by
  unfold refD
  rw [if_pos h, if_pos h2]
theorem lay_refd {s : Str} {d : PyData} (hs : (PyData.str s).canLay0 = true) (h : Lay 1 d) : Lay 2 (.tuple [.str s, d]) := lay_tuple (lay_2 ⟨hs, Nat.zero_le _⟩ h)
theorem pw_eq {α : Type} : ∀ {l : List α}, l.Pairwise (fun a b => a = b) → ∀ {x y : α}, x ∈ l → y ∈ l → x = y
  | [], _, _, _, hx, _ => by cases hx
  | z :: r, h, x, y, hx, hy => by
    obtain ⟨h1, h2⟩ := List.pairwise_cons.mp h
    rcases List.mem_cons.mp hx with ex | hx2
    · rcases List.mem_cons.mp hy with ey | hy2
      · rw [ex, ey]
      · rw [ex]
        exact h1 y hy2
    · rcases List.mem_cons.mp hy with ey | hy2
      · rw [ey]
        exact (h1 x hx2).symm
      · exact pw_eq h2 hx2 hy2
theorem rev_same {kk : List (List Int)} (h : AscL kk) (hr : AscL kk.reverse) {x y : List Int} (hx : x ∈ kk) (hy : y ∈ kk) : x = y := by
  have h2 := List.pairwise_reverse.mp hr
  refine pw_eq (List.Pairwise.imp₂ (fun a b u v => ?_) h h2) hx hy
  exact ltI_total a b v u
theorem rev_bad {cam : List Int} {ss L : Tups} (h1 : ∀ p ∈ L, p ∈ ss) (hnd : (keys L).Nodup) (hL : 1 < L.length) (hs : isSight cam (keys ss) = true) : isSight cam (keys ss.reverse) = false := by
  cases e : isSight cam (keys ss.reverse) with
  | false => rfl
  | true =>
    unfold isSight at hs e
    rw [Bool.and_eq_true, Bool.and_eq_true] at hs e
    have a1 := of_decide_eq_true hs.1.2
    have a2 := of_decide_eq_true e.1.2
    have e3 : keys ss.reverse = (keys ss).reverse := List.map_reverse
    rw [e3] at a2
    match L, hL, hnd, h1 with
    | x :: y :: r, _, hnd, h1 =>
      have hx : x.2 ∈ keys ss := List.mem_map_of_mem (h1 x List.mem_cons_self)
      have hy : y.2 ∈ keys ss := List.mem_map_of_mem (h1 y (List.mem_cons_of_mem _ List.mem_cons_self))
      have z := rev_same a1 a2 hx hy
      exact absurd (show x.2 ∈ keys (y :: r) by rw [z]; exact List.mem_cons_self) (List.nodup_cons.mp hnd).1
def spErrC (K : PySem.W.Frag) (C : Addr) : Sp := fun vs H Q _ => ∃ (p1 pp p pa ps : Addr) (ns : List Int) (at' n r b g l : Int) (ks kq ss : Tups) (at_ : List Int), vs = [.ref p1, .int at', .ref pp, .ref p, .ref pa, .ref ps] ∧ SqL K H p1 (ns.map V.int) ∧ (∀ z ∈ ns, Num z) ∧ 0 ≤ at' ∧ at' + 3 ≤ (ns.length : Int) ∧ PartsAt K H pp n ks [r, b, g, l] ∧ SkyS K C H p n kq [r, b, g, l] ∧ isSky n (keys kq) [r, b, g, l] = true ∧ H pa = some (.tup (at_.map V.int)) ∧ isPose n at_ = true ∧ SqT K H ps (refs ss) ∧ TupsAt K H ss ∧ isSight [r, b, g, l] (keys ss) = true ∧
  ∀ H' : Hp, Same H H' → Q (.bl true) H'
end Sw
namespace Sw
open PySem PySem.Spec PyProof.Rows L2
theorem tabF_len (n : Int) (cam : List Int) (kk sp : List (List Int)) (at_ : List Int) : (tabF n cam kk sp at_).length = kk.length := by
  rw [tabF_eq, List.length_map, List.length_range]
theorem nearK_len (b g : Int) (sp : List (List Int)) (d : List Int) : (nearK b g sp d).length ≤ sp.length := by
  unfold nearK
  rw [List.length_map]
  exact Nat.le_trans (List.length_filter_le _ _) (by rw [List.length_range]; exact Nat.le_refl _)
theorem tabF_mem {n : Int} {cam : List Int} {kk sp : List (List Int)} {at_ l : List Int} (h : l ∈ tabF n cam kk sp at_) : l.length ≤ sp.length ∧ ∀ c ∈ l, 0 ≤ c ∧ c < (sp.length : Int) := by
  rw [tabF_eq] at h
  obtain ⟨a, _, rfl⟩ := List.mem_map.mp h
  refine ⟨?_, (rowF_row n cam kk sp at_ a).2⟩
  unfold rowF
  split
  · exact nearK_len _ _ _ _
  · exact Nat.zero_le _
theorem tabF_row {n : Int} {cam : List Int} {kk sp : List (List Int)} {at_ : List Int} (h : sp.length ≤ 6) (r : Int) : (tP (tabF n cam kk sp at_) r).length ≤ 6 := by
  unfold tP
  split
  · cases e : (tabF n cam kk sp at_)[r.toNat]? with
    | none => exact Nat.zero_le _
    | some l => exact Nat.le_trans (tabF_mem (List.mem_of_getElem? e)).1 h
  · exact Nat.zero_le _
theorem tabF_col {n : Int} {cam : List Int} {kk sp : List (List Int)} {at_ : List Int} (r c : Int) (h : c ∈ tP (tabF n cam kk sp at_) r) : c ∈ (List.range sp.length).map Int.ofNat := by
  obtain ⟨_, l, hl, hc⟩ := tP_some h
  have h1 := (tabF_mem (List.mem_of_getElem? hl)).2 c hc
  obtain ⟨m, rfl⟩ := Int.eq_ofNat_of_zero_le h1.1
  exact in_rng (by omega)
theorem need12 {n : Int} {cam at_ : List Int} {kk sp : List (List Int)} {x y z w : Int} (hN : NeedAt n cam kk sp at_ z w) (hL : LawNeed (tP (tabF n cam kk sp at_)) (tabF n cam kk sp at_).length (sureN n cam at_ kk) sp.length x y) : z = x ∧ w = y := by
  refine need_law (fun s hs => ?_) (by rw [tabF_len]; exact hN) hL
  obtain ⟨m, e, hm, _⟩ := sureN_mem hs
  exact ⟨m, e, by rw [tabF_len]; exact hm⟩
theorem told12 {n : Int} {cam at_ : List Int} {kk sp : List (List Int)} {g : MM} {x y : Int} (hM : Mt (tP (tabF n cam kk sp at_)) g) (hX : MaxOn (tP (tabF n cam kk sp at_)) (sureN n cam at_ kk) g)
    (hY : ∀ m', Mt (tP (tabF n cam kk sp at_)) m' → (((List.range sp.length).map Int.ofNat).filter (has (swp m'))).length ≤ (((List.range sp.length).map Int.ofNat).filter (has (swp g))).length) (ha : AscL (pairs2 g))
    (hL : LawNeed (tP (tabF n cam kk sp at_)) (tabF n cam kk sp at_).length (sureN n cam at_ kk) sp.length x y) : g ∈ allM (tP (tabF n cam kk sp at_)) (tabF n cam kk sp at_).length ∧ leftS (sureN n cam at_ kk) g = x ∧ (sp.length : Int) - (g.length : Int) = y :=
  told_law hM hX (nodupK _) tabF_col hY (asc_pairs ha hM.nd) hL
end Sw
set_option Elab.async false
set_option linter.all false
/-! What speaks for a refusal: stars, spots, or a matching (own work; k13 and its family). -/
namespace Sw
open PySem PySem.Spec PyProof.Rows L2
/-- the table turned round -/
def turnT (rows : List (List Int)) (many : Nat) : List (List Int) := (List.range many).map (turnedI rows)
theorem turnT_len (rows : List (List Int)) (many : Nat) : (turnT rows many).length = many := by
  unfold turnT
  rw [List.length_map, List.length_range]
theorem turnedI_mem {rows : List (List Int)} {c : Nat} {r : Int} (h : r ∈ turnedI rows c) : 0 ≤ r ∧ r < (rows.length : Int) := by
  unfold turnedI at h
  obtain ⟨i, hi, rfl⟩ := List.mem_map.mp (List.mem_filter.mp h).1
  have := List.mem_range.mp hi
  exact ⟨Int.natCast_nonneg i, by show (i : Int) < _; omega⟩
theorem turnedI_nodup (rows : List (List Int)) (c : Nat) : (turnedI rows c).Nodup := (nodupK _).filter _
theorem turnedI_len (rows : List (List Int)) (c : Nat) : (turnedI rows c).length ≤ rows.length := by
  unfold turnedI
  exact Nat.le_trans (List.length_filter_le _ _) (by rw [List.length_map, List.length_range]; exact Nat.le_refl _)
theorem turnT_ok {rows : List (List Int)} {many : Nat} (h1 : rows.length ≤ 1000) (h2 : many ≤ 1000) : TabOk (turnT rows many) := by
  refine ⟨by rw [turnT_len]; exact h2, fun l hl c hc => ?_, fun l hl => ?_⟩
  · obtain ⟨a, _, rfl⟩ := List.mem_map.mp hl
    have := turnedI_mem hc
    omega
  · obtain ⟨a, _, rfl⟩ := List.mem_map.mp hl
    exact turnedI_nodup _ _
theorem turnT_row {rows : List (List Int)} {many k : Nat} (h : rows.length ≤ k) (r : Int) : (tP (turnT rows many) r).length ≤ k := by
  unfold tP
  split
  · cases e : (turnT rows many)[r.toNat]? with
    | none => exact Nat.zero_le _
    | some l =>
      obtain ⟨a, _, rfl⟩ := List.mem_map.mp (List.mem_of_getElem? e)
      exact Nat.le_trans (turnedI_len _ _) h
  · exact Nat.zero_le _
theorem turnT_nodup {rows : List (List Int)} {many : Nat} : ∀ l ∈ turnT rows many, l.Nodup := fun l hl => by
  obtain ⟨a, _, rfl⟩ := List.mem_map.mp hl
  exact turnedI_nodup _ _
abbrev spotsN (m : Nat) : List Int := (List.range m).map Int.ofNat
theorem spotsN_mem {m : Nat} {r : Int} (h : r ∈ spotsN m) : 0 ≤ r ∧ r < (m : Int) := by
  obtain ⟨i, hi, rfl⟩ := List.mem_map.mp h
  have := List.mem_range.mp hi
  exact ⟨Int.natCast_nonneg i, by show (i : Int) < _; omega⟩
theorem spotsN_asc (m : Nat) : (spotsN m).Pairwise (· < ·) := by
  rw [List.pairwise_map]
  exact List.pairwise_lt_range.imp fun h => Int.ofNat_lt.mpr h
theorem spotsN_len (m : Nat) : (spotsN m).length = m := by
  rw [List.length_map, List.length_range]
/-- a least lot, by the rows of a table -/
def LotOf (rows : List (List Int)) (W F : List Int) : Prop := ∃ g : MM, F.Pairwise (· < ·) ∧ LeastBy (tP rows) W g F ∧ MaxOn (tP rows) W g
structure BestOf (rows : List (List Int)) (W : List Int) (k : Nat) (g : MM) : Prop where
  mt : Mt (tP rows) g
  top : MaxOn (tP rows) W g
  tops : ∀ m', Mt (tP rows) m' → ((spotsN k).filter (has (swp m'))).length ≤ ((spotsN k).filter (has (swp g))).length
  asc : AscL (pairs2 g)
/-- what is told -/
def EvAt (K : PySem.W.Frag) (H : Hp) (t : Addr) (n : Int) (cam : List Int) (kk sp : List (List Int)) (at_ : List Int) (m f : Int) : Prop := ∃ (z y : Int) (l : Addr), NeedAt n cam kk sp at_ z y ∧
  ((m < z ∧ SqT K H t [.str "stars", .ref l] ∧ ∃ F : List Int, H l = some (.lst (F.map V.int)) ∧ LotOf (tabF n cam kk sp at_) (sureN n cam at_ kk) F) ∨
   (z ≤ m ∧ f < y ∧ SqT K H t [.str "spots", .ref l] ∧ ∃ F : List Int, H l = some (.lst (F.map V.int)) ∧ LotOf (turnT (tabF n cam kk sp at_) sp.length) (spotsN sp.length) F) ∨
   (z ≤ m ∧ y ≤ f ∧ SqT K H t [.str "matching", .ref l] ∧ ∃ (rs : Tups) (g : MM), H l = some (.lst (refs rs)) ∧ TupsAt K H rs ∧ keys rs = pairs2 g ∧ BestOf (tabF n cam kk sp at_) (sureN n cam at_ kk) sp.length g))
def spEvIn (K : PySem.W.Frag) (C Cf : Addr) : Sp := fun vs H Q _ => ∃ (x pa p st df dn : Addr) (n m f : Int) (ks ss : Tups) (cam at_ : List Int) (F N : DT), vs = [.ref x, .ref pa, .int m, .int f] ∧ FrAt K C Cf H x p st df dn n ks cam ss F N ∧ isSky n (keys ks) cam = true ∧ H pa = some (.tup (at_.map V.int)) ∧ isPose n at_ = true ∧ (∀ z ∈ keys ss, z.length = 3) ∧ ss.length ≤ 60 ∧ F.length ≤ 80000 ∧ N.length ≤ 80000 ∧
  ∀ (H' : Hp) (t : Addr) (F' N' : DT), Same2 df dn H H' → FrAt K C Cf H' x p st df dn n ks cam ss F' N' → EvAt K H' t n cam (keys ks) (keys ss) at_ m f → F'.length ≤ F.length + 40 → N'.length ≤ N.length + 1 → Q (.ref t) H'
def spEv (K : PySem.W.Frag) (C D S : Addr) : Sp := fun vs H Q E => ∃ (p pa ps : Addr) (n m f : Int) (ks ss : Tups) (cam at_ : List Int), vs = [.ref p, .ref pa, .ref ps, .int m, .int f] ∧ SkyS K C H p n ks cam ∧ isSky n (keys ks) cam = true ∧ SqT K H pa (at_.map V.int) ∧ (isPose n at_ = true → H pa = some (.tup (at_.map V.int))) ∧ SqT K H ps (refs ss) ∧ TupsAt K H ss ∧
  Checked C D S p pa ps n cam at_ (keys ss) H E (∀ (H' : Hp) (t : Addr), Same H H' → EvAt K H' t n cam (keys ks) (keys ss) at_ m f → Q (.ref t) H')
end Sw
set_option Elab.async false
set_option linter.all false
/-! What a need loses with a spot or a star (own work; k16). -/
namespace L2
open PySem PySem.Spec PyProof.Rows
def tLenSetB (K : PySem.W.Frag) (ta : TE) : TE := fun σ H Q => ta σ H fun x H1 => ∃ (l : Addr) (ns : List Int), x = V.ref l ∧ SqL K H1 l (ns.map V.int) ∧ ns.length < 64 ∧ ∀ n : Nat, n ≤ ns.length → (n = ns.length ↔ ns.Nodup) → Q (.int n) H1
theorem pe_lenSetB {X : Cx} {a : Expr} {ta : TE} {p p2 q pos : Pos} (hc : X.calm = true) (hg : Gl X "len") (hm : X.mg "len" = none) (hg2 : Gl X "set") (hm2 : X.mg "set" = none) (ha : PE X a ta)
    (na : starEach [a] X.env = (false, eval a X.env) :: starEach [] X.env := by rfl) : PE X (.Call (.Name "len" p) [.Call (.Name "set" p2) [a] [] q] [] pos) (tLenSetB X.K ta) := by
  refine ⟨fun pins s σ H Q I h => Call_ (ld_blt I hg hm PySem.boot_len (PyProof.Rows.callWith_builtin1 (PyProof.Rows.args_cons ?_ rfl) rfl rfl))⟩
  refine Call_ (ld_blt I hg2 hm2 PyProof.Rows.boot_set (PyProof.Rows.callWith_type1 (PyProof.Rows.args_cons (thn (ha.run pins s σ H _ I h) fun v s1 ⟨x, H1, I1, r1, q1⟩ => PyProof.Rows.args_nil ?_) na) na rfl))
  obtain ⟨l, ns, rfl, hq, h1, q1⟩ := q1
  cases r1
  obtain ⟨its, r, pl, hz⟩ := I1.list hq
  have hl : its.toArray.size = ns.length := by rw [List.size_toArray, ← r.length, List.length_map]
  refine call_set_list (I1.ok.hd hc) pl.isList (ns := ns) (by simpa using r.ints) ((by unfold scanBound; omega)) fun h' tk hS hk => PyProof.Rows.args_nil ?_
  rw [hl] at hS
  obtain ⟨m1, m2⟩ := met_facts ns ns.length (Nat.le_refl _)
  rw [List.take_length] at m2
  have hle : (met ns ns.length).length ≤ ns.length := Sw.len_le_of_sub m1 fun x hx => (m2 x).mp hx
  obtain ⟨o, es, ep, t, ho, hex, hd, _, _, _, hf, hn⟩ := hS
  have I2 : Inv X pins σ H1 { s1 with heap := h', toks := tk } := I1.kept fun b o e => hk b o (Heap.lt_size e) e
  have hn' : es.size = (met ns ns.length).length := hn
  refine call_len_set ho hex hd hf (by omega) ⟨.int (met ns ns.length).length, H1, I2.tok _, ⟨_, by rw [hn']⟩, q1 _ hle ⟨fun he => ?_, fun hnd => ?_⟩⟩
  · by_cases hnd : ns.Nodup
    · exact hnd
    · obtain ⟨m, hm', hs⟩ := Sw.shorter hnd
      have := Sw.len_le_of_sub m1 (m := m) fun x hx => hs x ((m2 x).mp hx)
      omega
  · have := Sw.len_le_of_sub hnd fun x hx => (m2 x).mpr hx
    omega
end L2
namespace Sw
open PySem PySem.Spec PyProof.Rows L2
def upI (k : Nat) (c : Int) : Int := if c < (k : Int) then c else c + 1
theorem upI_ne (k : Nat) (c : Int) : upI k c ≠ (k : Int) := by unfold upI; split <;> omega
theorem upI_inj {k : Nat} {c d : Int} (h : upI k c = upI k d) : c = d := by unfold upI at h; split at h <;> split at h <;> omega
theorem upI_of {k : Nat} {c : Int} (h : c ≠ (k : Int)) : ∃ d, upI k d = c := by
  by_cases h1 : c < (k : Int)
  · exact ⟨c, by unfold upI; rw [if_pos h1]⟩
  · exact ⟨c - 1, by unfold upI; rw [if_neg (by omega)]; omega⟩
theorem upI_lt {k : Nat} {c d : Int} (h : c < d) : upI k c < upI k d := by unfold upI; split <;> split <;> omega
theorem upI_nat (k i : Nat) : upI k (i : Int) = ((if i < k then i else i + 1 : Nat) : Int) := by
  unfold upI
  by_cases h : i < k
  · rw [if_pos (by omega), if_pos h]
  · rw [if_neg (by omega), if_neg h]
    omega
theorem nodup_up {k : Nat} {l : List Int} (h : l.Nodup) : (l.map (upI k)).Nodup := by
  rw [List.Nodup, List.pairwise_map]
  exact h.imp fun h e => h (upI_inj e)
/-- a column goes -/
theorem lack_col {P P' : Int → List Int} {k : Nat} (hP : ∀ r c, c ∈ P' r ↔ upI k c ∈ P r) {L : List Int} {x x' : Int} (hx : lackI P L x) (hx' : lackI P' L x') :
    ((∃ r ∈ L, (k : Int) ∈ P r) → x' = x + 1) ∧ ((¬ ∃ r ∈ L, (k : Int) ∈ P r) → x' = x) := by
  obtain ⟨ns, n1, n2, rfl⟩ := hx
  obtain ⟨ms, m1, m2, rfl⟩ := hx'
  have hu := nodup_up (k := k) m1
  have hum : ∀ c, c ∈ ms.map (upI k) ↔ c ∈ ns ∧ c ≠ (k : Int) := fun c => by
    rw [List.mem_map]
    constructor
    · rintro ⟨d, hd, rfl⟩
      obtain ⟨r, hr, h⟩ := (m2 d).mp hd
      exact ⟨(n2 _).mpr ⟨r, hr, (hP r d).mp h⟩, upI_ne k d⟩
    · rintro ⟨h1, h2⟩
      obtain ⟨d, rfl⟩ := upI_of h2
      obtain ⟨r, hr, h⟩ := (n2 _).mp h1
      exact ⟨d, (m2 d).mpr ⟨r, hr, (hP r d).mpr h⟩, rfl⟩
  have hl : (ms.map (upI k)).length = ms.length := List.length_map ..
  constructor
  · intro h
    have hk := (n2 (k : Int)).mpr h
    have e := same_card (a := (k : Int) :: ms.map (upI k)) (b := ns) (List.nodup_cons.mpr ⟨fun z => ((hum _).mp z).2 rfl, hu⟩) n1 fun c => by
      rw [List.mem_cons, hum]
      by_cases ec : c = (k : Int)
      · exact ⟨fun _ => ec ▸ hk, fun _ => .inl ec⟩
      · exact ⟨fun z => z.elim (fun w => absurd w ec) fun w => w.1, fun z => .inr ⟨z, ec⟩⟩
    rw [List.length_cons, hl] at e
    omega
  · intro h
    have hk : (k : Int) ∉ ns := fun z => h ((n2 _).mp z)
    have e := same_card hu n1 fun c => by
      rw [hum]
      exact ⟨fun z => z.1, fun z => ⟨z, fun ec => hk (ec ▸ z)⟩⟩
    rw [hl] at e
    omega
theorem meetU {L M S R : List Int} (hSn : S.Nodup) (hRn : R.Nodup) (hL : L.Sublist S) (hM : M.Sublist R) (hS : ∀ s ∈ S, s ∈ R) {P : Int → List Int} {a b : Int} (la : lackI P L a) (lb : lackI P M b) :
    ∃ (I U : List Int) (i u : Int), I.Sublist S ∧ (∀ x ∈ I, x ∈ M) ∧ U.Sublist R ∧ (∀ x ∈ L, x ∈ U) ∧ lackI P I i ∧ lackI P U u ∧ a + b ≤ i + u := by
  obtain ⟨i, hi⟩ := ex_lack P (S.filter fun x => decide (x ∈ L) && decide (x ∈ M))
  obtain ⟨u, hu⟩ := ex_lack P (R.filter fun x => decide (x ∈ L) || decide (x ∈ M))
  have mi : ∀ x, x ∈ (S.filter fun x => decide (x ∈ L) && decide (x ∈ M)) ↔ x ∈ L ∧ x ∈ M := fun x => by
    rw [List.mem_filter, Bool.and_eq_true, decide_eq_true_iff, decide_eq_true_iff]
    exact ⟨fun h => h.2, fun h => ⟨hL.subset h.1, h⟩⟩
  have mu : ∀ x, x ∈ (R.filter fun x => decide (x ∈ L) || decide (x ∈ M)) ↔ x ∈ L ∨ x ∈ M := fun x => by
    rw [List.mem_filter, Bool.or_eq_true, decide_eq_true_iff, decide_eq_true_iff]
    exact ⟨fun h => h.2, fun h => ⟨h.elim (fun z => hS x (hL.subset z)) fun z => hM.subset z, h⟩⟩
  refine ⟨_, _, i, u, List.filter_sublist, fun x hx => ((mi x).mp hx).2, List.filter_sublist, fun x hx => (mu x).mpr (.inl hx), hi, hu, ?_⟩
  exact lack_meet (hSn.sublist hL) (hRn.sublist hM) (hSn.filter _) (hRn.filter _) mu mi la lb hi hu
theorem lose_col {P P' : Int → List Int} {k : Nat} (hP : ∀ r c, c ∈ P' r ↔ upI k c ∈ P r) {S R : List Int} (hSn : S.Nodup) (hRn : R.Nodup) (hS : ∀ s ∈ S, s ∈ R) {x x' y y' : Int}
    (hx : LackIs P S x) (hx' : LackIs P' S x') (hy : LackIs P R y) (hy' : LackIs P' R y') : (x' = x ∨ x' = x + 1) ∧ (y' = y ∨ y' = y + 1) ∧ ¬ (x' = x + 1 ∧ y' = y) := by
  have one : ∀ {W : List Int} {z z' : Int}, LackIs P W z → LackIs P' W z' → z' = z ∨ z' = z + 1 := fun {W z z'} h h' => by
    obtain ⟨⟨M, hM, lM⟩, up⟩ := h
    obtain ⟨⟨M', hM', lM'⟩, up'⟩ := h'
    obtain ⟨a, ha⟩ := ex_lack P' M
    obtain ⟨b, hb⟩ := ex_lack P M'
    have h1 := up' M hM a ha
    have h2 := up M' hM' b hb
    have c1 := lack_col hP lM ha
    have c2 := lack_col hP hb lM'
    by_cases g1 : ∃ r ∈ M, (k : Int) ∈ P r
    · have := c1.1 g1
      by_cases g2 : ∃ r ∈ M', (k : Int) ∈ P r
      · have := c2.1 g2; omega
      · have := c2.2 g2; omega
    · have := c1.2 g1
      by_cases g2 : ∃ r ∈ M', (k : Int) ∈ P r
      · have := c2.1 g2; omega
      · have := c2.2 g2; omega
  refine ⟨one hx hx', one hy hy', fun ⟨e1, e2⟩ => ?_⟩
  obtain ⟨⟨L, hL, lL⟩, up1⟩ := hx'
  obtain ⟨a, ha⟩ := ex_lack P L
  have c1 := lack_col hP ha lL
  have ha2 := hx.2 L hL a ha
  by_cases g1 : ∃ r ∈ L, (k : Int) ∈ P r
  · have h1 := c1.1 g1
    obtain ⟨⟨M, hM, lM⟩, upy⟩ := hy
    obtain ⟨I, U, i, u, hI, _, hU, hLU, li, lu, hle⟩ := meetU hSn hRn hL hM hS ha lM
    have hi := hx.2 I hI i li
    obtain ⟨u', hu'⟩ := ex_lack P' U
    obtain ⟨r, hr, hk⟩ := g1
    have c3 := (lack_col hP lu hu').1 ⟨r, hLU r hr, hk⟩
    have := hy'.2 U hU u' hu'
    omega
  · have h1 := c1.2 g1
    omega
/-- a row goes -/
theorem lose_row {P : Int → List Int} {p : Int} {S R : List Int} (hSn : S.Nodup) (hRn : R.Nodup) (hS : ∀ s ∈ S, s ∈ R) {x x' y y' : Int}
    (hx : LackIs P S x) (hx' : LackIs P (S.filter fun z => decide (z ≠ p)) x') (hy : LackIs P R y) (hy' : LackIs P (R.filter fun z => decide (z ≠ p)) y') : (x' = x ∨ x' = x - 1 ∧ p ∈ S) ∧ (y' = y ∨ y' = y - 1) ∧ ¬ (x' = x - 1 ∧ y' = y) := by
  have one : ∀ {W : List Int} {z z' : Int}, W.Nodup → LackIs P W z → LackIs P (W.filter fun z => decide (z ≠ p)) z' → z' ≤ z ∧ z - 1 ≤ z' ∧ (p ∉ W → z' = z) := fun {W z z'} hn h h' => by
    have h1 : z' ≤ z := by
      obtain ⟨⟨M', hM', lM'⟩, _⟩ := h'
      exact h.2 M' (hM'.trans List.filter_sublist) z' lM'
    refine ⟨h1, ?_, fun hp => ?_⟩
    · obtain ⟨⟨M, hM, lM⟩, _⟩ := h
      obtain ⟨a, ha⟩ := ex_lack P (M.filter fun z => decide (z ≠ p))
      have h2 := h'.2 _ (hM.filter _) a ha
      obtain ⟨ns, n1, n2, rfl⟩ := lM
      obtain ⟨ms, m1, m2, rfl⟩ := ha
      have h3 : ms.length ≤ ns.length := len_le_of_sub m1 fun c hc => by
        obtain ⟨r, hr, h⟩ := (m2 c).mp hc
        exact (n2 c).mpr ⟨r, (List.mem_filter.mp hr).1, h⟩
      have hMn := hn.sublist hM
      have h4 : M.length ≤ (M.filter fun z => decide (z ≠ p)).length + 1 := by
        have := len_le_of_sub (m := p :: M.filter fun z => decide (z ≠ p)) hMn fun c hc => by
          by_cases e : c = p
          · rw [e]; exact List.mem_cons_self
          · exact List.mem_cons_of_mem _ (List.mem_filter.mpr ⟨hc, decide_eq_true e⟩)
        exact this
      omega
    · have e : (W.filter fun z => decide (z ≠ p)) = W := List.filter_eq_self.mpr fun c hc => decide_eq_true fun e => hp (e ▸ hc)
      rw [e] at h'
      exact lackIs_uniq h' h
  have o1 := one hSn hx hx'
  have o2 := one hRn hy hy'
  refine ⟨?_, by omega, fun ⟨e1, e2⟩ => ?_⟩
  · by_cases hp : p ∈ S
    · by_cases e : x' = x
      · exact .inl e
      · exact .inr ⟨by omega, hp⟩
    · exact .inl (o1.2.2 hp)
  · obtain ⟨⟨L, hL, lL⟩, _⟩ := hx
    obtain ⟨⟨M, hM, lM⟩, _⟩ := hy'
    obtain ⟨I, U, i, u, hI, hIM, hU, _, li, lu, hle⟩ := meetU hSn hRn hL (hM.trans List.filter_sublist) hS lL lM
    have hI2 : I.Sublist (S.filter fun z => decide (z ≠ p)) := by
      have e : (I.filter fun z => decide (z ≠ p)) = I := List.filter_eq_self.mpr fun c hc => (List.mem_filter.mp (hM.subset (hIM c hc))).2
      rw [← e]
      exact hI.filter _
    have h1 := hx'.2 I hI2 i li
    have h2 := hy.2 U hU u lu
    omega
end Sw
namespace Sw
open PySem PySem.Spec PyProof.Rows L2
theorem mem_tP {rows : List (List Int)} {r c : Int} : c ∈ tP rows r ↔ 0 ≤ r ∧ ∃ l, rows[r.toNat]? = some l ∧ c ∈ l := by
  constructor
  · exact tP_some
  · rintro ⟨h0, l, hl, hc⟩
    unfold tP
    rw [if_pos h0, hl]
    exact hc
theorem mem_tabF {n : Int} {cam at_ : List Int} {kk sp : List (List Int)} {r c : Int} : c ∈ tP (tabF n cam kk sp at_) r ↔ ∃ a : Nat, r = (a : Int) ∧ a < kk.length ∧ c ∈ rowF n cam kk sp at_ a := by
  rw [mem_tP, tabF_eq]
  constructor
  · rintro ⟨h0, l, hl, hc⟩
    rw [List.getElem?_map] at hl
    obtain ⟨a, ha, rfl⟩ := Option.map_eq_some_iff.mp hl
    have h1 := List.getElem?_eq_some_iff.mp ha
    obtain ⟨h2, h3⟩ := h1
    rw [List.length_range] at h2
    rw [List.getElem_range] at h3
    exact ⟨a, by omega, by omega, hc⟩
  · rintro ⟨a, rfl, ha, hc⟩
    refine ⟨Int.natCast_nonneg a, _, ?_, hc⟩
    rw [List.getElem?_map, Int.toNat_natCast, List.getElem?_range ha]
    rfl
theorem mem_nearK {b g : Int} {sp : List (List Int)} {d : List Int} {c : Int} : c ∈ nearK b g sp d ↔ ∃ j : Nat, c = (j : Int) ∧ ∃ s, sp[j]? = some s ∧ nearC b g d s = true := by
  unfold nearK
  rw [List.mem_map]
  constructor
  · rintro ⟨j, hj, rfl⟩
    obtain ⟨h1, h2⟩ := List.mem_filter.mp hj
    cases e : sp[j]? with
    | none => rw [e] at h2; cases h2
    | some s => rw [e] at h2; exact ⟨j, rfl, s, e, h2⟩
  · rintro ⟨j, rfl, s, hs, hn⟩
    refine ⟨j, List.mem_filter.mpr ⟨List.mem_range.mpr (List.getElem?_eq_some_iff.mp hs).1, ?_⟩, rfl⟩
    rw [hs]
    exact hn
theorem near_erase {b g : Int} {sp : List (List Int)} {d : List Int} {c : Int} (k : Nat) : c ∈ nearK b g (sp.eraseIdx k) d ↔ upI k c ∈ nearK b g sp d := by
  rw [mem_nearK, mem_nearK]
  constructor
  · rintro ⟨j, rfl, s, hs, hn⟩
    rw [List.getElem?_eraseIdx] at hs
    refine ⟨if j < k then j else j + 1, upI_nat k j, s, ?_, hn⟩
    split at hs <;> rename_i h
    · rw [if_pos h]; exact hs
    · rw [if_neg h]; exact hs
  · rintro ⟨i, e, s, hs, hn⟩
    have h0 : 0 ≤ c := by
      unfold upI at e
      split at e <;> omega
    obtain ⟨j, rfl⟩ := Int.eq_ofNat_of_zero_le h0
    refine ⟨j, rfl, s, ?_, hn⟩
    rw [upI_nat] at e
    rw [List.getElem?_eraseIdx]
    by_cases h : j < k
    · rw [if_pos h] at e ⊢
      rw [show j = i by omega]
      exact hs
    · rw [if_neg h] at e ⊢
      rw [show j + 1 = i by omega]
      exact hs
theorem row_erase {n : Int} {cam at_ : List Int} {kk sp : List (List Int)} {a : Nat} {c : Int} (k : Nat) : c ∈ rowF n cam kk (sp.eraseIdx k) at_ a ↔ upI k c ∈ rowF n cam kk sp at_ a := by
  have e : ∀ tp, rowF n cam kk tp at_ a = (match cam, sO n cam at_ kk a with
    | [_, b, g, _], some d => nearK b g tp d
    | _, _ => []) := fun tp => rfl
  have no : ∀ x : Int, x ∈ ([] : List Int) ↔ False := fun x => ⟨fun h => (by cases h), fun h => h.elim⟩
  by_cases hc : ∃ x b g y d, cam = [x, b, g, y] ∧ sO n cam at_ kk a = some d
  · obtain ⟨x, b, g, y, d, rfl, hd⟩ := hc
    rw [e, e, hd]
    exact near_erase k
  · have none : ∀ tp, rowF n cam kk tp at_ a = [] := fun tp => by
      rw [e]
      split
      · rename_i x b g y d hd
        exact absurd ⟨x, b, g, y, d, rfl, hd⟩ hc
      · rfl
    rw [none, none, no, no]
theorem tab_spot {n : Int} {cam at_ : List Int} {kk sp : List (List Int)} (k : Nat) (r c : Int) : c ∈ tP (tabF n cam kk (sp.eraseIdx k) at_) r ↔ upI k c ∈ tP (tabF n cam kk sp at_) r := by
  rw [mem_tabF, mem_tabF]
  constructor
  · rintro ⟨a, e, ha, hc⟩
    exact ⟨a, e, ha, (row_erase k).mp hc⟩
  · rintro ⟨a, e, ha, hc⟩
    exact ⟨a, e, ha, (row_erase k).mpr hc⟩
theorem sure_spots {n : Int} {cam at_ : List Int} {kk : List (List Int)} : ∀ s ∈ sureN n cam at_ kk, s ∈ spotsN kk.length := fun s hs => by
  have h := sureN_in hs
  obtain ⟨i, rfl⟩ := Int.eq_ofNat_of_zero_le h.1
  exact in_rng (by omega)
theorem need_spot {n : Int} {cam at_ : List Int} {kk sp : List (List Int)} {k : Nat} {z y z' y' : Int} (hk : k < sp.length) (h : NeedAt n cam kk sp at_ z y) (h' : NeedAt n cam kk (sp.eraseIdx k) at_ z' y') : (z' = z + 1 ∧ y' = y) ∨ (z' = z ∧ y' = y - 1) ∨ (z' = z ∧ y' = y) := by
  obtain ⟨a1, a2, _⟩ := h
  obtain ⟨b1, b2, _⟩ := h'
  obtain ⟨c1, c2, c3⟩ := lose_col (tab_spot k) (sureN_nodup n cam at_ kk) (nodupK kk.length) sure_spots a1 b1 a2 b2
  rw [List.length_eraseIdx_of_lt hk] at c2 c3
  omega
theorem row_star {n : Int} {cam at_ : List Int} {kk sp : List (List Int)} (p a : Nat) : rowF n cam (kk.eraseIdx p) sp at_ a = rowF n cam kk sp at_ (if a < p then a else a + 1) := by
  have e : sO n cam at_ (kk.eraseIdx p) a = sO n cam at_ kk (if a < p then a else a + 1) := by
    unfold sO
    rw [List.getElem?_eraseIdx]
    by_cases h : a < p
    · rw [if_pos h, if_pos h]
    · rw [if_neg h, if_neg h]
  unfold rowF
  rw [e]
theorem tab_star {n : Int} {cam at_ : List Int} {kk sp : List (List Int)} {p : Nat} (hp : p < kk.length) (r c : Int) : c ∈ tP (tabF n cam (kk.eraseIdx p) sp at_) r ↔ c ∈ tP (tabF n cam kk sp at_) (upI p r) := by
  rw [mem_tabF, mem_tabF, List.length_eraseIdx_of_lt hp]
  constructor
  · rintro ⟨a, rfl, ha, hc⟩
    rw [row_star] at hc
    exact ⟨_, upI_nat p a, by split <;> omega, hc⟩
  · rintro ⟨i, e, hi, hc⟩
    have h0 : 0 ≤ r := by
      unfold upI at e
      split at e <;> omega
    obtain ⟨a, rfl⟩ := Int.eq_ofNat_of_zero_le h0
    rw [upI_nat] at e
    have e' : (if a < p then a else a + 1) = i := by omega
    refine ⟨a, rfl, ?_, ?_⟩
    · by_cases h : a < p
      · omega
      · rw [if_neg h] at e'; omega
    · rw [row_star, e']
      exact hc
theorem mem_sure {n r b g l : Int} {at_ : List Int} {kk : List (List Int)} (hsky : isSky n kk [r, b, g, l] = true) (hp : isPose n at_ = true) (x : Int) : x ∈ sureN n [r, b, g, l] at_ kk ↔ ∃ i : Nat, x = (i : Int) ∧ i < kk.length ∧ visAt n at_ kk (r - b) (l + g) i = true := by
  have h := shown_sure rfl hsky hp kk.length (Nat.le_refl _)
  rw [List.take_length] at h
  rw [← h]
  unfold shownP
  rw [List.mem_map]
  constructor
  · rintro ⟨i, hi, rfl⟩
    obtain ⟨h1, h2⟩ := List.mem_filter.mp hi
    exact ⟨i, rfl, List.mem_range.mp h1, h2⟩
  · rintro ⟨i, rfl, h1, h2⟩
    exact ⟨i, List.mem_filter.mpr ⟨List.mem_range.mpr h1, h2⟩, rfl⟩
theorem sky_sub {n : Int} {cam : List Int} {kk ll : List (List Int)} (hs : ll.Sublist kk) (h : isSky n kk cam = true) : isSky n ll cam = true := by
  obtain ⟨h1, h2, h3, h4, h5⟩ := sky_parts h
  unfold isSky
  rw [decide_eq_true h1, List.all_eq_true.mpr (fun x hx => List.all_eq_true.mp h2 x (hs.subset hx)), decide_eq_true (h3.sublist hs), decide_eq_true (Nat.le_trans hs.length_le h4), h5]
  rfl
theorem sight_sub {cam : List Int} {sp tp : List (List Int)} (hs : tp.Sublist sp) (h : isSight cam sp = true) : isSight cam tp = true := by
  obtain ⟨h1, h2, h3⟩ := sight_parts h
  unfold isSight
  rw [List.all_eq_true.mpr (fun x hx => List.all_eq_true.mp h1 x (hs.subset hx)), decide_eq_true (show AscL tp from List.Pairwise.sublist hs h2), decide_eq_true (Nat.le_trans hs.length_le h3)]
  rfl
theorem asc_up {p : Nat} {l : List Int} (h : l.Pairwise (· < ·)) : (l.map (upI p)).Pairwise (· < ·) := by
  rw [List.pairwise_map]
  exact h.imp fun h => upI_lt h
theorem sure_star {n r b g l : Int} {at_ : List Int} {kk : List (List Int)} {p : Nat} (hsky : isSky n kk [r, b, g, l] = true) (hpose : isPose n at_ = true) (hp : p < kk.length) : (sureN n [r, b, g, l] at_ (kk.eraseIdx p)).map (upI p) = (sureN n [r, b, g, l] at_ kk).filter fun z => decide (z ≠ (p : Int)) := by
  have hsky' := sky_sub (List.eraseIdx_sublist kk p) hsky
  refine asc_eq (asc_up (sureN_asc _ _ _ _)) ((sureN_asc _ _ _ _).filter _) fun x => ?_
  rw [List.mem_map, List.mem_filter, decide_eq_true_iff]
  have vis : ∀ i, visAt n at_ (kk.eraseIdx p) (r - b) (l + g) i = visAt n at_ kk (r - b) (l + g) (if i < p then i else i + 1) := fun i => by
    unfold visAt
    rw [List.getElem?_eraseIdx]
    by_cases h : i < p
    · rw [if_pos h, if_pos h]
    · rw [if_neg h, if_neg h]
  constructor
  · rintro ⟨c, hc, rfl⟩
    obtain ⟨i, rfl, hi, hv⟩ := (mem_sure hsky' hpose c).mp hc
    rw [List.length_eraseIdx_of_lt hp] at hi
    rw [vis] at hv
    exact ⟨(mem_sure hsky hpose _).mpr ⟨_, upI_nat p i, by split <;> omega, hv⟩, upI_ne p _⟩
  · rintro ⟨hx, hne⟩
    obtain ⟨i, rfl, hi, hv⟩ := (mem_sure hsky hpose x).mp hx
    obtain ⟨c, hc⟩ := upI_of hne
    refine ⟨c, (mem_sure hsky' hpose c).mpr ?_, hc⟩
    have h0 : 0 ≤ c := by
      unfold upI at hc
      split at hc <;> omega
    obtain ⟨a, rfl⟩ := Int.eq_ofNat_of_zero_le h0
    rw [upI_nat] at hc
    have e' : (if a < p then a else a + 1) = i := by omega
    refine ⟨a, rfl, ?_, ?_⟩
    · rw [List.length_eraseIdx_of_lt hp]
      by_cases h : a < p
      · omega
      · rw [if_neg h] at e'; omega
    · rw [vis, e']
      exact hv
theorem spots_star {m p : Nat} (hp : p < m) : (spotsN (m - 1)).map (upI p) = (spotsN m).filter fun z => decide (z ≠ (p : Int)) := by
  refine asc_eq (asc_up (spotsN_asc _)) ((spotsN_asc _).filter _) fun x => ?_
  rw [List.mem_map, List.mem_filter, decide_eq_true_iff]
  constructor
  · rintro ⟨c, hc, rfl⟩
    obtain ⟨i, hi, rfl⟩ := List.mem_map.mp hc
    have := List.mem_range.mp hi
    refine ⟨?_, upI_ne p _⟩
    show upI p (i : Int) ∈ _
    rw [upI_nat]
    exact in_rng (by split <;> omega)
  · rintro ⟨hx, hne⟩
    have h1 := spotsN_mem hx
    obtain ⟨c, hc⟩ := upI_of hne
    refine ⟨c, ?_, hc⟩
    have h2 : 0 ≤ c ∧ c < ((m - 1 : Nat) : Int) := by
      unfold upI at hc
      split at hc <;> omega
    obtain ⟨a, rfl⟩ := Int.eq_ofNat_of_zero_le h2.1
    exact in_rng (by omega)
theorem lack_rows {P P' : Int → List Int} {p : Nat} (hP : ∀ r c, c ∈ P' r ↔ c ∈ P (upI p r)) {W : List Int} {x : Int} (h : LackIs P' W x) : LackIs P (W.map (upI p)) x := by
  have tr : ∀ (M : List Int) (y : Int), lackI P' M y ↔ lackI P (M.map (upI p)) y := fun M y => by
    have e : ∀ c, (∃ r ∈ M, c ∈ P' r) ↔ ∃ r ∈ M.map (upI p), c ∈ P r := fun c => by
      constructor
      · rintro ⟨r, hr, hc⟩
        exact ⟨_, List.mem_map_of_mem hr, (hP r c).mp hc⟩
      · rintro ⟨r, hr, hc⟩
        obtain ⟨q, hq, rfl⟩ := List.mem_map.mp hr
        exact ⟨q, hq, (hP q c).mpr hc⟩
    unfold lackI
    rw [List.length_map]
    constructor
    · rintro ⟨ns, h1, h2, h3⟩
      exact ⟨ns, h1, fun c => (h2 c).trans (e c), h3⟩
    · rintro ⟨ns, h1, h2, h3⟩
      exact ⟨ns, h1, fun c => (h2 c).trans (e c).symm, h3⟩
  obtain ⟨⟨M, hM, lM⟩, up⟩ := h
  refine ⟨⟨M.map (upI p), hM.map _, (tr M x).mp lM⟩, fun N hN y ly => ?_⟩
  obtain ⟨M2, hM2, rfl⟩ := List.sublist_map_iff.mp hN
  exact up M2 hM2 y ((tr M2 y).mpr ly)
theorem need_star {n r b g l : Int} {at_ : List Int} {kk sp : List (List Int)} {p : Nat} {z y z' y' : Int} (hsky : isSky n kk [r, b, g, l] = true) (hpose : isPose n at_ = true) (hp : p < kk.length) (h : NeedAt n [r, b, g, l] kk sp at_ z y) (h' : NeedAt n [r, b, g, l] (kk.eraseIdx p) sp at_ z' y') :
    (z' = z ∧ y' = y) ∨ (z' = z ∧ y' = y + 1) ∨ ((p : Int) ∈ sureN n [r, b, g, l] at_ kk ∧ z' = z - 1 ∧ y' = y) := by
  obtain ⟨a1, a2, _⟩ := h
  obtain ⟨b1, b2, _⟩ := h'
  have c1 := lack_rows (tab_star hp) b1
  have c2 := lack_rows (tab_star hp) b2
  rw [sure_star hsky hpose hp] at c1
  rw [List.length_eraseIdx_of_lt hp] at c2
  have e : (List.range (kk.length - 1)).map Int.ofNat = spotsN (kk.length - 1) := rfl
  rw [e, spots_star hp, spotsN_len] at c2
  have e2 : (List.range kk.length).map Int.ofNat = spotsN kk.length := rfl
  rw [e2, spotsN_len] at a2
  obtain ⟨d1, d2, d3⟩ := lose_row (sureN_nodup n _ at_ kk) (nodupK kk.length) sure_spots a1 c1 a2 c2
  rcases d1 with d1 | ⟨d1, d4⟩
  · omega
  · by_cases e3 : y' = y
    · exact .inr (.inr ⟨d4, d1, e3⟩)
    · omega
end Sw
namespace Sw
open PySem PySem.Spec PyProof.Rows L2
theorem mem_turnT {rows : List (List Int)} {many : Nat} {r c : Int} : c ∈ tP (turnT rows many) r ↔ (0 ≤ r ∧ r < (many : Int)) ∧ r ∈ tP rows c := by
  rw [mem_tP]
  unfold turnT
  constructor
  · rintro ⟨h0, l, hl, hc⟩
    rw [List.getElem?_map] at hl
    obtain ⟨a, ha, rfl⟩ := Option.map_eq_some_iff.mp hl
    obtain ⟨h2, h3⟩ := List.getElem?_eq_some_iff.mp ha
    rw [List.length_range] at h2
    rw [List.getElem_range] at h3
    unfold turnedI at hc
    have h4 := of_decide_eq_true (List.mem_filter.mp hc).2
    have e : (a : Int) = r := by omega
    rw [e] at h4
    exact ⟨⟨h0, by omega⟩, h4⟩
  · rintro ⟨⟨h0, h1⟩, h2⟩
    obtain ⟨a, rfl⟩ := Int.eq_ofNat_of_zero_le h0
    refine ⟨h0, turnedI rows a, ?_, ?_⟩
    · rw [List.getElem?_map, Int.toNat_natCast, List.getElem?_range (by omega)]
      rfl
    · unfold turnedI
      obtain ⟨i, rfl, hi⟩ := tP_row h2
      exact List.mem_filter.mpr ⟨in_rng hi, decide_eq_true h2⟩
theorem swp_len (g : MM) : (swp g).length = g.length := List.length_map ..
section
variable {n : Int} {cam at_ : List Int} {kk sp : List (List Int)}
theorem told16 {g : MM} {z y : Int} (hB : BestOf (tabF n cam kk sp at_) (sureN n cam at_ kk) sp.length g) (hN : NeedAt n cam kk sp at_ z y) : leftS (sureN n cam at_ kk) g = z ∧ (sp.length : Int) - (g.length : Int) = y := by
  obtain ⟨_, _, ⟨g1, M1, _, X1, e1⟩, ⟨g2, M2, _, X2, e2⟩⟩ := hN
  have a1 := X1 g hB.mt
  have a2 := hB.top g1 M1
  have a3 := hB.tops g2 M2
  rw [cols_len M2 (nodupK _) tabF_col, cols_len hB.mt (nodupK _) tabF_col] at a3
  have a4 := X2 g hB.mt
  have b1 := all_len hB.mt
  have b2 := all_len M2
  rw [tabF_len] at b1 b2
  rw [b1] at a4
  rw [leftS_eq]
  omega
theorem lot_stars {F : List Int} {z y : Int} (hF : LotOf (tabF n cam kk sp at_) (sureN n cam at_ kk) F) (hN : NeedAt n cam kk sp at_ z y) : lackI (tP (tabF n cam kk sp at_)) F z ∧ F.Sublist (sureN n cam at_ kk) ∧ F.Pairwise (· < ·) := by
  obtain ⟨g, ha, hL, hX⟩ := hF
  obtain ⟨_, _, ⟨g1, M1, _, X1, e1⟩, _⟩ := hN
  have h1 := least_lack hL (sureN_nodup _ _ _ _) (asc_nodup ha)
  have a1 := X1 g hL.mt
  have a2 := hX g1 M1
  refine ⟨?_, asc_sub ha (sureN_asc _ _ _ _) hL.sub, ha⟩
  rw [show z = ((sureN n cam at_ kk).length : Int) - (((sureN n cam at_ kk).filter (has g)).length : Int) by omega]
  exact h1
theorem lot_spots {F : List Int} {z y : Int} (hF : LotOf (turnT (tabF n cam kk sp at_) sp.length) (spotsN sp.length) F) (hN : NeedAt n cam kk sp at_ z y) : lackI (tP (turnT (tabF n cam kk sp at_) sp.length)) F y ∧ F.Sublist (spotsN sp.length) ∧ F.Pairwise (· < ·) := by
  obtain ⟨g, ha, hL, hX⟩ := hF
  obtain ⟨_, _, _, ⟨g2, M2, _, X2, e2⟩⟩ := hN
  have h1 := least_lack hL (nodupK _) (asc_nodup ha)
  have Ms : Mt (tP (tabF n cam kk sp at_)) (swp g) := mt_swp hL.mt fun r c hc => (mem_turnT.mp hc).2
  have M2s : Mt (tP (turnT (tabF n cam kk sp at_) sp.length)) (swp g2) := mt_swp M2 fun r c hc => mem_turnT.mpr ⟨by
    obtain ⟨_, l, hl, hcl⟩ := tP_some hc
    exact (tabF_mem (List.mem_of_getElem? hl)).2 c hcl, hc⟩
  have a1 := X2 _ Ms
  have a2 := hX _ M2s
  have b1 := all_len Ms
  have b2 := all_len M2
  have b3 := all_len hL.mt
  have b4 := all_len M2s
  rw [tabF_len] at b1 b2
  rw [turnT_len] at b3 b4
  rw [swp_len] at b1 b4
  rw [b1] at a1
  rw [b4] at a2
  refine ⟨?_, asc_sub ha (spotsN_asc _) hL.sub, ha⟩
  rw [spotsN_len] at h1
  have b3' : ((spotsN sp.length).filter (has g)).length = g.length := b3
  rw [b3'] at h1 a2
  rw [show y = (sp.length : Int) - (g.length : Int) by omega]
  exact h1
theorem need_bd {z y : Int} (hN : NeedAt n cam kk sp at_ z y) : 0 ≤ z ∧ z ≤ kk.length ∧ 0 ≤ y ∧ y ≤ sp.length := by
  obtain ⟨a1, _, _, ⟨g2, M2, _, X2, e2⟩⟩ := hN
  have h1 := lackIs_bd a1
  have h2 := sureN_len n cam at_ kk
  have b2 := all_len M2
  rw [tabF_len] at b2
  have c1 := cols_len M2 (nodupK sp.length) tabF_col
  have c2 := List.length_filter_le (has (swp g2)) ((List.range sp.length).map Int.ofNat)
  rw [List.length_map, List.length_range] at c2
  omega
end
/-- a list is what its members leave of another -/
theorem filt_eq {F W : List Int} (hF : F.Pairwise (· < ·)) (hW : W.Pairwise (· < ·)) (h : F.Sublist W) : (W.filter fun x => decide (x ∈ F)) = F := by
  refine asc_eq (hW.filter _) hF fun x => ?_
  rw [List.mem_filter, decide_eq_true_iff]
  exact ⟨fun z => z.2, fun z => ⟨h.subset z, z⟩⟩
def spLIsMt (K : PySem.W.Frag) : Sp := fun vs H Q _ => ∃ (t tl : Addr) (tb ks : Tups) (m : MM), vs = [.ref t, .ref tl] ∧ TabAt K H t tb ∧ tb.length ≤ 1000 ∧ SqL K H tl (refs ks) ∧ TupsAt K H ks ∧ keys ks = pairs2 m ∧ m.length < 64 ∧ Mt (tP (keys tb)) m ∧
  ∀ H' : Hp, Same H H' → Q (.bl true) H'
def spLIsLot (K : PySem.W.Frag) : Sp := fun vs H Q _ => ∃ (fl wl : Addr) (F W : List Int), vs = [.ref fl, .ref wl] ∧ SqL K H fl (F.map V.int) ∧ SqL K H wl (W.map V.int) ∧ W.length ≤ 60 ∧ F.Sublist W ∧ F.Pairwise (· < ·) ∧ W.Pairwise (· < ·) ∧
  ∀ H' : Hp, Same H H' → Q (.bl true) H'
def spLShown (K : PySem.W.Frag) (C : Addr) : Sp := fun vs H Q _ => ∃ (pp p pa ps u : Addr) (n : Int) (ks kq ss : Tups) (cam at_ : List Int) (z y : Int), vs = [.ref pp, .ref p, .ref pa, .ref ps, .ref u] ∧ PartsAt K H pp n ks cam ∧ SkyS K C H p n kq cam ∧ keys kq = keys ks ∧ isSky n (keys ks) cam = true ∧ H pa = some (.tup (at_.map V.int)) ∧ isPose n at_ = true ∧ SqT K H ps (refs ss) ∧ TupsAt K H ss ∧ isSight cam (keys ss) = true ∧ ss.length ≤ 20 ∧ SqT K H u [.int z, .int y] ∧ NeedAt n cam (keys ks) (keys ss) at_ z y ∧
  ∀ H' : Hp, Same H H' → Q (.bl true) H'
end Sw
namespace Sw
open PySem PySem.Spec PyProof.Rows L2
theorem tabF_rowN {n : Int} {cam : List Int} {kk sp : List (List Int)} {at_ : List Int} {k : Nat} (h : sp.length ≤ k) (r : Int) : (tP (tabF n cam kk sp at_) r).length ≤ k := by
  unfold tP
  split
  · cases e : (tabF n cam kk sp at_)[r.toNat]? with
    | none => exact Nat.zero_le _
    | some l => exact Nat.le_trans (tabF_mem (List.mem_of_getElem? e)).1 h
  · exact Nat.zero_le _
theorem need_uniq {n : Int} {cam at_ : List Int} {kk sp : List (List Int)} {z y z' y' : Int} (h : NeedAt n cam kk sp at_ z y) (h' : NeedAt n cam kk sp at_ z' y') : z' = z ∧ y' = y := by
  have a := lackIs_uniq h'.1 h.1
  have b := lackIs_uniq h'.2.1 h.2.1
  exact ⟨a, by omega⟩
end Sw
namespace Sw
open PySem PySem.Spec PyProof.Rows L2
theorem slA_mk {K : PySem.W.Frag} {a : Addr} {xs : List V} {lo hi : Option Int} {H : Hp} {Q : VK} (h : SqT K H a xs) (q : ∀ (p : Addr) (H' : Hp), Same H H' → SqT K H' p (cutV xs lo hi) → Q (.ref p) H') : rSlA K (.ref a) lo hi H Q := by
  refine ⟨a, xs, rfl, h, fun hw => q a H (Same.refl _) ?_, fun _ p np => q p _ (same_new np) (.inl (.inl upd_same))⟩
  have e : cutV xs lo hi = xs := by
    unfold cutV
    rw [hw.1, hw.2, List.drop_zero, Nat.sub_zero, List.take_length]
  rw [e]
  exact h
theorem catA_mk {K : PySem.W.Frag} {a b : Addr} {xs ys : List V} {H : Hp} {Q : VK} (hx : SqT K H a xs) (hy : SqT K H b ys) (hl : xs.length + ys.length ≤ sizeLine) (q : ∀ (p : Addr) (H' : Hp), Same H H' → SqT K H' p (xs ++ ys) → Q (.ref p) H') : rCatA K (.ref a) (.ref b) H Q :=
  ⟨a, b, xs, ys, rfl, rfl, hx, hy, hl, fun e => q b H (Same.refl _) (by rw [e]; exact hy), fun _ e => q a H (Same.refl _) (by rw [e, List.append_nil]; exact hx), fun _ _ p np => q p _ (same_new np) (.inl (.inl upd_same))⟩
theorem cut_take {ks : Tups} {i : Nat} (hi : i ≤ ks.length) : cutV (refs ks) none (some (i : Int)) = refs (ks.take i) := by
  unfold cutV
  rw [HT.sIx_nat, refs_len, Nat.min_eq_left hi]
  show ((refs ks).drop 0).take (i - 0) = _
  unfold refs
  rw [List.drop_zero, Nat.sub_zero, List.map_take]
theorem cut_drop {ks : Tups} {i : Nat} (hi : i ≤ ks.length) : cutV (refs ks) (some (i : Int)) none = refs (ks.drop i) := by
  unfold cutV
  rw [HT.sIx_nat, refs_len, Nat.min_eq_left hi]
  show ((refs ks).drop i).take ((ks.length) - i) = _
  rw [List.take_of_length_le (by rw [List.length_drop, refs_len]; exact Nat.le_refl _)]
  unfold refs
  rw [List.map_drop]
theorem refs_gone (ks : Tups) (i : Nat) : refs (ks.take i) ++ refs (ks.drop (i + 1)) = refs (ks.eraseIdx i) := by
  rw [List.eraseIdx_eq_take_drop_succ]
  unfold refs
  rw [List.map_append]
theorem keys_gone (ks : Tups) (i : Nat) : keys (ks.eraseIdx i) = (keys ks).eraseIdx i := by
  rw [List.eraseIdx_eq_take_drop_succ, List.eraseIdx_eq_take_drop_succ]
  unfold keys
  rw [List.map_append, List.map_take, List.map_drop]
theorem tups_gone {K : PySem.W.Frag} {H : Hp} {ks : Tups} {i : Nat} (h : TupsAt K H ks) : TupsAt K H (ks.eraseIdx i) := fun p hp => h p ((List.eraseIdx_sublist ks i).subset hp)
theorem asc_sub10 {kk ll : List (List Int)} (h : ll.Sublist kk) (ha : Asc 10 kk) : Asc 10 ll := List.Pairwise.sublist h ha
end Sw
set_option Elab.async false
set_option linter.all false
set_option maxRecDepth 100000
set_option maxHeartbeats 4000000
/-! Votes by pairs of spots (own work; k35 and its family). -/
namespace L2
open PySem PySem.Spec PyProof.Rows
theorem get_list {X : Cx} : PGet X (fun o i H Q => ∃ p xs k z, o = V.ref p ∧ i = V.int k ∧ SqL X.K H p xs ∧ 0 ≤ k ∧ atI xs k = some z ∧ Q z H) := by
  intro pins s σ H o i ov iv Q I ro ri h
  obtain ⟨p, xs, k, z, rfl, rfl, hq, h0, he, q⟩ := h
  cases ro
  obtain ⟨t, rfl⟩ := ri
  obtain ⟨its, r, pl, hz⟩ := I.list hq
  obtain ⟨j, h1, h2, h3, h4, h5⟩ := atI_get he
  obtain ⟨w, ew, rw'⟩ := r.get h2
  have hl := r.length
  have hn := line63
  have hj : k.toNat = j := by
    rw [seqIndex_of h0 h5] at h1
    exact Option.some.inj h1
  exact wpAny_getItem_list (x := w) pl.isList h0 (by omega) (by rw [hj]; simpa using ew) ⟨z, H, I, rw', q⟩
theorem sl_tupAK {X : Cx} {K : PySem.W.Frag} (h : X.K = K := by rfl) : SlR X (rSlA K) := h ▸ sl_tupA
theorem sl_tupAMK {X : Cx} {K : PySem.W.Frag} (h : X.K = K := by rfl) : SlR X (Sw.rSlAM K) := h ▸ Sw.sl_tupAM
def tTru (K : PySem.W.Frag) (ta : TE) : TT := fun σ H Q => ta σ H fun x H' => ∃ k, TruV K x H' k ∧ Q k H'
theorem pt_truthK {X : Cx} {K : PySem.W.Frag} {a : Expr} {ta : TE} (ha : PE X a ta) (he : ∀ whole, isTrue a X.env whole = (do let v ← whole; standAt a.pos; holding [v] (truthy v))) (h : X.K = K := by rfl) : PT X a (tTru K ta) := h ▸ pt_truth ha he
end L2
namespace Sw
open PySem PySem.Spec PyProof.Rows L2
def Cb (x : Int) : Int := x * (x - 1) / 2
theorem cb_succ (x : Int) : Cb (x + 1) = Cb x + x := by
  unfold Cb
  have e : (x + 1) * (x + 1 - 1) = x * (x - 1) + x * 2 := by
    rw [show x + 1 - 1 = x by omega, Int.add_mul, Int.mul_sub, Int.one_mul, Int.mul_one]
    omega
  rw [e, Int.add_mul_ediv_right _ _ (by decide)]
/-- do two rows hold two different ones -/
def voteB (a b : List Int) : Bool := a.any fun s => b.any fun o => decide (o ≠ s)
def vo : List (List Int) → Int
  | [] => 0
  | x :: r => vo r + ((r.filter fun a => voteB a x).length : Int)
def fit (r : List (List Int)) : Int := ((r.filter fun a => decide (a ≠ [])).length : Int)
def al (r : List (List Int)) (i : Int) : Int := ((r.filter fun a => decide (a = [i])).length : Int)
def sumC (r : List (List Int)) (L : List Int) : Int := (L.map fun i => Cb (al r i)).sum
theorem voteB_nil (a : List Int) : voteB a [] = false := by
  unfold voteB
  induction a with
  | nil => rfl
  | cons x r ih => rw [List.any_cons, ih]; rfl
theorem voteB_one {a : List Int} {s : Int} (hn : a.Nodup) : voteB a [s] = (decide (a ≠ []) && !decide (a = [s])) := by
  unfold voteB
  match a, hn with
  | [], _ => rfl
  | [x], _ =>
    by_cases e : s = x
    · subst e
      simp
    · have e2 : ¬ x = s := fun z => e z.symm
      simp [e, e2]
  | x :: y :: r, hn =>
    have hxy : x ≠ y := fun e => (List.nodup_cons.mp hn).1 (e ▸ List.mem_cons_self)
    have h2 : ¬ (x :: y :: r = [s]) := fun e => by injection e with _ e; cases e
    rw [decide_eq_false h2, decide_eq_true (by intro e; cases e)]
    refine List.any_eq_true.mpr ?_
    by_cases e : s = x
    · exact ⟨y, List.mem_cons_of_mem _ List.mem_cons_self, List.any_eq_true.mpr ⟨s, List.mem_singleton.mpr rfl, decide_eq_true (fun z => hxy (e.symm.trans z))⟩⟩
    · exact ⟨x, List.mem_cons_self, List.any_eq_true.mpr ⟨s, List.mem_singleton.mpr rfl, decide_eq_true e⟩⟩
theorem voteB_two {a b : List Int} {x y : Int} (hx : x ∈ b) (hy : y ∈ b) (hne : x ≠ y) : voteB a b = decide (a ≠ []) := by
  unfold voteB
  cases a with
  | nil => rfl
  | cons s r =>
    rw [decide_eq_true (by intro e; cases e)]
    refine List.any_eq_true.mpr ⟨s, List.mem_cons_self, List.any_eq_true.mpr ?_⟩
    by_cases e : x = s
    · exact ⟨y, hy, decide_eq_true fun z => hne (e.trans z.symm)⟩
    · exact ⟨x, hx, decide_eq_true e⟩
theorem fit_cons (x : List Int) (r : List (List Int)) : fit (x :: r) = fit r + (if x = [] then 0 else 1) := by
  unfold fit
  by_cases h : x = []
  · rw [List.filter_cons_of_neg (p := fun a : List Int => decide (a ≠ [])) (by rw [h]; decide), if_pos h]
    omega
  · rw [List.filter_cons_of_pos (p := fun a : List Int => decide (a ≠ [])) (decide_eq_true h), if_neg h, List.length_cons]
    omega
theorem al_cons (x : List Int) (r : List (List Int)) (i : Int) : al (x :: r) i = al r i + (if x = [i] then 1 else 0) := by
  unfold al
  by_cases h : x = [i]
  · rw [List.filter_cons_of_pos (p := fun a : List Int => decide (a = [i])) (decide_eq_true h), if_pos h, List.length_cons]
    omega
  · rw [List.filter_cons_of_neg (p := fun a : List Int => decide (a = [i])) (by rw [decide_eq_false h]; decide), if_neg h]
    omega
theorem sumC_same {x : List Int} {r : List (List Int)} : ∀ {L : List Int}, (∀ i ∈ L, x ≠ [i]) → sumC (x :: r) L = sumC r L
  | [], _ => rfl
  | i :: L, h => by
    have ih := sumC_same (x := x) (r := r) (L := L) fun j hj => h j (List.mem_cons_of_mem _ hj)
    unfold sumC at ih ⊢
    rw [List.map_cons, List.sum_cons, List.map_cons, List.sum_cons, ih, al_cons, if_neg (h i List.mem_cons_self), Int.add_zero]
theorem sumC_one {s : Int} {r : List (List Int)} : ∀ {L : List Int}, L.Nodup → s ∈ L → sumC ([s] :: r) L = sumC r L + al r s
  | [], _, h => by cases h
  | i :: L, hn, h => by
    obtain ⟨h1, h2⟩ := List.nodup_cons.mp hn
    by_cases e : s = i
    · subst e
      have ih := sumC_same (x := [s]) (r := r) (L := L) fun j hj z => by
        injection z with z _
        exact h1 (z ▸ hj)
      unfold sumC at ih ⊢
      rw [List.map_cons, List.sum_cons, List.map_cons, List.sum_cons, ih, al_cons, if_pos rfl, cb_succ]
      omega
    · have ih := sumC_one (s := s) (r := r) h2 ((List.mem_cons.mp h).resolve_left e)
      unfold sumC at ih ⊢
      rw [List.map_cons, List.sum_cons, List.map_cons, List.sum_cons, ih, al_cons, if_neg (fun z => e (List.cons.inj z).1), Int.add_zero]
      omega
theorem count_one {s : Int} : ∀ {r : List (List Int)}, (∀ a ∈ r, a.Nodup) → ((r.filter fun a => voteB a [s]).length : Int) = fit r - al r s
  | [], _ => rfl
  | a :: r, h => by
    have ih := count_one (s := s) (r := r) fun x hx => h x (List.mem_cons_of_mem _ hx)
    have hv := voteB_one (s := s) (h a List.mem_cons_self)
    rw [fit_cons, al_cons]
    by_cases h1 : a = []
    · subst h1
      rw [List.filter_cons_of_neg (by rw [hv]; exact Bool.false_ne_true), ih, if_pos rfl, if_neg (by intro e; cases e)]
      omega
    · by_cases h2 : a = [s]
      · rw [List.filter_cons_of_neg (by rw [hv, decide_eq_true h2, Bool.not_true, Bool.and_false]; decide), ih, if_neg h1, if_pos h2]
        omega
      · rw [List.filter_cons_of_pos (by rw [hv, decide_eq_true h1, decide_eq_false h2]; rfl), List.length_cons, if_neg h1, if_neg h2]
        omega
theorem vo_count {L : List Int} (hL : L.Nodup) : ∀ {r : List (List Int)}, (∀ a ∈ r, a.Nodup ∧ ∀ c ∈ a, c ∈ L) → vo r = Cb (fit r) - sumC r L
  | [], _ => by
    have : sumC [] L = 0 := by
      clear hL
      rename_i hh
      clear hh
      unfold sumC
      induction L with
      | nil => rfl
      | cons i L ih => rw [List.map_cons, List.sum_cons, ih]; rfl
    rw [this]
    rfl
  | x :: r, h => by
    have ih := vo_count hL (r := r) fun a ha => h a (List.mem_cons_of_mem _ ha)
    obtain ⟨xn, xL⟩ := h x List.mem_cons_self
    show vo r + _ = _
    rw [ih, fit_cons]
    match x, xn, xL with
    | [], _, _ =>
      rw [if_pos rfl, sumC_same fun i _ e => by cases e]
      have : (r.filter fun a => voteB a []) = [] := List.filter_eq_nil_iff.mpr fun a _ => by rw [voteB_nil]; decide
      rw [this, Int.add_zero]
      show _ - _ + 0 = _
      omega
    | [s], _, xL =>
      rw [if_neg (by intro e; cases e), sumC_one hL (xL s List.mem_cons_self), count_one fun a ha => (h a (List.mem_cons_of_mem _ ha)).1, cb_succ]
      omega
    | s :: t :: y, xn, _ =>
      have hst : s ≠ t := fun e => (List.nodup_cons.mp xn).1 (e ▸ List.mem_cons_self)
      rw [if_neg (by intro e; cases e), sumC_same fun i _ e => by injection e with _ e; cases e]
      have : (r.filter fun a => voteB a (s :: t :: y)) = r.filter fun a => decide (a ≠ []) := List.filter_congr fun a _ => voteB_two List.mem_cons_self (List.mem_cons_of_mem _ List.mem_cons_self) hst
      rw [this, cb_succ]
      unfold fit
      omega
end Sw
namespace Sw
open PySem PySem.Spec PyProof.Rows L2
theorem rng_map {α β : Type} (f : Option α → β) (l : List α) : (List.range l.length).map (fun k => f (l[k]?)) = l.map fun x => f (some x) := by
  refine List.ext_getElem (by rw [List.length_map, List.length_map, List.length_range]) fun i h1 h2 => ?_
  rw [List.length_map] at h2
  rw [List.getElem_map, List.getElem_map, List.getElem_range, List.getElem?_eq_getElem h2]
theorem rng_filter {α : Type} (f : Option α → Bool) (l : List α) : ((List.range l.length).filter fun k => f (l[k]?)).length = (l.filter fun x => f (some x)).length := by
  have h : (List.filter id ((List.range l.length).map fun k => f (l[k]?))).length = (List.filter id (l.map fun x => f (some x))).length := by rw [rng_map]
  rw [List.filter_map, List.filter_map, List.length_map, List.length_map] at h
  exact h
theorem nearC_comm {b g : Int} (d s : List Int) : nearC b g d s = nearC b g s d := by
  match d, s with
  | [], [] => rfl
  | [], [_] => rfl
  | [], [_, _] => rfl
  | [], [_, _, _] => rfl
  | [], _ :: _ :: _ :: _ :: _ => rfl
  | [_], [] => rfl
  | [_], [_] => rfl
  | [_], [_, _] => rfl
  | [_], [_, _, _] => rfl
  | [_], _ :: _ :: _ :: _ :: _ => rfl
  | [_, _], [] => rfl
  | [_, _], [_] => rfl
  | [_, _], [_, _] => rfl
  | [_, _], [_, _, _] => rfl
  | [_, _], _ :: _ :: _ :: _ :: _ => rfl
  | [_, _, _], [] => rfl
  | [_, _, _], [_] => rfl
  | [_, _, _], [_, _] => rfl
  | [_, _, _], _ :: _ :: _ :: _ :: _ => rfl
  | _ :: _ :: _ :: _ :: _, [] => rfl
  | _ :: _ :: _ :: _ :: _, [_] => rfl
  | _ :: _ :: _ :: _ :: _, [_, _] => rfl
  | _ :: _ :: _ :: _ :: _, [_, _, _] => rfl
  | _ :: _ :: _ :: _ :: _, _ :: _ :: _ :: _ :: _ => rfl
  | [x, y, c], [u, v, e] =>
    have h : ∀ a b : Int, iabs (a - b) = iabs (b - a) := fun a b => by
      unfold iabs
      (repeat' split) <;> omega
    show decide _ = decide _
    rw [h x u, h y v, h c e]
theorem nearK_count (b g : Int) (W : List (List Int)) (s : List Int) : (nearK b g W s).length = (W.filter fun d => nearC b g s d).length := by
  unfold nearK
  rw [List.length_map]
  exact rng_filter (fun o => match o with | some d => nearC b g s d | none => false) W
def seenW (n : Int) (cam at_ : List Int) (kk : List (List Int)) : List (List Int) := kk.filterMap (seenOne n cam at_)
theorem seenI_W (n : Int) (cam at_ : List Int) : ∀ (kk : List (List Int)) (j : Nat), (seenI n cam at_ j kk).map (·.2) = seenW n cam at_ kk
  | [], _ => rfl
  | k :: r, j => by
    show ((match seenOne n cam at_ k with | some d => [((j : Int), d)] | none => []) ++ seenI n cam at_ (j + 1) r).map (·.2) = _
    rw [List.map_append, seenI_W n cam at_ r (j + 1)]
    unfold seenW
    cases e : seenOne n cam at_ k with
    | none => rw [List.filterMap_cons_none e]; rfl
    | some d => rw [List.filterMap_cons_some e]; rfl
theorem tab_map {n r b g l : Int} {at_ : List Int} {kk sp : List (List Int)} : tabF n [r, b, g, l] kk sp at_ = kk.map fun k => match seenOne n [r, b, g, l] at_ k with | some d => nearK b g sp d | none => [] := by
  rw [tabF_eq]
  refine Eq.trans ?_ ((rng_map (fun o => match o.bind (seenOne n [r, b, g, l] at_) with | some d => nearK b g sp d | none => []) kk).trans rfl)
  refine List.map_congr_left fun a _ => ?_
  show rowF n [r, b, g, l] kk sp at_ a = match sO n [r, b, g, l] at_ kk a with | some d => nearK b g sp d | none => []
  unfold rowF
  cases sO n [r, b, g, l] at_ kk a <;> rfl
theorem tab_sum {n r b g l : Int} {at_ : List Int} {kk sp : List (List Int)} {F : List Int → Int} (h0 : F [] = 0) : ((tabF n [r, b, g, l] kk sp at_).map F).sum = ((seenW n [r, b, g, l] at_ kk).map fun d => F (nearK b g sp d)).sum := by
  rw [tab_map]
  unfold seenW
  induction kk with
  | nil => rfl
  | cons k r ih =>
    rw [List.map_cons, List.map_cons, List.sum_cons, ih]
    cases e : seenOne n [_, b, g, l] at_ k with
    | none => rw [List.filterMap_cons_none e, h0, Int.zero_add]
    | some d => rw [List.filterMap_cons_some e, List.map_cons, List.sum_cons]
theorem sum_if {α : Type} (p : α → Bool) : ∀ l : List α, (l.map fun d => if p d = true then (1 : Int) else 0).sum = ((l.filter p).length : Int)
  | [] => rfl
  | x :: r => by
    rw [List.map_cons, List.sum_cons, sum_if p r]
    cases e : p x with
    | true => rw [List.filter_cons_of_pos e, if_pos rfl, List.length_cons]; omega
    | false => rw [List.filter_cons_of_neg (by rw [e]; decide), if_neg (by decide)]; omega
/-- how often a spot stands in the rows -/
def cntT (T : List (List Int)) (k : Int) : Int := (T.map fun row => if decide (k ∈ row) = true then (1 : Int) else 0).sum
theorem cnt_rows {n r b g l : Int} {at_ : List Int} {kk sp : List (List Int)} {k : Nat} {s : List Int} (hs : sp[k]? = some s) : cntT (tabF n [r, b, g, l] kk sp at_) (k : Int) = ((nearK b g (seenW n [r, b, g, l] at_ kk) s).length : Int) := by
  unfold cntT
  rw [tab_sum (F := fun row => if decide ((k : Int) ∈ row) = true then (1 : Int) else 0) (if_neg (by rw [decide_eq_false List.not_mem_nil]; decide)), nearK_count, ← sum_if]
  refine congrArg List.sum (List.map_congr_left fun d _ => ?_)
  have : decide ((k : Int) ∈ nearK b g sp d) = nearC b g s d := by
    rw [nearC_comm]
    by_cases h : nearC b g d s = true
    · rw [h]
      exact decide_eq_true (mem_nearK.mpr ⟨k, rfl, s, hs, h⟩)
    · rw [Bool.eq_false_iff.mpr h]
      refine decide_eq_false fun z => ?_
      obtain ⟨j, e, s', hs', hn⟩ := mem_nearK.mp z
      have e2 : k = j := Int.ofNat.inj e
      rw [← e2, hs] at hs'
      rw [← Option.some.inj hs'] at hn
      exact h hn
  rw [this]
def rowsL (b g : Int) (sp W : List (List Int)) : List (List Int) := sp.map (nearK b g W)
theorem fit_rev (r : List (List Int)) : fit r.reverse = fit r := by
  unfold fit
  rw [List.filter_reverse, List.length_reverse]
theorem al_rev (r : List (List Int)) (i : Int) : al r.reverse i = al r i := by
  unfold al
  rw [List.filter_reverse, List.length_reverse]
/-- how many stars each spot fits -/
def starsN (T : List (List Int)) (m : Nat) : List Int := (List.range m).map fun k : Nat => cntT T (k : Int)
theorem stars_rows (n r b g l : Int) (at_ : List Int) (kk sp : List (List Int)) : starsN (tabF n [r, b, g, l] kk sp at_) sp.length = (rowsL b g sp (seenW n [r, b, g, l] at_ kk)).map fun x => (x.length : Int) := by
  unfold starsN rowsL
  rw [List.map_map]
  refine List.ext_getElem (by rw [List.length_map, List.length_map, List.length_range]) fun i h1 h2 => ?_
  rw [List.length_map] at h2
  rw [List.getElem_map, List.getElem_map, List.getElem_range]
  exact cnt_rows (List.getElem?_eq_getElem h2)
theorem fit_stars (rows : List (List Int)) : (((rows.map fun x => (x.length : Int)).filter fun z => decide (z ≠ 0)).length : Int) = fit rows := by
  unfold fit
  rw [List.filter_map, List.length_map]
  refine congrArg (fun l : List (List Int) => (l.length : Int)) (List.filter_congr fun x _ => ?_)
  show decide ((x.length : Int) ≠ 0) = decide (x ≠ [])
  refine decide_eq_decide.mpr ?_
  cases x with
  | nil => exact ⟨fun h => absurd rfl h, fun h => absurd rfl h⟩
  | cons y z => exact ⟨fun _ e => (nomatch e), fun _ e => by rw [List.length_cons] at e; omega⟩
theorem one_of {l : List Int} {i : Int} (h : l.length = 1) (hi : i ∈ l) : l = [i] := by
  match l, h with
  | [x], _ => rw [List.mem_singleton.mp hi]
theorem votes_same {n r b g l : Int} {at_ : List Int} {kk sp : List (List Int)} :
    Cb (((starsN (tabF n [r, b, g, l] kk sp at_) sp.length).filter fun z => decide (z ≠ 0)).length : Int) - ((tabF n [r, b, g, l] kk sp at_).map fun row => Cb ((row.filter fun s => decide (numI (starsN (tabF n [r, b, g, l] kk sp at_) sp.length) s = 1)).length : Int)).sum = vo (rowsL b g sp (seenW n [r, b, g, l] at_ kk)).reverse := by
  have hW : ∀ a ∈ (rowsL b g sp (seenW n [r, b, g, l] at_ kk)).reverse, a.Nodup ∧ ∀ c ∈ a, c ∈ (List.range (seenW n [r, b, g, l] at_ kk).length).map Int.ofNat := fun a ha => by
    obtain ⟨s, _, rfl⟩ := List.mem_map.mp (List.mem_reverse.mp ha)
    obtain ⟨h1, h2⟩ := nearK_row b g (seenW n [r, b, g, l] at_ kk) s
    refine ⟨h1, fun c hc => ?_⟩
    obtain ⟨h3, h4⟩ := h2 c hc
    obtain ⟨m, rfl⟩ := Int.eq_ofNat_of_zero_le h3
    exact List.mem_map.mpr ⟨m, List.mem_range.mpr (by omega), rfl⟩
  have hLn : ((List.range (seenW n [r, b, g, l] at_ kk).length).map Int.ofNat).Nodup := by
    rw [List.Nodup, List.pairwise_map]
    exact List.nodup_range.imp fun h e => h (Int.ofNat.inj e)
  rw [vo_count hLn hW, fit_rev, stars_rows, fit_stars, tab_sum (F := fun row => Cb ((row.filter fun s => decide (numI ((rowsL b g sp (seenW n [r, b, g, l] at_ kk)).map fun x => (x.length : Int)) s = 1)).length : Int)) rfl]
  refine congrArg (fun z => Cb (fit (rowsL b g sp (seenW n [r, b, g, l] at_ kk))) - z) ?_
  unfold sumC
  rw [List.map_map]
  refine congrArg List.sum ?_
  generalize seenW n [r, b, g, l] at_ kk = W
  refine List.ext_getElem (by rw [List.length_map, List.length_map, List.length_range]) fun i h1 h2 => ?_
  rw [List.length_map] at h1
  rw [List.getElem_map, List.getElem_map, List.getElem_range]
  show Cb _ = Cb (al _ (i : Int))
  rw [al_rev]
  refine congrArg Cb ?_
  have key : ((nearK b g sp W[i]).filter fun s => decide (numI ((sp.map (nearK b g W)).map fun x => (x.length : Int)) s = 1)).length = (sp.filter ((fun a => decide (a = [(i : Int)])) ∘ nearK b g W)).length := by
    have e1 := rng_filter (fun o : Option (List Int) => match o with | some s => decide (nearK b g W s = [(i : Int)]) | none => false) sp
    refine Eq.trans ?_ e1
    unfold nearK
    rw [List.filter_map, List.length_map, List.filter_filter]
    refine congrArg List.length (List.filter_congr fun k hk => ?_)
    have hk' := List.mem_range.mp hk
    have ek : sp[k]? = some sp[k] := List.getElem?_eq_getElem hk'
    rw [ek]
    show (decide (numI ((sp.map (nearK b g W)).map fun x => (x.length : Int)) (k : Int) = 1) && nearC b g W[i] sp[k]) = decide (nearK b g W sp[k] = [(i : Int)])
    have en : numI ((sp.map (nearK b g W)).map fun x => (x.length : Int)) (k : Int) = ((nearK b g W sp[k]).length : Int) := by
      unfold numI
      rw [List.getD_eq_getElem?_getD, Int.toNat_natCast, List.getElem?_map, List.getElem?_map, ek]
      rfl
    rw [en]
    by_cases h : nearK b g W sp[k] = [(i : Int)]
    · rw [decide_eq_true h, h]
      have hm : (i : Int) ∈ nearK b g W sp[k] := by rw [h]; exact List.mem_cons_self
      obtain ⟨j, e, d, hd, hn⟩ := mem_nearK.mp hm
      have e2 : i = j := Int.ofNat.inj e
      subst e2
      rw [List.getElem?_eq_getElem h1] at hd
      rw [Option.some.inj hd, nearC_comm, hn]
      rfl
    · rw [decide_eq_false h]
      by_cases h2 : nearC b g W[i] sp[k] = true
      · have hm : (i : Int) ∈ nearK b g W sp[k] := mem_nearK.mpr ⟨i, rfl, W[i], List.getElem?_eq_getElem h1, by rw [nearC_comm]; exact h2⟩
        rw [decide_eq_false, Bool.false_and]
        intro z
        exact h (one_of (by omega) hm)
      · rw [Bool.eq_false_iff.mpr h2, Bool.and_false]
  unfold al rowsL
  refine (congrArg (fun z : Nat => (z : Int)) key).trans ?_
  rw [List.filter_map, List.length_map]
end Sw
namespace Sw
open PySem PySem.Spec PyProof.Rows L2
def spPairs (K : PySem.W.Frag) : Sp := fun vs H Q _ => ∃ m : Int, vs = [.int m] ∧ -1000 ≤ m ∧ m ≤ 1000 ∧ Q (.int (Cb m)) H
def spVNeed (K : PySem.W.Frag) : Sp := fun vs H Q _ => ∃ s f : Int, vs = [.int s, .int f] ∧ 0 ≤ s ∧ s ≤ 1000 ∧ 0 ≤ f ∧ f ≤ 1000 ∧ Q (.int (Cb (if 0 < s - f then s - f else 0))) H
def spVotesIn (K : PySem.W.Frag) (C Cf : Addr) : Sp := fun vs H Q _ => ∃ (x pa p st df dn : Addr) (n r b g l : Int) (ks ss : Tups) (at_ : List Int) (F N : DT), vs = [.ref x, .ref pa] ∧ FrAt K C Cf H x p st df dn n ks [r, b, g, l] ss F N ∧ isSky n (keys ks) [r, b, g, l] = true ∧ SqT K H pa (at_.map V.int) ∧ isPose n at_ = true ∧ (∀ z ∈ keys ss, z.length = 3) ∧ ss.length ≤ 64 ∧ F.length ≤ 90000 ∧
  ∀ H' : Hp, Same2 df dn H H' → Q (.int (vo (rowsL b g (keys ss) (seenW n [r, b, g, l] at_ (keys ks))).reverse)) H'
def spVotesAt (K : PySem.W.Frag) (C : Addr) : Sp := fun vs H Q _ => ∃ (p pa ps : Addr) (n r b g l : Int) (ks ss : Tups) (at_ : List Int), vs = [.ref p, .ref pa, .ref ps] ∧ SkyS K C H p n ks [r, b, g, l] ∧ isSky n (keys ks) [r, b, g, l] = true ∧ SqT K H pa (at_.map V.int) ∧ isPose n at_ = true ∧ SqT K H ps (refs ss) ∧ TupsAt K H ss ∧ isSight [r, b, g, l] (keys ss) = true ∧
  ∀ H' : Hp, Same H H' → Q (.int (vo (rowsL b g (keys ss) (seenW n [r, b, g, l] at_ (keys ks))).reverse)) H'
/-- what is seen, with places as tuples of their own -/
abbrev SightL := List (Addr × Addr × Int × List Int)
def siR (xs : SightL) : List V := xs.map fun e => V.ref e.1
def siD (xs : SightL) : List (Int × List Int) := xs.map fun e => (e.2.2.1, e.2.2.2)
def siW (xs : SightL) : List (List Int) := xs.map fun e => e.2.2.2
def SiAt (K : PySem.W.Frag) (H : Hp) (f : List Int → Bool) (xs : SightL) : Prop := ∀ e ∈ xs, ∃ u v c : Int, e.2.2.2 = [u, v, c] ∧ SqT K H e.1 [.int e.2.2.1, .ref e.2.1, .int c, .bl (f [u, v, c])] ∧ SqT K H e.2.1 [.int u, .int v]
theorem siAt_up {K : PySem.W.Frag} {H H' : Hp} {f : List Int → Bool} {xs : SightL} (s : Same H H') (h : SiAt K H f xs) : SiAt K H' f xs := fun e he => let ⟨u, v, c, h1, h2, h3⟩ := h e he; ⟨u, v, c, h1, sqT_up s h2, sqT_up s h3⟩
theorem siAt_put {K : PySem.W.Frag} {H : Hp} {D : Addr} {ys : List V} {o : HO} {f : List Int → Bool} {xs : SightL} (hd : H D = some (.lst ys)) (h : SiAt K H f xs) : SiAt K (upd H D o) f xs := fun e he => let ⟨u, v, c, h1, h2, h3⟩ := h e he; ⟨u, v, c, h1, sqT_lst hd h2, sqT_lst hd h3⟩
theorem siR_len (xs : SightL) : (siR xs).length = xs.length := List.length_map ..
theorem siW_len (xs : SightL) : (siW xs).length = xs.length := List.length_map ..
theorem siR_push (xs : SightL) (e : Addr × Addr × Int × List Int) : siR xs ++ [V.ref e.1] = siR (xs ++ [e]) := by
  unfold siR
  rw [List.map_append]
  rfl
theorem siR_at {xs : SightL} {i : Nat} {v : V} (h : (siR xs)[i]? = some v) : ∃ e, xs[i]? = some e ∧ v = .ref e.1 := by
  unfold siR at h
  rw [List.getElem?_map] at h
  obtain ⟨e, h1, h2⟩ := Option.map_eq_some_iff.mp h
  exact ⟨e, h1, h2.symm⟩
theorem siAt_app {K : PySem.W.Frag} {H : Hp} {f : List Int → Bool} {xs ys : SightL} (h : SiAt K H f xs) (h2 : SiAt K H f ys) : SiAt K H f (xs ++ ys) := fun e he => (List.mem_append.mp he).elim (h e) (h2 e)
theorem siAt_one {K : PySem.W.Frag} {H : Hp} {f : List Int → Bool} {p pl : Addr} {k u v c : Int} (h1 : SqT K H p [.int k, .ref pl, .int c, .bl (f [u, v, c])]) (h2 : SqT K H pl [.int u, .int v]) : SiAt K H f [(p, pl, k, [u, v, c])] := fun e he => by
  rw [List.mem_singleton.mp he]
  exact ⟨u, v, c, rfl, h1, h2⟩
theorem siW_push (xs : SightL) (e : Addr × Addr × Int × List Int) : siW (xs ++ [e]) = siW xs ++ [e.2.2.2] := by
  unfold siW
  rw [List.map_append]
  rfl
theorem siD_push (xs : SightL) (e : Addr × Addr × Int × List Int) : siD (xs ++ [e]) = siD xs ++ [(e.2.2.1, e.2.2.2)] := by
  unfold siD
  rw [List.map_append]
  rfl
theorem siD_W (xs : SightL) : (siD xs).map (·.2) = siW xs := by
  unfold siD siW
  rw [List.map_map]
  rfl
theorem siD_len (xs : SightL) : (siD xs).length = xs.length := List.length_map ..
theorem len3 {d : List Int} (h : d.length = 3) : ∃ u v c : Int, d = [u, v, c] := by
  match d, h with
  | [u, v, c], _ => exact ⟨u, v, c, rfl⟩
theorem max2_le {x y m : Int} : (if y > x then y else x) ≤ m ↔ x ≤ m ∧ y ≤ m := by
  split <;> constructor <;> intro h <;> (try constructor) <;> omega
/-- an offset, by the nearest way round, and turned by the number of quarters -/
theorem off_law {n r b g l x y q sx sy bb p0 p9 : Int} (h4 : 4 ≤ n) (h9 : n ≤ 9) (hr : 2 * (r + b) + 1 ≤ n) (h0 : 0 ≤ r + b) (q0 : 0 ≤ q) (q3 : q ≤ 3) (e0 : (sx - x) % n = p0) (e9 : (sy - y) % n = p9) :
    ((if (if p9 > r + b then p9 - n else p9) < (if p0 > r + b then p0 - n else p0) then (if p9 > r + b then p9 - n else p9) else (if p0 > r + b then p0 - n else p0)) < -(r + b) → offI n [r, b, g, l] [x, y, q] [sx, sy, bb] = none) ∧
    (¬ (if (if p9 > r + b then p9 - n else p9) < (if p0 > r + b then p0 - n else p0) then (if p9 > r + b then p9 - n else p9) else (if p0 > r + b then p0 - n else p0)) < -(r + b) → offI n [r, b, g, l] [x, y, q] [sx, sy, bb] = some (turnX (4 - q) (if p0 > r + b then p0 - n else p0) (if p9 > r + b then p9 - n else p9), turnY (4 - q) (if p0 > r + b then p0 - n else p0) (if p9 > r + b then p9 - n else p9))) := by
  have b0 := Int.emod_nonneg (sx - x) (show n ≠ 0 by omega)
  have b1 := Int.emod_lt_of_pos (sx - x) (show 0 < n by omega)
  have b2 := Int.emod_nonneg (sy - y) (show n ≠ 0 by omega)
  have b3 := Int.emod_lt_of_pos (sy - y) (show 0 < n by omega)
  rw [e0] at b0 b1
  rw [e9] at b2 b3
  obtain ⟨X, hX⟩ : ∃ X, (if p0 > r + b then p0 - n else p0) = X := ⟨_, rfl⟩
  obtain ⟨Y, hY⟩ : ∃ Y, (if p9 > r + b then p9 - n else p9) = Y := ⟨_, rfl⟩
  rw [hX, hY]
  have nx : ∀ {z p W : Int}, z % n = p → 0 ≤ p → p < n → (if p > r + b then p - n else p) = W → (-(r + b) ≤ W → near n z = W) ∧ (W < -(r + b) → iabs (near n z) > r + b) := fun {z p W} e a1 a2 eW => by
    have hW : W ≤ r + b := by
      split at eW <;> omega
    have hWn : ∃ m : Int, z = W + n * m := by
      have := Int.emod_add_mul_ediv z n
      by_cases h : p > r + b
      · rw [if_pos h] at eW
        exact ⟨z / n + 1, by rw [Int.mul_add]; omega⟩
      · rw [if_neg h] at eW
        exact ⟨z / n, by omega⟩
    constructor
    · intro hw
      refine (near_iff h4 h9 hr hw hW).mp ?_
      obtain ⟨m, em⟩ := hWn
      rw [em, show W - (W + n * m) = n * (-m) by rw [Int.mul_neg]; omega]
      exact Int.mul_emod_right _ _
    · intro hw
      have hnn : ∀ t : Int, -(r + b) ≤ t → t ≤ r + b → near n z ≠ t := fun t t1 t2 en => by
        have h1 := (near_iff h4 h9 hr t1 t2).mpr en
        obtain ⟨m, em⟩ := hWn
        have h2 : (t - W) % n = 0 := by
          rw [show t - W = (t - z) + n * m by omega, Int.add_mul_emod_self_left]
          exact h1
        obtain ⟨d, hd⟩ := Int.dvd_of_emod_eq_zero h2
        have hWlo : -n < W := by
          split at eW <;> omega
        have d1 : 0 < d := by
          rcases Int.lt_or_le 0 d with h | h
          · exact h
          · have := Int.mul_le_mul_of_nonneg_left h (show 0 ≤ n by omega)
            omega
        by_cases h : p > r + b
        · rw [if_pos h] at eW
          have d2 : n * 1 ≤ n * d := Int.mul_le_mul_of_nonneg_left d1 (by omega)
          omega
        · rw [if_neg h] at eW
          omega
      unfold iabs
      by_cases h1 : near n z < -(r + b)
      · rw [if_pos (by omega)]
        omega
      · by_cases h2 : near n z ≤ r + b
        · exact absurd rfl (hnn _ (by omega) h2)
        · split <;> omega
  obtain ⟨x1, x2⟩ := nx e0 b0 b1 hX
  obtain ⟨y1, y2⟩ := nx e9 b2 b3 hY
  have tI : ∀ a c : Int, (iabs (turnX (4 - q) a c) > r + b ∨ iabs (turnY (4 - q) a c) > r + b) ↔ (iabs a > r + b ∨ iabs c > r + b) := fun a c => by
    have hn : ∀ z : Int, iabs (-z) = iabs z := fun z => by
      unfold iabs
      (repeat' split) <;> omega
    rcases quarter_cases q0 q3 with rfl | rfl | rfl | rfl
    · exact Iff.rfl
    · show (iabs c > r + b ∨ iabs (-a) > r + b) ↔ _
      rw [hn]
      exact ⟨Or.symm, Or.symm⟩
    · show (iabs (-a) > r + b ∨ iabs (-c) > r + b) ↔ _
      rw [hn, hn]
    · show (iabs (-c) > r + b ∨ iabs a > r + b) ↔ _
      rw [hn]
      exact ⟨Or.symm, Or.symm⟩
  have hXle : X ≤ r + b := by
    split at hX <;> omega
  have hYle : Y ≤ r + b := by
    split at hY <;> omega
  constructor
  · intro h
    unfold offI
    simp only
    rw [if_pos]
    refine (tI _ _).mpr ?_
    rcases (show X < -(r + b) ∨ Y < -(r + b) by split at h <;> omega) with h | h
    · exact .inl (x2 h)
    · exact .inr (y2 h)
  · intro h
    have hb : -(r + b) ≤ X ∧ -(r + b) ≤ Y := by
      split at h <;> constructor <;> omega
    unfold offI
    simp only
    rw [x1 hb.1, y1 hb.2, if_neg]
    intro z
    rcases (tI _ _).mp z with z | z <;> (unfold iabs at z; split at z <;> omega)
theorem pickS {xs : SightL} {j : Int} (h0 : 0 ≤ j) (h1 : j < (xs.length : Int)) : ∃ e ∈ xs, atI (siR xs) j = some (.ref e.1) := by
  obtain ⟨m, rfl⟩ := Int.eq_ofNat_of_zero_le h0
  have hm : m < xs.length := by omega
  exact ⟨xs[m], List.getElem_mem _, atI_nat (by unfold siR; rw [List.getElem?_map, List.getElem?_eq_getElem hm]; rfl)⟩
def foundN (a x : List Int) : Int := (a.map fun s => ((x.filter fun o => !decide (V.int o = V.int s)).length : Int)).sum
theorem foundN_push (a x : List Int) (s : Int) : foundN (a ++ [s]) x = foundN a x + ((x.filter fun o => !decide (V.int o = V.int s)).length : Int) := by
  unfold foundN
  rw [List.map_append, List.sum_append]
  show _ + (_ + 0) = _
  rw [Int.add_zero]
theorem found_nonneg (a x : List Int) : 0 ≤ foundN a x := by
  unfold foundN
  induction a with
  | nil => exact Int.le_refl _
  | cons s r ih =>
    rw [List.map_cons, List.sum_cons]
    omega
theorem found_vote (a x : List Int) : decide (foundN a x > 0) = voteB a x := by
  induction a with
  | nil => rfl
  | cons s r ih =>
    have e1 : foundN (s :: r) x = ((x.filter fun o => !decide (V.int o = V.int s)).length : Int) + foundN r x := by
      unfold foundN
      rw [List.map_cons, List.sum_cons]
    have e2 : voteB (s :: r) x = ((x.any fun o => decide (o ≠ s)) || voteB r x) := rfl
    rw [e1, e2, ← ih]
    have h0 := found_nonneg r x
    have e3 : (x.any fun o => decide (o ≠ s)) = decide (0 < (x.filter fun o => !decide (V.int o = V.int s)).length) := by
      rw [Bool.eq_iff_iff, decide_eq_true_iff, List.any_eq_true, List.length_pos_iff_exists_mem]
      constructor
      · rintro ⟨o, ho, hn⟩
        refine ⟨o, List.mem_filter.mpr ⟨ho, ?_⟩⟩
        rw [decide_eq_false fun z => (of_decide_eq_true hn) (V.int.inj z)]
        rfl
      · rintro ⟨o, ho⟩
        obtain ⟨h1, h2⟩ := List.mem_filter.mp ho
        refine ⟨o, h1, decide_eq_true fun z => ?_⟩
        rw [z, decide_eq_true rfl] at h2
        cases h2
    rw [e3]
    by_cases z1 : 0 < (x.filter fun o => !decide (V.int o = V.int s)).length
    · rw [decide_eq_true z1, Bool.true_or]
      exact decide_eq_true (by omega)
    · rw [decide_eq_false z1, Bool.false_or]
      exact decide_eq_decide.mpr ⟨fun _ => by omega, fun _ => by omega⟩
/-- spots counted, row by row -/
def starsP (T : List (List Int)) (row : List Int) (m : Nat) : List Int := (List.range m).map fun k : Nat => cntT T (k : Int) + (if decide ((k : Int) ∈ row) = true then (1 : Int) else 0)
theorem starsP_nil (T : List (List Int)) (m : Nat) : starsP T [] m = starsN T m := by
  unfold starsP starsN
  refine List.map_congr_left fun k _ => ?_
  rw [decide_eq_false List.not_mem_nil]
  exact Int.add_zero _
theorem starsP_row (T : List (List Int)) (row : List Int) (m : Nat) : starsP T row m = starsN (T ++ [row]) m := by
  unfold starsP starsN
  refine List.map_congr_left fun k _ => ?_
  unfold cntT
  rw [List.map_append, List.sum_append]
  show _ = _ + (_ + 0)
  rw [Int.add_zero]
theorem starsN_none (m : Nat) : starsN [] m = List.replicate m 0 := by
  refine List.eq_replicate_iff.mpr ⟨by unfold starsN; rw [List.length_map, List.length_range], fun b hb => ?_⟩
  obtain ⟨k, _, rfl⟩ := List.mem_map.mp hb
  rfl
theorem starsP_len (T : List (List Int)) (row : List Int) (m : Nat) : (starsP T row m).length = m := by
  unfold starsP
  rw [List.length_map, List.length_range]
theorem starsN_len (T : List (List Int)) (m : Nat) : (starsN T m).length = m := by
  unfold starsN
  rw [List.length_map, List.length_range]
theorem starsP_get {T : List (List Int)} {row : List Int} {m i : Nat} (h : i < (starsP T row m).length) : (starsP T row m)[i] = cntT T (i : Int) + (if decide ((i : Int) ∈ row) = true then (1 : Int) else 0) := by
  simp only [starsP, List.getElem_map, List.getElem_range]
theorem numI_starsP {T : List (List Int)} {row : List Int} {m c : Nat} (h : c < m) : numI (starsP T row m) (c : Int) = cntT T (c : Int) + (if decide ((c : Int) ∈ row) = true then (1 : Int) else 0) := by
  unfold numI starsP
  rw [Int.toNat_natCast, List.getD_eq_getElem?_getD, List.getElem?_map, List.getElem?_range h]
  rfl
theorem starsP_step {T : List (List Int)} {row : List Int} {m j c : Nat} (hn : row.Nodup) (hc : row[j]? = some (c : Int)) (hm : c < m) : (starsP T (row.take j) m).set c (numI (starsP T (row.take j) m) (c : Int) + 1) = starsP T (row.take (j + 1)) m := by
  have htk : row.take (j + 1) = row.take j ++ [(c : Int)] := by rw [List.take_add_one, hc]; rfl
  have hnot : (c : Int) ∉ row.take j := fun h => by
    have hj := (List.getElem?_eq_some_iff.mp hc)
    obtain ⟨i, hi, e⟩ := List.mem_iff_getElem.mp h
    rw [List.length_take] at hi
    rw [List.getElem_take] at e
    obtain ⟨hj1, hj2⟩ := hj
    exact (List.pairwise_iff_getElem.mp hn i j (by omega) hj1 (by omega)) (e.trans hj2.symm)
  rw [numI_starsP hm, decide_eq_false hnot]
  refine List.ext_getElem (by rw [List.length_set, starsP_len, starsP_len]) fun i h1 h2 => ?_
  rw [starsP_len] at h2
  rw [List.getElem_set, starsP_get, starsP_get]
  by_cases e : c = i
  · subst e
    rw [if_pos rfl, htk, decide_eq_true (List.mem_append_right _ List.mem_cons_self), if_pos rfl]
    show _ + 0 + 1 = _
    omega
  · rw [if_neg e, htk]
    have e2 : decide ((i : Int) ∈ row.take j ++ [(c : Int)]) = decide ((i : Int) ∈ row.take j) := decide_eq_decide.mpr ⟨fun h => by
      rcases List.mem_append.mp h with h | h
      · exact h
      · exact absurd (Int.ofNat.inj (List.mem_singleton.mp h)).symm e, fun h => List.mem_append_left _ h⟩
    rw [e2]
theorem vo_push {tb : List (List Int)} {i : Nat} {x : List Int} (h : tb[i]? = some x) : vo (tb.take (i + 1)).reverse = vo (tb.take i).reverse + (((tb.take i).filter fun a => voteB a x).length : Int) := by
  rw [List.take_add_one, h, List.reverse_append]
  show vo (tb.take i).reverse + (((tb.take i).reverse.filter fun a => voteB a x).length : Int) = _
  rw [List.filter_reverse, List.length_reverse]
def spSight35 (K : PySem.W.Frag) : Sp := fun vs H Q _ => ∃ (pp pa : Addr) (n r b g l : Int) (ks : Tups) (at_ : List Int), vs = [.ref pp, .ref pa] ∧ PartsAt K H pp n ks [r, b, g, l] ∧ isSky n (keys ks) [r, b, g, l] = true ∧ SqT K H pa (at_.map V.int) ∧ isPose n at_ = true ∧
  ∀ (H' : Hp) (sl : Addr) (xs : SightL), Same H H' → H sl = none → H' sl = some (.lst (siR xs)) → SiAt K H' (isSure r b g l) xs → siD xs = seenI n [r, b, g, l] at_ 0 (keys ks) → Q (.ref sl) H'
def spNear35 (K : PySem.W.Frag) : Sp := fun vs H Q _ => ∃ (pp a1 p1 a2 p2 : Addr) (t n r b g l n1 u1 v1 c1 n2 u2 v2 c2 : Int) (y1 y2 : Bool) (ks : Tups), vs = [.ref pp, .ref a1, .ref a2, .int t] ∧ 0 ≤ t ∧ t ≤ 100 ∧ PartsAt K H pp n ks [r, b, g, l] ∧ SqT K H a1 [.int n1, .ref p1, .int c1, .bl y1] ∧ SqT K H p1 [.int u1, .int v1] ∧ SqT K H a2 [.int n2, .ref p2, .int c2, .bl y2] ∧ SqT K H p2 [.int u2, .int v2] ∧
  Q (.bl (nearC (t * b) (t * g) [u1, v1, c1] [u2, v2, c2])) H
def spRows35 (K : PySem.W.Frag) : Sp := fun vs H Q _ => ∃ (pp h1 h2 : Addr) (t n r b g l : Int) (ks : Tups) (f1 f2 : List Int → Bool) (xs ys : SightL), vs = [.ref pp, .ref h1, .ref h2, .int t] ∧ 0 ≤ t ∧ t ≤ 100 ∧ PartsAt K H pp n ks [r, b, g, l] ∧ H h1 = some (.lst (siR xs)) ∧ SiAt K H f1 xs ∧ xs.length ≤ 1000 ∧ H h2 = some (.lst (siR ys)) ∧ SiAt K H f2 ys ∧ ys.length ≤ 1000 ∧
  ∀ (H' : Hp) (tl : Addr) (tb : Tups), Same H H' → H tl = none → H' tl = some (.lst (refs tb)) → (∀ q ∈ tb, H' q.1 = some (.lst (q.2.map V.int))) → keys tb = (siW xs).map (nearK (t * b) (t * g) (siW ys)) → Q (.ref tl) H'
def spShown35 (K : PySem.W.Frag) : Sp := fun vs H Q _ => ∃ (ps : Addr) (ss : Tups), vs = [.ref ps] ∧ SqT K H ps (refs ss) ∧ TupsAt K H ss ∧ (∀ z ∈ keys ss, z.length = 3) ∧ ss.length ≤ 1000 ∧
  ∀ (H' : Hp) (sl : Addr) (xs : SightL), Same H H' → H sl = none → H' sl = some (.lst (siR xs)) → SiAt K H' (fun _ => false) xs → siW xs = keys ss → Q (.ref sl) H'
def spAtt35 (K : PySem.W.Frag) : Sp := fun vs H Q _ => ∃ (pp p1 : Addr) (ns : List Int) (at' n : Int) (ks : Tups) (cam : List Int), vs = [.ref pp, .ref p1, .int at'] ∧ PartsAt K H pp n ks cam ∧ isSky n (keys ks) cam = true ∧ SqL K H p1 (ns.map V.int) ∧ (∀ z ∈ ns, Num z) ∧ 0 ≤ at' ∧ at' + 3 < (ns.length : Int) ∧
  ∀ (H' : Hp) (p : Addr) (at_ : List Int), Same H H' → SqT K H' p (at_.map V.int) → isPose n at_ = true → Q (.ref p) H'
def spSpot35 (K : PySem.W.Frag) : Sp := fun vs H Q _ => ∃ (pp sl p1 : Addr) (ns : List Int) (at' n r b g l : Int) (ks : Tups) (f : List Int → Bool) (xs : SightL), vs = [.ref pp, .ref sl, .ref p1, .int at'] ∧ PartsAt K H pp n ks [r, b, g, l] ∧ isCam n [r, b, g, l] = true ∧ H sl = some (.lst (siR xs)) ∧ SiAt K H f xs ∧ (∀ d ∈ siW xs, ∃ u v c : Int, d = [u, v, c] ∧ c ≤ 9) ∧ SqL K H p1 (ns.map V.int) ∧ (∀ z ∈ ns, Num z) ∧ 0 ≤ at' ∧ at' + 3 < (ns.length : Int) ∧
  ∀ (H' : Hp) (p : Addr) (d : List Int), Same H H' → SqT K H' p (d.map V.int) → isSpot [r, b, g, l] d = true → Q (.ref p) H'
def spSighting35 (K : PySem.W.Frag) : Sp := fun vs H Q _ => ∃ (pp sl p1 : Addr) (ns : List Int) (at' many n r b g l : Int) (ks : Tups) (f : List Int → Bool) (xs : SightL), vs = [.ref pp, .ref sl, .ref p1, .int at', .int many] ∧ PartsAt K H pp n ks [r, b, g, l] ∧ isCam n [r, b, g, l] = true ∧ H sl = some (.lst (siR xs)) ∧ SiAt K H f xs ∧ (∀ d ∈ siW xs, ∃ u v c : Int, d = [u, v, c] ∧ c ≤ 9) ∧ SqL K H p1 (ns.map V.int) ∧ (∀ z ∈ ns, Num z) ∧ 0 ≤ at' ∧ 0 ≤ many ∧ many ≤ 20 ∧ at' + 4 * many + 1 < (ns.length : Int) ∧
  ∀ (H' : Hp) (ps : Addr) (ss : Tups), Same H H' → SqT K H' ps (refs ss) → TupsAt K H' ss → isSight [r, b, g, l] (keys ss) = true → (ss.length : Int) ≤ many → Q (.ref ps) H'
def spVotesL (K : PySem.W.Frag) : Sp := fun vs H Q _ => ∃ (pp sl ps : Addr) (n r b g l : Int) (ks ss : Tups) (f : List Int → Bool) (xs : SightL), vs = [.ref pp, .ref sl, .ref ps] ∧ PartsAt K H pp n ks [r, b, g, l] ∧ H sl = some (.lst (siR xs)) ∧ SiAt K H f xs ∧ xs.length ≤ 60 ∧ SqT K H ps (refs ss) ∧ TupsAt K H ss ∧ (∀ z ∈ keys ss, z.length = 3) ∧ ss.length ≤ 60 ∧
  ∀ H' : Hp, Same H H' → Q (.int (vo (rowsL b g (keys ss) (siW xs)).reverse)) H'
def spParts35 (K : PySem.W.Frag) : Sp := fun vs H Q _ => ∃ (p1 sd : Addr) (ns sides : List Int) (at' most : Int), vs = [.ref p1, .int at', .int most, .ref sd] ∧ SqL K H p1 (ns.map V.int) ∧ (∀ z ∈ ns, Num z) ∧ SqL K H sd (sides.map V.int) ∧ (∀ z ∈ sides, 4 ≤ z ∧ z ≤ 9) ∧ sides ≠ [] ∧ 0 ≤ at' ∧ 0 ≤ most ∧ most ≤ 20 ∧ at' + 6 + 3 * most ≤ (ns.length : Int) ∧
  ∀ (H' : Hp) (t : Addr) (n : Int) (ks : Tups) (cam : List Int), Same H H' → PartsAt K H' t n ks cam → isSky n (keys ks) cam = true → Asc 10 (keys ks) → (ks.length : Int) ≤ most → Q (.ref t) H'
end Sw
namespace SwT
open PySem PySem.Spec PyProof.Rows L2 Sw
/-! ### the text by places -/
def topS (i : Nat) : Stmt := PySem.Challenge.pw_starward_k35_votes_by_pairs.main.body.getD i (.Pass ⟨0, 0, 0, 0⟩)
abbrev s_quarter_turned : Stmt := topS 7
theorem sc_quarter_turned : FnScope ["quarters", "pair", "x", "y", "count"] ["quarters", "pair"] (defScope s_quarter_turned) := ⟨rfl, rfl, rfl, by decide +kernel, rfl, by decide +kernel, by decide +kernel⟩
abbrev s_is_pose : Stmt := topS 8
theorem sc_is_pose : FnScope ["side", "told", "x", "y", "quarter"] ["side", "told"] (defScope s_is_pose) := ⟨rfl, rfl, rfl, by decide +kernel, rfl, by decide +kernel, by decide +kernel⟩
abbrev s_is_side : Stmt := topS 13
theorem sc_is_side : FnScope ["side"] ["side"] (defScope s_is_side) := ⟨rfl, rfl, rfl, by decide +kernel, rfl, by decide +kernel, by decide +kernel⟩
abbrev s_is_star : Stmt := topS 14
theorem sc_is_star : FnScope ["side", "star", "x", "y", "brightness"] ["side", "star"] (defScope s_is_star) := ⟨rfl, rfl, rfl, by decide +kernel, rfl, by decide +kernel, by decide +kernel⟩
abbrev s_is_camera : Stmt := topS 15
theorem sc_is_camera : FnScope ["side", "camera", "reach", "blur", "glare", "limit"] ["side", "camera"] (defScope s_is_camera) := ⟨rfl, rfl, rfl, by decide +kernel, rfl, by decide +kernel, by decide +kernel⟩
abbrev s__check_sky : Stmt := topS 16
theorem sc__check_sky : FnScope ["side", "stars", "camera", "star"] ["side", "stars", "camera"] (defScope s__check_sky) := ⟨rfl, rfl, rfl, by decide +kernel, rfl, by decide +kernel, by decide +kernel⟩
abbrev s_Skyx_initx : Stmt := inClass (topS 17) 0
theorem sc_Skyx_initx : FnScope ["self", "side", "stars", "camera"] ["self", "side", "stars", "camera"] (defScope s_Skyx_initx) := ⟨rfl, rfl, rfl, by decide +kernel, rfl, by decide +kernel, by decide +kernel⟩
abbrev s_Sky_side : Stmt := inClass (topS 17) 1
theorem sc_Sky_side : FnScope ["self"] ["self"] (defScope s_Sky_side) := ⟨rfl, rfl, rfl, by decide +kernel, rfl, by decide +kernel, by decide +kernel⟩
abbrev s_Sky_stars : Stmt := inClass (topS 17) 2
theorem sc_Sky_stars : FnScope ["self"] ["self"] (defScope s_Sky_stars) := ⟨rfl, rfl, rfl, by decide +kernel, rfl, by decide +kernel, by decide +kernel⟩
abbrev s_Sky_reach : Stmt := inClass (topS 17) 4
theorem sc_Sky_reach : FnScope ["self"] ["self"] (defScope s_Sky_reach) := ⟨rfl, rfl, rfl, by decide +kernel, rfl, by decide +kernel, by decide +kernel⟩
abbrev s_Sky_blur : Stmt := inClass (topS 17) 5
theorem sc_Sky_blur : FnScope ["self"] ["self"] (defScope s_Sky_blur) := ⟨rfl, rfl, rfl, by decide +kernel, rfl, by decide +kernel, by decide +kernel⟩
abbrev s_Sky_glare : Stmt := inClass (topS 17) 6
theorem sc_Sky_glare : FnScope ["self"] ["self"] (defScope s_Sky_glare) := ⟨rfl, rfl, rfl, by decide +kernel, rfl, by decide +kernel, by decide +kernel⟩
abbrev s_Sky_limit : Stmt := inClass (topS 17) 7
theorem sc_Sky_limit : FnScope ["self"] ["self"] (defScope s_Sky_limit) := ⟨rfl, rfl, rfl, by decide +kernel, rfl, by decide +kernel, by decide +kernel⟩
abbrev s_is_spot : Stmt := topS 18
theorem sc_is_spot : FnScope ["sky", "spot", "dx", "dy", "brightness"] ["sky", "spot"] (defScope s_is_spot) := ⟨rfl, rfl, rfl, by decide +kernel, rfl, by decide +kernel, by decide +kernel⟩
abbrev s_check_sighting : Stmt := topS 19
theorem sc_check_sighting : FnScope ["sky", "sighting", "spot"] ["sky", "sighting"] (defScope s_check_sighting) := ⟨rfl, rfl, rfl, by decide +kernel, rfl, by decide +kernel, by decide +kernel⟩
abbrev s_check_attitude : Stmt := topS 21
theorem sc_check_attitude : FnScope ["sky", "attitude"] ["sky", "attitude"] (defScope s_check_attitude) := ⟨rfl, rfl, rfl, by decide +kernel, rfl, by decide +kernel, by decide +kernel⟩
abbrev s__offset_of : Stmt := topS 22
theorem sc__offset_of : FnScope ["sky", "attitude", "star", "aside", "dx", "dy", "bound"] ["sky", "attitude", "star"] (defScope s__offset_of) := ⟨rfl, rfl, rfl, by decide +kernel, rfl, by decide +kernel, by decide +kernel⟩
abbrev s__nearest : Stmt := topS 23
theorem sc__nearest : FnScope ["side", "part", "half"] ["side", "part"] (defScope s__nearest) := ⟨rfl, rfl, rfl, by decide +kernel, rfl, by decide +kernel, by decide +kernel⟩
abbrev s_appearances : Stmt := topS 24
theorem sc_appearances : FnScope ["sky", "attitude", "shown", "faintest", "number", "star", "aside"] ["sky", "attitude"] (defScope s_appearances) := ⟨rfl, rfl, rfl, by decide +kernel, rfl, by decide +kernel, by decide +kernel⟩
abbrev s_sure_among : Stmt := topS 25
theorem sc_sure_among : FnScope ["sky", "shown", "bound", "faintest", "number", "dx", "dy", "brightness"] ["sky", "shown"] (defScope s_sure_among) := ⟨rfl, rfl, rfl, by decide +kernel, rfl, by decide +kernel, by decide +kernel⟩
abbrev s_are_near : Stmt := topS 26
theorem sc_are_near : FnScope ["one", "other", "blur", "glare"] ["one", "other", "blur", "glare"] (defScope s_are_near) := ⟨rfl, rfl, rfl, by decide +kernel, rfl, by decide +kernel, by decide +kernel⟩
abbrev s_Framex_initx : Stmt := inClass (topS 34) 0
theorem sc_Framex_initx : FnScope ["self", "sky", "sighting"] ["self", "sky", "sighting"] (defScope s_Framex_initx) := ⟨rfl, rfl, rfl, by decide +kernel, rfl, by decide +kernel, by decide +kernel⟩
abbrev s_Frame_spots : Stmt := inClass (topS 34) 1
theorem sc_Frame_spots : FnScope ["self"] ["self"] (defScope s_Frame_spots) := ⟨rfl, rfl, rfl, by decide +kernel, rfl, by decide +kernel, by decide +kernel⟩
abbrev s_Frame_table_and_sure : Stmt := inClass (topS 34) 2
theorem sc_Frame_table_and_sure : FnScope ["self", "attitude", "shown", "table", "number", "look", "_"] ["self", "attitude"] (defScope s_Frame_table_and_sure) := ⟨rfl, rfl, rfl, by decide +kernel, rfl, by decide +kernel, by decide +kernel⟩
abbrev s_Framexspots_near : Stmt := inClass (topS 34) 3
theorem sc_Framexspots_near : FnScope ["self", "look", "blur", "glare", "number", "spot"] ["self", "look"] (defScope s_Framexspots_near) := ⟨rfl, rfl, rfl, by decide +kernel, rfl, by decide +kernel, by decide +kernel⟩
abbrev s_votes_at : Stmt := topS 36
theorem sc_votes_at : FnScope ["sky", "attitude", "sighting"] ["sky", "attitude", "sighting"] (defScope s_votes_at) := ⟨rfl, rfl, rfl, by decide +kernel, rfl, by decide +kernel, by decide +kernel⟩
abbrev s__votes_in : Stmt := topS 37
theorem sc__votes_in : FnScope ["frame", "attitude", "table", "_", "stars", "row", "spot", "fitting", "alone", "many"] ["frame", "attitude"] (defScope s__votes_in) := ⟨rfl, rfl, rfl, by decide +kernel, rfl, by decide +kernel, by decide +kernel⟩
abbrev s__pairs_of : Stmt := topS 38
theorem sc__pairs_of : FnScope ["many"] ["many"] (defScope s__pairs_of) := ⟨rfl, rfl, rfl, by decide +kernel, rfl, by decide +kernel, by decide +kernel⟩
abbrev s_votes_needed : Stmt := topS 39
theorem sc_votes_needed : FnScope ["spots", "false"] ["spots", "false"] (defScope s_votes_needed) := ⟨rfl, rfl, rfl, by decide +kernel, rfl, by decide +kernel, by decide +kernel⟩
abbrev s__law_row : Stmt := topS 41
theorem sc__law_row : FnScope ["cell", "many", "row", "rest", "state", "k"] ["cell", "many"] (defScope s__law_row) := ⟨rfl, rfl, rfl, by decide +kernel, rfl, by decide +kernel, by decide +kernel⟩
abbrev s__law_numbers : Stmt := topS 42
theorem sc__law_numbers : FnScope ["script", "many", "cells", "each", "numbers", "cell", "number"] ["script", "many"] (defScope s__law_numbers) := ⟨rfl, rfl, rfl, by decide +kernel, rfl, by decide +kernel, by decide +kernel⟩
abbrev s__law_parts : Stmt := topS 43
theorem sc__law_parts : FnScope ["numbers", "at", "most_v", "sides", "side", "half", "reach", "blur", "camera", "stars", "k", "place", "star"] ["numbers", "at", "most_v", "sides"] (defScope s__law_parts) := ⟨rfl, rfl, rfl, by decide +kernel, rfl, by decide +kernel, by decide +kernel⟩
abbrev s__law_sky : Stmt := topS 44
theorem sc__law_sky : FnScope ["parts", "side", "stars", "camera"] ["parts"] (defScope s__law_sky) := ⟨rfl, rfl, rfl, by decide +kernel, rfl, by decide +kernel, by decide +kernel⟩
abbrev s__law_offset : Stmt := topS 45
theorem sc__law_offset : FnScope ["parts", "attitude", "star", "side", "stars", "camera", "room", "pair", "x", "y", "k", "number"] ["parts", "attitude", "star"] (defScope s__law_offset) := ⟨rfl, rfl, rfl, by decide +kernel, rfl, by decide +kernel, by decide +kernel⟩
abbrev s__law_sight : Stmt := topS 46
theorem sc__law_sight : FnScope ["parts", "attitude", "reach", "blur", "glare", "limit", "found", "number", "star", "place", "inner"] ["parts", "attitude"] (defScope s__law_sight) := ⟨rfl, rfl, rfl, by decide +kernel, rfl, by decide +kernel, by decide +kernel⟩
abbrev s__law_near : Stmt := topS 47
theorem sc__law_near : FnScope ["parts", "one", "other", "times", "far"] ["parts", "one", "other", "times"] (defScope s__law_near) := ⟨rfl, rfl, rfl, by decide +kernel, rfl, by decide +kernel, by decide +kernel⟩
abbrev s__law_rows : Stmt := topS 48
theorem sc__law_rows : FnScope ["parts", "here", "there", "times", "rows", "one", "k"] ["parts", "here", "there", "times"] (defScope s__law_rows) := ⟨rfl, rfl, rfl, by decide +kernel, rfl, by decide +kernel, by decide +kernel⟩
abbrev s__law_shown : Stmt := topS 49
theorem sc__law_shown : FnScope ["sighting", "spot"] ["sighting"] (defScope s__law_shown) := ⟨rfl, rfl, rfl, by decide +kernel, rfl, by decide +kernel, by decide +kernel⟩
abbrev s__law_attitude : Stmt := topS 50
theorem sc__law_attitude : FnScope ["parts", "numbers", "at", "side", "stars", "camera", "attitude", "star", "x", "y"] ["parts", "numbers", "at"] (defScope s__law_attitude) := ⟨rfl, rfl, rfl, by decide +kernel, rfl, by decide +kernel, by decide +kernel⟩
abbrev s__law_spot : Stmt := topS 51
theorem sc__law_spot : FnScope ["parts", "sight", "numbers", "at", "reach", "blur", "glare", "limit", "x", "y", "brightness", "seen"] ["parts", "sight", "numbers", "at"] (defScope s__law_spot) := ⟨rfl, rfl, rfl, by decide +kernel, rfl, by decide +kernel, by decide +kernel⟩
abbrev s__law_sighting : Stmt := topS 52
theorem sc__law_sighting : FnScope ["parts", "sight", "numbers", "at", "most_v", "spots", "k"] ["parts", "sight", "numbers", "at", "most_v"] (defScope s__law_sighting) := ⟨rfl, rfl, rfl, by decide +kernel, rfl, by decide +kernel, by decide +kernel⟩
abbrev s__law_votes : Stmt := topS 53
theorem sc__law_votes : FnScope ["parts", "sight", "sighting", "rows", "votes", "k", "j", "found", "star", "other"] ["parts", "sight", "sighting"] (defScope s__law_votes) := ⟨rfl, rfl, rfl, by decide +kernel, rfl, by decide +kernel, by decide +kernel⟩
abbrev s_law : Stmt := topS 54
theorem sc_law : FnScope ["script", "numbers", "parts", "sky", "k", "at", "attitude", "sight", "sighting", "told", "false", "due", "one"] ["script"] (defScope s_law) := ⟨rfl, rfl, rfl, by decide +kernel, rfl, by decide +kernel, by decide +kernel⟩
/-- where the top has put each of them -/
structure Ad where
  f_quarter_turned : Addr
  fd_quarter_turned : FuncData
  f_is_pose : Addr
  fd_is_pose : FuncData
  f_is_side : Addr
  fd_is_side : FuncData
  f_is_star : Addr
  fd_is_star : FuncData
  f_is_camera : Addr
  fd_is_camera : FuncData
  f__check_sky : Addr
  fd__check_sky : FuncData
  f_Skyx_initx : Addr
  fd_Skyx_initx : FuncData
  f_Sky_side : Addr
  fd_Sky_side : FuncData
  f_Sky_stars : Addr
  fd_Sky_stars : FuncData
  f_Sky_reach : Addr
  fd_Sky_reach : FuncData
  f_Sky_blur : Addr
  fd_Sky_blur : FuncData
  f_Sky_glare : Addr
  fd_Sky_glare : FuncData
  f_Sky_limit : Addr
  fd_Sky_limit : FuncData
  f_is_spot : Addr
  fd_is_spot : FuncData
  f_check_sighting : Addr
  fd_check_sighting : FuncData
  f_check_attitude : Addr
  fd_check_attitude : FuncData
  f__offset_of : Addr
  fd__offset_of : FuncData
  f__nearest : Addr
  fd__nearest : FuncData
  f_appearances : Addr
  fd_appearances : FuncData
  f_sure_among : Addr
  fd_sure_among : FuncData
  f_are_near : Addr
  fd_are_near : FuncData
  f_Framex_initx : Addr
  fd_Framex_initx : FuncData
  f_Frame_spots : Addr
  fd_Frame_spots : FuncData
  f_Frame_table_and_sure : Addr
  fd_Frame_table_and_sure : FuncData
  f_Framexspots_near : Addr
  fd_Framexspots_near : FuncData
  f_votes_at : Addr
  fd_votes_at : FuncData
  f__votes_in : Addr
  fd__votes_in : FuncData
  f__pairs_of : Addr
  fd__pairs_of : FuncData
  f_votes_needed : Addr
  fd_votes_needed : FuncData
  f__law_row : Addr
  fd__law_row : FuncData
  f__law_numbers : Addr
  fd__law_numbers : FuncData
  f__law_parts : Addr
  fd__law_parts : FuncData
  f__law_sky : Addr
  fd__law_sky : FuncData
  f__law_offset : Addr
  fd__law_offset : FuncData
  f__law_sight : Addr
  fd__law_sight : FuncData
  f__law_near : Addr
  fd__law_near : FuncData
  f__law_rows : Addr
  fd__law_rows : FuncData
  f__law_shown : Addr
  fd__law_shown : FuncData
  f__law_attitude : Addr
  fd__law_attitude : FuncData
  f__law_spot : Addr
  fd__law_spot : FuncData
  f__law_sighting : Addr
  fd__law_sighting : FuncData
  f__law_votes : Addr
  fd__law_votes : FuncData
  f_law : Addr
  fd_law : FuncData
  c_InvalidAttitude : Addr
  i_InvalidAttitude : Addr
  c_InvalidSky : Addr
  c_InvalidSighting : Addr
  c_Sky : Addr
  c_Frame : Addr
  g_Sky_side : Addr
  g_Sky_stars : Addr
  g_Sky_reach : Addr
  g_Sky_blur : Addr
  g_Sky_glare : Addr
  g_Sky_limit : Addr
  u_MOST_STARS : Value
  u_MOST_SPOTS : Value
  u_BRIGHTEST : Value
/-- what the top has written -/
structure Txt (P : Program) (K : PySem.W.Frag) (mg : Str → Option Value) (a : Ad) : Prop where
  F_quarter_turned : Fun K "quarter_turned" "quarter_turned" s_quarter_turned a.f_quarter_turned a.fd_quarter_turned
  b_quarter_turned : Binds K a.fd_quarter_turned ["quarters", "pair"] []
  m_quarter_turned : mg "quarter_turned" = some (.ref a.f_quarter_turned)
  F_is_pose : Fun K "is_pose" "is_pose" s_is_pose a.f_is_pose a.fd_is_pose
  b_is_pose : Binds K a.fd_is_pose ["side", "told"] []
  m_is_pose : mg "is_pose" = some (.ref a.f_is_pose)
  F_is_side : Fun K "is_side" "is_side" s_is_side a.f_is_side a.fd_is_side
  b_is_side : Binds K a.fd_is_side ["side"] []
  m_is_side : mg "is_side" = some (.ref a.f_is_side)
  F_is_star : Fun K "is_star" "is_star" s_is_star a.f_is_star a.fd_is_star
  b_is_star : Binds K a.fd_is_star ["side", "star"] []
  m_is_star : mg "is_star" = some (.ref a.f_is_star)
  F_is_camera : Fun K "is_camera" "is_camera" s_is_camera a.f_is_camera a.fd_is_camera
  b_is_camera : Binds K a.fd_is_camera ["side", "camera"] []
  m_is_camera : mg "is_camera" = some (.ref a.f_is_camera)
  F__check_sky : Fun K "_check_sky" "_check_sky" s__check_sky a.f__check_sky a.fd__check_sky
  b__check_sky : Binds K a.fd__check_sky ["side", "stars", "camera"] []
  m__check_sky : mg "_check_sky" = some (.ref a.f__check_sky)
  F_Skyx_initx : Fun K "__init__" "Sky.__init__" s_Skyx_initx a.f_Skyx_initx a.fd_Skyx_initx
  b_Skyx_initx : Binds K a.fd_Skyx_initx ["self", "side", "stars", "camera"] []
  F_Sky_side : Fun K "side" "Sky.side" s_Sky_side a.f_Sky_side a.fd_Sky_side
  b_Sky_side : Binds K a.fd_Sky_side ["self"] []
  p_Sky_side : PropOf K a.c_Sky "side" a.g_Sky_side a.f_Sky_side
  F_Sky_stars : Fun K "stars" "Sky.stars" s_Sky_stars a.f_Sky_stars a.fd_Sky_stars
  b_Sky_stars : Binds K a.fd_Sky_stars ["self"] []
  p_Sky_stars : PropOf K a.c_Sky "stars" a.g_Sky_stars a.f_Sky_stars
  F_Sky_reach : Fun K "reach" "Sky.reach" s_Sky_reach a.f_Sky_reach a.fd_Sky_reach
  b_Sky_reach : Binds K a.fd_Sky_reach ["self"] []
  p_Sky_reach : PropOf K a.c_Sky "reach" a.g_Sky_reach a.f_Sky_reach
  F_Sky_blur : Fun K "blur" "Sky.blur" s_Sky_blur a.f_Sky_blur a.fd_Sky_blur
  b_Sky_blur : Binds K a.fd_Sky_blur ["self"] []
  p_Sky_blur : PropOf K a.c_Sky "blur" a.g_Sky_blur a.f_Sky_blur
  F_Sky_glare : Fun K "glare" "Sky.glare" s_Sky_glare a.f_Sky_glare a.fd_Sky_glare
  b_Sky_glare : Binds K a.fd_Sky_glare ["self"] []
  p_Sky_glare : PropOf K a.c_Sky "glare" a.g_Sky_glare a.f_Sky_glare
  F_Sky_limit : Fun K "limit" "Sky.limit" s_Sky_limit a.f_Sky_limit a.fd_Sky_limit
  b_Sky_limit : Binds K a.fd_Sky_limit ["self"] []
  p_Sky_limit : PropOf K a.c_Sky "limit" a.g_Sky_limit a.f_Sky_limit
  F_is_spot : Fun K "is_spot" "is_spot" s_is_spot a.f_is_spot a.fd_is_spot
  b_is_spot : Binds K a.fd_is_spot ["sky", "spot"] []
  m_is_spot : mg "is_spot" = some (.ref a.f_is_spot)
  F_check_sighting : Fun K "check_sighting" "check_sighting" s_check_sighting a.f_check_sighting a.fd_check_sighting
  b_check_sighting : Binds K a.fd_check_sighting ["sky", "sighting"] []
  m_check_sighting : mg "check_sighting" = some (.ref a.f_check_sighting)
  F_check_attitude : Fun K "check_attitude" "check_attitude" s_check_attitude a.f_check_attitude a.fd_check_attitude
  b_check_attitude : Binds K a.fd_check_attitude ["sky", "attitude"] []
  m_check_attitude : mg "check_attitude" = some (.ref a.f_check_attitude)
  F__offset_of : Fun K "_offset_of" "_offset_of" s__offset_of a.f__offset_of a.fd__offset_of
  b__offset_of : Binds K a.fd__offset_of ["sky", "attitude", "star"] []
  m__offset_of : mg "_offset_of" = some (.ref a.f__offset_of)
  F__nearest : Fun K "_nearest" "_nearest" s__nearest a.f__nearest a.fd__nearest
  b__nearest : Binds K a.fd__nearest ["side", "part"] []
  m__nearest : mg "_nearest" = some (.ref a.f__nearest)
  F_appearances : Fun K "appearances" "appearances" s_appearances a.f_appearances a.fd_appearances
  b_appearances : Binds K a.fd_appearances ["sky", "attitude"] []
  m_appearances : mg "appearances" = some (.ref a.f_appearances)
  F_sure_among : Fun K "sure_among" "sure_among" s_sure_among a.f_sure_among a.fd_sure_among
  b_sure_among : Binds K a.fd_sure_among ["sky", "shown"] []
  m_sure_among : mg "sure_among" = some (.ref a.f_sure_among)
  F_are_near : Fun K "are_near" "are_near" s_are_near a.f_are_near a.fd_are_near
  b_are_near : Binds K a.fd_are_near ["one", "other", "blur", "glare"] []
  m_are_near : mg "are_near" = some (.ref a.f_are_near)
  F_Framex_initx : Fun K "__init__" "Frame.__init__" s_Framex_initx a.f_Framex_initx a.fd_Framex_initx
  b_Framex_initx : Binds K a.fd_Framex_initx ["self", "sky", "sighting"] []
  F_Frame_spots : Fun K "spots" "Frame.spots" s_Frame_spots a.f_Frame_spots a.fd_Frame_spots
  b_Frame_spots : Binds K a.fd_Frame_spots ["self"] []
  t_Frame_spots : Meth K a.c_Frame "spots" a.f_Frame_spots
  F_Frame_table_and_sure : Fun K "table_and_sure" "Frame.table_and_sure" s_Frame_table_and_sure a.f_Frame_table_and_sure a.fd_Frame_table_and_sure
  b_Frame_table_and_sure : Binds K a.fd_Frame_table_and_sure ["self", "attitude"] []
  t_Frame_table_and_sure : Meth K a.c_Frame "table_and_sure" a.f_Frame_table_and_sure
  F_Framexspots_near : Fun K "_spots_near" "Frame._spots_near" s_Framexspots_near a.f_Framexspots_near a.fd_Framexspots_near
  b_Framexspots_near : Binds K a.fd_Framexspots_near ["self", "look"] []
  t_Framexspots_near : Meth K a.c_Frame "_spots_near" a.f_Framexspots_near
  F_votes_at : Fun K "votes_at" "votes_at" s_votes_at a.f_votes_at a.fd_votes_at
  b_votes_at : Binds K a.fd_votes_at ["sky", "attitude", "sighting"] []
  m_votes_at : mg "votes_at" = some (.ref a.f_votes_at)
  F__votes_in : Fun K "_votes_in" "_votes_in" s__votes_in a.f__votes_in a.fd__votes_in
  b__votes_in : Binds K a.fd__votes_in ["frame", "attitude"] []
  m__votes_in : mg "_votes_in" = some (.ref a.f__votes_in)
  F__pairs_of : Fun K "_pairs_of" "_pairs_of" s__pairs_of a.f__pairs_of a.fd__pairs_of
  b__pairs_of : Binds K a.fd__pairs_of ["many"] []
  m__pairs_of : mg "_pairs_of" = some (.ref a.f__pairs_of)
  F_votes_needed : Fun K "votes_needed" "votes_needed" s_votes_needed a.f_votes_needed a.fd_votes_needed
  b_votes_needed : Binds K a.fd_votes_needed ["spots", "false"] []
  m_votes_needed : mg "votes_needed" = some (.ref a.f_votes_needed)
  F__law_row : Fun K "_law_row" "_law_row" s__law_row a.f__law_row a.fd__law_row
  b__law_row : Binds K a.fd__law_row ["cell", "many"] []
  m__law_row : mg "_law_row" = some (.ref a.f__law_row)
  F__law_numbers : Fun K "_law_numbers" "_law_numbers" s__law_numbers a.f__law_numbers a.fd__law_numbers
  b__law_numbers : Binds K a.fd__law_numbers ["script", "many"] []
  m__law_numbers : mg "_law_numbers" = some (.ref a.f__law_numbers)
  F__law_parts : Fun K "_law_parts" "_law_parts" s__law_parts a.f__law_parts a.fd__law_parts
  b__law_parts : Binds K a.fd__law_parts ["numbers", "at", "most_v", "sides"] []
  m__law_parts : mg "_law_parts" = some (.ref a.f__law_parts)
  F__law_sky : Fun K "_law_sky" "_law_sky" s__law_sky a.f__law_sky a.fd__law_sky
  b__law_sky : Binds K a.fd__law_sky ["parts"] []
  m__law_sky : mg "_law_sky" = some (.ref a.f__law_sky)
  F__law_offset : Fun K "_law_offset" "_law_offset" s__law_offset a.f__law_offset a.fd__law_offset
  b__law_offset : Binds K a.fd__law_offset ["parts", "attitude", "star"] []
  m__law_offset : mg "_law_offset" = some (.ref a.f__law_offset)
  F__law_sight : Fun K "_law_sight" "_law_sight" s__law_sight a.f__law_sight a.fd__law_sight
  b__law_sight : Binds K a.fd__law_sight ["parts", "attitude"] []
  m__law_sight : mg "_law_sight" = some (.ref a.f__law_sight)
  F__law_near : Fun K "_law_near" "_law_near" s__law_near a.f__law_near a.fd__law_near
  b__law_near : Binds K a.fd__law_near ["parts", "one", "other", "times"] []
  m__law_near : mg "_law_near" = some (.ref a.f__law_near)
  F__law_rows : Fun K "_law_rows" "_law_rows" s__law_rows a.f__law_rows a.fd__law_rows
  b__law_rows : Binds K a.fd__law_rows ["parts", "here", "there", "times"] []
  m__law_rows : mg "_law_rows" = some (.ref a.f__law_rows)
  F__law_shown : Fun K "_law_shown" "_law_shown" s__law_shown a.f__law_shown a.fd__law_shown
  b__law_shown : Binds K a.fd__law_shown ["sighting"] []
  m__law_shown : mg "_law_shown" = some (.ref a.f__law_shown)
  F__law_attitude : Fun K "_law_attitude" "_law_attitude" s__law_attitude a.f__law_attitude a.fd__law_attitude
  b__law_attitude : Binds K a.fd__law_attitude ["parts", "numbers", "at"] []
  m__law_attitude : mg "_law_attitude" = some (.ref a.f__law_attitude)
  F__law_spot : Fun K "_law_spot" "_law_spot" s__law_spot a.f__law_spot a.fd__law_spot
  b__law_spot : Binds K a.fd__law_spot ["parts", "sight", "numbers", "at"] []
  m__law_spot : mg "_law_spot" = some (.ref a.f__law_spot)
  F__law_sighting : Fun K "_law_sighting" "_law_sighting" s__law_sighting a.f__law_sighting a.fd__law_sighting
  b__law_sighting : Binds K a.fd__law_sighting ["parts", "sight", "numbers", "at", "most_v"] []
  m__law_sighting : mg "_law_sighting" = some (.ref a.f__law_sighting)
  F__law_votes : Fun K "_law_votes" "_law_votes" s__law_votes a.f__law_votes a.fd__law_votes
  b__law_votes : Binds K a.fd__law_votes ["parts", "sight", "sighting"] []
  m__law_votes : mg "_law_votes" = some (.ref a.f__law_votes)
  F_law : Fun K "law" "law" s_law a.f_law a.fd_law
  cl_Sky : Cls K a.c_Sky
  m_Sky : mg "Sky" = some (.ref a.c_Sky)
  M_Sky : Mk K a.c_Sky a.f_Skyx_initx
  n_Sky__side : NoAttr K a.c_Sky "_side"
  n_Sky__stars : NoAttr K a.c_Sky "_stars"
  n_Sky__camera : NoAttr K a.c_Sky "_camera"
  cl_Frame : Cls K a.c_Frame
  m_Frame : mg "Frame" = some (.ref a.c_Frame)
  M_Frame : Mk K a.c_Frame a.f_Framex_initx
  n_Frame__sky : NoAttr K a.c_Frame "_sky"
  n_Frame__sighting : NoAttr K a.c_Frame "_sighting"
  n_Frame__fitting : NoAttr K a.c_Frame "_fitting"
  n_Frame__needs : NoAttr K a.c_Frame "_needs"
  S_InvalidAttitude : PySem.SwX.SErr P K mg "InvalidAttitude" "attitude" a.c_InvalidAttitude a.i_InvalidAttitude
  E_InvalidSky : PlainErr K mg "InvalidSky" a.c_InvalidSky
  E_InvalidSighting : PlainErr K mg "InvalidSighting" a.c_InvalidSighting
  E_InvalidSighting_te : PySem.W.exmOne K (.ref a.c_InvalidSighting) (.ref a.c_InvalidSighting) = some true
  x_InvalidSighting_InvalidAttitude : PySem.W.exmOne K (.ref a.c_InvalidSighting) (.ref a.c_InvalidAttitude) = some false
  m_MOST_STARS : mg "MOST_STARS" = some a.u_MOST_STARS
  v_MOST_STARS : ∃ t, a.u_MOST_STARS = .int 20 t
  m_MOST_SPOTS : mg "MOST_SPOTS" = some a.u_MOST_SPOTS
  v_MOST_SPOTS : ∃ t, a.u_MOST_SPOTS = .int 60 t
  m_BRIGHTEST : mg "BRIGHTEST" = some a.u_BRIGHTEST
  v_BRIGHTEST : ∃ t, a.u_BRIGHTEST = .int 9 t
  z_len : mg "len" = none
  z_abs : mg "abs" = none
  z_int : mg "int" = none
  z_max : mg "max" = none
  z_min : mg "min" = none
  z_range : mg "range" = none
  z_list : mg "list" = none
  z_tuple : mg "tuple" = none
  z_sum : mg "sum" = none
  z_isinstance : mg "isinstance" = none
  z_sorted : mg "sorted" = none
  z_set : mg "set" = none
  z_enumerate : mg "enumerate" = none
  z_bool : mg "bool" = none
section
variable {P : Program} {w : World} {K : PySem.W.Frag} {mg : Str → Option Value} {base : Heap} {a : Ad}
theorem ok_quarter_turned (T : Txt P K mg a) : FnOk P w K mg base CX0 1 a.f_quarter_turned a.fd_quarter_turned ["quarters", "pair"] (spTurn K) := by
  refine T.F_quarter_turned.ok sc_quarter_turned (fun vs H Q E h => ?_) (fun cdv A outer s H vs Q E hr h => ?_)
  · obtain ⟨q, x, y, p, rfl, _⟩ := h
    rfl
  · obtain ⟨q, x, y, p, rfl, hS, k⟩ := h
    refine ⟨_, (pss_cons (ps_asg (pv 1) (pg_tup rfl (pgs_cons (pg_name (i := 2) sc_quarter_turned.nd rfl (.inl rfl)) (pgs_cons (pg_name (i := 3) sc_quarter_turned.nd rfl (.inl rfl)) pgs_nil))))
      (pss_cons (ps_set (i := 4) sc_quarter_turned.nd rfl (.inl rfl) (pe_op op_mod (pv 0) pe_int))
      (pss_cons (ps_if (pt_cmpR op_eq (pv 4) pe_int (nomark _)) (pss_one (ps_ret (pe_tupM (pa_cons (pe_un un_neg (pv 3)) (pa_cons (pv 2) pa_nil))))) pss_nil)
      (pss_cons (ps_if (pt_cmpR op_eq (pv 4) pe_int (nomark _)) (pss_one (ps_ret (pe_tupM (pa_cons (pe_un un_neg (pv 2)) (pa_cons (pe_un un_neg (pv 3)) pa_nil))))) pss_nil)
      (pss_cons (ps_if (pt_cmpR op_eq (pv 4) pe_int (nomark _)) (pss_one (ps_ret (pe_tupM (pa_cons (pv 3) (pa_cons (pe_un un_neg (pv 2)) pa_nil))))) pss_nil)
      (pss_one (ps_ret (pe_tupM (pa_cons (pv 2) (pa_cons (pv 3) pa_nil)))))))))), ?_⟩
    refine ⟨.ref p, rfl, p, _, rfl, hS, rfl, _, _, rfl, _, _, rfl, rfl, ?_⟩
    refine ⟨_, rfl, _, _, rfl, rfl, (by show (0 : Int) < 4; decide), ?_⟩
    refine ⟨_, rfl, rfl, _, rfl, ite2 (fun hg => ?_) (fun hg => ?_)⟩
    · have e : q % 4 = 1 := V.int.inj (of_decide_eq_true hg)
      refine ⟨_, rfl, _, rfl, _, rfl, (by show 2 ≤ sizeLine; decide), fun p' H' s1 t1 => k H' p' s1 ?_⟩
      unfold turnX turnY
      rw [if_pos e, if_pos e]
      exact t1
    have n1 : ¬ q % 4 = 1 := fun z => hg (decide_eq_true (congrArg V.int z))
    refine ⟨_, rfl, rfl, _, rfl, ite2 (fun hg => ?_) (fun hg => ?_)⟩
    · have e : q % 4 = 2 := V.int.inj (of_decide_eq_true hg)
      refine ⟨_, rfl, _, rfl, _, rfl, _, rfl, (by show 2 ≤ sizeLine; decide), fun p' H' s1 t1 => k H' p' s1 ?_⟩
      unfold turnX turnY
      rw [if_neg n1, if_neg n1, if_pos e, if_pos e]
      exact t1
    have n2 : ¬ q % 4 = 2 := fun z => hg (decide_eq_true (congrArg V.int z))
    refine ⟨_, rfl, rfl, _, rfl, ite2 (fun hg => ?_) (fun hg => ?_)⟩
    · have e : q % 4 = 3 := V.int.inj (of_decide_eq_true hg)
      refine ⟨_, rfl, _, rfl, _, rfl, (by show 2 ≤ sizeLine; decide), fun p' H' s1 t1 => k H' p' s1 ?_⟩
      unfold turnX turnY
      rw [if_neg n1, if_neg n1, if_neg n2, if_neg n2, if_pos e, if_pos e]
      exact t1
    have n3 : ¬ q % 4 = 3 := fun z => hg (decide_eq_true (congrArg V.int z))
    refine ⟨_, rfl, _, rfl, (by show 2 ≤ sizeLine; decide), fun p' H' s1 t1 => k H' p' s1 ?_⟩
    unfold turnX turnY
    rw [if_neg n1, if_neg n1, if_neg n2, if_neg n2, if_neg n3, if_neg n3]
    exact t1

theorem ok_is_pose (T : Txt P K mg a) : FnOk P w K mg base CX0 1 a.f_is_pose a.fd_is_pose ["side", "told"] (spIs K isPose) := by
  refine T.F_is_pose.ok sc_is_pose (fun vs H Q E h => ?_) (fun cdv A outer s H vs Q E hr h => ?_)
  · obtain ⟨n, p, ns, rfl, _⟩ := h
    rfl
  · obtain ⟨n, p, ns, rfl, hS, k⟩ := h
    refine ⟨_, (pss_cons (ps_if (pt_cmpR op_ne (pe_callB call_len_seq (by rfl) T.z_len (by decide +kernel) (pa_cons (pv 1) pa_nil)) pe_int (nomark _)) (pss_one (ps_ret pe_bl)) pss_nil)
      (pss_cons (ps_asg (pv 1) (pg_tup rfl (pgs_cons (pg_name (i := 2) sc_is_pose.nd rfl (.inl rfl)) (pgs_cons (pg_name (i := 3) sc_is_pose.nd rfl (.inl rfl)) (pgs_cons (pg_name (i := 4) sc_is_pose.nd rfl (.inl rfl)) pgs_nil)))))
      (pss_one (ps_ret (pe_and (pe_chain op_le op_lt pe_int (pv 2) (pv 0)) (pe_and (pe_chain op_le op_lt pe_int (pv 3) (pv 0)) (pe_one (pe_chain op_le op_le pe_int (pv 4) pe_int)))))))), ?_⟩
    refine ⟨.ref p, rfl, p, _, rfl, .inr hS, rfl, _, rfl, ite2 (fun hg => ?_) (fun hg => ?_)⟩
    · have e : isPose n ns = false := pose_len (by have z := int_ne hg; rw [List.length_map] at z; exact z)
      exact e ▸ k
    · obtain ⟨x, y, q, rfl⟩ := of3 (by have z := int_eq hg; rw [List.length_map] at z; exact z)
      refine ⟨.ref p, rfl, p, _, rfl, hS, rfl, _, _, rfl, _, _, rfl, _, _, rfl, rfl, ?_⟩
      have fin : ∀ b : Bool, isPose n [x, y, q] = b → Q (.bl b) H := fun b e => e ▸ k
      have no : ∀ {c : Prop} [Decidable c], ¬ (decide c = true) → ¬ c := fun h z => h (decide_eq_true z)
      have F : (¬ (0 ≤ x ∧ x < n ∧ 0 ≤ y ∧ y < n ∧ 0 ≤ q ∧ q ≤ 3)) → Q (.bl false) H := fun z => fin _ (decide_eq_false z)
      refine ⟨_, rfl, _, _, rfl, rfl, _, rfl, ite2 (fun h1 => ?_) (fun h1 => ⟨_, rfl, iteF (F fun z => h1 (decide_eq_true z.1))⟩)⟩
      refine ⟨_, rfl, _, _, rfl, rfl, _, rfl, ite2 (fun h2 => ?_) (fun h2 => F fun z => h2 (decide_eq_true z.2.1))⟩
      refine ⟨_, rfl, _, _, rfl, rfl, _, rfl, ite2 (fun h3 => ?_) (fun h3 => ⟨_, rfl, iteF (F fun z => h3 (decide_eq_true z.2.2.1))⟩)⟩
      refine ⟨_, rfl, _, _, rfl, rfl, _, rfl, ite2 (fun h4 => ?_) (fun h4 => F fun z => h4 (decide_eq_true z.2.2.2.1))⟩
      refine ⟨_, rfl, _, _, rfl, rfl, _, rfl, ite2 (fun h5 => ?_) (fun h5 => F fun z => h5 (decide_eq_true z.2.2.2.2.1))⟩
      refine ⟨_, _, rfl, rfl, ?_⟩
      refine fin _ ?_
      show decide _ = decide _
      have a1 := of_decide_eq_true h1
      have a2 := of_decide_eq_true h2
      have a3 := of_decide_eq_true h3
      have a4 := of_decide_eq_true h4
      have a5 := of_decide_eq_true h5
      by_cases z : q ≤ 3
      · rw [decide_eq_true z, decide_eq_true ⟨a1, a2, a3, a4, a5, z⟩]
      · rw [decide_eq_false z, decide_eq_false (fun w => z w.2.2.2.2.2)]

theorem ok_is_side (T : Txt P K mg a) : FnOk P w K mg base CX0 1 a.f_is_side a.fd_is_side ["side"] spSide := by
  refine T.F_is_side.ok sc_is_side (fun vs H Q E h => ?_) (fun cdv A outer s H vs Q E hr h => ?_)
  · obtain ⟨n, rfl, _⟩ := h
    rfl
  · obtain ⟨n, rfl, k⟩ := h
    refine ⟨_, (pss_one (ps_ret (pe_chain op_le op_le pe_int (pv 0) pe_int))), ?_⟩
    refine ⟨_, rfl, _, _, rfl, rfl, _, rfl, ite2 (fun h1 => ⟨_, _, rfl, rfl, ?_⟩) (fun h1 => ?_)⟩
    · have a1 : 4 ≤ n := of_decide_eq_true h1
      show Q (.bl (decide (n ≤ 9))) H
      by_cases z : n ≤ 9
      · rw [decide_eq_true z]
        rw [decide_eq_true ⟨a1, z⟩] at k
        exact k
      · rw [decide_eq_false z]
        rw [decide_eq_false (fun y => z y.2)] at k
        exact k
    · rw [decide_eq_false (fun y => h1 (decide_eq_true y.1))] at k
      exact k

theorem ok_is_star (T : Txt P K mg a) : FnOk P w K mg base CX0 1 a.f_is_star a.fd_is_star ["side", "star"] (spIs K isStar) := by
  refine T.F_is_star.ok sc_is_star (fun vs H Q E h => ?_) (fun cdv A outer s H vs Q E hr h => ?_)
  · obtain ⟨n, p, ns, rfl, _⟩ := h
    rfl
  · obtain ⟨n, p, ns, rfl, hS, k⟩ := h
    refine ⟨_, (pss_cons (ps_if (pt_cmpR op_ne (pe_callB call_len_seq (by rfl) T.z_len (by decide +kernel) (pa_cons (pv 1) pa_nil)) pe_int (nomark _)) (pss_one (ps_ret pe_bl)) pss_nil)
      (pss_cons (ps_asg (pv 1) (pg_tup rfl (pgs_cons (pg_name (i := 2) sc_is_star.nd rfl (.inl rfl)) (pgs_cons (pg_name (i := 3) sc_is_star.nd rfl (.inl rfl)) (pgs_cons (pg_name (i := 4) sc_is_star.nd rfl (.inl rfl)) pgs_nil)))))
      (pss_one (ps_ret (pe_and (pe_chain op_le op_lt pe_int (pv 2) (pv 0)) (pe_and (pe_chain op_le op_lt pe_int (pv 3) (pv 0)) (pe_one (pe_chain op_le op_le pe_int (pv 4) (pe_glob (v := .int 9) rfl T.m_BRIGHTEST T.v_BRIGHTEST))))))))), ?_⟩
    refine ⟨.ref p, rfl, p, _, rfl, .inr hS, rfl, _, rfl, ite2 (fun hg => ?_) (fun hg => ?_)⟩
    · have e : isStar n ns = false := star_len (by have z := int_ne hg; rw [List.length_map] at z; exact z)
      exact e ▸ k
    · obtain ⟨x, y, q, rfl⟩ := of3 (by have z := int_eq hg; rw [List.length_map] at z; exact z)
      refine ⟨.ref p, rfl, p, _, rfl, hS, rfl, _, _, rfl, _, _, rfl, _, _, rfl, rfl, ?_⟩
      have fin : ∀ b : Bool, isStar n [x, y, q] = b → Q (.bl b) H := fun b e => e ▸ k
      have no : ∀ {c : Prop} [Decidable c], ¬ (decide c = true) → ¬ c := fun h z => h (decide_eq_true z)
      have F : (¬ (0 ≤ x ∧ x < n ∧ 0 ≤ y ∧ y < n ∧ 1 ≤ q ∧ q ≤ 9)) → Q (.bl false) H := fun z => fin _ (decide_eq_false z)
      refine ⟨_, rfl, _, _, rfl, rfl, _, rfl, ite2 (fun h1 => ?_) (fun h1 => ⟨_, rfl, iteF (F fun z => h1 (decide_eq_true z.1))⟩)⟩
      refine ⟨_, rfl, _, _, rfl, rfl, _, rfl, ite2 (fun h2 => ?_) (fun h2 => F fun z => h2 (decide_eq_true z.2.1))⟩
      refine ⟨_, rfl, _, _, rfl, rfl, _, rfl, ite2 (fun h3 => ?_) (fun h3 => ⟨_, rfl, iteF (F fun z => h3 (decide_eq_true z.2.2.1))⟩)⟩
      refine ⟨_, rfl, _, _, rfl, rfl, _, rfl, ite2 (fun h4 => ?_) (fun h4 => F fun z => h4 (decide_eq_true z.2.2.2.1))⟩
      refine ⟨_, rfl, _, _, rfl, rfl, _, rfl, ite2 (fun h5 => ?_) (fun h5 => F fun z => h5 (decide_eq_true z.2.2.2.2.1))⟩
      refine ⟨_, _, rfl, rfl, ?_⟩
      refine fin _ ?_
      show decide _ = decide _
      have a1 := of_decide_eq_true h1
      have a2 := of_decide_eq_true h2
      have a3 := of_decide_eq_true h3
      have a4 := of_decide_eq_true h4
      have a5 := of_decide_eq_true h5
      by_cases z : q ≤ 9
      · rw [decide_eq_true z, decide_eq_true ⟨a1, a2, a3, a4, a5, z⟩]
      · rw [decide_eq_false z, decide_eq_false (fun w => z w.2.2.2.2.2)]

theorem ok_is_camera (T : Txt P K mg a) : FnOk P w K mg base CX0 1 a.f_is_camera a.fd_is_camera ["side", "camera"] (spIs K isCam) := by
  refine T.F_is_camera.ok sc_is_camera (fun vs H Q E h => ?_) (fun cdv A outer s H vs Q E hr h => ?_)
  · obtain ⟨n, p, ns, rfl, _⟩ := h
    rfl
  · obtain ⟨n, p, ns, rfl, hS, k⟩ := h
    refine ⟨_, (pss_cons (ps_if (pt_cmpR op_ne (pe_callB call_len_seq (by rfl) T.z_len (by decide +kernel) (pa_cons (pv 1) pa_nil)) pe_int (nomark _)) (pss_one (ps_ret pe_bl)) pss_nil)
      (pss_cons (ps_asg (pv 1) (pg_tup rfl (pgs_cons (pg_name (i := 2) sc_is_camera.nd rfl (.inl rfl)) (pgs_cons (pg_name (i := 3) sc_is_camera.nd rfl (.inl rfl)) (pgs_cons (pg_name (i := 4) sc_is_camera.nd rfl (.inl rfl)) (pgs_cons (pg_name (i := 5) sc_is_camera.nd rfl (.inl rfl)) pgs_nil))))))
      (pss_cons (ps_if (pt_not (PW.pt (pw_and (pt_chain op_le op_le pe_int (pv 2) pe_int) (pw_and (pt_chain op_le op_le pe_int (pv 3) pe_int) (pw_and (pt_chain op_le op_le pe_int (pv 4) pe_int) (pw_and1 (pt_chain op_le op_le pe_int (pv 5) (pe_glob (v := .int 9) rfl T.m_BRIGHTEST T.v_BRIGHTEST)))))))) (pss_one (ps_ret pe_bl)) pss_nil)
      (pss_one (ps_ret (pe_and (pe_cmpR op_le (pv 3) (pv 2) (nomark _)) (pe_one (pe_cmpR op_le (pe_op op_add (pe_op op_mul pe_int (pe_op op_add (pv 2) (pv 3))) pe_int) (pv 0) (nomark _))))))))), ?_⟩
    refine ⟨.ref p, rfl, p, _, rfl, .inr hS, rfl, _, rfl, ite2 (fun hg => ?_) (fun hg => ?_)⟩
    · have e : isCam n ns = false := cam_len (by have z := int_ne hg; rw [List.length_map] at z; exact z)
      exact e ▸ k
    · obtain ⟨r, b, g, l, rfl⟩ := of4 (by have z := int_eq hg; rw [List.length_map] at z; exact z)
      refine ⟨.ref p, rfl, p, _, rfl, hS, rfl, _, _, rfl, _, _, rfl, _, _, rfl, _, _, rfl, rfl, ?_⟩
      have F : ¬ (0 ≤ r ∧ r ≤ 4 ∧ 0 ≤ b ∧ b ≤ 2 ∧ 0 ≤ g ∧ g ≤ 2 ∧ 1 ≤ l ∧ l ≤ 9 ∧ b ≤ r ∧ 2 * (r + b) + 1 ≤ n) → Q (.bl false) H := fun z => (show isCam n [r, b, g, l] = false from decide_eq_false z) ▸ k
      refine ⟨_, rfl, _, _, rfl, rfl, _, rfl, ite2 (fun h1 => ⟨_, _, rfl, rfl, _, rfl, ?_⟩) (fun h1 => ⟨_, rfl, iteF (iteT (F fun z => h1 (decide_eq_true z.1)))⟩)⟩
      refine ite2 (fun h2 => ?_) (fun h2 => iteT (F fun z => h2 (decide_eq_true z.2.1)))
      refine ⟨_, rfl, _, _, rfl, rfl, _, rfl, ite2 (fun h3 => ⟨_, _, rfl, rfl, _, rfl, ?_⟩) (fun h3 => ⟨_, rfl, iteF (iteT (F fun z => h3 (decide_eq_true z.2.2.1)))⟩)⟩
      refine ite2 (fun h4 => ?_) (fun h4 => iteT (F fun z => h4 (decide_eq_true z.2.2.2.1)))
      refine ⟨_, rfl, _, _, rfl, rfl, _, rfl, ite2 (fun h5 => ⟨_, _, rfl, rfl, _, rfl, ?_⟩) (fun h5 => ⟨_, rfl, iteF (iteT (F fun z => h5 (decide_eq_true z.2.2.2.2.1)))⟩)⟩
      refine ite2 (fun h6 => ?_) (fun h6 => iteT (F fun z => h6 (decide_eq_true z.2.2.2.2.2.1)))
      refine ⟨_, rfl, _, _, rfl, rfl, _, rfl, ite2 (fun h7 => ⟨_, _, rfl, rfl, _, rfl, ?_⟩) (fun h7 => ⟨_, rfl, iteT (F fun z => h7 (decide_eq_true z.2.2.2.2.2.2.1))⟩)⟩
      refine ite2 (fun hz => F fun z => ?_) (fun hz => ?_)
      · rw [decide_eq_true z.2.2.2.2.2.2.2.1] at hz
        cases hz
      have h8 : l ≤ 9 := by
        by_cases z : l ≤ 9
        · exact z
        · exact absurd (by rw [decide_eq_false z]; rfl) hz
      refine ⟨_, rfl, _, rfl, _, _, rfl, rfl, _, rfl, ite2 (fun h9 => ?_) (fun h9 => F fun z => h9 (decide_eq_true z.2.2.2.2.2.2.2.2.1))⟩
      refine ⟨_, rfl, _, rfl, _, _, rfl, rfl, _, _, rfl, rfl, .inl (by constructor <;> decide), _, _, rfl, rfl, _, rfl, _, _, rfl, rfl, ?_⟩
      have a1 := of_decide_eq_true h1
      have a2 := of_decide_eq_true h2
      have a3 := of_decide_eq_true h3
      have a4 := of_decide_eq_true h4
      have a5 := of_decide_eq_true h5
      have a6 := of_decide_eq_true h6
      have a7 := of_decide_eq_true h7
      have a9 := of_decide_eq_true h9
      show Q (.bl (decide (2 * (r + b) + 1 ≤ n))) H
      by_cases z : 2 * (r + b) + 1 ≤ n
      · rw [decide_eq_true z]
        exact (show isCam n [r, b, g, l] = true from decide_eq_true ⟨a1, a2, a3, a4, a5, a6, a7, h8, a9, z⟩) ▸ k
      · rw [decide_eq_false z]
        exact F fun y => z y.2.2.2.2.2.2.2.2.2

theorem ok__check_sky (T : Txt P K mg a) : FnOk P w K mg base (L2.CX P w) 2 a.f__check_sky a.fd__check_sky ["side", "stars", "camera"] (spCheck K a.c_InvalidSky) := by
  refine T.F__check_sky.okX sc__check_sky (fun vs H Q E h => ?_) (fun cdv A outer s H vs Q E hr h => ?_)
  · obtain ⟨n, l, c, ks, cam, rfl, _⟩ := h
    rfl
  · obtain ⟨n, l, c, ks, cam, rfl, hl, ht, hc, hk, k1, k2⟩ := h
    refine ⟨_, (pss_cons (ps_if (pt_not (pt_val (pe_call (ok_is_side T) (hr.mono (by decide)) (by rfl) T.m_is_side T.F_is_side.kp T.b_is_side .nil pass0 (pa_cons (pv 0) pa_nil)))) (pss_one (ps_raise rfl (takes_of rfl rfl rfl rfl) (pmk_own PySem.F.excBase_ValueError T.E_InvalidSky.x T.E_InvalidSky.g T.E_InvalidSky.k (raises_own T.E_InvalidSky.b T.E_InvalidSky.t) rfl))) pss_nil)
      (pss_cons (ps_for (passes_of rfl) rfl (pi_list (pv 1)) (pg_name (i := 3) sc__check_sky.nd rfl (.inl rfl)) (pss_one (ps_if (pt_not (pt_val (pe_call (ok_is_star T) (hr.mono (by decide)) (by rfl) T.m_is_star T.F_is_star.kp T.b_is_star .nil pass0 (pa_cons (pv 0) (pa_cons (pv 3) pa_nil))))) (pss_one (ps_raise rfl (takes_of rfl rfl rfl rfl) (pmk_own PySem.F.excBase_ValueError T.E_InvalidSky.x T.E_InvalidSky.g T.E_InvalidSky.k (raises_own T.E_InvalidSky.b T.E_InvalidSky.t) rfl))) pss_nil)))
      (pss_cons (ps_if (pt_cmpR op_lt (pe_callB cr_lenT (by rfl) T.z_len (by decide +kernel) (pa_cons (pe_callTy (cr_setOfT rfl hr.units) (by rfl) T.z_set (by decide +kernel) (pa_cons (pv 1) pa_nil)) pa_nil)) (pe_callB call_len_seq (by rfl) T.z_len (by decide +kernel) (pa_cons (pv 1) pa_nil)) (nomark _)) (pss_one (ps_raise rfl (takes_of rfl rfl rfl rfl) (pmk_own PySem.F.excBase_ValueError T.E_InvalidSky.x T.E_InvalidSky.g T.E_InvalidSky.k (raises_own T.E_InvalidSky.b T.E_InvalidSky.t) rfl))) pss_nil)
      (pss_cons (ps_if (pt_cmpR op_gt (pe_callB call_len_seq (by rfl) T.z_len (by decide +kernel) (pa_cons (pv 1) pa_nil)) (pe_glob (v := .int 20) rfl T.m_MOST_STARS T.v_MOST_STARS) (nomark _)) (pss_one (ps_raise rfl (takes_of rfl rfl rfl rfl) (pmk_own PySem.F.excBase_ValueError T.E_InvalidSky.x T.E_InvalidSky.g T.E_InvalidSky.k (raises_own T.E_InvalidSky.b T.E_InvalidSky.t) rfl))) pss_nil)
      (pss_one (ps_if (pt_not (pt_val (pe_call (ok_is_camera T) (hr.mono (by decide)) (by rfl) T.m_is_camera T.F_is_camera.kp T.b_is_camera .nil pass0 (pa_cons (pv 0) (pa_cons (pv 2) pa_nil))))) (pss_one (ps_raise rfl (takes_of rfl rfl rfl rfl) (pmk_own PySem.F.excBase_ValueError T.E_InvalidSky.x T.E_InvalidSky.g T.E_InvalidSky.k (raises_own T.E_InvalidSky.b T.E_InvalidSky.t) rfl))) pss_nil)))))), ?_⟩
    refine ⟨_, rfl, n, rfl, _, rfl, ?_⟩
    by_cases hn : 4 ≤ n ∧ n ≤ 9
    rotate_left
    · have bad : isSky n (keys ks) cam = false := by unfold isSky; rw [decide_eq_false hn]; rfl
      rw [decide_eq_false hn]
      exact iteT (k2 bad _ (Same.refl _))
    rw [decide_eq_true hn]
    refine iteF ?_
    refine ⟨.ref l, rfl, l, rfl, ⟨_, hl⟩, for_list (K := K) (a := l) (xs := refs ks) (fun i σ H2 => ∃ z : Option V, σ = [some (.int n), some (.ref l), some (.ref c), z] ∧ H2 = H ∧ ∀ p ∈ ks.take i, isStar n p.2 = true) ⟨_, rfl, rfl, fun p hp => by cases hp⟩ (fun i σ H2 _ ⟨_, _, e, _⟩ => by rw [e]; exact hl) ?_ ?_⟩
    · rintro i y σ H2 hi ⟨z, rfl, rfl, hs⟩
      obtain ⟨p, hp, rfl⟩ : ∃ p, ks[i]? = some p ∧ y = V.ref p.1 := by
        unfold refs at hi
        rw [List.getElem?_map] at hi
        cases e : ks[i]? with
        | none => rw [e] at hi; cases hi
        | some p => rw [e] at hi; exact ⟨p, rfl, (Option.some.inj hi).symm⟩
      refine ⟨_, rfl, .ref p.1, rfl, n, p.1, p.2, rfl, ht p (List.mem_of_getElem? hp), _, rfl, ?_⟩
      cases e : isStar n p.2 with
      | true =>
        refine iteF ⟨_, rfl, rfl, fun q hq => ?_⟩
        rw [List.take_add_one, hp] at hq
        rcases List.mem_append.mp hq with hq | hq
        · exact hs q hq
        · simp at hq
          rw [hq]
          exact e
      | false =>
        have bad : isSky n (keys ks) cam = false := by
          have z : (keys ks).all (isStar n) = false := by
            rw [List.all_eq_false]
            exact ⟨p.2, List.mem_map_of_mem (List.mem_of_getElem? hp), by rw [e]; simp⟩
          unfold isSky
          rw [z, Bool.and_false]
          rfl
        exact iteT (k2 bad _ (Same.refl _))
    · rintro σ H2 ⟨z, rfl, rfl, hs⟩
      have hall : (keys ks).all (isStar n) = true := List.all_eq_true.mpr fun x hx => by
        obtain ⟨p, hp, rfl⟩ := List.mem_map.mp hx
        exact hs p (by rw [List.take_of_length_le (by rw [refs_len]; exact Nat.le_refl _)]; exact hp)
      refine ⟨.ref l, rfl, l, ks, rfl, hl, ht, hk, fun b L nb h1 h2 => ⟨b, L, rfl, upd_same, fun hnd => ?_⟩⟩
      have s3 : Same H2 (upd H2 b (SetTO P w b L)) := same_new nb
      refine ⟨.ref l, rfl, l, _, rfl, .inl (s3.seq hl), _, _, rfl, rfl, _, rfl, ?_⟩
      have sl := set_len h1 h2 hnd
      by_cases hd : (keys ks).Nodup
      rotate_left
      · have bad : isSky n (keys ks) cam = false := by
          unfold isSky
          rw [decide_eq_false hd, Bool.and_false]
          rfl
        have g : ((L.length : Nat) : Int) < (((refs ks).length : Nat) : Int) := by
          rw [refs_len]
          have := sl.mpr hd
          omega
        exact iteD2 g (k2 bad _ s3)
      have g : ¬ ((L.length : Nat) : Int) < (((refs ks).length : Nat) : Int) := by
        rw [refs_len]
        intro z
        exact sl.mp (by omega) hd
      refine iteD3 g ?_
      refine ⟨.ref l, rfl, l, _, rfl, .inl (s3.seq hl), _, _, rfl, rfl, _, rfl, ?_⟩
      by_cases h20 : ks.length ≤ 20
      rotate_left
      · have bad : isSky n (keys ks) cam = false := by
          unfold isSky
          rw [show decide ((keys ks).length ≤ 20) = false from decide_eq_false (by rw [keys_len]; exact h20), Bool.and_false]
          rfl
        exact iteD2 (by rw [refs_len]; omega) (k2 bad _ s3)
      refine iteD3 (by rw [refs_len]; omega) ?_
      refine ⟨_, rfl, .ref c, rfl, n, c, cam, rfl, sqT_up s3 hc, _, rfl, ?_⟩
      have e : isSky n (keys ks) cam = isCam n cam := by
        unfold isSky
        rw [decide_eq_true hn, hall, decide_eq_true hd, show decide ((keys ks).length ≤ 20) = true from decide_eq_true (by rw [keys_len]; exact h20)]
        rfl
      cases ec : isCam n cam with
      | true => exact iteF (k1 (e.trans ec) _ s3)
      | false => exact iteT (k2 (e.trans ec) _ s3)

theorem ok_Skyx_initx (T : Txt P K mg a) : FnOk P w K mg base (L2.CX P w) 3 a.f_Skyx_initx a.fd_Skyx_initx ["self", "side", "stars", "camera"] (spInit K a.c_Sky a.c_InvalidSky) := by
  refine T.F_Skyx_initx.okX sc_Skyx_initx (fun vs H Q E h => ?_) (fun cdv A outer s H vs Q E hr h => ?_)
  · obtain ⟨x, dx, n, p, c, ks, cam, rfl, _⟩ := h
    rfl
  · obtain ⟨x, dx, n, p, c, ks, cam, rfl, hx, hp, ht, hc, hk, k, kE⟩ := h
    refine ⟨_, (pss_cons (ps_expr (pe_call (ok__check_sky T) (hr.mono (by decide)) (by rfl) T.m__check_sky T.F__check_sky.kp T.b__check_sky .nil (passes_call (takes_of rfl rfl rfl rfl) (fun _ _ _ _ h => h)) (pa_cons (pv 1) (pa_cons (pv 2) (pa_cons (pv 3) pa_nil)))))
      (pss_cons (ps_fld (pv 0) (pv 1) rfl)
      (pss_cons (ps_fld (pv 0) (pe_callTy call_tuple_of (by rfl) T.z_tuple (by decide +kernel) (pa_cons (pe_callB (cr_sortM (d := 3) (B := 10) (by decide)) (by rfl) T.z_sorted (by decide +kernel) (pa_cons (pv 2) pa_nil)) pa_nil)) rfl)
      (pss_one (ps_fld (pv 0) (pv 3) rfl))))), ?_⟩
    refine ⟨_, rfl, .ref p, rfl, .ref c, rfl, n, p, c, ks, cam, rfl, hp, ht, hc, hk, fun hsky H1 s1 => ?_, fun hbad H1 s1 => kE hbad _ s1⟩
    obtain ⟨⟨h4, h9⟩, hstars, hnd, h20, hcam⟩ := sky_parts hsky
    refine ⟨_, rfl, .ref x, rfl, x, a.c_Sky, dx, [], rfl, s1 _ _ hx, T.cl_Sky, T.n_Sky__side, (by show 0 < 1000; decide), ?_⟩
    -- self._stars = tuple(sorted(stars))
    have hx1 := s1 _ _ hx
    generalize e2 : upd H1 x (.ins a.c_Sky dx (putF "_side" (.int n) [])) = H2
    have hx2 : H2 x = some (.ins a.c_Sky dx (putF "_side" (.int n) [])) := by rw [← e2]; exact upd_same
    have hp2 : SqL K H2 p (refs ks) := by rw [← e2]; exact sqL_ins hx1 (s1.seq hp)
    have hc2 : SqT K H2 c (cam.map V.int) := by rw [← e2]; exact sqT_ins hx1 (sqT_up s1 hc)
    have ht2 : TupsAt K H2 ks := fun q hq => by rw [← e2]; exact sqT_ins hx1 (sqT_up s1 (ht q hq))
    refine ⟨.ref p, rfl, p, ks, rfl, hp2, ht2, hk, stars_fit hstars h9, fun l ks' H3 s3 nl el hperm hasc => ?_⟩
    refine ⟨l, _, rfl, .inl ⟨.inl (.inl el), fun t nt => ?_⟩⟩
    have s4 : Same H2 (upd H3 t (.tup (refs ks'))) := s3.trans (same_new nt)
    generalize e4 : upd H3 t (.tup (refs ks')) = H4 at s4 ⊢
    have ht4 : SqT K H4 t (refs ks') := by rw [← e4]; exact .inl (.inl upd_same)
    have hx4 := s4 _ _ hx2
    refine ⟨.ref x, rfl, x, a.c_Sky, dx, _, rfl, hx4, T.cl_Sky, T.n_Sky__stars, (by show 1 < 1000; decide), ?_⟩
    -- self._camera = camera
    generalize e5 : upd H4 x (.ins a.c_Sky dx (putF "_stars" (.ref t) (putF "_side" (.int n) []))) = H5
    have hx5 : H5 x = some (.ins a.c_Sky dx (putF "_stars" (.ref t) (putF "_side" (.int n) []))) := by rw [← e5]; exact upd_same
    have ht5 : SqT K H5 t (refs ks') := by rw [← e5]; exact sqT_ins hx4 ht4
    have hc5 : SqT K H5 c (cam.map V.int) := by rw [← e5]; exact sqT_ins hx4 (sqT_up s4 hc2)
    have hk5 : TupsAt K H5 ks := fun q hq => by rw [← e5]; exact sqT_ins hx4 (sqT_up s4 (ht2 q hq))
    refine ⟨_, rfl, .ref x, rfl, x, a.c_Sky, dx, _, rfl, hx5, T.cl_Sky, T.n_Sky__camera, skyF_two n t, ?_⟩
    refine k hsky _ ks' ⟨⟨dx, t, c, upd_same, sqT_ins hx5 ht5, sqT_ins hx5 hc5⟩, fun q hq => sqT_ins hx5 (hk5 q (hperm.mem_iff.mp hq))⟩ hperm hasc (fun b o hb hn => ?_)
    rw [upd_ne hn, ← e5, upd_ne hn]
    refine s4 _ _ ?_
    rw [← e2, upd_ne hn]
    exact s1 _ _ hb

theorem ok_Sky_side (T : Txt P K mg a) : FnOk P w K mg base CX0 1 a.f_Sky_side a.fd_Sky_side ["self"] (spOfSide K a.c_Sky) := by
  refine T.F_Sky_side.ok sc_Sky_side (fun vs H Q E h => ?_) (fun cdv A outer s H vs Q E hr h => ?_)
  · obtain ⟨p, n, st, cam, rfl, _⟩ := h
    rfl
  · obtain ⟨p, n, st, cam, rfl, ⟨dx, ts, tc, h1, _⟩, k⟩ := h
    refine ⟨_, (pss_one (ps_ret (pe_fld (pv 0) rfl))), ?_⟩
    exact ⟨.ref p, rfl, p, a.c_Sky, dx, _, _, rfl, h1, T.cl_Sky, T.n_Sky__side, skyF_side n ts tc, k⟩

theorem ok_Sky_stars (T : Txt P K mg a) : FnOk P w K mg base CX0 1 a.f_Sky_stars a.fd_Sky_stars ["self"] (spOfStars K a.c_Sky) := by
  refine T.F_Sky_stars.ok sc_Sky_stars (fun vs H Q E h => ?_) (fun cdv A outer s H vs Q E hr h => ?_)
  · obtain ⟨p, n, st, cam, rfl, _⟩ := h
    rfl
  · obtain ⟨p, n, st, cam, rfl, ⟨dx, ts, tc, h1, h2, h3⟩, k⟩ := h
    refine ⟨_, (pss_one (ps_ret (pe_fld (pv 0) rfl))), ?_⟩
    exact ⟨.ref p, rfl, p, a.c_Sky, dx, _, _, rfl, h1, T.cl_Sky, T.n_Sky__stars, skyF_stars n ts tc, k _ h2⟩

theorem ok_Sky_reach (T : Txt P K mg a) : FnOk P w K mg base CX0 1 a.f_Sky_reach a.fd_Sky_reach ["self"] (spOfPart K a.c_Sky 0) := by
  refine T.F_Sky_reach.ok sc_Sky_reach (fun vs H Q E h => ?_) (fun cdv A outer s H vs Q E hr h => ?_)
  · obtain ⟨p, n, st, cam, z, rfl, _⟩ := h
    rfl
  · obtain ⟨p, n, st, cam, z, rfl, ⟨dx, ts, tc, h1, h2, h3⟩, hz, k⟩ := h
    refine ⟨_, (pss_one (ps_ret (pe_ix ix_seq (pe_fld (pv 0) rfl) pe_int (fun _ _ => rfl)))), ?_⟩
    exact ⟨.ref p, rfl, p, a.c_Sky, dx, _, _, rfl, h1, T.cl_Sky, T.n_Sky__camera, skyF_camera n ts tc, .inr (.inl ⟨tc, _, _, _, rfl, rfl, h3, atI_nat (by rw [List.getElem?_map, hz]; rfl), k⟩)⟩

theorem ok_Sky_blur (T : Txt P K mg a) : FnOk P w K mg base CX0 1 a.f_Sky_blur a.fd_Sky_blur ["self"] (spOfPart K a.c_Sky 1) := by
  refine T.F_Sky_blur.ok sc_Sky_blur (fun vs H Q E h => ?_) (fun cdv A outer s H vs Q E hr h => ?_)
  · obtain ⟨p, n, st, cam, z, rfl, _⟩ := h
    rfl
  · obtain ⟨p, n, st, cam, z, rfl, ⟨dx, ts, tc, h1, h2, h3⟩, hz, k⟩ := h
    refine ⟨_, (pss_one (ps_ret (pe_ix ix_seq (pe_fld (pv 0) rfl) pe_int (fun _ _ => rfl)))), ?_⟩
    exact ⟨.ref p, rfl, p, a.c_Sky, dx, _, _, rfl, h1, T.cl_Sky, T.n_Sky__camera, skyF_camera n ts tc, .inr (.inl ⟨tc, _, _, _, rfl, rfl, h3, atI_nat (by rw [List.getElem?_map, hz]; rfl), k⟩)⟩

theorem ok_Sky_glare (T : Txt P K mg a) : FnOk P w K mg base CX0 1 a.f_Sky_glare a.fd_Sky_glare ["self"] (spOfPart K a.c_Sky 2) := by
  refine T.F_Sky_glare.ok sc_Sky_glare (fun vs H Q E h => ?_) (fun cdv A outer s H vs Q E hr h => ?_)
  · obtain ⟨p, n, st, cam, z, rfl, _⟩ := h
    rfl
  · obtain ⟨p, n, st, cam, z, rfl, ⟨dx, ts, tc, h1, h2, h3⟩, hz, k⟩ := h
    refine ⟨_, (pss_one (ps_ret (pe_ix ix_seq (pe_fld (pv 0) rfl) pe_int (fun _ _ => rfl)))), ?_⟩
    exact ⟨.ref p, rfl, p, a.c_Sky, dx, _, _, rfl, h1, T.cl_Sky, T.n_Sky__camera, skyF_camera n ts tc, .inr (.inl ⟨tc, _, _, _, rfl, rfl, h3, atI_nat (by rw [List.getElem?_map, hz]; rfl), k⟩)⟩

theorem ok_Sky_limit (T : Txt P K mg a) : FnOk P w K mg base CX0 1 a.f_Sky_limit a.fd_Sky_limit ["self"] (spOfPart K a.c_Sky 3) := by
  refine T.F_Sky_limit.ok sc_Sky_limit (fun vs H Q E h => ?_) (fun cdv A outer s H vs Q E hr h => ?_)
  · obtain ⟨p, n, st, cam, z, rfl, _⟩ := h
    rfl
  · obtain ⟨p, n, st, cam, z, rfl, ⟨dx, ts, tc, h1, h2, h3⟩, hz, k⟩ := h
    refine ⟨_, (pss_one (ps_ret (pe_ix ix_seq (pe_fld (pv 0) rfl) pe_int (fun _ _ => rfl)))), ?_⟩
    exact ⟨.ref p, rfl, p, a.c_Sky, dx, _, _, rfl, h1, T.cl_Sky, T.n_Sky__camera, skyF_camera n ts tc, .inr (.inl ⟨tc, _, _, _, rfl, rfl, h3, atI_nat (by rw [List.getElem?_map, hz]; rfl), k⟩)⟩

theorem ok_is_spot (T : Txt P K mg a) : FnOk P w K mg base CX0 3 a.f_is_spot a.fd_is_spot ["sky", "spot"] (spIsSpot K a.c_Sky) := by
  refine T.F_is_spot.ok sc_is_spot (fun vs H Q E h => ?_) (fun cdv A outer s H vs Q E hr h => ?_)
  · obtain ⟨p, ps, n, st, r, b, g, l, sp, rfl, _⟩ := h
    rfl
  · obtain ⟨p, ps, n, st, r, b, g, l, sp, rfl, hK, hS, k⟩ := h
    refine ⟨_, (pss_cons (ps_if (pt_cmpR op_ne (pe_callB call_len_seq (by rfl) T.z_len (by decide +kernel) (pa_cons (pv 1) pa_nil)) pe_int (nomark _)) (pss_one (ps_ret pe_bl)) pss_nil)
      (pss_cons (ps_asg (pv 1) (pg_tup rfl (pgs_cons (pg_name (i := 2) sc_is_spot.nd rfl (.inl rfl)) (pgs_cons (pg_name (i := 3) sc_is_spot.nd rfl (.inl rfl)) (pgs_cons (pg_name (i := 4) sc_is_spot.nd rfl (.inl rfl)) pgs_nil)))))
      (pss_one (ps_ret (pe_and (pe_cmpR op_le (pe_callB call_abs (by rfl) T.z_abs (by decide +kernel) (pa_cons (pv 2) pa_nil)) (pe_prop (pv 0) T.cl_Sky T.p_Sky_reach (ok_Sky_reach T) (hr.mono (by decide)) T.b_Sky_reach .nil pass0 rfl) (nomark _)) (pe_and (pe_cmpR op_le (pe_callB call_abs (by rfl) T.z_abs (by decide +kernel) (pa_cons (pv 3) pa_nil)) (pe_prop (pv 0) T.cl_Sky T.p_Sky_reach (ok_Sky_reach T) (hr.mono (by decide)) T.b_Sky_reach .nil pass0 rfl) (nomark _)) (pe_one (pe_chain op_le op_le (pe_prop (pv 0) T.cl_Sky T.p_Sky_limit (ok_Sky_limit T) (hr.mono (by decide)) T.b_Sky_limit .nil pass0 rfl) (pv 4) (pe_op op_add (pe_glob (v := .int 9) rfl T.m_BRIGHTEST T.v_BRIGHTEST) (pe_prop (pv 0) T.cl_Sky T.p_Sky_glare (ok_Sky_glare T) (hr.mono (by decide)) T.b_Sky_glare .nil pass0 rfl)))))))))), ?_⟩
    obtain ⟨dx, ts, tc, h1, h2, h3⟩ := id hK
    refine ⟨.ref ps, rfl, ps, _, rfl, .inr hS, rfl, _, rfl, ite2 (fun hg => ?_) (fun hg => ?_)⟩
    · have e : isSpot [r, b, g, l] sp = false := spot_len (by have z := int_ne hg; rw [List.length_map] at z; exact z)
      exact e ▸ k
    · obtain ⟨x, y, c, rfl⟩ := of3 (by have z := int_eq hg; rw [List.length_map] at z; exact z)
      refine ⟨.ref ps, rfl, ps, _, rfl, hS, rfl, _, _, rfl, _, _, rfl, _, _, rfl, rfl, ?_⟩
      have fin : ∀ b' : Bool, isSpot [r, b, g, l] [x, y, c] = b' → Q (.bl b') H := fun b' e => e ▸ k
      have F : (¬ (iabs x ≤ r ∧ iabs y ≤ r ∧ l ≤ c ∧ c ≤ 9 + g)) → Q (.bl false) H := fun z => fin _ (decide_eq_false z)
      refine ⟨_, rfl, _, rfl, .ref p, rfl, p, dx, _, rfl, h1, p, n, _, _, r, rfl, hK, rfl, _, _, rfl, rfl, _, rfl, ite2 (fun g1 => ?_) (fun g1 => F fun z => g1 (decide_eq_true z.1))⟩
      refine ⟨_, rfl, _, rfl, .ref p, rfl, p, dx, _, rfl, h1, p, n, _, _, r, rfl, hK, rfl, _, _, rfl, rfl, _, rfl, ite2 (fun g2 => ?_) (fun g2 => F fun z => g2 (decide_eq_true z.2.1))⟩
      refine ⟨.ref p, rfl, p, dx, _, rfl, h1, p, n, _, _, l, rfl, hK, rfl, _, rfl, _, _, rfl, rfl, _, rfl, ite2 (fun g3 => ?_) (fun g3 => F fun z => g3 (decide_eq_true z.2.2.1))⟩
      refine ⟨.ref p, rfl, p, dx, _, rfl, h1, p, n, _, _, g, rfl, hK, rfl, _, _, rfl, rfl, _, _, rfl, rfl, fin _ ?_⟩
      show decide _ = decide _
      have a1 : iabs x ≤ r := of_decide_eq_true g1
      have a2 : iabs y ≤ r := of_decide_eq_true g2
      have a3 := of_decide_eq_true g3
      by_cases z : c ≤ 9 + g
      · rw [decide_eq_true z, decide_eq_true ⟨a1, a2, a3, z⟩]
      · rw [decide_eq_false z, decide_eq_false (fun w => z w.2.2.2)]

theorem ok_check_sighting (T : Txt P K mg a) : FnOk P w K mg base (L2.CX P w) 4 a.f_check_sighting a.fd_check_sighting ["sky", "sighting"] (spSight K a.c_Sky a.c_InvalidSighting) := by
  refine T.F_check_sighting.okX sc_check_sighting (fun vs H Q E h => ?_) (fun cdv A outer s H vs Q E hr h => ?_)
  · obtain ⟨p, ps, n, st, r, b, g, l, ks, rfl, _⟩ := h
    rfl
  · obtain ⟨p, ps, n, st, r, b, g, l, ks, rfl, hK, hS, ht, k1, k2⟩ := h
    refine ⟨_, (pss_cons (ps_for (passes_of rfl) rfl (pi_tup (pv 1)) (pg_name (i := 2) sc_check_sighting.nd rfl (.inl rfl)) (pss_one (ps_if (pt_not (pt_val (pe_call (ok_is_spot T) (hr.mono (by decide)) (by rfl) T.m_is_spot T.F_is_spot.kp T.b_is_spot .nil pass0 (pa_cons (pv 0) (pa_cons (pv 2) pa_nil))))) (pss_one (ps_raise rfl (takes_of rfl rfl rfl rfl) (pmk_own PySem.F.excBase_ValueError T.E_InvalidSighting.x T.E_InvalidSighting.g T.E_InvalidSighting.k (raises_own T.E_InvalidSighting.b T.E_InvalidSighting.t) rfl))) pss_nil)))
      (pss_cons (ps_if (pt_cmpR (op_neD hr.units) (pe_callTy call_list_of (by rfl) T.z_list (by decide +kernel) (pa_cons (pv 1) pa_nil)) (pe_callB cr_sortL (by rfl) T.z_sorted (by decide +kernel) (pa_cons (pv 1) pa_nil)) (nomark _)) (pss_one (ps_raise rfl (takes_of rfl rfl rfl rfl) (pmk_own PySem.F.excBase_ValueError T.E_InvalidSighting.x T.E_InvalidSighting.g T.E_InvalidSighting.k (raises_own T.E_InvalidSighting.b T.E_InvalidSighting.t) rfl))) pss_nil)
      (pss_one (ps_if (pt_cmpR op_gt (pe_callB call_len_seq (by rfl) T.z_len (by decide +kernel) (pa_cons (pv 1) pa_nil)) (pe_glob (v := .int 60) rfl T.m_MOST_SPOTS T.v_MOST_SPOTS) (nomark _)) (pss_one (ps_raise rfl (takes_of rfl rfl rfl rfl) (pmk_own PySem.F.excBase_ValueError T.E_InvalidSighting.x T.E_InvalidSighting.g T.E_InvalidSighting.k (raises_own T.E_InvalidSighting.b T.E_InvalidSighting.t) rfl))) pss_nil)))), ?_⟩
    refine ⟨.ref ps, rfl, ps, rfl, ⟨_, hS⟩, for_tup (K := K) (a := ps) (xs := refs ks) (fun i σ H2 => ∃ z : Option V, σ = [some (.ref p), some (.ref ps), z] ∧ H2 = H ∧ ∀ q ∈ ks.take i, isSpot [r, b, g, l] q.2 = true) ⟨_, rfl, rfl, fun q hq => by cases hq⟩ (fun i σ H2 _ ⟨_, _, e, _⟩ => by rw [e]; exact hS) ?_ ?_⟩
    · rintro i y σ H2 hi ⟨z, rfl, rfl, hs⟩
      obtain ⟨q, hq, rfl⟩ : ∃ q, ks[i]? = some q ∧ y = V.ref q.1 := by
        unfold refs at hi
        rw [List.getElem?_map] at hi
        cases e : ks[i]? with
        | none => rw [e] at hi; cases hi
        | some q => rw [e] at hi; exact ⟨q, rfl, (Option.some.inj hi).symm⟩
      refine ⟨.ref p, rfl, .ref q.1, rfl, p, q.1, n, st, r, b, g, l, q.2, rfl, hK, ht q (List.mem_of_getElem? hq), _, rfl, ?_⟩
      cases e : isSpot [r, b, g, l] q.2 with
      | true =>
        refine iteF ⟨_, rfl, rfl, fun q' hq' => ?_⟩
        rw [List.take_add_one, hq] at hq'
        rcases List.mem_append.mp hq' with hq' | hq'
        · exact hs q' hq'
        · simp at hq'
          rw [hq']
          exact e
      | false =>
        refine iteT (k2 ?_ _ (Same.refl _))
        have z : (keys ks).all (isSpot [r, b, g, l]) = false := by
          rw [List.all_eq_false]
          exact ⟨q.2, List.mem_map_of_mem (List.mem_of_getElem? hq), by rw [e]; simp⟩
        unfold isSight
        rw [z]
        rfl
    · rintro σ H2 ⟨z, rfl, rfl, hs⟩
      rw [List.take_of_length_le (by rw [refs_len]; exact Nat.le_refl _)] at hs
      have hall : (keys ks).all (isSpot [r, b, g, l]) = true := List.all_eq_true.mpr fun x hx => by
        obtain ⟨q, hq, rfl⟩ := List.mem_map.mp hx
        exact hs q hq
      refine ⟨.ref ps, rfl, ps, _, rfl, .inr hS, fun lh nlh => ?_⟩
      have s3 : Same H2 (upd H2 lh (.lst (refs ks))) := same_new nlh
      have elh : (upd H2 lh (.lst (refs ks))) lh = some (.lst (refs ks)) := upd_same
      generalize upd H2 lh (.lst (refs ks)) = H3 at s3 elh ⊢
      refine ⟨.ref ps, rfl, ps, ks, rfl, .inr (sqT_up s3 hS), tups_up s3 ht, fun q hq e => ?_, fun l4 ks4 H4 s4 n4 e4 hp4 ha4 => ?_⟩
      · obtain ⟨x, y, c, e'⟩ := spot_form (hs q hq)
        rw [e'] at e
        cases e
      have t4 : TupsAt K H4 ks4 := fun q hq => sqT_up (s3.trans s4) (ht q (hp4.mem_iff.mp hq))
      refine ne_tups (dp_l (s4 _ _ elh) (dp_tups (tups_up (s3.trans s4) ht))) (dp_l e4 (dp_tups t4)) ⟨_, rfl, ?_⟩
      rw [sorted_same hp4 ha4]
      have S4 := s3.trans s4
      by_cases hasc : AscL (keys ks)
      rotate_left
      · rw [decide_eq_false hasc]
        refine iteT (k2 ?_ _ S4)
        unfold isSight
        rw [decide_eq_false hasc, Bool.and_false]
        rfl
      rw [decide_eq_true hasc]
      refine iteF ?_
      refine ⟨.ref ps, rfl, ps, _, rfl, .inr (sqT_up S4 hS), _, _, rfl, rfl, _, rfl, ?_⟩
      have eS : isSight [r, b, g, l] (keys ks) = decide ((keys ks).length ≤ 60) := by
        unfold isSight
        rw [hall, decide_eq_true hasc]
        rfl
      by_cases h60 : ks.length ≤ 60
      · exact iteD3 (by rw [refs_len]; omega) (k1 (by rw [eS]; exact decide_eq_true (by rw [keys_len]; exact h60)) _ S4)
      · exact iteD2 (by rw [refs_len]; omega) (k2 (by rw [eS]; exact decide_eq_false (by rw [keys_len]; exact h60)) _ S4)

theorem ok_check_attitude (T : Txt P K mg a) : FnOk P w K mg base (L2.CX P w) 3 a.f_check_attitude a.fd_check_attitude ["sky", "attitude"] (spAsk K a.c_Sky a.c_InvalidAttitude "attitude" isPose) := by
  refine T.F_check_attitude.okX sc_check_attitude (fun vs H Q E h => ?_) (fun cdv A outer s H vs Q E hr h => ?_)
  · obtain ⟨p, q, n, st, cam, ns, rfl, _⟩ := h
    rfl
  · obtain ⟨p, q, n, st, cam, ns, rfl, hK, hq, k1, k2⟩ := h
    refine ⟨_, (pss_one (ps_if (pt_not (pt_val (pe_call (ok_is_pose T) (hr.mono (by decide)) (by rfl) T.m_is_pose T.F_is_pose.kp T.b_is_pose .nil pass0 (pa_cons (pe_prop (pv 0) T.cl_Sky T.p_Sky_side (ok_Sky_side T) (hr.mono (by decide)) T.b_Sky_side .nil pass0 rfl) (pa_cons (pv 1) pa_nil))))) (pss_one (ps_raiseS rfl T.S_InvalidAttitude hr (takes_of rfl rfl rfl rfl) (by exact (pa_cons (pv 1) pa_nil)))) pss_nil)), ?_⟩
    obtain ⟨dx, ts, tc, h1, _⟩ := id hK
    refine ⟨.ref p, rfl, p, dx, _, rfl, h1, p, n, st, cam, rfl, hK, ?_⟩
    refine ⟨_, rfl, n, q, ns, rfl, hq, _, rfl, ?_⟩
    cases e : isPose n ns with
    | true => exact iteF (k1 e)
    | false => exact iteT ⟨_, rfl, _, rfl, fun d hd => k2 e d _ (same_new hd) upd_same⟩

theorem ok__nearest (T : Txt P K mg a) : FnOk P w K mg base CX0 1 a.f__nearest a.fd__nearest ["side", "part"] spNear := by
  refine T.F__nearest.ok sc__nearest (fun vs H Q E h => ?_) (fun cdv A outer s H vs Q E hr h => ?_)
  · obtain ⟨n, i, rfl, _⟩ := h
    rfl
  · obtain ⟨n, i, rfl, hn, k⟩ := h
    refine ⟨_, (pss_cons (ps_set (i := 2) sc__nearest.nd rfl (.inl rfl) (pe_op op_fdiv (pv 0) pe_int))
      (pss_one (ps_ret (pe_op op_sub (pe_op op_mod (pe_op op_add (pv 1) (pv 2)) (pv 0)) (pv 2))))), ?_⟩
    exact ⟨_, rfl, _, _, rfl, rfl, ⟨by decide, by decide⟩, _, rfl, _, rfl, _, _, rfl, rfl, _, rfl, _, _, rfl, rfl, hn, _, rfl, _, _, rfl, rfl, k⟩

theorem ok__offset_of (T : Txt P K mg a) : FnOk P w K mg base CX0 3 a.f__offset_of a.fd__offset_of ["sky", "attitude", "star"] (spOffOf K a.c_Sky) := by
  refine T.F__offset_of.ok sc__offset_of (fun vs H Q E h => ?_) (fun cdv A outer s H vs Q E hr h => ?_)
  · obtain ⟨p, n, st, r, b, g, l, x, y, q, sx, sy, bb, pa, ps, rfl, _⟩ := h
    rfl
  · obtain ⟨p, n, st, r, b, g, l, x, y, q, sx, sy, bb, pa, ps, rfl, hK, hn, hpa, hps, k1, k2⟩ := h
    refine ⟨_, (pss_cons (ps_set (i := 3) sc__offset_of.nd rfl (.inl rfl) (pe_tupM (pa_cons (pe_call (ok__nearest T) (hr.mono (by decide)) (by rfl) T.m__nearest T.F__nearest.kp T.b__nearest .nil pass0 (pa_cons (pe_prop (pv 0) T.cl_Sky T.p_Sky_side (ok_Sky_side T) (hr.mono (by decide)) T.b_Sky_side .nil pass0 rfl) (pa_cons (pe_op op_sub (pe_ix ix_seq (pv 2) pe_int (fun _ _ => rfl)) (pe_ix ix_seq (pv 1) pe_int (fun _ _ => rfl))) pa_nil))) (pa_cons (pe_call (ok__nearest T) (hr.mono (by decide)) (by rfl) T.m__nearest T.F__nearest.kp T.b__nearest .nil pass0 (pa_cons (pe_prop (pv 0) T.cl_Sky T.p_Sky_side (ok_Sky_side T) (hr.mono (by decide)) T.b_Sky_side .nil pass0 rfl) (pa_cons (pe_op op_sub (pe_ix ix_seq (pv 2) pe_int (fun _ _ => rfl)) (pe_ix ix_seq (pv 1) pe_int (fun _ _ => rfl))) pa_nil))) pa_nil))))
      (pss_cons (ps_asg (pe_call (ok_quarter_turned T) (hr.mono (by decide)) (by rfl) T.m_quarter_turned T.F_quarter_turned.kp T.b_quarter_turned .nil pass0 (pa_cons (pe_op op_sub pe_int (pe_ix ix_seq (pv 1) pe_int (fun _ _ => rfl))) (pa_cons (pv 3) pa_nil))) (pg_tup rfl (pgs_cons (pg_name (i := 4) sc__offset_of.nd rfl (.inl rfl)) (pgs_cons (pg_name (i := 5) sc__offset_of.nd rfl (.inl rfl)) pgs_nil))))
      (pss_cons (ps_set (i := 6) sc__offset_of.nd rfl (.inl rfl) (pe_op op_add (pe_prop (pv 0) T.cl_Sky T.p_Sky_reach (ok_Sky_reach T) (hr.mono (by decide)) T.b_Sky_reach .nil pass0 rfl) (pe_prop (pv 0) T.cl_Sky T.p_Sky_blur (ok_Sky_blur T) (hr.mono (by decide)) T.b_Sky_blur .nil pass0 rfl)))
      (pss_cons (ps_if (PW.pt (pw_or (pt_cmpR op_gt (pe_callB call_abs (by rfl) T.z_abs (by decide +kernel) (pa_cons (pv 4) pa_nil)) (pv 6) (nomark _)) (pw_or1 (pt_cmpR op_gt (pe_callB call_abs (by rfl) T.z_abs (by decide +kernel) (pa_cons (pv 5) pa_nil)) (pv 6) (nomark _))))) (pss_one (ps_ret pe_non)) pss_nil)
      (pss_one (ps_ret (pe_tupM (pa_cons (pv 4) (pa_cons (pv 5) pa_nil))))))))), ?_⟩
    obtain ⟨dx, ts, tc, h1, h2, h3⟩ := id hK
    refine ⟨.ref p, rfl, p, dx, _, rfl, h1, p, n, st, _, rfl, hK, ?_⟩
    refine ⟨.ref ps, rfl, .inr (.inl ⟨ps, _, 0, .int sx, rfl, rfl, hps, rfl, .ref pa, rfl, .inr (.inl ⟨pa, _, 0, .int x, rfl, rfl, hpa, rfl, _, _, rfl, rfl, n, sx - x, rfl, hn, ?_⟩)⟩)⟩
    refine ⟨.ref p, rfl, p, dx, _, rfl, h1, p, n, st, _, rfl, hK, ?_⟩
    refine ⟨.ref ps, rfl, .inr (.inl ⟨ps, _, 1, .int sy, rfl, rfl, hps, rfl, .ref pa, rfl, .inr (.inl ⟨pa, _, 1, .int y, rfl, rfl, hpa, rfl, _, _, rfl, rfl, n, sy - y, rfl, hn, ?_⟩)⟩)⟩
    refine ⟨(by show 2 ≤ sizeLine; decide), fun p1 H1 s1 t1 => ?_⟩
    refine ⟨.ref pa, rfl, .inr (.inl ⟨pa, _, 2, .int q, rfl, rfl, sqT_up s1 hpa, rfl, _, _, rfl, rfl, .ref p1, rfl, ?_⟩)⟩
    refine ⟨4 - q, near n (sx - x), near n (sy - y), p1, rfl, t1, fun H2 p2 s2 t2 => ?_⟩
    refine ⟨p2, _, rfl, t2, rfl, _, _, rfl, _, _, rfl, rfl, ?_⟩
    have S := s1.trans s2
    have hK2 := sky_up S hK
    have h12 := S _ _ h1
    refine ⟨.ref p, rfl, p, dx, _, rfl, h12, p, n, st, _, r, rfl, hK2, rfl, ?_⟩
    refine ⟨.ref p, rfl, p, dx, _, rfl, h12, p, n, st, _, b, rfl, hK2, rfl, ?_⟩
    refine ⟨_, _, rfl, rfl, ?_⟩
    refine ⟨_, rfl, _, rfl, _, rfl, _, _, rfl, rfl, _, rfl, ite2 (fun g1 => ?_) (fun g1 => ?_)⟩
    · have z1 : r + b < iabs (turnX (4 - q) (near n (sx - x)) (near n (sy - y))) := of_decide_eq_true g1
      exact iteT (k1 (if_pos (.inl z1)) _ S)
    refine ⟨_, rfl, _, rfl, _, rfl, _, _, rfl, rfl, _, rfl, ite2 (fun g2 => ?_) (fun g2 => ?_)⟩
    · have z2 : r + b < iabs (turnY (4 - q) (near n (sx - x)) (near n (sy - y))) := of_decide_eq_true g2
      exact k1 (if_pos (.inr z2)) _ S
    · have z1 : ¬ r + b < iabs (turnX (4 - q) (near n (sx - x)) (near n (sy - y))) := fun z => g1 (decide_eq_true z)
      have z2 : ¬ r + b < iabs (turnY (4 - q) (near n (sx - x)) (near n (sy - y))) := fun z => g2 (decide_eq_true z)
      exact ⟨_, rfl, _, rfl, (by show 2 ≤ sizeLine; decide), fun t H3 s3 tt => k2 _ _ (if_neg (fun z => z.elim z1 z2)) _ t (S.trans s3) tt⟩

theorem ok_appearances (T : Txt P K mg a) : FnOk P w K mg base CX0 4 a.f_appearances a.fd_appearances ["sky", "attitude"] (spAppX K a.c_Sky) := by
  refine T.F_appearances.ok sc_appearances (fun vs H Q E h => ?_) (fun cdv A outer s H vs Q E hr h => ?_)
  · obtain ⟨p, pa, n, ks, cam, at_, rfl, _⟩ := h
    rfl
  · obtain ⟨p, pa, n, ks, cam, at_, rfl, hK, hsky, hpa, hpose, k⟩ := h
    have hu1 : (A.deeper (envOfC "appearances" (defScope s_appearances) s.heap.objs.size a.f_appearances cdv)).units + 1 < cLine := by
      have := hr.un
      omega
    refine ⟨_, (pss_cons (ps_set (i := 2) sc_appearances.nd rfl (.inl rfl) pe_dnewK)
      (pss_cons (ps_set (i := 3) sc_appearances.nd rfl (.inl rfl) (pe_op op_sub (pe_prop (pv 0) T.cl_Sky T.p_Sky_limit (ok_Sky_limit T) (hr.mono (by decide)) T.b_Sky_limit .nil pass0 rfl) (pe_prop (pv 0) T.cl_Sky T.p_Sky_glare (ok_Sky_glare T) (hr.mono (by decide)) T.b_Sky_glare .nil pass0 rfl)))
      (pss_cons (ps_for PassesOwn.never rfl (pi_enumT (by rfl) T.z_enumerate (pe_prop (pv 0) T.cl_Sky T.p_Sky_stars (ok_Sky_stars T) (hr.mono (by decide)) T.b_Sky_stars .nil pass0 rfl)) (pg_tup rfl (pgs_cons (pg_name (i := 4) sc_appearances.nd rfl (.inl rfl)) (pgs_cons (pg_name (i := 5) sc_appearances.nd rfl (.inl rfl)) pgs_nil))) (pss_cons (ps_set (i := 6) sc_appearances.nd rfl (.inl rfl) (pe_call (ok__offset_of T) (hr.mono (by decide)) (by rfl) T.m__offset_of T.F__offset_of.kp T.b__offset_of .nil pass0 (pa_cons (pv 0) (pa_cons (pv 1) (pa_cons (pv 5) pa_nil)))))
      (pss_one (ps_if (PW.pt (pw_and (pt_cmpR op_notN (pv 6) pe_non (nomark _)) (pw_and1 (pt_cmpR op_ge (pe_ix ix_seq (pv 5) pe_int (fun _ _ => rfl)) (pv 3) (nomark _))))) (pss_one (ps_dput hu1 (pv 2) (pv 4) (pe_tup (pa_cons (pe_ix ix_seq (pv 6) pe_int (fun _ _ => rfl)) (pa_cons (pe_ix ix_seq (pv 6) pe_int (fun _ _ => rfl)) (pa_cons (pe_ix ix_seq (pv 5) pe_int (fun _ _ => rfl)) pa_nil)))) rfl)) pss_nil))))
      (pss_one (ps_ret (pv 2)))))), ?_⟩
    obtain ⟨⟨h4, h9⟩, hstars, hnd, h20, hcam⟩ := sky_parts hsky
    obtain ⟨x, y, qq, rfl, _⟩ := pose_form hpose
    obtain ⟨r, b, g, l, rfl, _⟩ := cam_form hcam
    refine fun d nd => ?_
    have s1 : Same H (upd H d (.dK [])) := same_new nd
    have ed1 : (upd H d (.dK [])) d = some (.dK (shownK [])) := upd_same
    generalize upd H d (.dK []) = H1 at s1 ed1 ⊢
    have hK1 := skyS_up s1 hK
    obtain ⟨dx, ts, tc, h1, h2, h3⟩ := id hK1.1
    refine ⟨.ref p, rfl, p, dx, _, rfl, h1, p, n, _, _, l, rfl, hK1.1, rfl, ?_⟩
    refine ⟨.ref p, rfl, p, dx, _, rfl, h1, p, n, _, _, g, rfl, hK1.1, rfl, _, _, rfl, rfl, ?_⟩
    refine ⟨.ref p, rfl, p, dx, _, rfl, h1, p, n, _, _, rfl, hK1.1, fun ts' hts => ?_⟩
    refine ⟨ts', refs ks, rfl, hts, for_it (walk_enumT (xs := refs ks)) (fun i σ H2 => ∃ (z4 z5 z6 : Option V) (zs : Shown), σ = [some (.ref p), some (.ref pa), some (.ref d), some (.int (l - g)), z4, z5, z6] ∧ Same H H2 ∧ SqT K H2 ts' (refs ks) ∧ H2 d = some (.dK (shownK zs)) ∧ ShownX H2 zs ∧ shownD zs = seenI n [r, b, g, l] [x, y, qq] 0 ((keys ks).take i))
      ⟨_, _, _, [], rfl, s1, hts, ed1, (fun z hz => by cases hz), rfl⟩ (fun i σ H2 _ ⟨_, _, _, _, _, _, e, _⟩ => e) ?_ ?_⟩
    · rintro i v σ H2 H3 hi ⟨z4, z5, z6, zs, rfl, S2, q2, e2, t2, d2⟩ ⟨Tp, x', y', rfl, nT, rfl, ex', ey'⟩
      obtain rfl : V.int (i : Int) = x' := Option.some.inj ex'
      have hi' : i < ks.length := by rw [refs_len] at hi; exact hi
      have hks : ks[i]? = some ks[i] := List.getElem?_eq_getElem hi'
      obtain rfl : V.ref ks[i].1 = y' := by
        have ey2 : (ks.map fun p : Addr × List Int => V.ref p.1)[i]? = some y' := ey'
        rw [List.getElem?_map, hks] at ey2
        exact Option.some.inj ey2
      have s3 : Same H2 (upd H2 Tp (.tup [.int i, .ref ks[i].1])) := same_new nT
      have tT : SqT K (upd H2 Tp (.tup [.int i, .ref ks[i].1])) Tp [.int i, .ref ks[i].1] := .inl (.inl upd_same)
      generalize upd H2 Tp (.tup [.int i, .ref ks[i].1]) = H3 at s3 tT ⊢
      have S3 := S2.trans s3
      have hK3 := skyS_up S3 hK
      have hkm : ks[i] ∈ ks := List.getElem_mem hi'
      have hkey : (keys ks)[i]? = some ks[i].2 := by unfold keys; rw [List.getElem?_map, hks]; rfl
      obtain ⟨sx, sy, bb, e3, _⟩ := star_form (List.all_eq_true.mp hstars ks[i].2 (List.mem_of_getElem? hkey))
      have hp3 := hK3.2 ks[i] hkm
      rw [e3] at hp3 hkey
      have step : seenI n [r, b, g, l] [x, y, qq] 0 ((keys ks).take (i + 1)) = seenI n [r, b, g, l] [x, y, qq] 0 ((keys ks).take i) ++ (match seenOne n [r, b, g, l] [x, y, qq] [sx, sy, bb] with | some d => [(((i : Nat) : Int), d)] | none => []) := by
        rw [List.take_add_one, hkey]
        show seenI n _ _ 0 ((keys ks).take i ++ [[sx, sy, bb]]) = _
        rw [seenI_push, List.length_take, keys_len, Nat.min_eq_left (Nat.le_of_lt hi'), Nat.zero_add]
        all_goals (cases seenOne n [r, b, g, l] [x, y, qq] [sx, sy, bb] <;> rfl)
      have keep : ∀ H4, Same H3 H4 → seenOne n [r, b, g, l] [x, y, qq] [sx, sy, bb] = none → ∃ (zs' : Shown), Same H H4 ∧ SqT K H4 ts' (refs ks) ∧ H4 d = some (.dK (shownK zs')) ∧ ShownX H4 zs' ∧ shownD zs' = seenI n [r, b, g, l] [x, y, qq] 0 ((keys ks).take (i + 1)) := fun H4 s4 en => by
        refine ⟨zs, S3.trans s4, sqT_up (s3.trans s4) q2, s4 _ _ (s3 _ _ e2), fun z hz => (s3.trans s4) _ _ (t2 z hz), ?_⟩
        rw [step, en, d2]
        exact (List.append_nil _).symm
      refine ⟨Tp, _, rfl, tT, rfl, _, _, rfl, _, _, rfl, rfl, ?_⟩
      refine ⟨.ref p, rfl, .ref pa, rfl, .ref ks[i].1, rfl, p, n, _, r, b, g, l, x, y, qq, sx, sy, bb, pa, ks[i].1, rfl, hK3.1, by omega, sqT_up S3 hpa, hp3, fun eo H4 s4 => ?_, fun u v eo H4 ta s4 tta => ?_⟩
      · have en : seenOne n [r, b, g, l] [x, y, qq] [sx, sy, bb] = none := by unfold seenOne; rw [eo]
        obtain ⟨zs', w1, w2, w3, w4, w5⟩ := keep H4 s4 en
        exact ⟨_, rfl, rfl, _, rfl, iteF ⟨_, _, _, zs', rfl, w1, w2, w3, w4, w5⟩⟩
      · refine ⟨_, rfl, rfl, _, rfl, iteT ⟨.ref ks[i].1, rfl, .inr (.inl ⟨ks[i].1, _, 2, .int bb, rfl, rfl, sqT_up s4 hp3, rfl, _, rfl, _, _, rfl, rfl, _, rfl, ite2 (fun hg => ?_) (fun hg => ?_)⟩)⟩⟩
        · have hb : l - g ≤ bb := of_decide_eq_true hg
          have en : seenOne n [r, b, g, l] [x, y, qq] [sx, sy, bb] = some [u, v, bb] := by unfold seenOne; rw [eo]; exact if_pos hb
          refine ⟨.ref ta, rfl, .inr (.inl ⟨ta, _, 0, .int u, rfl, rfl, tta, rfl, .ref ta, rfl, .inr (.inl ⟨ta, _, 1, .int v, rfl, rfl, tta, rfl, .ref ks[i].1, rfl, .inr (.inl ⟨ks[i].1, _, 2, .int bb, rfl, rfl, sqT_up s4 hp3, rfl, ?_⟩)⟩)⟩)⟩
          refine ⟨(by show 3 ≤ sizeLine; decide), fun tv ntv => ?_⟩
          have s5 : Same H4 (upd H4 tv (.tup [.int u, .int v, .int bb])) := same_new ntv
          have ttv : (upd H4 tv (.tup [.int u, .int v, .int bb])) tv = some (.tup [.int u, .int v, .int bb]) := upd_same
          generalize upd H4 tv (.tup [.int u, .int v, .int bb]) = H5 at s5 ttv ⊢
          have S35 := s4.trans s5
          have e5 : H5 d = some (.dK (shownK zs)) := S35 _ _ (s3 _ _ e2)
          have lt : ∀ z ∈ zs, z.1 < ((i : Nat) : Int) := fun z hz => by
            have hz' : (z.1, z.2.2) ∈ shownD zs := List.mem_map_of_mem (f := fun z : Int × Addr × List Int => (z.1, z.2.2)) hz
            rw [d2] at hz'
            have := seenI_lt _ _ _ _ _ _ hz'
            rw [List.length_take, keys_len, Nat.min_eq_left (Nat.le_of_lt hi'), Nat.zero_add] at this
            exact this
          have hln : zs.length ≤ 64 := by
            have h5 := shownD_len zs
            rw [d2] at h5
            have h6 := seenI_len n [r, b, g, l] [x, y, qq] ((keys ks).take i) 0
            rw [List.length_take, keys_len] at h6
            rw [keys_len] at h20
            omega
          refine ⟨.ref d, rfl, _, rfl, d, _, rfl, DPut.k (k := .inl ((i : Nat) : Int)) e5 (sizeN (by rw [shown_len]; omega)), ?_⟩
          rw [put_new lt]
          refine ⟨_, _, _, zs ++ [(((i : Nat) : Int), tv, [u, v, bb])], rfl, same_put nd (S3.trans S35), sqT_dk e5 (sqT_up (s3.trans S35) q2), ?_, ?_, ?_⟩
          · rw [upd_same]
            unfold shownK
            rw [List.map_append]
            rfl
          · intro z hz
            rcases List.mem_append.mp hz with hz | hz
            · exact tup_dk e5 ((s3.trans S35) _ _ (t2 z hz))
            · rw [List.mem_singleton.mp hz]
              exact tup_dk e5 ttv
          · rw [step, en, ← d2]
            unfold shownD
            rw [List.map_append]
            rfl
        · have en : seenOne n [r, b, g, l] [x, y, qq] [sx, sy, bb] = none := by unfold seenOne; rw [eo]; exact if_neg (fun z => hg (decide_eq_true z))
          obtain ⟨zs', w1, w2, w3, w4, w5⟩ := keep H4 s4 en
          exact ⟨_, _, _, zs', rfl, w1, w2, w3, w4, w5⟩
    · rintro σ H2 ⟨z4, z5, z6, zs, rfl, S2, q2, e2, t2, d2⟩
      rw [List.take_of_length_le (by rw [refs_len, keys_len]; exact Nat.le_refl _)] at d2
      exact ⟨.ref d, rfl, k H2 d zs S2 nd e2 t2 d2⟩

theorem ok_sure_among (T : Txt P K mg a) : FnOk P w K mg base CX0 3 a.f_sure_among a.fd_sure_among ["sky", "shown"] (spSure K a.c_Sky) := by
  refine T.F_sure_among.ok sc_sure_among (fun vs H Q E h => ?_) (fun cdv A outer s H vs Q E hr h => ?_)
  · obtain ⟨p, d, n, st, r, b, g, l, zs, rfl, _⟩ := h
    rfl
  · obtain ⟨p, d, n, st, r, b, g, l, zs, rfl, hK, hd, hz, h3, hlen, k⟩ := h
    refine ⟨_, (pss_cons (ps_set (i := 2) sc_sure_among.nd rfl (.inr rfl) (pe_op op_sub (pe_prop (pv 0) T.cl_Sky T.p_Sky_reach (ok_Sky_reach T) (hr.mono (by decide)) T.b_Sky_reach .nil pass0 rfl) (pe_prop (pv 0) T.cl_Sky T.p_Sky_blur (ok_Sky_blur T) (hr.mono (by decide)) T.b_Sky_blur .nil pass0 rfl)))
      (pss_cons (ps_set (i := 3) sc_sure_among.nd rfl (.inr rfl) (pe_op op_add (pe_prop (pv 0) T.cl_Sky T.p_Sky_limit (ok_Sky_limit T) (hr.mono (by decide)) T.b_Sky_limit .nil pass0 rfl) (pe_prop (pv 0) T.cl_Sky T.p_Sky_glare (ok_Sky_glare T) (hr.mono (by decide)) T.b_Sky_glare .nil pass0 rfl)))
      (pss_one (ps_ret (pe_lock (pe_lc (g := gTup K 2 (gCons (gName 4) (gCons (gTup K 3 (gCons (gName 5) (gCons (gName 6) (gCons (gName 7) gNil)))) gNil))) (own := [("number", 4), ("dx", 5), ("dy", 6), ("brightness", 7)]) rfl sc_sure_among.nd (pi_items (pv 1)) (blkOk_by (own := [("number", 4), ("dx", 5), ("dy", 6), ("brightness", 7)]) (N := ["sky", "shown", "bound", "faintest", "number", "dx", "dy", "brightness"]) (sc := defScope s_sure_among) (by decide +kernel)) (fun _ _ _ _ _ => (pg_tup rfl (pgs_cons (pg_name (i := 4) sc_sure_among.nd rfl (.inl rfl)) (pgs_cons (pg_tup rfl (pgs_cons (pg_name (i := 5) sc_sure_among.nd rfl (.inl rfl)) (pgs_cons (pg_name (i := 6) sc_sure_among.nd rfl (.inl rfl)) (pgs_cons (pg_name (i := 7) sc_sure_among.nd rfl (.inl rfl)) pgs_nil)))) pgs_nil)))) (fun _ _ _ _ _ => (pts_one (PW.pt (pw_and (pt_cmpR op_le (pe_callB call_abs (by rfl) T.z_abs (by decide +kernel) (pa_cons (pv 5) pa_nil)) (pv 2) (nomark _)) (pw_and (pt_cmpR op_le (pe_callB call_abs (by rfl) T.z_abs (by decide +kernel) (pa_cons (pv 6) pa_nil)) (pv 2) (nomark _)) (pw_and1 (pt_cmpR op_ge (pv 7) (pv 3) (nomark _)))))))) (fun _ _ _ _ _ => (pv 4)))))))), ?_⟩
    obtain ⟨dx, ts, tc, h1, h2, h3'⟩ := id hK
    refine ⟨.ref p, rfl, p, dx, _, rfl, h1, p, n, _, _, r, rfl, hK, rfl, ?_⟩
    refine ⟨.ref p, rfl, p, dx, _, rfl, h1, p, n, _, _, b, rfl, hK, rfl, _, _, rfl, rfl, ?_⟩
    refine ⟨.ref p, rfl, p, dx, _, rfl, h1, p, n, _, _, l, rfl, hK, rfl, ?_⟩
    refine ⟨.ref p, rfl, p, dx, _, rfl, h1, p, n, _, _, g, rfl, hK, rfl, _, _, rfl, rfl, ?_⟩
    refine ⟨d, _, hd, trivial, fun od => ?_⟩
    have ed0 : (upd H d (.frz od (.dK (shownK zs)))) d = some (.frz od (.dK (shownK zs))) := upd_same
    have k0 : ∀ q o, q ≠ d → H q = some o → (upd H d (.frz od (.dK (shownK zs)))) q = some o := fun q o hq e => by rw [upd_ne hq]; exact e
    have z0 : ShownAt K (upd H d (.frz od (.dK (shownK zs)))) zs := fun z hz' => sqT_dk hd (hz z hz')
    generalize upd H d (.frz od (.dK (shownK zs))) = H0 at ed0 k0 z0 ⊢
    refine ⟨.ref d, rfl, d, od, shownK zs, rfl, ed0, fun D nD => lc_it walk_items (fun i H2 => Same H0 H2 ∧ H2 D = some (.lst ((sureI r b g l (shownD (zs.take i))).map V.int))) ⟨same_new nD, upd_same⟩ (fun i H2 _ ⟨s2, _⟩ => s2 _ _ ed0) ?_ ?_⟩
    · rintro i v H2 H3 hi ⟨S2, e2⟩ ⟨Tp, x', y', rfl, nT, rfl, ex, ey⟩
      have hi' : i < zs.length := by rw [shown_len] at hi; exact hi
      have hzs : (shownK zs)[i]? = some (Sum.inl zs[i].1, V.ref zs[i].2.1) := by
        unfold shownK
        rw [List.getElem?_map, List.getElem?_eq_getElem hi']
        rfl
      have ex2 : ((shownK zs)[i]?).map (fun kv => kV kv.1) = some x' := ex
      have ey2 : ((shownK zs)[i]?).map Prod.snd = some y' := ey
      rw [hzs] at ex2 ey2
      obtain rfl : V.int zs[i].1 = x' := Option.some.inj ex2
      obtain rfl : V.ref zs[i].2.1 = y' := Option.some.inj ey2
      have s3 : Same H2 (upd H2 Tp (.tup [.int zs[i].1, .ref zs[i].2.1])) := same_new nT
      have tT : SqT K (upd H2 Tp (.tup [.int zs[i].1, .ref zs[i].2.1])) Tp [.int zs[i].1, .ref zs[i].2.1] := .inl (.inl upd_same)
      generalize upd H2 Tp (.tup [.int zs[i].1, .ref zs[i].2.1]) = H3 at s3 tT ⊢
      have hzm : zs[i] ∈ zs := List.getElem_mem hi'
      obtain ⟨u, v, c, e3⟩ := of3 (show ((zs[i].2.2.length : Nat) : Int) = 3 by rw [h3 _ hzm]; rfl)
      have hz3 : SqT K H3 zs[i].2.1 (zs[i].2.2.map V.int) := sqT_up (S2.trans s3) (z0 _ hzm)
      rw [e3] at hz3
      have e3' := s3 _ _ e2
      have stp : shownD (zs.take (i + 1)) = shownD (zs.take i) ++ [(zs[i].1, [u, v, c])] := by
        rw [List.take_add_one, List.getElem?_eq_getElem hi']
        unfold shownD
        rw [List.map_append, ← e3]
        rfl
      have no : isSure r b g l [u, v, c] = false → sureI r b g l (shownD (zs.take (i + 1))) = sureI r b g l (shownD (zs.take i)) := fun e => by
        rw [stp]
        unfold sureI
        rw [List.filter_append, List.filter_cons_of_neg (by show ¬ isSure r b g l [u, v, c] = true; rw [e]; decide), List.filter_nil, List.append_nil]
      have stay : isSure r b g l [u, v, c] = false → Same H0 H3 ∧ H3 D = some (.lst ((sureI r b g l (shownD (zs.take (i + 1)))).map V.int)) := fun e => by
        rw [no e]
        exact ⟨S2.trans s3, e3'⟩
      refine ⟨Tp, _, rfl, tT, rfl, _, _, rfl, _, _, rfl, ?_⟩
      refine ⟨zs[i].2.1, _, rfl, hz3, rfl, _, _, rfl, _, _, rfl, _, _, rfl, rfl, rfl, rfl, ?_⟩
      refine ⟨_, rfl, u, rfl, _, rfl, _, _, rfl, rfl, _, rfl, ite2 (fun g1 => ?_) (fun g1 => ?_)⟩
      · refine ⟨_, rfl, v, rfl, _, rfl, _, _, rfl, rfl, _, rfl, ite2 (fun g2 => ?_) (fun g2 => ?_)⟩
        · refine ⟨_, rfl, _, rfl, _, _, rfl, rfl, _, rfl, ite2 (fun g3 => ?_) (fun g3 => ?_)⟩
          · have e : isSure r b g l [u, v, c] = true := by
              show (decide (iabs u ≤ r - b) && decide (iabs v ≤ r - b) && decide (l + g ≤ c)) = true
              rw [show decide (iabs u ≤ r - b) = true from g1, show decide (iabs v ≤ r - b) = true from g2, show decide (l + g ≤ c) = true from g3]
              rfl
            have ad : sureI r b g l (shownD (zs.take (i + 1))) = sureI r b g l (shownD (zs.take i)) ++ [zs[i].1] := by
              rw [stp]
              unfold sureI
              rw [List.filter_append, List.filter_cons_of_pos (by show isSure r b g l [u, v, c] = true; exact e), List.filter_nil, List.map_append]
              rfl
            have ln : (sureI r b g l (shownD (zs.take i))).length ≤ 64 := by
              unfold sureI
              rw [List.length_map]
              have h5 := List.length_filter_le (fun z : Int × List Int => isSure r b g l z.2) (shownD (zs.take i))
              rw [shownD_len, List.length_take] at h5
              omega
            refine ⟨_, rfl, _, e3', sizeN (by rw [List.length_map]; omega), same_put nD (S2.trans s3), ?_⟩
            rw [upd_same, ad, map_push]
          · refine stay ?_
            show (decide (iabs u ≤ r - b) && decide (iabs v ≤ r - b) && decide (l + g ≤ c)) = false
            rw [show decide (l + g ≤ c) = false from decide_eq_false (fun z => g3 (decide_eq_true z)), Bool.and_false]
        · refine iteF (stay ?_)
          show (decide (iabs u ≤ r - b) && decide (iabs v ≤ r - b) && decide (l + g ≤ c)) = false
          rw [show decide (iabs v ≤ r - b) = false from decide_eq_false (fun z => g2 (decide_eq_true z)), Bool.and_false]
          rfl
      · refine iteF (stay ?_)
        show (decide (iabs u ≤ r - b) && decide (iabs v ≤ r - b) && decide (l + g ≤ c)) = false
        rw [show decide (iabs u ≤ r - b) = false from decide_eq_false (fun z => g1 (decide_eq_true z))]
        rfl
    · rintro H2 ⟨S2, e2⟩
      rw [List.take_of_length_le (by rw [shown_len]; exact Nat.le_refl _)] at e2
      have hDd : D ≠ d := fun z => by rw [z, ed0] at nD; cases nD
      refine ⟨S2 _ _ ed0, k _ D (fun q o hq => ?_) (by
        cases e : H D with
        | none => rfl
        | some o => rw [k0 D o hDd e] at nD; cases nD) (by rw [upd_ne hDd]; exact e2)⟩
      by_cases hqd : q = d
      · rw [hqd, upd_same, ← hd, ← hqd]
        exact hq
      · rw [upd_ne hqd]
        exact S2 _ _ (k0 q o hqd hq)

theorem ok_are_near (T : Txt P K mg a) : FnOk P w K mg base CX0 1 a.f_are_near a.fd_are_near ["one", "other", "blur", "glare"] (spNear3 K) := by
  refine T.F_are_near.ok sc_are_near (fun vs H Q E h => ?_) (fun cdv A outer s H vs Q E hr h => ?_)
  · obtain ⟨p, q, x, y, c, u, v, d, b, g, rfl, _⟩ := h
    rfl
  · obtain ⟨p, q, x, y, c, u, v, d, b, g, rfl, hp, hq, k⟩ := h
    refine ⟨_, (pss_one (ps_ret (pe_and (pe_cmpR op_le (pe_callB call_abs (by rfl) T.z_abs (by decide +kernel) (pa_cons (pe_op op_sub (pe_ix ix_seq (pv 0) pe_int (fun _ _ => rfl)) (pe_ix ix_seq (pv 1) pe_int (fun _ _ => rfl))) pa_nil)) (pv 2) (nomark _)) (pe_and (pe_cmpR op_le (pe_callB call_abs (by rfl) T.z_abs (by decide +kernel) (pa_cons (pe_op op_sub (pe_ix ix_seq (pv 0) pe_int (fun _ _ => rfl)) (pe_ix ix_seq (pv 1) pe_int (fun _ _ => rfl))) pa_nil)) (pv 2) (nomark _)) (pe_one (pe_cmpR op_le (pe_callB call_abs (by rfl) T.z_abs (by decide +kernel) (pa_cons (pe_op op_sub (pe_ix ix_seq (pv 0) pe_int (fun _ _ => rfl)) (pe_ix ix_seq (pv 1) pe_int (fun _ _ => rfl))) pa_nil)) (pv 3) (nomark _))))))), ?_⟩
    have fin : ∀ b' : Bool, nearC b g [x, y, c] [u, v, d] = b' → Q (.bl b') H := fun b' e => e ▸ k
    have F : (¬ (iabs (x - u) ≤ b ∧ iabs (y - v) ≤ b ∧ iabs (c - d) ≤ g)) → Q (.bl false) H := fun z => fin _ (decide_eq_false z)
    refine ⟨.ref p, rfl, .inr (.inl ⟨p, _, 0, .int x, rfl, rfl, hp, rfl, .ref q, rfl, .inr (.inl ⟨q, _, 0, .int u, rfl, rfl, hq, rfl, _, _, rfl, rfl, _, rfl, _, rfl, _, _, rfl, rfl, _, rfl, ite2 (fun g1 => ?_) (fun g1 => F fun z => g1 (decide_eq_true z.1))⟩)⟩)⟩
    refine ⟨.ref p, rfl, .inr (.inl ⟨p, _, 1, .int y, rfl, rfl, hp, rfl, .ref q, rfl, .inr (.inl ⟨q, _, 1, .int v, rfl, rfl, hq, rfl, _, _, rfl, rfl, _, rfl, _, rfl, _, _, rfl, rfl, _, rfl, ite2 (fun g2 => ?_) (fun g2 => F fun z => g2 (decide_eq_true z.2.1))⟩)⟩)⟩
    refine ⟨.ref p, rfl, .inr (.inl ⟨p, _, 2, .int c, rfl, rfl, hp, rfl, .ref q, rfl, .inr (.inl ⟨q, _, 2, .int d, rfl, rfl, hq, rfl, _, _, rfl, rfl, _, rfl, _, rfl, _, _, rfl, rfl, fin _ ?_⟩)⟩)⟩
    show decide _ = decide (iabs (c - d) ≤ g)
    have a1 : iabs (x - u) ≤ b := of_decide_eq_true g1
    have a2 : iabs (y - v) ≤ b := of_decide_eq_true g2
    by_cases z : iabs (c - d) ≤ g
    · rw [decide_eq_true z, decide_eq_true ⟨a1, a2, z⟩]
    · rw [decide_eq_false z, decide_eq_false (fun w => z w.2.2)]

theorem ok_Framex_initx (T : Txt P K mg a) : FnOk P w K mg base CX0 1 a.f_Framex_initx a.fd_Framex_initx ["self", "sky", "sighting"] (spFrInit K a.c_Sky a.c_Frame) := by
  refine T.F_Framex_initx.ok sc_Framex_initx (fun vs H Q E h => ?_) (fun cdv A outer s H vs Q E hr h => ?_)
  · obtain ⟨x, dx, p, st, n, ks, ss, cam, rfl, _⟩ := h
    rfl
  · obtain ⟨x, dx, p, st, n, ks, ss, cam, rfl, hx, hK, hst, hss, k⟩ := h
    refine ⟨_, (pss_cons (ps_fld (pv 0) (pv 1) rfl)
      (pss_cons (ps_fld (pv 0) (pv 2) rfl)
      (pss_cons (ps_fld (pv 0) pe_dnewT rfl)
      (pss_one (ps_fld (pv 0) pe_dnewT rfl))))), ?_⟩
    refine ⟨.ref p, rfl, .ref x, rfl, x, a.c_Frame, dx, [], rfl, hx, T.cl_Frame, T.n_Frame__sky, (by show 0 < 1000; decide), ?_⟩
    generalize e1 : upd H x (.ins a.c_Frame dx (putF "_sky" (.ref p) [])) = H1
    have hx1 : H1 x = some (.ins a.c_Frame dx (putF "_sky" (.ref p) [])) := by rw [← e1]; exact upd_same
    have s01 : ∀ b o, H b = some o → b ≠ x → H1 b = some o := fun b o hb hn => by rw [← e1, upd_ne hn]; exact hb
    refine ⟨.ref st, rfl, .ref x, rfl, x, a.c_Frame, dx, _, rfl, hx1, T.cl_Frame, T.n_Frame__sighting, (by show 1 < 1000; decide), ?_⟩
    generalize e2 : upd H1 x (.ins a.c_Frame dx (putF "_sighting" (.ref st) (putF "_sky" (.ref p) []))) = H2
    have hx2 : H2 x = some (.ins a.c_Frame dx (putF "_sighting" (.ref st) (putF "_sky" (.ref p) []))) := by rw [← e2]; exact upd_same
    have s02 : ∀ b o, H b = some o → b ≠ x → H2 b = some o := fun b o hb hn => by rw [← e2, upd_ne hn]; exact s01 b o hb hn
    refine fun df ndf => ?_
    have hdx : df ≠ x := fun e => by rw [e, hx2] at ndf; cases ndf
    have hx3 : (upd H2 df (.dT [])) x = some (.ins a.c_Frame dx (putF "_sighting" (.ref st) (putF "_sky" (.ref p) []))) := by rw [upd_ne (Ne.symm hdx)]; exact hx2
    have ed3 : (upd H2 df (.dT [])) df = some (.dT []) := upd_same
    have s03 : ∀ b o, H b = some o → b ≠ x → (upd H2 df (.dT [])) b = some o := fun b o hb hn => same_new ndf b o (s02 b o hb hn)
    generalize upd H2 df (.dT []) = H3 at hx3 ed3 s03 ⊢
    have l2 := putF_len "_sighting" (.ref st) (putF "_sky" (.ref p) [])
    have l1 := putF_len "_sky" (.ref p) []
    refine ⟨.ref x, rfl, x, a.c_Frame, dx, _, rfl, hx3, T.cl_Frame, T.n_Frame__fitting, Nat.lt_of_le_of_lt l2 (by show _ < 1000; exact Nat.lt_of_le_of_lt (Nat.succ_le_succ l1) (by decide)), ?_⟩
    generalize e4 : upd H3 x (.ins a.c_Frame dx (putF "_fitting" (.ref df) (putF "_sighting" (.ref st) (putF "_sky" (.ref p) [])))) = H4
    have hx4 : H4 x = some (.ins a.c_Frame dx (putF "_fitting" (.ref df) (putF "_sighting" (.ref st) (putF "_sky" (.ref p) [])))) := by rw [← e4]; exact upd_same
    have ed4 : H4 df = some (.dT []) := by rw [← e4, upd_ne hdx]; exact ed3
    have s04 : ∀ b o, H b = some o → b ≠ x → H4 b = some o := fun b o hb hn => by rw [← e4, upd_ne hn]; exact s03 b o hb hn
    refine fun dn ndn => ?_
    have hnx : dn ≠ x := fun e => by rw [e, hx4] at ndn; cases ndn
    have hnd : df ≠ dn := fun e => by rw [← e, ed4] at ndn; cases ndn
    have hx5 : (upd H4 dn (.dT [])) x = some (.ins a.c_Frame dx (putF "_fitting" (.ref df) (putF "_sighting" (.ref st) (putF "_sky" (.ref p) [])))) := by rw [upd_ne (Ne.symm hnx)]; exact hx4
    have ed5 : (upd H4 dn (.dT [])) df = some (.dT []) := by rw [upd_ne hnd]; exact ed4
    have en5 : (upd H4 dn (.dT [])) dn = some (.dT []) := upd_same
    have s05 : ∀ b o, H b = some o → b ≠ x → (upd H4 dn (.dT [])) b = some o := fun b o hb hn => same_new ndn b o (s04 b o hb hn)
    generalize upd H4 dn (.dT []) = H5 at hx5 ed5 en5 s05 ⊢
    have l3 := putF_len "_fitting" (.ref df) (putF "_sighting" (.ref st) (putF "_sky" (.ref p) []))
    refine ⟨.ref x, rfl, x, a.c_Frame, dx, _, rfl, hx5, T.cl_Frame, T.n_Frame__needs, Nat.lt_of_le_of_lt l3 (Nat.lt_of_le_of_lt (Nat.succ_le_succ l2) (Nat.lt_of_le_of_lt (Nat.succ_le_succ (Nat.succ_le_succ l1)) (by decide))), ?_⟩
    have s06 : ∀ b o, H b = some o → b ≠ x → (upd H5 x (.ins a.c_Frame dx (putF "_needs" (.ref dn) (putF "_fitting" (.ref df) (putF "_sighting" (.ref st) (putF "_sky" (.ref p) [])))))) b = some o := fun b o hb hn => by rw [upd_ne hn]; exact s05 b o hb hn
    have tq : ∀ {q : Addr} {xs : List V}, SqT K H q xs → SqT K (upd H5 x (.ins a.c_Frame dx (putF "_needs" (.ref dn) (putF "_fitting" (.ref df) (putF "_sighting" (.ref st) (putF "_sky" (.ref p) [])))))) q xs := fun h => by
      rcases h with (h | ⟨u, h⟩) | h
      · exact .inl (.inl (s06 _ _ h fun e => by rw [e, hx] at h; cases h))
      · exact .inl (.inr ⟨u, s06 _ _ h fun e => by rw [e, hx] at h; cases h⟩)
      · exact .inr h
    refine k _ df dn ⟨⟨dx, upd_same⟩, ?_, tq hst, fun q hq => tq (hss q hq), by rw [upd_ne hdx]; exact ed5, by rw [upd_ne hnx]; exact en5, hnd, (fun b g _ e he => by cases he), (fun e he => by cases he)⟩ s06 (fun o e => ?_) (fun o e => ?_) hdx hnx
    rotate_left
    · by_cases z : df = x
      · exact z
      · have := s02 _ _ e z
        rw [ndf] at this
        cases this
    · by_cases z : dn = x
      · exact z
      · have := s04 _ _ e z
        rw [ndn] at this
        cases this
    obtain ⟨⟨dy, ts, tc, q1, q2, q3⟩, q4⟩ := hK
    by_cases hpx : p = x
    · rw [hpx, hx] at q1
      injection q1 with q1
      injection q1 with _ _ q1
      exact absurd q1.symm (by unfold skyF; intro e; have := congrArg List.length e; revert this; cases (putF "_stars" (V.ref ts) (putF "_side" (.int n) [])) with
        | nil => intro h; cases h
        | cons z r => intro h; unfold putF at h; split at h <;> cases h)
    · exact ⟨⟨dy, ts, tc, s06 _ _ q1 hpx, tq q2, tq q3⟩, fun q hq => tq (q4 q hq)⟩

theorem ok_Frame_spots (T : Txt P K mg a) : FnOk P w K mg base CX0 1 a.f_Frame_spots a.fd_Frame_spots ["self"] (spFrSpots K a.c_Sky a.c_Frame) := by
  refine T.F_Frame_spots.ok sc_Frame_spots (fun vs H Q E h => ?_) (fun cdv A outer s H vs Q E hr h => ?_)
  · obtain ⟨x, p, st, df, dn, n, ks, ss, cam, F, N, rfl, _⟩ := h
    rfl
  · obtain ⟨x, p, st, df, dn, n, ks, ss, cam, F, N, rfl, hF, h64, k⟩ := h
    refine ⟨_, (pss_one (ps_ret (pe_listRng rfl (by rfl) T.z_list (by rfl) T.z_range (pe_callB call_len_seq (by rfl) T.z_len (by decide +kernel) (pa_cons (pe_fld (pv 0) rfl) pa_nil))))), ?_⟩
    obtain ⟨dxf, hx⟩ := hF.ins
    refine ⟨.ref x, rfl, x, a.c_Frame, dxf, _, _, rfl, hx, T.cl_Frame, T.n_Frame__sighting, frF_sight p st df dn, st, _, rfl, .inr hF.hst, _, rfl, by rw [refs_len]; omega, fun l hl => ?_⟩
    refine k _ l (same_new hl) ?_
    rw [upd_same, refs_len, List.map_map]
    rfl

theorem ok_Framexspots_near (T : Txt P K mg a) : FnOk P w K mg base CX0 3 a.f_Framexspots_near a.fd_Framexspots_near ["self", "look"] (spNearTo K a.c_Sky a.c_Frame) := by
  refine T.F_Framexspots_near.ok sc_Framexspots_near (fun vs H Q E h => ?_) (fun cdv A outer s H vs Q E hr h => ?_)
  · obtain ⟨x, lo, p, st, df, dn, n, r, b, g, l, ks, ss, F, N, d, rfl, _⟩ := h
    rfl
  · obtain ⟨x, lo, p, st, df, dn, n, r, b, g, l, ks, ss, F, N, d, rfl, hF, hlo, hd3, h3, h64, hFl, k⟩ := h
    have hu1 : (A.deeper (envOfC "Frame._spots_near" (defScope s_Framexspots_near) s.heap.objs.size a.f_Framexspots_near cdv)).units + 1 < cLine := by
      have := hr.un
      omega
    refine ⟨_, (C8.pss_cut (ps_if (pt_cmp (pc_dnotin hu1 (pv 1) (pe_fld (pv 0) rfl))) (pss_cons (ps_asg (pe_tupM (pa_cons (pe_prop (pe_fld (pv 0) rfl) T.cl_Sky T.p_Sky_blur (ok_Sky_blur T) (hr.mono (by decide)) T.b_Sky_blur .nil pass0 rfl) (pa_cons (pe_prop (pe_fld (pv 0) rfl) T.cl_Sky T.p_Sky_glare (ok_Sky_glare T) (hr.mono (by decide)) T.b_Sky_glare .nil pass0 rfl) pa_nil))) (pg_tup rfl (pgs_cons (pg_name (i := 2) sc_Framexspots_near.nd rfl (.inr rfl)) (pgs_cons (pg_name (i := 3) sc_Framexspots_near.nd rfl (.inr rfl)) pgs_nil))))
      (pss_one (ps_dput hu1 (pe_fld (pv 0) rfl) (pv 1) (pe_lc (g := gTup K 2 (gCons (gName 4) (gCons (gName 5) gNil))) (own := [("number", 4), ("spot", 5)]) rfl sc_Framexspots_near.nd (pi_enumT (by rfl) T.z_enumerate (pe_fld (pv 0) rfl)) (blkOk_by (own := [("number", 4), ("spot", 5)]) (N := ["self", "look", "blur", "glare", "number", "spot"]) (sc := defScope s_Framexspots_near) (by decide +kernel)) (fun _ _ _ _ _ => (pg_tup rfl (pgs_cons (pg_name (i := 4) sc_Framexspots_near.nd rfl (.inl rfl)) (pgs_cons (pg_name (i := 5) sc_Framexspots_near.nd rfl (.inl rfl)) pgs_nil)))) (fun _ _ _ _ _ => (pts_one (pt_val (pe_call (ok_are_near T) (hr.mono (by decide)) (by rfl) T.m_are_near T.F_are_near.kp T.b_are_near .nil pass0 (pa_cons (pv 1) (pa_cons (pv 5) (pa_cons (pv 2) (pa_cons (pv 3) pa_nil)))))))) (fun _ _ _ _ _ => (pv 4))) rfl))) pss_nil)
      (pss_one (ps_ret (pe_dget hu1 (pe_fld (pv 0) rfl) (pv 1) (fun _ _ => rfl))))), ?_⟩
    obtain ⟨dxf, hx⟩ := hF.ins
    obtain ⟨dx, ts, tc, q1, q2, q3⟩ := id hF.sky.1
    have hkey : (d.map (Sum.inl : Int → L2.Key)).map kV = d.map V.int := kmap d
    have hlo' : H lo = some (.tup ((d.map (Sum.inl : Int → L2.Key)).map kV)) := by rw [hkey]; exact hlo
    refine ⟨fun σ H' => ∃ (z2 z3 z4 z5 : Option V) (F' : DT) (li : Addr), σ = [some (.ref x), some (.ref lo), z2, z3, z4, z5] ∧ Same2 df dn H H' ∧ FrAt K a.c_Sky a.c_Frame H' x p st df dn n ks [r, b, g, l] ss F' N ∧ F'.length ≤ F.length + 1 ∧ valV F' (d.map Sum.inl) = some (.ref li) ∧ H' li = some (.lst ((nearK b g (keys ss) d).map V.int)), ?_, ?_⟩
    · refine ⟨.ref lo, rfl, .ref x, rfl, x, a.c_Frame, dxf, _, _, rfl, hx, T.cl_Frame, T.n_Frame__fitting, frF_fit p st df dn, df, _, rfl, DGet.t hF.ef hlo', ?_⟩
      cases hv : valV F (d.map (Sum.inl : Int → L2.Key)) with
      | some v =>
        obtain ⟨d', li, e1, e2⟩ := hF.fit b g rfl _ (val_mem hv)
        injection e1 with e1 e3
        have := inl_map e1
        subst this e3
        exact ⟨_, rfl, iteF ⟨_, _, _, _, F, li, rfl, same2_refl _ _ _, hF, Nat.le_succ _, hv, e2⟩⟩
      | none =>
        refine ⟨_, rfl, iteT ?_⟩
        refine ⟨.ref x, rfl, x, a.c_Frame, dxf, _, _, rfl, hx, T.cl_Frame, T.n_Frame__sky, frF_sky p st df dn, p, dx, _, rfl, q1, p, n, _, _, b, rfl, hF.sky.1, rfl, ?_⟩
        refine ⟨.ref x, rfl, x, a.c_Frame, dxf, _, _, rfl, hx, T.cl_Frame, T.n_Frame__sky, frF_sky p st df dn, p, dx, _, rfl, q1, p, n, _, _, g, rfl, hF.sky.1, rfl, ?_⟩
        refine ⟨(by show 2 ≤ sizeLine; decide), fun t H1 s1 tt => ?_⟩
        refine ⟨t, _, rfl, tt, rfl, _, _, rfl, _, _, rfl, rfl, ?_⟩
        have F1 := frAt_up s1 hF
        obtain ⟨dxf1, hx1⟩ := F1.ins
        obtain ⟨u, v, c, rfl⟩ := of3 (show ((d.length : Nat) : Int) = 3 by rw [hd3]; rfl)
        refine ⟨.ref x, rfl, x, a.c_Frame, dxf1, _, _, rfl, hx1, T.cl_Frame, T.n_Frame__sighting, frF_sight p st df dn, st, refs ss, rfl, F1.hst, fun D nD => lc_it (walk_enumT (xs := refs ss)) (fun i Hc => Same H1 Hc ∧ Hc D = some (.lst ((((List.range i).filter fun k => match (keys ss)[k]? with | some s => nearC b g [u, v, c] s | none => false).map Int.ofNat).map V.int))) ⟨same_new nD, upd_same⟩ (fun i Hc _ ⟨s', _⟩ => sqT_up s' F1.hst) ?_ ?_⟩
        · rintro i w' Ha Hb hi ⟨Sc, ec⟩ ⟨Tp, x', y', rfl, nT, rfl, ex', ey'⟩
          obtain rfl : V.int (i : Int) = x' := Option.some.inj ex'
          have hi' : i < ss.length := by rw [refs_len] at hi; exact hi
          have hsi : ss[i]? = some ss[i] := List.getElem?_eq_getElem hi'
          obtain rfl : V.ref ss[i].1 = y' := by
            have ey2 : (ss.map fun p : Addr × List Int => V.ref p.1)[i]? = some y' := ey'
            rw [List.getElem?_map, hsi] at ey2
            exact Option.some.inj ey2
          have s3 : Same Ha (upd Ha Tp (.tup [.int i, .ref ss[i].1])) := same_new nT
          have tT : SqT K (upd Ha Tp (.tup [.int i, .ref ss[i].1])) Tp [.int i, .ref ss[i].1] := .inl (.inl upd_same)
          generalize upd Ha Tp (.tup [.int i, .ref ss[i].1]) = Hb at s3 tT ⊢
          have Sb := Sc.trans s3
          have eb := s3 _ _ ec
          have hks : (keys ss)[i]? = some ss[i].2 := by unfold keys; rw [List.getElem?_map, hsi]; rfl
          obtain ⟨p', q', w, e3⟩ := of3 (show ((ss[i].2.length : Nat) : Int) = 3 by rw [h3 _ (List.mem_of_getElem? hks)]; rfl)
          have tsi := sqT_up Sb (F1.hss ss[i] (List.mem_of_getElem? hsi))
          rw [e3] at tsi hks
          refine ⟨Tp, _, rfl, tT, rfl, _, _, rfl, _, _, rfl, rfl, rfl, ?_⟩
          refine ⟨.ref lo, rfl, .ref ss[i].1, rfl, .int b, rfl, .int g, rfl, lo, ss[i].1, u, v, c, p', q', w, b, g, rfl, .inl (.inl (Sb _ _ (s1 _ _ hlo))), tsi, ?_⟩
          refine ⟨_, rfl, ?_⟩
          rw [List.range_succ, List.filter_append]
          refine ite2 (fun gg => ?_) (fun gg => ?_)
          · refine ⟨_, rfl, _, eb, sizeN ?_, same_put nD Sb, ?_⟩
            · rw [List.length_map, List.length_map]
              have := List.length_filter_le (fun k => match (keys ss)[k]? with | some s => nearC b g [u, v, c] s | none => false) (List.range i)
              rw [List.length_range] at this
              omega
            · rw [upd_same, List.filter_cons_of_pos (by show (match (keys ss)[i]? with | some s => nearC b g [u, v, c] s | none => false) = true; rw [hks]; exact gg), List.filter_nil, List.map_append, List.map_append]
              rfl
          · refine ⟨Sb, ?_⟩
            rw [List.filter_cons_of_neg (by show ¬ (match (keys ss)[i]? with | some s => nearC b g [u, v, c] s | none => false) = true; rw [hks]; exact gg), List.filter_nil, List.append_nil]
            exact eb
        rintro H2 ⟨s2, e2⟩
        have F2 := frAt_up s2 F1
        obtain ⟨dxf2, hx2⟩ := F2.ins
        rw [refs_len, ← keys_len ss] at e2
        have hlo2 := s2 _ _ (s1 _ _ hlo')
        refine ⟨.ref x, rfl, x, a.c_Frame, dxf2, _, _, rfl, hx2, T.cl_Frame, T.n_Frame__fitting, frF_fit p st df dn, .ref lo, rfl, df, _, rfl, DPut.t F2.ef hlo2 (Nat.lt_of_le_of_lt hFl (by decide)), ?_⟩
        have hp := val_put (v := V.ref D) hv
        have hDd : D ≠ df := fun e => by rw [e, F2.ef] at e2; cases e2
        refine ⟨_, _, _, _, putK F _ (.ref D), D, rfl, (same2_of (s1.trans s2)).trans same2_fst, frAt_put F2 e2 hv, by rw [hp.1, List.length_append]; exact Nat.le_refl _, hp.2, by rw [upd_ne hDd]; exact e2⟩
    · rintro σ1 H1 ⟨z2, z3, z4, z5, F', li, rfl, s1, F1, l1, hv, el⟩
      obtain ⟨dxf1, hx1⟩ := F1.ins
      have hlo1 : H1 lo = some (.tup ((d.map (Sum.inl : Int → L2.Key)).map kV)) := at2 s1 hF.ef hF.en hlo' fun _ e => by cases e
      refine ⟨.ref x, rfl, x, a.c_Frame, dxf1, _, _, rfl, hx1, T.cl_Frame, T.n_Frame__fitting, frF_fit p st df dn, .ref lo, rfl, df, _, rfl, by have := DGet.t F1.ef hlo1; rw [hv] at this; exact this, ?_⟩
      exact k H1 li F' s1 F1 el l1

theorem ok_Frame_table_and_sure (T : Txt P K mg a) : FnOk P w K mg base CX0 5 a.f_Frame_table_and_sure a.fd_Frame_table_and_sure ["self", "attitude"] (spTabSure K a.c_Sky a.c_Frame) := by
  refine T.F_Frame_table_and_sure.ok sc_Frame_table_and_sure (fun vs H Q E h => ?_) (fun cdv A outer s H vs Q E hr h => ?_)
  · obtain ⟨x, pa, p, st, df, dn, n, ks, ss, cam, at_, F, N, rfl, _⟩ := h
    rfl
  · obtain ⟨x, pa, p, st, df, dn, n, ks, ss, cam, at_, F, N, rfl, hF, hsky, hpa, hpose, h3, h64, hFl, k⟩ := h
    refine ⟨_, (pss_cons (ps_set (i := 2) sc_Frame_table_and_sure.nd rfl (.inl rfl) (pe_call (ok_appearances T) (hr.mono (by decide)) (by rfl) T.m_appearances T.F_appearances.kp T.b_appearances .nil pass0 (pa_cons (pe_fld (pv 0) rfl) (pa_cons (pv 1) pa_nil))))
      (pss_cons (ps_setLc (i := 3) rfl sc_Frame_table_and_sure.nd rfl rfl (sw_true rfl rfl rfl (by decide +kernel)) (g := gName 6) (tt := tYes) (own := [("_", 6)]) (pi_tup (pe_prop (pe_fld (pv 0) rfl) T.cl_Sky T.p_Sky_stars (ok_Sky_stars T) (hr.mono (by decide)) T.b_Sky_stars .nil pass0 rfl)) (blkOk_by (own := [("_", 6)]) (N := ["self", "attitude", "shown", "table", "number", "look", "_"]) (sc := defScope s_Frame_table_and_sure) (by decide +kernel)) (fun _ _ _ _ _ => (pg_name (i := 6) sc_Frame_table_and_sure.nd rfl (.inl rfl))) (fun _ _ _ _ _ => pts_nil) (fun _ _ _ _ _ => (pe_lst pa_nil)))
      (pss_cons (ps_lock (ps_for PassesOwn.never rfl (pi_items (pv 2)) (pg_tup rfl (pgs_cons (pg_name (i := 4) sc_Frame_table_and_sure.nd rfl (.inl rfl)) (pgs_cons (pg_name (i := 5) sc_Frame_table_and_sure.nd rfl (.inl rfl)) pgs_nil))) (pss_one (ps_asg (pe_callTy call_list_of (by rfl) T.z_list (by decide +kernel) (pa_cons (pe_meth (pv 0) T.cl_Frame T.t_Framexspots_near (ok_Framexspots_near T) (hr.mono (by decide)) T.b_Framexspots_near .nil pass0 (pa_cons (pv 5) pa_nil)) pa_nil)) (pg_sub (pv 3) (pv 4) set_list)))))
      (pss_one (ps_ret (pe_tupM (pa_cons (pv 3) (pa_cons (pe_call (ok_sure_among T) (hr.mono (by decide)) (by rfl) T.m_sure_among T.F_sure_among.kp T.b_sure_among .nil pass0 (pa_cons (pe_fld (pv 0) rfl) (pa_cons (pv 2) pa_nil))) pa_nil)))))))), ?_⟩
    obtain ⟨⟨h4, h9⟩, hstars, hnd, h20, hcam⟩ := sky_parts hsky
    obtain ⟨r, b, g, l, rfl, c1, c2, c3, c4, c5, c6, c7, c8, c9, c10⟩ := cam_form hcam
    have h20' : ks.length ≤ 20 := by rw [keys_len] at h20; exact h20
    obtain ⟨dxf, hx⟩ := hF.ins
    refine ⟨.ref x, rfl, x, a.c_Frame, dxf, _, _, rfl, hx, T.cl_Frame, T.n_Frame__sky, frF_sky p st df dn, .ref pa, rfl, p, pa, n, ks, _, at_, rfl, hF.sky, hsky, hpa, hpose, fun H1 d zs s1 nd ed x1 val => ?_⟩
    have hF1 := frAt_up s1 hF
    have hz20 : zs.length ≤ 20 := by rw [← shownD_len, val]; exact Nat.le_trans (seenI_len _ _ _ _ _) h20
    obtain ⟨dxf1, hx1⟩ := hF1.ins
    obtain ⟨dx', ts1, tc1, q1', q2', q3'⟩ := id hF1.sky.1
    refine ⟨.ref x, rfl, x, a.c_Frame, dxf1, _, _, rfl, hx1, T.cl_Frame, T.n_Frame__sky, frF_sky p st df dn, p, dx', _, rfl, q1', p, n, _, _, rfl, hF1.sky.1, fun ts2 hts => ?_⟩
    refine ⟨ts2, rfl, ⟨_, hts⟩, fun D nD => lc_tup (K := K) (a := ts2) (xs := refs ks) (fun i H2 => ∃ tb : Tups, Same H1 H2 ∧ H2 D = some (.lst (refs tb)) ∧ (∀ p ∈ tb, H2 p.1 = some (.lst (p.2.map V.int)) ∧ p.1 ≠ D) ∧ keys tb = (List.range i).map fun _ => []) ⟨[], same_new nD, upd_same, (fun p hp => by cases hp), rfl⟩ (fun i H2 _ ⟨_, s2, _⟩ => sqT_up s2 hts) ?_ ?_⟩
    · rintro i v H2 hi ⟨tb, S2, e2, t2, k2⟩
      have hil := (List.getElem?_eq_some_iff.mp hi).1
      rw [refs_len] at hil
      have ltb : tb.length = i := by rw [← keys_len tb, k2, List.length_map, List.length_range]
      refine ⟨rfl, ?_⟩
      refine ⟨Nat.zero_le _, fun q nq => ?_⟩
      have s3 : Same H2 (upd H2 q (.lst [])) := same_new nq
      have e3 : (upd H2 q (.lst [])) q = some (.lst []) := upd_same
      have nqD : q ≠ D := fun e => by rw [e, e2] at nq; cases nq
      generalize upd H2 q (.lst []) = H3 at s3 e3 ⊢
      refine ⟨_, s3 _ _ e2, sizeN (by rw [refs_len]; omega), tb ++ [(q, [])], same_put nD (S2.trans s3), by rw [upd_same, ← refs_push], fun p hp => ?_, ?_⟩
      · rcases List.mem_append.mp hp with hp | hp
        · exact ⟨by rw [upd_ne (t2 p hp).2]; exact s3 _ _ (t2 p hp).1, (t2 p hp).2⟩
        · rw [List.mem_singleton.mp hp]
          exact ⟨by rw [upd_ne nqD]; exact e3, nqD⟩
      · rw [keys_push, k2, List.range_succ, List.map_append]
        rfl
    rintro H2 ⟨tb0, S2, e2, t2, k2⟩
    rw [refs_len] at k2
    have ed2 := S2 _ _ ed
    refine ⟨d, _, ed2, trivial, fun od => ?_⟩
    have nDd : D ≠ d := fun e => by rw [e, ed] at nD; cases nD
    have S2f : Same (upd H1 d (.frz od (.dK (shownK zs)))) (upd H2 d (.frz od (.dK (shownK zs)))) := same_both S2
    have hFb : FrAt K a.c_Sky a.c_Frame (upd H1 d (.frz od (.dK (shownK zs)))) x p st df dn n ks [r, b, g, l] ss F N := frAt_dk ed hF1
    have x1b : ShownX (upd H1 d (.frz od (.dK (shownK zs)))) zs := fun z hz => tup_dk ed (x1 z hz)
    have ndb : (upd H1 d (.frz od (.dK (shownK zs)))) d = some (.frz od (.dK (shownK zs))) := upd_same
    have nDf : (upd H1 d (.frz od (.dK (shownK zs)))) D = none := by rw [upd_ne nDd]; exact nD
    have kb : ∀ q o, H q = some o → (upd H1 d (.frz od (.dK (shownK zs)))) q = some o := fun q o e => by rw [upd_ne (fun z => by rw [z, nd] at e; cases e)]; exact s1 _ _ e
    have e2f : (upd H2 d (.frz od (.dK (shownK zs)))) D = some (.lst (refs tb0)) := by rw [upd_ne nDd]; exact e2
    have t2f : ∀ p ∈ tb0, (upd H2 d (.frz od (.dK (shownK zs)))) p.1 = some (.lst (p.2.map V.int)) ∧ p.1 ≠ D := fun p hp => ⟨by rw [upd_ne (fun e => by have := (t2 p hp).1; rw [e, ed2] at this; cases this)]; exact (t2 p hp).1, (t2 p hp).2⟩
    generalize upd H1 d (.frz od (.dK (shownK zs))) = Hb at S2f hFb x1b ndb nDf kb ⊢
    have ef := S2f _ _ ndb
    generalize upd H2 d (.frz od (.dK (shownK zs))) = H3 at S2f ef e2f t2f ⊢
    refine ⟨.ref d, rfl, d, od, shownK zs, rfl, ef, for_it walk_items (fun i σ H4 => ∃ (z4 z5 : Option V) (F' : DT) (tb : Tups), σ = [some (.ref x), some (.ref pa), some (.ref d), some (.ref D), z4, z5, none] ∧ Same2 df dn Hb H4 ∧ FrAt K a.c_Sky a.c_Frame H4 x p st df dn n ks [r, b, g, l] ss F' N ∧ F'.length ≤ F.length + i ∧ H4 D = some (.lst (refs tb)) ∧ (∀ p ∈ tb, H4 p.1 = some (.lst (p.2.map V.int)) ∧ p.1 ≠ D) ∧ keys tb = (List.range ks.length).map fun m : Nat => if (m : Int) ∈ ((shownD zs).take i).map (·.1) then rowF n [r, b, g, l] (keys ks) (keys ss) at_ m else [])
      ⟨_, _, F, tb0, rfl, same2_of S2f, frAt_up S2f hFb, Nat.le_refl _, e2f, t2f, by rw [k2]; rfl⟩ (fun i σ H4 _ ⟨_, _, _, _, _, s4, _⟩ => at2 s4 hFb.ef hFb.en ndb fun _ e => by cases e) ?_ ?_⟩
    · rintro i v σ H4 H5 hi ⟨z4, z5, F', tb, rfl, S4, F4, l4, e4, t4, k4⟩ ⟨Tp, x', y', rfl, nT, rfl, ex, ey⟩
      have hi' : i < zs.length := by rw [shown_len] at hi; exact hi
      have hzs : (shownK zs)[i]? = some (Sum.inl zs[i].1, V.ref zs[i].2.1) := by
        unfold shownK
        rw [List.getElem?_map, List.getElem?_eq_getElem hi']
        rfl
      have ex2 : ((shownK zs)[i]?).map (fun kv => kV kv.1) = some x' := ex
      have ey2 : ((shownK zs)[i]?).map Prod.snd = some y' := ey
      rw [hzs] at ex2 ey2
      obtain rfl : V.int zs[i].1 = x' := Option.some.inj ex2
      obtain rfl : V.ref zs[i].2.1 = y' := Option.some.inj ey2
      have s5 : Same H4 (upd H4 Tp (.tup [.int zs[i].1, .ref zs[i].2.1])) := same_new nT
      have tT : SqT K (upd H4 Tp (.tup [.int zs[i].1, .ref zs[i].2.1])) Tp [.int zs[i].1, .ref zs[i].2.1] := .inl (.inl upd_same)
      generalize upd H4 Tp (.tup [.int zs[i].1, .ref zs[i].2.1]) = H5 at s5 tT ⊢
      have hzm : zs[i] ∈ zs := List.getElem_mem hi'
      have F5 := frAt_up s5 F4
      have S5 := S4.trans (same2_of s5)
      have hlook : H5 zs[i].2.1 = some (.tup (zs[i].2.2.map V.int)) := at2 S5 hFb.ef hFb.en (x1b _ hzm) fun _ e => by cases e
      have hmem : (zs[i].1, zs[i].2.2) ∈ seenI n [r, b, g, l] at_ 0 (keys ks) := by rw [← val]; exact List.mem_map_of_mem (f := fun z : Int × Addr × List Int => (z.1, z.2.2)) hzm
      have k0 := seenI_ge n _ _ _ 0 _ hmem
      have k1 := seenI_lt n _ _ _ 0 _ hmem
      obtain ⟨m, hm⟩ := Int.eq_ofNat_of_zero_le (show 0 ≤ zs[i].1 by omega)
      have hml : m < ks.length := by rw [← keys_len ks]; omega
      have hso : sO n [r, b, g, l] at_ (keys ks) m = some zs[i].2.2 := by
        unfold sO
        rw [← atK_seen0]
        have := atK_of_mem (seenI_asc n [r, b, g, l] at_ (keys ks) 0) hmem
        have hm' : zs[i].1 = (m : Int) := hm
        rw [hm'] at this
        exact this
      have hrow : nearK b g (keys ss) zs[i].2.2 = rowF n [r, b, g, l] (keys ks) (keys ss) at_ m := by
        unfold rowF
        rw [hso]
      have ltb : tb.length = ks.length := by rw [← keys_len tb, k4, List.length_map, List.length_range]
      obtain ⟨dxf5, hx5⟩ := F5.ins
      refine ⟨Tp, _, rfl, tT, rfl, _, _, rfl, _, _, rfl, rfl, ?_⟩
      refine ⟨.ref x, rfl, x, dxf5, _, rfl, hx5, frF_non p st df dn (by decide +kernel) (by decide +kernel) (by decide +kernel) (by decide +kernel), .ref zs[i].2.1, rfl, x, zs[i].2.1, p, st, df, dn, n, r, b, g, l, ks, ss, F', N, zs[i].2.2, rfl, F5, hlook, shown3 val _ hzm, h3, h64, by omega, fun H6 li F6 s6 F6a eli l6 => ?_⟩
      refine ⟨li, _, rfl, .inl (.inl (.inl eli)), fun L nL => ?_⟩
      have s7 : Same H6 (upd H6 L (.lst ((nearK b g (keys ss) zs[i].2.2).map V.int))) := same_new nL
      have eL : (upd H6 L (.lst ((nearK b g (keys ss) zs[i].2.2).map V.int))) L = some (.lst ((nearK b g (keys ss) zs[i].2.2).map V.int)) := upd_same
      have e6 : H6 D = some (.lst (refs tb)) := at2 s6 F5.ef F5.en (s5 _ _ e4) fun _ e => by cases e
      have nLD : L ≠ D := fun e => by rw [e, e6] at nL; cases nL
      generalize upd H6 L (.lst ((nearK b g (keys ss) zs[i].2.2).map V.int)) = H7 at s7 eL ⊢
      have F7 := frAt_up s7 F6a
      have S7 := (S5.trans s6).trans (same2_of s7)
      have e7 := s7 _ _ e6
      have t7 : ∀ p ∈ tb, H7 p.1 = some (.lst (p.2.map V.int)) ∧ p.1 ≠ D := fun p hp => ⟨s7 _ _ (at2 s6 F5.ef F5.en (s5 _ _ (t4 p hp).1) fun _ e => by cases e), (t4 p hp).2⟩
      rw [hrow] at eL
      refine ⟨.ref D, rfl, _, rfl, D, refs tb, zs[i].1, m, rfl, rfl, e7, by rw [hm, refs_len, ltb]; exact ixN_nat hml, ?_⟩
      refine ⟨_, _, F6, tb.set m (L, rowF n [r, b, g, l] (keys ks) (keys ss) at_ m), rfl, same2_put nDf S7, frAt_lr e7 (by omega) F7, by omega, ?_, fun q hq' => ?_, ?_⟩
      · rw [upd_same]
        unfold refs
        rw [List.map_set]
      · rcases List.mem_or_eq_of_mem_set hq' with hq' | rfl
        · exact ⟨by rw [upd_ne (t7 q hq').2]; exact (t7 q hq').1, (t7 q hq').2⟩
        · exact ⟨by rw [upd_ne nLD]; exact eL, nLD⟩
      · have ek : keys (tb.set m (L, rowF n [r, b, g, l] (keys ks) (keys ss) at_ m)) = (keys tb).set m (rowF n [r, b, g, l] (keys ks) (keys ss) at_ m) := by
          unfold keys
          rw [List.map_set]
        have stp1 : ((shownD zs).take (i + 1)).map (·.1) = ((shownD zs).take i).map (·.1) ++ [(m : Int)] := by
          rw [List.take_add_one, List.map_append]
          congr 1
          unfold shownD
          rw [List.getElem?_map, List.getElem?_eq_getElem hi', ← hm]
          rfl
        rw [ek, k4, stp1]
        apply List.ext_getElem?
        intro q
        rw [List.getElem?_set, List.length_map, List.length_range]
        by_cases eq : m = q
        · rw [if_pos eq, ← eq, if_pos hml, List.getElem?_map, List.getElem?_range hml]
          show _ = some (if (m : Int) ∈ _ then _ else _)
          rw [if_pos (List.mem_append_right _ (List.mem_singleton.mpr rfl))]
        · rw [if_neg eq, List.getElem?_map, List.getElem?_map]
          by_cases hq2 : q < ks.length
          · rw [List.getElem?_range hq2]
            show some (if (q : Int) ∈ _ then _ else _) = some (if (q : Int) ∈ _ then _ else _)
            have e : ((q : Int) ∈ ((shownD zs).take i).map (·.1) ++ [(m : Int)]) ↔ (q : Int) ∈ ((shownD zs).take i).map (·.1) := by
              rw [List.mem_append, List.mem_singleton]
              exact ⟨fun h => h.resolve_right fun z => eq (by omega), .inl⟩
            by_cases hin : (q : Int) ∈ ((shownD zs).take i).map (·.1)
            · rw [if_pos hin, if_pos (e.mpr hin)]
            · rw [if_neg hin, if_neg fun z => hin (e.mp z)]
          · rw [List.getElem?_eq_none (by rw [List.length_range]; omega)]
            rfl
    · rintro σ H4 ⟨z4, z5, F', tb, rfl, S4, F4, l4, e4, t4, k4⟩
      have ef4 := at2 S4 hFb.ef hFb.en ndb fun _ e => by cases e
      refine ⟨ef4, ?_⟩
      have ed5 : (upd H4 d (.dK (shownK zs))) d = some (.dK (shownK zs)) := upd_same
      have S5 : Same2 df dn H (upd H4 d (.dK (shownK zs))) := fun q o ha hb e => by
        rw [upd_ne (fun z => by rw [z, nd] at e; cases e)]
        exact S4 _ _ ha hb (kb _ _ e)
      have F5 : FrAt K a.c_Sky a.c_Frame (upd H4 d (.dK (shownK zs))) x p st df dn n ks [r, b, g, l] ss F' N := frAt_fdk ef4 F4
      have e5 : (upd H4 d (.dK (shownK zs))) D = some (.lst (refs tb)) := by rw [upd_ne nDd]; exact e4
      have t5 : ∀ q ∈ tb, (upd H4 d (.dK (shownK zs))) q.1 = some (.lst (q.2.map V.int)) := fun q hq => by
        rw [upd_ne (fun e => by have := (t4 q hq).1; rw [e, ef4] at this; cases this)]
        exact (t4 q hq).1
      have x5 : ShownX (upd H4 d (.dK (shownK zs))) zs := fun z hz => by
        have h1 := at2 S4 hFb.ef hFb.en (x1b z hz) fun _ e => by cases e
        rw [upd_ne (fun e => by rw [e, ef4] at h1; cases h1)]
        exact h1
      generalize upd H4 d (.dK (shownK zs)) = H5 at ed5 S5 F5 e5 t5 x5 ⊢
      obtain ⟨dxf5, hx5⟩ := F5.ins
      refine ⟨.ref D, rfl, .ref x, rfl, x, a.c_Frame, dxf5, _, _, rfl, hx5, T.cl_Frame, T.n_Frame__sky, frF_sky p st df dn, .ref d, rfl, p, d, n, _, r, b, g, l, zs, rfl, F5.sky.1, ed5, shownX_at x5, shown3 val, by omega, fun H6 wl s6 nwl ew => ?_⟩
      refine ⟨(by show 2 ≤ sizeLine; decide), fun t H7 s7 tt => ?_⟩
      have s57 := s6.trans s7
      refine k H7 t D wl tb F' (S5.trans (same2_of s57)) (frAt_up s57 F5) tt ⟨.inl (.inl (s57 _ _ e5)), fun q hq => .inl (.inl (s57 _ _ (t5 q hq)))⟩ ?_ ?_ (by rw [shown_len] at l4; omega)
      · rw [k4, tabF_eq, keys_len ks]
        apply List.map_congr_left
        intro m hm
        by_cases hin : (m : Int) ∈ ((shownD zs).take (shownK zs).length).map (·.1)
        · rw [if_pos hin]
        · rw [if_neg hin]
          have hn : sO n [r, b, g, l] at_ (keys ks) m = none := by
            unfold sO
            rw [← atK_seen0, ← val]
            refine atK_none fun z hz => fun e => hin ?_
            rw [shown_len, ← shownD_len, List.take_length, ← e]
            exact List.mem_map_of_mem (f := fun z : Int × List Int => z.1) hz
          unfold rowF
          rw [hn]
      · rw [val] at ew
        exact s7 _ _ ew

theorem ok__pairs_of (T : Txt P K mg a) : FnOk P w K mg base CX0 1 a.f__pairs_of a.fd__pairs_of ["many"] (spPairs K) := by
  refine T.F__pairs_of.ok sc__pairs_of (fun vs H Q E h => ?_) (fun cdv A outer s H vs Q E hr h => ?_)
  · obtain ⟨m, rfl, _⟩ := h
    rfl
  · obtain ⟨m, rfl, h0, h1, k⟩ := h
    refine ⟨_, (pss_one (ps_ret (pe_op op_fdiv (pe_op op_mul (pv 0) (pe_op op_sub (pv 0) pe_int)) pe_int))), ?_⟩
    refine ⟨_, rfl, _, rfl, _, _, rfl, rfl, _, _, rfl, rfl, .inl ⟨by omega, by omega⟩, _, _, rfl, rfl, ⟨by decide, by decide⟩, ?_⟩
    exact k

theorem ok__votes_in (T : Txt P K mg a) : FnOk P w K mg base CX0 7 a.f__votes_in a.fd__votes_in ["frame", "attitude"] (spVotesIn K a.c_Sky a.c_Frame) := by
  refine T.F__votes_in.ok sc__votes_in (fun vs H Q E h => ?_) (fun cdv A outer s H vs Q E hr h => ?_)
  · obtain ⟨x, pa, p, st, df, dn, n, r, b, g, l, ks, ss, at_, F, N, rfl, _⟩ := h
    rfl
  · obtain ⟨x, pa, p, st, df, dn, n, r, b, g, l, ks, ss, at_, F, N, rfl, hF, hsky, hpa, hpose, h3, h64, hF9, k⟩ := h
    refine ⟨_, (pss_cons (ps_asg (pe_meth (pv 0) T.cl_Frame T.t_Frame_table_and_sure (ok_Frame_table_and_sure T) (hr.mono (by decide)) T.b_Frame_table_and_sure .nil pass0 (pa_cons (pv 1) pa_nil)) (pg_tup rfl (pgs_cons (pg_name (i := 2) sc__votes_in.nd rfl (.inl rfl)) (pgs_cons (pg_name (i := 3) sc__votes_in.nd rfl (.inl rfl)) pgs_nil))))
      (pss_cons (ps_set (i := 4) sc__votes_in.nd rfl (.inr rfl) (pe_lc (g := gName 3) (tt := tYes) (own := [("_", 3)]) rfl sc__votes_in.nd (pi_list (pe_meth0 (pv 0) T.cl_Frame T.t_Frame_spots (ok_Frame_spots T) (hr.mono (by decide)) T.b_Frame_spots .nil pass0)) (blkOk_by (own := [("_", 3)]) (N := ["frame", "attitude", "table", "_", "stars", "row", "spot", "fitting", "alone", "many"]) (sc := defScope s__votes_in) (by decide +kernel)) (fun _ _ _ _ _ => (pg_name (i := 3) sc__votes_in.nd rfl (.inl rfl))) (fun _ _ _ _ _ => pts_nil) (fun _ _ _ _ _ => pe_int)))
      (pss_cons (ps_for PassesOwn.never rfl (pi_list (pv 2)) (pg_name (i := 5) sc__votes_in.nd rfl (.inl rfl)) (pss_one (ps_for PassesOwn.never rfl (pi_list (pv 5)) (pg_name (i := 6) sc__votes_in.nd rfl (.inl rfl)) (pss_one (ps_augS (pv 4) (pv 6) get_list pe_int ip_add set_list)))))
      (pss_cons (ps_set (i := 7) sc__votes_in.nd rfl (.inl rfl) (pe_callB call_len_seq (by rfl) T.z_len (by decide +kernel) (pa_cons (pe_lc (g := gName 9) (own := [("many", 9)]) rfl sc__votes_in.nd (pi_list (pv 4)) (blkOk_by (own := [("many", 9)]) (N := ["frame", "attitude", "table", "_", "stars", "row", "spot", "fitting", "alone", "many"]) (sc := defScope s__votes_in) (by decide +kernel)) (fun _ _ _ _ _ => (pg_name (i := 9) sc__votes_in.nd rfl (.inl rfl))) (fun _ _ _ _ _ => (pts_one (pt_truthK (K := K) (pv 9) (by intro _; rfl)))) (fun _ _ _ _ _ => (pv 9))) pa_nil)))
      (pss_cons (ps_setLc (i := 8) rfl sc__votes_in.nd rfl rfl (sw_true rfl rfl rfl (by decide +kernel)) (g := gName 5) (tt := tYes) (own := [("row", 5)]) (pi_list (pv 2)) (blkOk_by (own := [("row", 5)]) (N := ["frame", "attitude", "table", "_", "stars", "row", "spot", "fitting", "alone", "many"]) (sc := defScope s__votes_in) (by decide +kernel)) (fun _ _ _ _ _ => (pg_name (i := 5) sc__votes_in.nd rfl (.inl rfl))) (fun _ _ _ _ _ => pts_nil) (fun _ _ _ _ _ => (pe_callB (call_len_seqK (K := K)) (by rfl) T.z_len (by decide +kernel) (pa_cons (pe_lc (g := gName 6) (own := [("spot", 6)]) rfl sc__votes_in.nd ((pi_listK (K := K)) (pv 5)) (blkOk_by (own := [("spot", 6)]) (N := ["frame", "attitude", "table", "_", "stars", "row", "spot", "fitting", "alone", "many"]) (sc := { kind := PySem.ScopeKind.function, names := [ (PySem.Str.ofString ".0", PySem.NameKind.local), (PySem.Str.ofString "row", PySem.NameKind.local), (PySem.Str.ofString "len", PySem.NameKind.globalImplicit), (PySem.Str.ofString "stars", PySem.NameKind.cell)], isGenerator := false, isCoroutine := false, more := [] : PySem.Scope }) (by decide +kernel)) (fun _ _ _ _ _ => (pg_name (i := 6) sc__votes_in.nd rfl (.inl rfl))) (fun _ _ _ _ _ => (pts_one (pt_cmpR op_eq (pe_ix (ix_seqK (K := K)) (pv 4) (pv 6) (fun _ _ => rfl)) pe_int (nomark _)))) (fun _ _ _ _ _ => (pv 6))) pa_nil))))
      (pss_one (ps_ret (pe_op op_sub (pe_call (ok__pairs_of T) (hr.mono (by decide)) (by rfl) T.m__pairs_of T.F__pairs_of.kp T.b__pairs_of .nil pass0 (pa_cons (pv 7) pa_nil)) (pe_callB (cr_sum rfl) (by rfl) T.z_sum (by decide +kernel) (pa_cons (pe_lc (g := gName 9) (tt := tYes) (own := [("many", 9)]) rfl sc__votes_in.nd (pi_list (pv 8)) (blkOk_by (own := [("many", 9)]) (N := ["frame", "attitude", "table", "_", "stars", "row", "spot", "fitting", "alone", "many"]) (sc := defScope s__votes_in) (by decide +kernel)) (fun _ _ _ _ _ => (pg_name (i := 9) sc__votes_in.nd rfl (.inl rfl))) (fun _ _ _ _ _ => pts_nil) (fun _ _ _ _ _ => (pe_call (ok__pairs_of T) (hr.mono (by decide)) (by rfl) T.m__pairs_of T.F__pairs_of.kp T.b__pairs_of .nil pass0 (pa_cons (pv 9) pa_nil)))) pa_nil)))))))))), ?_⟩
    obtain ⟨dxf, hx⟩ := hF.ins
    refine ⟨.ref x, rfl, x, dxf, _, rfl, hx, frF_non p st df dn (by decide +kernel) (by decide +kernel) (by decide +kernel) (by decide +kernel), .ref pa, rfl, x, pa, p, st, df, dn, n, ks, ss, _, at_, F, N, rfl, hF, hsky, hpa, hpose, h3, h64, hF9, fun H1 t tl wl tb F1 s1 F1a tt hT kT eW lF => ?_⟩
    refine ⟨t, _, rfl, tt, rfl, _, _, rfl, _, _, rfl, rfl, ?_⟩
    obtain ⟨dx1, hx1⟩ := F1a.ins
    refine ⟨.ref x, rfl, x, dx1, _, rfl, hx1, frF_non p st df dn (by decide +kernel) (by decide +kernel) (by decide +kernel) (by decide +kernel), x, p, st, df, dn, n, ks, ss, _, F1, N, rfl, F1a, h64, fun H2 l2 s2 el2 => ?_⟩
    refine ⟨l2, rfl, ⟨_, .inl (.inl el2)⟩, fun D nD => lc_list (K := K) (a := l2) (xs := ((List.range ss.length).map Int.ofNat).map V.int) (fun i H3 => Same H2 H3 ∧ H3 D = some (.lst ((List.replicate i (0 : Int)).map V.int))) ⟨same_new nD, upd_same⟩ (fun i H3 _ ⟨s3, _⟩ => .inl (.inl (s3 _ _ el2))) ?_ ?_⟩
    · rintro i v H3 hi ⟨s3, e3⟩
      have hi' : i < ss.length := by
        have h := (List.getElem?_eq_some_iff.mp hi).1
        rw [List.length_map, List.length_map, List.length_range] at h
        exact h
      refine ⟨rfl, ?_⟩
      refine ⟨_, e3, sizeN (by rw [List.length_map, List.length_replicate]; omega), same_put nD s3, ?_⟩
      rw [upd_same, List.replicate_succ', List.map_append]
      rfl
    · rintro H3 ⟨s3, e3⟩
      rw [List.length_map, List.length_map, List.length_range, ← starsN_none] at e3
      have hT2 := tabAt_up s2 hT
      have ltb : tb.length = (tabF n [r, b, g, l] (keys ks) (keys ss) at_).length := by rw [← kT, keys_len]
      have htb : tb.length ≤ 20 := by
        rw [ltb, tabF_len]
        exact (sky_parts hsky).2.2.2.1
      refine ⟨.ref tl, rfl, tl, rfl, ⟨_, (tabAt_up s3 hT2).1⟩, for_list (K := K) (a := tl) (xs := refs tb) (fun i σ H4 => ∃ z5 z6 : Option V, σ = [some (.ref x), some (.ref pa), some (.ref tl), some (.ref wl), some (.ref D), z5, z6, none, none, none] ∧ Same H2 H4 ∧ H4 D = some (.lst ((starsN ((keys tb).take i) ss.length).map V.int))) ⟨_, _, rfl, s3, e3⟩ (fun i σ H4 _ ⟨_, _, _, s4, _⟩ => (tabAt_up s4 hT2).1) ?_ ?_⟩
      · rintro i v σ H4 hi ⟨z5, z6, rfl, s4, e4⟩
        obtain ⟨q, hq, rfl⟩ := refs_at hi
        have hkq : (keys tb)[i]? = some q.2 := by unfold keys; rw [List.getElem?_map, hq]; rfl
        have hqm := List.mem_of_getElem? hkq
        rw [kT] at hqm
        obtain ⟨hrn, hrb⟩ : q.2.Nodup ∧ ∀ c ∈ q.2, 0 ≤ c ∧ c < ((keys ss).length : Int) := by
          rw [tabF_eq] at hqm
          obtain ⟨a', _, e'⟩ := List.mem_map.mp hqm
          rw [← e']
          exact rowF_row n _ _ _ at_ a'
        have hql := fun (H5 : Hp) (s5 : Same H2 H5) => (tabAt_up s5 hT2).2 q (List.mem_of_getElem? hq)
        refine ⟨.ref q.1, rfl, q.1, rfl, ⟨_, hql H4 s4⟩, for_list (K := K) (a := q.1) (xs := q.2.map V.int) (fun j σ H5 => ∃ z6 : Option V, σ = [some (.ref x), some (.ref pa), some (.ref tl), some (.ref wl), some (.ref D), some (.ref q.1), z6, none, none, none] ∧ Same H2 H5 ∧ H5 D = some (.lst ((starsP ((keys tb).take i) (q.2.take j) ss.length).map V.int))) ⟨_, rfl, s4, by rw [List.take_zero, starsP_nil]; exact e4⟩ (fun j σ H5 _ ⟨_, _, s5, _⟩ => hql H5 s5) ?_ ?_⟩
        · rintro j v σ H5 hj ⟨z6', rfl, s5, e5⟩
          rw [List.getElem?_map] at hj
          obtain ⟨c, hcE, rfl⟩ := Option.map_eq_some_iff.mp hj
          obtain ⟨hc0, hc1⟩ := hrb c (List.mem_of_getElem? hcE)
          obtain ⟨m, rfl⟩ := Int.eq_ofNat_of_zero_le hc0
          have hm : m < ss.length := by rw [keys_len] at hc1; omega
          refine ⟨.ref D, rfl, _, rfl, D, _, _, _, rfl, rfl, .inl (.inl e5), hc0, nthI hc0 (by rw [starsP_len]; omega), _, _, rfl, rfl, ?_⟩
          refine ⟨D, _, _, m, rfl, rfl, e5, ?_, ?_⟩
          · unfold ixN
            rw [if_pos hc0, List.length_map, starsP_len, if_pos (by omega), Int.toNat_natCast]
          · refine ⟨_, rfl, same_put nD s5, ?_⟩
            rw [upd_same]
            refine congrArg (fun z => some (HO.lst z)) ?_
            rw [← starsP_step hrn hcE hm, List.map_set]
        · rintro σ H5 ⟨z6', rfl, s5, e5⟩
          rw [List.length_map, List.take_length, starsP_row] at e5
          refine ⟨_, _, rfl, s5, ?_⟩
          rw [List.take_add_one, hkq]
          exact e5
      · rintro σ H4 ⟨z5, z6, rfl, s4, e4⟩
        rw [refs_len, ← keys_len, List.take_length, kT] at e4
        have ekk := keys_len ss
        have hlK : ss.length = (keys ss).length := ekk.symm
        have sl : (starsN (tabF n [r, b, g, l] (keys ks) (keys ss) at_) ss.length).length = ss.length := starsN_len _ _
        obtain ⟨SN, hSN⟩ : ∃ SN, starsN (tabF n [r, b, g, l] (keys ks) (keys ss) at_) ss.length = SN := ⟨_, rfl⟩
        rw [hSN] at e4 sl
        refine ⟨.ref D, rfl, D, rfl, ⟨_, .inl (.inl e4)⟩, fun D2 nD2 => lc_list (K := K) (a := D) (xs := SN.map V.int) (fun i H5 => Same H4 H5 ∧ H5 D2 = some (.lst (((SN.take i).filter fun z => decide (z ≠ 0)).map V.int))) ⟨same_new nD2, upd_same⟩ (fun i H5 _ ⟨s5, _⟩ => .inl (.inl (s5 _ _ e4))) ?_ ?_⟩
        · rintro i v H5 hi ⟨s5, e5⟩
          rw [List.getElem?_map] at hi
          obtain ⟨c, hcE, rfl⟩ := Option.map_eq_some_iff.mp hi
          have hi' : i < ss.length := by
            have := (List.getElem?_eq_some_iff.mp hcE).1
            omega
          have htk : SN.take (i + 1) = SN.take i ++ [c] := by rw [List.take_add_one, hcE]; rfl
          have hlt : ((SN.take i).filter fun z => decide (z ≠ 0)).length ≤ 64 := Nat.le_trans (List.length_filter_le _ _) (by rw [List.length_take]; omega)
          refine ⟨rfl, ?_⟩
          refine ⟨_, rfl, c != 0, rfl, ?_⟩
          by_cases hz : c = 0
          · have h1 : (c != 0) = false := by rw [hz]; rfl
            rw [h1]
            refine iteF ⟨s5, ?_⟩
            rw [htk, List.filter_append, List.filter_cons_of_neg (p := fun z : Int => decide (z ≠ 0)) (by rw [hz]; decide), List.filter_nil, List.append_nil]
            exact e5
          · have h1 : (c != 0) = true := bne_iff_ne.mpr hz
            rw [h1]
            refine iteT ⟨_, rfl, _, e5, sizeN (by rw [List.length_map]; omega), same_put nD2 s5, ?_⟩
            rw [upd_same, htk, List.filter_append, List.filter_cons_of_pos (p := fun z : Int => decide (z ≠ 0)) (decide_eq_true hz), List.map_append]
            rfl
        · rintro H5 ⟨s5, e5⟩
          rw [List.length_map, List.take_length] at e5
          have S25 := s4.trans s5
          have hfl : (SN.filter fun z => decide (z ≠ 0)).length ≤ 64 := Nat.le_trans (List.length_filter_le _ _) (by omega)
          have hT5 := tabAt_up S25 hT2
          have e45 := s5 _ _ e4
          refine ⟨D2, _, rfl, .inl (.inl (.inl e5)), ?_⟩
          refine ⟨.ref tl, rfl, tl, rfl, ⟨_, hT5.1⟩, fun D3 nD3 => lc_list (K := K) (a := tl) (xs := refs tb) (fun i H6 => Same H5 H6 ∧ H6 D3 = some (.lst ((((keys tb).take i).map fun row => ((row.filter fun s => decide (numI SN s = 1)).length : Int)).map V.int))) ⟨same_new nD3, upd_same⟩ (fun i H6 _ ⟨s6, _⟩ => (tabAt_up s6 hT5).1) ?_ ?_⟩
          · rintro i v H6 hi ⟨s6, e6⟩
            obtain ⟨q, hq, rfl⟩ := refs_at hi
            have hkq : (keys tb)[i]? = some q.2 := by unfold keys; rw [List.getElem?_map, hq]; rfl
            have hi' : i < tb.length := (List.getElem?_eq_some_iff.mp hq).1
            have hqm := List.mem_of_getElem? hkq
            rw [kT] at hqm
            obtain ⟨hrl, hrb⟩ := tabF_mem hqm
            have hq6 := (tabAt_up s6 hT5).2 q (List.mem_of_getElem? hq)
            have e46 := s6 _ _ e45
            refine ⟨rfl, ?_⟩
            refine ⟨.ref q.1, rfl, q.1, rfl, ⟨_, hq6⟩, fun D4 nD4 => lc_list (K := K) (a := q.1) (xs := q.2.map V.int) (fun j H7 => Same H6 H7 ∧ H7 D4 = some (.lst (((q.2.take j).filter fun s => decide (numI SN s = 1)).map V.int))) ⟨same_new nD4, upd_same⟩ (fun j H7 _ ⟨s7, _⟩ => s7.seq hq6) ?_ ?_⟩
            · rintro j v H7 hj ⟨s7, e7⟩
              rw [List.getElem?_map] at hj
              obtain ⟨c, hcE, rfl⟩ := Option.map_eq_some_iff.mp hj
              obtain ⟨hc0, hc1⟩ := hrb c (List.mem_of_getElem? hcE)
              have htk : q.2.take (j + 1) = q.2.take j ++ [c] := by rw [List.take_add_one, hcE]; rfl
              have hlt : ((q.2.take j).filter fun s => decide (numI SN s = 1)).length ≤ 64 := Nat.le_trans (List.length_filter_le _ _) (by rw [List.length_take]; omega)
              refine ⟨rfl, ?_⟩
              refine ⟨.ref D, rfl, _, rfl, .inl ⟨D, _, _, _, rfl, rfl, .inl (.inl (s7 _ _ e46)), nthI hc0 (by omega), rfl, _, rfl, ite2 (fun g1 => ?_) (fun g1 => ?_)⟩⟩
              · have h1 : numI SN c = 1 := V.int.inj (of_decide_eq_true g1)
                refine ⟨_, rfl, _, e7, sizeN (by rw [List.length_map]; omega), same_put nD4 s7, ?_⟩
                rw [upd_same, htk, List.filter_append, List.filter_cons_of_pos (p := fun s => decide (numI SN s = 1)) (decide_eq_true h1), List.map_append]
                rfl
              · have h1 : ¬ numI SN c = 1 := fun z => g1 (decide_eq_true (congrArg V.int z))
                refine ⟨s7, ?_⟩
                rw [htk, List.filter_append, List.filter_cons_of_neg (p := fun s => decide (numI SN s = 1)) (by rw [decide_eq_false h1]; decide), List.filter_nil, List.append_nil]
                exact e7
            · rintro H7 ⟨s7, e7⟩
              rw [List.length_map, List.take_length] at e7
              refine ⟨D4, _, rfl, .inl (.inl (.inl e7)), ?_⟩
              refine ⟨_, s7 _ _ e6, sizeN (by rw [List.length_map, List.length_map, List.length_take]; omega), same_put nD3 (s6.trans s7), ?_⟩
              rw [upd_same, List.take_add_one, hkq, List.length_map]
              refine congrArg (fun z => some (HO.lst z)) ?_
              rw [List.map_append, List.map_append]
              rfl
          · rintro H6 ⟨s6, e6⟩
            rw [refs_len, ← keys_len, List.take_length] at e6
            refine ⟨_, rfl, _, rfl, (by rw [List.length_map]; omega), (by rw [List.length_map]; omega), ?_⟩
            have hAB : ∀ z ∈ (keys tb).map fun row => ((row.filter fun s => decide (numI SN s = 1)).length : Int), 0 ≤ z ∧ z ≤ 64 := fun z hz => by
              obtain ⟨row, hrow, rfl⟩ := List.mem_map.mp hz
              rw [kT] at hrow
              have h1 := (tabF_mem hrow).1
              have h2 := List.length_filter_le (fun s => decide (numI SN s = 1)) row
              omega
            have hlA : ((keys tb).map fun row => ((row.filter fun s => decide (numI SN s = 1)).length : Int)).length ≤ 20 := by rw [List.length_map, keys_len]; exact htb
            have hres := votes_same (n := n) (r := r) (b := b) (g := g) (l := l) (at_ := at_) (kk := keys ks) (sp := keys ss)
            rw [← hlK, hSN, ← kT] at hres
            rw [show ((keys tb).map fun row => Cb ((row.filter fun s => decide (numI SN s = 1)).length : Int)) = ((keys tb).map fun row => ((row.filter fun s => decide (numI SN s = 1)).length : Int)).map Cb from by rw [List.map_map]; rfl] at hres
            generalize ((keys tb).map fun row => ((row.filter fun s => decide (numI SN s = 1)).length : Int)) = A at e6 hAB hlA hres
            refine ⟨.ref D3, rfl, D3, rfl, ⟨_, .inl (.inl e6)⟩, fun D5 nD5 => lc_list (K := K) (a := D3) (xs := A.map V.int) (fun i H7 => Same H6 H7 ∧ H7 D5 = some (.lst (((A.take i).map Cb).map V.int))) ⟨same_new nD5, upd_same⟩ (fun i H7 _ ⟨s7, _⟩ => .inl (.inl (s7 _ _ e6))) ?_ ?_⟩
            · rintro i v H7 hi ⟨s7, e7⟩
              rw [List.getElem?_map] at hi
              obtain ⟨c, hcE, rfl⟩ := Option.map_eq_some_iff.mp hi
              obtain ⟨hc0, hc1⟩ := hAB c (List.mem_of_getElem? hcE)
              refine ⟨rfl, ?_⟩
              refine ⟨_, rfl, _, rfl, by omega, by omega, ?_⟩
              refine ⟨_, e7, sizeN (by rw [List.length_map, List.length_map, List.length_take]; omega), same_put nD5 s7, ?_⟩
              rw [upd_same, List.take_add_one, hcE]
              refine congrArg (fun z => some (HO.lst z)) ?_
              rw [List.map_append, List.map_append]
              rfl
            · rintro H7 ⟨s7, e7⟩
              rw [List.length_map, List.take_length] at e7
              refine ⟨D5, A.map Cb, rfl, .inl (.inl e7), _, _, rfl, rfl, ?_⟩
              have hfin := k H7 ?_
              · rw [← hres, show SN.filter (fun z => decide (z ≠ 0)) = SN.filter (fun z => decide (z ≠ 0)) from rfl] at hfin
                rw [List.length_map]
                exact hfin
              · intro q o h1 h2 h3'
                exact s7 _ _ (s6 _ _ (S25 _ _ (s2 _ _ (s1 q o h1 h2 h3'))))

theorem ok_votes_at (T : Txt P K mg a) : FnOk P w K mg base (L2.CX P w) 8 a.f_votes_at a.fd_votes_at ["sky", "attitude", "sighting"] (spVotesAt K a.c_Sky) := by
  refine T.F_votes_at.okX sc_votes_at (fun vs H Q E h => ?_) (fun cdv A outer s H vs Q E hr h => ?_)
  · obtain ⟨p, pa, ps, n, r, b, g, l, ks, ss, at_, rfl, _⟩ := h
    rfl
  · obtain ⟨p, pa, ps, n, r, b, g, l, ks, ss, at_, rfl, hK, hsky, hpa, hpose, hps, hss, hsi, k⟩ := h
    refine ⟨_, (pss_cons (ps_expr (pe_call (ok_check_attitude T) (hr.mono (by decide)) (by rfl) T.m_check_attitude T.F_check_attitude.kp T.b_check_attitude .nil (passes_call (takes_of rfl rfl rfl rfl) (fun _ _ _ _ h => h)) (pa_cons (pv 0) (pa_cons (pv 1) pa_nil))))
      (pss_cons (ps_expr (pe_call (ok_check_sighting T) (hr.mono (by decide)) (by rfl) T.m_check_sighting T.F_check_sighting.kp T.b_check_sighting .nil (passes_call (takes_of rfl rfl rfl rfl) (fun _ _ _ _ h => h)) (pa_cons (pv 0) (pa_cons (pv 2) pa_nil))))
      (pss_one (ps_ret (pe_call (ok__votes_in T) (hr.mono (by decide)) (by rfl) T.m__votes_in T.F__votes_in.kp T.b__votes_in .nil pass0 (pa_cons (pe_make T.M_Frame (ok_Framex_initx T) (hr.mono (by decide)) (by rfl) T.m_Frame T.b_Framex_initx .nil pass0 (pa_cons (pv 0) (pa_cons (pv 2) pa_nil))) (pa_cons (pv 1) pa_nil))))))), ?_⟩
    have noP : ∀ {q : Prop}, isPose n at_ = false → q := fun e => by rw [hpose] at e; cases e
    have noS : ∀ {q : Prop}, isSight [r, b, g, l] (keys ss) = false → q := fun e => by rw [hsi] at e; cases e
    refine ⟨.ref p, rfl, .ref pa, rfl, p, pa, n, _, _, at_, rfl, hK.1, hpa, fun e1 => ?_, fun e => noP e⟩
    refine ⟨.ref p, rfl, .ref ps, rfl, p, ps, n, _, r, b, g, l, ss, rfl, hK.1, hps, hss, fun e2 H1 s1 => ?_, fun e => noS e⟩
    refine ⟨.ref p, rfl, .ref ps, rfl, fun x dx nx ndx hne => ?_⟩
    have hx : (upd (upd H1 dx (.own x)) x (.ins a.c_Frame dx [])) x = some (.ins a.c_Frame dx []) := upd_same
    have s2 : Same H1 (upd (upd H1 dx (.own x)) x (.ins a.c_Frame dx [])) := fun q o e => by
      rw [upd_ne (fun z => by rw [z, nx] at e; cases e), upd_ne (fun z => by rw [z, ndx] at e; cases e)]
      exact e
    generalize upd (upd H1 dx (.own x)) x (.ins a.c_Frame dx []) = H2 at hx s2 ⊢
    have s12 := s1.trans s2
    have nx0 : H x = none := none_back s1 nx
    refine ⟨x, dx, p, ps, n, ks, ss, _, rfl, hx, skyS_up s12 hK, sqT_up s12 hps, tups_up s12 hss, fun H3 df dn F3 s3 d1 d2 d3 d4 => ⟨rfl, ?_⟩⟩
    have nn : ∀ q, (∀ o, H2 q = some o → q = x) → q ≠ x → H q = none := fun q f hq => by
      cases e : H q with
      | none => rfl
      | some o => exact absurd (f o (s12 _ _ e)) hq
    have s13 : Same H H3 := fun q o e => s3 q o (s12 _ _ e) fun z => by rw [z, nx0] at e; cases e
    have h60 := (sight_parts e2).2.2
    rw [keys_len] at h60
    refine ⟨.ref pa, rfl, x, pa, p, ps, df, dn, n, r, b, g, l, ks, ss, at_, [], [], rfl, F3, hsky, sqT_up s13 hpa, e1, sight_three e2, by omega, by decide, fun H4 s4 => ?_⟩
    exact k H4 (same_of2 (nn df d1 d3) (nn dn d2 d4) s13 s4)

theorem ok_votes_needed (T : Txt P K mg a) : FnOk P w K mg base CX0 2 a.f_votes_needed a.fd_votes_needed ["spots", "false"] (spVNeed K) := by
  refine T.F_votes_needed.ok sc_votes_needed (fun vs H Q E h => ?_) (fun cdv A outer s H vs Q E hr h => ?_)
  · obtain ⟨s1, f, rfl, _⟩ := h
    rfl
  · obtain ⟨s1, f, rfl, a1, a2, a3, a4, k⟩ := h
    refine ⟨_, (pss_one (ps_ret (pe_call (ok__pairs_of T) (hr.mono (by decide)) (by rfl) T.m__pairs_of T.F__pairs_of.kp T.b__pairs_of .nil pass0 (pa_cons (pe_callB (call_max2 rfl) (by rfl) T.z_max (by decide +kernel) (pa_cons pe_int (pa_cons (pe_op op_sub (pv 0) (pv 1)) pa_nil))) pa_nil)))), ?_⟩
    refine ⟨_, rfl, _, rfl, _, _, rfl, rfl, _, _, rfl, _, rfl, by split <;> omega, by split <;> omega, ?_⟩
    exact k

theorem ok__law_row (T : Txt P K mg a) : FnOk P w K mg base CX0 1 a.f__law_row a.fd__law_row ["cell", "many"] (spRow K) := by
  refine T.F__law_row.ok sc__law_row (fun vs H Q E h => ?_) (fun cdv A outer s H vs Q E hr h => ?_)
  · obtain ⟨c, m, rfl, _⟩ := h
    rfl
  · obtain ⟨c, many, rfl, h0, h1, q⟩ := h
    refine ⟨_, (pss_cons (ps_set (i := 2) sc__law_row.nd rfl (.inl rfl) (pe_lst pa_nil))
      (pss_cons (ps_set (i := 3) sc__law_row.nd rfl (.inl rfl) pe_int)
      (C8.pss_cut (ps_if (pt_cmpR op_ge (pe_callB call_abs (by rfl) T.z_abs (by decide +kernel) (pa_cons (pv 0) pa_nil)) (pe_op op_pow pe_int pe_int) (nomark _)) (pss_one (ps_set (i := 3) sc__law_row.nd rfl (.inl rfl) (pe_callB call_abs (by rfl) T.z_abs (by decide +kernel) (pa_cons (pv 0) pa_nil)))) pss_nil)
      (pss_cons (ps_set (i := 4) sc__law_row.nd rfl (.inl rfl) (pe_op op_mod (pe_callTy call_int1 (by rfl) T.z_int (by decide +kernel) (pa_cons (pe_callB call_abs (by rfl) T.z_abs (by decide +kernel) (pa_cons (pv 0) pa_nil)) pa_nil)) pe_int))
      (pss_cons (ps_for PassesOwn.never rfl (pi_range1 (by rfl) T.z_range (pa_cons (pv 1) pa_nil)) (pg_name (i := 5) sc__law_row.nd rfl (.inl rfl)) (pss_cons (ps_set (i := 4) sc__law_row.nd rfl (.inl rfl) (pe_op op_mod (pe_callTy call_int1 (by rfl) T.z_int (by decide +kernel) (pa_cons (pe_op op_add (pe_op op_mul (pe_op op_add (pv 4) pe_int) pe_int) (pe_op op_mul pe_int (pv 5))) pa_nil)) pe_int))
      (pss_one (ps_if (pt_cmpR op_gt (pv 3) pe_int (nomark _)) (pss_cons (ps_expr (pe_bm PySem.F.plainAttrs_list PySem.F.slot_list_append PySem.F.type_list_append mt_append (pv 2) (pa_cons (pe_op op_mod (pe_callTy call_int1 (by rfl) T.z_int (by decide +kernel) (pa_cons (pv 3) pa_nil)) pe_int) pa_nil)))
      (pss_one (ps_set (i := 3) sc__law_row.nd rfl (.inl rfl) (pe_op op_fdiv (pv 3) pe_int)))) (pss_one (ps_expr (pe_bm PySem.F.plainAttrs_list PySem.F.slot_list_append PySem.F.type_list_append mt_append (pv 2) (pa_cons (pe_op op_mod (pe_callTy call_int1 (by rfl) T.z_int (by decide +kernel) (pa_cons (pe_op op_fdiv (pv 4) pe_int) pa_nil)) pe_int) pa_nil))))))))
      (pss_one (ps_ret (pv 2)))))))), ?_⟩
    refine ⟨Nat.zero_le _, fun o no => ?_⟩
    refine ⟨fun σ' H' => ∃ r : Int, σ' = [some (.int c), some (.int many), some (.ref o), some (.int r), none, none] ∧ 0 ≤ r ∧ H' = upd H o (.lst []), ?_, ?_⟩
    · refine ⟨_, rfl, c, rfl, _, _, rfl, rfl, ⟨by decide, by decide, by decide⟩, _, _, rfl, rfl, _, rfl, ite2 (fun hg => ?_) (fun hg => ⟨0, rfl, by decide, rfl⟩)⟩
      exact ⟨_, rfl, c, rfl, _, rfl, by split <;> omega, rfl⟩
    · rintro σ' H' ⟨r, rfl, hr0, rfl⟩
      refine ⟨_, rfl, c, rfl, .inl ⟨_, rfl, _, _, rfl, rfl, (by show (0 : Int) < 2147483647; decide), ?_⟩⟩
      refine ⟨_, rfl, many, rfl, by omega, by omega, for_range (lo := 0) (n := many.toNat) (fun i σ H2 => ∃ (r s : Int) (k : Option V) (ns : List Int), σ = [some (.int c), some (.int many), some (.ref o), some (.int r), some (.int s), k] ∧ 0 ≤ r ∧ Same H H2 ∧ H2 o = some (.lst (ns.map V.int)) ∧ ns.length = i ∧ ∀ n ∈ ns, Num n)
        ⟨r, _, none, [], rfl, hr0, same_new no, upd_same, rfl, fun n hn => by cases hn⟩ ?_ ?_⟩
      · rintro i σ H2 hi ⟨r, s, k, ns, rfl, hr0, s2, eo, el, hN⟩
        refine ⟨_, rfl, _, _, rfl, rfl, _, _, rfl, rfl, .inr (by constructor <;> decide), _, rfl, _, _, rfl, rfl, .inl (by constructor <;> decide), _, _, rfl, rfl, .inl ⟨_, rfl, _, _, rfl, rfl, (by show (0 : Int) < 2147483647; decide), ?_⟩⟩
        have hlen : (ns.map V.int).length < sizeLine := by
          rw [List.length_map]
          exact sizeN (by omega)
        have fin : ∀ (z r' s' : Int), 0 ≤ r' → Num z → ∃ (r s : Int) (k : Option V) (ns' : List Int), [some (V.int c), some (.int many), some (.ref o), some (.int r'), some (.int s'), some (V.int (0 + (i : Nat)))] = [some (V.int c), some (.int many), some (.ref o), some (.int r), some (.int s), k] ∧ 0 ≤ r ∧ Same H (upd H2 o (.lst (ns.map V.int ++ [V.int z]))) ∧ (upd H2 o (.lst (ns.map V.int ++ [V.int z]))) o = some (.lst (ns'.map V.int)) ∧ ns'.length = i + 1 ∧ ∀ n ∈ ns', Num n := fun z r' s' hr' hz => by
          refine ⟨r', s', _, ns ++ [z], rfl, hr', same_put no s2, ?_, ?_, fun n hn => ?_⟩
          · rw [upd_same, List.map_append]
            rfl
          · rw [List.length_append, el]
            rfl
          · rcases List.mem_append.mp hn with hn | hn
            · exact hN n hn
            · rw [List.mem_singleton.mp hn]
              exact hz
        refine ⟨_, rfl, _, _, rfl, rfl, _, rfl, ite2 (fun hg => ?_) (fun hg => ?_)⟩
        · refine ⟨.ref o, rfl, .inl ⟨rfl, _, .inl (.inl eo)⟩, _, rfl, .inl ⟨_, rfl, _, _, rfl, rfl, (by show (0 : Int) < 1009; decide), o, _, _, rfl, rfl, eo, hlen, ?_⟩⟩
          refine ⟨_, rfl, _, _, rfl, rfl, ⟨by decide, by decide⟩, ?_⟩
          exact fin _ _ _ (Int.ediv_nonneg hr0 (by decide)) ⟨Int.emod_nonneg _ (by decide), Int.emod_lt_of_pos _ (by decide)⟩
        · refine ⟨.ref o, rfl, .inl ⟨rfl, _, .inl (.inl eo)⟩, _, rfl, _, _, rfl, rfl, ⟨by decide, by decide⟩, .inl ⟨_, rfl, _, _, rfl, rfl, (by show (0 : Int) < 1009; decide), o, _, _, rfl, rfl, eo, hlen, ?_⟩⟩
          exact fin _ _ _ hr0 ⟨Int.emod_nonneg _ (by decide), Int.emod_lt_of_pos _ (by decide)⟩
      · rintro σ H2 ⟨r, s, k, ns, rfl, hr0, s2, eo, el, hN⟩
        exact ⟨_, rfl, q H2 o ns s2 no eo (by omega) hN⟩

theorem ok__law_numbers (T : Txt P K mg a) : FnOk P w K mg base CX0 2 a.f__law_numbers a.fd__law_numbers ["script", "many"] (spNums K) := by
  refine T.F__law_numbers.ok sc__law_numbers (fun vs H Q E h => ?_) (fun cdv A outer s H vs Q E hr h => ?_)
  · obtain ⟨p, xs, m, rfl, _⟩ := h
    rfl
  · obtain ⟨b, xs, many, rfl, hS, hx, h0, h1, q⟩ := h
    refine ⟨_, (pss_cons (ps_set (i := 2) sc__law_numbers.nd rfl (.inl rfl) (pe_slice sl_list (pv 0) po_none (po_some pe_int)))
      (pss_cons (ps_set (i := 3) sc__law_numbers.nd rfl (.inl rfl) (pe_op op_add pe_int (pe_op op_fdiv (pv 1) (pe_callB (call_max2 rfl) (by rfl) T.z_max (by decide +kernel) (pa_cons pe_int (pa_cons (pe_callB call_len_seq (by rfl) T.z_len (by decide +kernel) (pa_cons (pv 2) pa_nil)) pa_nil))))))
      (pss_cons (ps_set (i := 4) sc__law_numbers.nd rfl (.inl rfl) (pe_lst pa_nil))
      (pss_cons (ps_for PassesOwn.never rfl (pi_list (pv 2)) (pg_name (i := 5) sc__law_numbers.nd rfl (.inl rfl)) (pss_one (ps_for PassesOwn.never rfl (pi_list (pe_call (ok__law_row T) (hr.mono (by decide)) (by rfl) T.m__law_row T.F__law_row.kp T.b__law_row .nil pass0 (pa_cons (pv 5) (pa_cons (pv 3) pa_nil)))) (pg_name (i := 6) sc__law_numbers.nd rfl (.inl rfl)) (pss_one (ps_expr (pe_bm PySem.F.plainAttrs_list PySem.F.slot_list_append PySem.F.type_list_append mt_append (pv 4) (pa_cons (pv 6) pa_nil)))))))
      (pss_cons (ps_while PassesOwn.never (pt_cmpR op_lt (pe_callB call_len_seq (by rfl) T.z_len (by decide +kernel) (pa_cons (pv 4) pa_nil)) (pv 1) (nomark _)) (pss_one (ps_expr (pe_bm PySem.F.plainAttrs_list PySem.F.slot_list_append PySem.F.type_list_append mt_append (pv 4) (pa_cons pe_int pa_nil)))))
      (pss_one (ps_ret (pe_slice sl_list (pv 4) po_none (po_some (pv 1)))))))))), ?_⟩
    refine ⟨.ref b, rfl, 63, rfl, b, xs.map V.int, rfl, hS, fun c nc => ?_⟩
    have ec : cutV (xs.map V.int) none (some 63) = xs.map V.int := by
      rw [show (63 : Int) = ((63 : Nat) : Int) from rfl, cut_to, List.take_of_length_le (by rw [List.length_map]; exact hx)]
    rw [ec]
    have sc1 := same_new (o := .lst (xs.map V.int)) nc
    refine ⟨_, rfl, .ref c, rfl, c, xs.map V.int, rfl, .inl (.inl (.inl upd_same)), _, _, rfl, ?_⟩
    rw [List.length_map]
    generalize hm : (if ((xs.length : Nat) : Int) > 1 then ((xs.length : Nat) : Int) else 1) = mx
    have hm1 : 1 ≤ mx := by rw [← hm]; split <;> omega
    have hm2 : mx ≤ 63 := by rw [← hm]; split <;> omega
    refine ⟨_, _, rfl, rfl, ⟨by omega, by omega⟩, _, _, rfl, rfl, Nat.zero_le _, fun o no => ?_⟩
    have hd0 : 0 ≤ many / mx := Int.ediv_nonneg h0 (by omega)
    have hd1 : many / mx ≤ many := Int.ediv_le_self _ h0
    have noc : o ≠ c := fun e => by rw [e, upd_same] at no; cases no
    have noH : H o = none := by rw [upd_ne noc] at no; exact no
    refine ⟨.ref c, rfl, c, rfl, ⟨xs.map V.int, .inl (.inl (by rw [upd_ne noc.symm]; exact upd_same))⟩, for_list (K := K) (a := c) (xs := xs.map V.int) (fun i σ H2 => ∃ (k5 k6 : Option V) (ns : List Int), σ = [some (.ref b), some (.int many), some (.ref c), some (.int (1 + many / mx)), some (.ref o), k5, k6] ∧ Same H H2 ∧ H2 c = some (.lst (xs.map V.int)) ∧ H2 o = some (.lst (ns.map V.int)) ∧ ns.length = i * (1 + many / mx).toNat ∧ ∀ n ∈ ns, Num n)
      ⟨none, none, [], rfl, sc1.trans (same_new no), by rw [upd_ne noc.symm]; exact upd_same, upd_same, by simp, fun n hn => by cases hn⟩ (fun i σ H2 _ ⟨_, _, _, _, _, e, _⟩ => .inl (.inl e)) ?_ ?_⟩
    · rintro i y σ H2 hi ⟨k5, k6, ns, rfl, s2, ec2, eo, el, hN⟩
      obtain ⟨z, hz, rfl⟩ := map_at hi
      have hil : i < xs.length := (List.getElem?_eq_some_iff.mp hz).1
      refine ⟨_, rfl, _, rfl, z, _, rfl, by omega, by omega, fun H3 p ms s3 np ep em hM => ?_⟩
      have npo : p ≠ o := fun e => by rw [e, eo] at np; cases np
      refine ⟨p, rfl, ⟨_, .inl (.inl ep)⟩, for_list (K := K) (a := p) (xs := ms.map V.int) (fun j σ H4 => ∃ (k6 : Option V) (ns : List Int), σ = [some (.ref b), some (.int many), some (.ref c), some (.int (1 + many / mx)), some (.ref o), some (.int z), k6] ∧ Same H H4 ∧ H4 c = some (.lst (xs.map V.int)) ∧ H4 p = some (.lst (ms.map V.int)) ∧ H4 o = some (.lst (ns.map V.int)) ∧ ns.length = i * (1 + many / mx).toNat + j ∧ ∀ n ∈ ns, Num n)
        ⟨k6, ns, rfl, s2.trans s3, s3 _ _ ec2, ep, s3 _ _ eo, el, hN⟩ (fun i σ H2 _ ⟨_, _, _, _, _, e, _⟩ => .inl (.inl e)) ?_ ?_⟩
      · rintro j y σ H4 hj ⟨k6, ns, rfl, s4, ec4, ep4, eo4, el4, hN4⟩
        obtain ⟨m, hm', rfl⟩ := map_at hj
        have hjl : j < ms.length := (List.getElem?_eq_some_iff.mp hm').1
        have nco : c ≠ o := noc.symm
        have hb1 : i * (1 + many / mx).toNat ≤ 63 * 1901 := Nat.mul_le_mul (by omega) (by omega)
        refine ⟨.ref o, rfl, .inl ⟨rfl, _, .inl (.inl eo4)⟩, _, rfl, o, _, _, rfl, rfl, eo4, ?_, ?_⟩
        · rw [List.length_map]
          exact sizeN (by omega)
        · refine ⟨_, ns ++ [m], rfl, same_put noH s4, by rw [upd_ne nco]; exact ec4, by rw [upd_ne npo]; exact ep4, by rw [upd_same, map_push], ?_, num_push hN4 (hM m (List.mem_of_getElem? hm'))⟩
          rw [List.length_append, el4]
          rfl
      · rintro σ H4 ⟨k6, ns, rfl, s4, ec4, ep4, eo4, el4, hN4⟩
        refine ⟨_, _, ns, rfl, s4, ec4, eo4, ?_, hN4⟩
        rw [el4, List.length_map, Nat.succ_mul]
        omega
    · rintro σ H2 ⟨k5, k6, ns, rfl, s2, ec2, eo, el, hN⟩
      have hb1 : (xs.map V.int).length * (1 + many / mx).toNat ≤ 63 * 1901 := Nat.mul_le_mul (by rw [List.length_map]; omega) (by omega)
      refine while_by (fun σ H3 => ∃ (ns : List Int), σ = [some (.ref b), some (.int many), some (.ref c), some (.int (1 + many / mx)), some (.ref o), k5, k6] ∧ Same H H3 ∧ H3 o = some (.lst (ns.map V.int)) ∧ ns.length ≤ 130000 ∧ ∀ n ∈ ns, Num n)
        (fun σ H3 => match H3 o with | some (.lst l) => many.toNat - l.length | _ => 0) ⟨ns, rfl, s2, eo, by omega, hN⟩ ?_ ?_
      · rintro σ H3 ⟨ns, rfl, s3, eo3, el3, hN3⟩
        refine ⟨.ref o, rfl, o, _, rfl, .inl (.inl (.inl eo3)), _, rfl, _, _, rfl, rfl, _, rfl, ite2 (fun hg => ?_) (fun hg => ?_)⟩
        · have hg' : (((ns.map V.int).length : Nat) : Int) < many := of_decide_eq_true hg
          rw [List.length_map] at hg'
          refine ⟨.ref o, rfl, .inl ⟨rfl, _, .inl (.inl eo3)⟩, o, _, _, rfl, rfl, eo3, ?_, ?_⟩
          · rw [List.length_map]
            exact sizeN (by omega)
          · refine ⟨⟨ns ++ [0], rfl, same_put noH s3, by rw [upd_same, map_push], by rw [List.length_append]; show ns.length + 1 ≤ _; omega, num_push hN3 ⟨by decide, by decide⟩⟩, ?_⟩
            rw [eo3, upd_same]
            show many.toNat - (ns.map V.int ++ [V.int 0]).length < many.toNat - (ns.map V.int).length
            rw [List.length_append, List.length_map]
            show many.toNat - (ns.length + 1) < _
            omega
        · have hg' : ¬ (((ns.map V.int).length : Nat) : Int) < many := fun z => hg (decide_eq_true z)
          rw [List.length_map] at hg'
          refine ⟨.ref o, rfl, _, rfl, many, rfl, o, _, rfl, .inl (.inl eo3), fun p np => ?_⟩
          rw [show many = ((many.toNat : Nat) : Int) by omega, cut_to, ← List.map_take]
          refine q _ p (ns.take many.toNat) (s3.trans (same_new np)) (s3.free np) upd_same ?_ (fun n hn => hN3 n (List.mem_of_mem_take hn))
          rw [List.length_take]
          omega
      · rintro σ H3 Q1 Q2 hQ ⟨v, e1, p, ys, e2, e3, m, e4, i, j, e5, e6, k, e7, e8⟩
        exact ⟨v, e1, p, ys, e2, e3, m, e4, i, j, e5, e6, k, e7, hQ _ _ e8⟩

theorem ok__law_parts (T : Txt P K mg a) : FnOk P w K mg base CX0 1 a.f__law_parts a.fd__law_parts ["numbers", "at", "most_v", "sides"] (spParts35 K) := by
  refine T.F__law_parts.ok sc__law_parts (fun vs H Q E h => ?_) (fun cdv A outer s H vs Q E hr h => ?_)
  · obtain ⟨p1, sd, ns, sides, at', most, rfl, _⟩ := h
    rfl
  · obtain ⟨p1, sd, ns, sides, at', most, rfl, hL, hN, hsd, hsides, hne, ha, hm0, hm1, hlen, k⟩ := h
    have hu65 : (A.deeper (envOfC "_law_parts" (defScope s__law_parts) s.heap.objs.size a.f__law_parts cdv)).units + 65 < cLine := by
      have := hr.un
      omega
    refine ⟨_, (pss_cons (ps_set (i := 4) sc__law_parts.nd rfl (.inl rfl) (pe_ix ix_seq (pv 3) (pe_op op_mod (pe_callTy call_int1 (by rfl) T.z_int (by decide +kernel) (pa_cons (pe_ix ix_seq (pv 0) (pv 1) (fun _ _ => rfl)) pa_nil)) (pe_callB call_len_seq (by rfl) T.z_len (by decide +kernel) (pa_cons (pv 3) pa_nil))) (fun _ _ => rfl)))
      (pss_cons (ps_set (i := 5) sc__law_parts.nd rfl (.inl rfl) (pe_op op_fdiv (pe_op op_sub (pv 4) pe_int) pe_int))
      (pss_cons (ps_set (i := 6) sc__law_parts.nd rfl (.inl rfl) (pe_callB (call_min2 rfl) (by rfl) T.z_min (by decide +kernel) (pa_cons (pv 5) (pa_cons (pe_ix ix_seq (pe_lstM (pa_cons pe_int (pa_cons pe_int (pa_cons pe_int (pa_cons pe_int (pa_cons pe_int (pa_cons pe_int pa_nil))))))) (pe_op op_mod (pe_callTy call_int1 (by rfl) T.z_int (by decide +kernel) (pa_cons (pe_ix ix_seq (pv 0) (pe_op op_add (pv 1) pe_int) (fun _ _ => rfl)) pa_nil)) pe_int) (fun _ _ => rfl)) pa_nil))))
      (pss_cons (ps_set (i := 7) sc__law_parts.nd rfl (.inl rfl) (pe_op op_mod (pe_callTy call_int1 (by rfl) T.z_int (by decide +kernel) (pa_cons (pe_ix ix_seq (pv 0) (pe_op op_add (pv 1) pe_int) (fun _ _ => rfl)) pa_nil)) (pe_op op_add pe_int (pe_callB (call_min3I rfl) (by rfl) T.z_min (by decide +kernel) (pa_cons pe_int (pa_cons (pv 6) (pa_cons (pe_op op_sub (pv 5) (pv 6)) pa_nil)))))))
      (pss_cons (ps_set (i := 8) sc__law_parts.nd rfl (.inl rfl) (pe_tupM (pa_cons (pv 6) (pa_cons (pv 7) (pa_cons (pe_op op_mod (pe_callTy call_int1 (by rfl) T.z_int (by decide +kernel) (pa_cons (pe_ix ix_seq (pv 0) (pe_op op_add (pv 1) pe_int) (fun _ _ => rfl)) pa_nil)) pe_int) (pa_cons (pe_ix ix_seq (pe_lstM (pa_cons pe_int (pa_cons pe_int (pa_cons pe_int (pa_cons pe_int (pa_cons pe_int pa_nil)))))) (pe_op op_mod (pe_callTy call_int1 (by rfl) T.z_int (by decide +kernel) (pa_cons (pe_ix ix_seq (pv 0) (pe_op op_add (pv 1) pe_int) (fun _ _ => rfl)) pa_nil)) pe_int) (fun _ _ => rfl)) pa_nil))))))
      (pss_cons (ps_set (i := 9) sc__law_parts.nd rfl (.inl rfl) (pe_lstM pa_nil))
      (pss_cons (ps_for PassesOwn.never rfl (pi_range1 (by rfl) T.z_range (pa_cons (pe_op op_mod (pe_callTy call_int1 (by rfl) T.z_int (by decide +kernel) (pa_cons (pe_ix ix_seq (pv 0) (pe_op op_add (pv 1) pe_int) (fun _ _ => rfl)) pa_nil)) (pe_op op_add (pv 2) pe_int)) pa_nil)) (pg_name (i := 10) sc__law_parts.nd rfl (.inl rfl)) (pss_cons (ps_set (i := 11) sc__law_parts.nd rfl (.inl rfl) (pe_op op_add (pe_op op_add (pv 1) pe_int) (pe_op op_mul pe_int (pv 10))))
      (pss_cons (ps_set (i := 12) sc__law_parts.nd rfl (.inl rfl) (pe_tupM (pa_cons (pe_op op_mod (pe_callTy call_int1 (by rfl) T.z_int (by decide +kernel) (pa_cons (pe_ix ix_seq (pv 0) (pv 11) (fun _ _ => rfl)) pa_nil)) (pv 4)) (pa_cons (pe_op op_mod (pe_callTy call_int1 (by rfl) T.z_int (by decide +kernel) (pa_cons (pe_ix ix_seq (pv 0) (pe_op op_add (pv 11) pe_int) (fun _ _ => rfl)) pa_nil)) (pv 4)) (pa_cons (pe_ix ix_seq (pe_lstM (pa_cons pe_int (pa_cons pe_int (pa_cons pe_int (pa_cons pe_int (pa_cons pe_int (pa_cons pe_int (pa_cons pe_int pa_nil)))))))) (pe_op op_mod (pe_callTy call_int1 (by rfl) T.z_int (by decide +kernel) (pa_cons (pe_ix ix_seq (pv 0) (pe_op op_add (pv 11) pe_int) (fun _ _ => rfl)) pa_nil)) pe_int) (fun _ _ => rfl)) pa_nil)))))
      (C8.pss_cut (ps_if (PW.pt (pw_and (pt_cmpR op_gt (pe_callB call_len_seq (by rfl) T.z_len (by decide +kernel) (pa_cons (pv 9) pa_nil)) pe_int (nomark _)) (pw_and1 (pt_cmpR op_eq (pe_op op_mod (pe_op op_fdiv (pe_callTy call_int1 (by rfl) T.z_int (by decide +kernel) (pa_cons (pe_ix ix_seq (pv 0) (pe_op op_add (pv 11) pe_int) (fun _ _ => rfl)) pa_nil)) pe_int) pe_int) pe_int (nomark _))))) (pss_one (ps_set (i := 12) sc__law_parts.nd rfl (.inl rfl) (pe_op op_catAM (pe_slice sl_tupAM (pe_ix ix_seq (pv 9) (pe_un un_neg pe_int) (fun _ _ => rfl)) po_none (po_some pe_int)) (pe_slice sl_tupAM (pv 12) (po_some pe_int) po_none)))) pss_nil)
      (pss_one (ps_if (pt_cmpR (op_notInD hu65) (pv 12) (pv 9) (by rfl)) (pss_one (ps_expr (pe_bm PySem.F.plainAttrs_list PySem.F.slot_list_append PySem.F.type_list_append mt_append (pv 9) (pa_cons (pv 12) pa_nil)))) pss_nil))))))
      (pss_one (ps_ret (pe_tupM (pa_cons (pv 4) (pa_cons (pe_callB (cr_sortM (d := 3) (B := 10) (by decide)) (by rfl) T.z_sorted (by decide +kernel) (pa_cons (pv 9) pa_nil)) (pa_cons (pv 8) pa_nil))))))))))))), ?_⟩
    -- side
    have hs0 : (0 : Int) < (sides.length : Int) := by
      cases sides with
      | nil => exact absurd rfl hne
      | cons x y => rw [List.length_cons]; omega
    have hlsd : ((sides.map V.int).length : Int) = (sides.length : Int) := by rw [List.length_map]
    refine ⟨.ref sd, rfl, .ref p1, rfl, _, rfl, .inl ⟨p1, _, _, _, rfl, rfl, hL, nthI (by omega) (by omega), .inl ⟨_, rfl, .ref sd, rfl, sd, _, rfl, .inl hsd, _, _, rfl, rfl, (by rw [hlsd]; exact hs0), ?_⟩⟩⟩
    rw [hlsd]
    obtain ⟨n, en, hn⟩ := pickI (zs := sides) (j := numI ns at' % (sides.length : Int)) (P := fun z => 4 ≤ z ∧ z ≤ 9) hsides (Int.emod_nonneg _ (by omega)) (Int.emod_lt_of_pos _ hs0)
    refine .inl ⟨sd, _, _, _, rfl, rfl, hsd, en, ?_⟩
    have hn0 : 0 < n := by omega
    have s1 : Same H H := Same.refl _
    have hL1 := hL
    -- half
    refine ⟨_, rfl, _, _, rfl, rfl, _, _, rfl, rfl, ⟨by decide, by decide⟩, ?_⟩
    -- reach
    refine ⟨_, rfl, (by show 6 ≤ sizeLine; decide), fun l2 H2 s2 _ el2 => ?_⟩
    have hL2 := s2.seq hL1
    refine ⟨.ref p1, rfl, _, rfl, _, _, rfl, rfl, .inl ⟨p1, _, _, _, rfl, rfl, hL2, nthI (by omega) (by omega), .inl ⟨_, rfl, _, _, rfl, rfl, (by show (0 : Int) < 6; decide), ?_⟩⟩⟩
    obtain ⟨r0, er, hr0⟩ := pickI (zs := [1, 2, 1, 3, 1, 0]) (j := numI ns (at' + 1) % 6) (P := fun z => 0 ≤ z ∧ z ≤ 4) (by decide) (Int.emod_nonneg _ (by decide)) (Int.emod_lt_of_pos _ (by decide))
    refine .inl ⟨l2, _, _, _, rfl, rfl, .inl (.inl el2), er, _, _, rfl, ?_⟩
    obtain ⟨r, hr', r1, r2, r3⟩ : ∃ r, (if r0 < (n - 1) / 2 then r0 else (n - 1) / 2) = r ∧ 0 ≤ r ∧ r ≤ 4 ∧ r ≤ (n - 1) / 2 := by
      refine ⟨_, rfl, ?_⟩
      split <;> omega
    rw [hr']
    -- blur
    refine ⟨.ref p1, rfl, _, rfl, _, _, rfl, rfl, .inl ⟨p1, _, _, _, rfl, rfl, hL2, nthI (by omega) (by omega), .inl ⟨_, rfl, ?_⟩⟩⟩
    refine ⟨_, rfl, _, rfl, _, rfl, _, _, rfl, rfl, _, _, _, rfl, fun m m1 m2 m3 hm => ?_⟩
    have hmp : 0 ≤ m := by omega
    refine ⟨_, _, rfl, rfl, _, _, rfl, rfl, (by show (0 : Int) < 1 + m; omega), ?_⟩
    have hb : 0 ≤ numI ns (at' + 2) % (1 + m) ∧ numI ns (at' + 2) % (1 + m) ≤ m := ⟨Int.emod_nonneg _ (by omega), by have := Int.emod_lt_of_pos (numI ns (at' + 2)) (show (0 : Int) < 1 + m by omega); omega⟩
    -- camera
    refine ⟨_, rfl, _, rfl, .ref p1, rfl, _, rfl, _, _, rfl, rfl, .inl ⟨p1, _, _, _, rfl, rfl, hL2, nthI (by omega) (by omega), .inl ⟨_, rfl, _, _, rfl, rfl, (by show (0 : Int) < 3; decide), ?_⟩⟩⟩
    refine ⟨(by show 5 ≤ sizeLine; decide), fun l3 H3 s3 _ el3 => ?_⟩
    have hL3 := s3.seq hL2
    refine ⟨.ref p1, rfl, _, rfl, _, _, rfl, rfl, .inl ⟨p1, _, _, _, rfl, rfl, hL3, nthI (by omega) (by omega), .inl ⟨_, rfl, _, _, rfl, rfl, (by show (0 : Int) < 5; decide), ?_⟩⟩⟩
    obtain ⟨li, eli, hli⟩ := pickI (zs := [1, 1, 3, 5, 4]) (j := numI ns (at' + 4) % 5) (P := fun z => 1 ≤ z ∧ z ≤ 9) (by decide) (Int.emod_nonneg _ (by decide)) (Int.emod_lt_of_pos _ (by decide))
    refine .inl ⟨l3, _, _, _, rfl, rfl, .inl (.inl el3), eli, (by show 4 ≤ sizeLine; decide), fun pc H4 s4 tc => ?_⟩
    have hgl : 0 ≤ numI ns (at' + 3) % 3 ∧ numI ns (at' + 3) % 3 ≤ 2 := by omega
    have tc' : SqT K H4 pc ([r, numI ns (at' + 2) % (1 + m), numI ns (at' + 3) % 3, li].map V.int) := tc
    have hcam : isCam n [r, numI ns (at' + 2) % (1 + m), numI ns (at' + 3) % 3, li] = true := decide_eq_true (by omega)
    generalize [r, numI ns (at' + 2) % (1 + m), numI ns (at' + 3) % 3, li] = cam at tc' hcam
    clear tc
    have hL4 := s4.seq hL3
    have S4 : Same H H4 := ((s1.trans s2).trans s3).trans s4
    -- stars
    refine ⟨Nat.zero_le _, fun ls H5 s5 nls els => ?_⟩
    refine ⟨.ref p1, rfl, _, rfl, _, _, rfl, rfl, .inl ⟨p1, _, _, _, rfl, rfl, s5.seq hL4, nthI (by omega) (by omega), .inl ⟨_, rfl, _, rfl, _, _, rfl, rfl, _, _, rfl, rfl, (by show (0 : Int) < most + 1; omega), ?_⟩⟩⟩
    have hm' : 0 ≤ numI ns (at' + 5) % (most + 1) ∧ numI ns (at' + 5) % (most + 1) ≤ most := ⟨Int.emod_nonneg _ (by omega), by have := Int.emod_lt_of_pos (numI ns (at' + 5)) (show (0 : Int) < most + 1 by omega); omega⟩
    refine ⟨_, rfl, (by show -2 ^ 62 ≤ numI ns (at' + 5) % (most + 1); omega), (by show numI ns (at' + 5) % (most + 1) < _; omega), for_range (lo := 0) (n := (numI ns (at' + 5) % (most + 1)).toNat) (fun i σ H6 => ∃ (z9 z10 z11 : Option V) (ks : Tups), σ = [some (.ref p1), some (.int at'), some (.int most), some (.ref sd), some (.int n), some (.int ((n - 1) / 2)), some (.int r), some (.int (numI ns (at' + 2) % (1 + m))), some (.ref pc), some (.ref ls), z9, z10, z11] ∧ Same H4 H6 ∧ H6 ls = some (.lst (refs ks)) ∧ TupsAt K H6 ks ∧ ks.length ≤ i ∧ (keys ks).Nodup ∧ ∀ x ∈ keys ks, isStar n x = true)
      ⟨none, none, none, [], rfl, s5, els, (fun p hp => by cases hp), Nat.le_refl _, List.nodup_nil, fun x hx => by cases hx⟩ ?_ ?_⟩
    · rintro i σ H6 hi ⟨z9, z10, z11, ks, rfl, s6, e6, t6, hlen6, hnd, hst⟩
      have hL6 := s6.seq hL4
      refine ⟨_, rfl, _, _, rfl, rfl, _, rfl, _, _, rfl, rfl, .inl (by constructor <;> decide), _, _, rfl, rfl, ?_⟩
      refine ⟨.ref p1, rfl, _, rfl, .inl ⟨p1, _, _, _, rfl, rfl, hL6, nthI (by omega) (by omega), .inl ⟨_, rfl, _, rfl, _, _, rfl, rfl, hn0, ?_⟩⟩⟩
      refine ⟨.ref p1, rfl, _, rfl, _, _, rfl, rfl, .inl ⟨p1, _, _, _, rfl, rfl, hL6, nthI (by omega) (by omega), .inl ⟨_, rfl, _, rfl, _, _, rfl, rfl, hn0, ?_⟩⟩⟩
      refine ⟨(by show 7 ≤ sizeLine; decide), fun l9 H7 s7 _ el9 => ?_⟩
      have hL7 := s7.seq hL6
      refine ⟨.ref p1, rfl, _, rfl, _, _, rfl, rfl, .inl ⟨p1, _, _, _, rfl, rfl, hL7, nthI (by omega) (by omega), .inl ⟨_, rfl, _, _, rfl, rfl, (by show (0 : Int) < 7; decide), ?_⟩⟩⟩
      obtain ⟨b3, eb3, hb3⟩ := pickI (zs := [5, 5, 4, 6, 5, 9, 1]) (j := numI ns (at' + 6 + 3 * (0 + (i : Int)) + 2) % 7) (P := fun z => 1 ≤ z ∧ z ≤ 9) (by decide) (Int.emod_nonneg _ (by decide)) (Int.emod_lt_of_pos _ (by decide))
      refine .inl ⟨l9, _, _, _, rfl, rfl, .inl (.inl el9), eb3, (by show 3 ≤ sizeLine; decide), fun pt H8 s8 tt => ?_⟩
      obtain ⟨k3, tt', hk3⟩ : ∃ k3 : List Int, SqT K H8 pt (k3.map V.int) ∧ isStar n k3 = true := ⟨[_, _, _], tt, decide_eq_true ⟨Int.emod_nonneg _ (by omega), Int.emod_lt_of_pos _ hn0, Int.emod_nonneg _ (by omega), Int.emod_lt_of_pos _ hn0, hb3.1, hb3.2⟩⟩
      clear tt
      have S68 := s7.trans s8
      have e8 := S68 _ _ e6
      have t8 := tups_up S68 t6
      have hL8 := s8.seq hL7
      refine ⟨fun σ H9 => ∃ (q : Addr) (k4 : List Int), σ = [some (.ref p1), some (.int at'), some (.int most), some (.ref sd), some (.int n), some (.int ((n - 1) / 2)), some (.int r), some (.int (numI ns (at' + 2) % (1 + m))), some (.ref pc), some (.ref ls), some (.int (0 + (i : Int))), some (.int (at' + 6 + 3 * (0 + (i : Int)))), some (.ref q)] ∧ Same H6 H9 ∧ SqT K H9 q (k4.map V.int) ∧ isStar n k4 = true, ?_, ?_⟩
      · have first : ∃ (q : Addr) (k4 : List Int), ([some (.ref p1), some (.int at'), some (.int most), some (.ref sd), some (.int n), some (.int ((n - 1) / 2)), some (.int r), some (.int (numI ns (at' + 2) % (1 + m))), some (.ref pc), some (.ref ls), some (.int (0 + (i : Int))), some (.int (at' + 6 + 3 * (0 + (i : Int)))), some (.ref pt)] : List (Option V)) = [some (.ref p1), some (.int at'), some (.int most), some (.ref sd), some (.int n), some (.int ((n - 1) / 2)), some (.int r), some (.int (numI ns (at' + 2) % (1 + m))), some (.ref pc), some (.ref ls), some (.int (0 + (i : Int))), some (.int (at' + 6 + 3 * (0 + (i : Int)))), some (.ref q)] ∧ Same H6 H8 ∧ SqT K H8 q (k4.map V.int) ∧ isStar n k4 = true := ⟨pt, k3, rfl, S68, tt', hk3⟩
        refine ⟨.ref ls, rfl, ls, _, rfl, .inl (.inl (.inl e8)), _, _, rfl, rfl, _, rfl, ite2 (fun g1 => ?_) (fun _ => first)⟩
        refine ⟨.ref p1, rfl, _, rfl, _, _, rfl, rfl, .inl ⟨p1, _, _, _, rfl, rfl, hL8, nthI (by omega) (by omega), .inl ⟨_, rfl, _, _, rfl, rfl, ⟨by decide, by decide⟩, _, _, rfl, rfl, (by show (0 : Int) < 3; decide), rfl, _, rfl, ite2 (fun g2 => ?_) (fun _ => first)⟩⟩⟩
        have hne2 : ks ≠ [] := fun e => by
          have := of_decide_eq_true g1
          rw [refs_len, e] at this
          exact absurd this (by decide)
        obtain ⟨k0, lq, ek⟩ : ∃ k0 lq, ks = k0 ++ [lq] := ⟨ks.dropLast, ks.getLast hne2, (List.dropLast_concat_getLast hne2).symm⟩
        have hlq : lq ∈ ks := by rw [ek]; exact List.mem_append_right _ List.mem_cons_self
        have hat : atI (refs ks) (-1) = some (.ref lq.1) := by
          rw [ek, ← refs_push]
          exact atI_last _ _
        obtain ⟨x0, y0, c0, ex0, x1, x2, x3, x4, _, _⟩ := star_form (hst lq.2 (List.mem_map_of_mem (f := fun z : Addr × List Int => z.2) hlq))
        obtain ⟨x5, y5, c5, ex5, _, _, _, _, y6, y7⟩ := star_form hk3
        have tlq := t8 lq hlq
        rw [ex0] at tlq
        subst ex5
        refine ⟨.ref ls, rfl, 1, rfl, .inl ⟨ls, _, _, _, rfl, rfl, .inl (.inl e8), hat, ?_⟩⟩
        refine ⟨_, rfl, lq.1, _, rfl, tlq, fun q1 H9 s9 tq1 => ?_⟩
        have tq1' : SqT K H9 q1 [.int x0, .int y0] := tq1
        refine ⟨.ref pt, rfl, _, rfl, pt, _, rfl, sqT_up s9 tt', fun q2 H10 s10 tq2 => ?_⟩
        have tq2' : SqT K H10 q2 [.int c5] := tq2
        refine ⟨q1, q2, _, _, rfl, rfl, sqT_up s10 tq1', tq2', (by show 2 + 1 ≤ sizeLine; decide), fun q3 H11 s11 tq3 => ?_⟩
        exact ⟨q3, [x0, y0, c5], rfl, S68.trans ((s9.trans s10).trans s11), tq3, decide_eq_true ⟨x1, x2, x3, x4, y6, y7⟩⟩
      rintro σ H7 ⟨pt, k3, rfl, s7, tt', hk3⟩
      have e7 := s7 _ _ e6
      have t7 := tups_up s7 t6
      refine ⟨.ref pt, rfl, .ref ls, rfl, _, _, dp_ti tt', dp_l e7 (dp_tups t7), shaped_of (lay_ti _) (by decide), shaped_of (lay_tups _) (by decide), _, rfl, ?_⟩
      rw [any_tups]
      by_cases hin : k3 ∈ keys ks
      · rw [decide_eq_true hin]
        exact iteF ⟨_, _, _, ks, rfl, s6.trans s7, e7, t7, by omega, hnd, hst⟩
      · rw [decide_eq_false hin]
        have hlt : (refs ks).length < sizeLine := by
          rw [refs_len]
          exact sizeN (by omega)
        refine iteT ⟨.ref ls, rfl, .inl ⟨rfl, _, .inl (.inl e7)⟩, .ref pt, rfl, ls, _, _, rfl, rfl, e7, hlt, ?_⟩
        refine ⟨_, _, _, ks ++ [(pt, k3)], rfl, ?_, by rw [upd_same, ← refs_push], ?_, by rw [List.length_append]; show ks.length + 1 ≤ _; omega, by rw [keys_push]; exact nodup_push hnd hin, fun x hx => ?_⟩
        · have nH : H4 ls = none := nls
          exact same_put nH (s6.trans s7)
        · intro p hp
          rcases List.mem_append.mp hp with hp | hp
          · exact tups_put e7 t7 p hp
          · rw [List.mem_singleton.mp hp]
            exact sqT_lst e7 tt'
        · rw [keys_push] at hx
          rcases List.mem_append.mp hx with hx | hx
          · exact hst x hx
          · rw [List.mem_singleton.mp hx]
            exact hk3
    · rintro σ H6 ⟨z9, z10, z11, ks, rfl, s6, e6, t6, hlen6, hnd, hst⟩
      have hall : (keys ks).all (isStar n) = true := List.all_eq_true.mpr hst
      refine ⟨_, rfl, .ref ls, rfl, ls, ks, rfl, .inl (.inl e6), t6, by omega, stars_fit hall hn.2, fun l ks' H7 s7 nl el hperm hasc => ?_⟩
      refine ⟨.ref pc, rfl, (by show 3 ≤ sizeLine; decide), fun t H8 s8 tt => ?_⟩
      have S8 : Same H4 H8 := (s6.trans s7).trans s8
      have hsky : isSky n (keys ks') cam = true := by
        rw [isSky_perm (kk := keys ks') (mm := keys ks) (hperm.map _)]
        unfold isSky
        rw [decide_eq_true hn, hall, decide_eq_true hnd, hcam, show decide ((keys ks).length ≤ 20) = true from decide_eq_true (by rw [keys_len]; omega)]
        rfl
      exact k H8 t n ks' cam (S4.trans S8) ⟨l, pc, tt, .inl (.inl (s8 _ _ el)), (fun p hp => sqT_up (s7.trans s8) (t6 p (hperm.mem_iff.mp hp))), sqT_up S8 tc'⟩ hsky hasc (by have := hperm.length_eq; omega)

theorem ok__law_sky (T : Txt P K mg a) : FnOk P w K mg base CX0 5 a.f__law_sky a.fd__law_sky ["parts"] (spMadeL K a.c_Sky) := by
  refine T.F__law_sky.ok sc__law_sky (fun vs H Q E h => ?_) (fun cdv A outer s H vs Q E hr h => ?_)
  · obtain ⟨t, n, ks, cam, rfl, _⟩ := h
    rfl
  · obtain ⟨t, n, ks, cam, rfl, ⟨l, c, ht, hl, hk, hc⟩, hsky, hasc, k⟩ := h
    refine ⟨_, (pss_cons (ps_asg (pv 0) (pg_tup rfl (pgs_cons (pg_name (i := 1) sc__law_sky.nd rfl (.inl rfl)) (pgs_cons (pg_name (i := 2) sc__law_sky.nd rfl (.inl rfl)) (pgs_cons (pg_name (i := 3) sc__law_sky.nd rfl (.inl rfl)) pgs_nil)))))
      (pss_one (ps_ret (pe_make T.M_Sky (ok_Skyx_initx T) (hr.mono (by decide)) (by rfl) T.m_Sky T.b_Skyx_initx .nil passL (pa_cons (pv 1) (pa_cons (pv 2) (pa_cons (pv 3) pa_nil))))))), ?_⟩
    obtain ⟨⟨h4, h9⟩, hstars, hnd, h20, hcam⟩ := sky_parts hsky
    rw [keys_len] at h20
    refine ⟨.ref t, rfl, t, _, rfl, ht, rfl, _, _, rfl, _, _, rfl, _, _, rfl, rfl, ?_⟩
    refine ⟨_, rfl, .ref l, rfl, .ref c, rfl, fun x dx nx ndx nex => ?_⟩
    have s2 := same_make (C := a.c_Sky) nx ndx
    refine ⟨x, dx, n, l, c, ks, cam, rfl, upd_same, s2.seq hl, (fun p hp => sqT_up s2 (hk p hp)), sqT_up s2 hc, by omega, fun _ H4 kq hK hpq hascq kp => ⟨rfl, ?_⟩, fun hbad => by rw [hsky] at hbad; cases hbad⟩
    have S4 : Same H H4 := fun z o e => kp _ _ (s2 _ _ e) (ne_of_none e nx)
    refine k H4 x kq S4 hK (asc_unique hascq hasc (hpq.map _) (fun y hy => stars_fit hstars h9 y ((hpq.map _).mem_iff.mp hy)))

theorem ok__law_offset (T : Txt P K mg a) : FnOk P w K mg base CX0 1 a.f__law_offset a.fd__law_offset ["parts", "attitude", "star"] (spLOff K) := by
  refine T.F__law_offset.ok sc__law_offset (fun vs H Q E h => ?_) (fun cdv A outer s H vs Q E hr h => ?_)
  · obtain ⟨pp, pa, ps, n, ks, r, b, g, l, x, y, q, sx, sy, bb, rfl, _⟩ := h
    rfl
  · obtain ⟨pp, pa, ps, n, ks, r, b, g, l, x, y, q, sx, sy, bb, rfl, ⟨lk, ck, hpp, hl, ht, hc⟩, h4, h9, hcam, hpa, q0, q3, hps, k1, k2⟩ := h
    refine ⟨_, (pss_cons (ps_asg (pv 0) (pg_tup rfl (pgs_cons (pg_name (i := 3) sc__law_offset.nd rfl (.inr rfl)) (pgs_cons (pg_name (i := 4) sc__law_offset.nd rfl (.inl rfl)) (pgs_cons (pg_name (i := 5) sc__law_offset.nd rfl (.inl rfl)) pgs_nil)))))
      (pss_cons (ps_set (i := 6) sc__law_offset.nd rfl (.inr rfl) (pe_op op_add (pe_ix ix_seq (pv 5) pe_int (fun _ _ => rfl)) (pe_ix ix_seq (pv 5) pe_int (fun _ _ => rfl))))
      (pss_cons (ps_setLc (i := 7) rfl sc__law_offset.nd rfl rfl (sw_true rfl rfl rfl (by decide +kernel)) (g := gName 10) (tt := tYes) (own := [("k", 10)]) (pi_list (pe_lstM (pa_cons pe_int (pa_cons pe_int pa_nil)))) (blkOk_by (own := [("k", 10)]) (N := ["parts", "attitude", "star", "side", "stars", "camera", "room", "pair", "x", "y", "k", "number"]) (sc := defScope s__law_offset) (by decide +kernel)) (fun _ _ _ _ _ => (pg_name (i := 10) sc__law_offset.nd rfl (.inl rfl))) (fun _ _ _ _ _ => pts_nil) (fun _ _ _ _ _ => (pe_op op_mod (pe_callTy call_int1 (by rfl) T.z_int (by decide +kernel) (pa_cons (pe_op op_sub (pe_ix (ix_seqK (K := K)) (pv 2) (pv 10) (fun _ _ => rfl)) (pe_ix (ix_seqK (K := K)) (pv 1) (pv 10) (fun _ _ => rfl))) pa_nil)) (pv 3))))
      (C8.pss_cut (ps_asg (pe_lc (g := gName 11) (tt := tYes) (own := [("number", 11)]) rfl sc__law_offset.nd (pi_list (pv 7)) (blkOk_by (own := [("number", 11)]) (N := ["parts", "attitude", "star", "side", "stars", "camera", "room", "pair", "x", "y", "k", "number"]) (sc := defScope s__law_offset) (by decide +kernel)) (fun _ _ _ _ _ => (pg_name (i := 11) sc__law_offset.nd rfl (.inl rfl))) (fun _ _ _ _ _ => pts_nil) (fun _ _ _ _ _ => (pe_ifExp (pt_cmpR op_gt (pv 11) (pv 6) (nomark _)) (pe_op op_sub (pv 11) (pv 3)) (pv 11)))) (pg_seq rfl (pgs_cons (pg_name (i := 8) sc__law_offset.nd rfl (.inl rfl)) (pgs_cons (pg_name (i := 9) sc__law_offset.nd rfl (.inl rfl)) pgs_nil))))
      (pss_cons (ps_if (pt_cmpR op_lt (pe_callB (call_min2 rfl) (by rfl) T.z_min (by decide +kernel) (pa_cons (pv 8) (pa_cons (pv 9) pa_nil))) (pe_un un_neg (pv 6)) (nomark _)) (pss_one (ps_ret pe_non)) pss_nil)
      (pss_one (ps_ret (pe_ix ix_seq (pe_lstM (pa_cons (pe_tupM (pa_cons (pv 8) (pa_cons (pv 9) pa_nil))) (pa_cons (pe_tupM (pa_cons (pv 9) (pa_cons (pe_un un_neg (pv 8)) pa_nil))) (pa_cons (pe_tupM (pa_cons (pe_un un_neg (pv 8)) (pa_cons (pe_un un_neg (pv 9)) pa_nil))) (pa_cons (pe_tupM (pa_cons (pe_un un_neg (pv 9)) (pa_cons (pv 8) pa_nil))) pa_nil))))) (pe_ix ix_seq (pv 1) pe_int (fun _ _ => rfl)) (fun _ _ => rfl))))))))), ?_⟩
    obtain ⟨c1, c2, c3, c4, c5, c6, c7, c8, c9, c10⟩ : 0 ≤ r ∧ r ≤ 4 ∧ 0 ≤ b ∧ b ≤ 2 ∧ 0 ≤ g ∧ g ≤ 2 ∧ 1 ≤ l ∧ l ≤ 9 ∧ b ≤ r ∧ 2 * (r + b) + 1 ≤ n := of_decide_eq_true hcam
    have hn : 0 < n := by omega
    refine ⟨.ref pp, rfl, pp, _, rfl, hpp, rfl, _, _, rfl, _, _, rfl, _, _, rfl, rfl, ?_⟩
    refine ⟨.ref ck, rfl, .inr (.inl ⟨ck, _, 0, .int r, rfl, rfl, hc, rfl, .ref ck, rfl, .inr (.inl ⟨ck, _, 1, .int b, rfl, rfl, hc, rfl, _, _, rfl, rfl, ?_⟩)⟩)⟩
    obtain ⟨p0, hp0⟩ : ∃ p0 : Int, (sx - x) % n = p0 := ⟨_, rfl⟩
    obtain ⟨p9, hp9⟩ : ∃ p9 : Int, (sy - y) % n = p9 := ⟨_, rfl⟩
    refine ⟨(by show 2 ≤ sizeLine; decide), fun l1 H1 s1 n1 e1 => ⟨l1, rfl, ⟨_, .inl (.inl e1)⟩, fun D nD => lc_list (K := K) (a := l1) (xs := [.int 0, .int 1]) (fun i H2 => Same H1 H2 ∧ H2 D = some (.lst (([p0, p9].take i).map V.int))) ⟨same_new nD, upd_same⟩ (fun i H2 _ ⟨s, _⟩ => .inl (.inl (s _ _ e1))) ?_ ?_⟩⟩
    · rintro i v H2 hi ⟨s2, e2⟩
      have S2 := s1.trans s2
      have hps2 := sqT_up S2 hps
      have hpa2 := sqT_up S2 hpa
      refine ⟨rfl, ?_⟩
      match i, hi, e2 with
      | 0, hi, e2 =>
        cases Option.some.inj hi
        refine ⟨.ref ps, rfl, _, rfl, .inr (.inl ⟨ps, _, 0, .int sx, rfl, rfl, hps2, rfl, .ref pa, rfl, _, rfl, .inr (.inl ⟨pa, _, 0, .int x, rfl, rfl, hpa2, rfl, _, _, rfl, rfl, .inl ⟨_, rfl, _, rfl, _, _, rfl, rfl, hn, ?_⟩⟩)⟩)⟩
        exact ⟨_, e2, by show 0 < sizeLine; decide, same_put nD s2, by rw [upd_same, ← hp0]; rfl⟩
      | 1, hi, e2 =>
        cases Option.some.inj hi
        refine ⟨.ref ps, rfl, _, rfl, .inr (.inl ⟨ps, _, 1, .int sy, rfl, rfl, hps2, rfl, .ref pa, rfl, _, rfl, .inr (.inl ⟨pa, _, 1, .int y, rfl, rfl, hpa2, rfl, _, _, rfl, rfl, .inl ⟨_, rfl, _, rfl, _, _, rfl, rfl, hn, ?_⟩⟩)⟩)⟩
        exact ⟨_, e2, by show 1 < sizeLine; decide, same_put nD s2, by rw [upd_same, ← hp9]; rfl⟩
    · rintro H2 ⟨s2, eD⟩
      have S2 := s1.trans s2
      have eD : H2 D = some (.lst ([p0, p9].map V.int)) := eD
      refine ⟨fun σ H3 => σ = [some (.ref pp), some (.ref pa), some (.ref ps), some (.int n), some (.ref lk), some (.ref ck), some (.int (r + b)), some (.ref D), some (.int (if p0 > r + b then p0 - n else p0)), some (.int (if p9 > r + b then p9 - n else p9)), none, none] ∧ Same H H3, ?_, ?_⟩
      · refine ⟨.ref D, rfl, D, rfl, ⟨_, .inl (.inl eD)⟩, fun D2 nD2 => lc_list (K := K) (a := D) (xs := [p0, p9].map V.int) (fun i H3 => Same H2 H3 ∧ H3 D2 = some (.lst (([if p0 > r + b then p0 - n else p0, if p9 > r + b then p9 - n else p9].take i).map V.int))) ⟨same_new nD2, upd_same⟩ (fun i H3 _ ⟨s, _⟩ => .inl (.inl (s _ _ eD))) ?_ ?_⟩
        · rintro i v H3 hi ⟨s3, e3⟩
          refine ⟨rfl, ?_⟩
          match i, hi, e3 with
          | 0, hi, e3 =>
            cases Option.some.inj hi
            refine ⟨_, rfl, _, rfl, _, _, rfl, rfl, _, rfl, ite2 (fun g1 => ?_) (fun g1 => ?_)⟩
            · have g2 : p0 > r + b := of_decide_eq_true g1
              refine ⟨_, rfl, _, rfl, _, _, rfl, rfl, ?_⟩
              rw [if_pos g2] at e3 ⊢
              exact ⟨_, e3, by show 0 < sizeLine; decide, same_put nD2 s3, by rw [upd_same]; rfl⟩
            · have g2 : ¬ p0 > r + b := fun z => g1 (decide_eq_true z)
              refine ⟨_, rfl, ?_⟩
              rw [if_neg g2] at e3 ⊢
              exact ⟨_, e3, by show 0 < sizeLine; decide, same_put nD2 s3, by rw [upd_same]; rfl⟩
          | 1, hi, e3 =>
            cases Option.some.inj hi
            refine ⟨_, rfl, _, rfl, _, _, rfl, rfl, _, rfl, ite2 (fun g1 => ?_) (fun g1 => ?_)⟩
            · have g2 : p9 > r + b := of_decide_eq_true g1
              refine ⟨_, rfl, _, rfl, _, _, rfl, rfl, ?_⟩
              rw [if_pos g2] at e3 ⊢
              exact ⟨_, e3, by show 1 < sizeLine; decide, same_put nD2 s3, by rw [upd_same]; rfl⟩
            · have g2 : ¬ p9 > r + b := fun z => g1 (decide_eq_true z)
              refine ⟨_, rfl, ?_⟩
              rw [if_neg g2] at e3 ⊢
              exact ⟨_, e3, by show 1 < sizeLine; decide, same_put nD2 s3, by rw [upd_same]; rfl⟩
        · rintro H3 ⟨s3, e3⟩
          have e3' : H3 D2 = some (.lst ([if p0 > r + b then p0 - n else p0, if p9 > r + b then p9 - n else p9].map V.int)) := e3
          exact ⟨D2, _, rfl, .inr (.inl (.inl e3')), rfl, _, _, rfl, _, _, rfl, rfl, rfl, S2.trans s3⟩
      · rintro σ H3 ⟨rfl, S3⟩
        obtain ⟨hno, hyes⟩ := off_law (n := n) (r := r) (b := b) (g := g) (l := l) (x := x) (y := y) (q := q) (sx := sx) (sy := sy) (bb := bb) h4 h9 c10 (by omega) q0 q3 hp0 hp9
        generalize (if p0 > r + b then p0 - n else p0) = X at hno hyes ⊢
        generalize (if p9 > r + b then p9 - n else p9) = Y at hno hyes ⊢
        refine ⟨_, rfl, _, rfl, _, _, rfl, _, rfl, _, rfl, _, _, rfl, rfl, _, rfl, ite2 (fun g1 => ?_) (fun g1 => ?_)⟩
        · exact k1 (hno (of_decide_eq_true g1)) H3 S3
        · have g2 := hyes (fun z => g1 (decide_eq_true z))
          have hpa3 := sqT_up S3 hpa
          refine ⟨_, rfl, _, rfl, (by show 2 ≤ sizeLine; decide), fun t0 G0 u0 w0 => ?_⟩
          refine ⟨_, rfl, _, rfl, _, rfl, (by show 2 ≤ sizeLine; decide), fun t1 G1 u1 w1 => ?_⟩
          refine ⟨_, rfl, _, rfl, _, rfl, _, rfl, (by show 2 ≤ sizeLine; decide), fun t2 G2 u2 w2 => ?_⟩
          refine ⟨_, rfl, _, rfl, _, rfl, (by show 2 ≤ sizeLine; decide), fun t3 G3 u3 w3 => ?_⟩
          refine ⟨(by show 4 ≤ sizeLine; decide), fun ll H4 s4 n4 e4 => ?_⟩
          have S34 := (((u0.trans u1).trans u2).trans u3).trans s4
          have S4 := S3.trans S34
          refine ⟨.ref pa, rfl, .inr (.inl ⟨pa, _, 2, .int q, rfl, rfl, sqT_up S34 hpa3, rfl, ?_⟩)⟩
          rcases quarter_cases q0 q3 with rfl | rfl | rfl | rfl
          · exact .inl ⟨ll, _, _, _, rfl, rfl, .inl (.inl e4), rfl, k2 X Y g2 H4 t0 S4 (sqT_up (((u1.trans u2).trans u3).trans s4) w0)⟩
          · exact .inl ⟨ll, _, _, _, rfl, rfl, .inl (.inl e4), rfl, k2 Y (-X) g2 H4 t1 S4 (sqT_up ((u2.trans u3).trans s4) w1)⟩
          · exact .inl ⟨ll, _, _, _, rfl, rfl, .inl (.inl e4), rfl, k2 (-X) (-Y) g2 H4 t2 S4 (sqT_up (u3.trans s4) w2)⟩
          · exact .inl ⟨ll, _, _, _, rfl, rfl, .inl (.inl e4), rfl, k2 (-Y) X g2 H4 t3 S4 (sqT_up s4 w3)⟩

theorem ok__law_sight (T : Txt P K mg a) : FnOk P w K mg base CX0 2 a.f__law_sight a.fd__law_sight ["parts", "attitude"] (spSight35 K) := by
  refine T.F__law_sight.ok sc__law_sight (fun vs H Q E h => ?_) (fun cdv A outer s H vs Q E hr h => ?_)
  · obtain ⟨pp, pa, n, r, b, g, l, ks, at_, rfl, _⟩ := h
    rfl
  · obtain ⟨pp, pa, n, r, b, g, l, ks, at_, rfl, hP, hsky, hpa, hpose, k⟩ := h
    refine ⟨_, (pss_cons (ps_asg (pe_ix ix_seq (pv 0) pe_int (fun _ _ => rfl)) (pg_tup rfl (pgs_cons (pg_name (i := 2) sc__law_sight.nd rfl (.inl rfl)) (pgs_cons (pg_name (i := 3) sc__law_sight.nd rfl (.inl rfl)) (pgs_cons (pg_name (i := 4) sc__law_sight.nd rfl (.inl rfl)) (pgs_cons (pg_name (i := 5) sc__law_sight.nd rfl (.inl rfl)) pgs_nil))))))
      (pss_cons (ps_set (i := 6) sc__law_sight.nd rfl (.inl rfl) (pe_lstM pa_nil))
      (pss_cons (ps_for PassesOwn.never rfl (pi_range1 (by rfl) T.z_range (pa_cons (pe_callB call_len_seq (by rfl) T.z_len (by decide +kernel) (pa_cons (pe_ix ix_seq (pv 0) pe_int (fun _ _ => rfl)) pa_nil)) pa_nil)) (pg_name (i := 7) sc__law_sight.nd rfl (.inl rfl)) (pss_cons (ps_set (i := 8) sc__law_sight.nd rfl (.inl rfl) (pe_ix ix_seq (pe_ix ix_seq (pv 0) pe_int (fun _ _ => rfl)) (pv 7) (fun _ _ => rfl)))
      (pss_cons (ps_set (i := 9) sc__law_sight.nd rfl (.inl rfl) (pe_call (ok__law_offset T) (hr.mono (by decide)) (by rfl) T.m__law_offset T.F__law_offset.kp T.b__law_offset .nil pass0 (pa_cons (pv 0) (pa_cons (pv 1) (pa_cons (pv 8) pa_nil)))))
      (pss_one (ps_if (PW.pt (pw_and (pt_cmpR op_notN (pv 9) pe_non (nomark _)) (pw_and1 (pt_cmpR op_ge (pe_ix ix_seq (pv 8) pe_int (fun _ _ => rfl)) (pe_op op_sub (pv 5) (pv 4)) (nomark _))))) (pss_cons (ps_set (i := 10) sc__law_sight.nd rfl (.inl rfl) (pe_cmpR op_le (pe_callB (call_max2 rfl) (by rfl) T.z_max (by decide +kernel) (pa_cons (pe_callB call_abs (by rfl) T.z_abs (by decide +kernel) (pa_cons (pe_ix ix_seq (pv 9) pe_int (fun _ _ => rfl)) pa_nil)) (pa_cons (pe_callB call_abs (by rfl) T.z_abs (by decide +kernel) (pa_cons (pe_ix ix_seq (pv 9) pe_int (fun _ _ => rfl)) pa_nil)) pa_nil))) (pe_op op_sub (pv 2) (pv 3)) (nomark _)))
      (pss_one (ps_expr (pe_bm PySem.F.plainAttrs_list PySem.F.slot_list_append PySem.F.type_list_append mt_append (pv 6) (pa_cons (pe_tupM (pa_cons (pv 7) (pa_cons (pv 9) (pa_cons (pe_ix ix_seq (pv 8) pe_int (fun _ _ => rfl)) (pa_cons (pe_and (pv 10) (pe_one (pe_cmpR op_ge (pe_ix ix_seq (pv 8) pe_int (fun _ _ => rfl)) (pe_op op_add (pv 5) (pv 4)) (nomark _)))) pa_nil))))) pa_nil))))) pss_nil)))))
      (pss_one (ps_ret (pv 6)))))), ?_⟩
    obtain ⟨⟨h4, h9⟩, hstars, hnd, h20, hcam⟩ := sky_parts hsky
    obtain ⟨x, y, q, rfl, _, _, _, _, q0, q3⟩ := pose_form hpose
    obtain ⟨lk, ck, hpp, hl, ht, hc⟩ := id hP
    rw [keys_len] at h20
    refine ⟨.ref pp, rfl, .inr (.inl ⟨pp, _, 2, .ref ck, rfl, rfl, hpp, rfl, ck, _, rfl, hc, rfl, _, _, rfl, _, _, rfl, _, _, rfl, _, _, rfl, rfl, ?_⟩)⟩
    refine ⟨Nat.zero_le _, fun D H0 s0 nD e0 => ?_⟩
    refine ⟨.ref pp, rfl, .inr (.inl ⟨pp, _, 1, .ref lk, rfl, rfl, sqT_up s0 hpp, rfl, lk, _, rfl, .inl (s0.seq hl), ((refs ks).length : Int), rfl, by rw [refs_len]; omega, by rw [refs_len]; omega, for_range (lo := 0) (n := (refs ks).length) (fun i σ H2 => ∃ (z7 z8 z9 z10 : Option V) (xs : SightL), σ = [some (.ref pp), some (.ref pa), some (.int r), some (.int b), some (.int g), some (.int l), some (.ref D), z7, z8, z9, z10] ∧ Same H H2 ∧ H2 D = some (.lst (siR xs)) ∧ SiAt K H2 (isSure r b g l) xs ∧ siD xs = seenI n [r, b, g, l] [x, y, q] 0 ((keys ks).take i) ∧ xs.length ≤ i) ⟨_, _, _, _, [], rfl, s0, e0, (fun e he => nomatch he), rfl, Nat.le_refl _⟩ ?_ ?_⟩)⟩
    · rintro i σ H2 hi ⟨z7, z8, z9, z10, xs, rfl, s2, e2, x2, d2, l2⟩
      have hi' : i < ks.length := by rw [refs_len] at hi; exact hi
      have hek : ks[i]? = some ks[i] := List.getElem?_eq_getElem hi'
      have hkk : (keys ks)[i]? = some ks[i].2 := by unfold keys; rw [List.getElem?_map, hek]; rfl
      obtain ⟨sx, sy, bb, e5, _⟩ := star_form (List.all_eq_true.mp hstars ks[i].2 (List.mem_of_getElem? hkk))
      have hst := sqT_up s2 (ht ks[i] (List.getElem_mem _))
      rw [e5] at hst hkk
      have hat : atI (refs ks) (0 + (i : Int)) = some (.ref ks[i].1) := by
        rw [Int.zero_add]
        exact atI_nat (by unfold refs; rw [List.getElem?_map, hek]; rfl)
      have htk : (keys ks).take (i + 1) = (keys ks).take i ++ [[sx, sy, bb]] := by rw [List.take_add_one, hkk]; rfl
      have hlen : ((keys ks).take i).length = i := by rw [List.length_take, keys_len]; omega
      have hno : seenOne n [r, b, g, l] [x, y, q] [sx, sy, bb] = none → siD xs = seenI n [r, b, g, l] [x, y, q] 0 ((keys ks).take (i + 1)) := fun e => by
        rw [htk, seenI_push, e, List.append_nil]
        exact d2
      refine ⟨.ref pp, rfl, .inr (.inl ⟨pp, _, 1, .ref lk, rfl, rfl, sqT_up s2 hpp, rfl, _, rfl, .inl ⟨lk, _, _, _, rfl, rfl, s2.seq hl, hat, ?_⟩⟩)⟩
      refine ⟨.ref pp, rfl, .ref pa, rfl, .ref ks[i].1, rfl, pp, pa, ks[i].1, n, ks, r, b, g, l, x, y, q, sx, sy, bb, rfl, parts_up s2 hP, h4, h9, hcam, sqT_up s2 hpa, q0, q3, hst, fun en H3 s3 => ?_, fun u v es H3 t s3 tt => ?_⟩
      · refine ⟨.non, rfl, rfl, _, rfl, iteF ?_⟩
        refine ⟨_, _, _, _, xs, rfl, s2.trans s3, s3 _ _ e2, siAt_up s3 x2, hno ?_, by omega⟩
        unfold seenOne
        rw [en]
      · have hst3 := sqT_up s3 hst
        refine ⟨.ref t, rfl, rfl, _, rfl, iteT ?_⟩
        refine ⟨.ref ks[i].1, rfl, .inr (.inl ⟨ks[i].1, _, 2, .int bb, rfl, rfl, hst3, rfl, _, rfl, _, rfl, _, _, rfl, rfl, _, _, rfl, rfl, _, rfl, ite2 (fun g1 => ?_) (fun g1 => ?_)⟩)⟩
        · have hb : l - g ≤ bb := of_decide_eq_true g1
          have hsome : seenOne n [r, b, g, l] [x, y, q] [sx, sy, bb] = some [u, v, bb] := by
            unfold seenOne
            rw [es]
            exact if_pos hb
          have hyes : siD xs ++ [((i : Int), [u, v, bb])] = seenI n [r, b, g, l] [x, y, q] 0 ((keys ks).take (i + 1)) := by
            rw [htk, seenI_push, hsome, d2, hlen, Nat.zero_add]
          refine ⟨.ref t, rfl, .inr (.inl ⟨t, _, 0, .int u, rfl, rfl, tt, rfl, _, rfl, .ref t, rfl, .inr (.inl ⟨t, _, 1, .int v, rfl, rfl, tt, rfl, _, rfl, _, _, rfl, ?_⟩)⟩)⟩
          refine ⟨_, rfl, _, rfl, _, _, rfl, rfl, _, _, rfl, rfl, ?_⟩
          have e3 := s3 _ _ e2
          have fin : ∀ (fl : Bool) (p : Addr) (H4 : Hp), fl = isSure r b g l [u, v, bb] → Same H3 H4 → SqT K H4 p [.int (0 + (i : Int)), .ref t, .int bb, .bl fl] → ∃ (z7 z8 z9 z10 : Option V) (xs' : SightL), [some (V.ref pp), some (.ref pa), some (.int r), some (.int b), some (.int g), some (.int l), some (.ref D), some (.int (0 + (i : Int))), some (.ref ks[i].1), some (.ref t), some (.bl (decide ((if (if v < 0 then -v else v) > (if u < 0 then -u else u) then (if v < 0 then -v else v) else (if u < 0 then -u else u)) ≤ r - b)))] = [some (.ref pp), some (.ref pa), some (.int r), some (.int b), some (.int g), some (.int l), some (.ref D), z7, z8, z9, z10] ∧ Same H (upd H4 D (.lst (siR xs ++ [V.ref p]))) ∧ (upd H4 D (.lst (siR xs ++ [V.ref p]))) D = some (.lst (siR xs')) ∧ SiAt K (upd H4 D (.lst (siR xs ++ [V.ref p]))) (isSure r b g l) xs' ∧ siD xs' = seenI n [r, b, g, l] [x, y, q] 0 ((keys ks).take (i + 1)) ∧ xs'.length ≤ i + 1 := fun fl p H4 hfl s4 tp => by
            have e4 := s4 _ _ e3
            have S4 := s3.trans s4
            rw [hfl, Int.zero_add] at tp
            refine ⟨_, _, _, _, xs ++ [(p, t, (i : Int), [u, v, bb])], rfl, same_put nD (s2.trans S4), by rw [upd_same]; exact congrArg (fun z => some (HO.lst z)) (siR_push xs (p, t, (i : Int), [u, v, bb])), siAt_app (siAt_put e4 (siAt_up S4 x2)) (siAt_one (sqT_lst e4 tp) (sqT_lst e4 (sqT_up s4 tt))), ?_, by rw [List.length_append]; show xs.length + 1 ≤ _; omega⟩
            rw [siD_push]
            exact hyes
          refine ⟨.ref D, rfl, .inl ⟨rfl, _, .inl (.inl e3)⟩, ?_⟩
          refine ⟨_, rfl, .ref t, rfl, .ref ks[i].1, rfl, .inr (.inl ⟨ks[i].1, _, 2, .int bb, rfl, rfl, hst3, rfl, ?_⟩)⟩
          refine ⟨_, rfl, _, rfl, ite2 (fun g2 => ?_) (fun g2 => ?_)⟩
          · have m1 : iabs u ≤ r - b ∧ iabs v ≤ r - b := max2_le.mp (of_decide_eq_true g2)
            refine ⟨.ref ks[i].1, rfl, .inr (.inl ⟨ks[i].1, _, 2, .int bb, rfl, rfl, hst3, rfl, _, rfl, _, rfl, _, _, rfl, rfl, _, _, rfl, rfl, (by show 4 ≤ sizeLine; decide), fun p H4 s4 tp => ?_⟩)⟩
            refine ⟨D, _, _, rfl, rfl, s4 _ _ e3, sizeN (by rw [siR_len]; omega), ?_⟩
            refine fin _ p H4 ?_ s4 tp
            show decide (bb ≥ l + g) = (decide (iabs u ≤ r - b) && decide (iabs v ≤ r - b) && decide (l + g ≤ bb))
            rw [decide_eq_true m1.1, decide_eq_true m1.2]
            rfl
          · refine ⟨(by show 4 ≤ sizeLine; decide), fun p H4 s4 tp => ?_⟩
            refine ⟨D, _, _, rfl, rfl, s4 _ _ e3, sizeN (by rw [siR_len]; omega), ?_⟩
            refine fin _ p H4 ?_ s4 tp
            have hn : ¬ (iabs u ≤ r - b ∧ iabs v ≤ r - b) := fun z => g2 (decide_eq_true (max2_le.mpr z))
            show false = (decide (iabs u ≤ r - b) && decide (iabs v ≤ r - b) && decide (l + g ≤ bb))
            by_cases z : iabs u ≤ r - b
            · rw [decide_eq_true z, decide_eq_false fun w => hn ⟨z, w⟩]
              rfl
            · rw [decide_eq_false z]
              rfl
        · refine ⟨_, _, _, _, xs, rfl, s2.trans s3, s3 _ _ e2, siAt_up s3 x2, hno ?_, by omega⟩
          unfold seenOne
          rw [es]
          exact if_neg fun z => g1 (decide_eq_true z)
    · rintro σ H2 ⟨z7, z8, z9, z10, xs, rfl, s2, e2, x2, d2, l2⟩
      rw [refs_len, ← keys_len, List.take_length] at d2
      exact ⟨.ref D, rfl, k H2 D xs s2 nD e2 x2 d2⟩

theorem ok__law_near (T : Txt P K mg a) : FnOk P w K mg base CX0 1 a.f__law_near a.fd__law_near ["parts", "one", "other", "times"] (spNear35 K) := by
  refine T.F__law_near.ok sc__law_near (fun vs H Q E h => ?_) (fun cdv A outer s H vs Q E hr h => ?_)
  · obtain ⟨pp, a1, p1, a2, p2, t, n, r, b, g, l, n1, u1, v1, c1, n2, u2, v2, c2, y1, y2, ks, rfl, _⟩ := h
    rfl
  · obtain ⟨pp, a1, p1, a2, p2, t, n, r, b, g, l, n1, u1, v1, c1, n2, u2, v2, c2, y1, y2, ks, rfl, t0, t1, hP, h1, h2, h3, h4, k⟩ := h
    refine ⟨_, (pss_cons (ps_set (i := 4) sc__law_near.nd rfl (.inl rfl) (pe_callB (call_max2 rfl) (by rfl) T.z_max (by decide +kernel) (pa_cons (pe_callB call_abs (by rfl) T.z_abs (by decide +kernel) (pa_cons (pe_op op_sub (pe_ix ix_seq (pe_ix ix_seq (pv 1) pe_int (fun _ _ => rfl)) pe_int (fun _ _ => rfl)) (pe_ix ix_seq (pe_ix ix_seq (pv 2) pe_int (fun _ _ => rfl)) pe_int (fun _ _ => rfl))) pa_nil)) (pa_cons (pe_callB call_abs (by rfl) T.z_abs (by decide +kernel) (pa_cons (pe_op op_sub (pe_ix ix_seq (pe_ix ix_seq (pv 1) pe_int (fun _ _ => rfl)) pe_int (fun _ _ => rfl)) (pe_ix ix_seq (pe_ix ix_seq (pv 2) pe_int (fun _ _ => rfl)) pe_int (fun _ _ => rfl))) pa_nil)) pa_nil))))
      (pss_one (ps_ret (pe_and (pe_cmpR op_le (pv 4) (pe_op op_mul (pv 3) (pe_ix ix_seq (pe_ix ix_seq (pv 0) pe_int (fun _ _ => rfl)) pe_int (fun _ _ => rfl))) (nomark _)) (pe_one (pe_cmpR op_le (pe_callB call_abs (by rfl) T.z_abs (by decide +kernel) (pa_cons (pe_op op_sub (pe_ix ix_seq (pv 1) pe_int (fun _ _ => rfl)) (pe_ix ix_seq (pv 2) pe_int (fun _ _ => rfl))) pa_nil)) (pe_op op_mul (pv 3) (pe_ix ix_seq (pe_ix ix_seq (pv 0) pe_int (fun _ _ => rfl)) pe_int (fun _ _ => rfl))) (nomark _))))))), ?_⟩
    obtain ⟨lk, ck, hpp, hl, ht, hc⟩ := id hP
    refine ⟨.ref a1, rfl, .inr (.inl ⟨a1, _, 1, .ref p1, rfl, rfl, h1, rfl, .inr (.inl ⟨p1, _, 0, .int u1, rfl, rfl, h2, rfl, .ref a2, rfl, .inr (.inl ⟨a2, _, 1, .ref p2, rfl, rfl, h3, rfl, .inr (.inl ⟨p2, _, 0, .int u2, rfl, rfl, h4, rfl, _, _, rfl, rfl, _, rfl, ?_⟩)⟩)⟩)⟩)⟩
    refine ⟨.ref a1, rfl, .inr (.inl ⟨a1, _, 1, .ref p1, rfl, rfl, h1, rfl, .inr (.inl ⟨p1, _, 1, .int v1, rfl, rfl, h2, rfl, .ref a2, rfl, .inr (.inl ⟨a2, _, 1, .ref p2, rfl, rfl, h3, rfl, .inr (.inl ⟨p2, _, 1, .int v2, rfl, rfl, h4, rfl, _, _, rfl, rfl, _, rfl, _, _, rfl, ?_⟩)⟩)⟩)⟩)⟩
    refine ⟨_, rfl, _, rfl, .ref pp, rfl, .inr (.inl ⟨pp, _, 2, .ref ck, rfl, rfl, hpp, rfl, .inr (.inl ⟨ck, _, 1, .int b, rfl, rfl, hc, rfl, _, _, rfl, rfl, .inl ⟨by omega, by omega⟩, _, _, rfl, rfl, ?_⟩)⟩)⟩
    have fin : ∀ b' : Bool, nearC (t * b) (t * g) [u1, v1, c1] [u2, v2, c2] = b' → Q (.bl b') H := fun b' e => e ▸ k
    refine ⟨_, rfl, ite2 (fun g1 => ?_) (fun g1 => ?_)⟩
    · have m1 : iabs (u1 - u2) ≤ t * b ∧ iabs (v1 - v2) ≤ t * b := max2_le.mp (of_decide_eq_true g1)
      refine ⟨.ref a1, rfl, .inr (.inl ⟨a1, _, 2, .int c1, rfl, rfl, h1, rfl, .ref a2, rfl, .inr (.inl ⟨a2, _, 2, .int c2, rfl, rfl, h3, rfl, _, _, rfl, rfl, _, rfl, _, rfl, .ref pp, rfl, .inr (.inl ⟨pp, _, 2, .ref ck, rfl, rfl, hpp, rfl, .inr (.inl ⟨ck, _, 2, .int g, rfl, rfl, hc, rfl, _, _, rfl, rfl, .inl ⟨by omega, by omega⟩, _, _, rfl, rfl, fin _ ?_⟩)⟩)⟩)⟩)⟩
      show decide _ = decide (iabs (c1 - c2) ≤ t * g)
      exact decide_eq_decide.mpr ⟨fun h => h.2.2, fun h => ⟨m1.1, m1.2, h⟩⟩
    · refine fin _ (decide_eq_false fun h => g1 (decide_eq_true (max2_le.mpr ⟨h.1, h.2.1⟩)))

theorem ok__law_rows (T : Txt P K mg a) : FnOk P w K mg base CX0 2 a.f__law_rows a.fd__law_rows ["parts", "here", "there", "times"] (spRows35 K) := by
  refine T.F__law_rows.ok sc__law_rows (fun vs H Q E h => ?_) (fun cdv A outer s H vs Q E hr h => ?_)
  · obtain ⟨pp, h1, h2, t, n, r, b, g, l, ks, f1, f2, xs, ys, rfl, _⟩ := h
    rfl
  · obtain ⟨pp, h1, h2, t, n, r, b, g, l, ks, f1, f2, xs, ys, rfl, t0, t1, hP, e1, x1, l1, e2, x2, l2, k⟩ := h
    refine ⟨_, (pss_cons (ps_set (i := 4) sc__law_rows.nd rfl (.inl rfl) (pe_lstM pa_nil))
      (pss_cons (ps_for PassesOwn.never rfl (pi_list (pv 1)) (pg_name (i := 5) sc__law_rows.nd rfl (.inr rfl)) (pss_one (ps_expr (pe_bm PySem.F.plainAttrs_list PySem.F.slot_list_append PySem.F.type_list_append mt_append (pv 4) (pa_cons (pe_lc (g := gName 6) (own := [("k", 6)]) rfl sc__law_rows.nd (pi_range1 (by rfl) T.z_range (pa_cons (pe_callB call_len_seq (by rfl) T.z_len (by decide +kernel) (pa_cons (pv 2) pa_nil)) pa_nil)) (blkOk_by (own := [("k", 6)]) (N := ["parts", "here", "there", "times", "rows", "one", "k"]) (sc := defScope s__law_rows) (by decide +kernel)) (fun _ _ _ _ _ => (pg_name (i := 6) sc__law_rows.nd rfl (.inl rfl))) (fun _ _ _ _ _ => (pts_one (pt_val (pe_call (ok__law_near T) (hr.mono (by decide)) (by rfl) T.m__law_near T.F__law_near.kp T.b__law_near .nil pass0 (pa_cons (pv 0) (pa_cons (pv 5) (pa_cons (pe_ix (ix_seqK (K := K)) (pv 2) (pv 6) (fun _ _ => rfl)) (pa_cons (pv 3) pa_nil)))))))) (fun _ _ _ _ _ => (pv 6))) pa_nil)))))
      (pss_one (ps_ret (pv 4))))), ?_⟩
    refine ⟨Nat.zero_le _, fun D H0 s0 nD e0 => ?_⟩
    refine ⟨.ref h1, rfl, h1, rfl, ⟨_, .inl (.inl (s0 _ _ e1))⟩, for_list (K := K) (a := h1) (xs := siR xs) (fun i σ H2 => ∃ (z5 z6 : Option V) (tb : Tups), σ = [some (.ref pp), some (.ref h1), some (.ref h2), some (.int t), some (.ref D), z5, z6] ∧ Same H H2 ∧ H2 D = some (.lst (refs tb)) ∧ (∀ q ∈ tb, H2 q.1 = some (.lst (q.2.map V.int))) ∧ keys tb = ((siW xs).take i).map (nearK (t * b) (t * g) (siW ys)) ∧ tb.length ≤ i ∧ ∀ q ∈ tb, q.1 ≠ D) ⟨_, _, [], rfl, s0, e0, (fun q hq => nomatch hq), rfl, Nat.le_refl _, fun q hq => nomatch hq⟩ (fun i σ H2 _ ⟨_, _, _, _, s2, _⟩ => .inl (.inl (s2 _ _ e1))) ?_ ?_⟩
    · rintro i v σ H2 hi ⟨z5, z6, tb, rfl, s2, e2', hq2, k2, l2', hne⟩
      obtain ⟨e, he, rfl⟩ := siR_at hi
      have hem := List.mem_of_getElem? he
      have hwe : (siW xs)[i]? = some e.2.2.2 := by unfold siW; rw [List.getElem?_map, he]; rfl
      have hi9 : i < xs.length := (List.getElem?_eq_some_iff.mp he).1
      obtain ⟨u1, v1, c1, ed, ta, tp⟩ := x1 e hem
      rw [ed] at hwe
      have eh2 := s2 _ _ e2
      have x2' := siAt_up s2 x2
      refine ⟨.ref D, rfl, .inl ⟨rfl, _, .inl (.inl e2')⟩, ?_⟩
      refine ⟨.ref h2, rfl, h2, _, rfl, .inl (.inl (.inl eh2)), ((siR ys).length : Int), rfl, by rw [siR_len]; omega, by rw [siR_len]; omega, fun D2 nD2 => lc_range (lo := 0) (n := (siR ys).length) (fun j H3 => ∃ ls : List Int, Same H2 H3 ∧ H3 D2 = some (.lst (ls.map V.int)) ∧ ls = ((List.range j).filter fun k => match (siW ys)[k]? with | some s => nearC (t * b) (t * g) [u1, v1, c1] s | none => false).map Int.ofNat ∧ ls.length ≤ j) ⟨[], same_new nD2, upd_same, rfl, Nat.le_refl _⟩ ?_ ?_⟩
      · rintro j H3 hj ⟨ls, s3, e3, hls, ll⟩
        refine ⟨rfl, ?_⟩
        have hj' : j < ys.length := by rw [siR_len] at hj; exact hj
        have hey : ys[j]? = some ys[j] := List.getElem?_eq_getElem hj'
        have hwy : (siW ys)[j]? = some ys[j].2.2.2 := by unfold siW; rw [List.getElem?_map, hey]; rfl
        obtain ⟨u2, v2, c2, ed2, ta2, tp2⟩ := siAt_up s3 x2' ys[j] (List.getElem_mem _)
        rw [ed2] at hwy
        have S3 := s2.trans s3
        have hat : atI (siR ys) (0 + (j : Int)) = some (.ref ys[j].1) := by
          rw [Int.zero_add]
          exact atI_nat (by unfold siR; rw [List.getElem?_map, hey]; rfl)
        refine ⟨.ref pp, rfl, .ref e.1, rfl, .ref h2, rfl, _, rfl, .inl ⟨h2, _, _, _, rfl, rfl, .inl (.inl (s3 _ _ eh2)), hat, ?_⟩⟩
        refine ⟨_, rfl, pp, e.1, e.2.1, ys[j].1, ys[j].2.1, t, n, r, b, g, l, e.2.2.1, u1, v1, c1, ys[j].2.2.1, u2, v2, c2, f1 [u1, v1, c1], f2 [u2, v2, c2], ks, rfl, t0, t1, parts_up S3 hP, sqT_up S3 ta, sqT_up S3 tp, ta2, tp2, ?_⟩
        have step : ((List.range (j + 1)).filter fun k => match (siW ys)[k]? with | some s => nearC (t * b) (t * g) [u1, v1, c1] s | none => false).map Int.ofNat = ls ++ (if nearC (t * b) (t * g) [u1, v1, c1] [u2, v2, c2] = true then [(0 + (j : Int))] else []) := by
          rw [List.range_succ, List.filter_append, List.map_append, ← hls]
          refine congrArg _ ?_
          cases hv : nearC (t * b) (t * g) [u1, v1, c1] [u2, v2, c2] with
          | true =>
            rw [if_pos rfl, List.filter_cons_of_pos (by rw [hwy]; exact hv), Int.zero_add]
            rfl
          | false =>
            rw [if_neg (by decide), List.filter_cons_of_neg (by rw [hwy]; show ¬ nearC (t * b) (t * g) [u1, v1, c1] [u2, v2, c2] = true; rw [hv]; decide)]
            rfl
        cases hv : nearC (t * b) (t * g) [u1, v1, c1] [u2, v2, c2] with
        | true =>
          rw [hv, if_pos rfl] at step
          refine ⟨true, rfl, iteT ⟨_, rfl, _, e3, sizeN (by rw [List.length_map]; omega), ls ++ [0 + (j : Int)], same_put nD2 s3, by rw [upd_same, List.map_append]; rfl, step.symm, by rw [List.length_append]; show ls.length + 1 ≤ _; omega⟩⟩
        | false =>
          rw [hv, if_neg (by decide), List.append_nil] at step
          exact ⟨false, rfl, iteF ⟨ls, s3, e3, step.symm, by omega⟩⟩
      · rintro H3 ⟨ls, s3, e3, hls, ll⟩
        have e3D := s3 _ _ e2'
        have hD2 : D2 ≠ D := fun z => by rw [z, e2'] at nD2; cases nD2
        refine ⟨D, _, _, rfl, rfl, e3D, sizeN (by rw [refs_len]; omega), ?_⟩
        have hls' : ls = nearK (t * b) (t * g) (siW ys) [u1, v1, c1] := by
          rw [hls, siR_len, ← siW_len]
          rfl
        refine ⟨_, _, tb ++ [(D2, ls)], rfl, same_put nD (s2.trans s3), by rw [upd_same, ← refs_push], fun q hq => ?_, ?_, by rw [List.length_append]; show tb.length + 1 ≤ _; omega, fun q hq => ?_⟩
        · rcases List.mem_append.mp hq with hq | hq
          · rw [upd_ne (hne q hq)]
            exact s3 _ _ (hq2 q hq)
          · rw [List.mem_singleton.mp hq, upd_ne hD2]
            exact e3
        · rw [keys_push, k2, List.take_add_one, hwe, List.map_append, hls']
          rfl
        · rcases List.mem_append.mp hq with hq | hq
          · exact hne q hq
          · rw [List.mem_singleton.mp hq]
            exact hD2
    · rintro σ H2 ⟨z5, z6, tb, rfl, s2, e2', hq2, k2, l2', hne⟩
      rw [siR_len, ← siW_len, List.take_length] at k2
      exact ⟨.ref D, rfl, k H2 D tb s2 nD e2' hq2 k2⟩

theorem ok__law_shown (T : Txt P K mg a) : FnOk P w K mg base CX0 1 a.f__law_shown a.fd__law_shown ["sighting"] (spShown35 K) := by
  refine T.F__law_shown.ok sc__law_shown (fun vs H Q E h => ?_) (fun cdv A outer s H vs Q E hr h => ?_)
  · obtain ⟨ps, ss, rfl, _⟩ := h
    rfl
  · obtain ⟨ps, ss, rfl, hps, hss, h3, hl, k⟩ := h
    refine ⟨_, (pss_one (ps_ret (pe_lc (g := gName 1) (tt := tYes) (own := [("spot", 1)]) rfl sc__law_shown.nd (pi_tup (pv 0)) (blkOk_by (own := [("spot", 1)]) (N := ["sighting", "spot"]) (sc := defScope s__law_shown) (by decide +kernel)) (fun _ _ _ _ _ => (pg_name (i := 1) sc__law_shown.nd rfl (.inl rfl))) (fun _ _ _ _ _ => pts_nil) (fun _ _ _ _ _ => (pe_tup (pa_cons pe_int (pa_cons (pe_slice (sl_tupAMK (K := K)) (pv 1) po_none (po_some pe_int)) (pa_cons (pe_ix (ix_seqK (K := K)) (pv 1) pe_int (fun _ _ => rfl)) (pa_cons pe_bl pa_nil))))))))), ?_⟩
    refine ⟨.ref ps, rfl, ps, rfl, ⟨_, hps⟩, fun D nD => lc_tup (K := K) (a := ps) (xs := refs ss) (fun i H2 => ∃ xs : SightL, Same H H2 ∧ H2 D = some (.lst (siR xs)) ∧ SiAt K H2 (fun _ => false) xs ∧ siW xs = (keys ss).take i ∧ xs.length ≤ i) ⟨[], same_new nD, upd_same, (fun e he => nomatch he), rfl, Nat.le_refl _⟩ (fun i H2 _ ⟨_, s2, _⟩ => sqT_up s2 hps) ?_ ?_⟩
    · rintro i v H2 hi ⟨xs, s2, e2, t2, w2, l2⟩
      obtain ⟨q, hq, rfl⟩ := refs_at hi
      have hqm := List.mem_of_getElem? hq
      have hkq : (keys ss)[i]? = some q.2 := by unfold keys; rw [List.getElem?_map, hq]; rfl
      have hi9 : i < ss.length := (List.getElem?_eq_some_iff.mp hq).1
      obtain ⟨u, v, c, e3⟩ := len3 (h3 q.2 (List.mem_of_getElem? hkq))
      have hqt := sqT_up s2 (hss q hqm)
      rw [e3] at hqt hkq
      refine ⟨rfl, ?_⟩
      refine ⟨.ref q.1, rfl, _, rfl, q.1, _, rfl, hqt, fun pl H3 s3 tpl => ?_⟩
      have tpl' : SqT K H3 pl [.int u, .int v] := tpl
      have hqt3 := sqT_up s3 hqt
      refine ⟨.ref q.1, rfl, .inr (.inl ⟨q.1, _, 2, .int c, rfl, rfl, hqt3, rfl, (by show 4 ≤ sizeLine; decide), fun t nt => ?_⟩)⟩
      have s4 : Same H3 (upd H3 t (.tup [.int 0, .ref pl, .int c, .bl false])) := same_new nt
      have t4 : SqT K (upd H3 t (.tup [.int 0, .ref pl, .int c, .bl false])) t [.int 0, .ref pl, .int c, .bl false] := .inl (.inl upd_same)
      generalize upd H3 t (.tup [.int 0, .ref pl, .int c, .bl false]) = H4 at s4 t4 ⊢
      have S := s3.trans s4
      have e4 := S _ _ e2
      refine ⟨_, e4, sizeN (by rw [siR_len]; omega), xs ++ [(t, pl, 0, [u, v, c])], same_put nD (s2.trans S), by rw [upd_same]; exact congrArg (fun z => some (HO.lst z)) (siR_push xs (t, pl, 0, [u, v, c])), siAt_app (siAt_put e4 (siAt_up S t2)) (siAt_one (sqT_lst e4 t4) (sqT_lst e4 (sqT_up s4 tpl'))), ?_, by rw [List.length_append]; show xs.length + 1 ≤ _; omega⟩
      rw [siW_push, w2, List.take_add_one, hkq]
      rfl
    · rintro H2 ⟨xs, s2, e2, t2, w2, l2⟩
      rw [refs_len, ← keys_len, List.take_length] at w2
      exact k H2 D xs s2 nD e2 t2 w2

theorem ok__law_attitude (T : Txt P K mg a) : FnOk P w K mg base CX0 1 a.f__law_attitude a.fd__law_attitude ["parts", "numbers", "at"] (spAtt35 K) := by
  refine T.F__law_attitude.ok sc__law_attitude (fun vs H Q E h => ?_) (fun cdv A outer s H vs Q E hr h => ?_)
  · obtain ⟨pp, p1, ns, at', n, ks, cam, rfl, _⟩ := h
    rfl
  · obtain ⟨pp, p1, ns, at', n, ks, cam, rfl, hP, hsky, hL, hN, ha, hlen, k⟩ := h
    refine ⟨_, (pss_cons (ps_asg (pv 0) (pg_tup rfl (pgs_cons (pg_name (i := 3) sc__law_attitude.nd rfl (.inl rfl)) (pgs_cons (pg_name (i := 4) sc__law_attitude.nd rfl (.inl rfl)) (pgs_cons (pg_name (i := 5) sc__law_attitude.nd rfl (.inl rfl)) pgs_nil)))))
      (pss_cons (ps_set (i := 6) sc__law_attitude.nd rfl (.inl rfl) (pe_tupM (pa_cons (pe_op op_mod (pe_callTy call_int1 (by rfl) T.z_int (by decide +kernel) (pa_cons (pe_ix ix_seq (pv 1) (pv 2) (fun _ _ => rfl)) pa_nil)) (pv 3)) (pa_cons (pe_op op_mod (pe_callTy call_int1 (by rfl) T.z_int (by decide +kernel) (pa_cons (pe_ix ix_seq (pv 1) (pe_op op_add (pv 2) pe_int) (fun _ _ => rfl)) pa_nil)) (pv 3)) (pa_cons (pe_op op_mod (pe_callTy call_int1 (by rfl) T.z_int (by decide +kernel) (pa_cons (pe_ix ix_seq (pv 1) (pe_op op_add (pv 2) pe_int) (fun _ _ => rfl)) pa_nil)) pe_int) pa_nil)))))
      (C8.pss_cut (ps_if (PW.pt (pw_and (pt_cmpR op_gt (pe_callB call_len_seq (by rfl) T.z_len (by decide +kernel) (pa_cons (pv 4) pa_nil)) pe_int (nomark _)) (pw_and1 (pt_cmpR op_gt (pe_op op_mod (pe_callTy call_int1 (by rfl) T.z_int (by decide +kernel) (pa_cons (pe_ix ix_seq (pv 1) (pe_op op_add (pv 2) pe_int) (fun _ _ => rfl)) pa_nil)) pe_int) pe_int (nomark _))))) (pss_cons (ps_set (i := 7) sc__law_attitude.nd rfl (.inl rfl) (pe_ix ix_seq (pv 4) (pe_op op_mod (pe_callTy call_int1 (by rfl) T.z_int (by decide +kernel) (pa_cons (pe_op op_fdiv (pe_ix ix_seq (pv 1) (pe_op op_add (pv 2) pe_int) (fun _ _ => rfl)) pe_int) pa_nil)) (pe_callB call_len_seq (by rfl) T.z_len (by decide +kernel) (pa_cons (pv 4) pa_nil))) (fun _ _ => rfl)))
      (pss_cons (ps_par (i := 8) (j := 9) rfl sc__law_attitude.nd rfl rfl (by decide) rfl rfl (pa_cons (pe_op op_sub (pe_op op_add (pe_ix ix_seq (pv 7) pe_int (fun _ _ => rfl)) (pe_op op_mod (pe_callTy call_int1 (by rfl) T.z_int (by decide +kernel) (pa_cons (pe_ix ix_seq (pv 6) pe_int (fun _ _ => rfl)) pa_nil)) pe_int)) pe_int) (pa_cons (pe_op op_sub (pe_op op_add (pe_ix ix_seq (pv 7) pe_int (fun _ _ => rfl)) (pe_op op_mod (pe_callTy call_int1 (by rfl) T.z_int (by decide +kernel) (pa_cons (pe_ix ix_seq (pv 6) pe_int (fun _ _ => rfl)) pa_nil)) pe_int)) pe_int) pa_nil)) rfl)
      (pss_one (ps_set (i := 6) sc__law_attitude.nd rfl (.inl rfl) (pe_tupM (pa_cons (pe_op op_mod (pe_callTy call_int1 (by rfl) T.z_int (by decide +kernel) (pa_cons (pv 8) pa_nil)) (pv 3)) (pa_cons (pe_op op_mod (pe_callTy call_int1 (by rfl) T.z_int (by decide +kernel) (pa_cons (pv 9) pa_nil)) (pv 3)) (pa_cons (pe_ix ix_seq (pv 6) pe_int (fun _ _ => rfl)) pa_nil)))))))) pss_nil)
      (pss_one (ps_ret (pv 6)))))), ?_⟩
    obtain ⟨⟨h4, h9⟩, hstars, hnd, h20, hcam⟩ := sky_parts hsky
    obtain ⟨lk, ck, hpp, hl, ht, hc⟩ := id hP
    have hn : 0 < n := by omega
    refine ⟨.ref pp, rfl, pp, _, rfl, hpp, rfl, _, _, rfl, _, _, rfl, _, _, rfl, rfl, ?_⟩
    refine ⟨.ref p1, rfl, _, rfl, .inl ⟨p1, _, _, _, rfl, rfl, hL, nthI (by omega) (by omega), .inl ⟨_, rfl, _, rfl, _, _, rfl, rfl, hn, ?_⟩⟩⟩
    refine ⟨.ref p1, rfl, _, rfl, _, _, rfl, rfl, .inl ⟨p1, _, _, _, rfl, rfl, hL, nthI (by omega) (by omega), .inl ⟨_, rfl, _, rfl, _, _, rfl, rfl, hn, ?_⟩⟩⟩
    refine ⟨.ref p1, rfl, _, rfl, _, _, rfl, rfl, .inl ⟨p1, _, _, _, rfl, rfl, hL, nthI (by omega) (by omega), .inl ⟨_, rfl, _, _, rfl, rfl, (show (0 : Int) < 4 by decide), ?_⟩⟩⟩
    refine ⟨(by show 3 ≤ sizeLine; decide), fun pa H1 s1 t1 => ?_⟩
    have b0 := Int.emod_nonneg (numI ns at') (show n ≠ 0 by omega)
    have b1 := Int.emod_lt_of_pos (numI ns at') hn
    have b2 := Int.emod_nonneg (numI ns (at' + 1)) (show n ≠ 0 by omega)
    have b3 := Int.emod_lt_of_pos (numI ns (at' + 1)) hn
    have b4 := Int.emod_nonneg (numI ns (at' + 2)) (show (4 : Int) ≠ 0 by decide)
    have b5 := Int.emod_lt_of_pos (numI ns (at' + 2)) (show (0 : Int) < 4 by decide)
    have t1' : SqT K H1 pa ([numI ns at' % n, numI ns (at' + 1) % n, numI ns (at' + 2) % 4].map V.int) := t1
    generalize numI ns at' % n = f0 at b0 b1 t1'
    generalize numI ns (at' + 1) % n = f1 at b2 b3 t1'
    generalize numI ns (at' + 2) % 4 = f2 at b4 b5 t1'
    refine ⟨fun σ H2 => ∃ (q : Addr) (at_ : List Int) (z7 z8 z9 : Option V), σ = [some (.ref pp), some (.ref p1), some (.int at'), some (.int n), some (.ref lk), some (.ref ck), some (.ref q), z7, z8, z9] ∧ Same H H2 ∧ SqT K H2 q (at_.map V.int) ∧ isPose n at_ = true, ?_, ?_⟩
    · have first : ∀ z7 : Option V, ∃ (q : Addr) (at_ : List Int) (z7' z8 z9 : Option V), [some (.ref pp), some (.ref p1), some (.int at'), some (.int n), some (.ref lk), some (.ref ck), some (.ref pa), z7, none, none] = [some (.ref pp), some (.ref p1), some (.int at'), some (.int n), some (.ref lk), some (.ref ck), some (.ref q), z7', z8, z9] ∧ Same H H1 ∧ SqT K H1 q (at_.map V.int) ∧ isPose n at_ = true := fun z7 => ⟨pa, _, _, _, _, rfl, s1, t1', decide_eq_true ⟨b0, b1, b2, b3, b4, by omega⟩⟩
      have hl1 := s1.seq hl
      have hL1 := s1.seq hL
      refine ⟨.ref lk, rfl, lk, _, rfl, .inl hl1, _, _, rfl, rfl, _, rfl, ite2 (fun g1 => ?_) (fun _ => first _)⟩
      refine ⟨.ref p1, rfl, _, rfl, _, _, rfl, rfl, .inl ⟨p1, _, _, _, rfl, rfl, hL1, nthI (by omega) (by omega), .inl ⟨_, rfl, _, _, rfl, rfl, (show (0 : Int) < 4 by decide), _, _, rfl, rfl, _, rfl, ite2 (fun g2 => ?_) (fun _ => first _)⟩⟩⟩
      have g3 := of_decide_eq_true g1
      rw [refs_len] at g3
      obtain ⟨qs, hqs, eqs⟩ := pickT (cs := ks) (Int.emod_nonneg (numI ns (at' + 3) / 4) (show (ks.length : Int) ≠ 0 by omega)) (Int.emod_lt_of_pos (numI ns (at' + 3) / 4) g3)
      refine ⟨.ref lk, rfl, .ref p1, rfl, _, rfl, _, _, rfl, rfl, .inl ⟨p1, _, _, _, rfl, rfl, hL1, nthI (by omega) (by omega), _, _, rfl, rfl, ⟨by decide, by decide⟩, .inl ⟨_, rfl, .ref lk, rfl, lk, _, rfl, .inl hl1, _, _, rfl, rfl, by rw [refs_len]; exact g3, ?_⟩⟩⟩
      rw [refs_len]
      refine .inl ⟨lk, _, _, _, rfl, rfl, hl1, eqs, ?_⟩
      obtain ⟨sx, sy, bb, e5, _⟩ := star_form (List.all_eq_true.mp hstars qs.2 (List.mem_map_of_mem (f := fun z : Addr × List Int => z.2) hqs))
      have hst := sqT_up s1 (ht qs hqs)
      rw [e5] at hst
      refine ⟨.ref qs.1, rfl, .inr (.inl ⟨qs.1, _, 0, .int sx, rfl, rfl, hst, rfl, .ref pa, rfl, .inr (.inl ⟨pa, _, 0, .int f0, rfl, rfl, t1', rfl, .inl ⟨_, rfl, _, _, rfl, rfl, (show (0 : Int) < 3 by decide), _, _, rfl, rfl, _, _, rfl, rfl, ?_⟩⟩)⟩)⟩
      refine ⟨.ref qs.1, rfl, .inr (.inl ⟨qs.1, _, 1, .int sy, rfl, rfl, hst, rfl, .ref pa, rfl, .inr (.inl ⟨pa, _, 1, .int f1, rfl, rfl, t1', rfl, .inl ⟨_, rfl, _, _, rfl, rfl, (show (0 : Int) < 3 by decide), _, _, rfl, rfl, _, _, rfl, rfl, _, _, rfl, ?_⟩⟩)⟩)⟩
      refine ⟨_, rfl, .inl ⟨_, rfl, _, rfl, _, _, rfl, rfl, hn, _, rfl, .inl ⟨_, rfl, _, rfl, _, _, rfl, rfl, hn, .ref pa, rfl, .inr (.inl ⟨pa, _, 2, .int f2, rfl, rfl, t1', rfl, (by show 3 ≤ sizeLine; decide), fun q H2 s2 t2 => ?_⟩)⟩⟩⟩
      exact ⟨q, [_, _, _], _, _, _, rfl, s1.trans s2, t2, decide_eq_true ⟨Int.emod_nonneg _ (by omega), Int.emod_lt_of_pos _ hn, Int.emod_nonneg _ (by omega), Int.emod_lt_of_pos _ hn, b4, by omega⟩⟩
    · rintro σ H2 ⟨q, at_, z7, z8, z9, rfl, s2, t2, hp⟩
      exact ⟨.ref q, rfl, k H2 q at_ s2 t2 hp⟩

theorem ok__law_spot (T : Txt P K mg a) : FnOk P w K mg base CX0 1 a.f__law_spot a.fd__law_spot ["parts", "sight", "numbers", "at"] (spSpot35 K) := by
  refine T.F__law_spot.ok sc__law_spot (fun vs H Q E h => ?_) (fun cdv A outer s H vs Q E hr h => ?_)
  · obtain ⟨pp, sl, p1, ns, at', n, r, b, g, l, ks, f, xs, rfl, _⟩ := h
    rfl
  · obtain ⟨pp, sl, p1, ns, at', n, r, b, g, l, ks, f, xs, rfl, hP, hcam, esl, hx, hx9, hL, hN, ha, hlen, k⟩ := h
    refine ⟨_, (pss_cons (ps_asg (pe_ix ix_seq (pv 0) pe_int (fun _ _ => rfl)) (pg_tup rfl (pgs_cons (pg_name (i := 4) sc__law_spot.nd rfl (.inl rfl)) (pgs_cons (pg_name (i := 5) sc__law_spot.nd rfl (.inl rfl)) (pgs_cons (pg_name (i := 6) sc__law_spot.nd rfl (.inl rfl)) (pgs_cons (pg_name (i := 7) sc__law_spot.nd rfl (.inl rfl)) pgs_nil))))))
      (pss_cons (ps_par (i := 8) (j := 9) rfl sc__law_spot.nd rfl rfl (by decide) rfl rfl (pa_cons (pe_op op_sub (pe_op op_mod (pe_callTy call_int1 (by rfl) T.z_int (by decide +kernel) (pa_cons (pe_ix ix_seq (pv 2) (pv 3) (fun _ _ => rfl)) pa_nil)) (pe_op op_add (pe_op op_mul pe_int (pv 4)) pe_int)) (pv 4)) (pa_cons (pe_op op_sub (pe_op op_mod (pe_callTy call_int1 (by rfl) T.z_int (by decide +kernel) (pa_cons (pe_ix ix_seq (pv 2) (pe_op op_add (pv 3) pe_int) (fun _ _ => rfl)) pa_nil)) (pe_op op_add (pe_op op_mul pe_int (pv 4)) pe_int)) (pv 4)) pa_nil)) rfl)
      (pss_cons (ps_set (i := 10) sc__law_spot.nd rfl (.inl rfl) (pe_op op_add (pv 7) (pe_op op_mod (pe_callTy call_int1 (by rfl) T.z_int (by decide +kernel) (pa_cons (pe_ix ix_seq (pv 2) (pe_op op_add (pv 3) pe_int) (fun _ _ => rfl)) pa_nil)) (pe_op op_sub (pe_op op_add pe_int (pv 6)) (pv 7)))))
      (C8.pss_cut (ps_if (PW.pt (pw_and (pt_cmpR op_gt (pe_callB call_len_seq (by rfl) T.z_len (by decide +kernel) (pa_cons (pv 1) pa_nil)) pe_int (nomark _)) (pw_and1 (pt_cmpR op_gt (pe_op op_mod (pe_callTy call_int1 (by rfl) T.z_int (by decide +kernel) (pa_cons (pe_ix ix_seq (pv 2) (pe_op op_add (pv 3) pe_int) (fun _ _ => rfl)) pa_nil)) pe_int) pe_int (nomark _))))) (pss_cons (ps_set (i := 11) sc__law_spot.nd rfl (.inl rfl) (pe_ix ix_seq (pv 1) (pe_op op_mod (pe_callTy call_int1 (by rfl) T.z_int (by decide +kernel) (pa_cons (pe_op op_fdiv (pe_ix ix_seq (pv 2) (pe_op op_add (pv 3) pe_int) (fun _ _ => rfl)) pe_int) pa_nil)) (pe_callB call_len_seq (by rfl) T.z_len (by decide +kernel) (pa_cons (pv 1) pa_nil))) (fun _ _ => rfl)))
      (pss_cons (ps_set (i := 8) sc__law_spot.nd rfl (.inl rfl) (pe_callB (call_max2 rfl) (by rfl) T.z_max (by decide +kernel) (pa_cons (pe_un un_neg (pv 4)) (pa_cons (pe_callB (call_min2 rfl) (by rfl) T.z_min (by decide +kernel) (pa_cons (pv 4) (pa_cons (pe_op op_sub (pe_op op_add (pe_ix ix_seq (pe_ix ix_seq (pv 11) pe_int (fun _ _ => rfl)) pe_int (fun _ _ => rfl)) (pe_op op_mod (pe_callTy call_int1 (by rfl) T.z_int (by decide +kernel) (pa_cons (pe_ix ix_seq (pv 2) (pv 3) (fun _ _ => rfl)) pa_nil)) (pe_op op_add (pe_op op_mul pe_int (pv 5)) pe_int))) (pv 5)) pa_nil))) pa_nil))))
      (pss_cons (ps_set (i := 9) sc__law_spot.nd rfl (.inl rfl) (pe_callB (call_max2 rfl) (by rfl) T.z_max (by decide +kernel) (pa_cons (pe_un un_neg (pv 4)) (pa_cons (pe_callB (call_min2 rfl) (by rfl) T.z_min (by decide +kernel) (pa_cons (pv 4) (pa_cons (pe_op op_sub (pe_op op_add (pe_ix ix_seq (pe_ix ix_seq (pv 11) pe_int (fun _ _ => rfl)) pe_int (fun _ _ => rfl)) (pe_op op_mod (pe_callTy call_int1 (by rfl) T.z_int (by decide +kernel) (pa_cons (pe_ix ix_seq (pv 2) (pe_op op_add (pv 3) pe_int) (fun _ _ => rfl)) pa_nil)) (pe_op op_add (pe_op op_mul pe_int (pv 5)) pe_int))) (pv 5)) pa_nil))) pa_nil))))
      (pss_one (ps_set (i := 10) sc__law_spot.nd rfl (.inl rfl) (pe_callB (call_max2 rfl) (by rfl) T.z_max (by decide +kernel) (pa_cons (pv 7) (pa_cons (pe_op op_sub (pe_op op_add (pe_ix ix_seq (pv 11) pe_int (fun _ _ => rfl)) (pe_op op_mod (pe_callTy call_int1 (by rfl) T.z_int (by decide +kernel) (pa_cons (pe_ix ix_seq (pv 2) (pe_op op_add (pv 3) pe_int) (fun _ _ => rfl)) pa_nil)) (pe_op op_add (pe_op op_mul pe_int (pv 6)) pe_int))) (pv 6)) pa_nil)))))))) pss_nil)
      (pss_one (ps_ret (pe_tupM (pa_cons (pv 8) (pa_cons (pv 9) (pa_cons (pv 10) pa_nil)))))))))), ?_⟩
    obtain ⟨lk, ck, hpp, hl, ht, hc⟩ := id hP
    have c := of_decide_eq_true (show decide (0 ≤ r ∧ r ≤ 4 ∧ 0 ≤ b ∧ b ≤ 2 ∧ 0 ≤ g ∧ g ≤ 2 ∧ 1 ≤ l ∧ l ≤ 9 ∧ b ≤ r ∧ 2 * (r + b) + 1 ≤ n) = true from hcam)
    refine ⟨.ref pp, rfl, .inr (.inl ⟨pp, _, 2, .ref ck, rfl, rfl, hpp, rfl, ck, _, rfl, hc, rfl, _, _, rfl, _, _, rfl, _, _, rfl, _, _, rfl, rfl, ?_⟩)⟩
    refine ⟨.ref p1, rfl, _, rfl, .inl ⟨p1, _, _, _, rfl, rfl, hL, nthI (by omega) (by omega), .inl ⟨_, rfl, _, rfl, _, _, rfl, rfl, .inl (by constructor <;> decide), _, _, rfl, rfl, _, _, rfl, rfl, (show (0 : Int) < 2 * r + 1 by omega), _, rfl, _, _, rfl, rfl, ?_⟩⟩⟩
    refine ⟨.ref p1, rfl, _, rfl, _, _, rfl, rfl, .inl ⟨p1, _, _, _, rfl, rfl, hL, nthI (by omega) (by omega), .inl ⟨_, rfl, _, rfl, _, _, rfl, rfl, .inl (by constructor <;> decide), _, _, rfl, rfl, _, _, rfl, rfl, (show (0 : Int) < 2 * r + 1 by omega), _, rfl, _, _, rfl, rfl, _, _, rfl, ?_⟩⟩⟩
    refine ⟨_, rfl, .ref p1, rfl, _, rfl, _, _, rfl, rfl, .inl ⟨p1, _, _, _, rfl, rfl, hL, nthI (by omega) (by omega), .inl ⟨_, rfl, _, rfl, _, _, rfl, rfl, _, rfl, _, _, rfl, rfl, _, _, rfl, rfl, (show (0 : Int) < 10 + g - l by omega), _, _, rfl, rfl, ?_⟩⟩⟩
    have a0 := Int.emod_nonneg (numI ns at') (show 2 * r + 1 ≠ 0 by omega)
    have a1 := Int.emod_lt_of_pos (numI ns at') (show (0 : Int) < 2 * r + 1 by omega)
    have a2 := Int.emod_nonneg (numI ns (at' + 1)) (show 2 * r + 1 ≠ 0 by omega)
    have a3 := Int.emod_lt_of_pos (numI ns (at' + 1)) (show (0 : Int) < 2 * r + 1 by omega)
    have a4 := Int.emod_nonneg (numI ns (at' + 2)) (show 10 + g - l ≠ 0 by omega)
    have a5 := Int.emod_lt_of_pos (numI ns (at' + 2)) (show (0 : Int) < 10 + g - l by omega)
    have hsp0 : isSpot [r, b, g, l] [numI ns at' % (2 * r + 1) - r, numI ns (at' + 1) % (2 * r + 1) - r, l + numI ns (at' + 2) % (10 + g - l)] = true :=
      decide_eq_true ⟨iabs_le.mpr ⟨by omega, by omega⟩, iabs_le.mpr ⟨by omega, by omega⟩, by omega, by omega⟩
    refine ⟨fun σ H4 => ∃ (x y bb : Int) (z : Option V), σ = [some (.ref pp), some (.ref sl), some (.ref p1), some (.int at'), some (.int r), some (.int b), some (.int g), some (.int l), some (.int x), some (.int y), some (.int bb), z] ∧ Same H H4 ∧ isSpot [r, b, g, l] [x, y, bb] = true, ?_, ?_⟩
    · have first : ∃ (x y bb : Int) (z : Option V), [some (V.ref pp), some (.ref sl), some (.ref p1), some (.int at'), some (.int r), some (.int b), some (.int g), some (.int l), some (.int (numI ns at' % (2 * r + 1) - r)), some (.int (numI ns (at' + 1) % (2 * r + 1) - r)), some (.int (l + numI ns (at' + 2) % (10 + g - l))), none] = [some (.ref pp), some (.ref sl), some (.ref p1), some (.int at'), some (.int r), some (.int b), some (.int g), some (.int l), some (.int x), some (.int y), some (.int bb), z] ∧ Same H H ∧ isSpot [r, b, g, l] [x, y, bb] = true := ⟨_, _, _, _, rfl, Same.refl _, hsp0⟩
      refine ⟨.ref sl, rfl, sl, _, rfl, .inl (.inl (.inl esl)), _, _, rfl, rfl, _, rfl, ite2 (fun g1 => ?_) (fun _ => first)⟩
      refine ⟨.ref p1, rfl, _, rfl, _, _, rfl, rfl, .inl ⟨p1, _, _, _, rfl, rfl, hL, nthI (by omega) (by omega), .inl ⟨_, rfl, _, _, rfl, rfl, (show (0 : Int) < 4 by decide), _, _, rfl, rfl, _, rfl, ite2 (fun g2 => ?_) (fun _ => first)⟩⟩⟩
      have g3 := of_decide_eq_true g1
      rw [siR_len] at g3
      obtain ⟨e, hem, hat⟩ := pickS (xs := xs) (Int.emod_nonneg (numI ns (at' + 3) / 4) (show (xs.length : Int) ≠ 0 by omega)) (Int.emod_lt_of_pos (numI ns (at' + 3) / 4) g3)
      obtain ⟨u, v, c0, ed, te, tp⟩ := hx e hem
      obtain ⟨u', v', c', ed', hc9⟩ := hx9 e.2.2.2 (List.mem_map_of_mem (f := fun e : Addr × Addr × Int × List Int => e.2.2.2) hem)
      rw [ed] at ed'
      injection ed' with _ ed'
      injection ed' with _ ed'
      injection ed' with ec _
      subst ec
      refine ⟨.ref sl, rfl, .ref p1, rfl, _, rfl, _, _, rfl, rfl, .inl ⟨p1, _, _, _, rfl, rfl, hL, nthI (by omega) (by omega), _, _, rfl, rfl, ⟨by decide, by decide⟩, .inl ⟨_, rfl, .ref sl, rfl, sl, _, rfl, .inl (.inl (.inl esl)), _, _, rfl, rfl, by rw [siR_len]; exact g3, ?_⟩⟩⟩
      rw [siR_len]
      refine .inl ⟨sl, _, _, _, rfl, rfl, .inl (.inl esl), hat, ?_⟩
      refine ⟨_, rfl, _, rfl, _, rfl, .ref e.1, rfl, .inr (.inl ⟨e.1, _, 1, .ref e.2.1, rfl, rfl, te, rfl, .inr (.inl ⟨e.2.1, _, 0, .int u, rfl, rfl, tp, rfl, .ref p1, rfl, _, rfl, .inl ⟨p1, _, _, _, rfl, rfl, hL, nthI (by omega) (by omega), .inl ⟨_, rfl, _, rfl, _, _, rfl, rfl, .inl (by constructor <;> decide), _, _, rfl, rfl, _, _, rfl, rfl, (show (0 : Int) < 2 * b + 1 by omega), _, _, rfl, rfl, _, rfl, _, _, rfl, rfl, _, _, rfl, _, _, rfl, ?_⟩⟩⟩)⟩)⟩
      refine ⟨_, rfl, _, rfl, _, rfl, .ref e.1, rfl, .inr (.inl ⟨e.1, _, 1, .ref e.2.1, rfl, rfl, te, rfl, .inr (.inl ⟨e.2.1, _, 1, .int v, rfl, rfl, tp, rfl, .ref p1, rfl, _, rfl, _, _, rfl, rfl, .inl ⟨p1, _, _, _, rfl, rfl, hL, nthI (by omega) (by omega), .inl ⟨_, rfl, _, rfl, _, _, rfl, rfl, .inl (by constructor <;> decide), _, _, rfl, rfl, _, _, rfl, rfl, (show (0 : Int) < 2 * b + 1 by omega), _, _, rfl, rfl, _, rfl, _, _, rfl, rfl, _, _, rfl, _, _, rfl, ?_⟩⟩⟩)⟩)⟩
      refine ⟨_, rfl, .ref e.1, rfl, .inr (.inl ⟨e.1, _, 2, .int c0, rfl, rfl, te, rfl, .ref p1, rfl, _, rfl, _, _, rfl, rfl, .inl ⟨p1, _, _, _, rfl, rfl, hL, nthI (by omega) (by omega), .inl ⟨_, rfl, _, rfl, _, _, rfl, rfl, .inl (by constructor <;> decide), _, _, rfl, rfl, _, _, rfl, rfl, (show (0 : Int) < 2 * g + 1 by omega), _, _, rfl, rfl, _, rfl, _, _, rfl, rfl, _, _, rfl, ?_⟩⟩⟩)⟩
      have d4 := Int.emod_nonneg (numI ns (at' + 2)) (show 2 * g + 1 ≠ 0 by omega)
      have d5 := Int.emod_lt_of_pos (numI ns (at' + 2)) (show (0 : Int) < 2 * g + 1 by omega)
      refine ⟨_, _, _, _, rfl, Same.refl _, decide_eq_true ⟨iabs_le.mpr ⟨?_, ?_⟩, iabs_le.mpr ⟨?_, ?_⟩, ?_, ?_⟩⟩
      all_goals (repeat' split) <;> omega
    · rintro σ H4 ⟨x, y, bb, z, rfl, s4, hsp⟩
      refine ⟨_, rfl, _, rfl, _, rfl, (by show 3 ≤ sizeLine; decide), fun t H5 s5 tt => ?_⟩
      exact k H5 t [x, y, bb] (s4.trans s5) tt hsp

theorem ok__law_sighting (T : Txt P K mg a) : FnOk P w K mg base CX0 2 a.f__law_sighting a.fd__law_sighting ["parts", "sight", "numbers", "at", "most_v"] (spSighting35 K) := by
  refine T.F__law_sighting.ok sc__law_sighting (fun vs H Q E h => ?_) (fun cdv A outer s H vs Q E hr h => ?_)
  · obtain ⟨pp, sl, p1, ns, at', many, n, r, b, g, l, ks, f, xs, rfl, _⟩ := h
    rfl
  · obtain ⟨pp, sl, p1, ns, at', many, n, r, b, g, l, ks, f, xs, rfl, hP, hcam, esl, hx, hx9, hL, hN, ha, hm0, hm1, hlen, k⟩ := h
    refine ⟨_, (pss_cons (ps_setLc (i := 5) rfl sc__law_sighting.nd rfl rfl (sw_true rfl rfl rfl (by decide +kernel)) (g := gName 6) (tt := tYes) (own := [("k", 6)]) (pi_range1 (by rfl) T.z_range (pa_cons (pe_op op_mod (pe_callTy call_int1 (by rfl) T.z_int (by decide +kernel) (pa_cons (pe_ix ix_seq (pv 2) (pv 3) (fun _ _ => rfl)) pa_nil)) (pe_op op_add (pv 4) pe_int)) pa_nil)) (blkOk_by (own := [("k", 6)]) (N := ["parts", "sight", "numbers", "at", "most_v", "spots", "k"]) (sc := defScope s__law_sighting) (by decide +kernel)) (fun _ _ _ _ _ => (pg_name (i := 6) sc__law_sighting.nd rfl (.inl rfl))) (fun _ _ _ _ _ => pts_nil) (fun _ _ _ _ _ => (pe_call (ok__law_spot T) (hr.mono (by decide)) (by rfl) T.m__law_spot T.F__law_spot.kp T.b__law_spot .nil pass0 (pa_cons (pv 0) (pa_cons (pv 1) (pa_cons (pv 2) (pa_cons (pe_op op_add (pe_op op_add (pv 3) pe_int) (pe_op op_mul pe_int (pv 6))) pa_nil)))))))
      (pss_one (ps_ret (pe_callTy call_tuple_of (by rfl) T.z_tuple (by decide +kernel) (pa_cons (pe_callB cr_sortL (by rfl) T.z_sorted (by decide +kernel) (pa_cons (pv 5) pa_nil)) pa_nil))))), ?_⟩
    have hc0 : 0 ≤ numI ns at' % (many + 1) := Int.emod_nonneg _ (by omega)
    have hc1 : numI ns at' % (many + 1) ≤ many := by have := Int.emod_lt_of_pos (numI ns at') (show (0 : Int) < many + 1 by omega); omega
    refine ⟨.ref p1, rfl, _, rfl, .inl ⟨p1, _, _, _, rfl, rfl, hL, nthI (by omega) (by omega), .inl ⟨_, rfl, _, rfl, _, _, rfl, rfl, _, _, rfl, rfl, (show (0 : Int) < many + 1 by omega), _, rfl, (by show -2 ^ 62 ≤ numI ns at' % (many + 1); omega), (by show numI ns at' % (many + 1) < 2 ^ 62; omega), fun D nD => lc_range (lo := 0) (n := (numI ns at' % (many + 1)).toNat) (fun i H2 => ∃ ss : Tups, Same H H2 ∧ H2 D = some (.lst (refs ss)) ∧ TupsAt K H2 ss ∧ ss.length ≤ i ∧ ∀ x ∈ keys ss, isSpot [r, b, g, l] x = true) ⟨[], same_new nD, upd_same, (fun p hp => nomatch hp), Nat.le_refl _, fun x hx => nomatch hx⟩ ?_ ?_⟩⟩⟩
    · rintro i H2 hi ⟨ss, s2, e2, t2, l2, sp2⟩
      refine ⟨rfl, ?_⟩
      refine ⟨.ref pp, rfl, .ref sl, rfl, .ref p1, rfl, _, rfl, _, _, rfl, rfl, _, rfl, _, _, rfl, rfl, .inl (by constructor <;> decide), _, _, rfl, rfl, ?_⟩
      refine ⟨pp, sl, p1, ns, at' + 1 + 4 * (0 + (i : Int)), n, r, b, g, l, ks, f, xs, rfl, parts_up s2 hP, hcam, s2 _ _ esl, siAt_up s2 hx, hx9, s2.seq hL, hN, by omega, by omega, fun H3 t d s3 tt hsp => ?_⟩
      have e3 := s3 _ _ e2
      refine ⟨_, e3, sizeN (by rw [refs_len]; omega), ss ++ [(t, d)], same_put nD (s2.trans s3), by rw [upd_same, ← refs_push], tups_app (tups_put e3 (tups_up s3 t2)) (tups_one (sqT_lst e3 tt)), by rw [List.length_append]; show ss.length + 1 ≤ _; omega, fun w hw => ?_⟩
      rw [keys_push] at hw
      rcases List.mem_append.mp hw with hw | hw
      · exact sp2 w hw
      · rw [List.mem_singleton.mp hw]
        exact hsp
    · rintro H3 ⟨ss, s3, e3, t3, l3, sp3⟩
      have hne : ∀ q ∈ ss, q.2 ≠ [] := fun q hq e => by
        have h1 := sp3 q.2 (List.mem_map_of_mem hq)
        rw [e] at h1
        cases h1
      refine ⟨.ref D, rfl, D, ss, rfl, .inl (.inl (.inl e3)), t3, hne, fun q ss' H4 s4 nq eq hperm hasc => ?_⟩
      refine ⟨q, _, rfl, .inl ⟨.inl (.inl eq), fun w nw => ?_⟩⟩
      have s5 : Same H4 (upd H4 w (.tup (refs ss'))) := same_new nw
      have hlen' := hperm.length_eq
      have hk : (keys ss').Perm (keys ss) := hperm.map _
      refine k _ w ss' ((s3.trans s4).trans s5) (.inl (.inl upd_same)) (fun z hz => sqT_up (s4.trans s5) (t3 z (hperm.mem_iff.mp hz))) ?_ (by omega)
      unfold isSight
      rw [List.all_eq_true.mpr (fun z hz => sp3 z (hk.mem_iff.mp hz)), decide_eq_true hasc, decide_eq_true (by rw [keys_len]; omega)]
      rfl

theorem ok__law_votes (T : Txt P K mg a) : FnOk P w K mg base CX0 3 a.f__law_votes a.fd__law_votes ["parts", "sight", "sighting"] (spVotesL K) := by
  refine T.F__law_votes.ok sc__law_votes (fun vs H Q E h => ?_) (fun cdv A outer s H vs Q E hr h => ?_)
  · obtain ⟨pp, sl, ps, n, r, b, g, l, ks, ss, f, xs, rfl, _⟩ := h
    rfl
  · obtain ⟨pp, sl, ps, n, r, b, g, l, ks, ss, f, xs, rfl, hP, esl, hx, hxl, hps, hss, h3, hsl, k⟩ := h
    refine ⟨_, (pss_cons (ps_set (i := 3) sc__law_votes.nd rfl (.inl rfl) (pe_call (ok__law_rows T) (hr.mono (by decide)) (by rfl) T.m__law_rows T.F__law_rows.kp T.b__law_rows .nil pass0 (pa_cons (pv 0) (pa_cons (pe_call (ok__law_shown T) (hr.mono (by decide)) (by rfl) T.m__law_shown T.F__law_shown.kp T.b__law_shown .nil pass0 (pa_cons (pv 2) pa_nil)) (pa_cons (pv 1) (pa_cons pe_int pa_nil))))))
      (pss_cons (ps_set (i := 4) sc__law_votes.nd rfl (.inl rfl) pe_int)
      (pss_cons (ps_for PassesOwn.never rfl (pi_range1 (by rfl) T.z_range (pa_cons (pe_callB call_len_seq (by rfl) T.z_len (by decide +kernel) (pa_cons (pv 3) pa_nil)) pa_nil)) (pg_name (i := 5) sc__law_votes.nd rfl (.inl rfl)) (pss_one (ps_for PassesOwn.never rfl (pi_range1 (by rfl) T.z_range (pa_cons (pv 5) pa_nil)) (pg_name (i := 6) sc__law_votes.nd rfl (.inl rfl)) (pss_cons (ps_set (i := 7) sc__law_votes.nd rfl (.inl rfl) pe_int)
      (pss_cons (ps_for PassesOwn.never rfl (pi_list (pe_ix ix_seq (pv 3) (pv 6) (fun _ _ => rfl))) (pg_name (i := 8) sc__law_votes.nd rfl (.inr rfl)) (pss_one (ps_set (i := 7) sc__law_votes.nd rfl (.inl rfl) (pe_op op_add (pv 7) (pe_callB call_len_seq (by rfl) T.z_len (by decide +kernel) (pa_cons (pe_lc (g := gName 9) (own := [("other", 9)]) rfl sc__law_votes.nd (pi_list (pe_ix ix_seq (pv 3) (pv 5) (fun _ _ => rfl))) (blkOk_by (own := [("other", 9)]) (N := ["parts", "sight", "sighting", "rows", "votes", "k", "j", "found", "star", "other"]) (sc := defScope s__law_votes) (by decide +kernel)) (fun _ _ _ _ _ => (pg_name (i := 9) sc__law_votes.nd rfl (.inl rfl))) (fun _ _ _ _ _ => (pts_one (pt_cmpR op_ne (pv 9) (pv 8) (nomark _)))) (fun _ _ _ _ _ => (pv 9))) pa_nil))))))
      (pss_one (ps_if (pt_cmpR op_gt (pv 7) pe_int (nomark _)) (pss_one (ps_set (i := 4) sc__law_votes.nd rfl (.inl rfl) (pe_op op_add (pv 4) pe_int))) pss_nil)))))))
      (pss_one (ps_ret (pv 4)))))), ?_⟩
    refine ⟨.ref pp, rfl, .ref ps, rfl, ps, ss, rfl, hps, hss, h3, by omega, fun H1 sh xs1 s1 nsh e1 x1 w1 => ?_⟩
    have hxs1 : xs1.length = ss.length := by rw [← siW_len, w1, keys_len]
    refine ⟨.ref sl, rfl, pp, sh, sl, 1, n, r, b, g, l, ks, (fun _ => false), f, xs1, xs, rfl, by decide, by decide, parts_up s1 hP, e1, x1, by omega, s1 _ _ esl, siAt_up s1 hx, by omega, fun H2 tl tb s2 ntl etl rtb ktb => ?_⟩
    have S2 := s1.trans s2
    have kt : keys tb = rowsL b g (keys ss) (siW xs) := by
      rw [ktb, w1, Int.one_mul, Int.one_mul]
      rfl
    have ltb : tb.length = ss.length := by rw [← keys_len tb, kt]; unfold rowsL; rw [List.length_map, keys_len]
    rw [← kt] at k
    refine ⟨.ref tl, rfl, tl, _, rfl, .inl (.inl (.inl etl)), ((refs tb).length : Int), rfl, by rw [refs_len]; omega, by rw [refs_len]; omega, for_range (lo := 0) (n := (refs tb).length) (fun i σ H3 => ∃ z5 z6 z7 z8 z9 : Option V, σ = [some (.ref pp), some (.ref sl), some (.ref ps), some (.ref tl), some (.int (vo ((keys tb).take i).reverse)), z5, z6, z7, z8, z9] ∧ Same H2 H3) ⟨_, _, _, _, _, rfl, Same.refl _⟩ ?_ ?_⟩
    · rintro i σ H3 hi ⟨z5, z6, z7, z8, z9, rfl, s3⟩
      have hi' : i < tb.length := by rw [refs_len] at hi; exact hi
      have hq : tb[i]? = some tb[i] := List.getElem?_eq_getElem hi'
      have hkq : (keys tb)[i]? = some tb[i].2 := by unfold keys; rw [List.getElem?_map, hq]; rfl
      have hat : atI (refs tb) (0 + (i : Int)) = some (.ref tb[i].1) := by
        rw [Int.zero_add]
        exact atI_nat (by unfold refs; rw [List.getElem?_map, hq]; rfl)
      refine ⟨_, rfl, (i : Int), congrArg (fun z : Int => [V.int z]) (Int.zero_add _), by omega, by omega, for_range (lo := 0) (n := i) (fun j σ H4 => ∃ z6 z7 z8 z9 : Option V, σ = [some (.ref pp), some (.ref sl), some (.ref ps), some (.ref tl), some (.int (vo ((keys tb).take i).reverse + ((((keys tb).take j).filter fun a => voteB a tb[i].2).length : Int))), some (.int (0 + (i : Int))), z6, z7, z8, z9] ∧ Same H2 H4) ⟨_, _, _, _, by rw [List.take_zero]; show _ = [_, _, _, _, some (V.int (_ + 0)), _, _, _, _, _]; rw [Int.add_zero]; rfl, s3⟩ ?_ ?_⟩
      · rintro j σ H4 hj ⟨z6, z7, z8, z9, rfl, s4⟩
        have hj' : j < tb.length := by omega
        have hqj : tb[j]? = some tb[j] := List.getElem?_eq_getElem hj'
        have hkj : (keys tb)[j]? = some tb[j].2 := by unfold keys; rw [List.getElem?_map, hqj]; rfl
        have hatj : atI (refs tb) (0 + (j : Int)) = some (.ref tb[j].1) := by
          rw [Int.zero_add]
          exact atI_nat (by unfold refs; rw [List.getElem?_map, hqj]; rfl)
        have etl4 := s4 _ _ etl
        have ej := rtb tb[j] (List.getElem_mem _)
        have ei := rtb tb[i] (List.getElem_mem _)
        have li : tb[i].2.length ≤ 60 := by
          have h1 : tb[i].2 ∈ keys tb := List.mem_of_getElem? hkq
          rw [kt] at h1
          obtain ⟨s', _, e'⟩ := List.mem_map.mp h1
          rw [← e']
          exact Nat.le_trans (nearK_len _ _ _ _) (by rw [siW_len]; exact hxl)
        refine ⟨.ref tl, rfl, _, rfl, .inl ⟨tl, _, _, _, rfl, rfl, .inl (.inl etl4), hatj, tb[j].1, rfl, ⟨_, .inl (.inl (s4 _ _ ej))⟩, for_list (K := K) (a := tb[j].1) (xs := tb[j].2.map V.int) (fun p σ H5 => ∃ z8 z9 : Option V, σ = [some (.ref pp), some (.ref sl), some (.ref ps), some (.ref tl), some (.int (vo ((keys tb).take i).reverse + ((((keys tb).take j).filter fun a => voteB a tb[i].2).length : Int))), some (.int (0 + (i : Int))), some (.int (0 + (j : Int))), some (.int (foundN (tb[j].2.take p) tb[i].2)), z8, z9] ∧ Same H2 H5) ⟨_, _, rfl, s4⟩ (fun p σ H5 _ ⟨_, _, _, s5⟩ => .inl (.inl (s5 _ _ ej))) ?_ ?_⟩⟩
        · rintro p v σ H5 hp ⟨z8', z9', rfl, s5⟩
          rw [List.getElem?_map] at hp
          obtain ⟨c, hcE, rfl⟩ := Option.map_eq_some_iff.mp hp
          have etl5 := s5 _ _ etl
          have ei5 := s5 _ _ ei
          refine ⟨_, rfl, .ref tl, rfl, _, rfl, .inl ⟨tl, _, _, _, rfl, rfl, .inl (.inl etl5), hat, tb[i].1, rfl, ⟨_, .inl (.inl ei5)⟩, fun D2 nD2 => lc_list (K := K) (a := tb[i].1) (xs := tb[i].2.map V.int) (fun u H6 => Same H5 H6 ∧ H6 D2 = some (.lst (((tb[i].2.take u).filter fun o => !decide (V.int o = V.int c)).map V.int))) ⟨same_new nD2, upd_same⟩ (fun u H6 _ ⟨s6, _⟩ => .inl (.inl (s6 _ _ ei5))) ?_ ?_⟩⟩
          · rintro u v H6 hu ⟨s6, e6⟩
            rw [List.getElem?_map] at hu
            obtain ⟨o, hoE, rfl⟩ := Option.map_eq_some_iff.mp hu
            have htk : (tb[i].2.take (u + 1)) = tb[i].2.take u ++ [o] := by rw [List.take_add_one, hoE]; rfl
            have hlt : ((tb[i].2.take u).filter fun o => !decide (V.int o = V.int c)).length ≤ 60 := Nat.le_trans (List.length_filter_le _ _) (by rw [List.length_take]; omega)
            refine ⟨rfl, ?_⟩
            refine ⟨_, rfl, _, rfl, rfl, _, rfl, ite2 (fun g1 => ?_) (fun g1 => ?_)⟩
            · refine ⟨_, rfl, _, e6, sizeN (by rw [List.length_map]; omega), same_put nD2 s6, ?_⟩
              rw [upd_same, htk, List.filter_append, List.filter_cons_of_pos (p := fun o => !decide (V.int o = V.int c)) g1, List.map_append]
              rfl
            · refine ⟨s6, ?_⟩
              rw [htk, List.filter_append, List.filter_cons_of_neg (p := fun o => !decide (V.int o = V.int c)) g1, List.filter_nil, List.append_nil]
              exact e6
          · rintro H6 ⟨s6, e6⟩
            rw [List.length_map, List.take_length] at e6
            have he : foundN (tb[j].2.take (p + 1)) tb[i].2 = foundN (tb[j].2.take p) tb[i].2 + ((((tb[i].2.filter fun o => !decide (V.int o = V.int c)).map V.int).length : Nat) : Int) := by
              rw [List.take_add_one, hcE]
              show foundN (tb[j].2.take p ++ [c]) tb[i].2 = _
              rw [foundN_push, List.length_map]
            refine ⟨D2, _, rfl, .inl (.inl (.inl e6)), _, _, rfl, rfl, _, _, by rw [he]; rfl, s5.trans s6⟩
        · rintro σ H5 ⟨z8', z9', rfl, s5⟩
          have htk : (keys tb).take (j + 1) = (keys tb).take j ++ [tb[j].2] := by rw [List.take_add_one, hkj]; rfl
          refine ⟨_, rfl, _, _, rfl, rfl, _, rfl, ite2 (fun g1 => ?_) (fun g1 => ?_)⟩
          · have h1 : voteB tb[j].2 tb[i].2 = true := by
              rw [List.length_map, List.take_length] at g1
              rw [← found_vote]
              exact g1
            have he : ((((keys tb).take (j + 1)).filter fun a => voteB a tb[i].2).length : Int) = ((((keys tb).take j).filter fun a => voteB a tb[i].2).length : Int) + 1 := by
              rw [htk, List.filter_append, List.filter_cons_of_pos (p := fun a => voteB a tb[i].2) h1, List.length_append]
              rfl
            refine ⟨_, rfl, _, _, rfl, rfl, _, _, _, _, by rw [he, ← Int.add_assoc]; rfl, s5⟩
          · have h1 : ¬ voteB tb[j].2 tb[i].2 = true := fun z => by
              rw [List.length_map, List.take_length] at g1
              rw [← found_vote] at z
              exact g1 z
            have he : ((((keys tb).take (j + 1)).filter fun a => voteB a tb[i].2).length : Int) = ((((keys tb).take j).filter fun a => voteB a tb[i].2).length : Int) := by
              rw [htk, List.filter_append, List.filter_cons_of_neg (p := fun a => voteB a tb[i].2) h1, List.filter_nil, List.append_nil]
            refine ⟨_, _, _, _, by rw [he], s5⟩
      · rintro σ H4 ⟨z6, z7, z8, z9, rfl, s4⟩
        refine ⟨_, _, _, _, _, by rw [vo_push hkq], s4⟩
    · rintro σ H3 ⟨z5, z6, z7, z8, z9, rfl, s3⟩
      refine ⟨_, rfl, ?_⟩
      rw [refs_len, ← keys_len, List.take_length]
      exact k H3 (S2.trans s3)

theorem ok_law (T : Txt P K mg a) : FnOk P w K mg base CX0 9 a.f_law a.fd_law ["script"] (spLaw K) := by
  refine T.F_law.ok sc_law (fun vs H Q E h => ?_) (fun cdv A outer s H vs Q E hr h => ?_)
  · obtain ⟨b0, xs, rfl, _⟩ := h
    rfl
  · obtain ⟨b0, xs, rfl, hS, hx, k⟩ := h
    refine ⟨_, (pss_cons (ps_set (i := 1) sc_law.nd rfl (.inl rfl) (pe_call (ok__law_numbers T) (hr.mono (by decide)) (by rfl) T.m__law_numbers T.F__law_numbers.kp T.b__law_numbers .nil pass0 (pa_cons (pv 0) (pa_cons pe_int pa_nil))))
      (pss_cons (ps_set (i := 2) sc_law.nd rfl (.inl rfl) (pe_call (ok__law_parts T) (hr.mono (by decide)) (by rfl) T.m__law_parts T.F__law_parts.kp T.b__law_parts .nil pass0 (pa_cons (pv 1) (pa_cons pe_int (pa_cons pe_int (pa_cons (pe_lstM (pa_cons pe_int (pa_cons pe_int (pa_cons pe_int (pa_cons pe_int (pa_cons pe_int pa_nil)))))) pa_nil))))))
      (pss_cons (ps_set (i := 3) sc_law.nd rfl (.inl rfl) (pe_call (ok__law_sky T) (hr.mono (by decide)) (by rfl) T.m__law_sky T.F__law_sky.kp T.b__law_sky .nil pass0 (pa_cons (pv 2) pa_nil)))
      (pss_cons (ps_for PassesOwn.never rfl (pi_range1 (by rfl) T.z_range (pa_cons pe_int pa_nil)) (pg_name (i := 4) sc_law.nd rfl (.inl rfl)) (pss_cons (ps_set (i := 5) sc_law.nd rfl (.inl rfl) (pe_op op_add pe_int (pe_op op_mul pe_int (pv 4))))
      (pss_cons (ps_set (i := 6) sc_law.nd rfl (.inl rfl) (pe_call (ok__law_attitude T) (hr.mono (by decide)) (by rfl) T.m__law_attitude T.F__law_attitude.kp T.b__law_attitude .nil pass0 (pa_cons (pv 2) (pa_cons (pv 1) (pa_cons (pv 5) pa_nil)))))
      (pss_cons (ps_set (i := 7) sc_law.nd rfl (.inl rfl) (pe_call (ok__law_sight T) (hr.mono (by decide)) (by rfl) T.m__law_sight T.F__law_sight.kp T.b__law_sight .nil pass0 (pa_cons (pv 2) (pa_cons (pv 6) pa_nil))))
      (pss_cons (ps_set (i := 8) sc_law.nd rfl (.inl rfl) (pe_call (ok__law_sighting T) (hr.mono (by decide)) (by rfl) T.m__law_sighting T.F__law_sighting.kp T.b__law_sighting .nil pass0 (pa_cons (pv 2) (pa_cons (pv 7) (pa_cons (pv 1) (pa_cons (pe_op op_add (pv 5) pe_int) (pa_cons pe_int pa_nil)))))))
      (pss_cons (ps_set (i := 9) sc_law.nd rfl (.inl rfl) (pe_call (ok_votes_at T) (hr.mono (by decide)) (by rfl) T.m_votes_at T.F_votes_at.kp T.b_votes_at .nil passL (pa_cons (pv 3) (pa_cons (pv 6) (pa_cons (pv 8) pa_nil)))))
      (pss_cons (ps_if (PW.pt (pw_or (pt_not (pt_val (pe_callB call_isi (by rfl) T.z_isinstance (by decide +kernel) (pa_cons (pv 9) (pa_cons (pe_bltn (v := .ty "int") (by rfl) T.z_int (by decide +kernel) rfl) pa_nil))))) (pw_or (pt_val (pe_callB call_isi (by rfl) T.z_isinstance (by decide +kernel) (pa_cons (pv 9) (pa_cons (pe_bltn (v := .ty "bool") (by rfl) T.z_bool (by decide +kernel) rfl) pa_nil)))) (pw_or1 (pt_cmpR (op_neD hr.units) (pv 9) (pe_call (ok__law_votes T) (hr.mono (by decide)) (by rfl) T.m__law_votes T.F__law_votes.kp T.b__law_votes .nil pass0 (pa_cons (pv 2) (pa_cons (pv 7) (pa_cons (pv 8) pa_nil)))) (nomark _)))))) (pss_one (ps_ret pe_bl)) pss_nil)
      (pss_cons (ps_set (i := 10) sc_law.nd rfl (.inl rfl) (pe_op op_mod (pe_callTy call_int1 (by rfl) T.z_int (by decide +kernel) (pa_cons (pe_ix ix_seq (pv 1) (pe_op op_add (pv 5) pe_int) (fun _ _ => rfl)) pa_nil)) pe_int))
      (pss_cons (ps_set (i := 11) sc_law.nd rfl (.inl rfl) pe_int)
      (pss_cons (ps_for PassesOwn.never rfl (pi_range1 (by rfl) T.z_range (pa_cons (pe_op op_sub (pe_callB call_len_seq (by rfl) T.z_len (by decide +kernel) (pa_cons (pv 8) pa_nil)) (pv 10)) pa_nil)) (pg_name (i := 12) sc_law.nd rfl (.inl rfl)) (pss_one (ps_set (i := 11) sc_law.nd rfl (.inl rfl) (pe_op op_add (pv 11) (pv 12)))))
      (pss_one (ps_if (pt_cmpR (op_neD hr.units) (pe_call (ok_votes_needed T) (hr.mono (by decide)) (by rfl) T.m_votes_needed T.F_votes_needed.kp T.b_votes_needed .nil pass0 (pa_cons (pe_callB call_len_seq (by rfl) T.z_len (by decide +kernel) (pa_cons (pv 8) pa_nil)) (pa_cons (pv 10) pa_nil))) (pv 11) (nomark _)) (pss_one (ps_ret pe_bl)) pss_nil))))))))))))
      (pss_one (ps_ret pe_bl)))))), ?_⟩
    refine ⟨.ref b0, rfl, b0, xs, 300, rfl, hS, hx, by decide, by decide, fun H1 p1 ns s1 np1 e1 hlen hN => ?_⟩
    have hL1 : SqL K H1 p1 (ns.map V.int) := .inl (.inl e1)
    refine ⟨.ref p1, rfl, (by show 5 ≤ sizeLine; decide), fun sd H2 s2 nsd esd => ?_⟩
    refine ⟨p1, sd, ns, [5, 4, 6, 7, 9], 0, 8, rfl, s2.seq hL1, hN, .inl (.inl esd), by decide, (by intro e; cases e), by decide, by decide, by decide, by omega, fun H3 pp n ks cam s3 hP hsky hasc hmany => ?_⟩
    obtain ⟨⟨h4, h9⟩, hstars, hnd, h20, hcam⟩ := sky_parts hsky
    obtain ⟨r, b, g, l, rfl, _⟩ := cam_form hcam
    refine ⟨.ref pp, rfl, pp, n, ks, _, rfl, hP, hsky, hasc, fun H4 p kq s4 hK hkq => ?_⟩
    have hskq : isSky n (keys kq) [r, b, g, l] = true := by rw [hkq]; exact hsky
    have hP4 := parts_up s4 hP
    have hL4 := ((s2.trans s3).trans s4).seq hL1
    have hkk := keys_len ks
    refine ⟨6, rfl, by decide, by decide, for_range (lo := 0) (n := 6) (fun i σ H5 => ∃ z4 z5 z6 z7 z8 z9 z10 z11 z12 : Option V, σ = [some (.ref b0), some (.ref p1), some (.ref pp), some (.ref p), z4, z5, z6, z7, z8, z9, z10, z11, z12] ∧ Same H4 H5) ⟨_, _, _, _, _, _, _, _, _, rfl, Same.refl _⟩ ?_ ?_⟩
    · rintro i σ H5 hi ⟨z4, z5, z6, z7, z8, z9, z10, z11, z12, rfl, s5⟩
      refine ⟨_, rfl, _, _, rfl, rfl, .inl (by constructor <;> decide), _, _, rfl, rfl, ?_⟩
      have hL5 := s5.seq hL4
      have hP5 := parts_up s5 hP4
      refine ⟨.ref pp, rfl, .ref p1, rfl, _, rfl, pp, p1, ns, 32 + 42 * (0 + (i : Int)), n, ks, _, rfl, hP5, hsky, hL5, hN, by omega, by omega, fun H6 pa at_ s6 hpa hpose => ?_⟩
      refine ⟨.ref pp, rfl, .ref pa, rfl, pp, pa, n, r, b, g, l, ks, at_, rfl, parts_up s6 hP5, hsky, hpa, hpose, fun H7 sl xs7 s7 nsl esl hx7 hd7 => ?_⟩
      have hW : siW xs7 = seenW n [r, b, g, l] at_ (keys ks) := by rw [← siD_W, hd7, seenI_W]
      have S57 := s6.trans s7
      have l7 : xs7.length ≤ 8 := by
        rw [← siD_len, hd7]
        refine Nat.le_trans (seenI_len _ _ _ _ _) ?_
        rw [hkk]
        omega
      have hx9 : ∀ d ∈ siW xs7, ∃ u v c : Int, d = [u, v, c] ∧ c ≤ 9 := fun d hd => by
        rw [hW] at hd
        obtain ⟨k0, hk0, e0⟩ := List.mem_filterMap.mp hd
        obtain ⟨sx, sy, bb, e5, _, _, _, _, _, b9⟩ := star_form (List.all_eq_true.mp hstars k0 hk0)
        obtain ⟨ax, ay, aq, rfl, _⟩ := pose_form hpose
        subst e5
        unfold seenOne at e0
        cases ho : offI n [r, b, g, l] [ax, ay, aq] [sx, sy, bb] with
        | none => rw [ho] at e0; cases e0
        | some w =>
          rw [ho] at e0
          simp only at e0
          split at e0
          · exact ⟨_, _, _, (Option.some.inj e0).symm, b9⟩
          · cases e0
      refine ⟨.ref pp, rfl, .ref sl, rfl, .ref p1, rfl, _, rfl, _, _, rfl, rfl, pp, sl, p1, ns, 32 + 42 * (0 + (i : Int)) + 4, 9, n, r, b, g, l, ks, isSure r b g l, xs7, rfl, parts_up S57 hP5, hcam, esl, hx7, hx9, S57.seq hL5, hN, by omega, by decide, by decide, by omega, fun H8 ps ss s8 hps hss hsi hss9 => ?_⟩
      have S58 := S57.trans s8
      have hK8 := skyS_up (s5.trans S58) hK
      refine ⟨.ref p, rfl, .ref pa, rfl, .ref ps, rfl, p, pa, ps, n, r, b, g, l, kq, ss, at_, rfl, hK8, hskq, sqT_up (s7.trans s8) hpa, hpose, hps, hss, hsi, fun H9 s9 => ?_⟩
      rw [hkq]
      have S59 := S58.trans s9
      refine ⟨_, rfl, _, _, .type "int", .type "int", true, rfl, .ty _, .base (.int _), kit_ty (by decide +kernel), _, rfl, iteF ?_⟩
      refine ⟨_, rfl, _, _, .type "int", .type "bool", false, rfl, .ty _, .base (.int _), kit_ty (by decide +kernel), _, rfl, iteF ?_⟩
      have hps9 := sqT_up s9 hps
      have hss9' := tups_up s9 hss
      have hsl : ss.length ≤ 9 := by omega
      refine ⟨_, rfl, .ref pp, rfl, .ref sl, rfl, .ref ps, rfl, pp, sl, ps, n, r, b, g, l, ks, ss, isSure r b g l, xs7, rfl, parts_up S59 hP5, (s8.trans s9) _ _ esl, siAt_up (s8.trans s9) hx7, by omega, hps9, hss9', sight_three hsi, by omega, fun H10 s10 => ?_⟩
      refine ne_same (k := 0) (lay_int 0 _) (by decide) (.int _) (by rw [hW]; exact .int _) ⟨_, rfl, iteF ?_⟩
      have S510 := S59.trans s10
      have hps10 := sqT_up s10 hps9
      refine ⟨.ref p1, rfl, _, rfl, _, _, rfl, rfl, .inl ⟨p1, _, _, _, rfl, rfl, S510.seq hL5, nthI (by omega) (by omega), .inl ⟨_, rfl, _, _, rfl, rfl, (show (0 : Int) < 12 by decide), ?_⟩⟩⟩
      have f0 := Int.emod_nonneg (numI ns (32 + 42 * (0 + (i : Int)) + 41)) (show (12 : Int) ≠ 0 by decide)
      have f1 := Int.emod_lt_of_pos (numI ns (32 + 42 * (0 + (i : Int)) + 41)) (show (0 : Int) < 12 by decide)
      obtain ⟨fa, hfa⟩ : ∃ fa : Int, numI ns (32 + 42 * (0 + (i : Int)) + 41) % 12 = fa := ⟨_, rfl⟩
      rw [hfa] at f0 f1
      have hrl := refs_len ss
      refine ⟨.ref ps, rfl, ps, _, rfl, .inr hps10, _, rfl, _, _, rfl, rfl, ((refs ss).length : Int) - fa, congrArg (fun z : Int => [V.int (((refs ss).length : Int) - z)]) hfa, by omega, by omega, for_range (lo := 0) (n := (((refs ss).length : Int) - fa).toNat) (fun j σ H11 => ∃ z12' : Option V, σ = [some (.ref b0), some (.ref p1), some (.ref pp), some (.ref p), some (.int (0 + (i : Int))), some (.int (32 + 42 * (0 + (i : Int)))), some (.ref pa), some (.ref sl), some (.ref ps), some (.int (vo (rowsL b g (keys ss) (seenW n [r, b, g, l] at_ (keys ks))).reverse)), some (.int (numI ns (32 + 42 * (0 + (i : Int)) + 41) % 12)), some (.int (Cb (j : Int))), z12'] ∧ Same H10 H11) ⟨_, rfl, Same.refl _⟩ ?_ ?_⟩
      · rintro j σ H11 hj ⟨z12', rfl, s11⟩
        have he : Cb (((j + 1 : Nat) : Int)) = Cb (j : Int) + (0 + (j : Int)) := by
          rw [Int.zero_add]
          exact cb_succ (j : Int)
        refine ⟨_, rfl, _, rfl, _, _, rfl, rfl, _, by rw [he]; rfl, s11⟩
      · rintro σ H11 ⟨z12', rfl, s11⟩
        refine ⟨.ref ps, rfl, ps, _, rfl, .inr (sqT_up s11 hps10), _, rfl, ((refs ss).length : Int), fa, congrArg (fun z : Int => [V.int ((refs ss).length : Int), V.int z]) hfa, by omega, by omega, f0, by omega, ?_⟩
        refine ⟨_, rfl, ?_⟩
        have he : (if 0 < ((refs ss).length : Int) - fa then ((refs ss).length : Int) - fa else 0) = (((((refs ss).length : Int) - fa).toNat : Nat) : Int) := by
          split <;> omega
        rw [he]
        refine ne_same (k := 0) (lay_int 0 _) (by decide) (.int _) (.int _) ⟨_, rfl, iteF ?_⟩
        exact ⟨_, _, _, _, _, _, _, _, _, rfl, (S510.trans s11 |> fun z => s5.trans z)⟩
    · rintro σ H5 ⟨z4, z5, z6, z7, z8, z9, z10, z11, z12, rfl, s5⟩
      exact k H5

end
/-! ### what the top has written -/
set_option maxHeartbeats 8000000 in
theorem all_mk {w : World} {K : PySem.W.Frag} {h : Heap} {mg : Str → Option Value} {fa f1 f2 f3 f4 f5 f6 f7 f8 f9 f10 f11 f12 f13 f14 f15 f16 f17 f18 f19 f20 f21 f22 f23 f24 f25 f26 f27 f28 f29 f30 f31 f32 f33 f34 f35 f36 f37 f38 f39 f40 f41 f42 f43 s1 g8 g9 g10 g11 g12 g13 s2 e1 ei1 eN1 ecd1 ecc1 q1 q2 : Addr} (X : K.In h) (G : h.Ns mainGlobals mg) (hfa : mg "law" = some (.ref fa))
    {od1 an1 od2 an2 od3 an3 od4 an4 od5 an5 od6 an6 od7 an7 od8 an8 od9 an9 od10 an10 od11 an11 od12 an12 od13 an13 od14 an14 od15 an15 od16 an16 od17 an17 od18 an18 od19 an19 od20 an20 od21 an21 od22 an22 od23 an23 od24 an24 od25 an25 od26 an26 od27 an27 od28 an28 od29 an29 od30 an30 od31 an31 od32 an32 od33 an33 od34 an34 od35 an35 od36 an36 od37 an37 od38 an38 od39 an39 od40 an40 od41 an41 od42 an42 od43 an43 edd1 eod1 ean1 ecdd1 ecld1 : Option Addr} {sl1 sl2 sl3 sl4 sl5 sl6 sl7 sl8 sl9 sl10 sl11 sl12 sl13 sl14 sl15 sl16 sl17 sl18 sl19 sl20 sl21 sl22 sl23 sl24 sl25 sl26 sl27 sl28 sl29 sl30 sl31 sl32 sl33 sl34 sl35 sl36 sl37 sl38 sl39 sl40 sl41 sl42 sl43 eosl1 eccs1 ecsl1 : Array (Option Value)} {oc1 kV1 dc1 pm1 cd1 ct1 oc2 kV2 dc2 pm2 cd2 ct2 oc3 kV3 dc3 pm3 cd3 ct3 oc4 kV4 dc4 pm4 cd4 ct4 oc5 kV5 dc5 pm5 cd5 ct5 oc6 kV6 dc6 pm6 cd6 ct6 oc7 kV7 dc7 pm7 cd7 ct7 oc8 kV8 dc8 pm8 cd8 ct8 oc9 kV9 dc9 pm9 cd9 ct9 oc10 kV10 dc10 pm10 cd10 ct10 oc11 kV11 dc11 pm11 cd11 ct11 oc12 kV12 dc12 pm12 cd12 ct12 oc13 kV13 dc13 pm13 cd13 ct13 oc14 kV14 dc14 pm14 cd14 ct14 oc15 kV15 dc15 pm15 cd15 ct15 oc16 kV16 dc16 pm16 cd16 ct16 oc17 kV17 dc17 pm17 cd17 ct17 oc18 kV18 dc18 pm18 cd18 ct18 oc19 kV19 dc19 pm19 cd19 ct19 oc20 kV20 dc20 pm20 cd20 ct20 oc21 kV21 dc21 pm21 cd21 ct21 oc22 kV22 dc22 pm22 cd22 ct22 oc23 kV23 dc23 pm23 cd23 ct23 oc24 kV24 dc24 pm24 cd24 ct24 oc25 kV25 dc25 pm25 cd25 ct25 oc26 kV26 dc26 pm26 cd26 ct26 oc27 kV27 dc27 pm27 cd27 ct27 oc28 kV28 dc28 pm28 cd28 ct28 oc29 kV29 dc29 pm29 cd29 ct29 oc30 kV30 dc30 pm30 cd30 ct30 oc31 kV31 dc31 pm31 cd31 ct31 oc32 kV32 dc32 pm32 cd32 ct32 oc33 kV33 dc33 pm33 cd33 ct33 oc34 kV34 dc34 pm34 cd34 ct34 oc35 kV35 dc35 pm35 cd35 ct35 oc36 kV36 dc36 pm36 cd36 ct36 oc37 kV37 dc37 pm37 cd37 ct37 oc38 kV38 dc38 pm38 cd38 ct38 oc39 kV39 dc39 pm39 cd39 ct39 oc40 kV40 dc40 pm40 cd40 ct40 oc41 kV41 dc41 pm41 cd41 ct41 oc42 kV42 dc42 pm42 cd42 ct42 oc43 kV43 dc43 pm43 cd43 ct43 eoc1 edc1 epm1 ect1 eccl1 ecl1 : Value} {rs8 rs9 rs10 rs11 rs12 rs13 : List Value} {enm1 eq1 efl1 : Str} {ebs1 esub1 ebm1 : List Value} {eab1 : Bool} {eco1 : Option Bool} {ek1_0 ek1_1 ek1_2 ek1_3 ek1_4 : Option Value} {esn1 : List Str} {evs1 : Array Value} {etf1 : Tok} {ut0 ut1 ut2 : Tok}
    (a1 : PySem.W.nsIn K mainGlobals "quarter_turned" = some (some (.ref f1)))
    (l1 : K.lookup f1 = some ⟨oc1, od1, .func (PySem.W.fnOf "quarter_turned" "quarter_turned" (defArgs s_quarter_turned) (defBody s_quarter_turned) (defScope s_quarter_turned) .none kV1 dc1 pm1 an1 cd1 ct1), sl1⟩)
    (c1 : PySem.W.codeIn K cd1 "quarter_turned" = true)
    (k1 : PySem.W.keepIn K (.ref f1) = true)
    (a2 : PySem.W.nsIn K mainGlobals "is_pose" = some (some (.ref f2)))
    (l2 : K.lookup f2 = some ⟨oc2, od2, .func (PySem.W.fnOf "is_pose" "is_pose" (defArgs s_is_pose) (defBody s_is_pose) (defScope s_is_pose) .none kV2 dc2 pm2 an2 cd2 ct2), sl2⟩)
    (c2 : PySem.W.codeIn K cd2 "is_pose" = true)
    (k2 : PySem.W.keepIn K (.ref f2) = true)
    (a3 : PySem.W.nsIn K mainGlobals "is_side" = some (some (.ref f3)))
    (l3 : K.lookup f3 = some ⟨oc3, od3, .func (PySem.W.fnOf "is_side" "is_side" (defArgs s_is_side) (defBody s_is_side) (defScope s_is_side) .none kV3 dc3 pm3 an3 cd3 ct3), sl3⟩)
    (c3 : PySem.W.codeIn K cd3 "is_side" = true)
    (k3 : PySem.W.keepIn K (.ref f3) = true)
    (a4 : PySem.W.nsIn K mainGlobals "is_star" = some (some (.ref f4)))
    (l4 : K.lookup f4 = some ⟨oc4, od4, .func (PySem.W.fnOf "is_star" "is_star" (defArgs s_is_star) (defBody s_is_star) (defScope s_is_star) .none kV4 dc4 pm4 an4 cd4 ct4), sl4⟩)
    (c4 : PySem.W.codeIn K cd4 "is_star" = true)
    (k4 : PySem.W.keepIn K (.ref f4) = true)
    (a5 : PySem.W.nsIn K mainGlobals "is_camera" = some (some (.ref f5)))
    (l5 : K.lookup f5 = some ⟨oc5, od5, .func (PySem.W.fnOf "is_camera" "is_camera" (defArgs s_is_camera) (defBody s_is_camera) (defScope s_is_camera) .none kV5 dc5 pm5 an5 cd5 ct5), sl5⟩)
    (c5 : PySem.W.codeIn K cd5 "is_camera" = true)
    (k5 : PySem.W.keepIn K (.ref f5) = true)
    (a6 : PySem.W.nsIn K mainGlobals "_check_sky" = some (some (.ref f6)))
    (l6 : K.lookup f6 = some ⟨oc6, od6, .func (PySem.W.fnOf "_check_sky" "_check_sky" (defArgs s__check_sky) (defBody s__check_sky) (defScope s__check_sky) .none kV6 dc6 pm6 an6 cd6 ct6), sl6⟩)
    (c6 : PySem.W.codeIn K cd6 "_check_sky" = true)
    (k6 : PySem.W.keepIn K (.ref f6) = true)
    (l7 : K.lookup f7 = some ⟨oc7, od7, .func (PySem.W.fnOf "__init__" "Sky.__init__" (defArgs s_Skyx_initx) (defBody s_Skyx_initx) (defScope s_Skyx_initx) .none kV7 dc7 pm7 an7 cd7 ct7), sl7⟩)
    (c7 : PySem.W.codeIn K cd7 "Sky.__init__" = true)
    (k7 : PySem.W.keepIn K (.ref f7) = true)
    (l8 : K.lookup f8 = some ⟨oc8, od8, .func (PySem.W.fnOf "side" "Sky.side" (defArgs s_Sky_side) (defBody s_Sky_side) (defScope s_Sky_side) .none kV8 dc8 pm8 an8 cd8 ct8), sl8⟩)
    (c8 : PySem.W.codeIn K cd8 "Sky.side" = true)
    (k8 : PySem.W.keepIn K (.ref f8) = true)
    (l9 : K.lookup f9 = some ⟨oc9, od9, .func (PySem.W.fnOf "stars" "Sky.stars" (defArgs s_Sky_stars) (defBody s_Sky_stars) (defScope s_Sky_stars) .none kV9 dc9 pm9 an9 cd9 ct9), sl9⟩)
    (c9 : PySem.W.codeIn K cd9 "Sky.stars" = true)
    (k9 : PySem.W.keepIn K (.ref f9) = true)
    (l10 : K.lookup f10 = some ⟨oc10, od10, .func (PySem.W.fnOf "reach" "Sky.reach" (defArgs s_Sky_reach) (defBody s_Sky_reach) (defScope s_Sky_reach) .none kV10 dc10 pm10 an10 cd10 ct10), sl10⟩)
    (c10 : PySem.W.codeIn K cd10 "Sky.reach" = true)
    (k10 : PySem.W.keepIn K (.ref f10) = true)
    (l11 : K.lookup f11 = some ⟨oc11, od11, .func (PySem.W.fnOf "blur" "Sky.blur" (defArgs s_Sky_blur) (defBody s_Sky_blur) (defScope s_Sky_blur) .none kV11 dc11 pm11 an11 cd11 ct11), sl11⟩)
    (c11 : PySem.W.codeIn K cd11 "Sky.blur" = true)
    (k11 : PySem.W.keepIn K (.ref f11) = true)
    (l12 : K.lookup f12 = some ⟨oc12, od12, .func (PySem.W.fnOf "glare" "Sky.glare" (defArgs s_Sky_glare) (defBody s_Sky_glare) (defScope s_Sky_glare) .none kV12 dc12 pm12 an12 cd12 ct12), sl12⟩)
    (c12 : PySem.W.codeIn K cd12 "Sky.glare" = true)
    (k12 : PySem.W.keepIn K (.ref f12) = true)
    (l13 : K.lookup f13 = some ⟨oc13, od13, .func (PySem.W.fnOf "limit" "Sky.limit" (defArgs s_Sky_limit) (defBody s_Sky_limit) (defScope s_Sky_limit) .none kV13 dc13 pm13 an13 cd13 ct13), sl13⟩)
    (c13 : PySem.W.codeIn K cd13 "Sky.limit" = true)
    (k13 : PySem.W.keepIn K (.ref f13) = true)
    (a14 : PySem.W.nsIn K mainGlobals "is_spot" = some (some (.ref f14)))
    (l14 : K.lookup f14 = some ⟨oc14, od14, .func (PySem.W.fnOf "is_spot" "is_spot" (defArgs s_is_spot) (defBody s_is_spot) (defScope s_is_spot) .none kV14 dc14 pm14 an14 cd14 ct14), sl14⟩)
    (c14 : PySem.W.codeIn K cd14 "is_spot" = true)
    (k14 : PySem.W.keepIn K (.ref f14) = true)
    (a15 : PySem.W.nsIn K mainGlobals "check_sighting" = some (some (.ref f15)))
    (l15 : K.lookup f15 = some ⟨oc15, od15, .func (PySem.W.fnOf "check_sighting" "check_sighting" (defArgs s_check_sighting) (defBody s_check_sighting) (defScope s_check_sighting) .none kV15 dc15 pm15 an15 cd15 ct15), sl15⟩)
    (c15 : PySem.W.codeIn K cd15 "check_sighting" = true)
    (k15 : PySem.W.keepIn K (.ref f15) = true)
    (a16 : PySem.W.nsIn K mainGlobals "check_attitude" = some (some (.ref f16)))
    (l16 : K.lookup f16 = some ⟨oc16, od16, .func (PySem.W.fnOf "check_attitude" "check_attitude" (defArgs s_check_attitude) (defBody s_check_attitude) (defScope s_check_attitude) .none kV16 dc16 pm16 an16 cd16 ct16), sl16⟩)
    (c16 : PySem.W.codeIn K cd16 "check_attitude" = true)
    (k16 : PySem.W.keepIn K (.ref f16) = true)
    (a17 : PySem.W.nsIn K mainGlobals "_offset_of" = some (some (.ref f17)))
    (l17 : K.lookup f17 = some ⟨oc17, od17, .func (PySem.W.fnOf "_offset_of" "_offset_of" (defArgs s__offset_of) (defBody s__offset_of) (defScope s__offset_of) .none kV17 dc17 pm17 an17 cd17 ct17), sl17⟩)
    (c17 : PySem.W.codeIn K cd17 "_offset_of" = true)
    (k17 : PySem.W.keepIn K (.ref f17) = true)
    (a18 : PySem.W.nsIn K mainGlobals "_nearest" = some (some (.ref f18)))
    (l18 : K.lookup f18 = some ⟨oc18, od18, .func (PySem.W.fnOf "_nearest" "_nearest" (defArgs s__nearest) (defBody s__nearest) (defScope s__nearest) .none kV18 dc18 pm18 an18 cd18 ct18), sl18⟩)
    (c18 : PySem.W.codeIn K cd18 "_nearest" = true)
    (k18 : PySem.W.keepIn K (.ref f18) = true)
    (a19 : PySem.W.nsIn K mainGlobals "appearances" = some (some (.ref f19)))
    (l19 : K.lookup f19 = some ⟨oc19, od19, .func (PySem.W.fnOf "appearances" "appearances" (defArgs s_appearances) (defBody s_appearances) (defScope s_appearances) .none kV19 dc19 pm19 an19 cd19 ct19), sl19⟩)
    (c19 : PySem.W.codeIn K cd19 "appearances" = true)
    (k19 : PySem.W.keepIn K (.ref f19) = true)
    (a20 : PySem.W.nsIn K mainGlobals "sure_among" = some (some (.ref f20)))
    (l20 : K.lookup f20 = some ⟨oc20, od20, .func (PySem.W.fnOf "sure_among" "sure_among" (defArgs s_sure_among) (defBody s_sure_among) (defScope s_sure_among) .none kV20 dc20 pm20 an20 cd20 ct20), sl20⟩)
    (c20 : PySem.W.codeIn K cd20 "sure_among" = true)
    (k20 : PySem.W.keepIn K (.ref f20) = true)
    (a21 : PySem.W.nsIn K mainGlobals "are_near" = some (some (.ref f21)))
    (l21 : K.lookup f21 = some ⟨oc21, od21, .func (PySem.W.fnOf "are_near" "are_near" (defArgs s_are_near) (defBody s_are_near) (defScope s_are_near) .none kV21 dc21 pm21 an21 cd21 ct21), sl21⟩)
    (c21 : PySem.W.codeIn K cd21 "are_near" = true)
    (k21 : PySem.W.keepIn K (.ref f21) = true)
    (l22 : K.lookup f22 = some ⟨oc22, od22, .func (PySem.W.fnOf "__init__" "Frame.__init__" (defArgs s_Framex_initx) (defBody s_Framex_initx) (defScope s_Framex_initx) .none kV22 dc22 pm22 an22 cd22 ct22), sl22⟩)
    (c22 : PySem.W.codeIn K cd22 "Frame.__init__" = true)
    (k22 : PySem.W.keepIn K (.ref f22) = true)
    (l23 : K.lookup f23 = some ⟨oc23, od23, .func (PySem.W.fnOf "spots" "Frame.spots" (defArgs s_Frame_spots) (defBody s_Frame_spots) (defScope s_Frame_spots) .none kV23 dc23 pm23 an23 cd23 ct23), sl23⟩)
    (c23 : PySem.W.codeIn K cd23 "Frame.spots" = true)
    (k23 : PySem.W.keepIn K (.ref f23) = true)
    (l24 : K.lookup f24 = some ⟨oc24, od24, .func (PySem.W.fnOf "table_and_sure" "Frame.table_and_sure" (defArgs s_Frame_table_and_sure) (defBody s_Frame_table_and_sure) (defScope s_Frame_table_and_sure) .none kV24 dc24 pm24 an24 cd24 ct24), sl24⟩)
    (c24 : PySem.W.codeIn K cd24 "Frame.table_and_sure" = true)
    (k24 : PySem.W.keepIn K (.ref f24) = true)
    (l25 : K.lookup f25 = some ⟨oc25, od25, .func (PySem.W.fnOf "_spots_near" "Frame._spots_near" (defArgs s_Framexspots_near) (defBody s_Framexspots_near) (defScope s_Framexspots_near) .none kV25 dc25 pm25 an25 cd25 ct25), sl25⟩)
    (c25 : PySem.W.codeIn K cd25 "Frame._spots_near" = true)
    (k25 : PySem.W.keepIn K (.ref f25) = true)
    (a26 : PySem.W.nsIn K mainGlobals "votes_at" = some (some (.ref f26)))
    (l26 : K.lookup f26 = some ⟨oc26, od26, .func (PySem.W.fnOf "votes_at" "votes_at" (defArgs s_votes_at) (defBody s_votes_at) (defScope s_votes_at) .none kV26 dc26 pm26 an26 cd26 ct26), sl26⟩)
    (c26 : PySem.W.codeIn K cd26 "votes_at" = true)
    (k26 : PySem.W.keepIn K (.ref f26) = true)
    (a27 : PySem.W.nsIn K mainGlobals "_votes_in" = some (some (.ref f27)))
    (l27 : K.lookup f27 = some ⟨oc27, od27, .func (PySem.W.fnOf "_votes_in" "_votes_in" (defArgs s__votes_in) (defBody s__votes_in) (defScope s__votes_in) .none kV27 dc27 pm27 an27 cd27 ct27), sl27⟩)
    (c27 : PySem.W.codeIn K cd27 "_votes_in" = true)
    (k27 : PySem.W.keepIn K (.ref f27) = true)
    (a28 : PySem.W.nsIn K mainGlobals "_pairs_of" = some (some (.ref f28)))
    (l28 : K.lookup f28 = some ⟨oc28, od28, .func (PySem.W.fnOf "_pairs_of" "_pairs_of" (defArgs s__pairs_of) (defBody s__pairs_of) (defScope s__pairs_of) .none kV28 dc28 pm28 an28 cd28 ct28), sl28⟩)
    (c28 : PySem.W.codeIn K cd28 "_pairs_of" = true)
    (k28 : PySem.W.keepIn K (.ref f28) = true)
    (a29 : PySem.W.nsIn K mainGlobals "votes_needed" = some (some (.ref f29)))
    (l29 : K.lookup f29 = some ⟨oc29, od29, .func (PySem.W.fnOf "votes_needed" "votes_needed" (defArgs s_votes_needed) (defBody s_votes_needed) (defScope s_votes_needed) .none kV29 dc29 pm29 an29 cd29 ct29), sl29⟩)
    (c29 : PySem.W.codeIn K cd29 "votes_needed" = true)
    (k29 : PySem.W.keepIn K (.ref f29) = true)
    (a30 : PySem.W.nsIn K mainGlobals "_law_row" = some (some (.ref f30)))
    (l30 : K.lookup f30 = some ⟨oc30, od30, .func (PySem.W.fnOf "_law_row" "_law_row" (defArgs s__law_row) (defBody s__law_row) (defScope s__law_row) .none kV30 dc30 pm30 an30 cd30 ct30), sl30⟩)
    (c30 : PySem.W.codeIn K cd30 "_law_row" = true)
    (k30 : PySem.W.keepIn K (.ref f30) = true)
    (a31 : PySem.W.nsIn K mainGlobals "_law_numbers" = some (some (.ref f31)))
    (l31 : K.lookup f31 = some ⟨oc31, od31, .func (PySem.W.fnOf "_law_numbers" "_law_numbers" (defArgs s__law_numbers) (defBody s__law_numbers) (defScope s__law_numbers) .none kV31 dc31 pm31 an31 cd31 ct31), sl31⟩)
    (c31 : PySem.W.codeIn K cd31 "_law_numbers" = true)
    (k31 : PySem.W.keepIn K (.ref f31) = true)
    (a32 : PySem.W.nsIn K mainGlobals "_law_parts" = some (some (.ref f32)))
    (l32 : K.lookup f32 = some ⟨oc32, od32, .func (PySem.W.fnOf "_law_parts" "_law_parts" (defArgs s__law_parts) (defBody s__law_parts) (defScope s__law_parts) .none kV32 dc32 pm32 an32 cd32 ct32), sl32⟩)
    (c32 : PySem.W.codeIn K cd32 "_law_parts" = true)
    (k32 : PySem.W.keepIn K (.ref f32) = true)
    (a33 : PySem.W.nsIn K mainGlobals "_law_sky" = some (some (.ref f33)))
    (l33 : K.lookup f33 = some ⟨oc33, od33, .func (PySem.W.fnOf "_law_sky" "_law_sky" (defArgs s__law_sky) (defBody s__law_sky) (defScope s__law_sky) .none kV33 dc33 pm33 an33 cd33 ct33), sl33⟩)
    (c33 : PySem.W.codeIn K cd33 "_law_sky" = true)
    (k33 : PySem.W.keepIn K (.ref f33) = true)
    (a34 : PySem.W.nsIn K mainGlobals "_law_offset" = some (some (.ref f34)))
    (l34 : K.lookup f34 = some ⟨oc34, od34, .func (PySem.W.fnOf "_law_offset" "_law_offset" (defArgs s__law_offset) (defBody s__law_offset) (defScope s__law_offset) .none kV34 dc34 pm34 an34 cd34 ct34), sl34⟩)
    (c34 : PySem.W.codeIn K cd34 "_law_offset" = true)
    (k34 : PySem.W.keepIn K (.ref f34) = true)
    (a35 : PySem.W.nsIn K mainGlobals "_law_sight" = some (some (.ref f35)))
    (l35 : K.lookup f35 = some ⟨oc35, od35, .func (PySem.W.fnOf "_law_sight" "_law_sight" (defArgs s__law_sight) (defBody s__law_sight) (defScope s__law_sight) .none kV35 dc35 pm35 an35 cd35 ct35), sl35⟩)
    (c35 : PySem.W.codeIn K cd35 "_law_sight" = true)
    (k35 : PySem.W.keepIn K (.ref f35) = true)
    (a36 : PySem.W.nsIn K mainGlobals "_law_near" = some (some (.ref f36)))
    (l36 : K.lookup f36 = some ⟨oc36, od36, .func (PySem.W.fnOf "_law_near" "_law_near" (defArgs s__law_near) (defBody s__law_near) (defScope s__law_near) .none kV36 dc36 pm36 an36 cd36 ct36), sl36⟩)
    (c36 : PySem.W.codeIn K cd36 "_law_near" = true)
    (k36 : PySem.W.keepIn K (.ref f36) = true)
    (a37 : PySem.W.nsIn K mainGlobals "_law_rows" = some (some (.ref f37)))
    (l37 : K.lookup f37 = some ⟨oc37, od37, .func (PySem.W.fnOf "_law_rows" "_law_rows" (defArgs s__law_rows) (defBody s__law_rows) (defScope s__law_rows) .none kV37 dc37 pm37 an37 cd37 ct37), sl37⟩)
    (c37 : PySem.W.codeIn K cd37 "_law_rows" = true)
    (k37 : PySem.W.keepIn K (.ref f37) = true)
    (a38 : PySem.W.nsIn K mainGlobals "_law_shown" = some (some (.ref f38)))
    (l38 : K.lookup f38 = some ⟨oc38, od38, .func (PySem.W.fnOf "_law_shown" "_law_shown" (defArgs s__law_shown) (defBody s__law_shown) (defScope s__law_shown) .none kV38 dc38 pm38 an38 cd38 ct38), sl38⟩)
    (c38 : PySem.W.codeIn K cd38 "_law_shown" = true)
    (k38 : PySem.W.keepIn K (.ref f38) = true)
    (a39 : PySem.W.nsIn K mainGlobals "_law_attitude" = some (some (.ref f39)))
    (l39 : K.lookup f39 = some ⟨oc39, od39, .func (PySem.W.fnOf "_law_attitude" "_law_attitude" (defArgs s__law_attitude) (defBody s__law_attitude) (defScope s__law_attitude) .none kV39 dc39 pm39 an39 cd39 ct39), sl39⟩)
    (c39 : PySem.W.codeIn K cd39 "_law_attitude" = true)
    (k39 : PySem.W.keepIn K (.ref f39) = true)
    (a40 : PySem.W.nsIn K mainGlobals "_law_spot" = some (some (.ref f40)))
    (l40 : K.lookup f40 = some ⟨oc40, od40, .func (PySem.W.fnOf "_law_spot" "_law_spot" (defArgs s__law_spot) (defBody s__law_spot) (defScope s__law_spot) .none kV40 dc40 pm40 an40 cd40 ct40), sl40⟩)
    (c40 : PySem.W.codeIn K cd40 "_law_spot" = true)
    (k40 : PySem.W.keepIn K (.ref f40) = true)
    (a41 : PySem.W.nsIn K mainGlobals "_law_sighting" = some (some (.ref f41)))
    (l41 : K.lookup f41 = some ⟨oc41, od41, .func (PySem.W.fnOf "_law_sighting" "_law_sighting" (defArgs s__law_sighting) (defBody s__law_sighting) (defScope s__law_sighting) .none kV41 dc41 pm41 an41 cd41 ct41), sl41⟩)
    (c41 : PySem.W.codeIn K cd41 "_law_sighting" = true)
    (k41 : PySem.W.keepIn K (.ref f41) = true)
    (a42 : PySem.W.nsIn K mainGlobals "_law_votes" = some (some (.ref f42)))
    (l42 : K.lookup f42 = some ⟨oc42, od42, .func (PySem.W.fnOf "_law_votes" "_law_votes" (defArgs s__law_votes) (defBody s__law_votes) (defScope s__law_votes) .none kV42 dc42 pm42 an42 cd42 ct42), sl42⟩)
    (c42 : PySem.W.codeIn K cd42 "_law_votes" = true)
    (k42 : PySem.W.keepIn K (.ref f42) = true)
    (a43 : PySem.W.nsIn K mainGlobals "law" = some (some (.ref f43)))
    (l43 : K.lookup f43 = some ⟨oc43, od43, .func (PySem.W.fnOf "law" "law" (defArgs s_law) (defBody s_law) (defScope s_law) .none kV43 dc43 pm43 an43 cd43 ct43), sl43⟩)
    (c43 : PySem.W.codeIn K cd43 "law" = true)
    (k43 : PySem.W.keepIn K (.ref f43) = true)
    (sa1 : PySem.W.nsIn K mainGlobals "Sky" = some (some (.ref s1)))
    (sp1 : PySem.W.plainGet K s1 Str.empty = true)
    (sh1 : PySem.W.hasDictIn K s1 = true)
    (so1 : PySem.W.plainOver K s1 = true)
    (ss1 : PySem.W.findIn K (.ref s1) "__setattr__" = some (some (.builtin "object.__setattr__")))
    (sm1 : PySem.W.makesIn K s1 = true)
    (sk1 : PySem.W.keepIn K (.ref s1) = true)
    (si1 : PySem.W.findIn K (.ref s1) "__init__" = some (some (.ref f7)))
    (sf1 : PySem.W.isFn K (.ref f7) = true)
    (sn1_0 : PySem.W.findIn K (.ref s1) "_side" = some none)
    (sn1_1 : PySem.W.findIn K (.ref s1) "_stars" = some none)
    (sn1_2 : PySem.W.findIn K (.ref s1) "_camera" = some none)
    (pa8 : PySem.W.findIn K (.ref s1) "side" = some (some (.ref g8)))
    (pg8 : PySem.W.specialIn K (.ref g8) "__get__" = some (some (.builtin "property.__get__")))
    (pt8 : PySem.W.takesIn K (.ref g8) = some true)
    (pr8 : PySem.W.recIn K g8 "property" = some (.ref f8 :: rs8))
    (pa9 : PySem.W.findIn K (.ref s1) "stars" = some (some (.ref g9)))
    (pg9 : PySem.W.specialIn K (.ref g9) "__get__" = some (some (.builtin "property.__get__")))
    (pt9 : PySem.W.takesIn K (.ref g9) = some true)
    (pr9 : PySem.W.recIn K g9 "property" = some (.ref f9 :: rs9))
    (pa10 : PySem.W.findIn K (.ref s1) "reach" = some (some (.ref g10)))
    (pg10 : PySem.W.specialIn K (.ref g10) "__get__" = some (some (.builtin "property.__get__")))
    (pt10 : PySem.W.takesIn K (.ref g10) = some true)
    (pr10 : PySem.W.recIn K g10 "property" = some (.ref f10 :: rs10))
    (pa11 : PySem.W.findIn K (.ref s1) "blur" = some (some (.ref g11)))
    (pg11 : PySem.W.specialIn K (.ref g11) "__get__" = some (some (.builtin "property.__get__")))
    (pt11 : PySem.W.takesIn K (.ref g11) = some true)
    (pr11 : PySem.W.recIn K g11 "property" = some (.ref f11 :: rs11))
    (pa12 : PySem.W.findIn K (.ref s1) "glare" = some (some (.ref g12)))
    (pg12 : PySem.W.specialIn K (.ref g12) "__get__" = some (some (.builtin "property.__get__")))
    (pt12 : PySem.W.takesIn K (.ref g12) = some true)
    (pr12 : PySem.W.recIn K g12 "property" = some (.ref f12 :: rs12))
    (pa13 : PySem.W.findIn K (.ref s1) "limit" = some (some (.ref g13)))
    (pg13 : PySem.W.specialIn K (.ref g13) "__get__" = some (some (.builtin "property.__get__")))
    (pt13 : PySem.W.takesIn K (.ref g13) = some true)
    (pr13 : PySem.W.recIn K g13 "property" = some (.ref f13 :: rs13))
    (sa2 : PySem.W.nsIn K mainGlobals "Frame" = some (some (.ref s2)))
    (sp2 : PySem.W.plainGet K s2 Str.empty = true)
    (sh2 : PySem.W.hasDictIn K s2 = true)
    (so2 : PySem.W.plainOver K s2 = true)
    (ss2 : PySem.W.findIn K (.ref s2) "__setattr__" = some (some (.builtin "object.__setattr__")))
    (sm2 : PySem.W.makesIn K s2 = true)
    (sk2 : PySem.W.keepIn K (.ref s2) = true)
    (si2 : PySem.W.findIn K (.ref s2) "__init__" = some (some (.ref f22)))
    (sf2 : PySem.W.isFn K (.ref f22) = true)
    (sn2_0 : PySem.W.findIn K (.ref s2) "_sky" = some none)
    (sn2_1 : PySem.W.findIn K (.ref s2) "_sighting" = some none)
    (sn2_2 : PySem.W.findIn K (.ref s2) "_fitting" = some none)
    (sn2_3 : PySem.W.findIn K (.ref s2) "_needs" = some none)
    (ma23 : PySem.W.findIn K (.ref s2) "spots" = some (some (.ref f23)))
    (mf23 : PySem.W.isFn K (.ref f23) = true)
    (ma24 : PySem.W.findIn K (.ref s2) "table_and_sure" = some (some (.ref f24)))
    (mf24 : PySem.W.isFn K (.ref f24) = true)
    (ma25 : PySem.W.findIn K (.ref s2) "_spots_near" = some (some (.ref f25)))
    (mf25 : PySem.W.isFn K (.ref f25) = true)
    (ea1 : PySem.W.nsIn K mainGlobals "InvalidAttitude" = some (some (.ref e1)))
    (ex1 : K.lookup e1 = some (excClassObj enm1 eq1 e1 eN1 ebs1 ebm1 true esn1 esub1 eab1 eco1 edd1 ek1_0 ek1_1 ek1_2 ek1_3 ek1_4 "ValueError.__new__"))
    (er1 : PySem.HandSPX.refsVE ebm1 = true)
    (esa1 : PySem.W.findIn K (.ref e1) "__setattr__" = some (some (.builtin "object.__setattr__")))
    (ega1 : PySem.W.findIn K (.ref e1) "__getattribute__" = some (some (.builtin "BaseException.__getattribute__")))
    (egg1 : PySem.W.findIn K (.ref e1) "__getattr__" = some none)
    (enf1 : PySem.W.findIn K (.ref e1) "attitude" = some none)
    (eic1 : PySem.W.findIn K (.ref e1) "__init__" = some (some (.ref ei1)))
    (etc1 : PySem.W.typeIn K (.ref ei1) = some (.type "function"))
    (ekc1 : PySem.W.keepIn K (.ref e1) = true)
    (exc1 : PySem.W.subIn K (.ref e1) (.type "BaseException") = some true)
    (eve1 : PySem.W.subIn K (.ref e1) (.type "ValueError") = some true)
    (ety1 : PySem.W.typeIn K (.ref e1) = some (.type "type"))
    (ehd1 : PySem.W.hasDictIn K e1 = true)
    (ecl_1 : PySem.W.isClsIn K e1 = true)
    (ess1 : PySem.W.subIn K (.ref e1) (.ref e1) = some true)
    (eal1 : PySem.W.ks_superIn K e1 e1 "__init__" = some (some (.builtin "ValueError.__init__")))
    (ems1 : PySem.W.mroIn K e1 (.ref e1) = some true)
    (elf1 : K.lookup ei1 = some ⟨eoc1, eod1, .func (PySem.W.ksFn "__init__" "InvalidAttitude.__init__" (PySem.SwX.iA "attitude" ⟨13, 17, 13, 21⟩ ⟨13, 23, 13, 31⟩) (PySem.SwX.iB "no attitude of the sky" "attitude" 0 ⟨14, 8, 14, 13⟩ ⟨14, 8, 14, 15⟩ ⟨14, 8, 14, 24⟩ ⟨14, 25, 14, 49⟩ ⟨14, 8, 14, 50⟩ ⟨14, 8, 14, 50⟩ ⟨15, 8, 15, 12⟩ ⟨15, 8, 15, 21⟩ ⟨15, 24, 15, 32⟩ ⟨15, 8, 15, 32⟩) (PySem.SwX.iS "attitude") .none .none edc1 epm1 ean1 (.ref ecd1) ect1 ecc1), eosl1⟩)
    (ecI1 : PySem.W.codeIn K (.ref ecd1) "InvalidAttitude.__init__" = true)
    (ecL1 : K.lookup ecd1 = some ⟨eccl1, ecdd1, .fields evs1, eccs1⟩)
    (ecV1 : evs1[2]? = some (.str efl1 etf1))
    (ecF1 : ((PySem.Challenge.pw_starward_k35_votes_by_pairs.main.file : Str) == efl1) = true)
    (ecC1 : K.lookup ecc1 = some ⟨ecl1, ecld1, .cell (some (.ref e1)), ecsl1⟩)
    (eopq : PySem.W.nsIn K cStatics "thirdparty.any" = some none)
    (esup : PySem.W.nsIn K mainGlobals "super" = some none)
    (qa1 : PySem.W.nsIn K mainGlobals "InvalidSky" = some (some (.ref q1)))
    (qx1 : PySem.W.excIn K q1 [.type "ValueError", .type "Exception", .type "BaseException", .type "object"] "ValueError.__new__" = true)
    (qk1 : PySem.W.keepIn K (.ref q1) = true)
    (qs1 : PySem.W.subIn K (.ref q1) (.type "BaseException") = some true)
    (qt1 : PySem.W.typeIn K (.ref q1) = some (.type "type"))
    (qa2 : PySem.W.nsIn K mainGlobals "InvalidSighting" = some (some (.ref q2)))
    (qx2 : PySem.W.excIn K q2 [.type "ValueError", .type "Exception", .type "BaseException", .type "object"] "ValueError.__new__" = true)
    (qk2 : PySem.W.keepIn K (.ref q2) = true)
    (qs2 : PySem.W.subIn K (.ref q2) (.type "BaseException") = some true)
    (qt2 : PySem.W.typeIn K (.ref q2) = some (.type "type"))
    (qi2 : PySem.W.isClsIn K q2 = true)
    (qss2 : PySem.W.subIn K (.ref q2) (.ref q2) = some true)
    (ap0 : PySem.W.subIn K (.ref q2) (.ref e1) = some false)
    (uc0 : PySem.W.nsIn K mainGlobals "MOST_STARS" = some (some (.int 20 ut0)))
    (uc1 : PySem.W.nsIn K mainGlobals "MOST_SPOTS" = some (some (.int 60 ut1)))
    (uc2 : PySem.W.nsIn K mainGlobals "BRIGHTEST" = some (some (.int 9 ut2)))
    (z0 : PySem.W.nsIn K mainGlobals "len" = some none)
    (z1 : PySem.W.nsIn K mainGlobals "abs" = some none)
    (z2 : PySem.W.nsIn K mainGlobals "int" = some none)
    (z3 : PySem.W.nsIn K mainGlobals "max" = some none)
    (z4 : PySem.W.nsIn K mainGlobals "min" = some none)
    (z5 : PySem.W.nsIn K mainGlobals "range" = some none)
    (z6 : PySem.W.nsIn K mainGlobals "list" = some none)
    (z7 : PySem.W.nsIn K mainGlobals "tuple" = some none)
    (z8 : PySem.W.nsIn K mainGlobals "sum" = some none)
    (z9 : PySem.W.nsIn K mainGlobals "isinstance" = some none)
    (z10 : PySem.W.nsIn K mainGlobals "sorted" = some none)
    (z11 : PySem.W.nsIn K mainGlobals "set" = some none)
    (z12 : PySem.W.nsIn K mainGlobals "enumerate" = some none)
    (z13 : PySem.W.nsIn K mainGlobals "bool" = some none) :
    ∃ fd : FuncData, (∀ (s : Shared) (v : Value), BindsTo s fd ⟨[v], []⟩ [("script", v)]) ∧ ∀ base : Heap, K.In base → base.Ns mainGlobals mg → FnOk PySem.Challenge.pw_starward_k35_votes_by_pairs w K mg base CX0 9 fa fd ["script"] (spLaw K) := by
  have e := hfa.symm.trans (PySem.W.mg_of X G a43)
  cases e
  have F1 := fun_mk (st := s_quarter_turned) l1 c1 k1
  have F2 := fun_mk (st := s_is_pose) l2 c2 k2
  have F3 := fun_mk (st := s_is_side) l3 c3 k3
  have F4 := fun_mk (st := s_is_star) l4 c4 k4
  have F5 := fun_mk (st := s_is_camera) l5 c5 k5
  have F6 := fun_mk (st := s__check_sky) l6 c6 k6
  have F7 := fun_mk (st := s_Skyx_initx) l7 c7 k7
  have F8 := fun_mk (st := s_Sky_side) l8 c8 k8
  have F9 := fun_mk (st := s_Sky_stars) l9 c9 k9
  have F10 := fun_mk (st := s_Sky_reach) l10 c10 k10
  have F11 := fun_mk (st := s_Sky_blur) l11 c11 k11
  have F12 := fun_mk (st := s_Sky_glare) l12 c12 k12
  have F13 := fun_mk (st := s_Sky_limit) l13 c13 k13
  have F14 := fun_mk (st := s_is_spot) l14 c14 k14
  have F15 := fun_mk (st := s_check_sighting) l15 c15 k15
  have F16 := fun_mk (st := s_check_attitude) l16 c16 k16
  have F17 := fun_mk (st := s__offset_of) l17 c17 k17
  have F18 := fun_mk (st := s__nearest) l18 c18 k18
  have F19 := fun_mk (st := s_appearances) l19 c19 k19
  have F20 := fun_mk (st := s_sure_among) l20 c20 k20
  have F21 := fun_mk (st := s_are_near) l21 c21 k21
  have F22 := fun_mk (st := s_Framex_initx) l22 c22 k22
  have F23 := fun_mk (st := s_Frame_spots) l23 c23 k23
  have F24 := fun_mk (st := s_Frame_table_and_sure) l24 c24 k24
  have F25 := fun_mk (st := s_Framexspots_near) l25 c25 k25
  have F26 := fun_mk (st := s_votes_at) l26 c26 k26
  have F27 := fun_mk (st := s__votes_in) l27 c27 k27
  have F28 := fun_mk (st := s__pairs_of) l28 c28 k28
  have F29 := fun_mk (st := s_votes_needed) l29 c29 k29
  have F30 := fun_mk (st := s__law_row) l30 c30 k30
  have F31 := fun_mk (st := s__law_numbers) l31 c31 k31
  have F32 := fun_mk (st := s__law_parts) l32 c32 k32
  have F33 := fun_mk (st := s__law_sky) l33 c33 k33
  have F34 := fun_mk (st := s__law_offset) l34 c34 k34
  have F35 := fun_mk (st := s__law_sight) l35 c35 k35
  have F36 := fun_mk (st := s__law_near) l36 c36 k36
  have F37 := fun_mk (st := s__law_rows) l37 c37 k37
  have F38 := fun_mk (st := s__law_shown) l38 c38 k38
  have F39 := fun_mk (st := s__law_attitude) l39 c39 k39
  have F40 := fun_mk (st := s__law_spot) l40 c40 k40
  have F41 := fun_mk (st := s__law_sighting) l41 c41 k41
  have F42 := fun_mk (st := s__law_votes) l42 c42 k42
  have F43 := fun_mk (st := s_law) l43 c43 k43
  have T : Txt PySem.Challenge.pw_starward_k35_votes_by_pairs K mg { f_quarter_turned := f1, fd_quarter_turned := PySem.W.fnOf "quarter_turned" "quarter_turned" (defArgs s_quarter_turned) (defBody s_quarter_turned) (defScope s_quarter_turned) .none kV1 dc1 pm1 an1 cd1 ct1, f_is_pose := f2, fd_is_pose := PySem.W.fnOf "is_pose" "is_pose" (defArgs s_is_pose) (defBody s_is_pose) (defScope s_is_pose) .none kV2 dc2 pm2 an2 cd2 ct2, f_is_side := f3, fd_is_side := PySem.W.fnOf "is_side" "is_side" (defArgs s_is_side) (defBody s_is_side) (defScope s_is_side) .none kV3 dc3 pm3 an3 cd3 ct3, f_is_star := f4, fd_is_star := PySem.W.fnOf "is_star" "is_star" (defArgs s_is_star) (defBody s_is_star) (defScope s_is_star) .none kV4 dc4 pm4 an4 cd4 ct4, f_is_camera := f5, fd_is_camera := PySem.W.fnOf "is_camera" "is_camera" (defArgs s_is_camera) (defBody s_is_camera) (defScope s_is_camera) .none kV5 dc5 pm5 an5 cd5 ct5, f__check_sky := f6, fd__check_sky := PySem.W.fnOf "_check_sky" "_check_sky" (defArgs s__check_sky) (defBody s__check_sky) (defScope s__check_sky) .none kV6 dc6 pm6 an6 cd6 ct6, f_Skyx_initx := f7, fd_Skyx_initx := PySem.W.fnOf "__init__" "Sky.__init__" (defArgs s_Skyx_initx) (defBody s_Skyx_initx) (defScope s_Skyx_initx) .none kV7 dc7 pm7 an7 cd7 ct7, f_Sky_side := f8, fd_Sky_side := PySem.W.fnOf "side" "Sky.side" (defArgs s_Sky_side) (defBody s_Sky_side) (defScope s_Sky_side) .none kV8 dc8 pm8 an8 cd8 ct8, f_Sky_stars := f9, fd_Sky_stars := PySem.W.fnOf "stars" "Sky.stars" (defArgs s_Sky_stars) (defBody s_Sky_stars) (defScope s_Sky_stars) .none kV9 dc9 pm9 an9 cd9 ct9, f_Sky_reach := f10, fd_Sky_reach := PySem.W.fnOf "reach" "Sky.reach" (defArgs s_Sky_reach) (defBody s_Sky_reach) (defScope s_Sky_reach) .none kV10 dc10 pm10 an10 cd10 ct10, f_Sky_blur := f11, fd_Sky_blur := PySem.W.fnOf "blur" "Sky.blur" (defArgs s_Sky_blur) (defBody s_Sky_blur) (defScope s_Sky_blur) .none kV11 dc11 pm11 an11 cd11 ct11, f_Sky_glare := f12, fd_Sky_glare := PySem.W.fnOf "glare" "Sky.glare" (defArgs s_Sky_glare) (defBody s_Sky_glare) (defScope s_Sky_glare) .none kV12 dc12 pm12 an12 cd12 ct12, f_Sky_limit := f13, fd_Sky_limit := PySem.W.fnOf "limit" "Sky.limit" (defArgs s_Sky_limit) (defBody s_Sky_limit) (defScope s_Sky_limit) .none kV13 dc13 pm13 an13 cd13 ct13, f_is_spot := f14, fd_is_spot := PySem.W.fnOf "is_spot" "is_spot" (defArgs s_is_spot) (defBody s_is_spot) (defScope s_is_spot) .none kV14 dc14 pm14 an14 cd14 ct14, f_check_sighting := f15, fd_check_sighting := PySem.W.fnOf "check_sighting" "check_sighting" (defArgs s_check_sighting) (defBody s_check_sighting) (defScope s_check_sighting) .none kV15 dc15 pm15 an15 cd15 ct15, f_check_attitude := f16, fd_check_attitude := PySem.W.fnOf "check_attitude" "check_attitude" (defArgs s_check_attitude) (defBody s_check_attitude) (defScope s_check_attitude) .none kV16 dc16 pm16 an16 cd16 ct16, f__offset_of := f17, fd__offset_of := PySem.W.fnOf "_offset_of" "_offset_of" (defArgs s__offset_of) (defBody s__offset_of) (defScope s__offset_of) .none kV17 dc17 pm17 an17 cd17 ct17, f__nearest := f18, fd__nearest := PySem.W.fnOf "_nearest" "_nearest" (defArgs s__nearest) (defBody s__nearest) (defScope s__nearest) .none kV18 dc18 pm18 an18 cd18 ct18, f_appearances := f19, fd_appearances := PySem.W.fnOf "appearances" "appearances" (defArgs s_appearances) (defBody s_appearances) (defScope s_appearances) .none kV19 dc19 pm19 an19 cd19 ct19, f_sure_among := f20, fd_sure_among := PySem.W.fnOf "sure_among" "sure_among" (defArgs s_sure_among) (defBody s_sure_among) (defScope s_sure_among) .none kV20 dc20 pm20 an20 cd20 ct20, f_are_near := f21, fd_are_near := PySem.W.fnOf "are_near" "are_near" (defArgs s_are_near) (defBody s_are_near) (defScope s_are_near) .none kV21 dc21 pm21 an21 cd21 ct21, f_Framex_initx := f22, fd_Framex_initx := PySem.W.fnOf "__init__" "Frame.__init__" (defArgs s_Framex_initx) (defBody s_Framex_initx) (defScope s_Framex_initx) .none kV22 dc22 pm22 an22 cd22 ct22, f_Frame_spots := f23, fd_Frame_spots := PySem.W.fnOf "spots" "Frame.spots" (defArgs s_Frame_spots) (defBody s_Frame_spots) (defScope s_Frame_spots) .none kV23 dc23 pm23 an23 cd23 ct23, f_Frame_table_and_sure := f24, fd_Frame_table_and_sure := PySem.W.fnOf "table_and_sure" "Frame.table_and_sure" (defArgs s_Frame_table_and_sure) (defBody s_Frame_table_and_sure) (defScope s_Frame_table_and_sure) .none kV24 dc24 pm24 an24 cd24 ct24, f_Framexspots_near := f25, fd_Framexspots_near := PySem.W.fnOf "_spots_near" "Frame._spots_near" (defArgs s_Framexspots_near) (defBody s_Framexspots_near) (defScope s_Framexspots_near) .none kV25 dc25 pm25 an25 cd25 ct25, f_votes_at := f26, fd_votes_at := PySem.W.fnOf "votes_at" "votes_at" (defArgs s_votes_at) (defBody s_votes_at) (defScope s_votes_at) .none kV26 dc26 pm26 an26 cd26 ct26, f__votes_in := f27, fd__votes_in := PySem.W.fnOf "_votes_in" "_votes_in" (defArgs s__votes_in) (defBody s__votes_in) (defScope s__votes_in) .none kV27 dc27 pm27 an27 cd27 ct27, f__pairs_of := f28, fd__pairs_of := PySem.W.fnOf "_pairs_of" "_pairs_of" (defArgs s__pairs_of) (defBody s__pairs_of) (defScope s__pairs_of) .none kV28 dc28 pm28 an28 cd28 ct28, f_votes_needed := f29, fd_votes_needed := PySem.W.fnOf "votes_needed" "votes_needed" (defArgs s_votes_needed) (defBody s_votes_needed) (defScope s_votes_needed) .none kV29 dc29 pm29 an29 cd29 ct29, f__law_row := f30, fd__law_row := PySem.W.fnOf "_law_row" "_law_row" (defArgs s__law_row) (defBody s__law_row) (defScope s__law_row) .none kV30 dc30 pm30 an30 cd30 ct30, f__law_numbers := f31, fd__law_numbers := PySem.W.fnOf "_law_numbers" "_law_numbers" (defArgs s__law_numbers) (defBody s__law_numbers) (defScope s__law_numbers) .none kV31 dc31 pm31 an31 cd31 ct31, f__law_parts := f32, fd__law_parts := PySem.W.fnOf "_law_parts" "_law_parts" (defArgs s__law_parts) (defBody s__law_parts) (defScope s__law_parts) .none kV32 dc32 pm32 an32 cd32 ct32, f__law_sky := f33, fd__law_sky := PySem.W.fnOf "_law_sky" "_law_sky" (defArgs s__law_sky) (defBody s__law_sky) (defScope s__law_sky) .none kV33 dc33 pm33 an33 cd33 ct33, f__law_offset := f34, fd__law_offset := PySem.W.fnOf "_law_offset" "_law_offset" (defArgs s__law_offset) (defBody s__law_offset) (defScope s__law_offset) .none kV34 dc34 pm34 an34 cd34 ct34, f__law_sight := f35, fd__law_sight := PySem.W.fnOf "_law_sight" "_law_sight" (defArgs s__law_sight) (defBody s__law_sight) (defScope s__law_sight) .none kV35 dc35 pm35 an35 cd35 ct35, f__law_near := f36, fd__law_near := PySem.W.fnOf "_law_near" "_law_near" (defArgs s__law_near) (defBody s__law_near) (defScope s__law_near) .none kV36 dc36 pm36 an36 cd36 ct36, f__law_rows := f37, fd__law_rows := PySem.W.fnOf "_law_rows" "_law_rows" (defArgs s__law_rows) (defBody s__law_rows) (defScope s__law_rows) .none kV37 dc37 pm37 an37 cd37 ct37, f__law_shown := f38, fd__law_shown := PySem.W.fnOf "_law_shown" "_law_shown" (defArgs s__law_shown) (defBody s__law_shown) (defScope s__law_shown) .none kV38 dc38 pm38 an38 cd38 ct38, f__law_attitude := f39, fd__law_attitude := PySem.W.fnOf "_law_attitude" "_law_attitude" (defArgs s__law_attitude) (defBody s__law_attitude) (defScope s__law_attitude) .none kV39 dc39 pm39 an39 cd39 ct39, f__law_spot := f40, fd__law_spot := PySem.W.fnOf "_law_spot" "_law_spot" (defArgs s__law_spot) (defBody s__law_spot) (defScope s__law_spot) .none kV40 dc40 pm40 an40 cd40 ct40, f__law_sighting := f41, fd__law_sighting := PySem.W.fnOf "_law_sighting" "_law_sighting" (defArgs s__law_sighting) (defBody s__law_sighting) (defScope s__law_sighting) .none kV41 dc41 pm41 an41 cd41 ct41, f__law_votes := f42, fd__law_votes := PySem.W.fnOf "_law_votes" "_law_votes" (defArgs s__law_votes) (defBody s__law_votes) (defScope s__law_votes) .none kV42 dc42 pm42 an42 cd42 ct42, f_law := fa, fd_law := PySem.W.fnOf "law" "law" (defArgs s_law) (defBody s_law) (defScope s_law) .none kV43 dc43 pm43 an43 cd43 ct43, c_Sky := s1, g_Sky_side := g8, g_Sky_stars := g9, g_Sky_reach := g10, g_Sky_blur := g11, g_Sky_glare := g12, g_Sky_limit := g13, c_Frame := s2, c_InvalidAttitude := e1, i_InvalidAttitude := ei1, c_InvalidSky := q1, c_InvalidSighting := q2, u_MOST_STARS := .int 20 ut0, u_MOST_SPOTS := .int 60 ut1, u_BRIGHTEST := .int 9 ut2 } := {
    F_quarter_turned := F1,
    b_quarter_turned := F1.binds (ps := ["quarters", "pair"]) fun _ _ _ _ _ _ us hl => match us, hl with | [_, _], _ => rfl,
    m_quarter_turned := PySem.W.mg_of X G a1,
    F_is_pose := F2,
    b_is_pose := F2.binds (ps := ["side", "told"]) fun _ _ _ _ _ _ us hl => match us, hl with | [_, _], _ => rfl,
    m_is_pose := PySem.W.mg_of X G a2,
    F_is_side := F3,
    b_is_side := F3.binds (ps := ["side"]) fun _ _ _ _ _ _ us hl => match us, hl with | [_], _ => rfl,
    m_is_side := PySem.W.mg_of X G a3,
    F_is_star := F4,
    b_is_star := F4.binds (ps := ["side", "star"]) fun _ _ _ _ _ _ us hl => match us, hl with | [_, _], _ => rfl,
    m_is_star := PySem.W.mg_of X G a4,
    F_is_camera := F5,
    b_is_camera := F5.binds (ps := ["side", "camera"]) fun _ _ _ _ _ _ us hl => match us, hl with | [_, _], _ => rfl,
    m_is_camera := PySem.W.mg_of X G a5,
    F__check_sky := F6,
    b__check_sky := F6.binds (ps := ["side", "stars", "camera"]) fun _ _ _ _ _ _ us hl => match us, hl with | [_, _, _], _ => rfl,
    m__check_sky := PySem.W.mg_of X G a6,
    F_Skyx_initx := F7,
    b_Skyx_initx := F7.binds (ps := ["self", "side", "stars", "camera"]) fun _ _ _ _ _ _ us hl => match us, hl with | [_, _, _, _], _ => rfl,
    F_Sky_side := F8,
    b_Sky_side := F8.binds (ps := ["self"]) fun _ _ _ _ _ _ us hl => match us, hl with | [_], _ => rfl,
    F_Sky_stars := F9,
    b_Sky_stars := F9.binds (ps := ["self"]) fun _ _ _ _ _ _ us hl => match us, hl with | [_], _ => rfl,
    F_Sky_reach := F10,
    b_Sky_reach := F10.binds (ps := ["self"]) fun _ _ _ _ _ _ us hl => match us, hl with | [_], _ => rfl,
    F_Sky_blur := F11,
    b_Sky_blur := F11.binds (ps := ["self"]) fun _ _ _ _ _ _ us hl => match us, hl with | [_], _ => rfl,
    F_Sky_glare := F12,
    b_Sky_glare := F12.binds (ps := ["self"]) fun _ _ _ _ _ _ us hl => match us, hl with | [_], _ => rfl,
    F_Sky_limit := F13,
    b_Sky_limit := F13.binds (ps := ["self"]) fun _ _ _ _ _ _ us hl => match us, hl with | [_], _ => rfl,
    F_is_spot := F14,
    b_is_spot := F14.binds (ps := ["sky", "spot"]) fun _ _ _ _ _ _ us hl => match us, hl with | [_, _], _ => rfl,
    m_is_spot := PySem.W.mg_of X G a14,
    F_check_sighting := F15,
    b_check_sighting := F15.binds (ps := ["sky", "sighting"]) fun _ _ _ _ _ _ us hl => match us, hl with | [_, _], _ => rfl,
    m_check_sighting := PySem.W.mg_of X G a15,
    F_check_attitude := F16,
    b_check_attitude := F16.binds (ps := ["sky", "attitude"]) fun _ _ _ _ _ _ us hl => match us, hl with | [_, _], _ => rfl,
    m_check_attitude := PySem.W.mg_of X G a16,
    F__offset_of := F17,
    b__offset_of := F17.binds (ps := ["sky", "attitude", "star"]) fun _ _ _ _ _ _ us hl => match us, hl with | [_, _, _], _ => rfl,
    m__offset_of := PySem.W.mg_of X G a17,
    F__nearest := F18,
    b__nearest := F18.binds (ps := ["side", "part"]) fun _ _ _ _ _ _ us hl => match us, hl with | [_, _], _ => rfl,
    m__nearest := PySem.W.mg_of X G a18,
    F_appearances := F19,
    b_appearances := F19.binds (ps := ["sky", "attitude"]) fun _ _ _ _ _ _ us hl => match us, hl with | [_, _], _ => rfl,
    m_appearances := PySem.W.mg_of X G a19,
    F_sure_among := F20,
    b_sure_among := F20.binds (ps := ["sky", "shown"]) fun _ _ _ _ _ _ us hl => match us, hl with | [_, _], _ => rfl,
    m_sure_among := PySem.W.mg_of X G a20,
    F_are_near := F21,
    b_are_near := F21.binds (ps := ["one", "other", "blur", "glare"]) fun _ _ _ _ _ _ us hl => match us, hl with | [_, _, _, _], _ => rfl,
    m_are_near := PySem.W.mg_of X G a21,
    F_Framex_initx := F22,
    b_Framex_initx := F22.binds (ps := ["self", "sky", "sighting"]) fun _ _ _ _ _ _ us hl => match us, hl with | [_, _, _], _ => rfl,
    F_Frame_spots := F23,
    b_Frame_spots := F23.binds (ps := ["self"]) fun _ _ _ _ _ _ us hl => match us, hl with | [_], _ => rfl,
    F_Frame_table_and_sure := F24,
    b_Frame_table_and_sure := F24.binds (ps := ["self", "attitude"]) fun _ _ _ _ _ _ us hl => match us, hl with | [_, _], _ => rfl,
    F_Framexspots_near := F25,
    b_Framexspots_near := F25.binds (ps := ["self", "look"]) fun _ _ _ _ _ _ us hl => match us, hl with | [_, _], _ => rfl,
    F_votes_at := F26,
    b_votes_at := F26.binds (ps := ["sky", "attitude", "sighting"]) fun _ _ _ _ _ _ us hl => match us, hl with | [_, _, _], _ => rfl,
    m_votes_at := PySem.W.mg_of X G a26,
    F__votes_in := F27,
    b__votes_in := F27.binds (ps := ["frame", "attitude"]) fun _ _ _ _ _ _ us hl => match us, hl with | [_, _], _ => rfl,
    m__votes_in := PySem.W.mg_of X G a27,
    F__pairs_of := F28,
    b__pairs_of := F28.binds (ps := ["many"]) fun _ _ _ _ _ _ us hl => match us, hl with | [_], _ => rfl,
    m__pairs_of := PySem.W.mg_of X G a28,
    F_votes_needed := F29,
    b_votes_needed := F29.binds (ps := ["spots", "false"]) fun _ _ _ _ _ _ us hl => match us, hl with | [_, _], _ => rfl,
    m_votes_needed := PySem.W.mg_of X G a29,
    F__law_row := F30,
    b__law_row := F30.binds (ps := ["cell", "many"]) fun _ _ _ _ _ _ us hl => match us, hl with | [_, _], _ => rfl,
    m__law_row := PySem.W.mg_of X G a30,
    F__law_numbers := F31,
    b__law_numbers := F31.binds (ps := ["script", "many"]) fun _ _ _ _ _ _ us hl => match us, hl with | [_, _], _ => rfl,
    m__law_numbers := PySem.W.mg_of X G a31,
    F__law_parts := F32,
    b__law_parts := F32.binds (ps := ["numbers", "at", "most_v", "sides"]) fun _ _ _ _ _ _ us hl => match us, hl with | [_, _, _, _], _ => rfl,
    m__law_parts := PySem.W.mg_of X G a32,
    F__law_sky := F33,
    b__law_sky := F33.binds (ps := ["parts"]) fun _ _ _ _ _ _ us hl => match us, hl with | [_], _ => rfl,
    m__law_sky := PySem.W.mg_of X G a33,
    F__law_offset := F34,
    b__law_offset := F34.binds (ps := ["parts", "attitude", "star"]) fun _ _ _ _ _ _ us hl => match us, hl with | [_, _, _], _ => rfl,
    m__law_offset := PySem.W.mg_of X G a34,
    F__law_sight := F35,
    b__law_sight := F35.binds (ps := ["parts", "attitude"]) fun _ _ _ _ _ _ us hl => match us, hl with | [_, _], _ => rfl,
    m__law_sight := PySem.W.mg_of X G a35,
    F__law_near := F36,
    b__law_near := F36.binds (ps := ["parts", "one", "other", "times"]) fun _ _ _ _ _ _ us hl => match us, hl with | [_, _, _, _], _ => rfl,
    m__law_near := PySem.W.mg_of X G a36,
    F__law_rows := F37,
    b__law_rows := F37.binds (ps := ["parts", "here", "there", "times"]) fun _ _ _ _ _ _ us hl => match us, hl with | [_, _, _, _], _ => rfl,
    m__law_rows := PySem.W.mg_of X G a37,
    F__law_shown := F38,
    b__law_shown := F38.binds (ps := ["sighting"]) fun _ _ _ _ _ _ us hl => match us, hl with | [_], _ => rfl,
    m__law_shown := PySem.W.mg_of X G a38,
    F__law_attitude := F39,
    b__law_attitude := F39.binds (ps := ["parts", "numbers", "at"]) fun _ _ _ _ _ _ us hl => match us, hl with | [_, _, _], _ => rfl,
    m__law_attitude := PySem.W.mg_of X G a39,
    F__law_spot := F40,
    b__law_spot := F40.binds (ps := ["parts", "sight", "numbers", "at"]) fun _ _ _ _ _ _ us hl => match us, hl with | [_, _, _, _], _ => rfl,
    m__law_spot := PySem.W.mg_of X G a40,
    F__law_sighting := F41,
    b__law_sighting := F41.binds (ps := ["parts", "sight", "numbers", "at", "most_v"]) fun _ _ _ _ _ _ us hl => match us, hl with | [_, _, _, _, _], _ => rfl,
    m__law_sighting := PySem.W.mg_of X G a41,
    F__law_votes := F42,
    b__law_votes := F42.binds (ps := ["parts", "sight", "sighting"]) fun _ _ _ _ _ _ us hl => match us, hl with | [_, _, _], _ => rfl,
    m__law_votes := PySem.W.mg_of X G a42,
    F_law := F43,
    cl_Sky := ⟨sp1, sh1, so1, ss1⟩,
    m_Sky := PySem.W.mg_of X G sa1,
    M_Sky := ⟨sm1, si1, sf1, sk1⟩,
    n_Sky__side := sn1_0,
    n_Sky__stars := sn1_1,
    n_Sky__camera := sn1_2,
    p_Sky_side := ⟨pa8, pg8, pt8, ⟨_, pr8⟩⟩,
    p_Sky_stars := ⟨pa9, pg9, pt9, ⟨_, pr9⟩⟩,
    p_Sky_reach := ⟨pa10, pg10, pt10, ⟨_, pr10⟩⟩,
    p_Sky_blur := ⟨pa11, pg11, pt11, ⟨_, pr11⟩⟩,
    p_Sky_glare := ⟨pa12, pg12, pt12, ⟨_, pr12⟩⟩,
    p_Sky_limit := ⟨pa13, pg13, pt13, ⟨_, pr13⟩⟩,
    cl_Frame := ⟨sp2, sh2, so2, ss2⟩,
    m_Frame := PySem.W.mg_of X G sa2,
    M_Frame := ⟨sm2, si2, sf2, sk2⟩,
    n_Frame__sky := sn2_0,
    n_Frame__sighting := sn2_1,
    n_Frame__fitting := sn2_2,
    n_Frame__needs := sn2_3,
    t_Frame_spots := ⟨ma23, mf23, k23⟩,
    t_Frame_table_and_sure := ⟨ma24, mf24, k24⟩,
    t_Framexspots_near := ⟨ma25, mf25, k25⟩,
    S_InvalidAttitude := { gC := PySem.W.mg_of X G ea1, cls := ⟨_, _, _, _, _, _, _, _, _, _, _, _, _, _, _, ex1, er1⟩, sa := esa1, ga := ega1, gg := egg1, noF := enf1, iC := eic1, tC := etc1, kC := ekc1, exC := exc1, veC := eve1, tyC := ety1, hdC := ehd1, te := exm_of exc1 ecl_1 ety1 ess1, al := eal1, self_ := ems1, opq := eopq, nsS := PySem.W.mg_none_of X G esup, okf := by decide +kernel, okc := by decide +kernel, oks := by decide +kernel, okv := by decide +kernel, okd := by decide +kernel, fn := ⟨_, _, _, _, _, _, _, _, _, _, _, _, _, _, _, _, _, _, _, _, _, _, _, _, elf1, ecI1, ⟨_, _, _, _, _, _, ecL1, ecV1, ecF1⟩, ⟨_, _, _, ecC1⟩, fun _ _ => rfl, ⟨_, fun _ => rfl⟩⟩, top := by decide +kernel },
    E_InvalidSky := ⟨PySem.W.mg_of X G qa1, qx1, qk1, qs1, qt1⟩,
    E_InvalidSighting_te := exm_of qs2 qi2 qt2 qss2,
    E_InvalidSighting := ⟨PySem.W.mg_of X G qa2, qx2, qk2, qs2, qt2⟩,
    x_InvalidSighting_InvalidAttitude := exm_of exc1 ecl_1 ety1 ap0,
    m_MOST_STARS := PySem.W.mg_of X G uc0,
    v_MOST_STARS := ⟨_, rfl⟩,
    m_MOST_SPOTS := PySem.W.mg_of X G uc1,
    v_MOST_SPOTS := ⟨_, rfl⟩,
    m_BRIGHTEST := PySem.W.mg_of X G uc2,
    v_BRIGHTEST := ⟨_, rfl⟩,
    z_len := PySem.W.mg_none_of X G z0,
    z_abs := PySem.W.mg_none_of X G z1,
    z_int := PySem.W.mg_none_of X G z2,
    z_max := PySem.W.mg_none_of X G z3,
    z_min := PySem.W.mg_none_of X G z4,
    z_range := PySem.W.mg_none_of X G z5,
    z_list := PySem.W.mg_none_of X G z6,
    z_tuple := PySem.W.mg_none_of X G z7,
    z_sum := PySem.W.mg_none_of X G z8,
    z_isinstance := PySem.W.mg_none_of X G z9,
    z_sorted := PySem.W.mg_none_of X G z10,
    z_set := PySem.W.mg_none_of X G z11,
    z_enumerate := PySem.W.mg_none_of X G z12,
    z_bool := PySem.W.mg_none_of X G z13 }
  exact ⟨_, fun s v => .of_eq rfl, fun base _ _ => ok_law T⟩
end SwT
open PySem PySem.W PyProof.Rows
set_option maxRecDepth 100000 in
set_option maxHeartbeats 0 in
theorem PySem.Challenge.cw_starward_k35_votes_by_pairs_holds : PySem.Challenge.rw_starward_k35_votes_by_pairs.Holds := by
  w_on; o_law; k_head; (case hw => w_witness2)
  k_fill
  refine L2.walk_of (l := PySem.Challenge.rw_starward_k35_votes_by_pairs) (n := 63) (k := 9) (x := "script") (CX := fun _ => L2.CX0) (sp := fun w => Sw.spLaw _) rfl (by decide) rfl ⟨rfl, by decide, by decide⟩ (fun w h Y => PySem.W.kIn_of Y) ?F (fun _ _ a ns hl _ hS => ⟨a, ns, rfl, hS, hl, fun _ => rfl⟩) (fun _ _ _ _ _ h => h)
  case F =>
    intro w mg fa h KX G hmg
    refine' SwT.all_mk KX G hmg ?a1 ?l1 ?c1 ?k1 ?a2 ?l2 ?c2 ?k2 ?a3 ?l3 ?c3 ?k3 ?a4 ?l4 ?c4 ?k4 ?a5 ?l5 ?c5 ?k5 ?a6 ?l6 ?c6 ?k6 ?l7 ?c7 ?k7 ?l8 ?c8 ?k8 ?l9 ?c9 ?k9 ?l10 ?c10 ?k10 ?l11 ?c11 ?k11 ?l12 ?c12 ?k12 ?l13 ?c13 ?k13 ?a14 ?l14 ?c14 ?k14 ?a15 ?l15 ?c15 ?k15 ?a16 ?l16 ?c16 ?k16 ?a17 ?l17 ?c17 ?k17 ?a18 ?l18 ?c18 ?k18 ?a19 ?l19 ?c19 ?k19 ?a20 ?l20 ?c20 ?k20 ?a21 ?l21 ?c21 ?k21 ?l22 ?c22 ?k22 ?l23 ?c23 ?k23 ?l24 ?c24 ?k24 ?l25 ?c25 ?k25 ?a26 ?l26 ?c26 ?k26 ?a27 ?l27 ?c27 ?k27 ?a28 ?l28 ?c28 ?k28 ?a29 ?l29 ?c29 ?k29 ?a30 ?l30 ?c30 ?k30 ?a31 ?l31 ?c31 ?k31 ?a32 ?l32 ?c32 ?k32 ?a33 ?l33 ?c33 ?k33 ?a34 ?l34 ?c34 ?k34 ?a35 ?l35 ?c35 ?k35 ?a36 ?l36 ?c36 ?k36 ?a37 ?l37 ?c37 ?k37 ?a38 ?l38 ?c38 ?k38 ?a39 ?l39 ?c39 ?k39 ?a40 ?l40 ?c40 ?k40 ?a41 ?l41 ?c41 ?k41 ?a42 ?l42 ?c42 ?k42 ?a43 ?l43 ?c43 ?k43 ?sa1 ?sp1 ?sh1 ?so1 ?ss1 ?sm1 ?sk1 ?si1 ?sf1 ?sn1_0 ?sn1_1 ?sn1_2 ?pa8 ?pg8 ?pt8 ?pr8 ?pa9 ?pg9 ?pt9 ?pr9 ?pa10 ?pg10 ?pt10 ?pr10 ?pa11 ?pg11 ?pt11 ?pr11 ?pa12 ?pg12 ?pt12 ?pr12 ?pa13 ?pg13 ?pt13 ?pr13 ?sa2 ?sp2 ?sh2 ?so2 ?ss2 ?sm2 ?sk2 ?si2 ?sf2 ?sn2_0 ?sn2_1 ?sn2_2 ?sn2_3 ?ma23 ?mf23 ?ma24 ?mf24 ?ma25 ?mf25 ?ea1 ?ex1 ?er1 ?esa1 ?ega1 ?egg1 ?enf1 ?eic1 ?etc1 ?ekc1 ?exc1 ?eve1 ?ety1 ?ehd1 ?ecl_1 ?ess1 ?eal1 ?ems1 ?elf1 ?ecI1 ?ecL1 ?ecV1 ?ecF1 ?ecC1 ?eopq ?esup ?qa1 ?qx1 ?qk1 ?qs1 ?qt1 ?qa2 ?qx2 ?qk2 ?qs2 ?qt2 ?qi2 ?qss2 ?ap0 ?uc0 ?uc1 ?uc2 ?z0 ?z1 ?z2 ?z3 ?z4 ?z5 ?z6 ?z7 ?z8 ?z9 ?z10 ?z11 ?z12 ?z13
    (case a1 => k_is)
    (case a2 => k_is)
    (case a3 => k_is)
    (case a4 => k_is)
    (case a5 => k_is)
    (case a6 => k_is)
    (case a14 => k_is)
    (case a15 => k_is)
    (case a16 => k_is)
    (case a17 => k_is)
    (case a18 => k_is)
    (case a19 => k_is)
    (case a20 => k_is)
    (case a21 => k_is)
    (case a26 => k_is)
    (case a27 => k_is)
    (case a28 => k_is)
    (case a29 => k_is)
    (case a30 => k_is)
    (case a31 => k_is)
    (case a32 => k_is)
    (case a33 => k_is)
    (case a34 => k_is)
    (case a35 => k_is)
    (case a36 => k_is)
    (case a37 => k_is)
    (case a38 => k_is)
    (case a39 => k_is)
    (case a40 => k_is)
    (case a41 => k_is)
    (case a42 => k_is)
    (case a43 => k_is)
    (case sa1 => k_is)
    (case pa8 => k_is)
    (case pa9 => k_is)
    (case pa10 => k_is)
    (case pa11 => k_is)
    (case pa12 => k_is)
    (case pa13 => k_is)
    (case sa2 => k_is)
    (case ea1 => k_is)
    (case qa1 => k_is)
    (case qa2 => k_is)
    (case uc0 => k_is)
    (case uc1 => k_is)
    (case uc2 => k_is)
    (case si1 => k_is)
    (case pr8 => k_is)
    (case pr9 => k_is)
    (case pr10 => k_is)
    (case pr11 => k_is)
    (case pr12 => k_is)
    (case pr13 => k_is)
    (case si2 => k_is)
    (case ma23 => k_is)
    (case ma24 => k_is)
    (case ma25 => k_is)
    (case eic1 => k_is)
    (case elf1 => k_is)
    (case l1 => k_is)
    (case c1 => k_is)
    (case k1 => k_is)
    (case l2 => k_is)
    (case c2 => k_is)
    (case k2 => k_is)
    (case l3 => k_is)
    (case c3 => k_is)
    (case k3 => k_is)
    (case l4 => k_is)
    (case c4 => k_is)
    (case k4 => k_is)
    (case l5 => k_is)
    (case c5 => k_is)
    (case k5 => k_is)
    (case l6 => k_is)
    (case c6 => k_is)
    (case k6 => k_is)
    (case l7 => k_is)
    (case c7 => k_is)
    (case k7 => k_is)
    (case l8 => k_is)
    (case c8 => k_is)
    (case k8 => k_is)
    (case l9 => k_is)
    (case c9 => k_is)
    (case k9 => k_is)
    (case l10 => k_is)
    (case c10 => k_is)
    (case k10 => k_is)
    (case l11 => k_is)
    (case c11 => k_is)
    (case k11 => k_is)
    (case l12 => k_is)
    (case c12 => k_is)
    (case k12 => k_is)
    (case l13 => k_is)
    (case c13 => k_is)
    (case k13 => k_is)
    (case l14 => k_is)
    (case c14 => k_is)
    (case k14 => k_is)
    (case l15 => k_is)
    (case c15 => k_is)
    (case k15 => k_is)
    (case l16 => k_is)
    (case c16 => k_is)
    (case k16 => k_is)
    (case l17 => k_is)
    (case c17 => k_is)
    (case k17 => k_is)
    (case l18 => k_is)
    (case c18 => k_is)
    (case k18 => k_is)
    (case l19 => k_is)
    (case c19 => k_is)
    (case k19 => k_is)
    (case l20 => k_is)
    (case c20 => k_is)
    (case k20 => k_is)
    (case l21 => k_is)
    (case c21 => k_is)
    (case k21 => k_is)
    (case l22 => k_is)
    (case c22 => k_is)
    (case k22 => k_is)
    (case l23 => k_is)
    (case c23 => k_is)
    (case k23 => k_is)
    (case l24 => k_is)
    (case c24 => k_is)
    (case k24 => k_is)
    (case l25 => k_is)
    (case c25 => k_is)
    (case k25 => k_is)
    (case l26 => k_is)
    (case c26 => k_is)
    (case k26 => k_is)
    (case l27 => k_is)
    (case c27 => k_is)
    (case k27 => k_is)
    (case l28 => k_is)
    (case c28 => k_is)
    (case k28 => k_is)
    (case l29 => k_is)
    (case c29 => k_is)
    (case k29 => k_is)
    (case l30 => k_is)
    (case c30 => k_is)
    (case k30 => k_is)
    (case l31 => k_is)
    (case c31 => k_is)
    (case k31 => k_is)
    (case l32 => k_is)
    (case c32 => k_is)
    (case k32 => k_is)
    (case l33 => k_is)
    (case c33 => k_is)
    (case k33 => k_is)
    (case l34 => k_is)
    (case c34 => k_is)
    (case k34 => k_is)
    (case l35 => k_is)
    (case c35 => k_is)
    (case k35 => k_is)
    (case l36 => k_is)
    (case c36 => k_is)
    (case k36 => k_is)
    (case l37 => k_is)
    (case c37 => k_is)
    (case k37 => k_is)
    (case l38 => k_is)
    (case c38 => k_is)
    (case k38 => k_is)
    (case l39 => k_is)
    (case c39 => k_is)
    (case k39 => k_is)
    (case l40 => k_is)
    (case c40 => k_is)
    (case k40 => k_is)
    (case l41 => k_is)
    (case c41 => k_is)
    (case k41 => k_is)
    (case l42 => k_is)
    (case c42 => k_is)
    (case k42 => k_is)
    (case l43 => k_is)
    (case c43 => k_is)
    (case k43 => k_is)
    (case sp1 => k_is)
    (case sh1 => k_is)
    (case so1 => k_is)
    (case ss1 => k_is)
    (case sm1 => k_is)
    (case sk1 => k_is)
    (case sf1 => k_is)
    (case sn1_0 => k_is)
    (case sn1_1 => k_is)
    (case sn1_2 => k_is)
    (case pg8 => k_is)
    (case pt8 => k_is)
    (case pg9 => k_is)
    (case pt9 => k_is)
    (case pg10 => k_is)
    (case pt10 => k_is)
    (case pg11 => k_is)
    (case pt11 => k_is)
    (case pg12 => k_is)
    (case pt12 => k_is)
    (case pg13 => k_is)
    (case pt13 => k_is)
    (case sp2 => k_is)
    (case sh2 => k_is)
    (case so2 => k_is)
    (case ss2 => k_is)
    (case sm2 => k_is)
    (case sk2 => k_is)
    (case sf2 => k_is)
    (case sn2_0 => k_is)
    (case sn2_1 => k_is)
    (case sn2_2 => k_is)
    (case sn2_3 => k_is)
    (case mf23 => k_is)
    (case mf24 => k_is)
    (case mf25 => k_is)
    (case ex1 => k_is)
    (case er1 => decide +kernel)
    (case esa1 => k_is)
    (case ega1 => k_is)
    (case egg1 => k_is)
    (case enf1 => k_is)
    (case etc1 => k_is)
    (case ekc1 => k_is)
    (case exc1 => k_is)
    (case eve1 => k_is)
    (case ety1 => k_is)
    (case ehd1 => k_is)
    (case ecl_1 => k_is)
    (case ess1 => first | rfl | k_is)
    (case eal1 => first | k_is | ks_is)
    (case ems1 => k_is)
    (case ecI1 => k_is)
    (case ecL1 => k_is)
    (case ecV1 => rfl)
    (case ecF1 => decide +kernel)
    (case ecC1 => k_is)
    (case eopq => k_is)
    (case esup => k_is)
    (case qx1 => k_exc)
    (case qk1 => k_is)
    (case qs1 => k_is)
    (case qt1 => k_is)
    (case qx2 => k_exc)
    (case qk2 => k_is)
    (case qs2 => k_is)
    (case qt2 => k_is)
    (case qi2 => k_is)
    (case qss2 => first | rfl | k_is)
    (case ap0 => k_is)
    (case z0 => k_is)
    (case z1 => k_is)
    (case z2 => k_is)
    (case z3 => k_is)
    (case z4 => k_is)
    (case z5 => k_is)
    (case z6 => k_is)
    (case z7 => k_is)
    (case z8 => k_is)
    (case z9 => k_is)
    (case z10 => k_is)
    (case z11 => k_is)
    (case z12 => k_is)
    (case z13 => k_is)
#print axioms PySem.Challenge.cw_starward_k35_votes_by_pairs_holds

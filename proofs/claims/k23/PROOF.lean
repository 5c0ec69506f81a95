import PyProof.Rows.All
import Wide.All
import OpenK.AllK
import Wide.FinOn
import KE.KExcSuper
import HandS.ForMost
import HandS.ForExc
import HandS.Property
import HandS.Codes
import HandS.TryMany
import HandS.Strs
import HandS.Deep
import HandS.IsInst
import HandS.TupSets
import HandS.Flt
import HandS.TryOnly
import HandS.TupAny
import HandS.Style
import HandS.Iter
import HandS.ForMost
import HandS.Walk
import HandS.ExcValue
import HandS.ExcInit
import HandS.Dict
import HandS.Conv
import HandS.SetFor
import PyProof.FactsAll.list_3
import HandS.Call
import HandS.Exc
import PyProof.ReprRoads
import PyProof.ReprLen
import PyProof.FitsInt
import HandS.RaiseMore
import HandS.Ends
import HandS.Words
import HandS.DictComp
import HandS.NoneIn
import HandS.SetKeys
import PyProof.TupleOfSeq
import KE.KSortTupG
import PyProof.CallFns
import HandS.SetBool
import HandS.ExcOwn
import KE.DatumOrd
import KE.DataMinMax
import PyProof.MaxThree
import PyProof.ListRange
import KE.DataFind
import KE.KExcIs
import KE.KIsAll
import HandS.ExcIs
import HandS.Text
import PySem.Challenge.RW_starward_k23_linked_stars
set_option Elab.async false
set_option linter.all false
set_option maxRecDepth 100000
set_option maxHeartbeats 4000000
set_option Elab.async false
set_option linter.all false
set_option maxRecDepth 100000
set_option maxHeartbeats 4000000
/-! An error class of the program over ValueError, at any depth, whose making says super's making of a text and keeps one field. -/
namespace PySem
namespace SwX
open PySem.W PySem.Calls PyProof.Rows PySem.HandSPX
def iA (fld : Str) (p1 p2 : Pos) : Arguments := { posonlyargs := [], args := [{ arg := "self", annotation := none, pos := p1 }, { arg := fld, annotation := none, pos := p2 }], vararg := none, kwonlyargs := [], kw_defaults := [], kwarg := none, defaults := [] }
def iB (txt fld : Str) (kx : Nat) (q1 q2 q3 q4 q5 q6 r1 r2 r3 r4 : Pos) : List Stmt :=
  [.Expr (.Call (.Attribute (.Call (.Name "super" q1) [] [] q2) "__init__" q3) [.Constant (.str txt) kx q4] [] q5) q6, .Assign [.Attribute (.Name "self" r1) fld r2] (.Name fld r3) r4]
def iS (fld : Str) : Scope := { kind := .function, names := [(PySem.Str.ofString "self", .local), (fld, .local), (PySem.Str.ofString "__class__", .free), (PySem.Str.ofString "super", .globalImplicit)], isGenerator := false, isCoroutine := false, more := [] }
/-- the call of super's making, read step by step -/
def SupEv (txt : Str) (kx : Nat) (q1 q2 q3 q4 q5 : Pos) : Prop := ∃ pl : Env → Sem Bool, ∀ env : Env, eval (.Call (.Attribute (.Call (.Name "super" q1) [] [] q2) "__init__" q3) [.Constant (.str txt) kx q4] [] q5) env = (do
    let ov ← attributeBase (.Call (.Name "super" q1) [] [] q2) "__init__" env (eval (.Call (.Name "super" q1) [] [] q2) env)
    standAt q3.atName
    let (f, first) ← holding [ov] (getMethod ov "__init__" (pl env))
    callWith q5 f first (backTo q5 (starEach [.Constant (.str txt) kx q4] env)) [])
example : SupEv "no attitude" 0 ⟨27, 8, 27, 13⟩ ⟨27, 8, 27, 15⟩ ⟨27, 8, 27, 24⟩ ⟨27, 25, 27, 49⟩ ⟨27, 8, 27, 50⟩ := ⟨_, fun _ => rfl⟩
structure SErr (P : Program) (K : Frag) (mg : Str → Option Value) (x fld : Str) (C fI : Addr) : Prop where
  gC : mg x = some (.ref C)
  cls : ∃ nm q N bs bm sn sub ab col dd k0 k1 k2 k3 k5, K.lookup C = some (excClassObj nm q C N bs bm true sn sub ab col dd k0 k1 k2 k3 k5 "ValueError.__new__") ∧ refsVE bm = true
  sa : findIn K (.ref C) "__setattr__" = some (some (.builtin "object.__setattr__"))
  ga : findIn K (.ref C) "__getattribute__" = some (some (.builtin "BaseException.__getattribute__"))
  gg : findIn K (.ref C) "__getattr__" = some none
  noF : findIn K (.ref C) fld = some none
  iC : findIn K (.ref C) "__init__" = some (some (.ref fI))
  tC : typeIn K (.ref fI) = some (.type "function")
  kC : keepIn K (.ref C) = true
  exC : subIn K (.ref C) (.type "BaseException") = some true
  veC : subIn K (.ref C) (.type "ValueError") = some true
  tyC : typeIn K (.ref C) = some (.type "type")
  hdC : hasDictIn K C = true
  te : exmOne K (.ref C) (.ref C) = some true
  al : ks_superIn K C C "__init__" = some (some (.builtin "ValueError.__init__"))
  self_ : mroIn K C (.ref C) = some true
  opq : nsIn K cStatics "thirdparty.any" = some none
  nsS : mg "super" = none
  okf : (fld == ("self" : Str)) = false
  okc : (("__class__" : Str) == fld) = false
  oks : (("super" : Str) == fld) = false
  okv : (("self" : Str) == fld) = false
  okd : (fld == ("__debug__" : Str)) = false
  fn : ∃ (oc : Value) (od : Option Addr) (doc pm : Value) (an : Option Addr) (cda cc : Addr) (ct : Value) (qual txt : Str) (kx : Nat) (osl : Array (Option Value)) (p1 p2 q1 q2 q3 q4 q5 q6 r1 r2 r3 r4 : Pos),
    K.lookup fI = some ⟨oc, od, .func (ksFn "__init__" qual (iA fld p1 p2) (iB txt fld kx q1 q2 q3 q4 q5 q6 r1 r2 r3 r4) (iS fld) .none .none doc pm an (.ref cda) ct cc), osl⟩ ∧ codeIn K (.ref cda) qual = true ∧
    (∃ ccl cdd vs ccs file tf, K.lookup cda = some ⟨ccl, cdd, .fields vs, ccs⟩ ∧ vs[2]? = some (.str file tf) ∧ ((P.main.file : Str) == file) = true) ∧
    (∃ cl cld csl, K.lookup cc = some ⟨cl, cld, .cell (some (.ref C)), csl⟩) ∧
    (∀ (x : Addr) (v : Value), bindArgs (ksFn "__init__" qual (iA fld p1 p2) (iB txt fld kx q1 q2 q3 q4 q5 q6 r1 r2 r3 r4) (iS fld) .none .none doc pm an (.ref cda) ct cc) ⟨[.ref x, v], []⟩ = pure [(("self" : Str), Value.ref x), (fld, v)]) ∧ SupEv txt kx q1 q2 q3 q4 q5
  top : (P.main.scope.names.lookup ("super" : Str)).isSome = false
theorem one_size (v : Value) : [v].length ≤ sizeLine := by
  rw [sizeLine_eq]
  exact (by decide : 1 ≤ 16777216)
/-- what the making leaves of a fresh exception at x -/
structure InitEnd (h h' : Heap) (x C dx t1 : Addr) (fld : Str) (v : Value) : Prop where
  keep : ∀ b o, b ≠ x → h.get? b = some o → h'.get? b = some o
  obj : h'.get? x = some { cls := .ref C, dict := some dx, data := .fields #[.ref t1, .none, .none, .none, .bool false, .none] }
  dbig : h.objs.size ≤ dx
  dne : dx ≠ x
  ns : h'.Ns1 dx (fun y => if y = fld then some v else none)
structure OwnMade (h h' : Heap) (e C d : Addr) (fld : Str) (v : Value) : Prop where
  keep : ∀ b o, h.get? b = some o → h'.get? b = some o
  new : h.objs.size ≤ e
  obj : ∃ t1 : Addr, h'.get? e = some ({ cls := .ref C, dict := some d, data := .fields #[.ref t1, .none, .none, .none, .bool false, .none] } : Obj)
  dbig : h.objs.size ≤ d
  dne : d ≠ e
  ns : h'.Ns1 d (fun y => if y = fld then some v else none)
section
variable {prog : Program} {w : World} {A : Around} {E : Value → Shared → Prop} {R : Result → Shared → Prop} {s : Shared} {K : Frag} {mg mb : Str → Option Value} {C fI : Addr} {xn fld : Str}
theorem sup_init (T : SErr prog K mg xn fld C fI) {x t0 : Addr} {v : Value} (X : K.In s.heap) (hlim : s.heap.NoLimit) (hg : s.heap.Ns mainGlobals mg) (hb : s.heap.Ns builtinsNs mb) (hbs : mb "super" = bootBuiltins "super")
    (hx : s.heap.get? x = some (excO C t0)) (hnx : K.lookup x = none) (hroom : A.depth < recursionLimit)
    (hq : ∀ h' tk dx t1, InitEnd s.heap h' x C dx t1 fld v → R (.ok (.ret .none)) { s with heap := h', toks := tk }) :
    codeAny (model prog w) A (.call (.ref fI) ⟨[.ref x, v], []⟩) R s := by
  obtain ⟨oc, od, doc, pm, an, cda, cc, ct, qual, txt, kx, osl, p1, p2, q1, q2, q3, q4, q5, q6, r1, r2, r3, r4, ho, hcd, ⟨ccl, cdd, vs, ccs, file, tf, hcode, hvs, hfile⟩, ⟨cl, cld, csl, hcell⟩, hbnd, ⟨pl, hev⟩⟩ := T.fn
  obtain ⟨nm, q, N, bs, bm, sn, sub, ab, col, dd, k0, k1, k2, k3, k5, hC, hbm⟩ := T.cls
  have hcl : clsIn K C = some { name := nm, bases := bs, mro := .ref C :: bm, ns := N, qualname := q, hasDict := true, slotNames := sn, subclasses := sub, abstract := ab, collection := col, hasDel := false } := by unfold clsIn; rw [hC] <;> rfl
  have hf1 : fld ≠ "self" := by simpa using T.okf
  have hlk : (iS fld).names.lookup fld = some .local := by
    show (List.lookup fld [(PySem.Str.ofString "self", NameKind.local), (fld, .local), (PySem.Str.ofString "__class__", .free), (PySem.Str.ofString "super", .globalImplicit)]) = some .local
    rw [List.lookup_cons]
    rw [show (fld == PySem.Str.ofString "self") = false from T.okf]
    simp
  have hkS : (iS fld).names.lookup ("super" : Str) = some .globalImplicit := by
    show (List.lookup ("super" : Str) [(PySem.Str.ofString "self", NameKind.local), (fld, .local), (PySem.Str.ofString "__class__", .free), (PySem.Str.ofString "super", .globalImplicit)]) = some .globalImplicit
    rw [List.lookup_cons, show (("super" : Str) == PySem.Str.ofString "self") = false by decide +kernel]
    simp only
    rw [List.lookup_cons, T.oks]
    rfl
  have hkC : (iS fld).names.lookup ("__class__" : Str) = some .free := by
    show (List.lookup ("__class__" : Str) [(PySem.Str.ofString "self", NameKind.local), (fld, .local), (PySem.Str.ofString "__class__", .free), (PySem.Str.ofString "super", .globalImplicit)]) = some .free
    rw [List.lookup_cons, show (("__class__" : Str) == PySem.Str.ofString "self") = false by decide +kernel]
    simp only
    rw [List.lookup_cons, T.okc]
    rfl
  have hself : List.lookup ("self" : Str) [(("self" : Str), Value.ref x), (fld, v)].reverse = some (Value.ref x) := by
    show List.lookup ("self" : Str) [(fld, v), (("self" : Str), Value.ref x)] = some (Value.ref x)
    rw [List.lookup_cons, T.okv]
    rfl
  have hfld : List.lookup fld [(("self" : Str), Value.ref x), (fld, v)].reverse = some v := by
    show List.lookup fld [(fld, v), (("self" : Str), Value.ref x)] = some v
    rw [List.lookup_cons, show (fld == fld) = true by simp]
  refine ks_codeAny_call_defAt (fd := ksFn "__init__" qual (iA fld p1 p2) (iB txt fld kx q1 q2 q3 q4 q5 q6 r1 r2 r3 r4) (iS fld) .none .none doc pm an (.ref cda) ct cc) (body := iB txt fld kx q1 q2 q3 q4 q5 q6 r1 r2 r3 r4) (binds := [(("self" : Str), Value.ref x), (fld, v)]) hroom (X _ _ ho) rfl hlim (codeRec_of X hcd) rfl
    (BindsTo.of_eq (hbnd x v)) ?_ ?_ (fun h₁ hn hk₁ => ?_) rfl rfl rfl
  · intro y hy
    simp only [iS, List.mem_cons, List.not_mem_nil, or_false] at hy
    rcases hy with rfl | rfl | rfl | rfl <;> simp
  · intro y hy
    rcases List.mem_cons.mp hy with rfl | hy
    · rfl
    rcases List.mem_cons.mp hy with rfl | hy
    · exact hlk
    · cases hy
  · have X₁ : K.In h₁ := X.keeps hk₁
    have hx₁ := hk₁ _ _ hx
    have hL : s.heap.objs.size ≠ x := Nat.ne_of_gt (Heap.lt_size hx)
    obtain ⟨hp, g, d, t, os⟩ := s
    obtain ⟨oD, hD1, hD2⟩ : ∃ oD, h₁.get? C = some oD ∧ oD.data = .cls { name := nm, bases := bs, mro := .ref C :: bm, ns := N, qualname := q, hasDict := true, slotNames := sn, subclasses := sub, abstract := ab, collection := col, hasDel := false } := ⟨_, X₁ _ _ hC, rfl⟩
    have xC : x ≠ C := fun z => by
      rw [z, X₁ _ _ hC] at hx₁
      cases hx₁
    refine ks_wpAt_execs_cons (ks_wpAt_Expr_any (ks_wpAt_MethodCall ?_ (hev _)))
    refine ks_wpAt_super_base (oc := ⟨ccl, cdd, .fields vs, ccs⟩) hkS hkC rfl rfl (X₁ _ _ ho) rfl rfl rfl (X₁ _ _ hcode) rfl hvs hfile T.top ?_
    refine ks_loadName_global rfl hkS (loadGlobal_builtin (hg.keeps hk₁) T.nsS (hb.keeps hk₁) (hbs.trans (by decide +kernel)) ⟨rfl, ?_⟩)
    refine wpAny_loadName_free rfl hkC rfl ⟨_, X₁ _ _ hcell, rfl⟩ ?_
    refine wpAny_loadName_local rfl rfl hn (v := .ref x) hself ?_
    refine ks_wpAny_isType_cls hD1 hD2 ⟨rfl, ?_⟩
    refine ks_wpAny_call_super hD1 hD2 hx₁ rfl (fun c e => by cases e) (looks_mroIn X₁ T.self_) (fun h2 e2 k2 => ?_)
    have X2 : K.In h2 := X₁.keeps k2
    have hx2 := k2 _ _ hx₁
    have I2 : InstAt h2 x (excO C t0) C none := ⟨hx2, rfl, rfl, trivial⟩
    refine kxs_getMethod kxs_ValueError e2 (looks_opaque X2 T.opq) (l₀ := .ref C :: bm) (fun A Q E s k q => wpAny_bind ((looks_clsIn X2 hcl) A _ E s k (wpAny_pure q))) rfl X2 ?_ (I2.type.andThen (looks_subIn X2 T.veC)) xC rfl ?_
    · have z := T.al
      unfold ks_superIn at z
      rw [hcl] at z
      exact z
    -- the wrapper is called with the text
    have hu0 : (h2.push (kxs_mw "ValueError.__init__" x)).get? h2.objs.size = some (kxs_mw "ValueError.__init__" x) := Heap.get?_push_at rfl rfl
    have k3 : ∀ b o, h2.get? b = some o → (h2.push (kxs_mw "ValueError.__init__" x)).get? b = some o := fun b o e => Heap.get?_push_of_some _ e
    refine kxs_callWith (i := "ValueError.__init__") (x := x) (by rfl) ?_
    refine evalArgs_plain ?_
    refine Calls.spliced_cons ?_
    show wpAny _ _ (eval (.Constant (.str txt) kx q4) _) _ _ _
    refine Calls.Constant_str ?_
    refine Calls.spliced_nil ⟨hu0, ?_⟩
    refine wpAny_call (codeAny_of_tree ?_)
    show wpAny _ _ (callAny (.ref h2.objs.size) ⟨[Value.str txt _], []⟩) _ _ _
    simp only [callAny]
    refine wpAny_bind (wpAny_load hu0 ?_)
    simp only [kxs_mw, show (Value.type "method-wrapper" == Value.type "method" || Value.type "method-wrapper" == Value.type "builtin_function_or_method" || Value.type "method-wrapper" == Value.type "method-wrapper") = true by decide, if_true]
    refine KFB.if_so (by decide) ?_
    refine wpAny_bind (check_bound_init F.excBase_ValueError.toExcCallFacts (k3 _ _ (X2 _ _ hC)) (k3 _ _ hx2) rfl ?_)
    refine wpAny_bind (wpAny_pure (wpAny_pure ?_))
    refine ⟨plainId_quiet F.excBase_ValueError.init.plain _, codeAny_builtin F.excBase_ValueError.initEntry ?_⟩
    refine exc_init_tree (cls := .ref C) (t0 := t0) (dv := none) (c2 := .none) (c3 := .none) (b4 := .bool false) (k3 _ _ hx2) (one_size _) (fun h4 k4 e4 t4 => ?_)
    -- self.fld = fld
    show wpAt _ _ _ (execs _ _) _ _ _
    have up : ∀ b o, b ≠ x → h₁.get? b = some o → h4.get? b = some o := fun b o hb e => k4 b o hb (k3 _ _ (k2 _ _ e))
    have X4 : K.In h4 := fun b o e => up b o (fun z => by rw [z, hnx] at e; cases e) (X₁ _ _ e)
    have hn4 : h4.Ns hp.objs.size (fun y => List.lookup y [(("self" : Str), Value.ref x), (fld, v)].reverse) := hn.at (fun o e => up _ o hL e)
    refine ks_wpAt_execs_cons (ks_wpAt_Assign_Attr (wpAt_of_wpAny (wpAny_Name (wpAny_loadName_local rfl hlk hn4 hfld (wpAny_Name (wpAny_loadName_local rfl rfl hn4 hself ?_) rfl)) ?_)))
    · refine set_plain X4 (ox := excO C _) (od := none) ⟨e4, rfl, rfl, trivial⟩ T.sa ?_
      refine exc_osa X4 e4 hcl (show refsVE (.ref C :: bm) = true from hbm) rfl T.noF (fun h5 tk5 dx k5 dn dne hx5 hn5 => ?_)
      show wpAt _ _ _ (execs _ _) _ _ _
      have z : hp.objs.size < h4.objs.size := hn4.lt
      exact wpAt_of_wpAny (wpAny_execs_nil (hq h5 tk5 dx _ ⟨fun b o hb e => k5 b o hb (up b o hb (hk₁ b o e)), hx5, Nat.le_of_lt (Nat.lt_of_lt_of_le z dn), dne, hn5⟩))
    · exact T.okd
theorem sup_made (T : SErr prog K mg xn fld C fI) {v : Value} (X : K.In s.heap) (hlim : s.heap.NoLimit) (hg : s.heap.Ns mainGlobals mg) (hb : s.heap.Ns builtinsNs mb) (hbs : mb "super" = bootBuiltins "super") (hroom : A.depth + 1 < recursionLimit)
    (hq : ∀ h' tk e d, OwnMade s.heap h' e C d fld v → R (.ok (.ret (.ref e))) { s with heap := h', toks := tk }) :
    codeAny (model prog w) A (.call (.ref C) ⟨[v], []⟩) R s := by
  obtain ⟨nm, q, N, bs, bm, sn, sub, ab, col, dd, k0, k1, k2, k3, k5, hC, hbm⟩ := T.cls
  obtain ⟨hp, g, dr, tk, os⟩ := s
  have k : ∀ b o, hp.get? b = some o → ((hp.push (kdv_tup [v])).push (excO C hp.objs.size)).get? b = some o := fun b o e => Heap.get?_push_of_some _ (Heap.get?_push_of_some _ e)
  have hget : ((hp.push (kdv_tup [v])).push (excO C hp.objs.size)).get? (hp.objs.size + 1) = some (excO C hp.objs.size) := by heap_get
  have hnx : K.lookup (hp.objs.size + 1) = none := by
    cases e : K.lookup (hp.objs.size + 1) with
    | none => rfl
    | some o =>
      have z : hp.get? (hp.objs.size + 1) = some o := X _ _ e
      exact absurd (Nat.lt_of_succ_lt (Heap.lt_size z)) (Nat.lt_irrefl _)
  refine call_own F.excBase_ValueError (fun Y => refsVE_contains Y bm hbm) (X _ _ hC) (looks_findIn X T.iC) (fun self => bind_fn X self T.tC) (one_size v) ?_
  refine sup_init (s := ⟨(hp.push (kdv_tup [v])).push (excO C hp.objs.size), g, dr, tk, os⟩) T (X.keeps k) (hlim.keeps k) (hg.keeps k) (hb.keeps k) hbs hget hnx ?_ fun h' tk' dx t1 ⟨k', hx, dn, dne, hns⟩ => ?_
  · show A.depth + 1 < recursionLimit
    exact hroom
  · have old : ∀ b o, hp.get? b = some o → h'.get? b = some o := fun b o e => k' b o (Nat.ne_of_lt (Nat.lt_succ_of_lt (Heap.lt_size e))) (k b o e)
    have z : hp.objs.size + 1 + 1 ≤ dx := by
      first
        | (simpa only [Heap.size_push] using dn)
        | exact dn
        | (have q := dn; rw [Heap.size_push, Heap.size_push] at q; exact q)
    exact ⟨rfl, hq h' tk' (hp.objs.size + 1) dx ⟨old, Nat.le_succ _, ⟨_, hx⟩, Nat.le_trans (Nat.le_trans (Nat.le_succ _) (Nat.le_succ _)) z, dne, hns⟩⟩

end
end SwX
end PySem
namespace L2
open PySem PySem.Spec PyProof.Rows
theorem relO_one {f g : Str} {v : V} {u : Value} (r : RelV v u) : RelO (List.lookup g [(f, v)]) (if g = f then some u else none) := by
  by_cases hw : g = f
  · subst hw
    rw [if_pos rfl, show List.lookup g [(g, v)] = some v by simp [List.lookup]]
    exact r
  · rw [if_neg hw, show List.lookup g [(f, v)] = none by
      have qw : (g == f) = false := by simpa using hw
      simp [List.lookup, qw]]
    trivial
section
variable {X : Cx} {C fI : Addr} {xn fld : Str}
/-- X(e), X such a class: its own dict d, new, keeps the field -/
def tMkS (C : Addr) (fld : Str) (ta : TA) : St → Hp → XK → Prop := fun σ H Q => ta σ H fun vs H1 => ∃ v, vs = [v] ∧ ∀ d, H1 d = none → Q (.ref C) (some d) (upd H1 d (.xd [(fld, v)]))
theorem pmk_sup {a : Expr} {ta : TA} {p pos : Pos} {k : Nat} (T : PySem.SwX.SErr X.prog X.K X.mg xn fld C fI) (hr : Room k X.A) (ha : PA X [a] ta) (hg : Gl X xn := by rfl) (hdb : (xn == ("__debug__" : Str)) = false := by decide)
    (he : starEach (a :: []) X.env = (false, eval a X.env) :: starEach [] X.env := by rfl) (hpl : (backTo pos (starEach [] X.env)).any (·.1) = false := by rfl) :
    PMk X (.Call (.Name xn p) [a] [] pos) (tMkS C fld ta) := by
  intro pins s σ H Q I h
  refine wpAny_Call_Name_kw (ld_glob I hg T.gC ?_ hdb)
  refine PySem.W.callWith_K (h₀ := X.base) I.ok.mod.kin T.kC (thn (ha.run pos pins s σ H _ I h) fun us s1 hh => ?_) he hpl
  obtain ⟨vs, H1, I1, r1, v, ev, q1⟩ := hh
  subst ev
  refine ⟨I1.kIn, ?_⟩
  cases r1 with
  | cons rv rn =>
    rename_i v' us'
    cases rn
    show wpAny _ _ (call (.ref C) [v']) _ _ _
    have hlim := I1.nolimit
    obtain ⟨mb, hb1, hb2⟩ := I1.mod.blt
    have hgl := I1.mod.glob.keeps I1.bk
    have hbl := hb1.keeps I1.bk
    have hkin := I1.kIn
    obtain ⟨hp, g, dr, tk, os⟩ := s1
    refine wpAny_call (PySem.SwX.sup_made T hkin hlim hgl hbl (hb2 _ (by decide)) (by have := hr.dp; omega) fun h' tk' e d M => ?_)
    show MkP X pins σ Q (.ref e) ⟨h', g, dr, tk', os⟩
    obtain ⟨t1, hoe⟩ := M.obj
    have hns := M.ns
    obtain ⟨G', g1, g2⟩ := restrict h' fun b => decide (b ≠ e)
    have gk : ∀ b, b ≠ e → G'.get? b = h'.get? b := fun b hb => g1 b (decide_eq_true hb)
    have ge : G'.get? e = none := g2 e (by simp)
    have old : ∀ b o, hp.get? b = some o → G'.get? b = some o := fun b o q => (gk b (Nat.ne_of_lt (Nat.lt_of_lt_of_le (Heap.lt_size q) M.new))).trans (M.keep b o q)
    have ob : ObjOk X.prog X.w (upd H1 d (.xd [(fld, v)])) G' d (.xd [(fld, v)]) :=
      ⟨_, hns.at (fun o q => (gk d M.dne).trans q), fun f => relO_one rv⟩
    have J : Inv X pins σ (upd H1 d (.xd [(fld, v)])) ⟨G', g, dr, tk', os⟩ := I1.laid (t' := tk') old M.dbig ob
    refine ⟨e, _, _, ⟨G', g, dr, tk', os⟩, _, .ref C, some d, rfl, J, fun b o q => ?_, ge, hoe, ⟨rfl, rfl⟩, rfl, rfl, ?_, rfl, I1.bare, raises_own T.exC T.tyC, q1 d (I1.hok.fresh M.dbig)⟩
    · by_cases hb : b = e
      · have q' : G'.get? b = some o := q
        rw [hb, ge] at q'; cases q'
      · exact (gk b hb).symm.trans q
    · rw [upd_ne (Ne.symm M.dne)]
      exact I1.hok.fresh M.new
/-- raise X(e) -/
def tRaiseS (C : Addr) (fld : Str) (W : WX) (ta : TA) : TS := fun _ σ H => tMkS C fld ta σ H fun cls d H' => W cls d σ H'
theorem ps_raiseS {a : Expr} {ta : TA} {W : WX} {p pos pos2 : Pos} {k : Nat} (hc : X.calm = true) (T : PySem.SwX.SErr X.prog X.K X.mg xn fld C fI) (hr : Room k X.A) (tk : Takes X W) (ha : PA X [a] ta) (hg : Gl X xn := by rfl) (hdb : (xn == ("__debug__" : Str)) = false := by decide)
    (he : starEach (a :: []) X.env = (false, eval a X.env) :: starEach [] X.env := by rfl) (hpl : (backTo pos (starEach [] X.env)).any (·.1) = false := by rfl) :
    PS X (.Raise (some (.Call (.Name xn p) [a] [] pos)) none pos2) (tRaiseS C fld W ta) := ps_raise hc tk (pmk_sup T hr ha hg hdb he hpl)
/-- n.fld, n the exception that the suite holds (at a; its class cls, its dict d) -/
def tErrFld (C : Addr) (fld : Str) (a : Addr) (cls : Value) (d : Option Addr) (te : TE) : TE := fun σ H Q => te σ H fun x H1 => x = .ref a ∧ cls = .ref C ∧ ∃ (dd : Addr) (v : V), d = some dd ∧ H1 dd = some (.xd [(fld, v)]) ∧ Q v H1
theorem pe_errFld {a : Addr} {oe : Obj} {cls : Value} {d : Option Addr} {pn : List (Addr × Obj)} {e : Expr} {te : TE} {pos : Pos} (T : PySem.SwX.SErr X.prog X.K X.mg xn fld C fI) (hz : Zc cls d oe) (hf : ∃ vs, oe.data = .fields vs) (he : PE (X.suite a ((a, oe) :: pn)) e te)
    (hb : attributeBase e fld X.env (eval e X.env) = eval e X.env := by rfl) :
    PE (X.suite a ((a, oe) :: pn)) (.Attribute e fld pos) (tErrFld C fld a cls d te) := by
  refine ⟨fun pins s σ H Q I h => ?_⟩
  refine attr_of hb (thn (he.run pins s σ H _ I h) fun u s1 hh => ?_)
  obtain ⟨x, H1, I1, rx, ex, ec, dd, v, ed, ea, q⟩ := hh
  subst ex
  obtain rfl : u = Value.ref a := rx
  subst ec
  subst ed
  obtain ⟨ha, _⟩ := I1.pin (a, oe) (List.mem_append_left _ List.mem_cons_self)
  obtain ⟨vs, hd⟩ := hf
  have hx : ObjOk X.prog X.w H1 s1.heap dd (.xd [(fld, v)]) := I1.hok dd _ ea
  obtain ⟨mA, hns, hr⟩ := hx
  obtain ⟨od, ho, hl⟩ := lookIn_ns hns
  have l : List.lookup fld [(fld, v)] = some v := by simp [List.lookup]
  obtain ⟨u, hu, ru⟩ := RelO.some_of (v := v) (o := mA fld) (by rw [← l]; exact hr fld)
  have J : PySem.W.InstAt s1.heap a oe C (some od) := ⟨ha, hz.1, by unfold PySem.W.notCls; rw [hd] <;> rfl, by rw [hz.2]; exact ho⟩
  exact HandSPX.exc_get I1.kIn J T.ga T.gg T.exC (PySem.W.findObj_own T.hdC T.noF rfl (by rw [hl, hu])) (handed_of ru) ⟨v, H1, I1.tok _, ru, q⟩
end
end L2
set_option Elab.async false
set_option linter.all false
set_option maxRecDepth 100000
set_option maxHeartbeats 4000000
/-! try with several clauses that all hand the error to one name. -/
namespace L2
open PySem PySem.Spec PyProof.Rows
/-- what follows a suite: the name is gone again -/
def noName (i : Nat) (D : Ends) : Ends := { nx := fun σ' H' => D.nx (σ'.set i none) H', rt := D.rt, bk := fun σ' H' => D.bk (σ'.set i none) H', ct := fun σ' H' => D.ct (σ'.set i none) H' }
abbrev ClauseT := Value × Bool × (Addr → Value → Option Addr → TS)
def wEach (K : PySem.W.Frag) (i : Nat) (Wout : WX) (D : Ends) : List ClauseT → WX
  | [] => Wout
  | (c, true, ts) :: r => fun cls d σ H => ∃ b, PySem.W.exmOne K cls c = some b ∧ (b = true → ∀ a, H a = none → ts a cls d (noName i D) (σ.set i (some (.ref a))) H) ∧ (b = false → wEach K i Wout D r cls d σ H)
  | (c, false, ts) :: r => fun cls d σ H => ∃ b, PySem.W.exmOne K cls c = some b ∧ (b = true → ∀ a, H a = none → ts a cls d D σ H) ∧ (b = false → wEach K i Wout D r cls d σ H)
inductive Clauses (X : Cx) (n : Str) : List ExceptHandler → List ClauseT → Prop
  | nil : Clauses X n [] []
  | cons {x : Str} {c : Value} {ts : Addr → Value → Option Addr → TS} {b₀ : Stmt} {suite : List Stmt} {np pos' : Pos} {hds : List ExceptHandler} {l : List ClauseT} (hc : Names X x c)
      (hsu : ∀ (a : Addr) (oe : Obj) (cls : Value) (d : Option Addr) (pn : List (Addr × Obj)), Zc cls d oe → (∃ vs, oe.data = .fields vs) → PSs (X.suite a ((a, oe) :: pn)) (b₀ :: suite) (ts a cls d)) (r : Clauses X n hds l) :
      Clauses X n (.ExceptHandler (some (.Name x np)) (some n) (b₀ :: suite) pos' :: hds) ((c, true, ts) :: l)
  | bare {x : Str} {c : Value} {ts : Addr → Value → Option Addr → TS} {b₀ : Stmt} {suite : List Stmt} {np pos' : Pos} {hds : List ExceptHandler} {l : List ClauseT} (hc : Names X x c)
      (hsu : ∀ (a : Addr) (oe : Obj) (cls : Value) (d : Option Addr) (pn : List (Addr × Obj)), Zc cls d oe → (∃ vs, oe.data = .fields vs) → PSs (X.suite a ((a, oe) :: pn)) (b₀ :: suite) (ts a cls d)) (r : Clauses X n hds l) :
      Clauses X n (.ExceptHandler (some (.Name x np)) none (b₀ :: suite) pos' :: hds) ((c, false, ts) :: l)
section
variable {X : Cx} {n : Str} {i : Nat} {body : List Stmt} {h₀ : ExceptHandler} {hds : List ExceptHandler} {l : List ClauseT} {pos : Pos} {tb : WX → TS} {Wout : WX}
/-- the clauses, one after the other, at an error that was met -/
theorem each_ok (hN : X.N.Nodup) (hi : X.N[i]? = some n) (hln : X.env.kindOf n = some .local) (hf : X.env.frame = some X.env.locals) (hs : X.stack = X.env :: X.outer) (tk : Takes X Wout) (ok : X.Ok)
    {a : Addr} {B : Heap} {cls : Value} {d : Option Addr} {pins : List (Addr × Obj)} {σ' : St} {H' : Hp} {D : Ends} {sI s' : Shared} {h3 : Heap} (J : Inv X pins σ' H' sI) (nb : ∀ b o, sI.heap.get? b = some o → b ∉ frs X.stack → B.get? b = some o)
    (up : sI.heap.UpToSlots s'.heap) (up3 : s'.heap.UpToSlots h3) (na : H' a = none) (os : s'.os = sI.os) (ag : AllBare s'.gens)
    (fl3 : HandSPX.FlyingZ B (X.env :: X.outer) a (Zc cls d) h3) (nL : a ≠ X.env.locals) (nF : a ∉ X.fs) : ∀ {hs' : List ExceptHandler} {l' : List ClauseT}, Clauses X n hs' l' → wEach X.K i Wout D l' cls d σ' H' →
      wpAny (model X.prog X.w) X.A (handleBy (.ref a) X.env hs') (SP X pins D) X.xe { s' with heap := h3 } := by
  have J3 : Inv X pins σ' H' { s' with heap := h3 } := J.landed nb fl3.1 (up.trans up3) os ag
  obtain ⟨oe3, vs3, he3, hz3, hd3⟩ := fl3.there
  have S3 := J3.suite he3 hd3 na nL nF
  intro hs' l' hk
  induction hk with
  | nil =>
    intro w
    apply wpAny_handleBy_nil
    obtain ⟨k1, k2, k3, oe, vs, T, oT, ts', he, hz, hd, h1, hr⟩ := id fl3
    unfold PySem.passOn
    apply wpAny_bind
    refine wpAny_field he hd h1 ?_
    rw [if_neg (show ¬ ((Value.ref T == Value.none) = true) from by simp)]
    have fin : wpAny (model X.prog X.w) X.A (setFlight (.ref a) X.env.frame) (fun _ s4 => wpAny (model X.prog X.w) X.A (throw (.ref a) : Sem Flow) (SP X pins D) X.xe s4) X.xe { s' with heap := h3 } := by
      rw [hf]
      refine HandSPX.setFlight_upZ fl3 fun h4 hh4 up4 => wpAny_throw (tk _ _ ?_)
      refine ⟨a, B, sI, pins, σ', H', cls, d, rfl, J, nb, (up.trans up3).trans up4, .inr (.inr ?_), na, os, ag, w⟩
      rw [hs]
      exact hh4
    first
      | exact wpAny_bind (wpAny_pure (wpAny_bind fin))
      | exact wpAny_bind fin
  | @cons x c ts b₀ suite np pos' hds2 l2 hc hsu r ih =>
    rintro ⟨b, hb1, hyes, hno⟩
    refine wpAny_handleBy_cons (codeAny_handlers_test ?_) (by intro q; cases q)
    have LT : PySem.W.Looks (model X.prog X.w) h3 (typeOf (.ref a)) cls := fun A Q E s k q => wpAny_typeOf_ref (k _ _ he3) (by rw [hz3.1]; exact q)
    have LM := PySem.W.exm_one (M := model X.prog X.w) (J3.kIn) LT hb1
    have test : ∀ {Q : Value → Shared → Prop} {E : Value → Shared → Prop}, Q c { s' with heap := h3 } → wpAny (model X.prog X.w) (X.A.mark (some (.ref a))) (eval (.Name x np) X.env) Q E { s' with heap := h3 } := by
      intro Q E q
      obtain ⟨hg, hdbg, hm | ⟨hm, hv, hnn⟩⟩ := hc
      · exact ld_glob (X := X.suite a ((a, oe3) :: (X.pn ++ pins))) S3 hg hm q hdbg
      · exact ld_blt (X := X.suite a ((a, oe3) :: (X.pn ++ pins))) S3 hg hm hv q hnn hdbg
    refine test (LM.here ?_)
    cases b with
    | false =>
      show wpAny _ X.A (handleBy (.ref a) X.env hds2) _ _ _
      exact ih (hno rfl)
    | true =>
      apply codeAny_handlers_suite_as
      refine HandSPX.lands_againZ fl3 fun h4 fl4 up4 => ?_
      have J4 : Inv X pins σ' H' { s' with heap := h4 } := J.landed nb fl4.1 ((up.trans up3).trans up4) os ag
      obtain ⟨oe4, vs4, he4, hz4, hd4⟩ := fl4.there
      have S4 := J4.suite he4 hd4 na nL nF
      refine store_ok (X := X.suite a ((a, oe4) :: (X.pn ++ pins))) (v := .ref a) S4 hN hi (.inl hln) rfl (fun s5 S5 => ?_) (.inr hln)
      have run := (hsu a oe4 cls d (X.pn ++ pins) hz4 ⟨_, hd4⟩).run [] s5 _ H' _ S5 (hyes rfl a na)
      refine wpAny_mono run (fun f s6 hsp => ?_) (fun _ _ z => z.elim)
      have gone : ∀ {σ6 : St} {H6 : Hp} {Q : Shared → Prop}, Inv (X.suite a ((a, oe4) :: (X.pn ++ pins))) [] σ6 H6 s6 → (∀ s7, Inv X pins (σ6.set i none) H6 s7 → Q s7) →
          wpAny (model X.prog X.w) X.A (do bindName X.env n .none; unbindBehindTheSuite X.env n pos') (fun _ s7 => Q s7) X.xe s6 := fun S6 hq => gone_ok (S6.unsuite ok) hN hi hln hq
      cases f with
      | ret u =>
        obtain ⟨v6, σ6, H6, S6, r6, q6⟩ := hsp
        exact gone S6 fun s7 J7 => ⟨_, _, _, J7, r6, q6⟩
      | next =>
        obtain ⟨σ6, H6, S6, q6⟩ := hsp
        exact gone S6 fun s7 J7 => ⟨_, _, J7, q6⟩
      | brk =>
        obtain ⟨σ6, H6, S6, q6⟩ := hsp
        exact gone S6 fun s7 J7 => ⟨_, _, J7, q6⟩
      | cont =>
        obtain ⟨σ6, H6, S6, q6⟩ := hsp
        exact gone S6 fun s7 J7 => ⟨_, _, J7, q6⟩
  | @bare x c ts b₀ suite np pos' hds2 l2 hc hsu r ih =>
    rintro ⟨b, hb1, hyes, hno⟩
    refine wpAny_handleBy_cons (codeAny_handlers_test ?_) (by intro q; cases q)
    have LT : PySem.W.Looks (model X.prog X.w) h3 (typeOf (.ref a)) cls := fun A Q E s k q => wpAny_typeOf_ref (k _ _ he3) (by rw [hz3.1]; exact q)
    have LM := PySem.W.exm_one (M := model X.prog X.w) (J3.kIn) LT hb1
    have test : ∀ {Q : Value → Shared → Prop} {E : Value → Shared → Prop}, Q c { s' with heap := h3 } → wpAny (model X.prog X.w) (X.A.mark (some (.ref a))) (eval (.Name x np) X.env) Q E { s' with heap := h3 } := by
      intro Q E q
      obtain ⟨hg, hdbg, hm | ⟨hm, hv, hnn⟩⟩ := hc
      · exact ld_glob (X := X.suite a ((a, oe3) :: (X.pn ++ pins))) S3 hg hm q hdbg
      · exact ld_blt (X := X.suite a ((a, oe3) :: (X.pn ++ pins))) S3 hg hm hv q hnn hdbg
    refine test (LM.here ?_)
    cases b with
    | false =>
      show wpAny _ X.A (handleBy (.ref a) X.env hds2) _ _ _
      exact ih (hno rfl)
    | true =>
      apply codeAny_handlers_suite
      refine HandSPX.lands_againZ fl3 fun h4 fl4 up4 => ?_
      have J4 : Inv X pins σ' H' { s' with heap := h4 } := J.landed nb fl4.1 ((up.trans up3).trans up4) os ag
      obtain ⟨oe4, vs4, he4, hz4, hd4⟩ := fl4.there
      have S4 := J4.suite he4 hd4 na nL nF
      have run := (hsu a oe4 cls d (X.pn ++ pins) hz4 ⟨_, hd4⟩).run [] _ _ H' _ S4 (hyes rfl a na)
      refine wpAny_mono run (fun f s6 hsp => ?_) (fun _ _ z => z.elim)
      cases f with
      | ret u =>
        obtain ⟨v6, σ6, H6, S6, r6, q6⟩ := hsp
        exact ⟨_, _, _, S6.unsuite ok, r6, q6⟩
      | next =>
        obtain ⟨σ6, H6, S6, q6⟩ := hsp
        exact ⟨_, _, S6.unsuite ok, q6⟩
      | brk =>
        obtain ⟨σ6, H6, S6, q6⟩ := hsp
        exact ⟨_, _, S6.unsuite ok, q6⟩
      | cont =>
        obtain ⟨σ6, H6, S6, q6⟩ := hsp
        exact ⟨_, _, S6.unsuite ok, q6⟩
/-- the reading of such a try, and of one with a single clause -/
def tTryEach (K : PySem.W.Frag) (i : Nat) (l : List ClauseT) (Wout : WX) (tb : WX → TS) : TS := fun D σ H => tb (wEach K i Wout D l) D σ H
def tTryAs (K : PySem.W.Frag) (c : Value) (i : Nat) (ts : Addr → Value → Option Addr → TS) (Wout : WX) (tb : WX → TS) : TS := fun D σ H => tb (wAs K c i ts Wout D) D σ H
theorem ps_try_one {x : Str} {c : Value} {b₀ : Stmt} {suite : List Stmt} {np pos' : Pos} {ts : Addr → Value → Option Addr → TS} (hs : X.stack = X.env :: X.outer) (hf : X.env.frame = some X.env.locals) (hN : X.N.Nodup) (hi : X.N[i]? = some n) (hln : X.env.kindOf n = some .local) (hc : Names X x c) (tk : Takes X Wout)
    (hb : ∀ (W : WX) (pn : List (Addr × Obj)) (xe : Value → Shared → Prop), Takes (X.tr pn xe) W → PassesOwn (model X.prog X.w) X.A X.env xe → PSs (X.tr pn xe) body (tb W))
    (hsu : ∀ (a : Addr) (oe : Obj) (cls : Value) (d : Option Addr) (pn : List (Addr × Obj)), Zc cls d oe → (∃ vs, oe.data = .fields vs) → PSs (X.suite a ((a, oe) :: pn)) (b₀ :: suite) (ts a cls d)) :
    PS X (.Try body [.ExceptHandler (some (.Name x np)) (some n) (b₀ :: suite) pos'] [] [] pos) (tTryAs X.K c i ts Wout tb) := ps_try_as hs hf hN hi hln hc tk hb hsu
theorem ps_try_each (hs : X.stack = X.env :: X.outer) (hf : X.env.frame = some X.env.locals) (hN : X.N.Nodup) (hi : X.N[i]? = some n) (hln : X.env.kindOf n = some .local) (tk : Takes X Wout)
    (hb : ∀ (W : WX) (pn : List (Addr × Obj)) (xe : Value → Shared → Prop), Takes (X.tr pn xe) W → PassesOwn (model X.prog X.w) X.A X.env xe → PSs (X.tr pn xe) body (tb W))
    (hh : Clauses X n (h₀ :: hds) l) : PS X (.Try body (h₀ :: hds) [] [] pos) (tTryEach X.K i l Wout tb) := by
  constructor
  intro pins s σ H D I h
  have ok := I.ok
  have hfr : X.A.frames = some (X.env :: X.outer) := by rw [ok.frames, hs]
  apply wpAny_Try_except
  have run := (hb (wEach X.K i Wout D l) (X.pn ++ pins) (fun e s₁ => wpAny (model X.prog X.w) X.A (noteFrame e X.env) (fun _ s₂ => wpAny (model X.prog X.w) X.A (setFlight e none) (fun _ s₃ =>
    wpAny (model X.prog X.w) X.A (handleBy e X.env (h₀ :: hds)) (SP X pins D) X.xe s₃) X.xe s₂) X.xe s₁) (fun u s' xx => ?_) PassesOwn.looking).run [] s σ H D (I.toTry _) h
  · refine wpAny_mono run (fun f s1 hsp => ?_) (fun e s1 he => he)
    cases f with
    | ret u =>
      obtain ⟨v, σ', H', J', r, q⟩ := hsp
      exact ⟨v, σ', H', J'.ofTry ok, r, q⟩
    | next =>
      obtain ⟨σ', H', J', q⟩ := hsp
      exact wpAny_execs_nil ⟨σ', H', J'.ofTry ok, q⟩
    | brk =>
      obtain ⟨σ', H', J', q⟩ := hsp
      exact ⟨σ', H', J'.ofTry ok, q⟩
    | cont =>
      obtain ⟨σ', H', J', q⟩ := hsp
      exact ⟨σ', H', J'.ofTry ok, q⟩
  · obtain ⟨a, B, sI, pins', σ', H', cls, d, rfl, J', nb, up, sky, na, os, ag, w⟩ := xx
    have J : Inv X pins σ' H' sI := J'.ofTry ok
    have sky' : Sky B (X.env :: X.outer) a (Zc cls d) X.env.locals s'.heap := by rw [← hs]; exact sky
    show wpAny (model X.prog X.w) X.A (noteFrame (.ref a) X.env) _ _ _
    refine Sky.land Zc.steady hfr hf sky' fun h3 fl3 up3 => ?_
    obtain ⟨oe3, vs3, he3, hz3, hd3⟩ := fl3.there
    have nfr : a ∉ frs (X.env :: X.outer) := fun hm => by
      obtain ⟨_, o', e', hnf⟩ := Heap.FunFrames.mem fl3.2.2.1 hm
      rw [he3] at e'
      cases e'
      exact hnf _ hd3
    have nL : a ≠ X.env.locals := fun z => nfr (List.mem_filterMap.mpr ⟨X.env, List.mem_cons_self, by rw [hf, z]⟩)
    have nF : a ∉ X.fs := fun hm => by
      obtain ⟨e, he, q⟩ := List.mem_filterMap.mp hm
      exact nfr (List.mem_filterMap.mpr ⟨e, List.mem_cons_of_mem _ he, q⟩)
    exact each_ok hN hi hln hf hs tk ok J nb up up3 na os ag fl3 nL nF hh w
end
end L2
set_option Elab.async false
set_option linter.all false
set_option maxRecDepth 100000
set_option maxHeartbeats 4000000
/-! What every text here shares: heaps that only grow, data that stay, the drawn numbers. -/
namespace Sw
open PySem PySem.Spec PyProof.Rows L2
theorem same_new {H : Hp} {p : Addr} {o : HO} (h : H p = none) : Same H (upd H p o) := fun b x e => by
  rw [upd_ne (ne_of_none e h)]
  exact e
theorem sqT_up {K : PySem.W.Frag} {H H' : Hp} {a : Addr} {xs : List V} (s : Same H H') (h : SqT K H a xs) : SqT K H' a xs := by
  rcases h with (h | ⟨o, h⟩) | h
  · exact .inl (.inl (s _ _ h))
  · exact .inl (.inr ⟨o, s _ _ h⟩)
  · exact .inr h
mutual
theorem dp_up {K : PySem.W.Frag} {H H' : Hp} (s : Same H H') : ∀ {v : V} {d : PyData}, Dp K H v d → Dp K H' v d
  | _, _, .non => .non
  | _, _, .bl b => .bl b
  | _, _, .int i => .int i
  | _, _, .str x => .str x
  | _, _, .lst q r => .lst (s.seq q) (dpAll_up s r)
  | _, _, .tup q r => .tup (sqT_up s q) (dpAll_up s r)
theorem dpAll_up {K : PySem.W.Frag} {H H' : Hp} (s : Same H H') : ∀ {vs : List V} {ds : List PyData}, DpAll K H vs ds → DpAll K H' vs ds
  | _, _, .nil => .nil
  | _, _, .cons q r => .cons (dp_up s q) (dpAll_up s r)
end
/-- a new tuple, told by what stays true -/
theorem tup_new {K : PySem.W.Frag} {H : Hp} {xs : List V} {Q : V → Hp → Prop} (h : ∀ (p : Addr) (H' : Hp), Same H H' → SqT K H' p xs → Q (.ref p) H') : ∀ p, H p = none → Q (.ref p) (upd H p (.tup xs)) :=
  fun p hp => h p _ (same_new hp) (.inl (.inl upd_same))
theorem lst_new {K : PySem.W.Frag} {H : Hp} {xs : List V} {Q : V → Hp → Prop} (h : ∀ (p : Addr) (H' : Hp), H p = none → Same H H' → H' p = some (.lst xs) → SqL K H' p xs → Q (.ref p) H') : ∀ p, H p = none → Q (.ref p) (upd H p (.lst xs)) :=
  fun p hp => h p _ hp (same_new hp) upd_same (.inl (.inl upd_same))
/-- one list of ours changed: all that stood before it was made stands -/
theorem same_put {H H1 : Hp} {p : Addr} {o : HO} (h0 : H p = none) (s : Same H H1) : Same H (upd H1 p o) := fun b x e => by
  rw [upd_ne (ne_of_none e h0)]
  exact s b x e
def Num (n : Int) : Prop := 0 ≤ n ∧ n < 1009
theorem sizeN {n : Nat} (h : n ≤ 200000) : n < sizeLine := Nat.lt_of_le_of_lt h (by decide)
theorem map_at {ns : List Int} {i : Nat} {x : V} (h : (ns.map V.int)[i]? = some x) : ∃ z, ns[i]? = some z ∧ x = V.int z := by
  rw [List.getElem?_map] at h
  cases e : ns[i]? with
  | none => rw [e] at h; cases h
  | some z => rw [e] at h; exact ⟨z, rfl, (Option.some.inj h).symm⟩
/-- law's row: a list of so many drawn numbers -/
def spRow (K : PySem.W.Frag) : Sp := fun vs H Q _ => ∃ c many : Int, vs = [.int c, .int many] ∧ 0 ≤ many ∧ many ≤ 2000 ∧
  ∀ (H' : Hp) (p : Addr) (ns : List Int), Same H H' → H p = none → H' p = some (.lst (ns.map V.int)) → (ns.length : Int) = many → (∀ n ∈ ns, Num n) → Q (.ref p) H'
def spNums (K : PySem.W.Frag) : Sp := fun vs H Q _ => ∃ (a : Addr) (xs : List Int) (many : Int), vs = [.ref a, .int many] ∧ SqL K H a (xs.map V.int) ∧ xs.length ≤ 63 ∧ 0 ≤ many ∧ many ≤ 1900 ∧
  ∀ (H' : Hp) (p : Addr) (ns : List Int), Same H H' → H p = none → H' p = some (.lst (ns.map V.int)) → (ns.length : Int) = many → (∀ n ∈ ns, Num n) → Q (.ref p) H'
end Sw
namespace Sw
open PySem PySem.Spec PyProof.Rows L2
/-- an error class over ValueError that keeps nothing of its own -/
structure PlainErr (K : PySem.W.Frag) (mg : Str → Option Value) (x : Str) (C : Addr) : Prop where
  g : mg x = some (.ref C)
  x : PySem.W.excIn K C [.type "ValueError", .type "Exception", .type "BaseException", .type "object"] "ValueError.__new__" = true
  k : PySem.W.keepIn K (.ref C) = true
  b : PySem.W.subIn K (.ref C) (.type "BaseException") = some true
  t : PySem.W.typeIn K (.ref C) = some (.type "type")
def spLaw (K : PySem.W.Frag) : Sp := fun vs H Q _ => ∃ (a : Addr) (ns : List Int), vs = [.ref a] ∧ SqL K H a (ns.map V.int) ∧ ns.length ≤ 63 ∧ ∀ H', Q (.bl true) H'
end Sw
namespace Sw
open PySem PySem.Spec PyProof.Rows L2
theorem cut_to {xs : List V} {j : Nat} : cutV xs none (some (j : Int)) = xs.take j := by
  unfold cutV
  rw [HT.sIx_none, HT.sIx_nat]
  show (xs.drop 0).take (min j xs.length - 0) = xs.take j
  rw [List.drop_zero, Nat.sub_zero]
  by_cases h : j ≤ xs.length
  · rw [Nat.min_eq_left h]
  · rw [Nat.min_eq_right (by omega), List.take_length, List.take_of_length_le (by omega)]
theorem cut_from {xs : List V} {j : Nat} : cutV xs (some (j : Int)) none = xs.drop j := by
  unfold cutV
  rw [HT.sIx_none, HT.sIx_nat]
  by_cases h : j ≤ xs.length
  · rw [Nat.min_eq_left h, ← List.length_drop, List.take_length]
  · rw [Nat.min_eq_right (by omega), List.drop_length, List.drop_of_length_le (by omega)]
    simp
theorem num_push {ns : List Int} {z : Int} (h : ∀ n ∈ ns, Num n) (hz : Num z) : ∀ n ∈ ns ++ [z], Num n := fun n hn => by
  rcases List.mem_append.mp hn with hn | hn
  · exact h n hn
  · rw [List.mem_singleton.mp hn]
    exact hz
theorem map_push (ns : List Int) (z : Int) : ns.map V.int ++ [V.int z] = (ns ++ [z]).map V.int := by
  rw [List.map_append]
  rfl
end Sw
namespace Sw
open PySem PySem.Spec PyProof.Rows L2
/-- an except clause that names a class at S asks whether the error's class lies under it -/
theorem exm_of {K : PySem.W.Frag} {D S : Addr} {b : Bool} (h1 : PySem.W.subIn K (.ref S) (.type "BaseException") = some true) (h2 : PySem.W.isClsIn K S = true) (h3 : PySem.W.typeIn K (.ref S) = some (.type "type")) (h4 : PySem.W.subIn K (.ref D) (.ref S) = some b) :
    PySem.W.exmOne K (.ref D) (.ref S) = some b := by
  have e1 : (PySem.W.subIn K (.ref S) (.type "BaseException") == some true) = true := by rw [h1] <;> rfl
  have e2 : ((PySem.W.clsIn K S).isSome && PySem.W.typeIn K (.ref S) == some (.type "type")) = true := by
    rw [show (PySem.W.clsIn K S).isSome = true from h2, h3] <;> rfl
  show (if (PySem.W.subIn K (.ref S) (.type "BaseException") == some true) = true then (if ((PySem.W.clsIn K S).isSome && PySem.W.typeIn K (.ref S) == some (.type "type")) = true then PySem.W.subIn K (.ref D) (.ref S) else none) else none) = some b
  rw [if_pos e1, if_pos e2]
  exact h4
end Sw
namespace Sw
open PySem PySem.Spec PyProof.Rows L2
theorem int_ne {i j : Int} (h : (!decide (V.int i = V.int j)) = true) : i ≠ j := fun e => by
  rw [e, decide_eq_true rfl] at h
  cases h
theorem int_eq {i j : Int} (h : ¬ (!decide (V.int i = V.int j)) = true) : i = j := by
  by_cases e : V.int i = V.int j
  · exact V.int.inj e
  · rw [decide_eq_false e] at h
    exact absurd rfl h
theorem of3 {α : Type} {l : List α} (h : ((l.length : Nat) : Int) = 3) : ∃ x y z, l = [x, y, z] := by
  match l, h with
  | [x, y, z], _ => exact ⟨x, y, z, rfl⟩
  | [], h => exact absurd h (by simp)
  | [_], h => exact absurd h (by simp)
  | [_, _], h => exact absurd h (by simp)
  | _ :: _ :: _ :: _ :: l, h => simp at h; omega
theorem of4 {α : Type} {l : List α} (h : ((l.length : Nat) : Int) = 4) : ∃ x y z u, l = [x, y, z, u] := by
  match l, h with
  | [x, y, z, u], _ => exact ⟨x, y, z, u, rfl⟩
  | [], h => exact absurd h (by simp)
  | [_], h => exact absurd h (by simp)
  | [_, _], h => exact absurd h (by simp)
  | [_, _, _], h => exact absurd h (by simp)
  | _ :: _ :: _ :: _ :: _ :: l, h => simp at h; omega
end Sw
namespace Sw
open PySem PySem.Spec PyProof.Rows L2
/-! ### the same rules, told by what stays true -/
def nTup (K : PySem.W.Frag) (H : Hp) (xs : List V) (Q : VK) : Prop := ∀ (p : Addr) (H2 : Hp), Same H H2 → SqT K H2 p xs → Q (.ref p) H2
def nLst (H : Hp) (xs : List V) (Q : VK) : Prop := ∀ (p : Addr) (H2 : Hp), Same H H2 → H p = none → H2 p = some (.lst xs) → Q (.ref p) H2
theorem nTup.at {K : PySem.W.Frag} {H : Hp} {xs : List V} {Q : VK} (h : nTup K H xs Q) (p : Addr) (n : H p = none) : Q (.ref p) (upd H p (.tup xs)) := h p _ (same_new n) (.inl (.inl upd_same))
theorem nLst.at {H : Hp} {xs : List V} {Q : VK} (h : nLst H xs Q) (p : Addr) (n : H p = none) : Q (.ref p) (upd H p (.lst xs)) := h p _ (same_new n) n upd_same
def tTupM (K : PySem.W.Frag) (t : TA) : TE := fun σ H Q => t σ H fun xs H1 => xs.length ≤ sizeLine ∧ nTup K H1 xs Q
def tLstM (t : TA) : TE := fun σ H Q => t σ H fun xs H1 => xs.length ≤ sizeLine ∧ nLst H1 xs Q
section
variable {X : Cx} {es : List Expr} {t : TA} {pos : Pos}
theorem pe_tupM {x1} (h : PA X es t) : PE X (.Tuple es x1 pos) (tTupM X.K t) := by
  constructor
  intro pins s σ H Q I hq
  apply wpAny_Tuple_spliced
  refine thn (h.run pos pins s σ H _ I hq) ?_
  rintro us s1 ⟨xs, H1, I1, r, z, q⟩
  refine ⟨r.length ▸ z, ?_⟩
  have hf : H1 s1.heap.objs.size = none := I1.hok.fresh (Nat.le_refl _)
  have J := I1.laid (t' := s1.toks) (a := s1.heap.objs.size) (o := .tup xs) (fun b u e => Heap.get?_push_of_some { cls := .type "tuple", data := .seq us.toArray } e) (Nat.le_refl _) ⟨z, us, r, ⟨_, Heap.get?_push_size _ rfl, rfl, _, rfl⟩⟩
  exact ⟨.ref _, _, J, rfl, q.at _ hf⟩
theorem pe_lstM (h : PA X es t) : PE X (.List es pos) (tLstM t) := by
  constructor
  intro pins s σ H Q I hq
  apply wpAny_List_spliced
  refine thn (h.run pos pins s σ H _ I hq) ?_
  rintro us s1 ⟨xs, H1, I1, r, z, q⟩
  refine ⟨r.length ▸ z, ?_⟩
  have hf : H1 s1.heap.objs.size = none := I1.hok.fresh (Nat.le_refl _)
  have J := I1.laid (t' := s1.toks) (a := s1.heap.objs.size) (o := .lst xs) (fun b u e => Heap.get?_push_of_some { cls := .type "list", data := .seq us.toArray } e) (Nat.le_refl _) ⟨z, us, 0, r, Heap.get?_push_size _ rfl⟩
  exact ⟨.ref _, _, J, rfl, q.at _ hf⟩
/-- t[lo:hi], not the whole of t -/
def rSlTM (K : PySem.W.Frag) : V → Option Int → Option Int → Hp → VK → Prop := fun x lo hi H Q => ∃ a xs, x = .ref a ∧ SqT K H a xs ∧ ¬ (HT.sIx xs.length 0 lo = 0 ∧ HT.sIx xs.length xs.length hi = xs.length) ∧ nTup K H (cutV xs lo hi) Q
theorem sl_tupM : SlR X (rSlTM X.K) := fun pins s σ H x v vl vu lo hi sl Q I rx hs pl pu ⟨b, xs, e, h1, h2, q⟩ => sl_tup pins s σ H x v vl vu lo hi sl Q I rx hs pl pu ⟨b, xs, e, h1, h2, q.at⟩
def rSlLM (K : PySem.W.Frag) : V → Option Int → Option Int → Hp → VK → Prop := fun x lo hi H Q => ∃ a xs, x = .ref a ∧ SqL K H a xs ∧ nLst H (cutV xs lo hi) Q
theorem sl_listM : SlR X (rSlLM X.K) := fun pins s σ H x v vl vu lo hi sl Q I rx hs pl pu ⟨b, xs, e, h1, q⟩ => sl_list pins s σ H x v vl vu lo hi sl Q I rx hs pl pu ⟨b, xs, e, h1, q.at⟩
def rCatTM (K : PySem.W.Frag) : R2 := fun x y H Q => ∃ a b xs ys, x = .ref a ∧ y = .ref b ∧ SqT K H a xs ∧ SqT K H b ys ∧ xs ≠ [] ∧ ys ≠ [] ∧ xs.length + ys.length ≤ sizeLine ∧ nTup K H (xs ++ ys) Q
theorem op_catTM : OpR X (binaryOp .Add) (rCatTM X.K) := fun pins s σ H x y v u Q I rx ry ⟨c, b, xs, ys, e1, e2, h1, h2, h3, h4, h5, q⟩ => op_catT pins s σ H x y v u Q I rx ry ⟨c, b, xs, ys, e1, e2, h1, h2, h3, h5, fun z => absurd z h4, fun _ => q.at⟩
def rCatM : R2 := fun x y H Q => ∃ l b xs zs, x = .ref l ∧ y = .ref b ∧ H l = some (.lst xs) ∧ H b = some (.lst zs) ∧ xs.length + zs.length ≤ sizeLine ∧ nLst H (xs ++ zs) Q
theorem op_catM : OpR X (binaryOp .Add) rCatM := fun pins s σ H x y v u Q I rx ry ⟨c, b, xs, ys, e1, e2, h1, h2, h3, q⟩ => op_cat pins s σ H x y v u Q I rx ry ⟨c, b, xs, ys, e1, e2, h1, h2, h3, q.at⟩
def rRepM : R2 := fun x y H Q => ∃ l k xs, x = .ref l ∧ y = .int k ∧ H l = some (.lst xs) ∧ -(2 ^ 63) ≤ k ∧ k < 2 ^ 63 ∧ xs.length * k.toNat ≤ sizeLine ∧ nLst H (List.replicate k.toNat xs).flatten Q
theorem op_repM : OpR X (binaryOp .Mult) rRepM := fun pins s σ H x y v u Q I rx ry ⟨c, k, xs, e1, e2, h1, h2, h3, h4, q⟩ => op_rep pins s σ H x y v u Q I rx ry ⟨c, k, xs, e1, e2, h1, h2, h3, h4, q.at⟩
end
end Sw
namespace Sw
open PySem PySem.Spec PyProof.Rows L2
/-- an instance is changed: lists and tuples stand -/
theorem sqL_ins {K : PySem.W.Frag} {H : Hp} {x C dx p : Addr} {fs : List (Str × V)} {o : HO} {xs : List V} (hx : H x = some (.ins C dx fs)) (h : SqL K H p xs) : SqL K (upd H x o) p xs := by
  rcases h with (h | ⟨u, h⟩) | h
  · exact .inl (.inl (by rw [upd_ne (fun z => by rw [z, hx] at h; cases h)]; exact h))
  · exact .inl (.inr ⟨u, by rw [upd_ne (fun z => by rw [z, hx] at h; cases h)]; exact h⟩)
  · exact .inr h
theorem sqT_ins {K : PySem.W.Frag} {H : Hp} {x C dx p : Addr} {fs : List (Str × V)} {o : HO} {xs : List V} (hx : H x = some (.ins C dx fs)) (h : SqT K H p xs) : SqT K (upd H x o) p xs := by
  rcases h with (h | ⟨u, h⟩) | h
  · exact .inl (.inl (by rw [upd_ne (fun z => by rw [z, hx] at h; cases h)]; exact h))
  · exact .inl (.inr ⟨u, by rw [upd_ne (fun z => by rw [z, hx] at h; cases h)]; exact h⟩)
  · exact .inr h
end Sw
namespace Sw
open PySem PySem.Spec PyProof.Rows L2
/-! ### data, and == of data -/
def dTI (ns : List Int) : PyData := .tuple (ns.map .int)
theorem dpAll_ints {K : PySem.W.Frag} {H : Hp} : ∀ ns : List Int, DpAll K H (ns.map V.int) (ns.map PyData.int)
  | [] => .nil
  | _ :: r => .cons (.int _) (dpAll_ints r)
theorem dp_ti {K : PySem.W.Frag} {H : Hp} {p : Addr} {ns : List Int} (h : SqT K H p (ns.map V.int)) : Dp K H (.ref p) (dTI ns) := .tup h (dpAll_ints ns)
theorem dp_t {K : PySem.W.Frag} {H : Hp} {p : Addr} {xs : List V} {ds : List PyData} (h : SqT K H p xs) (r : DpAll K H xs ds) : Dp K H (.ref p) (.tuple ds) := .tup h r
theorem dp_l {K : PySem.W.Frag} {H : Hp} {p : Addr} {xs : List V} {ds : List PyData} (h : H p = some (.lst xs)) (r : DpAll K H xs ds) : Dp K H (.ref p) (.list ds) := .lst (.inl (.inl h)) r
/-- data that can be compared, of a depth -/
def Lay (k : Nat) (d : PyData) : Prop := d.canLay0 = true ∧ d.depth ≤ k
theorem lay_int (k : Nat) (i : Int) : Lay k (.int i) := ⟨rfl, Nat.zero_le _⟩
theorem lay_non (k : Nat) : Lay k .none := ⟨rfl, Nat.zero_le _⟩
theorem lay_bool (k : Nat) (b : Bool) : Lay k (.bool b) := ⟨rfl, Nat.zero_le _⟩
theorem lay_all {k : Nat} : ∀ {ds : List PyData}, (∀ d ∈ ds, Lay k d) → PyData.canLayAll0 ds = true ∧ PyData.depthAll ds ≤ k
  | [], _ => ⟨rfl, Nat.zero_le _⟩
  | d :: r, h => by
    obtain ⟨a1, a2⟩ := h d List.mem_cons_self
    obtain ⟨b1, b2⟩ := lay_all (ds := r) fun x hx => h x (List.mem_cons_of_mem _ hx)
    refine ⟨?_, ?_⟩
    · show (d.canLay0 && PyData.canLayAll0 r) = true
      rw [a1, b1]
      rfl
    · show max d.depth (PyData.depthAll r) ≤ k
      omega
theorem lay_tuple {k : Nat} {ds : List PyData} (h : ∀ d ∈ ds, Lay k d) : Lay (k + 1) (.tuple ds) := by
  obtain ⟨a, b⟩ := lay_all h
  exact ⟨a, Nat.succ_le_succ b⟩
theorem lay_list {k : Nat} {ds : List PyData} (h : ∀ d ∈ ds, Lay k d) : Lay (k + 1) (.list ds) := by
  obtain ⟨a, b⟩ := lay_all h
  exact ⟨a, Nat.succ_le_succ b⟩
theorem lay_up {j k : Nat} {d : PyData} (h : Lay j d) (l : j ≤ k) : Lay k d := ⟨h.1, Nat.le_trans h.2 l⟩
theorem lay_ti (ns : List Int) : Lay 1 (dTI ns) := lay_tuple fun d hd => by
  obtain ⟨i, _, rfl⟩ := List.mem_map.mp hd
  exact lay_int 0 i
theorem lay_2 {k : Nat} {d e : PyData} (h1 : Lay k d) (h2 : Lay k e) : ∀ x ∈ [d, e], Lay k x := fun x hx => by
  rcases List.mem_cons.mp hx with rfl | hx
  · exact h1
  · rw [List.mem_singleton.mp hx]
    exact h2
theorem shaped_of {k : Nat} {d : PyData} (h : Lay k d) (hk : k ≤ 64) : SeqAt.shaped d = true := by
  unfold SeqAt.shaped
  rw [h.1, decide_eq_true (Nat.le_trans h.2 hk)]
  rfl
theorem ne_same {K : PySem.W.Frag} {k : Nat} {x y : V} {d : PyData} {H : Hp} {Q : VK} (l : Lay k d) (hk : k ≤ 64) (hx : Dp K H x d) (hy : Dp K H y d) (q : Q (.bl false) H) : rNeD K x y H Q :=
  ⟨d, d, hx, hy, shaped_of l hk, shaped_of l hk, by rw [SeqAt.eqv_refl d l.1]; exact q⟩
theorem eq_same {K : PySem.W.Frag} {k : Nat} {x y : V} {d : PyData} {H : Hp} {Q : VK} (l : Lay k d) (hk : k ≤ 64) (hx : Dp K H x d) (hy : Dp K H y d) (q : Q (.bl true) H) : rEqD K x y H Q :=
  ⟨d, d, hx, hy, shaped_of l hk, shaped_of l hk, by rw [SeqAt.eqv_refl d l.1]; exact q⟩
/-! ### a, b = e where e is a tuple or a list -/
def gSeq (K : PySem.W.Frag) (n : Nat) (t : TGs) : TG := fun v σ H Q => ∃ a xs, v = .ref a ∧ (SqT K H a xs ∨ SqL K H a xs) ∧ xs.length = n ∧ t xs σ H Q
theorem pg_seq {X : Cx} {es : List Expr} {k : Nat} {t : TGs} {n : Nat} {pos : Pos} (hc : X.calm = true) (h : PGs X es t)
    (hn : (assignEach es X.env).length = n := by rfl) (hst : (assignEach es X.env).findIdx? (·.1) = none := by rfl) : PG X (.Tuple es k pos) (gSeq X.K n t) := by
  constructor
  rintro pins s σ H v u Q I r ⟨b, xs, e, hq | hq, hl, w⟩
  · exact (pg_tup hc h hn hst).run pins s σ H v u Q I r ⟨b, xs, e, hq, hl, w⟩
  · exact (pg_lst hc h hn hst).run pins s σ H v u Q I r ⟨b, xs, e, hq, hl, w⟩
theorem emod_step (z d n : Int) : (z % n + d + n) % n = (z + d) % n := by
  rw [Int.add_emod_right, Int.emod_add_emod]
end Sw
namespace Sw
open PySem PySem.Spec PyProof.Rows L2
def numI (ns : List Int) (j : Int) : Int := ns.getD j.toNat 0
theorem nthI {ns : List Int} {j : Int} (h0 : 0 ≤ j) (h1 : j < (ns.length : Int)) : atI (ns.map V.int) j = some (.int (numI ns j)) := by
  obtain ⟨k, rfl⟩ := Int.eq_ofNat_of_zero_le h0
  refine atI_nat ?_
  have hk : k < ns.length := by omega
  rw [List.getElem?_map, List.getElem?_eq_getElem hk]
  show some (V.int ns[k]) = some (V.int (ns.getD k 0))
  rw [List.getD_eq_getElem?_getD, List.getElem?_eq_getElem hk]
  rfl
theorem num_at {ns : List Int} (h : ∀ n ∈ ns, Num n) (j : Int) : Num (numI ns j) := by
  unfold numI
  rw [List.getD_eq_getElem?_getD]
  cases e : ns[j.toNat]? with
  | none => exact ⟨by decide, by decide⟩
  | some z => exact h z (List.mem_of_getElem? e)
theorem iteD {c A B : Prop} [Decidable c] (hc : c) (h : A) : if decide c = true then A else B := by
  rw [if_pos (decide_eq_true hc)]
  exact h
end Sw
namespace Sw
open PySem PySem.Spec PyProof.Rows L2
/-! ### data without lists stand where a list is changed -/
theorem sqT_lst {K : PySem.W.Frag} {H : Hp} {l p : Addr} {xs ys : List V} {o : HO} (hl : H l = some (.lst xs)) (h : SqT K H p ys) : SqT K (upd H l o) p ys := by
  rcases h with (h | ⟨u, h⟩) | h
  · exact .inl (.inl (by rw [upd_ne (fun z => by rw [z, hl] at h; cases h)]; exact h))
  · exact .inl (.inr ⟨u, by rw [upd_ne (fun z => by rw [z, hl] at h; cases h)]; exact h⟩)
  · exact .inr h
mutual
def noL : PyData → Bool
  | .tuple ds => noLs ds
  | .list _ => false
  | .dict _ => false
  | _ => true
def noLs : List PyData → Bool
  | [] => true
  | d :: r => noL d && noLs r
end
mutual
theorem dp_put {K : PySem.W.Frag} {H : Hp} {l : Addr} {xs : List V} {o : HO} (hl : H l = some (.lst xs)) : ∀ {v : V} {d : PyData}, noL d = true → Dp K H v d → Dp K (upd H l o) v d
  | _, _, _, .non => .non
  | _, _, _, .bl b => .bl b
  | _, _, _, .int i => .int i
  | _, _, _, .str x => .str x
  | _, _, n, .lst q r => nomatch n
  | _, _, n, .tup q r => .tup (sqT_lst hl q) (dpAll_put hl n r)
theorem dpAll_put {K : PySem.W.Frag} {H : Hp} {l : Addr} {xs : List V} {o : HO} (hl : H l = some (.lst xs)) : ∀ {vs : List V} {ds : List PyData}, noLs ds = true → DpAll K H vs ds → DpAll K (upd H l o) vs ds
  | _, _, _, .nil => .nil
  | _, _, n, .cons q r => .cons (dp_put hl (Bool.and_eq_true_iff.mp n).1 q) (dpAll_put hl (Bool.and_eq_true_iff.mp n).2 r)
end
theorem noLs_ints : ∀ ns : List Int, noLs (ns.map PyData.int) = true
  | [] => rfl
  | _ :: r => by
    show (noL (.int _) && noLs (r.map PyData.int)) = true
    rw [noLs_ints r]
    rfl
theorem noL_ti (ns : List Int) : noL (dTI ns) = true := noLs_ints ns
theorem dpAll_push {K : PySem.W.Frag} {H : Hp} {v : V} {d : PyData} : ∀ {vs : List V} {ds : List PyData}, DpAll K H vs ds → Dp K H v d → DpAll K H (vs ++ [v]) (ds ++ [d])
  | _, _, .nil, h => .cons h .nil
  | _, _, .cons q r, h => .cons q (dpAll_push r h)
theorem dpAll_len {K : PySem.W.Frag} {H : Hp} : ∀ {vs : List V} {ds : List PyData}, DpAll K H vs ds → vs.length = ds.length
  | _, _, .nil => rfl
  | _, _, .cons _ r => congrArg (· + 1) (dpAll_len r)
theorem dpAll_get {K : PySem.W.Frag} {H : Hp} : ∀ {vs : List V} {ds : List PyData} {i : Nat} {v : V}, DpAll K H vs ds → vs[i]? = some v → ∃ d, ds[i]? = some d ∧ Dp K H v d
  | _, _, 0, _, .cons q _, h => ⟨_, rfl, Option.some.inj h ▸ q⟩
  | _, _, i + 1, _, .cons _ r, h => dpAll_get (i := i) r h
theorem dp_ti_inv {K : PySem.W.Frag} {H : Hp} {v : V} {ns : List Int} (h : Dp K H v (dTI ns)) : ∃ p, v = .ref p ∧ SqT K H p (ns.map V.int) := by
  cases h with
  | @tup p xs ds q r =>
    refine ⟨p, rfl, ?_⟩
    have e : ∀ {xs : List V} {ns : List Int}, DpAll K H xs (ns.map PyData.int) → xs = ns.map V.int := by
      intro xs ns
      induction ns generalizing xs with
      | nil => intro h; cases h; rfl
      | cons n r ih =>
        intro h
        cases h with
        | cons h1 h2 =>
          cases h1
          rw [ih h2]
          rfl
    rw [← e r]
    exact q
/-- so many different numbers below a bound: not more than the bound -/
theorem nodup_below : ∀ (k : Nat) (l : List Nat), l.Nodup → (∀ x ∈ l, x < k) → l.length ≤ k
  | 0, l, _, h => by
    cases l with
    | nil => exact Nat.le_refl _
    | cons x r => exact absurd (h x List.mem_cons_self) (Nat.not_lt_zero _)
  | k + 1, l, hn, h => by
    have hn2 : (l.erase k).Nodup := hn.erase k
    have ih := nodup_below k (l.erase k) hn2 fun x hx => by
      have h1 := h x (List.mem_of_mem_erase hx)
      have h2 : x ≠ k := fun e => by
        subst e
        exact (List.Nodup.not_mem_erase hn) hx
      omega
    have e := List.length_erase (a := k) (l := l)
    by_cases hm : k ∈ l
    · rw [if_pos hm] at e
      omega
    · rw [if_neg hm] at e
      omega
end Sw
set_option Elab.async false
set_option linter.all false
set_option maxRecDepth 100000
set_option maxHeartbeats 4000000
/-! Skies, attitudes, commands, motions: what each def tells, as plain functions of integers, and its promise. -/
namespace Sw
open PySem PySem.Spec PyProof.Rows L2
def turnX (q x y : Int) : Int := if q % 4 = 1 then -y else if q % 4 = 2 then -x else if q % 4 = 3 then y else x
def turnY (q x y : Int) : Int := if q % 4 = 1 then x else if q % 4 = 2 then -y else if q % 4 = 3 then -x else y
def isPose (n : Int) : List Int → Bool
  | [x, y, q] => decide (0 ≤ x ∧ x < n ∧ 0 ≤ y ∧ y < n ∧ 0 ≤ q ∧ q ≤ 3)
  | _ => false
def isCmd (n : Int) : List Int → Bool
  | [x, y, q] => decide (-n < x ∧ x < n ∧ -n < y ∧ y < n ∧ 0 ≤ q ∧ q ≤ 3)
  | _ => false
def isCam (n : Int) : List Int → Bool
  | [r, b, g, l] => decide (0 ≤ r ∧ r ≤ 4 ∧ 0 ≤ b ∧ b ≤ 2 ∧ 0 ≤ g ∧ g ≤ 2 ∧ 1 ≤ l ∧ l ≤ 9 ∧ b ≤ r ∧ 2 * (r + b) + 1 ≤ n)
  | _ => false
def isStar (n : Int) : List Int → Bool
  | [x, y, b] => decide (0 ≤ x ∧ x < n ∧ 0 ≤ y ∧ y < n ∧ 1 ≤ b ∧ b ≤ 9)
  | _ => false
def comp (n : Int) : List Int → List Int → List Int
  | [a, b, c], [d, e, g] => [(turnX g a b + d) % n, (turnY g a b + e) % n, (c + g) % 4]
  | _, _ => []
def inv (n : Int) : List Int → List Int
  | [a, b, c] => [turnX (2 - c) a b % n, turnY (2 - c) a b % n, (4 - c) % 4]
  | _ => []
def near (n part : Int) : Int := (part + n / 2) % n - n / 2
theorem pose_form {n : Int} {ns : List Int} (h : isPose n ns = true) : ∃ x y q, ns = [x, y, q] ∧ 0 ≤ x ∧ x < n ∧ 0 ≤ y ∧ y < n ∧ 0 ≤ q ∧ q ≤ 3 := by
  match ns, h with
  | [x, y, q], h =>
    have z := of_decide_eq_true h
    exact ⟨x, y, q, rfl, z⟩
theorem cmd_form {n : Int} {ns : List Int} (h : isCmd n ns = true) : ∃ x y q, ns = [x, y, q] ∧ -n < x ∧ x < n ∧ -n < y ∧ y < n ∧ 0 ≤ q ∧ q ≤ 3 := by
  match ns, h with
  | [x, y, q], h =>
    have z := of_decide_eq_true h
    exact ⟨x, y, q, rfl, z⟩
/-- the attributes of a sky, in the order in which they are stored -/
def skyF (n : Int) (ts tc : Addr) : List (Str × V) := putF "_camera" (.ref tc) (putF "_stars" (.ref ts) (putF "_side" (.int n) []))
theorem skyF_side (n : Int) (ts tc : Addr) : (skyF n ts tc).lookup ("_side" : Str) = some (.int n) := by
  unfold skyF
  rw [lookup_putF, if_neg (by decide +kernel), lookup_putF, if_neg (by decide +kernel), lookup_putF, if_pos rfl]
theorem skyF_stars (n : Int) (ts tc : Addr) : (skyF n ts tc).lookup ("_stars" : Str) = some (.ref ts) := by
  unfold skyF
  rw [lookup_putF, if_neg (by decide +kernel), lookup_putF, if_pos rfl]
theorem skyF_camera (n : Int) (ts tc : Addr) : (skyF n ts tc).lookup ("_camera" : Str) = some (.ref tc) := by
  unfold skyF
  rw [lookup_putF, if_pos rfl]
theorem skyF_two (n : Int) (ts : Addr) : (putF "_stars" (V.ref ts) (putF "_side" (.int n) [])).length < 1000 := by
  show (if ("_side" : Str) = "_stars" then _ else _ : List (Str × V)).length < 1000
  rw [if_neg (by decide +kernel)]
  show 2 < 1000
  decide
/-- a sky stands at p -/
def SkyAt (K : PySem.W.Frag) (C : Addr) (H : Hp) (p : Addr) (n : Int) (st : List V) (cam : List Int) : Prop :=
  ∃ dx ts tc, H p = some (.ins C dx (skyF n ts tc)) ∧ SqT K H ts st ∧ SqT K H tc (cam.map V.int)
theorem sky_up {K : PySem.W.Frag} {C : Addr} {H H' : Hp} {p : Addr} {n : Int} {st : List V} {cam : List Int} (s : Same H H') : SkyAt K C H p n st cam → SkyAt K C H' p n st cam := fun ⟨dx, ts, tc, h1, h2, h3⟩ =>
  ⟨dx, ts, tc, s _ _ h1, sqT_up s h2, sqT_up s h3⟩
def spTurn (K : PySem.W.Frag) : Sp := fun vs H Q _ => ∃ (q x y : Int) (p : Addr), vs = [.int q, .ref p] ∧ SqT K H p [.int x, .int y] ∧
  ∀ (H' : Hp) (p' : Addr), Same H H' → SqT K H' p' [.int (turnX q x y), .int (turnY q x y)] → Q (.ref p') H'
def spIs (K : PySem.W.Frag) (ok : Int → List Int → Bool) : Sp := fun vs H Q _ => ∃ (n : Int) (p : Addr) (ns : List Int), vs = [.int n, .ref p] ∧ SqT K H p (ns.map V.int) ∧ Q (.bl (ok n ns)) H
def spComp (K : PySem.W.Frag) : Sp := fun vs H Q _ => ∃ (n a b c d e g : Int) (p q : Addr), vs = [.int n, .ref p, .ref q] ∧ 0 < n ∧ SqT K H p [.int a, .int b, .int c] ∧ SqT K H q [.int d, .int e, .int g] ∧
  ∀ (H' : Hp) (p' : Addr), Same H H' → SqT K H' p' ((comp n [a, b, c] [d, e, g]).map V.int) → Q (.ref p') H'
def spInv (K : PySem.W.Frag) : Sp := fun vs H Q _ => ∃ (n a b c : Int) (p : Addr), vs = [.int n, .ref p] ∧ 0 < n ∧ SqT K H p [.int a, .int b, .int c] ∧
  ∀ (H' : Hp) (p' : Addr), Same H H' → SqT K H' p' ((inv n [a, b, c]).map V.int) → Q (.ref p') H'
def spSide : Sp := fun vs H Q _ => ∃ n : Int, vs = [.int n] ∧ Q (.bl (decide (4 ≤ n ∧ n ≤ 9))) H
def spNear : Sp := fun vs H Q _ => ∃ n k : Int, vs = [.int n, .int k] ∧ 0 < n ∧ Q (.int (near n k)) H
/-- a sky is made of no stars, all else as the rules ask -/
def spCheck0 (K : PySem.W.Frag) : Sp := fun vs H Q _ => ∃ (n : Int) (p c : Addr) (cam : List Int), vs = [.int n, .ref p, .ref c] ∧ SqL K H p [] ∧ SqT K H c (cam.map V.int) ∧ 4 ≤ n ∧ n ≤ 9 ∧ isCam n cam = true ∧ ∀ H', Same H H' → Q .non H'
def spInit0 (K : PySem.W.Frag) (C : Addr) : Sp := fun vs H Q _ => ∃ (x dx : Addr) (n : Int) (p c : Addr) (cam : List Int), vs = [.ref x, .int n, .ref p, .ref c] ∧ H x = some (.ins C dx []) ∧ SqL K H p [] ∧ SqT K H c (cam.map V.int) ∧ 4 ≤ n ∧ n ≤ 9 ∧ isCam n cam = true ∧
  ∀ H', SkyAt K C H' x n [] cam → (∀ b o, H b = some o → b ≠ x → H' b = some o) → Q .non H'
/-- a property of a sky that is an attribute -/
def spProp (K : PySem.W.Frag) (C : Addr) (f : Int → List V → List Int → V → Hp → Prop) : Sp := fun vs H Q _ => ∃ (p : Addr) (n : Int) (st : List V) (cam : List Int), vs = [.ref p] ∧ SkyAt K C H p n st cam ∧ ∀ v, f n st cam v H → Q v H
def spOfSide (K : PySem.W.Frag) (C : Addr) : Sp := fun vs H Q _ => ∃ (p : Addr) (n : Int) (st : List V) (cam : List Int), vs = [.ref p] ∧ SkyAt K C H p n st cam ∧ Q (.int n) H
/-- a tuple is asked of a sky: nothing comes back, or the error with the tuple -/
def spAsk (K : PySem.W.Frag) (C D : Addr) (fld : Str) (ok : Int → List Int → Bool) : Sp := fun vs H Q E => ∃ (p q : Addr) (n : Int) (st : List V) (cam ns : List Int), vs = [.ref p, .ref q] ∧ SkyAt K C H p n st cam ∧ SqT K H q (ns.map V.int) ∧
  (ok n ns = true → Q .non H) ∧ (ok n ns = false → ∀ (d : Addr) (H' : Hp), Same H H' → H' d = some (.xd [(fld, .ref q)]) → E (.ref D) (some d) H')
def spAsk2 (K : PySem.W.Frag) (C D : Addr) : Sp := fun vs H Q E => ∃ (p q r : Addr) (n : Int) (st : List V) (cam ns ms : List Int), vs = [.ref p, .ref q, .ref r] ∧ SkyAt K C H p n st cam ∧ SqT K H q (ns.map V.int) ∧ SqT K H r (ms.map V.int) ∧
  (isPose n ns = true → isPose n ms = true → Q .non H) ∧ (isPose n ns = false → ∀ (d : Addr) (H' : Hp), Same H H' → H' d = some (.xd [("attitude", .ref q)]) → E (.ref D) (some d) H') ∧
  (isPose n ns = true → isPose n ms = false → ∀ (d : Addr) (H' : Hp), Same H H' → H' d = some (.xd [("attitude", .ref r)]) → E (.ref D) (some d) H')
/-- an attitude, and a tuple of another kind done to it -/
def spDone (K : PySem.W.Frag) (C D F : Addr) (fld : Str) (ok : Int → List Int → Bool) (f : Int → List Int → List Int → List Int) : Sp := fun vs H Q E => ∃ (p q r : Addr) (n : Int) (st : List V) (cam ns ms : List Int), vs = [.ref p, .ref q, .ref r] ∧ SkyAt K C H p n st cam ∧ 0 < n ∧ SqT K H q (ns.map V.int) ∧ SqT K H r (ms.map V.int) ∧
  (isPose n ns = true → ok n ms = true → ∀ (H' : Hp) (p' : Addr), Same H H' → SqT K H' p' ((f n ns ms).map V.int) → Q (.ref p') H') ∧
  (isPose n ns = false → ∀ (d : Addr) (H' : Hp), Same H H' → H' d = some (.xd [("attitude", .ref q)]) → E (.ref D) (some d) H') ∧
  (isPose n ns = true → ok n ms = false → ∀ (d : Addr) (H' : Hp), Same H H' → H' d = some (.xd [(fld, .ref r)]) → E (.ref F) (some d) H')
def spBack (K : PySem.W.Frag) (C F : Addr) (fld : Str) (ok : Int → List Int → Bool) : Sp := fun vs H Q E => ∃ (p q : Addr) (n : Int) (st : List V) (cam ns : List Int), vs = [.ref p, .ref q] ∧ SkyAt K C H p n st cam ∧ 0 < n ∧ SqT K H q (ns.map V.int) ∧
  (ok n ns = true → ∀ (H' : Hp) (p' : Addr), Same H H' → SqT K H' p' ((inv n ns).map V.int) → Q (.ref p') H') ∧
  (ok n ns = false → ∀ (d : Addr) (H' : Hp), Same H H' → H' d = some (.xd [(fld, .ref q)]) → E (.ref F) (some d) H')
def iabs (x : Int) : Int := if x < 0 then -x else x
def imax (x y : Int) : Int := if y > x then y else x
/-- how far two attitudes are apart, none for unlike quarters -/
def apartI (n : Int) : List Int → List Int → Option Int
  | [a, b, c], [d, e, g] => if c = g then some (imax (iabs (near n (a - d))) (iabs (near n (b - e)))) else none
  | _, _ => none
def optV : Option Int → V
  | some i => .int i
  | none => .non
def farI (n s : Int) (a b : List Int) : Bool := match apartI n a b with
  | some k => decide (s < k)
  | none => true
def spApart (K : PySem.W.Frag) (C D : Addr) : Sp := fun vs H Q E => ∃ (p q r : Addr) (n : Int) (st : List V) (cam ns ms : List Int), vs = [.ref p, .ref q, .ref r] ∧ SkyAt K C H p n st cam ∧ 0 < n ∧ SqT K H q (ns.map V.int) ∧ SqT K H r (ms.map V.int) ∧
  (isPose n ns = true → isPose n ms = true → Q (optV (apartI n ns ms)) H) ∧ (isPose n ns = false → ∀ (d : Addr) (H' : Hp), Same H H' → H' d = some (.xd [("attitude", .ref q)]) → E (.ref D) (some d) H') ∧
  (isPose n ns = true → isPose n ms = false → ∀ (d : Addr) (H' : Hp), Same H H' → H' d = some (.xd [("attitude", .ref r)]) → E (.ref D) (some d) H')
def spFar (K : PySem.W.Frag) (C D : Addr) : Sp := fun vs H Q E => ∃ (p q r : Addr) (n s : Int) (st : List V) (cam ns ms : List Int), vs = [.ref p, .ref q, .ref r, .int s] ∧ SkyAt K C H p n st cam ∧ 0 < n ∧ SqT K H q (ns.map V.int) ∧ SqT K H r (ms.map V.int) ∧
  (isPose n ns = true → isPose n ms = true → Q (.bl (farI n s ns ms)) H) ∧ (isPose n ns = false → ∀ (d : Addr) (H' : Hp), Same H H' → H' d = some (.xd [("attitude", .ref q)]) → E (.ref D) (some d) H') ∧
  (isPose n ns = true → isPose n ms = false → ∀ (d : Addr) (H' : Hp), Same H H' → H' d = some (.xd [("attitude", .ref r)]) → E (.ref D) (some d) H')
end Sw
namespace Sw
open PySem PySem.Spec PyProof.Rows L2
theorem pose_len {n : Int} {ns : List Int} (h : ((ns.length : Nat) : Int) ≠ 3) : isPose n ns = false := by
  match ns, h with
  | [], _ => rfl
  | [_], _ => rfl
  | [_, _], _ => rfl
  | [_, _, _], h => exact absurd (by simp) h
  | _ :: _ :: _ :: _ :: _, _ => rfl
theorem cmd_len {n : Int} {ns : List Int} (h : ((ns.length : Nat) : Int) ≠ 3) : isCmd n ns = false := by
  match ns, h with
  | [], _ => rfl
  | [_], _ => rfl
  | [_, _], _ => rfl
  | [_, _, _], h => exact absurd (by simp) h
  | _ :: _ :: _ :: _ :: _, _ => rfl
theorem star_len {n : Int} {ns : List Int} (h : ((ns.length : Nat) : Int) ≠ 3) : isStar n ns = false := by
  match ns, h with
  | [], _ => rfl
  | [_], _ => rfl
  | [_, _], _ => rfl
  | [_, _, _], h => exact absurd (by simp) h
  | _ :: _ :: _ :: _ :: _, _ => rfl
theorem cam_len {n : Int} {ns : List Int} (h : ((ns.length : Nat) : Int) ≠ 4) : isCam n ns = false := by
  match ns, h with
  | [], _ => rfl
  | [_], _ => rfl
  | [_, _], _ => rfl
  | [_, _, _], _ => rfl
  | [_, _, _, _], h => exact absurd (by simp) h
  | _ :: _ :: _ :: _ :: _ :: _, _ => rfl
end Sw
namespace Sw
open PySem PySem.Spec PyProof.Rows L2
/-! ### what the law about commands reckons by itself -/
def spLTurn (K : PySem.W.Frag) : Sp := fun vs H Q _ => ∃ (q x y : Int) (p : Addr), vs = [.int q, .ref p] ∧ (SqT K H p [.int x, .int y] ∨ SqL K H p [.int x, .int y]) ∧ 0 ≤ q ∧ q ≤ 3 ∧
  ∀ (H' : Hp) (p' : Addr), Same H H' → SqT K H' p' [.int (turnX q x y), .int (turnY q x y)] → Q (.ref p') H'
def spWalked (K : PySem.W.Frag) : Sp := fun vs H Q _ => ∃ (n x y q i j l : Int) (p r : Addr), vs = [.int n, .ref p, .ref r] ∧ SqT K H p [.int x, .int y, .int q] ∧ SqT K H r [.int i, .int j, .int l] ∧ isPose n [x, y, q] = true ∧ 0 ≤ l ∧ l ≤ 3 ∧ -100 ≤ i ∧ i ≤ 100 ∧ -100 ≤ j ∧ j ≤ 100 ∧
  ∀ (H' : Hp) (p' : Addr), Same H H' → SqT K H' p' ((comp n [i, j, l] [x, y, q]).map V.int) → Q (.ref p') H'
def toldC (n : Int) (ns ms : List Int) : Int × List Int := if isPose n ns then (if isCmd n ms then (0, comp n ms ns) else (2, ms)) else (1, ns)
def spToldC (K : PySem.W.Frag) (C : Addr) : Sp := fun vs H Q _ => ∃ (p q r : Addr) (n : Int) (st : List V) (cam ns ms : List Int), vs = [.ref p, .ref q, .ref r] ∧ SkyAt K C H p n st cam ∧ 0 < n ∧ SqT K H q (ns.map V.int) ∧ SqT K H r (ms.map V.int) ∧
  ∀ (H' : Hp) (t b : Addr), Same H H' → SqT K H' t [.int (toldC n ns ms).1, .ref b] → SqT K H' b ((toldC n ns ms).2.map V.int) → Q (.ref t) H'
def backC (n : Int) (ns : List Int) : Int × List Int := if isCmd n ns then (0, inv n ns) else (2, ns)
def spBackC (K : PySem.W.Frag) (C : Addr) : Sp := fun vs H Q _ => ∃ (p q : Addr) (n : Int) (st : List V) (cam ns : List Int), vs = [.ref p, .ref q] ∧ SkyAt K C H p n st cam ∧ 0 < n ∧ SqT K H q (ns.map V.int) ∧
  ∀ (H' : Hp) (t b : Addr), Same H H' → SqT K H' t [.int (backC n ns).1, .ref b] → SqT K H' b ((backC n ns).2.map V.int) → Q (.ref t) H'
def orTI (ok : Bool) (ns : List Int) : PyData := if ok then .none else dTI ns
def spChecksC (K : PySem.W.Frag) (C : Addr) : Sp := fun vs H Q _ => ∃ (p q r : Addr) (n : Int) (st : List V) (cam ns ms : List Int), vs = [.ref p, .ref q, .ref r] ∧ SkyAt K C H p n st cam ∧ SqT K H q (ns.map V.int) ∧ SqT K H r (ms.map V.int) ∧
  ∀ (H' : Hp) (l : Addr) (x y : V), Same H H' → H' l = some (.lst [x, y]) → Dp K H' x (orTI (isPose n ns) ns) → Dp K H' y (orTI (isCmd n ms) ms) → Q (.ref l) H'
end Sw
namespace Sw
open PySem PySem.Spec PyProof.Rows L2
def chkV (ok : Bool) (q : Addr) : V := if ok then .non else .ref q
theorem chk_dp {K : PySem.W.Frag} {H : Hp} {q : Addr} {ns : List Int} (ok : Bool) (h : SqT K H q (ns.map V.int)) : Dp K H (chkV ok q) (orTI ok ns) := by
  cases ok with
  | true => exact .non
  | false => exact dp_ti h
theorem turnX_zero (q : Int) : turnX q 0 0 = 0 := by unfold turnX; split <;> (try split) <;> (try split) <;> rfl
theorem turnY_zero (q : Int) : turnY q 0 0 = 0 := by unfold turnY; split <;> (try split) <;> (try split) <;> rfl
theorem turnX_add (q a b c d : Int) : turnX q (a + c) (b + d) = turnX q a b + turnX q c d := by unfold turnX; split <;> (try split) <;> (try split) <;> omega
theorem turnY_add (q a b c d : Int) : turnY q (a + c) (b + d) = turnY q a b + turnY q c d := by unfold turnY; split <;> (try split) <;> (try split) <;> omega
end Sw
namespace Sw
open PySem PySem.Spec PyProof.Rows L2
theorem quarter_cases {q : Int} (h0 : 0 ≤ q) (h3 : q ≤ 3) : q = 0 ∨ q = 1 ∨ q = 2 ∨ q = 3 := by omega
theorem side_cases {n : Int} (h0 : 4 ≤ n) (h3 : n ≤ 9) : n = 4 ∨ n = 5 ∨ n = 6 ∨ n = 7 ∨ n = 8 ∨ n = 9 := by omega
theorem tX0 (x y : Int) : turnX 0 x y = x := rfl
theorem tX1 (x y : Int) : turnX 1 x y = -y := rfl
theorem tX2 (x y : Int) : turnX 2 x y = -x := rfl
theorem tX3 (x y : Int) : turnX 3 x y = y := rfl
theorem tY0 (x y : Int) : turnY 0 x y = y := rfl
theorem tY1 (x y : Int) : turnY 1 x y = x := rfl
theorem tY2 (x y : Int) : turnY 2 x y = -y := rfl
theorem tY3 (x y : Int) : turnY 3 x y = -x := rfl
theorem tXm (q x y : Int) : turnX q x y = turnX (q % 4) x y := by unfold turnX; rw [Int.emod_emod_of_dvd q (Int.dvd_refl 4)]
theorem tYm (q x y : Int) : turnY q x y = turnY (q % 4) x y := by unfold turnY; rw [Int.emod_emod_of_dvd q (Int.dvd_refl 4)]
theorem undo1 {n u v z x : Int} (h : (u % n + (v + x) % n) % n = z) (e : u + v = 0) (h0 : 0 ≤ x) (h1 : x < n) : z = x := by
  rw [← h, ← Int.add_emod, ← Int.add_assoc, e, Int.zero_add]
  exact Int.emod_eq_of_lt h0 h1
theorem neg_emod' (a n : Int) : (-(a % n)) % n = (-a) % n := by
  rw [← Int.emod_emod_of_dvd (-a) (Int.dvd_refl n)]
  conv => rhs; rw [← Int.mul_ediv_add_emod a n]
  rw [Int.neg_add, ← Int.mul_neg, Int.emod_emod_of_dvd _ (Int.dvd_refl n), Int.add_comm, Int.add_mul_emod_self_left]
theorem back_ok {n x y q i j l : Int} (hp : isPose n [x, y, q] = true) (l0 : 0 ≤ l) (l3 : l ≤ 3) : comp n (inv n [i, j, l]) (comp n [i, j, l] [x, y, q]) = [x, y, q] := by
  have h := of_decide_eq_true hp
  have key : ∀ u v w : Int, (w = u % n ∨ w = -(-u % n)) → u + v = 0 → ∀ z, 0 ≤ z → z < n → (w + (v + z) % n) % n = z := fun u v w hw e z z0 z1 => by
    have e1 : w % n = u % n := by
      rcases hw with rfl | rfl
      · exact Int.emod_emod_of_dvd u (Int.dvd_refl n)
      · rw [neg_emod', Int.neg_neg]
    rw [Int.add_emod, e1, Int.emod_emod_of_dvd _ (Int.dvd_refl n), ← Int.add_emod, ← Int.add_assoc, e, Int.zero_add]
    exact Int.emod_eq_of_lt z0 z1
  show [(turnX ((l + q) % 4) (turnX (2 - l) i j % n) (turnY (2 - l) i j % n) + (turnX q i j + x) % n) % n, (turnY ((l + q) % 4) (turnX (2 - l) i j % n) (turnY (2 - l) i j % n) + (turnY q i j + y) % n) % n, ((4 - l) % 4 + (l + q) % 4) % 4] = [x, y, q]
  have hq : ((4 - l) % 4 + (l + q) % 4) % 4 = q := by omega
  rw [hq]
  have X : (turnX ((l + q) % 4) (turnX (2 - l) i j % n) (turnY (2 - l) i j % n) + (turnX q i j + x) % n) % n = x := by
    refine key (-(turnX q i j)) _ _ ?_ (by omega) x h.1 h.2.1
    rcases quarter_cases l0 l3 with rfl | rfl | rfl | rfl <;> rcases quarter_cases h.2.2.2.2.1 h.2.2.2.2.2 with rfl | rfl | rfl | rfl <;> simp [turnX, turnY]
  have Y : (turnY ((l + q) % 4) (turnX (2 - l) i j % n) (turnY (2 - l) i j % n) + (turnY q i j + y) % n) % n = y := by
    refine key (-(turnY q i j)) _ _ ?_ (by omega) y h.2.2.1 h.2.2.2.1
    rcases quarter_cases l0 l3 with rfl | rfl | rfl | rfl <;> rcases quarter_cases h.2.2.2.2.1 h.2.2.2.2.2 with rfl | rfl | rfl | rfl <;> simp [turnX, turnY]
  rw [X, Y]
theorem comp_pose {n i j l x y q : Int} (hn : 0 < n) : isPose n (comp n [i, j, l] [x, y, q]) = true := by
  refine decide_eq_true ⟨Int.emod_nonneg _ (by omega), Int.emod_lt_of_pos _ hn, Int.emod_nonneg _ (by omega), Int.emod_lt_of_pos _ hn, by omega, by omega⟩
theorem inv_cmd {n i j l : Int} (hn : 0 < n) : isCmd n (inv n [i, j, l]) = true := by
  have a0 := Int.emod_nonneg (turnX (2 - l) i j) (show n ≠ 0 by omega)
  have a1 := Int.emod_lt_of_pos (turnX (2 - l) i j) hn
  have b0 := Int.emod_nonneg (turnY (2 - l) i j) (show n ≠ 0 by omega)
  have b1 := Int.emod_lt_of_pos (turnY (2 - l) i j) hn
  exact decide_eq_true ⟨by omega, a1, by omega, b1, by omega, by omega⟩
theorem turn_mod8 (q x y : Int) : turnX ((q + 8) % 4) x y = turnX q x y ∧ turnY ((q + 8) % 4) x y = turnY q x y := by
  rw [tXm q, tYm q, show (q + 8) % 4 = q % 4 by omega]
  exact ⟨rfl, rfl⟩
end Sw
namespace Sw
theorem poseF {n x y q : Int} (h : ¬ (0 ≤ x ∧ x < n ∧ 0 ≤ y ∧ y < n ∧ 0 ≤ q ∧ q ≤ 3)) : isPose n [x, y, q] = false := decide_eq_false h
theorem cmdF {n x y q : Int} (h : ¬ (-n < x ∧ x < n ∧ -n < y ∧ y < n ∧ 0 ≤ q ∧ q ≤ 3)) : isCmd n [x, y, q] = false := decide_eq_false h
theorem poseT {n x y q : Int} (h : 0 ≤ x ∧ x < n ∧ 0 ≤ y ∧ y < n ∧ 0 ≤ q ∧ q ≤ 3) : isPose n [x, y, q] = true := decide_eq_true h
end Sw
set_option Elab.async false
set_option linter.all false
set_option maxRecDepth 100000
set_option maxHeartbeats 4000000
/-! repr of data, where it is known that no repr is under way; defs that want to know so. -/
namespace SwG
open PySem PySem.Spec PyProof.Rows L2
/-- data whose text is told -/
structure Shw (d : PyData) : Prop where
  sh : d.showable = true
  nd : d.hasDict = false
  lv : d.leavesShort 13 = true
  wt : d.weight ≤ 1000000
  dp : d.depth ≤ 60
def rRepr (K : PySem.W.Frag) : List V → Hp → VK → Prop := fun xs H Q => ∃ x d, xs = [x] ∧ Dp K H x d ∧ Shw d ∧ Q (.str d.shown) H
theorem cr_repr {X : Cx} (hq : X.A.guards = some []) (hu : X.A.units + 64 < cLine) : CallR X (.builtin "repr") (rRepr X.K) := by
  rintro pins s σ H xs us Q I r ⟨x, d, rfl, hd, hw, q⟩
  cases r with
  | cons rx rt =>
    cases rt
    rename_i u
    obtain ⟨as, rd⟩ := Dp.reads I d x u hd rx
    have fits : d.shown.length ≤ sizeLine := PyData.shown_fits (B := 13) (by decide) (by decide) hw.lv (Nat.le_trans hw.wt (by decide))
    have far : ∀ a, Reads s.heap (.ref a) d as → wpAny (model X.prog X.w) X.A (call (.builtin "repr") [.ref a]) (EP X pins σ Q) X.xe s := fun a z =>
      repr_of_reads' z hw.sh (fun t => absurd t (by rw [hw.nd]; exact Bool.false_ne_true)) hq (by have := hw.dp; omega) (fun _ _ e => e) (fun h' t tk kp => ⟨.str _, H, I.kept kp, ⟨_, rfl⟩, q⟩) fits
    cases rd with
    | none => exact PySem.P.repr_of_none ⟨.str _, H, I.tok _, ⟨_, rfl⟩, q⟩
    | bool b => exact PySem.P.repr_of_bool ⟨.str _, H, I.tok _, ⟨_, rfl⟩, q⟩
    | int i t => exact PySem.P.repr_of_int (of_decide_eq_true hw.sh) ⟨.str _, H, I.tok _, ⟨_, rfl⟩, q⟩
    | str y t => exact PySem.P.repr_of_str ⟨.str _, H, I.tok _, ⟨_, rfl⟩, q⟩ fits
    | list h1 h2 h3 h4 => exact far _ (.list h1 h2 h3 h4)
    | tuple h1 h2 h3 h4 => exact far _ (.tuple h1 h2 h3 h4)
    | dict h1 h2 h3 h4 h5 => exact far _ (.dict h1 h2 h3 h4 h5)
/-- a def that is called where no repr is under way -/
structure FnG (P : Program) (w : World) (K : PySem.W.Frag) (mg : Str → Option Value) (base : Heap) (CX : CXT) (k : Nat) (f : Addr) (fd : FuncData) (ps : List Str) (sp : Sp) : Prop where
  many : ∀ vs H Q E, sp vs H Q E → vs.length = ps.length
  go : ∀ (A : Around) (outer : List Env) (s : Shared) (H : Hp) (args : Args) (us : List Value) (vs : List V) (Q : VK) (E : XK), A.guards = some [] → Room k A →
    Env0 P w K mg base A outer s H → BindsTo s fd args (ps.zip us) → Vals vs us → sp vs H Q E → codeAny (model P w) A (.call (.ref f) args) (CR CX outer P w H s Q E) s
theorem FnG.mono {P : Program} {w : World} {K : PySem.W.Frag} {mg : Str → Option Value} {base : Heap} {CX : CXT} {j k : Nat} {f : Addr} {fd : FuncData} {ps : List Str} {sp : Sp} (F : FnG P w K mg base CX j f fd ps sp) (h : j ≤ k) : FnG P w K mg base CX k f fd ps sp :=
  ⟨F.many, fun A outer s H args us vs Q E gd room => F.go A outer s H args us vs Q E gd (room.mono h)⟩
section
variable {P : Program} {w : World} {K : PySem.W.Frag} {mg : Str → Option Value} {base : Heap}
/-- as Fun.ok of the library -/
theorem okG {x qual : Str} {st : Stmt} {f : Addr} {fd : FuncData} {N ps : List Str} {k : Nat} {sp : Sp} (F : Fun K x qual st f fd) (S : FnScope N ps (defScope st)) (many : ∀ vs H Q E, sp vs H Q E → vs.length = ps.length)
    (hb : ∀ (cdv : Value) (A : Around) (outer : List Env) (s : Shared) (H : Hp) (vs : List V) (Q : VK) (E : XK), (A.deeper (envOfC qual (defScope st) s.heap.objs.size f cdv)).guards = some [] → Room k (A.deeper (envOfC qual (defScope st) s.heap.objs.size f cdv)) → sp vs H Q E →
      ∃ t, PSs (cxOf CX0 P w K mg base N qual (defScope st) f cdv A outer s H E).nox (defBody st) t ∧ t { nx := fun _ H' => Q .non H', rt := Q } (start N vs) H) : FnG P w K mg base CX0 (k + 1) f fd ps sp := by
  obtain ⟨oc, od, kV, doc, pm, an, cdv, ct, osl, rfl, lk, hcd⟩ := F.ex
  refine ⟨many, ?_⟩
  intro A outer s H args us vs Q E gd room env bd rv hs
  have stays : ∀ b o, base.get? b = some o → s.heap.get? b = some o := fun b o e => (env.bs b o e).1
  have inK : K.In s.heap := env.mod.kin.keeps stays
  refine codeAny_call_function room.depth (inK _ _ lk) rfl S.co S.gen rfl (PySem.W.codeRec_of inK hcd) (bd _ _ _ _ ?_)
  refine wpAny_newFunctionEnv_cells S.kind ?_ ?_
  · rintro ⟨n, v⟩ hy
    refine (S.par n (List.of_mem_zip hy).1).imp id fun q => ⟨q, ?_⟩
    exact PySem.W.cellsFrom_some _ _ _ (Or.inl q)
  intro en he s1 ic
  cases he
  refine ⟨(env.mod.nolimit.keeps stays).keeps ic.toInCall.keep, codeAny_func ?_⟩
  obtain ⟨t, body, want⟩ := hb cdv A outer s H vs Q E gd (room.deeper _) hs
  have J := inv_start (CX := CX0) (E := E) S room.hd env (many _ _ _ _ hs) rv ic
  refine wpAny_mono (body.nox.run [] s1 (start N vs) H _ J want) ?_ (fun _ _ z => z)
  intro fl s' z
  cases fl with
  | ret u =>
    obtain ⟨v, τ, H', L, e, q⟩ := z
    exact ⟨v, H', L.os, L.bare, L.base, L.hok, e, q⟩
  | next =>
    obtain ⟨τ, H', L, q⟩ := z
    exact ⟨.non, H', L.os, L.bare, L.base, L.hok, rfl, q⟩
  | brk => exact z.elim fun _ z => z.elim fun _ z => False.elim z.2
  | cont => exact z.elim fun _ z => z.elim fun _ z => False.elim z.2
end
section
variable {X : Cx} {CX : CXT} {k : Nat} {f : Addr} {fd : FuncData} {ps : List Str} {sp : Sp} {E : XK} {x : Str} {p pos : Pos} {e : Expr} {es : List Expr} {t : TA}
/-- a call of such a def -/
theorem pe_callG (hq : X.A.guards = some []) (F : FnG X.prog X.w X.K X.mg X.base CX k f fd ps sp) (hr : Room k X.A) (hg : Gl X x) (hm : X.mg x = some (.ref f)) (hk : PySem.W.keepIn X.K (.ref f) = true) (hb : Binds X.K fd ps []) (hx : Passes CX X E)
    (ha : PA X (e :: es) t) (hdb : (x == ("__debug__" : Str)) = false := by decide) (he : starEach (e :: es) X.env = (false, eval e X.env) :: starEach es X.env := by rfl) (hpl : (backTo pos (starEach es X.env)).any (·.1) = false := by rfl) :
    PE X (.Call (.Name x p) (e :: es) [] pos) (tCall sp [] E t) := by
  constructor
  intro pins s σ H Q I h
  refine wpAny_Call_Name_kw (ld_glob I hg hm ?_ hdb)
  refine PySem.W.callWith_K (h₀ := X.base) I.ok.mod.kin hk (thn (ha.run pos pins s σ H _ I h) ?_) he hpl
  rintro us s1 ⟨vs, H1, I1, r, q⟩
  refine ⟨I1.kIn, ?_⟩
  have q' : sp vs H1 Q E := by
    have z := q
    rw [List.append_nil] at z
    exact z
  have eq : us ++ [] = us := List.append_nil us
  have hl : us.length = ps.length := by rw [← r.length]; exact F.many _ _ _ _ q'
  have bd := hb s1 us I1.kIn (by rw [eq]; exact hl)
  rw [eq] at bd
  refine wpAny_call (codeAny_mono (F.go X.A X.stack s1 H1 ⟨us, []⟩ us vs Q E hq hr I1.env0 bd r q') ?_)
  intro o s' z
  match o, z with
  | .error e, z => exact hx pins σ H1 s1 e s' I1 z
  | .ok (.ret u), z => exact I1.after z
end
/-- the law's own call -/
theorem law_callG {P : Program} {w : World} {K : PySem.W.Frag} {mg mb : Str → Option Value} {k : Nat} {fa a : Addr} {fd : FuncData} {x : Str} {sp : Sp} {s₁ : Shared} {vs : List Value} {ns : List Int}
    (KX : K.In s₁.heap) (hns : s₁.heap.Ns mainGlobals mg) (hbn : s₁.heap.Ns builtinsNs mb) (hbb : ∀ x : Str, x ≠ "__name__" → mb x = bootBuiltins x) (lim : s₁.heap.NoLimit) (hgs : s₁.gens = #[])
    (ha : s₁.heap.get? a = some { cls := .type "list", data := .seq vs.toArray }) (hi : IntsAre vs ns) (hl : ns.length ≤ sizeLine) (room : Room k callerA)
    (F : ∀ base : Heap, K.In base → base.Ns mainGlobals mg → FnG P w K mg base CX0 k fa fd [x] sp) (hbind : ∀ (s : Shared) (u : Value), BindsTo s fd ⟨[u], []⟩ [(x, u)])
    (hsp : ∀ H : Hp, Only H → SqL K H a (ns.map V.int) → sp [.ref a] H (fun v _ => v = .bl true) fun _ _ _ => False) :
    codeAny (model P w) callerA (.call (.ref fa) ⟨[.ref a], []⟩) (fun r s' => r = .ok (.ret (.bool true)) ∧ OldK s₁.heap s'.heap ∧ s'.os = s₁.os ∧ AllBare s'.gens) s₁ := by
  -- what is tracked: nothing, or the script alone
  have main : ∀ H : Hp, Only H → SqL K H a (ns.map V.int) → HOk P w H s₁.heap → (∀ b u, H b = some u → b = a ∧ K.lookup a = none) →
      codeAny (model P w) callerA (.call (.ref fa) ⟨[.ref a], []⟩) (fun r s' => r = .ok (.ret (.bool true)) ∧ OldK s₁.heap s'.heap ∧ s'.os = s₁.os ∧ AllBare s'.gens) s₁ := by
    intro H only sq ok just
    have shown : ∀ {b : Addr} {o : Obj}, s₁.heap.get? b = some o → H b = none → (hidT s₁.heap H).get? b = some o := fun e n => hidT_get e n
    have free : ∀ {b : Addr}, b ≠ a → H b = none := fun {b} n => by
      cases q : H b with
      | none => rfl
      | some u => exact absurd (just b u q).1 n
    have names : ∀ {b : Addr} {m : Str → Option Value}, s₁.heap.Ns b m → (hidT s₁.heap H).Ns b m := by
      rintro b m ⟨o, es, ep, e, d, r⟩
      refine ⟨o, es, ep, shown e (free fun z => ?_), d, r⟩
      rw [z, ha] at e
      cases e
      cases d
    have inK : K.In (hidT s₁.heap H) := fun b o e => shown (KX b o e) (by
      cases q : H b with
      | none => rfl
      | some u =>
        have z := just b u q
        rw [z.1, z.2] at e
        cases e)
    have md : Mod K mg (hidT s₁.heap H) := by
      obtain ⟨mc, l1, l2⟩ := lim
      exact ⟨inK, names hns, ⟨mb, names hbn, hbb⟩, mc, names l1, l2⟩
    have en : Env0 P w K mg (hidT s₁.heap H) callerA [] s₁ H := by
      refine ⟨rfl, md, fun b o e => of_hidT e, Nat.le_of_eq (hidT_size _ _), trivial, fun b hb => ?_, ok, .of_eq hgs⟩
      exact absurd (show b ∈ ([] : List Addr) from hb) List.not_mem_nil
    refine codeAny_mono ((F _ inK (names hns)).go callerA [] s₁ H ⟨[.ref a], []⟩ [.ref a] [.ref a] _ _ rfl room en (hbind s₁ (.ref a)) (.cons rfl .nil) (hsp H only sq)) ?_
    intro r s' z
    match r, z with
    | .error e, z => exact False.elim z
    | .ok (.ret u), z =>
      obtain ⟨v, H', os, bare, un, ok', rv, q⟩ := z
      cases (show v = .bl true from q)
      cases (show u = Value.bool true from rv)
      refine ⟨rfl, OldK.of_keep fun b o e => ?_, os, bare⟩
      rcases only b with n | ⟨ob, xs, n⟩
      · exact un.keep b o e n (fun z => absurd (show b ∈ ([] : List Addr) from z) List.not_mem_nil) List.not_mem_nil
      · obtain ⟨e1, _⟩ := ok b _ n
        obtain ⟨e2, _⟩ := ok' b _ (un.frzs b ob _ n)
        rw [e] at e1
        cases e1
        exact e2
  have rv := vals_ints hi
  cases hk : K.lookup a with
  | none =>
    refine main (fun b => if b = a then some (.frz { cls := .type "list", data := .seq vs.toArray } (.lst (ns.map V.int))) else none) ?_ (.inl (.inr ⟨_, if_pos rfl⟩)) ?_ ?_
    · intro b
      by_cases e : b = a
      · exact .inr ⟨_, _, if_pos e⟩
      · exact .inl (if_neg e)
    · intro b u z
      by_cases e : b = a
      · have y := (if_pos e).symm.trans z
        cases y
        cases e
        exact ⟨ha, by rw [List.length_map]; exact hl, vs, _, rv, ha⟩
      · have y := (if_neg e).symm.trans z
        cases y
    · intro b u z
      by_cases e : b = a
      · exact ⟨e, hk⟩
      · have y := (if_neg e).symm.trans z
        cases y
  | some o =>
    have e := KX a o hk
    rw [ha] at e
    cases e
    refine main (fun _ => none) (fun _ => .inl rfl) (.inr ?_) (fun b u z => ?_) fun b u z => ?_
    · exact ⟨_, vs.toArray, _, hk, rfl, rfl, rfl, by rw [List.size_toArray, hi.length]; exact hl, by simpa using rv⟩
    · cases (show (none : Option HO) = some u from z)
    · cases (show (none : Option HO) = some u from z)
theorem walk_ofG {l : PySem.W.OpenLaw} {n k : Nat} {q : Program} {loose : List Str} {XP : (Str → Option Value) → Heap → Prop} {YP : World → Heap → Prop} {d : DefRec} {K : Params → PySem.W.Frag} {sp : World → Sp} {x : Str}
    (h1 : l.most = some n) (h2 : n ≤ sizeLine) (h3 : d.params.defaults = []) (room : Room k callerA) (hY : ∀ (w : World) (h : Heap), YP w h → (K w.params).In h)
    (F : ∀ (w : World) (mg : Str → Option Value) (fa : Addr) (h : Heap), (K w.params).In h → h.Ns mainGlobals mg → mg d.name = some (.ref fa) →
      ∃ fd : FuncData, (∀ (s : Shared) (u : Value), BindsTo s fd ⟨[u], []⟩ [(x, u)]) ∧ ∀ base : Heap, (K w.params).In base → base.Ns mainGlobals mg → FnG l.prog w (K w.params) mg base CX0 k fa fd [x] (sp w))
    (hsp : ∀ (w : World) (H : Hp) (a : Addr) (ns : List Int), ns.length ≤ n → Only H → SqL (K w.params) H a (ns.map V.int) → sp w [.ref a] H (fun v _ => v = .bl true) fun _ _ _ => False) :
    PySem.W.WalkO q loose XP YP l.row.toRowW d [] (fun f vs => PySem.call f vs) := by
  refine Att.attach_call h1 h3 ?_
  intro w s₀ s₁ mg mb fa o pm cd doc a vs ns G Y ho hd hcd hmg hobj hints hlen hg
  have KX := hY w _ Y
  obtain ⟨fd, hb, hF⟩ := F w mg fa _ KX G.T.g hmg
  exact law_callG KX G.T.g G.T.b G.T.builtins G.T.nolimit hg hobj hints (Nat.le_trans hlen h2) room hF hb fun H hO hS => hsp w H a ns hlen hO hS
end SwG
namespace L2
open PySem PySem.Spec PyProof.Rows
theorem cr_allN {X : Cx} {K : PySem.W.Frag} (hc : X.calm = true) (h : X.K = K := by rfl) : CallR X (.builtin "all") (rAll K) := h ▸ cr_all hc
theorem cr_anyN {X : Cx} {K : PySem.W.Frag} (hc : X.calm = true) (h : X.K = K := by rfl) : CallR X (.builtin "any") (rAny K) := h ▸ cr_any hc
theorem cr_sumN {X : Cx} {K : PySem.W.Frag} (hc : X.calm = true) (h : X.K = K := by rfl) : CallR X (.builtin "sum") (rSum K) := h ▸ cr_sum hc
theorem cr_maxN {X : Cx} {K : PySem.W.Frag} (hc : X.calm = true) (h : X.K = K := by rfl) : CallR X (.builtin "max") (rMax K) := h ▸ cr_max hc
theorem cr_minN {X : Cx} {K : PySem.W.Frag} (hc : X.calm = true) (h : X.K = K := by rfl) : CallR X (.builtin "min") (rMin K) := h ▸ cr_min hc
end L2
namespace SwG
open PySem PySem.Spec PyProof.Rows L2
/-- data whose text is told, of a weight and a depth -/
structure Shb (w k : Nat) (d : PyData) : Prop where
  sh : d.showable = true
  nd : d.hasDict = false
  lv : d.leavesShort 13 = true
  wt : d.weight ≤ w
  dp : d.depth ≤ k
theorem Shb.shw {w k : Nat} {d : PyData} (h : Shb w k d) (hw : w ≤ 1000000 := by decide) (hk : k ≤ 60 := by decide) : Shw d := ⟨h.sh, h.nd, h.lv, Nat.le_trans h.wt hw, Nat.le_trans h.dp hk⟩
theorem shb_int {i : Int} (h : i.natAbs < 10 ^ 12) : Shb 41 0 (.int i) := by
  have hl : i.natAbs.log2 < 40 := by
    by_cases h0 : i.natAbs = 0
    · rw [h0]
      decide
    · exact (Nat.log2_lt h0).mpr (Nat.lt_of_lt_of_le h (by decide))
  refine ⟨decide_eq_true (by omega), rfl, ?_, ?_, Nat.le_refl _⟩
  · refine decide_eq_true ?_
    show (Str.ofString (toString i)).length ≤ 13
    rw [PySem.ofString_length]
    exact int_text_length_le10 (k := 12) (by decide) h
  · show (if i == 0 then 0 else i.natAbs.log2 + 1) ≤ 41
    split <;> omega
theorem shb_non : Shb 41 0 .none := ⟨rfl, rfl, rfl, Nat.zero_le _, Nat.zero_le _⟩
theorem shb_bool (b : Bool) : Shb 41 0 (.bool b) := ⟨rfl, rfl, rfl, Nat.zero_le _, Nat.zero_le _⟩
theorem shb_all {w k : Nat} : ∀ {ds : List PyData}, (∀ d ∈ ds, Shb w k d) → PyData.showableAll ds = true ∧ PyData.hasDictAll ds = false ∧ PyData.leavesShortAll 13 ds = true ∧ PyData.weightAll ds ≤ ds.length * (w + 1) ∧ PyData.depthAll ds ≤ k
  | [], _ => ⟨rfl, rfl, rfl, Nat.zero_le _, Nat.zero_le _⟩
  | d :: r, h => by
    have hd := h d List.mem_cons_self
    obtain ⟨h1, h2, h3, h4, h5⟩ := shb_all (ds := r) fun x hx => h x (List.mem_cons_of_mem _ hx)
    refine ⟨?_, ?_, ?_, ?_, ?_⟩
    · show (d.showable && PyData.showableAll r) = true
      rw [hd.sh, h1]
      rfl
    · show (d.hasDict || PyData.hasDictAll r) = false
      rw [hd.nd, h2]
      rfl
    · show (d.leavesShort 13 && PyData.leavesShortAll 13 r) = true
      rw [hd.lv, h3]
      rfl
    · show d.weight + 1 + PyData.weightAll r ≤ (r.length + 1) * (w + 1)
      rw [Nat.add_mul, Nat.one_mul]
      have := hd.wt
      omega
    · show max d.depth (PyData.depthAll r) ≤ k
      have := hd.dp
      omega
theorem shb_list {w k : Nat} {ds : List PyData} (h : ∀ d ∈ ds, Shb w k d) : Shb (ds.length * (w + 1)) (k + 1) (.list ds) := by
  obtain ⟨h1, h2, h3, h4, h5⟩ := shb_all h
  exact ⟨h1, h2, h3, h4, Nat.succ_le_succ h5⟩
theorem shb_tuple {w k : Nat} {ds : List PyData} (h : ∀ d ∈ ds, Shb w k d) : Shb (ds.length * (w + 1)) (k + 1) (.tuple ds) := by
  obtain ⟨h1, h2, h3, h4, h5⟩ := shb_all h
  exact ⟨h1, h2, h3, h4, Nat.succ_le_succ h5⟩
theorem Shb.up {w k w' k' : Nat} {d : PyData} (h : Shb w k d) (hw : w ≤ w') (hk : k ≤ k') : Shb w' k' d := ⟨h.sh, h.nd, h.lv, Nat.le_trans h.wt hw, Nat.le_trans h.dp hk⟩
theorem shb_ints {ns : List Int} (h : ∀ i ∈ ns, i.natAbs < 10 ^ 12) : Shb (ns.length * 42) 1 (.list (ns.map .int)) := by
  have := shb_list (w := 41) (k := 0) (ds := ns.map PyData.int) fun d hd => by
    obtain ⟨i, hi, rfl⟩ := List.mem_map.mp hd
    exact shb_int (h i hi)
  rwa [List.length_map] at this
end SwG
namespace SwG
open PySem PySem.Spec PyProof.Rows L2
theorem ne_str {x : Str} {H : Hp} {Q : VK} (q : Q (.bl false) H) : rNe (.str x) (.str x) H Q := by
  have e : (!decide (V.str x = V.str x)) = false := by rw [decide_eq_true rfl]; rfl
  exact ⟨rfl, e ▸ q⟩
theorem eq_str {x : Str} {H : Hp} {Q : VK} (q : Q (.bl true) H) : rEq (.str x) (.str x) H Q := by
  have e : decide (V.str x = V.str x) = true := decide_eq_true rfl
  exact ⟨rfl, e ▸ q⟩
end SwG
set_option Elab.async false
set_option linter.all false
set_option maxRecDepth 100000
set_option maxHeartbeats 4000000
/-! Lists of tuples of integers: stars and spots. -/
namespace Sw
open PySem PySem.Spec PyProof.Rows L2
abbrev Tups := List (Addr × List Int)
def refs (ks : Tups) : List V := ks.map fun p => V.ref p.1
def keys (ks : Tups) : List (List Int) := ks.map (·.2)
def TupsAt (K : PySem.W.Frag) (H : Hp) (ks : Tups) : Prop := ∀ p ∈ ks, SqT K H p.1 (p.2.map V.int)
theorem tups_up {K : PySem.W.Frag} {H H' : Hp} {ks : Tups} (s : Same H H') (h : TupsAt K H ks) : TupsAt K H' ks := fun p hp => sqT_up s (h p hp)
theorem refs_len (ks : Tups) : (refs ks).length = ks.length := List.length_map ..
theorem keys_len (ks : Tups) : (keys ks).length = ks.length := List.length_map ..
theorem dp_tups {K : PySem.W.Frag} {H : Hp} : ∀ {ks : Tups}, TupsAt K H ks → DpAll K H (refs ks) ((keys ks).map dTI)
  | [], _ => .nil
  | p :: r, h => .cons (dp_ti (h p List.mem_cons_self)) (dp_tups fun q hq => h q (List.mem_cons_of_mem _ hq))
/-- len of a set of such -/
def rLenT (P : Program) (w : World) : List V → Hp → VK → Prop := fun xs H Q => ∃ (b : Addr) (L : Tups), xs = [.ref b] ∧ H b = some (SetTO P w b L) ∧ ((keys L).Nodup → Q (.int L.length) H)
theorem cr_lenT {X : Cx} : CallR X (.builtin "len") (rLenT X.prog X.w) := by
  intro pins s σ H xs us Q I hv ⟨b, L, ex, hb, q⟩
  subst ex
  cases hv with
  | cons r1 r2 =>
    cases r2
    rename_i u1
    obtain rfl : u1 = Value.ref b := r1
    have z : ObjOk X.prog X.w H s.heap b (SetTO X.prog X.w b L) := I.hok b _ hb
    obtain ⟨⟨⟨es, ep, t, ⟨o, g1, g2, g3⟩, h1, h2, h3, _, _, h4, h5⟩⟩, _⟩ := z
    have hsz : es.size = L.length := by
      rw [← Array.length_toList, h1]
      exact List.length_map ..
    have hdm : t.dummies.size = 0 := by rw [h2.dm]; rfl
    have hps : t.place.size = L.length := by rw [h2.sz, List.length_map]
    have hf : t.fits es.size = true := by
      unfold PySem.SetTable.fits
      rw [Bool.and_eq_true]
      refine ⟨by rw [hps, hsz]; exact beq_self_eq_true _, decide_eq_true ?_⟩
      unfold PySem.SetTable.fill
      omega
    refine call_len_set g1 g2 g3 hf (by rw [hsz]; omega) ?_
    rw [hsz]
    exact ⟨.int L.length, H, (I.tok _).tok _, ⟨_, rfl⟩, q h3⟩
theorem len_le_of_sub {α : Type} [DecidableEq α] : ∀ {l m : List α}, l.Nodup → (∀ x ∈ l, x ∈ m) → l.length ≤ m.length
  | [], _, _, _ => Nat.zero_le _
  | x :: r, m, hn, hs => by
    have hn' := List.nodup_cons.mp hn
    have hx : x ∈ m := hs x List.mem_cons_self
    have := len_le_of_sub (l := r) (m := m.erase x) hn'.2 fun y hy => (List.mem_erase_of_ne (fun e => hn'.1 (by rw [← e]; exact hy))).mpr (hs y (List.mem_cons_of_mem _ hy))
    rw [List.length_erase_of_mem hx] at this
    have := List.length_pos_of_mem hx
    simp only [List.length_cons]
    omega
theorem shorter {α : Type} [DecidableEq α] : ∀ {l : List α}, ¬ l.Nodup → ∃ m : List α, m.length < l.length ∧ ∀ x ∈ l, x ∈ m
  | [], h => absurd List.nodup_nil h
  | x :: r, h => by
    by_cases hx : x ∈ r
    · exact ⟨r, by simp, fun y hy => by
        rcases List.mem_cons.mp hy with rfl | hy
        · exact hx
        · exact hy⟩
    · obtain ⟨m, h1, h2⟩ := shorter (l := r) fun hr => h (List.nodup_cons.mpr ⟨hx, hr⟩)
      exact ⟨x :: m, by simpa using h1, fun y hy => by
        rcases List.mem_cons.mp hy with rfl | hy
        · exact List.mem_cons_self
        · exact List.mem_cons_of_mem _ (h2 y hy)⟩
theorem set_len {ks L : Tups} (h1 : ∀ p ∈ L, p ∈ ks) (h2 : ∀ p ∈ ks, p.2 ∈ L.map (·.2)) (hn : (keys L).Nodup) : (L.length < ks.length) ↔ ¬ (keys ks).Nodup := by
  have s1 : ∀ x ∈ keys L, x ∈ keys ks := fun x hx => by
    obtain ⟨p, hp, rfl⟩ := List.mem_map.mp hx
    exact List.mem_map_of_mem (h1 p hp)
  have s2 : ∀ x ∈ keys ks, x ∈ keys L := fun x hx => by
    obtain ⟨p, hp, rfl⟩ := List.mem_map.mp hx
    exact h2 p hp
  constructor
  · intro hl hk
    have := len_le_of_sub hk s2
    rw [keys_len, keys_len] at this
    omega
  · intro hk
    obtain ⟨m, hm, hs⟩ := shorter hk
    have := len_le_of_sub hn fun x hx => hs x (s1 x hx)
    rw [keys_len] at this hm
    omega
theorem perm_map_inv {α β : Type} {f : α → β} {l m : List β} (h : l.Perm m) : ∀ {ks : List α}, m = ks.map f → ∃ ks' : List α, ks'.Perm ks ∧ l = ks'.map f := by
  induction h with
  | nil =>
    intro ks e
    refine ⟨[], ?_, rfl⟩
    rw [show ks = [] by simpa using e.symm]
  | cons x _ ih =>
    intro ks e
    cases ks with
    | nil => cases e
    | cons k r =>
      rw [List.map_cons] at e
      injection e with e1 e2
      obtain ⟨r', h1, h2⟩ := ih e2
      exact ⟨k :: r', .cons _ h1, by rw [e1, h2]; rfl⟩
  | swap x y _ =>
    intro ks e
    match ks, e with
    | a :: b :: r, e =>
      rw [List.map_cons, List.map_cons] at e
      injection e with e1 e2
      injection e2 with e2 e3
      exact ⟨b :: a :: r, .swap .., by rw [e1, e2, e3]; rfl⟩
  | trans _ _ ih1 ih2 =>
    intro ks e
    obtain ⟨k1, h1, e1⟩ := ih2 e
    obtain ⟨k2, h2, e2⟩ := ih1 e1
    exact ⟨k2, h2.trans h1, e2⟩
theorem code_inj {B : Int} : ∀ {a b : List Int}, a.length = b.length → TS.Bd B a → TS.Bd B b → TS.code B a = TS.code B b → a = b
  | [], [], _, _, _, _ => rfl
  | d :: r, e :: q, hl, ha, hb, hc => by
    have hl' : r.length = q.length := by simpa using hl
    by_cases h1 : d < e
    · have := TS.code_lt hl' ha.tail hb.tail h1
      omega
    by_cases h2 : e < d
    · have := TS.code_lt hl'.symm hb.tail ha.tail h2
      omega
    obtain rfl : d = e := by omega
    have z1 := mt (TS.code_same (B := B) (d := d) hl').mpr (by omega)
    have z2 := mt (TS.code_same (B := B) (d := d) hl'.symm).mpr (by omega)
    rw [code_inj hl' ha.tail hb.tail (by omega)]
/-- tuples in their order -/
def Asc (B : Int) (l : List (List Int)) : Prop := l.Pairwise fun a b => TS.code B a ≤ TS.code B b
def Fit (d : Nat) (B : Int) (l : List (List Int)) : Prop := ∀ a ∈ l, a.length = d ∧ TS.Bd B a
theorem asc_unique {d : Nat} {B : Int} {l m : List (List Int)} (hl : Asc B l) (hm : Asc B m) (hp : l.Perm m) (hf : Fit d B l) : l = m :=
  List.Perm.eq_of_pairwise (le := fun a b => TS.code B a ≤ TS.code B b) (fun a b ha hb h1 h2 => by
    obtain ⟨a1, a2⟩ := hf a ha
    obtain ⟨b1, b2⟩ := hf b (hp.mem_iff.mpr hb)
    exact code_inj (a1.trans b1.symm) a2 b2 (by omega)) hl hm hp
/-- sorted(l), l a list of tuples of d integers from 0 to below B -/
def rSortM (K : PySem.W.Frag) (d : Nat) (B : Int) : List V → Hp → VK → Prop := fun vs H Q => ∃ (b : Addr) (ks : Tups), vs = [.ref b] ∧ SqL K H b (refs ks) ∧ TupsAt K H ks ∧ ks.length < 64 ∧ Fit d B (keys ks) ∧
  ∀ (p : Addr) (ks' : Tups) (H' : Hp), Same H H' → H p = none → H' p = some (.lst (refs ks')) → ks'.Perm ks → Asc B (keys ks') → Q (.ref p) H'
theorem tupI_unique {X : Cx} {pins : List (Addr × Obj)} {σ : L2.St} {H : Hp} {s : Shared} (I : Inv X pins σ H s) {p : Addr} {a b : List Int} (h1 : SqT X.K H p (a.map V.int)) (h2 : SqT X.K H p (b.map V.int)) : a = b := by
  have e := I.tuple_inj h1 h2
  have inj : ∀ {a b : List Int}, a.map V.int = b.map V.int → a = b := by
    intro a
    induction a with
    | nil => intro b h; cases b with
      | nil => rfl
      | cons _ _ => cases h
    | cons x r ih =>
      intro b h
      cases b with
      | nil => cases h
      | cons y q =>
        rw [List.map_cons, List.map_cons] at h
        injection h with h1 h2
        rw [V.int.inj h1, ih h2]
  exact inj e
theorem cr_sortM {X : Cx} {d : Nat} {B : Int} (hd : 1 ≤ d) : CallR X (.builtin "sorted") (rSortM X.K d B) := by
  intro pins s σ H xs us Q I hv ⟨b, ks, ex, hb, ht, hl, hf, q⟩
  refine cr_sortT (d := d) (B := B) hd pins s σ H xs us Q I hv ⟨b, refs ks, ex, hb, by rw [refs_len]; exact hl, fun x hx => ?_, fun ys p hp hw np => ?_⟩
  · obtain ⟨k, hk, rfl⟩ := List.mem_map.mp hx
    obtain ⟨z1, z2⟩ := hf k.2 (List.mem_map_of_mem hk)
    exact ⟨k.2, ⟨k.1, rfl, ht k hk⟩, z1, z2⟩
  · obtain ⟨ks', h1, rfl⟩ := perm_map_inv (f := fun p : Addr × List Int => V.ref p.1) hp (ks := ks) rfl
    refine q p ks' _ (same_new np) np upd_same h1 ?_
    have hw' := List.pairwise_map.mp hw
    refine List.pairwise_map.mpr ?_
    have mem : ∀ k ∈ ks', TupI X.K H (V.ref k.1) k.2 := fun k hk => ⟨k.1, rfl, ht k (h1.mem_iff.mp hk)⟩
    exact hw'.imp_of_mem fun {x y} hx hy z => z _ _ (mem x hx) (mem y hy)
/-! what a sky may be -/
def isSky (n : Int) (kk : List (List Int)) (cam : List Int) : Bool := decide (4 ≤ n ∧ n ≤ 9) && kk.all (isStar n) && decide kk.Nodup && decide (kk.length ≤ 20) && isCam n cam
theorem star_fit {n : Int} {a : List Int} (h : isStar n a = true) (h9 : n ≤ 9) : a.length = 3 ∧ TS.Bd 10 a := by
  match a, h with
  | [x, y, b], h =>
    have z := of_decide_eq_true h
    refine ⟨rfl, fun m hm => ?_⟩
    simp only [List.mem_cons, List.not_mem_nil, or_false] at hm
    rcases hm with rfl | rfl | rfl <;> omega
theorem stars_fit {n : Int} {l : List (List Int)} (h : l.all (isStar n) = true) (h9 : n ≤ 9) : Fit 3 10 l := fun a ha => star_fit (List.all_eq_true.mp h a ha) h9
theorem sky_parts {n : Int} {kk : List (List Int)} {cam : List Int} (h : isSky n kk cam = true) : (4 ≤ n ∧ n ≤ 9) ∧ kk.all (isStar n) = true ∧ kk.Nodup ∧ kk.length ≤ 20 ∧ isCam n cam = true := by
  unfold isSky at h
  simp only [Bool.and_eq_true, decide_eq_true_eq] at h
  obtain ⟨⟨⟨⟨h1, h2⟩, h3⟩, h4⟩, h5⟩ := h
  exact ⟨h1, h2, h3, h4, h5⟩
theorem isSky_perm {n : Int} {kk mm : List (List Int)} {cam : List Int} (h : kk.Perm mm) : isSky n kk cam = isSky n mm cam := by
  unfold isSky
  rw [h.length_eq, show kk.all (isStar n) = mm.all (isStar n) from Bool.eq_iff_iff.mpr (by rw [List.all_eq_true, List.all_eq_true]; exact ⟨fun z x hx => z x (h.mem_iff.mpr hx), fun z x hx => z x (h.mem_iff.mp hx)⟩), show decide kk.Nodup = decide mm.Nodup from decide_eq_decide.mpr h.nodup_iff]
/-- the checks of a sky -/
def spCheck (K : PySem.W.Frag) (D : Addr) : Sp := fun vs H Q E => ∃ (n : Int) (l c : Addr) (ks : Tups) (cam : List Int), vs = [.int n, .ref l, .ref c] ∧ SqL K H l (refs ks) ∧ TupsAt K H ks ∧ SqT K H c (cam.map V.int) ∧ ks.length < 64 ∧
  (isSky n (keys ks) cam = true → ∀ H', Same H H' → Q .non H') ∧ (isSky n (keys ks) cam = false → ∀ H', Same H H' → E (.ref D) none H')
def SkyS (K : PySem.W.Frag) (C : Addr) (H : Hp) (p : Addr) (n : Int) (ks : Tups) (cam : List Int) : Prop := SkyAt K C H p n (refs ks) cam ∧ TupsAt K H ks
theorem skyS_up {K : PySem.W.Frag} {C : Addr} {H H' : Hp} {p : Addr} {n : Int} {ks : Tups} {cam : List Int} (s : Same H H') (h : SkyS K C H p n ks cam) : SkyS K C H' p n ks cam := ⟨sky_up s h.1, tups_up s h.2⟩
def spInit (K : PySem.W.Frag) (C D : Addr) : Sp := fun vs H Q E => ∃ (x dx : Addr) (n : Int) (l c : Addr) (ks : Tups) (cam : List Int), vs = [.ref x, .int n, .ref l, .ref c] ∧ H x = some (.ins C dx []) ∧ SqL K H l (refs ks) ∧ TupsAt K H ks ∧ SqT K H c (cam.map V.int) ∧ ks.length < 64 ∧
  (isSky n (keys ks) cam = true → ∀ (H' : Hp) (ks' : Tups), SkyS K C H' x n ks' cam → ks'.Perm ks → Asc 10 (keys ks') → (∀ b o, H b = some o → b ≠ x → H' b = some o) → Q .non H') ∧
  (isSky n (keys ks) cam = false → ∀ H', Same H H' → E (.ref D) none H')
end Sw
namespace L2
open PySem PySem.Spec PyProof.Rows
def tTryOnly (K : PySem.W.Frag) (c : Value) (ts : Addr → Value → Option Addr → TS) (Wout : WX) (tb : WX → TS) : TS := fun D σ H => tb (wOnly K c ts Wout D) D σ H
theorem ps_try_only1 {X : Cx} {x : Str} {c : Value} {body suite : List Stmt} {b₀ : Stmt} {np pos pos' : Pos} {tb : WX → TS} {ts : Addr → Value → Option Addr → TS} {Wout : WX} (hs : X.stack = X.env :: X.outer) (hf : X.env.frame = some X.env.locals) (hc : Names X x c) (tk : Takes X Wout)
    (hb : ∀ (W : WX) (pn : List (Addr × Obj)) (xe : Value → Shared → Prop), Takes (X.tr pn xe) W → PassesOwn (model X.prog X.w) X.A X.env xe → PSs (X.tr pn xe) body (tb W))
    (hsu : ∀ (a : Addr) (oe : Obj) (cls : Value) (d : Option Addr) (pn : List (Addr × Obj)), Zc cls d oe → (∃ vs, oe.data = .fields vs) → PSs (X.suite a ((a, oe) :: pn)) (b₀ :: suite) (ts a cls d)) :
    PS X (.Try body [.ExceptHandler (some (.Name x np)) none (b₀ :: suite) pos'] [] [] pos) (tTryOnly X.K c ts Wout tb) := ps_try_only hs hf hc tk hb hsu
end L2
namespace Sw
open PySem PySem.Spec PyProof.Rows L2
theorem iteD2 {c A B : Prop} [Decidable c] (hc : c) (h : A) : if decide c = true then A else B := by
  rw [if_pos (decide_eq_true hc)]
  exact h
theorem iteD3 {c A B : Prop} [Decidable c] (hc : ¬ c) (h : B) : if decide c = true then A else B := by
  rw [if_neg (by rw [decide_eq_false hc]; decide)]
  exact h
end Sw
namespace Sw
open PySem PySem.Spec PyProof.Rows L2
theorem pickI {zs : List Int} {j : Int} {P : Int → Prop} (h : ∀ z ∈ zs, P z) (h0 : 0 ≤ j) (h1 : j < (zs.length : Int)) : ∃ z, atI (zs.map V.int) j = some (.int z) ∧ P z := by
  refine ⟨_, nthI h0 h1, ?_⟩
  unfold numI
  rw [List.getD_eq_getElem?_getD, List.getElem?_eq_getElem (by omega)]
  exact h _ (List.getElem_mem _)
/-- the drawn parts of a sky -/
def spParts (K : PySem.W.Frag) : Sp := fun vs H Q _ => ∃ (p1 : Addr) (ns : List Int) (at' most : Int), vs = [.ref p1, .int at', .int most] ∧ SqL K H p1 (ns.map V.int) ∧ (∀ n ∈ ns, Num n) ∧ 0 ≤ at' ∧ 0 ≤ most ∧ most ≤ 20 ∧ at' + 6 + 3 * most ≤ (ns.length : Int) ∧
  ∀ (H' : Hp) (t l c : Addr) (n : Int) (ks : Tups) (cam : List Int), Same H H' → SqT K H' t [.int n, .ref l, .ref c] → H l = none → H' l = some (.lst (refs ks)) → TupsAt K H' ks → SqT K H' c (cam.map V.int) →
    isSky n (keys ks) cam = true → (ks.length : Int) ≤ most → Asc 10 (keys ks) → Q (.ref t) H'
end Sw
namespace Sw
open PySem PySem.Spec PyProof.Rows L2
theorem min2I (a b : Int) : nuMin2 (.int a) (.int b) = some (.int (if b < a then b else a)) := by
  show some (if decide (b < a) = true then V.int b else V.int a) = _
  by_cases h : b < a
  · rw [decide_eq_true h, if_pos h]
    rfl
  · rw [decide_eq_false h, if_neg h]
    rfl
def rMin3I : List V → Hp → VK → Prop := fun xs H Q => ∃ a b c : Int, xs = [.int a, .int b, .int c] ∧ ∀ m : Int, m ≤ a → m ≤ b → m ≤ c → (m = a ∨ m = b ∨ m = c) → Q (.int m) H
theorem call_min3I {X : Cx} (hc : X.calm = true) : CallR X (.builtin "min") rMin3I := fun pins s σ H xs us Q I hv ⟨a, b, c, e, q⟩ => by
  refine call_min3Nu hc pins s σ H xs us Q I hv ⟨.int a, .int b, .int c, .int (if c < (if b < a then b else a) then c else (if b < a then b else a)), e, ?_, q _ ?_ ?_ ?_ ?_⟩
  · show (nuMin2 (.int a) (.int b)).bind (fun m => nuMin2 m (.int c)) = _
    rw [min2I]
    exact min2I _ _
  all_goals (repeat' split) <;> omega
end Sw
namespace Sw
open PySem PySem.Spec PyProof.Rows L2
theorem eqvAll_ints : ∀ a b : List Int, PyData.eqvAll (a.map .int) (b.map .int) = decide (a = b)
  | [], [] => rfl
  | [], _ :: _ => rfl
  | _ :: _, [] => rfl
  | x :: r, y :: q => by
    show ((x == y) && PyData.eqvAll (r.map .int) (q.map .int)) = _
    rw [eqvAll_ints r q]
    by_cases h : x = y <;> by_cases h2 : r = q <;> simp [h, h2]
theorem eqv_ti (a b : List Int) : PyData.eqv (dTI a) (dTI b) = decide (a = b) := eqvAll_ints a b
theorem any_tups (kk : List (List Int)) (k : List Int) : ((kk.map dTI).any fun z => PyData.eqv z (dTI k)) = decide (k ∈ kk) := by
  induction kk with
  | nil => rfl
  | cons q r ih =>
    rw [List.map_cons, List.any_cons, ih, eqv_ti]
    by_cases h : q = k
    · subst h
      simp
    · rw [decide_eq_false h, Bool.false_or]
      by_cases hm : k ∈ r
      · rw [decide_eq_true hm, decide_eq_true (List.mem_cons_of_mem _ hm)]
      · rw [decide_eq_false hm, decide_eq_false (fun z => (List.mem_cons.mp z).elim (fun e => h e.symm) hm)]
theorem lay_tups (kk : List (List Int)) : Lay 2 (.list (kk.map dTI)) := lay_list fun d hd => by
  obtain ⟨p, _, rfl⟩ := List.mem_map.mp hd
  exact lay_ti _
theorem refs_push (ks : Tups) (p : Addr × List Int) : refs ks ++ [V.ref p.1] = refs (ks ++ [p]) := by
  unfold refs
  rw [List.map_append]
  rfl
theorem keys_push (ks : Tups) (p : Addr × List Int) : keys (ks ++ [p]) = keys ks ++ [p.2] := by
  unfold keys
  rw [List.map_append]
  rfl
theorem tups_put {K : PySem.W.Frag} {H : Hp} {l : Addr} {xs : List V} {o : HO} {ks : Tups} (hl : H l = some (.lst xs)) (h : TupsAt K H ks) : TupsAt K (upd H l o) ks := fun p hp => sqT_lst hl (h p hp)
theorem nodup_push {α : Type} {l : List α} {x : α} (h : l.Nodup) (hx : x ∉ l) : (l ++ [x]).Nodup := by
  rw [List.nodup_append]
  refine ⟨h, by simp, fun a ha b hb => ?_⟩
  rw [List.mem_singleton.mp hb]
  intro e
  exact hx (e ▸ ha)
end Sw
namespace Sw
open PySem PySem.Spec PyProof.Rows L2
def spOfStars (K : PySem.W.Frag) (C : Addr) : Sp := fun vs H Q _ => ∃ (p : Addr) (n : Int) (st : List V) (cam : List Int), vs = [.ref p] ∧ SkyAt K C H p n st cam ∧ ∀ ts, SqT K H ts st → Q (.ref ts) H
def spOfCamera (K : PySem.W.Frag) (C : Addr) : Sp := fun vs H Q _ => ∃ (p : Addr) (n : Int) (st : List V) (cam : List Int), vs = [.ref p] ∧ SkyAt K C H p n st cam ∧ ∀ tc, SqT K H tc (cam.map V.int) → Q (.ref tc) H
def spOfPart (K : PySem.W.Frag) (C : Addr) (i : Nat) : Sp := fun vs H Q _ => ∃ (p : Addr) (n : Int) (st : List V) (cam : List Int) (z : Int), vs = [.ref p] ∧ SkyAt K C H p n st cam ∧ cam[i]? = some z ∧ Q (.int z) H
theorem cam_form {n : Int} {cam : List Int} (h : isCam n cam = true) : ∃ r b g l, cam = [r, b, g, l] ∧ 0 ≤ r ∧ r ≤ 4 ∧ 0 ≤ b ∧ b ≤ 2 ∧ 0 ≤ g ∧ g ≤ 2 ∧ 1 ≤ l ∧ l ≤ 9 ∧ b ≤ r ∧ 2 * (r + b) + 1 ≤ n := by
  match cam, h with
  | [r, b, g, l], h => exact ⟨r, b, g, l, rfl, of_decide_eq_true h⟩
/-- a sky is tried: none, or what it tells -/
def skyD (n : Int) (kk : List (List Int)) (cam : List Int) : PyData := .tuple [.int n, .tuple (kk.map dTI), dTI cam, dTI cam]
def spToldS (K : PySem.W.Frag) : Sp := fun vs H Q _ => ∃ (n : Int) (l c : Addr) (ks : Tups) (cam : List Int), vs = [.int n, .ref l, .ref c] ∧ SqL K H l (refs ks) ∧ TupsAt K H ks ∧ SqT K H c (cam.map V.int) ∧ ks.length < 64 ∧
  (isSky n (keys ks) cam = false → ∀ H', Same H H' → Q .non H') ∧
  (isSky n (keys ks) cam = true → ∀ (H' : Hp) (t : Addr) (ks' : Tups), Same H H' → ks'.Perm ks → Asc 10 (keys ks') → Dp K H' (.ref t) (skyD n (keys ks') cam) → Q (.ref t) H')
def spIsSky (K : PySem.W.Frag) : Sp := fun vs H Q _ => ∃ (n : Int) (l c : Addr) (ks : Tups) (cam : List Int), vs = [.int n, .ref l, .ref c] ∧ SqL K H l (refs ks) ∧ TupsAt K H ks ∧ SqT K H c (cam.map V.int) ∧ ks.length < 64 ∧
  ∀ H', Same H H' → Q (.bl (isSky n (keys ks) cam)) H'
def spBroken (K : PySem.W.Frag) : Sp := fun vs H Q _ => ∃ (n : Int) (l c p1 : Addr) (at' : Int) (ks : Tups) (cam ns : List Int), vs = [.int n, .ref l, .ref c, .ref p1, .int at'] ∧ H l = some (.lst (refs ks)) ∧ TupsAt K H ks ∧ SqT K H c (cam.map V.int) ∧ ks.length ≤ 6 ∧ isCam n cam = true ∧
  SqL K H p1 (ns.map V.int) ∧ (∀ z ∈ ns, Num z) ∧ 0 ≤ at' ∧ at' + 1 < (ns.length : Int) ∧
  ∀ (H' : Hp) (t l' c' : Addr) (n' : Int) (ks' : Tups) (cam' : List Int), Same H H' → SqT K H' t [.int n', .ref l', .ref c'] → SqL K H' l' (refs ks') → TupsAt K H' ks' → SqT K H' c' (cam'.map V.int) → ks'.length < 64 → Q (.ref t) H'
theorem dp_tup_tups {K : PySem.W.Frag} {H : Hp} {t : Addr} {ks : Tups} (h : SqT K H t (refs ks)) (ht : TupsAt K H ks) : Dp K H (.ref t) (.tuple ((keys ks).map dTI)) := dp_t h (dp_tups ht)
end Sw
namespace Sw
open PySem PySem.Spec PyProof.Rows L2
def rCatAM (K : PySem.W.Frag) : R2 := fun x y H Q => ∃ a b xs ys, x = .ref a ∧ y = .ref b ∧ SqT K H a xs ∧ SqT K H b ys ∧ xs.length + ys.length ≤ sizeLine ∧ nTup K H (xs ++ ys) Q
theorem op_catAM {X : Cx} : OpR X (binaryOp .Add) (rCatAM X.K) := fun pins s σ H x y v u Q I rx ry ⟨c, b, xs, ys, e1, e2, h1, h2, h5, q⟩ =>
  op_catA pins s σ H x y v u Q I rx ry ⟨c, b, xs, ys, e1, e2, h1, h2, h5, fun z => q b H (Same.refl _) (by rw [z]; exact h2), fun _ z => q c H (Same.refl _) (by rw [z, List.append_nil]; exact h1), fun _ _ p np => q.at p np⟩
end Sw
namespace Sw
open PySem PySem.Spec PyProof.Rows L2
def rSlAM (K : PySem.W.Frag) : V → Option Int → Option Int → Hp → VK → Prop := fun x lo hi H Q => ∃ a xs, x = .ref a ∧ SqT K H a xs ∧ nTup K H (cutV xs lo hi) Q
theorem sl_tupAM {X : Cx} : SlR X (rSlAM X.K) := fun pins s σ H x v vl vu lo hi sl Q I rx hs pl pu ⟨b, xs, e, h1, q⟩ =>
  sl_tupA pins s σ H x v vl vu lo hi sl Q I rx hs pl pu ⟨b, xs, e, h1, fun z => q b H (Same.refl _) (by
    unfold cutV
    rw [z.1, z.2, Nat.sub_zero, List.drop_zero, List.take_length]
    exact h1), fun _ p np => q.at p np⟩
theorem cut_ints (zs : List Int) (lo hi : Option Int) : ∃ ys : List Int, cutV (zs.map V.int) lo hi = ys.map V.int ∧ ys.length ≤ zs.length := by
  unfold cutV
  rw [← List.map_drop, ← List.map_take]
  refine ⟨_, rfl, ?_⟩
  rw [List.length_take, List.length_drop]
  omega
theorem sizeL {n : Nat} (h : n ≤ 200000) : n ≤ sizeLine := Nat.le_of_lt (sizeN h)
theorem ints_app (a b : List Int) : a.map V.int ++ b.map V.int = (a ++ b).map V.int := List.map_append.symm
theorem cut_refs (ks : Tups) (lo hi : Option Int) : ∃ ks2 : Tups, cutV (refs ks) lo hi = refs ks2 ∧ (∀ p ∈ ks2, p ∈ ks) ∧ ks2.length ≤ ks.length := by
  unfold cutV refs
  rw [← List.map_drop, ← List.map_take]
  refine ⟨_, rfl, fun p hp => List.mem_of_mem_drop (List.mem_of_mem_take hp), ?_⟩
  rw [List.length_take, List.length_drop]
  omega
theorem refs_app (a b : Tups) : refs a ++ refs b = refs (a ++ b) := List.map_append.symm
theorem tups_app {K : PySem.W.Frag} {H : Hp} {a b : Tups} (h1 : TupsAt K H a) (h2 : TupsAt K H b) : TupsAt K H (a ++ b) := fun p hp => (List.mem_append.mp hp).elim (h1 p) (h2 p)
theorem tups_one {K : PySem.W.Frag} {H : Hp} {p : Addr} {k : List Int} (h : SqT K H p (k.map V.int)) : TupsAt K H [(p, k)] := fun q hq => by
  rw [List.mem_singleton.mp hq]
  exact h
end Sw
namespace Sw
open PySem PySem.Spec PyProof.Rows L2
theorem tyx_tup {K : PySem.W.Frag} {H : Hp} {p : Addr} {xs : List V} (h : SqT K H p xs) : TyX K H (.ref p) (.type "tuple") := by
  rcases h with (h | ⟨o, h⟩) | ⟨o, its, n, h1, h2, _⟩
  · exact .base (.tup h)
  · exact .fTuple h
  · exact .kTuple h1 h2
end Sw
namespace Sw
open PySem PySem.Spec PyProof.Rows L2
theorem lay_tupt (kk : List (List Int)) : Lay 2 (.tuple (kk.map dTI)) := lay_tuple fun d hd => by
  obtain ⟨p, _, rfl⟩ := List.mem_map.mp hd
  exact lay_ti _
theorem lay_sky (n : Int) (kk : List (List Int)) (cam : List Int) : Lay 3 (skyD n kk cam) := lay_tuple fun d hd => by
  simp only [List.mem_cons, List.not_mem_nil, or_false] at hd
  rcases hd with rfl | rfl | rfl | rfl
  · exact lay_int _ _
  · exact lay_tupt kk
  · exact lay_up (lay_ti _) (by decide)
  · exact lay_up (lay_ti _) (by decide)
end Sw
namespace Sw
open PySem PySem.Spec PyProof.Rows L2
/-! ### what is seen from where -/
def keyAt (kk : List (List Int)) (j : Int) : Option (List Int) := if 0 ≤ j then kk[j.toNat]? else none
def spStarAt (K : PySem.W.Frag) (C D : Addr) : Sp := fun vs H Q E => ∃ (p : Addr) (n : Int) (ks : Tups) (cam : List Int) (j : Int), vs = [.ref p, .int j] ∧ SkyS K C H p n ks cam ∧ ks.length ≤ 20 ∧
  (∀ q, 0 ≤ j → ks[j.toNat]? = some q → Q (.ref q.1) H) ∧ ((j < 0 ∨ (ks.length : Int) ≤ j) → ∀ (d : Addr) (H' : Hp), Same H H' → H' d = some (.xd [("number", .int j)]) → E (.ref D) (some d) H')
/-- the offset of a star at an attitude, none if it is not in reach -/
def offI (n : Int) : List Int → List Int → List Int → Option (Int × Int)
  | [r, b, _, _], [x, y, q], [sx, sy, _] =>
    let u := turnX (4 - q) (near n (sx - x)) (near n (sy - y))
    let v := turnY (4 - q) (near n (sx - x)) (near n (sy - y))
    if iabs u > r + b ∨ iabs v > r + b then none else some (u, v)
  | _, _, _ => none
def spOffOf (K : PySem.W.Frag) (C : Addr) : Sp := fun vs H Q _ => ∃ (p : Addr) (n : Int) (st : List V) (r b g l x y q sx sy bb : Int) (pa ps : Addr), vs = [.ref p, .ref pa, .ref ps] ∧ SkyAt K C H p n st [r, b, g, l] ∧ 0 < n ∧ SqT K H pa [.int x, .int y, .int q] ∧ SqT K H ps [.int sx, .int sy, .int bb] ∧
  (offI n [r, b, g, l] [x, y, q] [sx, sy, bb] = none → ∀ H', Same H H' → Q .non H') ∧
  (∀ u v, offI n [r, b, g, l] [x, y, q] [sx, sy, bb] = some (u, v) → ∀ (H' : Hp) (t : Addr), Same H H' → SqT K H' t [.int u, .int v] → Q (.ref t) H')
end Sw
namespace Sw
open PySem PySem.Spec PyProof.Rows L2
/-- offset of a star by its number, with its errors -/
def spOffset (K : PySem.W.Frag) (C D F : Addr) : Sp := fun vs H Q E => ∃ (p pa : Addr) (n : Int) (ks : Tups) (cam at_ : List Int) (j : Int), vs = [.ref p, .ref pa, .int j] ∧ SkyS K C H p n ks cam ∧ isSky n (keys ks) cam = true ∧ SqT K H pa (at_.map V.int) ∧
  (isPose n at_ = false → ∀ (d : Addr) (H' : Hp), Same H H' → H' d = some (.xd [("attitude", .ref pa)]) → E (.ref D) (some d) H') ∧
  (isPose n at_ = true → (j < 0 ∨ (ks.length : Int) ≤ j) → ∀ (d : Addr) (H' : Hp), Same H H' → H' d = some (.xd [("number", .int j)]) → E (.ref F) (some d) H') ∧
  (isPose n at_ = true → ∀ k : List Int, 0 ≤ j → (keys ks)[j.toNat]? = some k →
    (offI n cam at_ k = none → ∀ H', Same H H' → Q .non H') ∧ (∀ u v, offI n cam at_ k = some (u, v) → ∀ (H' : Hp) (t : Addr), Same H H' → SqT K H' t [.int u, .int v] → Q (.ref t) H'))
theorem star_form {n : Int} {k : List Int} (h : isStar n k = true) : ∃ x y b, k = [x, y, b] ∧ 0 ≤ x ∧ x < n ∧ 0 ≤ y ∧ y < n ∧ 1 ≤ b ∧ b ≤ 9 := by
  match k, h with
  | [x, y, b], h => exact ⟨x, y, b, rfl, of_decide_eq_true h⟩
end Sw
set_option Elab.async false
set_option linter.all false
set_option maxRecDepth 100000
set_option maxHeartbeats 4000000
/-! enumerate over a tuple. -/
namespace PySem
namespace SwN
theorem stop_raise {α : Type} {M : Model} {A : Around} {E : Value → Shared → Prop} {s : Shared} {Q : α → Shared → Prop} (hA : A.handled = none)
   (q : ∀ (h' : Heap) (e : Addr), (∀ b o, s.heap.get? b = some o → h'.get? b = some o) → (∃ o, h'.get? e = some o ∧ o.cls = Value.type "StopIteration") → E (.ref e) { s with heap := h' }) :
   wpAny M A (do let e ← newExc (.type "StopIteration") []; raiseNew e : Sem α) Q E s := by
  refine wpAny_bind (wpAny_bind ?_)
  refine wpAny_newTuple ?_ (Nat.zero_le _)
  refine wpAny_bind ?_
  show wpAny _ _ (pure _) _ _ _
  refine wpAny_pure ?_
  refine wpAny_newObj_type ?_ ?_
  · refine wpAny_raiseNew_none hA (q _ _ (fun b o e => Heap.get?_push_of_some _ (Heap.get?_push_of_some _ e)) ⟨_, Heap.get?_push_size _ rfl, rfl⟩)
  · have e : ownMembersOf (Value.type "StopIteration") [] = #[] := rfl
    unfold sizeOk
    rw [e]
    show 6 ≤ sizeLine + 2
    rw [sizeLine_eq]
    decide
variable {prog : Program} {w : World} {A : Around} {E : Value → Shared → Prop} {s : Shared} {it t : Addr} {i : Nat} {items : Array Value} {x : Value}
theorem map_fields {o : Obj} {vs : Array Value} (h : o.data = Data.fields vs) (g : Array Value → Array Value) : (o.mapFields g).isFreed = false ∧ (o.mapFields g).cls = o.cls ∧ (o.mapFields g).data = Data.fields (g vs) := by
  obtain ⟨c, d, dt, sl⟩ := o
  have h' : dt = Data.fields vs := h
  subst h'
  exact ⟨rfl, rfl, rfl⟩
theorem tup_item {Q : PySem.Fin → Shared → Prop} (hi : s.heap.IsTupleIter it t i) (ht : s.heap.IsTuple t items) (hx : items[i]? = some x)
   (q : ∀ h' : Heap, h'.IsTupleIter it t (i + 1) → Heap.SameBut it s.heap h' → Q (.done (.ret x)) { s with heap := h' }) : wpAny (model prog w) A (Builtin.«tuple_iterator.__next__» { pos := [Value.ref it] }) Q E s := by
  obtain ⟨o, h1, h2, h3⟩ := hi
  obtain ⟨ot, g1, g2, n, g3⟩ := ht
  refine wpAny_bind ?_
  show wpAny _ _ (pure (Value.ref it, [])) _ _ _
  refine wpAny_pure ?_
  refine wpAny_bind (wpAny_field h1 h3 rfl ?_)
  show wpAny _ _ (if (Value.ref t == Value.none) = true then _ else _) _ _ _
  rw [if_neg (show ¬ ((Value.ref t == Value.none) = true) from by simp)]
  refine wpAny_bind (wpAny_field h1 h3 rfl ?_)
  refine wpAny_bind (wpAny_seqItems g1 g3 ?_)
  show wpAny _ _ (match items[(i : Int).toNat]? with | some x => _ | none => _) _ _ _
  rw [Int.toNat_natCast, hx]
  refine wpAny_bind (wpAny_setField h1 h3 (by show 1 < 2; omega) ?_)
  refine wpAny_pure ?_
  have m := map_fields h3 fun z => z.setIfInBounds 1 (rawInt (i + 1))
  exact q _ ⟨_, Heap.get?_update_self _ h1 m.1, m.2.1.trans h2, m.2.2⟩ ⟨Heap.size_update _ _ _, fun b hb => Heap.get?_update_ne _ _ _ _ hb⟩
theorem tup_end {Q : PySem.Fin → Shared → Prop} (hA : A.handled = none) (hi : s.heap.IsTupleIter it t i) (ht : s.heap.IsTuple t items) (hx : items[i]? = none)
   (q : ∀ (h' : Heap) (e : Addr), Heap.ExtBut it s.heap h' → (∃ o, h'.get? e = some o ∧ o.cls = Value.type "StopIteration") → E (.ref e) { s with heap := h' }) : wpAny (model prog w) A (Builtin.«tuple_iterator.__next__» { pos := [Value.ref it] }) Q E s := by
  obtain ⟨o, h1, h2, h3⟩ := hi
  obtain ⟨ot, g1, g2, n, g3⟩ := ht
  refine wpAny_bind ?_
  show wpAny _ _ (pure (Value.ref it, [])) _ _ _
  refine wpAny_pure ?_
  refine wpAny_bind (wpAny_field h1 h3 rfl ?_)
  show wpAny _ _ (if (Value.ref t == Value.none) = true then _ else _) _ _ _
  rw [if_neg (show ¬ ((Value.ref t == Value.none) = true) from by simp)]
  refine wpAny_bind (wpAny_field h1 h3 rfl ?_)
  refine wpAny_bind (wpAny_seqItems g1 g3 ?_)
  show wpAny _ _ (match items[(i : Int).toNat]? with | some x => _ | none => _) _ _ _
  rw [Int.toNat_natCast, hx]
  refine wpAny_bind (wpAny_rule ?_)
  refine wpAny_bind (wpAny_setField h1 h3 (by show 0 < 2; omega) ?_)
  refine stop_raise hA fun h' e k ne => q h' e (fun b o hb e' => k b o ?_) ne
  exact (Heap.get?_update_ne _ _ _ _ hb).trans e'
theorem next_item {Q : Value → Shared → Prop} (hi : s.heap.IsTupleIter it t i) (ht : s.heap.IsTuple t items) (hx : items[i]? = some x)
    (q : ∀ h' : Heap, h'.IsTupleIter it t (i + 1) → Heap.SameBut it s.heap h' → Q x { s with heap := h' }) : wpAny (model prog w) A (Builtin.SmallTypes.nextOf (.ref it)) Q E s := by
  have hT : s.TypeIs (.ref it) "tuple_iterator" := by
    obtain ⟨o, h1, h2, _⟩ := hi
    exact ⟨o, h1, h2⟩
  refine wpAny_bind (wpAny_callSpecial?_slotG hT PyProof.Rows.slot_tupleiter_next.toG ?_)
  refine call_meets (S := fun A R s => s.heap.IsTupleIter it t i ∧ s.heap.IsTuple t items ∧ ∀ h' : Heap, h'.IsTupleIter it t (i + 1) → Heap.SameBut it s.heap h' → R (.ok (.ret x)) { s with heap := h' })
    PyProof.Rows.slot_tupleiter_next hT PyProof.Rows.entry_tupleiter_next (PyProof.Rows.args_tupleiter_next _) ?_ ⟨hi, ht, fun h' a b => ?_⟩
  · intro prog w A R s ⟨a, b, c⟩
    exact tup_item a b hx c
  · exact wpAny_pure (q h' a b)
theorem next_end {Q : Value → Shared → Prop} (hA : A.handled = none) (hi : s.heap.IsTupleIter it t i) (ht : s.heap.IsTuple t items) (hx : items[i]? = none)
    (q : ∀ (h' : Heap) (e : Addr), Heap.ExtBut it s.heap h' → (∃ o, h'.get? e = some o ∧ o.cls = Value.type "StopIteration") → E (.ref e) { s with heap := h' }) : wpAny (model prog w) A (Builtin.SmallTypes.nextOf (.ref it)) Q E s := by
  have hT : s.TypeIs (.ref it) "tuple_iterator" := by
    obtain ⟨o, h1, h2, _⟩ := hi
    exact ⟨o, h1, h2⟩
  refine wpAny_bind (wpAny_callSpecial?_slotG hT PyProof.Rows.slot_tupleiter_next.toG ?_)
  refine call_meets (S := fun A R s => A.handled = none ∧ s.heap.IsTupleIter it t i ∧ s.heap.IsTuple t items ∧ ∀ (h' : Heap) (e : Addr), Heap.ExtBut it s.heap h' → (∃ o, h'.get? e = some o ∧ o.cls = Value.type "StopIteration") → R (.error (.ref e)) { s with heap := h' })
    PyProof.Rows.slot_tupleiter_next hT PyProof.Rows.entry_tupleiter_next (PyProof.Rows.args_tupleiter_next _) ?_ ⟨hA, hi, ht, fun h' e a b => ?_⟩
  · intro prog w A R s ⟨hA, a, b, c⟩
    exact tup_end hA a b hx c
  · exact q h' e a b
theorem draws_tuple (hA : A.handled = none) (hne : t ≠ it) (items : Array Value) : Draws prog w A it [it, t] items.size (fun i v => items[i]? = some v) fun i h => h.IsTupleIter it t i ∧ h.IsTuple t items where
  live := fun i h ⟨⟨o, h1, _⟩, _⟩ => ⟨o, h1⟩
  frame := fun i h h' ⟨⟨o, h1, h2⟩, ot, g1, g2⟩ k => ⟨⟨o, k it (by simp) o h1, h2⟩, ot, k t (by simp) ot g1, g2⟩
  item := fun i s Q E hi ⟨a, b⟩ q => next_item a b (Array.getElem?_eq_getElem hi) fun h' c d => q _ h' _ (Array.getElem?_eq_getElem hi) ⟨c, by
    obtain ⟨ot, g1, g2⟩ := b
    exact ⟨ot, (d.2 t hne).trans g1, g2⟩⟩ d
  done := fun s Q E ⟨a, b⟩ q => next_end hA a b (Array.getElem?_eq_none (Nat.le_refl _)) q
theorem new_cls (a : Value) : Builtin.SmallTypes.newClass "enumerate" { pos := [Value.type "enumerate", a] } = pure (Value.type "enumerate", [a]) := by
  unfold Builtin.SmallTypes.newClass
  simp only [sub_enumerate]
  rfl
theorem bool_app {α : Type} {M : Model} {A : Around} {E : Value → Shared → Prop} {s : Shared} {Q : α → Shared → Prop} {F : Bool → Sem α} (h : ∀ b, wpAny M A (F b) Q E s) (b : Bool) : wpAny M A (F b) Q E s := h b
theorem en {prog : Program} {w : World} {A : Around} {E : Value → Shared → Prop} {s : Shared} {t : Addr} {items : Array Value} {Q : PySem.Fin → Shared → Prop} (ht : s.heap.IsTuple t items)
   (q : Q (.done (.ret (.ref (s.heap.push { cls := Value.type "tuple_iterator", data := Data.fields #[Value.ref t, Value.int 0 0] }).objs.size))) { s with heap := (s.heap.push { cls := Value.type "tuple_iterator", data := Data.fields #[Value.ref t, Value.int 0 0] }).push { cls := Value.type "enumerate", data := Data.fields #[Value.none, Value.bool false, Value.ref s.heap.objs.size, rawInt 0, Value.none, Value.none] } }) :
   wpAny (model prog w) A (Builtin.«enumerate.__new__» { pos := [Value.type "enumerate", Value.ref t] }) Q E s := by
  refine wpAny_bind ?_
  rw [new_cls]
  refine wpAny_pure ?_
  show wpAny _ _ (ite ((Value.type "enumerate" == Value.type "enumerate") = true) (Bind.bind (Builtin.SmallTypes.calledThroughType (Value.type "enumerate")) _) _) _ _ _
  rw [if_pos (by decide)]
  refine wpAny_bind ?_
  refine wpAny_bind (wpAny_stack_any fun st => wpAny_pure ?_)
  have fin : wpAny (model prog w) A (do
      let z ← pyIter (Value.ref t)
      let r ← Builtin.SmallTypes.newRecord (Value.type "enumerate") (Builtin.SmallTypes.ownedTupleFields ++ [z, rawInt 0, Value.none, Value.none])
      ret r) Q E s := by
    refine wpAny_bind (wpAny_pyIter_tuple ht ?_)
    refine wpAny_bind ?_
    show wpAny _ _ (newObj (Value.type "enumerate") (Data.fields #[Value.none, Value.bool false, Value.ref s.heap.objs.size, rawInt 0, Value.none, Value.none])) _ _ _
    refine wpAny_newObj_type ?_ ?_
    · exact wpAny_pure q
    · show 6 ≤ sizeLine + 2
      rw [sizeLine_eq]
      decide
  show wpAny _ _ (ite _ (Bind.bind _ _) (Bind.bind _ _)) _ _ _
  have leaf : ∀ {y : Sem (Value × Option Value)} {k : Value × Option Value → Sem PySem.Fin}, y = pure (Value.ref t, none) → wpAny (model prog w) A (k (Value.ref t, none)) Q E s → wpAny (model prog w) A (y >>= k) Q E s := fun e h => by
    rw [e]
    exact wpAny_bind (wpAny_pure h)
  split <;> split <;> exact leaf rfl fin
theorem call_enum {prog : Program} {w : World} {A : Around} {E : Value → Shared → Prop} {s : Shared} {t : Addr} {items : Array Value} {Q : Value → Shared → Prop} (ht : s.heap.IsTuple t items)
    (q : ∀ h' : Heap, IsEnum h' (s.heap.objs.size + 1) s.heap.objs.size 0 Value.none → h'.IsTupleIter s.heap.objs.size t 0 → h'.objs.size = s.heap.objs.size + 2 → (∀ b o, s.heap.get? b = some o → h'.get? b = some o) → Q (.ref (s.heap.objs.size + 1)) { s with heap := h' }) :
    wpAny (model prog w) A (call (.type "enumerate") [.ref t]) Q E s := by
  refine callType_new (S := fun A R s => s.heap.IsTuple t items ∧ R (.ok (.ret (.ref (s.heap.push { cls := Value.type "tuple_iterator", data := Data.fields #[Value.ref t, Value.int 0 0] }).objs.size))) { s with heap := (s.heap.push { cls := Value.type "tuple_iterator", data := Data.fields #[Value.ref t, Value.int 0 0] }).push { cls := Value.type "enumerate", data := Data.fields #[Value.none, Value.bool false, Value.ref s.heap.objs.size, rawInt 0, Value.none, Value.none] } })
    F.called_enumerate (by decide) (F.typeCall_enumerate_1 _) (F.newCall_enumerate_1 _) (fun obj => F.args_object_init_2 _ _) F.entry_enumerate_new ?_ ?_
  · intro prog w A R s ⟨a, b⟩
    exact en a b
  · have e1 : (s.heap.push { cls := Value.type "tuple_iterator", data := Data.fields #[Value.ref t, Value.int 0 0] }).objs.size = s.heap.objs.size + 1 := Heap.size_push ..
    refine ⟨ht, ⟨_, Heap.get?_push_size _ rfl, rfl⟩, ?_⟩
    have z := q ((s.heap.push { cls := Value.type "tuple_iterator", data := Data.fields #[Value.ref t, Value.int 0 0] }).push { cls := Value.type "enumerate", data := Data.fields #[Value.none, Value.bool false, Value.ref s.heap.objs.size, rawInt 0, Value.none, Value.none] })
      (by
        show Heap.get? _ _ = _
        rw [← e1]
        exact Heap.get?_push_size _ rfl)
      ⟨_, Heap.get?_push_of_some _ (Heap.get?_push_size _ rfl), rfl, rfl⟩ (by rw [Heap.size_push, e1]) (fun b o e => Heap.get?_push_of_some _ (Heap.get?_push_of_some _ e))
    rw [← e1] at z
    exact z
end SwN
end PySem
namespace PySem
namespace SwN
theorem end_enum {prog : Program} {w : World} {A : Around} {E : Value → Shared → Prop} {s : Shared} {e it t : Addr} {i : Nat} {old : Value} {items : Array Value} {Q : Option Value → Shared → Prop} (hA : A.in1.handled = none) (he : IsEnum s.heap e it (i : Int) old) (hi : s.heap.IsTupleIter it t i) (ht : s.heap.IsTuple t items) (hl : items.size ≤ i)
    (hei : e ≠ it) (hte : t ≠ e) (hti : t ≠ it)
    (q : ∀ (h' : Heap) (tk : Nat), (∀ b o, b ≠ e → b ≠ it → s.heap.get? b = some o → h'.get? b = some o) → Q none { s with heap := h', toks := tk }) : wpAny (model prog w) A (pyNext (.ref e)) Q E s := by
  have D : Draws prog w A.in1 it [it, t] i (fun _ _ => True) (fun j h => j = i ∧ h.IsTupleIter it t i ∧ h.IsTuple t items) :=
    { live := fun j h ⟨_, ⟨o, h1, _⟩, _⟩ => ⟨o, h1⟩
      frame := fun j h h' ⟨hj, ⟨o, h1, h2⟩, ot, g1, g2⟩ k => ⟨hj, ⟨o, k it (by simp) o h1, h2⟩, ot, k t (by simp) ot g1, g2⟩
      item := fun j s Q E hj ⟨hj', _⟩ _ => absurd hj' (Nat.ne_of_lt hj)
      done := fun s Q E ⟨_, a, b⟩ q => next_end hA a b (Array.getElem?_eq_none hl) q }
  have wt := WalksT.enumerateD D e hei (by simp [hei, Ne.symm hte]) (by simp)
  refine wt.done s Q E ⟨⟨old, he⟩, rfl, hi, ht⟩ fun h' tk kp => q h' tk fun b o b1 b2 z => kp b o (by simp [b1, b2]) z
end SwN
end PySem
namespace PySem
namespace SwN
theorem self_enum {prog : Program} {w : World} {A : Around} {E : Value → Shared → Prop} {s : Shared} {e it : Addr} {i : Int} {old : Value} {Q : Value → Shared → Prop} (h : IsEnum s.heap e it i old) (q : Q (.ref e) s) : wpAny (model prog w) A (pyIter (.ref e)) Q E s := by
  have hT : s.TypeIs (.ref e) "enumerate" := ⟨_, h, rfl⟩
  refine wpAny_pyIter_slot hT F.slot_enumerate_iter ?_
  refine call_meets (S := fun A R s => R (.ok (.ret (.ref e))) s) F.slot_enumerate_iter hT F.entry_enumerate_iter (F.args_enumerate_iter_1 _) ?_ ?_
  · intro prog w A R s hR
    refine wpAny_bind ?_
    show wpAny _ _ (pure (Value.ref e, [])) _ _ _
    exact wpAny_pure (wpAny_pure hR)
  · exact ⟨"enumerate", _, hT, F.slot_enumerate_next.lookup, q⟩
end SwN
end PySem
namespace L2
open PySem PySem.Spec PyProof.Rows
/-- the turns of enumerate(t), t a tuple -/
def Itet (K : PySem.W.Frag) (a : Addr) : It where
  go := fun i H => ∃ xs x, SqT K H a xs ∧ xs[i]? = some x
  yld := fun i H v H' => ∃ T x, v = V.ref T ∧ H T = none ∧ H' = upd H T (.tup [.int i, x]) ∧ ∀ xs, SqT K H a xs → xs[i]? = some x
  stop := fun i H => ∃ xs, SqT K H a xs ∧ xs.length ≤ i
def iEnumT (K : PySem.W.Frag) (ta : TE) : TI := fun σ H R => ta σ H fun v H1 => ∃ a xs, v = .ref a ∧ SqT K H1 a xs ∧ R (Itet K a) H1
theorem vals_len {xs : List V} {us : List Value} (h : Vals xs us) : xs.length = us.length := by
  induction h with
  | nil => rfl
  | cons _ _ ih => rw [List.length_cons, List.length_cons, ih]
theorem turn_enumT {P : Program} {w : World} {K : PySem.W.Frag} {elts : List Expr} {k : Nat} {pos : Pos} {e it t : Addr} (hei : e ≠ it) (hte : t ≠ e) (hti : t ≠ it) :
    Turn P w K (.Tuple elts k pos) (Itet K t) [e, it] e (fun i h => (∃ old, IsEnum h e it (i : Int) old) ∧ h.IsTupleIter it t i) where
  mem := by simp
  obj := fun i h ⟨⟨old, h1⟩, o, g1, g2, g3⟩ b hb => by
    simp only [List.mem_cons, List.not_mem_nil, or_false] at hb
    rcases hb with rfl | rfl
    · exact ⟨_, h1, fun v z => by cases z⟩
    · exact ⟨o, g1, fun v z => by rw [g3] at z; cases z⟩
  keep := fun i h h' ⟨⟨old, h1⟩, o, g1, g2⟩ q => ⟨⟨old, q e (by simp) _ h1⟩, o, q it (by simp) o g1, g2⟩
  self := fun A i s Q E ⟨⟨old, h1⟩, h2⟩ q => PySem.SwN.self_enum h1 q
  item := by
    intro X hp hw hK hc i pins s σ H E I fok ⟨⟨old, he⟩, hi⟩ ⟨xs, x, hq, hx⟩
    subst hp hw hK
    have hA : X.A.in1.handled = none := I.ok.hd hc
    obtain ⟨its, hv, htup, hsz⟩ := I.tuple hq
    obtain ⟨u, hu, ru⟩ := Vals.get hv hx
    have wt := WalksT.enumerateD (PySem.SwN.draws_tuple (prog := X.prog) (w := X.w) hA hti its.toArray) e hei (by simp [hei, Ne.symm hte]) (by simp)
    have hin : i < its.toArray.size := by
      rw [List.size_toArray, ← vals_len hv]
      exact (List.getElem?_eq_some_iff.mp hx).1
    refine wt.item i s _ E hin ⟨⟨old, he⟩, hi, htup⟩ fun T vals h1 tk pt hT tupT mid kp => ⟨.ref T, rfl, wt.go elts k pos i T _ _ E mid fun h2 st kp2 => ?_⟩
    obtain ⟨tt, y, hy, rfl⟩ := pt
    have hyu : y = u := by
      have z : its.toArray[i]? = some u := by rw [List.getElem?_toArray]; exact hu
      rw [z] at hy
      exact (Option.some.inj hy).symm
    subst hyu
    have hTe : T ≠ e ∧ T ≠ it := ⟨mid.2.2.1, mid.2.2.2⟩
    have kp12 : ∀ b o, b ≠ e → b ≠ it → s.heap.get? b = some o → h2.get? b = some o := fun b o b1 b2 q => kp2 b o (by simp [b1, b2]) (kp b o (by simp [b1, b2]) q)
    obtain ⟨oT, t1, t2, nn, t3⟩ := tupT
    have tT : h2.get? T = some oT := kp2 T oT (by simp [hTe.1, hTe.2]) t1
    have sT : s.heap.get? T = none := by
      cases z : s.heap.get? T with
      | none => rfl
      | some o => exact absurd (Heap.lt_size z) (Nat.not_lt.mpr hT)
    obtain ⟨f1, f2, f3, f4, f5, f6⟩ := fok e (by simp)
    obtain ⟨g1, g2, g3, g4, g5, g6⟩ := fok it (by simp)
    obtain ⟨m1, a1, a2⟩ := restrict s.heap fun b => decide (b ≠ e)
    obtain ⟨m2, b1, b2⟩ := restrict h2 fun b => decide (b ≠ T)
    have I1 : Inv X pins σ H ⟨m1, s.gens, s.drawn, s.toks, s.os⟩ := I.turned (it := e) (t' := s.toks) (fun b o hb q => (a1 b (decide_eq_true hb)).trans q) f1 f2 f4 f5 f6
    have I2 : Inv X pins σ H ⟨m2, s.gens, s.drawn, tk, s.os⟩ := Inv.turned (s := ⟨m1, s.gens, s.drawn, s.toks, s.os⟩) (it := it) (t' := tk) I1 (fun b o hb q => by
      have q' : m1.get? b = some o := q
      have be : b ≠ e := fun z => by
        rw [z, a2 e (by simp)] at q'
        cases q'
      have q2 : s.heap.get? b = some o := (a1 b (decide_eq_true be)).symm.trans q'
      have bT : b ≠ T := fun z => by rw [z, sT] at q2; cases q2
      exact (b1 b (decide_eq_true bT)).trans (kp12 b o be hb q2)) g1 g2 g4 g5 g6
    have HT : H T = none := I.hok.fresh hT
    have tup : SqT X.K (upd H T (.tup [.int i, x])) T [.int i, x] := .inl (.inl upd_same)
    have I3 : Inv X pins σ (upd H T (.tup [.int i, x])) ⟨h2, s.gens, s.drawn, tk, s.os⟩ := Inv.laidN (s := ⟨m2, s.gens, s.drawn, tk, s.os⟩) (t' := tk) I2 (fun b o q => by
      have q' : m2.get? b = some o := q
      have bT : b ≠ T := fun z => by
        rw [z, b2 T (by simp)] at q'
        cases q'
      exact (b1 b (decide_eq_true bT)).symm.trans q') (b2 T (by simp)) HT ⟨(by show 2 ≤ sizeLine; decide), [_, _], .cons ⟨_, rfl⟩ (.cons ru .nil), ⟨oT, tT, t2, nn, t3⟩⟩
    refine ⟨.ref T, _, I3, rfl, ⟨T, x, rfl, HT, rfl, fun ys hys => ?_⟩, ⟨st.1, st.2.1⟩, fun b hb => ?_⟩
    · rw [I.tuple_inj hys hq]
      exact hx
    · simp only [List.mem_cons, List.not_mem_nil, or_false] at hb
      rcases hb with rfl | rfl
      · rw [upd_ne (Ne.symm hTe.1)]
        exact f1
      · rw [upd_ne (Ne.symm hTe.2)]
        exact g1
  done := by
    intro X hp hw hK hc i pins s σ H E I fok ⟨⟨old, he⟩, hi⟩ ⟨xs, hq, hl⟩
    subst hp hw hK
    have hA : X.A.in1.handled = none := I.ok.hd hc
    obtain ⟨its, hv, htup, hsz⟩ := I.tuple hq
    have wt := WalksT.enumerateD (PySem.SwN.draws_tuple (prog := X.prog) (w := X.w) hA hti its.toArray) e hei (by simp [hei, Ne.symm hte]) (by simp)
    obtain ⟨f1, f2, f3, f4, f5, f6⟩ := fok e (by simp)
    obtain ⟨g1, g2, g3, g4, g5, g6⟩ := fok it (by simp)
    have hle : its.toArray.size ≤ i := by
      rw [List.size_toArray, ← vals_len hv]
      exact hl
    refine PySem.SwN.end_enum hA he hi htup hle hei hte hti fun h2 tk kp12 => ⟨rfl, ?_⟩
    obtain ⟨m1, a1, a2⟩ := restrict s.heap fun b => decide (b ≠ e)
    have I1 : Inv X pins σ H ⟨m1, s.gens, s.drawn, s.toks, s.os⟩ := I.turned (it := e) (t' := s.toks) (fun b o hb q => (a1 b (decide_eq_true hb)).trans q) f1 f2 f4 f5 f6
    exact Inv.turned (s := ⟨m1, s.gens, s.drawn, s.toks, s.os⟩) (it := it) (t' := tk) I1 (fun b o hb q => by
      have q' : m1.get? b = some o := q
      have be : b ≠ e := fun z => by
        rw [z, a2 e (by simp)] at q'
        cases q'
      exact kp12 b o be hb ((a1 b (decide_eq_true be)).symm.trans q')) g1 g2 g4 g5 g6
/-- for i, x in enumerate(t), t a tuple -/
theorem pi_enumT {X : Cx} {e : Expr} {te : TE} {p pos tpos : Pos} {elts : List Expr} {kk : Nat} (hg : Gl X "enumerate") (hm : X.mg "enumerate" = none) (he : PE X e te)
    (hs : starEach [e] X.env = [(false, eval e X.env)] := by rfl) : PI X (.Tuple elts kk tpos) (.Call (.Name "enumerate" p) [e] [] pos) (iEnumT X.K te) := by
  refine ⟨fun pins s σ H R I h => ?_⟩
  refine wpAny_Call_Name_kw (ld_blt I hg hm (u := .type "enumerate") (by decide +kernel) ?_)
  rw [hs]
  show wpAny _ _ (callWith pos (Value.type "enumerate") [] [(false, _)] []) _ _ _
  refine callWith_type1 ?_
  show wpAny _ _ (eval e X.env) _ _ _
  refine thn (he.run pins s σ H _ I h) fun u s1 hh => ?_
  obtain ⟨v, H1, I1, rv, a, xs, ev, hq, hR⟩ := hh
  subst ev
  obtain rfl : u = Value.ref a := rv
  obtain ⟨its, hv, htup, _⟩ := I1.tuple hq
  refine PySem.SwN.call_enum htup fun h' h1 h2 h3 k => ?_
  have n1 : H1 s1.heap.objs.size = none := I1.hok.fresh (Nat.le_refl _)
  have n2 : H1 (s1.heap.objs.size + 1) = none := I1.hok.fresh (Nat.le_succ _)
  have F1 : FpOk X pins H1 s1.heap.objs.size := I1.fpOk (Nat.le_refl _) n1
  have F2 : FpOk X pins H1 (s1.heap.objs.size + 1) := I1.fpOk (Nat.le_succ _) n2
  obtain ⟨f1, f2, f3, f4, f5, f6⟩ := id F1
  have J : Inv X pins σ H1 { s1 with heap := h' } := I1.turned (it := s1.heap.objs.size) (t' := s1.toks) (fun b o _ q => k b o q) f1 f2 f4 f5 f6
  refine PySem.SwN.self_enum h1 ?_
  obtain ⟨oT, t1, _⟩ := htup
  have la : a < s1.heap.objs.size := Heap.lt_size t1
  refine ⟨s1.heap.objs.size + 1, [s1.heap.objs.size + 1, s1.heap.objs.size], _, Itet X.K a, H1, rfl, J, turn_enumT (Nat.succ_ne_self _) (Nat.ne_of_lt (Nat.lt_succ_of_lt la)) (Nat.ne_of_lt la), ⟨⟨_, h1⟩, h2⟩, fun b hb => ?_, hR⟩
  simp only [List.mem_cons, List.not_mem_nil, or_false] at hb
  rcases hb with rfl | rfl
  · exact F2
  · exact F1
end L2
set_option Elab.async false
set_option linter.all false
set_option maxRecDepth 100000
set_option maxHeartbeats 4000000
/-! What can be seen from where. -/
namespace L2
open PySem PySem.Spec PyProof.Rows
theorem walk_enumT {K : PySem.W.Frag} {a : Addr} {xs : List V} : Walk (Itet K a) xs.length (fun H => SqT K H a xs) (YPair (fun i => some (.int i)) (fun i => xs[i]?)) where
  goes := fun i H hi h => ⟨xs, xs[i], h, List.getElem?_eq_getElem hi⟩
  stops := fun H h => ⟨xs, h, Nat.le_refl _⟩
  yields := fun i H x H' hi h ⟨T, y, e1, e2, e3, e4⟩ => ⟨T, .int i, y, e1, e2, e3, rfl, e4 xs h⟩
end L2
namespace Sw
open PySem PySem.Spec PyProof.Rows L2
def seenOne (n : Int) (cam at_ k : List Int) : Option (List Int) :=
  match offI n cam at_ k, cam, k with
  | some (u, v), [_, _, g, l], [_, _, b] => if l - g ≤ b then some [u, v, b] else none
  | _, _, _ => none
/-- the stars that can be seen, by number, with offset and brightness -/
def seenI (n : Int) (cam at_ : List Int) : Nat → List (List Int) → List (Int × List Int)
  | _, [] => []
  | j, k :: r => (match seenOne n cam at_ k with | some d => [((j : Int), d)] | none => []) ++ seenI n cam at_ (j + 1) r
theorem seenI_push (n : Int) (cam at_ : List Int) : ∀ (l : List (List Int)) (j : Nat) (k : List Int), seenI n cam at_ j (l ++ [k]) = seenI n cam at_ j l ++ (match seenOne n cam at_ k with | some d => [(((j + l.length : Nat) : Int), d)] | none => [])
  | [], j, k => by
    show (match seenOne n cam at_ k with | some d => [((j : Int), d)] | none => []) ++ [] = [] ++ _
    rw [List.append_nil, List.nil_append]
    rfl
  | x :: r, j, k => by
    show (match seenOne n cam at_ x with | some d => [((j : Int), d)] | none => []) ++ seenI n cam at_ (j + 1) (r ++ [k]) = ((match seenOne n cam at_ x with | some d => [((j : Int), d)] | none => []) ++ seenI n cam at_ (j + 1) r) ++ _
    rw [seenI_push n cam at_ r (j + 1) k, List.append_assoc, show j + 1 + r.length = j + (x :: r).length by simp only [List.length_cons]; omega]
theorem seenI_lt (n : Int) (cam at_ : List Int) : ∀ (l : List (List Int)) (j : Nat), ∀ z ∈ seenI n cam at_ j l, z.1 < ((j + l.length : Nat) : Int)
  | [], j, z, h => by cases h
  | x :: r, j, z, h => by
    rcases List.mem_append.mp h with h | h
    · cases e : seenOne n cam at_ x with
      | none => rw [e] at h; cases h
      | some d =>
        rw [e] at h
        rw [List.mem_singleton.mp h]
        simp only [List.length_cons]
        omega
    · have := seenI_lt n cam at_ r (j + 1) z h
      simp only [List.length_cons]
      omega
abbrev Shown := List (Int × Addr × List Int)
def shownK (zs : Shown) : List (Key × V) := zs.map fun z => (Sum.inl z.1, V.ref z.2.1)
def shownD (zs : Shown) : List (Int × List Int) := zs.map fun z => (z.1, z.2.2)
def ShownAt (K : PySem.W.Frag) (H : Hp) (zs : Shown) : Prop := ∀ z ∈ zs, SqT K H z.2.1 (z.2.2.map V.int)
theorem put_new {v : V} {j : Int} {zs : Shown} (h : ∀ z ∈ zs, z.1 < j) : putK (shownK zs) (.inl j) v = shownK zs ++ [(.inl j, v)] := by
  unfold putK
  rw [if_neg]
  intro q
  obtain ⟨y, hy, e⟩ := List.any_eq_true.mp q
  obtain ⟨z, hz, rfl⟩ := List.mem_map.mp hy
  have e' : (Sum.inl z.1 : Key) = Sum.inl j := of_decide_eq_true e
  injection e' with e'
  have := h z hz
  omega
/-- dict of what can be seen -/
def spApp (K : PySem.W.Frag) (C : Addr) : Sp := fun vs H Q _ => ∃ (p pa : Addr) (n : Int) (ks : Tups) (cam at_ : List Int), vs = [.ref p, .ref pa] ∧ SkyS K C H p n ks cam ∧ isSky n (keys ks) cam = true ∧ SqT K H pa (at_.map V.int) ∧ isPose n at_ = true ∧
  ∀ (H' : Hp) (d : Addr) (zs : Shown), Same H H' → H' d = some (.dK (shownK zs)) → ShownAt K H' zs → shownD zs = seenI n cam at_ 0 (keys ks) → Q (.ref d) H'
end Sw
namespace Sw
open PySem PySem.Spec PyProof.Rows L2
theorem none_back {H H' : Hp} {p : Addr} (s : Same H H') (n : H' p = none) : H p = none := by
  cases e : H p with
  | none => rfl
  | some o => rw [s _ _ e] at n; cases n
theorem sqT_dk {K : PySem.W.Frag} {H : Hp} {d p : Addr} {kvs : List (Key × V)} {o : HO} {ys : List V} (hl : H d = some (.dK kvs)) (h : SqT K H p ys) : SqT K (upd H d o) p ys := by
  rcases h with (h | ⟨u, h⟩) | h
  · exact .inl (.inl (by rw [upd_ne (fun z => by rw [z, hl] at h; cases h)]; exact h))
  · exact .inl (.inr ⟨u, by rw [upd_ne (fun z => by rw [z, hl] at h; cases h)]; exact h⟩)
  · exact .inr h
theorem shown_len (zs : Shown) : (shownK zs).length = zs.length := List.length_map ..
theorem shownD_len (zs : Shown) : (shownD zs).length = zs.length := List.length_map ..
theorem seenI_len (n : Int) (cam at_ : List Int) : ∀ (l : List (List Int)) (j : Nat), (seenI n cam at_ j l).length ≤ l.length
  | [], _ => Nat.le_refl _
  | k :: r, j => by
    show ((match seenOne n cam at_ k with | some d => [((j : Int), d)] | none => []) ++ seenI n cam at_ (j + 1) r).length ≤ _
    have := seenI_len n cam at_ r (j + 1)
    rw [List.length_append]
    cases seenOne n cam at_ k with
    | none => simp only [List.length_nil, List.length_cons]; omega
    | some d => simp only [List.length_cons, List.length_nil]; omega
end Sw
namespace Sw
open PySem PySem.Spec PyProof.Rows L2
def isSure (r b g l : Int) : List Int → Bool
  | [u, v, c] => decide (iabs u ≤ r - b) && decide (iabs v ≤ r - b) && decide (l + g ≤ c)
  | _ => false
def sureI (r b g l : Int) (ds : List (Int × List Int)) : List Int := (ds.filter fun z => isSure r b g l z.2).map (·.1)
def spSure (K : PySem.W.Frag) (C : Addr) : Sp := fun vs H Q _ => ∃ (p d : Addr) (n : Int) (st : List V) (r b g l : Int) (zs : Shown), vs = [.ref p, .ref d] ∧ SkyAt K C H p n st [r, b, g, l] ∧ H d = some (.dK (shownK zs)) ∧ ShownAt K H zs ∧ (∀ z ∈ zs, z.2.2.length = 3) ∧ zs.length ≤ 64 ∧
  ∀ (H' : Hp) (D : Addr), Same H H' → H D = none → H' D = some (.lst ((sureI r b g l (shownD zs)).map V.int)) → Q (.ref D) H'
end Sw
namespace Sw
open PySem PySem.Spec PyProof.Rows L2
def sureC (cam : List Int) (ds : List (Int × List Int)) : List Int :=
  match cam with
  | [r, b, g, l] => sureI r b g l ds
  | _ => []
theorem seenOne_three {n : Int} {cam at_ k d : List Int} (h : seenOne n cam at_ k = some d) : d.length = 3 := by
  unfold seenOne at h
  split at h
  · split at h
    · cases h
      rfl
    · cases h
  · cases h
theorem seenI_three (n : Int) (cam at_ : List Int) : ∀ (l : List (List Int)) (j : Nat), ∀ z ∈ seenI n cam at_ j l, z.2.length = 3
  | [], j, z, h => by cases h
  | x :: r, j, z, h => by
    rcases List.mem_append.mp h with h | h
    · cases e : seenOne n cam at_ x with
      | none => rw [e] at h; cases h
      | some d =>
        rw [e] at h
        rw [List.mem_singleton.mp h]
        exact seenOne_three e
    · exact seenI_three n cam at_ r (j + 1) z h
def seenN (n : Int) (cam at_ : List Int) (kk : List (List Int)) : List Int := (seenI n cam at_ 0 kk).map (·.1)
def sureN (n : Int) (cam at_ : List Int) (kk : List (List Int)) : List Int := sureC cam (seenI n cam at_ 0 kk)
/-- numbers of stars, told at an attitude, with its error -/
def spNumsOf (K : PySem.W.Frag) (C D : Addr) (f : Int → List Int → List Int → List (List Int) → List Int) : Sp := fun vs H Q E => ∃ (p pa : Addr) (n : Int) (ks : Tups) (cam at_ : List Int), vs = [.ref p, .ref pa] ∧ SkyS K C H p n ks cam ∧ isSky n (keys ks) cam = true ∧ SqT K H pa (at_.map V.int) ∧
  (isPose n at_ = false → ∀ (d : Addr) (H' : Hp), Same H H' → H' d = some (.xd [("attitude", .ref pa)]) → E (.ref D) (some d) H') ∧
  (isPose n at_ = true → ∀ (H' : Hp) (l : Addr), Same H H' → H l = none → H' l = some (.lst ((f n cam at_ (keys ks)).map V.int)) → Q (.ref l) H')
end Sw
namespace Sw
open PySem PySem.Spec PyProof.Rows L2
theorem near_iff {n z t room : Int} (h4 : 4 ≤ n) (h9 : n ≤ 9) (hr : 2 * room + 1 ≤ n) (t0 : -room ≤ t) (t1 : t ≤ room) : (t - z) % n = 0 ↔ near n z = t := by
  unfold near
  rcases side_cases h4 h9 with rfl | rfl | rfl | rfl | rfl | rfl <;> omega
theorem turn_back {q a b : Int} (q0 : 0 ≤ q) (q3 : q ≤ 3) : turnX (4 - q) (turnX q a b) (turnY q a b) = a ∧ turnY (4 - q) (turnX q a b) (turnY q a b) = b := by
  rcases quarter_cases q0 q3 with rfl | rfl | rfl | rfl
  · exact ⟨rfl, rfl⟩
  · exact ⟨show a = a from rfl, show - -b = b by omega⟩
  · exact ⟨show - -a = a by omega, show - -b = b by omega⟩
  · exact ⟨show - -a = a by omega, show b = b from rfl⟩
theorem turn_back2 {q a b : Int} (q0 : 0 ≤ q) (q3 : q ≤ 3) : turnX q (turnX (4 - q) a b) (turnY (4 - q) a b) = a ∧ turnY q (turnX (4 - q) a b) (turnY (4 - q) a b) = b := by
  rcases quarter_cases q0 q3 with rfl | rfl | rfl | rfl
  · exact ⟨rfl, rfl⟩
  · exact ⟨show - -a = a by omega, show b = b from rfl⟩
  · exact ⟨show - -a = a by omega, show - -b = b by omega⟩
  · exact ⟨show a = a from rfl, show - -b = b by omega⟩
theorem turn_bd {q a b room : Int} (q0 : 0 ≤ q) (q3 : q ≤ 3) (a0 : -room ≤ a) (a1 : a ≤ room) (b0 : -room ≤ b) (b1 : b ≤ room) : (-room ≤ turnX q a b ∧ turnX q a b ≤ room) ∧ (-room ≤ turnY q a b ∧ turnY q a b ≤ room) := by
  rcases quarter_cases q0 q3 with rfl | rfl | rfl | rfl
  · exact ⟨⟨a0, a1⟩, b0, b1⟩
  · exact ⟨⟨show -room ≤ -b by omega, show -b ≤ room by omega⟩, a0, a1⟩
  · exact ⟨⟨show -room ≤ -a by omega, show -a ≤ room by omega⟩, show -room ≤ -b by omega, show -b ≤ room by omega⟩
  · exact ⟨⟨b0, b1⟩, show -room ≤ -a by omega, show -a ≤ room by omega⟩
theorem off_some {n r b g l x y q sx sy bb u v : Int} (h : offI n [r, b, g, l] [x, y, q] [sx, sy, bb] = some (u, v)) : (-(r + b) ≤ u ∧ u ≤ r + b) ∧ (-(r + b) ≤ v ∧ v ≤ r + b) := by
  unfold offI at h
  simp only at h
  split at h
  · cases h
  · rename_i hh
    cases h
    unfold iabs at hh
    constructor <;> constructor <;> (repeat' split at hh) <;> omega
theorem off_iff {n r b g l x y q sx sy bb dx dy : Int} (h4 : 4 ≤ n) (h9 : n ≤ 9) (hr : 2 * (r + b) + 1 ≤ n) (q0 : 0 ≤ q) (q3 : q ≤ 3) (a0 : -(r + b) ≤ dx) (a1 : dx ≤ r + b) (b0 : -(r + b) ≤ dy) (b1 : dy ≤ r + b) :
    ((x + turnX q dx dy - sx) % n = 0 ∧ (y + turnY q dx dy - sy) % n = 0) ↔ offI n [r, b, g, l] [x, y, q] [sx, sy, bb] = some (dx, dy) := by
  obtain ⟨⟨c0, c1⟩, d0, d1⟩ := turn_bd q0 q3 a0 a1 b0 b1
  rw [show x + turnX q dx dy - sx = turnX q dx dy - (sx - x) by omega, show y + turnY q dx dy - sy = turnY q dx dy - (sy - y) by omega, near_iff h4 h9 hr c0 c1, near_iff h4 h9 hr d0 d1]
  constructor
  · rintro ⟨e1, e2⟩
    unfold offI
    simp only
    rw [e1, e2, (turn_back q0 q3).1, (turn_back q0 q3).2, if_neg]
    unfold iabs
    intro z
    (repeat' split at z) <;> omega
  · intro h
    unfold offI at h
    simp only at h
    split at h
    · cases h
    · have h' := Option.some.inj h
      injection h' with e1 e2
      rw [← e1, ← e2]
      exact ⟨(turn_back2 q0 q3).1.symm, (turn_back2 q0 q3).2.symm⟩
end Sw
namespace Sw
open PySem PySem.Spec PyProof.Rows L2
def PartsAt (K : PySem.W.Frag) (H : Hp) (t : Addr) (n : Int) (ks : Tups) (cam : List Int) : Prop := ∃ l c : Addr, SqT K H t [.int n, .ref l, .ref c] ∧ SqL K H l (refs ks) ∧ TupsAt K H ks ∧ SqT K H c (cam.map V.int)
theorem parts_up {K : PySem.W.Frag} {H H' : Hp} {t : Addr} {n : Int} {ks : Tups} {cam : List Int} (s : Same H H') (h : PartsAt K H t n ks cam) : PartsAt K H' t n ks cam := by
  obtain ⟨l, c, h1, h2, h3, h4⟩ := h
  exact ⟨l, c, sqT_up s h1, s.seq h2, tups_up s h3, sqT_up s h4⟩
/-- the law's own way to an offset -/
def spLOff (K : PySem.W.Frag) : Sp := fun vs H Q _ => ∃ (pp pa ps : Addr) (n : Int) (ks : Tups) (r b g l x y q sx sy bb : Int), vs = [.ref pp, .ref pa, .ref ps] ∧ PartsAt K H pp n ks [r, b, g, l] ∧ 4 ≤ n ∧ n ≤ 9 ∧ isCam n [r, b, g, l] = true ∧ SqT K H pa [.int x, .int y, .int q] ∧ 0 ≤ q ∧ q ≤ 3 ∧ SqT K H ps [.int sx, .int sy, .int bb] ∧
  (offI n [r, b, g, l] [x, y, q] [sx, sy, bb] = none → ∀ H', Same H H' → Q .non H') ∧
  (∀ u v, offI n [r, b, g, l] [x, y, q] [sx, sy, bb] = some (u, v) → ∀ (H' : Hp) (t : Addr), Same H H' → SqT K H' t [.int u, .int v] → Q (.ref t) H')
end Sw
namespace Sw
open PySem PySem.Spec PyProof.Rows L2
/-- is a star within so much, and bright enough -/
def inOne (n : Int) (cam at_ : List Int) (room least : Int) (k : List Int) : Bool :=
  match offI n cam at_ k, k with
  | some (u, v), [_, _, b] => decide (iabs u ≤ room) && decide (iabs v ≤ room) && decide (least ≤ b)
  | _, _ => false
def inI (n : Int) (cam at_ : List Int) (room least : Int) : Nat → List (List Int) → List Int
  | _, [] => []
  | j, k :: r => (if inOne n cam at_ room least k then [(j : Int)] else []) ++ inI n cam at_ room least (j + 1) r
theorem inI_push (n : Int) (cam at_ : List Int) (room least : Int) : ∀ (l : List (List Int)) (j : Nat) (k : List Int), inI n cam at_ room least j (l ++ [k]) = inI n cam at_ room least j l ++ (if inOne n cam at_ room least k then [((j + l.length : Nat) : Int)] else [])
  | [], j, k => by
    show (if inOne n cam at_ room least k then [(j : Int)] else []) ++ [] = [] ++ _
    rw [List.append_nil, List.nil_append]
    rfl
  | x :: r, j, k => by
    show (if inOne n cam at_ room least x then [(j : Int)] else []) ++ inI n cam at_ room least (j + 1) (r ++ [k]) = ((if inOne n cam at_ room least x then [(j : Int)] else []) ++ inI n cam at_ room least (j + 1) r) ++ _
    rw [inI_push n cam at_ room least r (j + 1) k, List.append_assoc, show j + 1 + r.length = j + (x :: r).length by simp only [List.length_cons]; omega]
def spInside (K : PySem.W.Frag) : Sp := fun vs H Q _ => ∃ (pp pa : Addr) (n : Int) (ks : Tups) (cam at_ : List Int) (room least : Int), vs = [.ref pp, .ref pa, .int room, .int least] ∧ PartsAt K H pp n ks cam ∧ isSky n (keys ks) cam = true ∧ SqT K H pa (at_.map V.int) ∧ isPose n at_ = true ∧
  ∀ (H' : Hp) (l : Addr), Same H H' → H' l = some (.lst ((inI n cam at_ room least 0 (keys ks)).map V.int)) → Q (.ref l) H'
end Sw
namespace Sw
open PySem PySem.Spec PyProof.Rows L2
theorem inI_len (n : Int) (cam at_ : List Int) (room least : Int) : ∀ (l : List (List Int)) (j : Nat), (inI n cam at_ room least j l).length ≤ l.length
  | [], _ => Nat.le_refl _
  | k :: r, j => by
    show ((if inOne n cam at_ room least k then [(j : Int)] else []) ++ inI n cam at_ room least (j + 1) r).length ≤ _
    have := inI_len n cam at_ room least r (j + 1)
    rw [List.length_append]
    split <;> simp only [List.length_cons, List.length_nil] <;> omega
end Sw
namespace Sw
open PySem PySem.Spec PyProof.Rows L2
def offD : Option (Int × Int) → PyData
  | some (u, v) => dTI [u, v]
  | none => .none
def toldE (n : Int) (cam at_ : List Int) (kk : List (List Int)) (j : Int) : PyData :=
  if isPose n at_ then (if j < 0 ∨ (kk.length : Int) ≤ j then .tuple [.int 2, .int j] else .tuple [.int 0, offD (offI n cam at_ (kk.getD j.toNat []))]) else .tuple [.int 1, dTI at_]
def spToldE (K : PySem.W.Frag) (C : Addr) : Sp := fun vs H Q _ => ∃ (p pa : Addr) (n : Int) (ks : Tups) (cam at_ : List Int) (j : Int), vs = [.ref p, .ref pa, .int j] ∧ SkyS K C H p n ks cam ∧ isSky n (keys ks) cam = true ∧ SqT K H pa (at_.map V.int) ∧
  ∀ (H' : Hp) (t : Addr), Same H H' → Dp K H' (.ref t) (toldE n cam at_ (keys ks) j) → Q (.ref t) H'
end Sw
set_option Elab.async false
set_option linter.all false
set_option maxRecDepth 100000
set_option maxHeartbeats 4000000
/-! Matchings as plain dicts of integers: ways that make them greater, and when none has more. -/
namespace Sw
open PySem PySem.Spec PyProof.Rows L2
abbrev MM := List (Int × Int)
def lk (m : MM) (k : Int) : Option Int := (m.find? fun z => decide (z.1 = k)).map (·.2)
theorem lk_nil (k : Int) : lk [] k = none := rfl
theorem lk_pos {z : Int × Int} {r : MM} {k : Int} (e : z.1 = k) : lk (z :: r) k = some z.2 := by simp [lk, List.find?_cons, e]
theorem lk_neg {z : Int × Int} {r : MM} {k : Int} (e : ¬ z.1 = k) : lk (z :: r) k = lk r k := by simp [lk, List.find?_cons, e]
theorem lk_some : ∀ {m : MM} {k v : Int}, lk m k = some v → (k, v) ∈ m
  | [], _, _, h => nomatch h
  | z :: r, k, v, h => by
    by_cases e : z.1 = k
    · rw [lk_pos e] at h
      have := Option.some.inj h
      rw [← e, ← this]
      exact List.mem_cons_self
    · rw [lk_neg e] at h
      exact List.mem_cons_of_mem _ (lk_some h)
theorem lk_mem : ∀ {m : MM} {k v : Int}, (m.map (·.1)).Nodup → (k, v) ∈ m → lk m k = some v
  | z :: r, k, v, hn, h => by
    rw [List.map_cons, List.nodup_cons] at hn
    rcases List.mem_cons.mp h with h | h
    · rw [← h]
      exact lk_pos rfl
    · have e : ¬ z.1 = k := fun e => hn.1 (by rw [e]; exact List.mem_map_of_mem (f := fun z : Int × Int => z.1) h)
      rw [lk_neg e]
      exact lk_mem hn.2 h
theorem lk_none {m : MM} {k : Int} (h : lk m k = none) : k ∉ m.map (·.1) := fun hk => by
  obtain ⟨z, hz, rfl⟩ := List.mem_map.mp hk
  have : ∀ {m : MM} {z : Int × Int}, z ∈ m → ∃ v, lk m z.1 = some v := by
    intro m
    induction m with
    | nil => intro z h; cases h
    | cons y r ih =>
      intro z h
      by_cases e : y.1 = z.1
      · exact ⟨_, lk_pos e⟩
      · rw [lk_neg e]
        rcases List.mem_cons.mp h with rfl | h
        · exact absurd rfl e
        · exact ih h
  obtain ⟨v, e⟩ := this hz
  rw [e] at h
  cases h
theorem lk_key {m : MM} {k v : Int} (h : lk m k = some v) : k ∈ m.map (·.1) := List.mem_map_of_mem (f := fun z : Int × Int => z.1) (lk_some h)
theorem lk_keyE {m : MM} {k : Int} (h : k ∈ m.map (·.1)) : ∃ v, lk m k = some v := by
  cases e : lk m k with
  | none => exact absurd h (lk_none e)
  | some v => exact ⟨v, rfl⟩
/-- the dict of it -/
def dI (m : MM) : List (Key × V) := m.map fun z => (Sum.inl z.1, V.int z.2)
theorem dI_len (m : MM) : (dI m).length = m.length := List.length_map ..
theorem inl_inj {i j : Int} (h : (Sum.inl i : Key) = Sum.inl j) : i = j := Sum.inl.inj h
theorem val_dI : ∀ (m : MM) (k : Int), valV (dI m) (.inl k) = (lk m k).map V.int
  | [], _ => rfl
  | z :: r, k => by
    by_cases e : z.1 = k
    · rw [lk_pos e]
      exact valV_pos (p := (Sum.inl z.1, V.int z.2)) (congrArg Sum.inl e)
    · rw [lk_neg e, ← val_dI r k]
      exact valV_neg (p := (Sum.inl z.1, V.int z.2)) (fun h => e (inl_inj h))
def putI (m : MM) (k v : Int) : MM := if (m.any fun z => decide (z.1 = k)) = true then m.map (fun z => if z.1 = k then (z.1, v) else z) else m ++ [(k, v)]
theorem any_dI (m : MM) (k : Int) : ((dI m).any fun kv => decide (kv.1 = (Sum.inl k : Key))) = (m.any fun z => decide (z.1 = k)) := by
  unfold dI
  rw [List.any_map]
  congr 1
  funext z
  by_cases e : z.1 = k
  · rw [decide_eq_true e]
    exact decide_eq_true (congrArg Sum.inl e)
  · rw [decide_eq_false e]
    exact decide_eq_false fun h => e (inl_inj h)
theorem put_dI (m : MM) (k v : Int) : putK (dI m) (.inl k) (.int v) = dI (putI m k v) := by
  unfold putK putI
  rw [any_dI]
  split
  · unfold dI
    rw [List.map_map, List.map_map]
    apply List.map_congr_left
    intro z _
    show (if (Sum.inl z.1 : Key) = Sum.inl k then _ else _) = _
    by_cases e : z.1 = k
    · rw [if_pos (congrArg Sum.inl e)]
      show _ = (Sum.inl (if z.1 = k then (z.1, v) else z).1, V.int (if z.1 = k then (z.1, v) else z).2)
      rw [if_pos e]
    · rw [if_neg (fun h => e (inl_inj h))]
      show _ = (Sum.inl (if z.1 = k then (z.1, v) else z).1, V.int (if z.1 = k then (z.1, v) else z).2)
      rw [if_neg e]
  · unfold dI
    rw [List.map_append]
    rfl
theorem mapInt_inj {a b : Option Int} (h : a.map V.int = b.map V.int) : a = b := by
  cases a <;> cases b <;> simp_all
theorem lk_put (m : MM) (k v j : Int) : lk (putI m k v) j = if j = k then some v else lk m j := by
  apply mapInt_inj
  rw [← val_dI, ← put_dI, valV_put, val_dI]
  by_cases e : j = k
  · rw [if_pos (congrArg Sum.inl e), if_pos e]
    rfl
  · rw [if_neg (fun h => e (inl_inj h)), if_neg e]
theorem put_keys (m : MM) (k v : Int) : (putI m k v).map (·.1) = if k ∈ m.map (·.1) then m.map (·.1) else m.map (·.1) ++ [k] := by
  unfold putI
  have e : (m.any fun z => decide (z.1 = k)) = true ↔ k ∈ m.map (·.1) := by
    rw [List.any_eq_true, List.mem_map]
    constructor
    · rintro ⟨z, hz, e⟩
      exact ⟨z, hz, of_decide_eq_true e⟩
    · rintro ⟨z, hz, e⟩
      exact ⟨z, hz, decide_eq_true e⟩
  by_cases h : k ∈ m.map (·.1)
  · rw [if_pos (e.mpr h), if_pos h, List.map_map]
    apply List.map_congr_left
    intro z _
    show (if z.1 = k then (z.1, v) else z).1 = z.1
    split <;> rfl
  · rw [if_neg (fun z => h (e.mp z)), if_neg h, List.map_append]
    rfl
theorem put_nodup {m : MM} {k v : Int} (h : (m.map (·.1)).Nodup) : ((putI m k v).map (·.1)).Nodup := by
  rw [put_keys]
  split
  · exact h
  · exact nodup_push h (by assumption)
theorem put_key {m : MM} {k v j : Int} : j ∈ (putI m k v).map (·.1) ↔ j = k ∨ j ∈ m.map (·.1) := by
  rw [put_keys]
  split
  · constructor
    · exact .inr
    · rintro (rfl | h)
      · assumption
      · exact h
  · rw [List.mem_append, List.mem_singleton]
    exact Or.comm
theorem put_new_m {m : MM} {k v : Int} (h : lk m k = none) : putI m k v = m ++ [(k, v)] := by
  unfold putI
  rw [if_neg]
  intro e
  obtain ⟨z, hz, e⟩ := List.any_eq_true.mp e
  exact lk_none h (by rw [← of_decide_eq_true e]; exact List.mem_map_of_mem (f := fun z : Int × Int => z.1) hz)
def dropI (m : MM) (k : Int) : MM := m.filter fun z => decide (z.1 ≠ k)
theorem drop_dI (m : MM) (k : Int) : dropK (dI m) (.inl k) = dI (dropI m k) := by
  unfold dropK dropI dI
  rw [List.filter_map]
  congr 1
  apply List.filter_congr
  intro z _
  show decide ((Sum.inl z.1 : Key) ≠ Sum.inl k) = decide (z.1 ≠ k)
  by_cases e : z.1 = k
  · exact (decide_eq_false (p := (Sum.inl z.1 : Key) ≠ Sum.inl k) (fun h => h (congrArg Sum.inl e))).trans (decide_eq_false (p := z.1 ≠ k) (fun h => h e)).symm
  · exact (decide_eq_true (p := (Sum.inl z.1 : Key) ≠ Sum.inl k) (fun h => e (inl_inj h))).trans (decide_eq_true (p := z.1 ≠ k) e).symm
theorem drop_nodup {m : MM} {k : Int} (h : (m.map (·.1)).Nodup) : ((dropI m k).map (·.1)).Nodup := List.Nodup.sublist (List.Sublist.map _ List.filter_sublist) h
theorem lk_drop : ∀ (m : MM) (k j : Int), lk (dropI m k) j = if j = k then none else lk m j
  | [], k, j => by split <;> rfl
  | z :: r, k, j => by
    unfold dropI
    by_cases e : z.1 = k
    · rw [List.filter_cons_of_neg (p := fun z : Int × Int => decide (z.1 ≠ k)) (by rw [decide_eq_false (p := z.1 ≠ k) (fun h => h e)]; decide)]
      show lk (dropI r k) j = _
      rw [lk_drop r k j]
      by_cases ej : j = k
      · rw [if_pos ej, if_pos ej]
      · rw [if_neg ej, if_neg ej, lk_neg (fun h => ej (h.symm.trans e))]
    · rw [List.filter_cons_of_pos (p := fun z : Int × Int => decide (z.1 ≠ k)) (decide_eq_true (p := z.1 ≠ k) e)]
      by_cases ez : z.1 = j
      · rw [lk_pos ez, if_neg (fun h => e (ez.trans h)), lk_pos ez]
      · rw [lk_neg ez]
        show lk (dropI r k) j = _
        rw [lk_drop r k j, lk_neg ez]
/-! ### matchings -/
structure Mt (P : Int → List Int) (m : MM) : Prop where
  nd : (m.map (·.1)).Nodup
  ed : ∀ k v, lk m k = some v → v ∈ P k
  inj : ∀ k j v, lk m k = some v → lk m j = some v → k = j
/-- the partners of these rows are held by them -/
def Shut (P : Int → List Int) (m : MM) (Z : List Int) : Prop := ∀ z ∈ Z, ∀ c ∈ P z, ∃ z' ∈ Z, lk m z' = some c
def has (m : MM) (k : Int) : Bool := (lk m k).isSome
theorem has_some {m : MM} {k : Int} (h : has m k = true) : ∃ v, lk m k = some v := Option.isSome_iff_exists.mp h
theorem split_len (l : List Int) (p q : Int → Bool) : (l.filter p).length = (l.filter fun x => p x && q x).length + (l.filter fun x => p x && !q x).length := by
  induction l with
  | nil => rfl
  | cons x r ih =>
    rw [List.filter_cons, List.filter_cons, List.filter_cons]
    cases p x <;> cases q x <;> simp [ih] <;> omega
theorem filter_le (l : List Int) (p q : Int → Bool) (h : ∀ x ∈ l, p x = true → q x = true) : (l.filter p).length ≤ (l.filter q).length := by
  induction l with
  | nil => exact Nat.le_refl _
  | cons x r ih =>
    have h1 := ih fun y hy => h y (List.mem_cons_of_mem _ hy)
    have h2 := h x List.mem_cons_self
    rw [List.filter_cons, List.filter_cons]
    cases hp : p x with
    | false => cases q x <;> simp at * <;> omega
    | true => rw [h2 hp]; simpa using h1
theorem map_nodup_of {l : List Int} {f : Int → Int} (hn : l.Nodup) (h : ∀ x ∈ l, ∀ y ∈ l, f x = f y → x = y) : (l.map f).Nodup := by
  induction l with
  | nil => exact List.nodup_nil
  | cons x r ih =>
    rw [List.nodup_cons] at hn
    rw [List.map_cons, List.nodup_cons]
    refine ⟨fun hm => ?_, ih hn.2 fun a ha b hb => h a (List.mem_cons_of_mem _ ha) b (List.mem_cons_of_mem _ hb)⟩
    obtain ⟨y, hy, e⟩ := List.mem_map.mp hm
    exact hn.1 (by rw [h x List.mem_cons_self y (List.mem_cons_of_mem _ hy) e.symm]; exact hy)
/-- none has more of the wanted rows -/
theorem best {P : Int → List Int} {m m' : MM} {Z W : List Int} (hW : W.Nodup) (hm : Mt P m) (hZ : Shut P m Z) (hZW : ∀ z ∈ Z, z ∈ W) (hF : ∀ r ∈ W, lk m r = none → r ∈ Z) (h' : Mt P m') :
    (W.filter (has m')).length ≤ (W.filter (has m)).length := by
  rw [split_len W (has m') (fun x => decide (x ∈ Z)), split_len W (has m) (fun x => decide (x ∈ Z))]
  refine Nat.add_le_add ?_ (filter_le _ _ _ fun x hx hp => ?_)
  · have hA : ∀ x ∈ W.filter (fun x => has m' x && decide (x ∈ Z)), (∃ v, lk m' x = some v) ∧ x ∈ Z := fun x hx => by
      obtain ⟨_, h⟩ := List.mem_filter.mp hx
      rw [Bool.and_eq_true] at h
      exact ⟨has_some h.1, of_decide_eq_true h.2⟩
    have n1 : ((W.filter fun x => has m' x && decide (x ∈ Z)).map fun x => (lk m' x).getD 0).Nodup := map_nodup_of (hW.filter _) fun x hx y hy e => by
      obtain ⟨⟨u, hu⟩, _⟩ := hA x hx
      obtain ⟨⟨v, hv⟩, _⟩ := hA y hy
      rw [hu, hv] at e
      have e' : u = v := e
      exact h'.inj x y u hu (by rw [e']; exact hv)
    have := len_le_of_sub n1 (m := (W.filter fun x => has m x && decide (x ∈ Z)).map fun x => (lk m x).getD 0) fun c hc => by
      obtain ⟨x, hx, rfl⟩ := List.mem_map.mp hc
      obtain ⟨⟨u, hu⟩, hxZ⟩ := hA x hx
      rw [hu]
      obtain ⟨z', hz', e⟩ := hZ x hxZ u (h'.ed _ _ hu)
      refine List.mem_map.mpr ⟨z', List.mem_filter.mpr ⟨hZW z' hz', ?_⟩, by rw [e]⟩
      rw [Bool.and_eq_true]
      exact ⟨by unfold has; rw [e]; rfl, decide_eq_true hz'⟩
    rw [List.length_map, List.length_map] at this
    exact this
  · rw [Bool.and_eq_true] at hp ⊢
    refine ⟨?_, hp.2⟩
    have hz : ¬ x ∈ Z := fun h => by rw [decide_eq_true h] at hp; exact nomatch hp.2
    unfold has
    cases e : lk m x with
    | none => exact absurd (hF x hx e) hz
    | some v => rfl
/-! ### ways -/
def Ch (m : MM) : MM → Prop
  | [] => True
  | [_] => True
  | x :: y :: r => lk m x.1 = some y.2 ∧ Ch m (y :: r)
/-- a way: its last step is that of the row which has no column yet -/
structure Way (P : Int → List Int) (m : MM) (start : Int) (p : MM) : Prop where
  ch : Ch m p
  ed : ∀ x ∈ p, x.2 ∈ P x.1
  cn : (p.map (·.2)).Nodup
  last : ∃ q c, p = q ++ [(start, c)]
  free : lk m start = none
theorem ch_tail {m : MM} {x : Int × Int} {r : MM} (h : Ch m (x :: r)) : Ch m r := by
  cases r with
  | nil => trivial
  | cons y r => exact h.2
/-- what a step's row holds: nothing, or the column of a later step -/
theorem ch_next {m : MM} {start : Int} : ∀ {p : MM}, Ch m p → (∃ q c, p = q ++ [(start, c)]) → ∀ x ∈ p, x.1 = start ∨ ∃ y ∈ p.tail, lk m x.1 = some y.2
  | [], _, ⟨q, c, e⟩, _, _ => by cases q <;> cases e
  | [x], _, ⟨q, c, e⟩, y, hy => by
    rw [List.mem_singleton.mp hy]
    cases q with
    | nil => rw [List.nil_append] at e; injection e with e _; left; rw [e]
    | cons a q => cases q <;> cases e
  | x :: y :: r, h, ⟨q, c, e⟩, z, hz => by
    rcases List.mem_cons.mp hz with rfl | hz
    · exact .inr ⟨y, List.mem_cons_self, h.1⟩
    · cases q with
      | nil => cases e
      | cons a q =>
        injection e with _ e
        rcases ch_next h.2 ⟨q, c, e⟩ z hz with h' | ⟨w, hw, h'⟩
        · exact .inl h'
        · exact .inr ⟨w, List.mem_cons_of_mem _ hw, h'⟩
theorem Way.tn {P : Int → List Int} {m : MM} {start : Int} {p : MM} (h : Way P m start p) : (p.map (·.1)).Nodup := by
  obtain ⟨ch, ed, cn, last, free⟩ := h
  induction p with
  | nil => exact List.nodup_nil
  | cons x r ih =>
    cases r with
    | nil => simp
    | cons y r =>
      obtain ⟨q, c, e⟩ := last
      cases q with
      | nil => cases e
      | cons a q =>
        injection e with _ e
        rw [List.map_cons, List.nodup_cons] at cn
        rw [List.map_cons, List.nodup_cons]
        refine ⟨fun hm => ?_, ih ch.2 (fun z hz => ed z (List.mem_cons_of_mem _ hz)) cn.2 ⟨q, c, e⟩⟩
        obtain ⟨z, hz, ez⟩ := List.mem_map.mp hm
        have h1 := ch.1
        rw [← ez] at h1
        rcases ch_next ch.2 ⟨q, c, e⟩ z hz with h' | ⟨w, hw, h'⟩
        · rw [h', free] at h1
          cases h1
        · rw [h'] at h1
          have ew : w.2 = y.2 := Option.some.inj h1
          have cn2 := cn.2
          rw [List.map_cons, List.nodup_cons] at cn2
          exact cn2.1 (by rw [← ew]; exact List.mem_map_of_mem (f := fun z : Int × Int => z.2) hw)
def swp (p : MM) : MM := p.map fun x => (x.2, x.1)
def appI (m p : MM) : MM := p.foldl (fun m x => putI m x.1 x.2) m
theorem lk_app : ∀ (p m : MM) (k : Int), (p.map (·.1)).Nodup → lk (appI m p) k = match lk p k with | some c => some c | none => lk m k
  | [], m, k, _ => rfl
  | x :: r, m, k, hn => by
    rw [List.map_cons, List.nodup_cons] at hn
    show lk (appI (putI m x.1 x.2) r) k = _
    rw [lk_app r _ k hn.2, lk_put]
    by_cases e : x.1 = k
    · have : lk r k = none := by
        cases h : lk r k with
        | none => rfl
        | some v => exact absurd (by rw [e]; exact lk_key h) hn.1
      rw [this, lk_pos e, if_pos e.symm]
    · rw [lk_neg e, if_neg (fun h => e h.symm)]
theorem app_nodup : ∀ (p : MM) {m : MM}, (m.map (·.1)).Nodup → ((appI m p).map (·.1)).Nodup
  | [], _, h => h
  | _ :: r, _, h => app_nodup r (put_nodup h)
theorem app_key : ∀ (p m : MM) (j : Int), j ∈ (appI m p).map (·.1) ↔ j ∈ p.map (·.1) ∨ j ∈ m.map (·.1)
  | [], m, j => by simp [appI]
  | x :: r, m, j => by
    show j ∈ (appI (putI m x.1 x.2) r).map (·.1) ↔ _
    rw [app_key r _ j, put_key, List.map_cons, List.mem_cons]
    constructor
    · rintro (h | h | h)
      · exact .inl (.inr h)
      · exact .inl (.inl h)
      · exact .inr h
    · rintro ((h | h) | h)
      · exact .inr (.inl h)
      · exact .inl h
      · exact .inr (.inr h)
/-- owners of columns -/
def Own (m o : MM) : Prop := ∀ r c, lk o c = some r ↔ lk m r = some c
/-- the matching behind a way -/
def cutM (m o : MM) : MM → MM
  | [] => m
  | x :: _ => match lk o x.2 with | some r => dropI m r | none => m
theorem cut_lk {m o : MM} (hO : Own m o) (x : Int × Int) (p : MM) (k : Int) : lk (cutM m o (x :: p)) k = if lk m k = some x.2 then none else lk m k := by
  show lk (match lk o x.2 with | some r => dropI m r | none => m) k = _
  cases e : lk o x.2 with
  | none =>
    show lk m k = _
    rw [if_neg]
    intro h
    rw [(hO k x.2).mpr h] at e
    cases e
  | some r =>
    show lk (dropI m r) k = _
    rw [lk_drop]
    have er := (hO r x.2).mp e
    by_cases ek : k = r
    · rw [if_pos ek, ek, if_pos er]
    · rw [if_neg ek, if_neg]
      intro h
      have := (hO k x.2).mpr h
      rw [e] at this
      exact ek (Option.some.inj this).symm
theorem swp_keys (p : MM) : (swp p).map (·.1) = p.map (·.2) := by
  unfold swp
  rw [List.map_map]
  rfl
theorem mem_swp {p : MM} {t c : Int} : (c, t) ∈ swp p ↔ (t, c) ∈ p := by
  unfold swp
  constructor
  · intro h
    obtain ⟨x, hx, e⟩ := List.mem_map.mp h
    injection e with e1 e2
    rw [← e1, ← e2]
    exact hx
  · intro h
    exact List.mem_map.mpr ⟨_, h, rfl⟩
/-- a step's column is owned by no one, or by the one ahead, or it is the first -/
theorem ch_prev {m : MM} : ∀ {x : Int × Int} {p : MM}, Ch m (x :: p) → ∀ y ∈ x :: p, y = x ∨ ∃ z ∈ x :: p, lk m z.1 = some y.2
  | x, [], _, y, hy => .inl (List.mem_singleton.mp hy)
  | x, w :: p, h, y, hy => by
    rcases List.mem_cons.mp hy with rfl | hy
    · exact .inl rfl
    · rcases ch_prev h.2 y hy with rfl | ⟨z, hz, e⟩
      · exact .inr ⟨x, List.mem_cons_self, h.1⟩
      · exact .inr ⟨z, List.mem_cons_of_mem _ hz, e⟩
structure Step (P : Int → List Int) (W : List Int) (m o : MM) (start : Int) (x : Int × Int) (p : MM) : Prop where
  mt : Mt P m
  own : Own m o
  on : (o.map (·.1)).Nodup
  way : Way P m start (x :: p)
  out : ∀ r, lk o x.2 = some r → r ∉ W
section
variable {P : Int → List Int} {W : List Int} {m o : MM} {start : Int} {x : Int × Int} {p : MM}
theorem Step.m1 (h : Step P W m o start x p) (k : Int) : lk (appI (cutM m o (x :: p)) (x :: p)) k = match lk (x :: p) k with | some c => some c | none => if lk m k = some x.2 then none else lk m k := by
  rw [lk_app _ _ _ h.way.tn, cut_lk h.own]
theorem Step.o1 (h : Step P W m o start x p) (c : Int) : lk (appI o (swp (x :: p))) c = match lk (swp (x :: p)) c with | some t => some t | none => lk o c := by
  rw [lk_app _ _ _ (by rw [swp_keys]; exact h.way.cn)]
theorem Step.in_p (h : Step P W m o start x p) {t c : Int} : lk (x :: p) t = some c ↔ (t, c) ∈ x :: p := ⟨lk_some, lk_mem h.way.tn⟩
theorem Step.in_s (h : Step P W m o start x p) {t c : Int} : lk (swp (x :: p)) c = some t ↔ (t, c) ∈ x :: p := ⟨fun e => mem_swp.mp (lk_some e), fun e => lk_mem (by rw [swp_keys]; exact h.way.cn) (mem_swp.mpr e)⟩
theorem Step.own' (h : Step P W m o start x p) : Own (appI (cutM m o (x :: p)) (x :: p)) (appI o (swp (x :: p))) := fun r c => by
  rw [h.m1, h.o1]
  cases e1 : lk (swp (x :: p)) c with
  | some t =>
    have ht := h.in_s.mp e1
    show some t = some r ↔ _
    constructor
    · intro e
      rw [← Option.some.inj e, h.in_p.mpr ht]
    · intro e
      cases e2 : lk (x :: p) r with
      | some c' =>
        rw [e2] at e
        have e3 : c' = c := Option.some.inj e
        rw [e3] at e2
        have := h.in_s.mpr (h.in_p.mp e2)
        rw [e1] at this
        exact this
      | none =>
        rw [e2] at e
        have e' : (if lk m r = some x.2 then none else lk m r) = some c := e
        split at e'
        · cases e'
        · rename_i hne
          rcases ch_prev h.way.ch _ ht with hx | ⟨z, hz, ez⟩
          · rw [← hx] at hne
            exact absurd e' hne
          · have := h.mt.inj _ _ _ ez e'
            rw [← this, h.in_p.mpr hz] at e2
            cases e2
  | none =>
    show lk o c = some r ↔ _
    rw [h.own r c]
    constructor
    · intro e
      have hnp : lk (x :: p) r = none := by
        cases e2 : lk (x :: p) r with
        | none => rfl
        | some c' =>
          rcases ch_next h.way.ch h.way.last _ (h.in_p.mp e2) with hs | ⟨y, hy, ey⟩
          · have hs' : r = start := hs
            rw [hs', h.way.free] at e
            cases e
          · have ey' : lk m r = some y.2 := ey
            rw [e] at ey'
            have hy' := h.in_s.mpr (show (y.1, y.2) ∈ x :: p from List.mem_cons_of_mem _ hy)
            rw [← Option.some.inj ey', e1] at hy'
            cases hy'
      rw [hnp]
      show (if lk m r = some x.2 then none else lk m r) = some c
      rw [if_neg]
      · exact e
      · intro e2
        rw [e] at e2
        have := h.in_s.mpr (show (x.1, x.2) ∈ x :: p from List.mem_cons_self)
        rw [← Option.some.inj e2, e1] at this
        cases this
    · intro e
      cases e2 : lk (x :: p) r with
      | some c' =>
        rw [e2] at e
        have e3 : c' = c := Option.some.inj e
        rw [e3] at e2
        rw [h.in_s.mpr (h.in_p.mp e2)] at e1
        cases e1
      | none =>
        rw [e2] at e
        have e' : (if lk m r = some x.2 then none else lk m r) = some c := e
        split at e'
        · cases e'
        · exact e'
theorem Step.mt' (h : Step P W m o start x p) : Mt P (appI (cutM m o (x :: p)) (x :: p)) := by
  refine ⟨app_nodup _ ?_, fun k v e => ?_, fun k j v e1 e2 => ?_⟩
  · show ((match lk o x.2 with | some r => dropI m r | none => m).map (fun z : Int × Int => z.1)).Nodup
    split
    · exact drop_nodup h.mt.nd
    · exact h.mt.nd
  · rw [h.m1] at e
    cases e2 : lk (x :: p) k with
    | some c =>
      rw [e2] at e
      rw [← Option.some.inj e]
      exact h.way.ed _ (h.in_p.mp e2)
    | none =>
      rw [e2] at e
      have e' : (if lk m k = some x.2 then none else lk m k) = some v := e
      split at e'
      · cases e'
      · exact h.mt.ed _ _ e'
  · have a := (h.own' k v).mpr e1
    have b := (h.own' j v).mpr e2
    rw [a] at b
    exact Option.some.inj b
theorem Step.start' (h : Step P W m o start x p) : ∃ c, lk (appI (cutM m o (x :: p)) (x :: p)) start = some c := by
  obtain ⟨q, c, e⟩ := h.way.last
  refine ⟨c, ?_⟩
  rw [h.m1, h.in_p.mpr (show (start, c) ∈ x :: p by rw [e]; simp)]
/-- columns stay -/
theorem Step.cols (h : Step P W m o start x p) {r c : Int} (e : lk m r = some c) : ∃ r', lk (appI (cutM m o (x :: p)) (x :: p)) r' = some c := by
  have := (h.own r c).mpr e
  cases e1 : lk (swp (x :: p)) c with
  | some t => exact ⟨t, by rw [h.m1, h.in_p.mpr (h.in_s.mp e1)]⟩
  | none => exact ⟨r, (h.own' r c).mp (by rw [h.o1, e1]; exact this)⟩
/-- wanted rows stay -/
theorem Step.rows (h : Step P W m o start x p) {r c : Int} (hr : r ∈ W) (e : lk m r = some c) : ∃ c', lk (appI (cutM m o (x :: p)) (x :: p)) r = some c' := by
  rw [h.m1]
  cases e2 : lk (x :: p) r with
  | some c' => exact ⟨c', rfl⟩
  | none =>
    refine ⟨c, ?_⟩
    show (if lk m r = some x.2 then none else lk m r) = some c
    rw [if_neg, e]
    intro e3
    exact h.out r ((h.own r x.2).mpr e3) hr
theorem Step.only (h : Step P W m o start x p) {r c : Int} (e : lk (appI (cutM m o (x :: p)) (x :: p)) r = some c) : r = start ∨ ∃ c', lk m r = some c' := by
  rw [h.m1] at e
  cases e2 : lk (x :: p) r with
  | some c' =>
    rcases ch_next h.way.ch h.way.last _ (h.in_p.mp e2) with hs | ⟨y, _, ey⟩
    · exact .inl hs
    · exact .inr ⟨_, ey⟩
  | none =>
    rw [e2] at e
    have e' : (if lk m r = some x.2 then none else lk m r) = some c := e
    split at e'
    · cases e'
    · exact .inr ⟨_, e'⟩
/-- a way does not come near rows that hold all their partners -/
theorem way_off {m : MM} {Z : List Int} (hi : ∀ k j v, lk m k = some v → lk m j = some v → k = j) (hZ : Shut P m Z) : ∀ {x : Int × Int} {p : MM}, Ch m (x :: p) → (∀ y ∈ x :: p, y.2 ∈ P y.1) → (∀ r, lk m r = some x.2 → r ∉ Z) → ∀ y ∈ x :: p, y.1 ∉ Z
  | x, [], _, ed, out, y, hy => by
    rw [List.mem_singleton.mp hy]
    intro hz
    obtain ⟨z', hz', e⟩ := hZ _ hz _ (ed x List.mem_cons_self)
    exact out z' e hz'
  | x, w :: p, ch, ed, out, y, hy => by
    have hx : x.1 ∉ Z := fun hz => by
      obtain ⟨z', hz', e⟩ := hZ _ hz _ (ed x List.mem_cons_self)
      exact out z' e hz'
    rcases List.mem_cons.mp hy with rfl | hy
    · exact hx
    · refine way_off hi hZ ch.2 (fun z hz => ed z (List.mem_cons_of_mem _ hz)) (fun r e => ?_) y hy
      rw [hi _ _ _ e ch.1]
      exact hx
theorem Step.shut (h : Step P W m o start x p) {Z : List Int} (hZ : Shut P m Z) (hZW : ∀ z ∈ Z, z ∈ W) : Shut P (appI (cutM m o (x :: p)) (x :: p)) Z := fun z hz c hc => by
  obtain ⟨z', hz', e⟩ := hZ z hz c hc
  refine ⟨z', hz', ?_⟩
  have off := way_off h.mt.inj hZ h.way.ch h.way.ed (fun r e hr => h.out r ((h.own r x.2).mpr e) (hZW r hr))
  rw [h.m1]
  have hn : lk (x :: p) z' = none := by
    cases e2 : lk (x :: p) z' with
    | none => rfl
    | some c' => exact absurd hz' (off _ (h.in_p.mp e2))
  rw [hn]
  show (if lk m z' = some x.2 then none else lk m z') = some c
  rw [if_neg, e]
  intro e3
  exact h.out z' ((h.own z' x.2).mpr e3) (hZW z' hz')
end
end Sw
set_option Elab.async false
set_option linter.all false
set_option maxRecDepth 100000
set_option maxHeartbeats 4000000
/-! Dicts: a comprehension that is assigned, one over a walk; pop of a key that may be None; a written True or False. -/
namespace L2
open PySem PySem.Spec PyProof.Rows
section
variable {X : Cx}
theorem ps_setDc {i : Nat} {y : Str} {py : Pos} {kx vx tg iter : Expr} {ifs : List Expr} {scope : Scope} {own : List (Str × Nat)} {pos spos : Pos} {wi : TI} {g : TG} {tt : TT} {tk tv : TE} (hc : X.calm = true) (hN : X.N.Nodup) (hy : X.N[i]? = some y) (hyl : X.env.scope.names.lookup y = some .local)
    (hsw : swapsWith (.DictComp kx vx [⟨tg, iter, ifs, 0⟩] scope pos) (some (.Name y py)) spos.line X.env = pure true) (hi : PI X tg iter wi) (ok : BlkOk X.N X.env.scope scope own)
    (hg : ∀ (s : Shared) (H : Hp) (C : Addr) (cl : List (Str × Addr)) (fp : List Addr), PG (X.blk s H scope (compEnvC scope cl C X.env) fp) tg g)
    (ht : ∀ (s : Shared) (H : Hp) (C : Addr) (cl : List (Str × Addr)) (fp : List Addr), PTs (X.blk s H scope (compEnvC scope cl C X.env) fp) ifs tt)
    (hk : ∀ (s : Shared) (H : Hp) (C : Addr) (cl : List (Str × Addr)) (fp : List Addr), PE (X.blk s H scope (compEnvC scope cl C X.env) fp) kx tk) (he : ∀ (s : Shared) (H : Hp) (C : Addr) (cl : List (Str × Addr)) (fp : List Addr), PE (X.blk s H scope (compEnvC scope cl C X.env) fp) vx tv)
    (hs : ∀ x, foldedSetIterable iter X.env x = pure x := by intro _; rfl) :
    PS X (.Assign [.Name y py] (.DictComp kx vx [⟨tg, iter, ifs, 0⟩] scope pos) spos) (tAsg (tDc wi g tt tk tv (own.map (·.2))) (gName i)) := by
  refine ⟨fun pins s σ H D I h => (exec_Assign_Name_used _ _ _ _ hsw).symm ▸ wpAny_bind (wpAny_standAt (wpAny_bind ?_))⟩
  show wpAny _ X.A (do let _ ← comprehension (.DictComp kx vx [⟨tg, iter, ifs, 0⟩] scope pos) scope X.env (firstIterPos [⟨tg, iter, ifs, 0⟩] pos) newDict false (eval iter X.env) (some (assign (.Name y py) X.env))) _ _ s
  have h' : tDc wi g tt tk tv (own.map (·.2)) σ H (fun x H1 => gName i x σ H1 D.nx) := h
  refine wpAny_bind (thn (dc_core (Qf := fun _ s' => SP X pins D .next s') hc hN I hi ok hg ht hk he hs h' fun L C s' m H' I' q hn f => ?_) fun _ s' hq => wpAny_pure (wpAny_pure hq))
  obtain ⟨f0, f1, f2, f3, f4, f5⟩ := f
  show wpAny _ _ (assign (.Name y py) X.env (.ref L)) _ _ _
  refine wpAny_assign_Name ((store_ok2 (v := V.ref L) I' hN hy (.inl hyl) rfl (fun s2 I2 ⟨a, sb, ha⟩ => ⟨m, hn.sameBut sb ?_, fun h3 sb3 => ⟨_, H', I2.turned (t' := s2.toks) (fun b o hb e => (sb3.2 b hb).trans e) f0 f1 f3 f4 f5, q⟩⟩) (.inr hyl)))
  rcases ha with z | z
  · exact fun e => f1 (e.trans z)
  · exact fun e => f4 y a z e.symm
theorem sw_trueD {kx vx : Expr} {gs : List Comprehension} {scope : Scope} {pos py : Pos} {y : Str} {l : Nat} {env : Env} (hk : env.scope.kind = .function) (hy : env.scope.names.lookup y = some .local) (hl : (py.line == pos.line) = true)
    (ha : (scope.names.any fun (n, k) => n == y && (k == .local || k == .cell)) = false) : swapsWith (.DictComp kx vx gs scope pos) (some (.Name y py)) l env = pure true := by
  unfold swapsWith
  simp only [show env.blockKind = .function by unfold Env.blockKind; rw [hk]; rfl, show env.kindOf y = some .local from hy, ha, Expr.pos, hl]
  rfl
/-- a dict comprehension over any walk -/
theorem dc_it {J : It} {n : Nat} {G : Hp → Prop} {Y : Nat → Hp → V → Hp → Prop} (w : Walk J n G Y) {g : TG} {tt : TT} {tk tv : TE} {vs : List Nat} {σ : St} {H1 : Hp} {D : Addr} {Qd : Hp → Prop} (Pv : Nat → Hp → Prop) (h0 : Pv 0 (upd H1 D (.dK []))) (hG : ∀ i H, i ≤ n → Pv i H → G H)
    (hs : ∀ i x H H', i < n → Pv i H → Y i H x H' → g x (wipe σ vs) H' fun σ2 H2 => wipe σ2 vs = wipe σ vs ∧ tt σ2 H2 fun b H3 =>
      if b = true then tk σ2 H3 fun y H4 => tv σ2 H4 fun z H5 => ∃ kvs k, y = kV k ∧ H5 D = some (.dK kvs) ∧ kvs.length < sizeLine ∧ Pv (i + 1) (upd H5 D (.dK (putK kvs k z))) else Pv (i + 1) H3) (hd : ∀ H, Pv n H → Qd H) :
    ∃ W : Nat → Nat → Hp → Prop, (∃ m, W 0 m (upd H1 D (.dK []))) ∧ ∀ i m H, W i m H →
      (J.stop i H ∧ Qd H) ∨ (J.go i H ∧ ∃ Nx : Hp → Prop, (∀ H', Nx H' → ∃ m', m' < m ∧ W (i + 1) m' H') ∧ ∀ x H', J.yld i H x H' → g x (wipe σ vs) H' fun σ2 H2 => wipe σ2 vs = wipe σ vs ∧ tt σ2 H2 fun b H3 =>
        if b = true then tk σ2 H3 fun y H4 => tv σ2 H4 fun z H5 => ∃ kvs k, y = kV k ∧ H5 D = some (.dK kvs) ∧ kvs.length < sizeLine ∧ Nx (upd H5 D (.dK (putK kvs k z))) else Nx H3) := by
  refine ⟨fun i m H => m + i = n ∧ Pv i H, ⟨n, Nat.add_zero n, h0⟩, ?_⟩
  rintro i m H ⟨hm, p⟩
  have q := hG i H (by omega) p
  cases m with
  | zero =>
    obtain rfl : i = n := by omega
    exact .inl ⟨w.stops H q, hd H p⟩
  | succ m =>
    have hlt : i < n := by omega
    exact .inr ⟨w.goes i H hlt q, Pv (i + 1), fun H' p' => ⟨m, Nat.lt_succ_self m, by omega, p'⟩, fun x H' y => hs i x H H' hlt p (w.yields i H x H' hlt q y)⟩
end
/-! ### d.pop(k, x), k an integer or a text or None -/
theorem pairs_none {P : Program} {w : World} : ∀ {es : List DictEntry} {vs : List (Key × Value)}, Pairs (mixKind P w) es vs → Pairs (noneKind P w) es (vs.map fun kv => (some kv.1, kv.2))
  | _, _, .nil => .nil
  | _, _, .cons h1 h2 r => .cons h1 h2 (pairs_none r)
theorem dict_none {P : Program} {w : World} {h : Heap} {a : Addr} {vs : List (Key × Value)} (d : h.DictOf (mixKind P w) a vs) : ∃ vs', h.DictOf (noneKind P w) a vs' ∧ valueAt vs' none = none := by
  obtain ⟨o, es, ep, ho, hx, hdt, hk, hp, hn⟩ := d
  refine ⟨_, ⟨o, es, ep, ho, hx, hdt, fun e he => ?_, pairs_none hp, ?_⟩, ?_⟩
  · obtain ⟨k, h1, h2⟩ := hk e he
    exact ⟨some k, h1, h2⟩
  · rw [List.map_map]
    have : (vs.map fun kv => (some kv.1 : Option Key)) = (vs.map (·.1)).map some := by rw [List.map_map]; rfl
    show (vs.map fun kv => (some kv.1 : Option Key)).Nodup
    rw [this]
    exact List.Pairwise.map _ (fun a b hab e => hab (Option.some.inj e)) hn
  · unfold valueAt
    rw [List.find?_map, Option.map_map]
    have : vs.find? ((fun kv : Option Key × Value => decide (kv.1 = none)) ∘ fun kv => (some kv.1, kv.2)) = none := by
      rw [List.find?_eq_none]
      intro x _
      show ¬ decide ((some x.1 : Option Key) = none) = true
      rw [decide_eq_false (fun z => nomatch z)]
      decide
    rw [this]
    rfl
section
variable {X : Cx} {o e f : Expr} {td ty tx : TE} {apos cpos : Pos}
def tDPopN (td ty tx : TE) : TE := fun σ H Q => td σ H fun x H1 => ∃ a, x = .ref a ∧ IsD H1 a ∧ ty σ H1 fun y H2 => tx σ H2 fun z H3 => ∃ kvs, H3 a = some (.dK kvs) ∧
  ((y = .non ∧ Q z H3) ∨ ∃ k, y = kV k ∧ (∀ v, valV kvs k = some v → Q v (upd H3 a (.dK (dropK kvs k)))) ∧ (valV kvs k = none → Q z H3))
theorem pe_dpopN (ho : PE X o td) (he : PE X e ty) (hf : PE X f tx) (m : M2 X o "pop" apos e f cpos) : PE X (.Call (.Attribute o "pop" apos) [e, f] [] cpos) (tDPopN td ty tx) := by
  refine ⟨fun pins s σ H Q I h => wpAny_Call_method m.base m.few m.line PySem.F.plainAttrs_dict PySem.F.slot_dict_pop PySem.F.type_dict_pop (thn (ho.run pins s σ H _ I h) fun u s1 ⟨x, H1, I1, rx, a, ex, d, q1⟩ => ?_)⟩
  obtain ⟨rfl, rfl⟩ : x = V.ref a ∧ u = Value.ref a := ⟨ex, by rw [ex] at rx; exact rx⟩
  obtain ⟨t1, t2, _⟩ := isD_at I1 d
  refine ⟨t1, t2, m.trees.symm ▸ Calls.callWith_builtin rfl (Calls.evalArgs_plain (Calls.spliced_cons (thn (he.run pins s1 σ H1 _ I1 q1) fun iv s2 ⟨y, H2, I2, ry, q2⟩ =>
    (Calls.spliced_cons (thn (hf.run pins s2 σ H2 _ I2 q2) fun fv s3 ⟨z, H3, I3, rz, kvs, ea, q3⟩ => (Calls.spliced_nil ?_))))))⟩
  rcases q3 with ⟨rfl, q3⟩ | ⟨k, rfl, q3, q4⟩
  · obtain rfl : iv = Value.none := ry
    obtain ⟨hz, hd, vs, rel, dd⟩ := dk_of I3.hok ea
    obtain ⟨vs', dd', hn⟩ := dict_none dd
    exact call_meetsIn PySem.F.slot_dict_pop dd.typeIs PySem.F.entry_dict_pop (PySem.F.args_dict_pop_3 _ _ _) (meets_dict_pop_default (noneKind X.prog X.w) (k := none) a rfl hd rfl fv) ⟨vs', dd', hn, ⟨z, H3, I3.tok _, rz, q3⟩⟩
  · cases l : valV kvs k with
    | some v => exact d_pop I3 ea ry l (.inr ⟨fv, rfl⟩) fun w' s4 I4 rw' => ⟨v, _, I4, rw', q3 v l⟩
    | none => exact d_popD I3 ea ry l fun s4 I4 => ⟨z, H3, I4, rz, q4 l⟩
end
end L2
namespace L2
open PySem PySem.Spec PyProof.Rows
/-! rules whose reading names K itself, for comprehensions -/
theorem ix_seqK {X : Cx} {K : PySem.W.Frag} (h : X.K = K := by rfl) : IxR X (rIx K) := h ▸ ix_seq
theorem op_in_seqK {X : Cx} {K : PySem.W.Frag} (h : X.K = K := by rfl) : OpR X (compareOp .In) (rIn K false) := h ▸ op_in_seq
theorem op_notIn_seqK {X : Cx} {K : PySem.W.Frag} (h : X.K = K := by rfl) : OpR X (compareOp .NotIn) (rIn K true) := h ▸ op_notIn_seq
theorem call_len_seqK {X : Cx} {K : PySem.W.Frag} (h : X.K = K := by rfl) : CallR X (.builtin "len") (fun xs H Q => ∃ p ys, xs = [.ref p] ∧ (SqL K H p ys ∨ SqT K H p ys) ∧ Q (.int ys.length) H) := h ▸ call_len_seq
end L2
set_option Elab.async false
set_option linter.all false
set_option maxRecDepth 100000
set_option maxHeartbeats 4000000
/-! A search for ways, step by step; promises of what makes matchings. -/
namespace Sw
open PySem PySem.Spec PyProof.Rows L2
/-- which row came to a column, in the sequence in which they came -/
def Tk (P : Int → List Int) (m : MM) (start : Int) (ts : MM) : Prop := ∀ (j : Nat) (c r : Int), ts[j]? = some (c, r) → c ∈ P r ∧ (r = start ∨ ∃ i : Nat, i < j ∧ ∃ c' r' : Int, ts[i]? = some (c', r') ∧ lk m r = some c')
def ChE (m : MM) : MM → Option Int → Prop
  | [], _ => True
  | [x], col => lk m x.1 = col
  | x :: y :: r, col => lk m x.1 = some y.2 ∧ ChE m (y :: r) col
theorem chE_ch {m : MM} : ∀ {p : MM} {col : Option Int}, ChE m p col → Ch m p
  | [], _, _ => trivial
  | [_], _, _ => trivial
  | _ :: y :: r, _, h => ⟨h.1, chE_ch (p := y :: r) h.2⟩
theorem chE_push {m : MM} {t c : Int} : ∀ {p : MM}, ChE m p (some c) → ChE m (p ++ [(t, c)]) (lk m t)
  | [], _ => rfl
  | [x], h => ⟨h, rfl⟩
  | x :: y :: r, h => ⟨h.1, chE_push (p := y :: r) h.2⟩
theorem chE_last {m : MM} : ∀ {p : MM} {col : Option Int}, p ≠ [] → ChE m p col → ∃ q x, p = q ++ [x] ∧ lk m x.1 = col
  | [], _, h, _ => absurd rfl h
  | [x], _, _, h => ⟨[], x, rfl, h⟩
  | x :: y :: r, _, _, h => by
    obtain ⟨q, z, e, hz⟩ := chE_last (p := y :: r) (fun e => nomatch e) h.2
    exact ⟨x :: q, z, by rw [e]; rfl, hz⟩
theorem getElem_keys {ts : MM} {i j : Nat} {c r r' : Int} (hn : (ts.map (·.1)).Nodup) (h1 : ts[i]? = some (c, r)) (h2 : ts[j]? = some (c, r')) : i = j := by
  obtain ⟨hi, e1⟩ := List.getElem?_eq_some_iff.mp h1
  obtain ⟨hj, e2⟩ := List.getElem?_eq_some_iff.mp h2
  have go : ∀ {i j : Nat} (hi : i < ts.length) (hj : j < ts.length), ts[i].1 = ts[j].1 → ¬ i < j := fun {i j} hi hj e hij => by
    refine List.pairwise_iff_getElem.mp hn i j (by rw [List.length_map]; exact hi) (by rw [List.length_map]; exact hj) hij ?_
    rw [List.getElem_map, List.getElem_map]
    exact e
  have a1 := go hi hj (by rw [e1, e2])
  have a2 := go hj hi (by rw [e1, e2])
  omega
/-- on the way back -/
structure Trc (P : Int → List Int) (m : MM) (start last : Int) (ts acc : MM) (col : Option Int) : Prop where
  ed : ∀ x ∈ acc, x.2 ∈ P x.1
  cn : (acc.map (·.2)).Nodup
  ch : ChE m acc col
  mem : ∀ x ∈ acc, ∃ i : Nat, ts[i]? = some (x.2, x.1)
  idx : ∀ c, col = some c → ∃ (j : Nat) (r : Int), ts[j]? = some (c, r) ∧ ∀ x ∈ acc, ∃ i : Nat, ts[i]? = some (x.2, x.1) ∧ j < i
  head : (acc = [] ∧ col = some last) ∨ ∃ t p, acc = (t, last) :: p
theorem Trc.step {P : Int → List Int} {m : MM} {start last c : Int} {ts acc : MM} (hT : Tk P m start ts) (hn : (ts.map (·.1)).Nodup) (hs : lk m start = none) (h : Trc P m start last ts acc (some c)) :
    ∃ (r : Int) (j : Nat), lk ts c = some r ∧ ts[j]? = some (c, r) ∧ Trc P m start last ts (acc ++ [(r, c)]) (lk m r) ∧ ∀ c', lk m r = some c' → ∃ (i : Nat) (r' : Int), ts[i]? = some (c', r') ∧ i < j := by
  obtain ⟨j, r, hj, hacc⟩ := h.idx c rfl
  obtain ⟨he, hr⟩ := hT j c r hj
  have below : ∀ c', lk m r = some c' → ∃ (i : Nat) (r' : Int), ts[i]? = some (c', r') ∧ i < j := fun c' e => by
    rcases hr with rfl | ⟨i, hi, c'', r', e1, e2⟩
    · rw [hs] at e
      cases e
    · rw [e] at e2
      rw [← Option.some.inj e2] at e1
      exact ⟨i, r', e1, hi⟩
  refine ⟨r, j, lk_mem hn (List.mem_of_getElem? hj), hj, ⟨fun x hx => ?_, ?_, chE_push h.ch, fun x hx => ?_, fun c' e => ?_, ?_⟩, below⟩
  · rcases List.mem_append.mp hx with hx | hx
    · exact h.ed x hx
    · rw [List.mem_singleton.mp hx]
      exact he
  · rw [List.map_append]
    refine nodup_push h.cn fun hm => ?_
    obtain ⟨x, hx, e⟩ := List.mem_map.mp hm
    obtain ⟨i, hi, hij⟩ := hacc x hx
    rw [e] at hi
    have := getElem_keys hn hi hj
    omega
  · rcases List.mem_append.mp hx with hx | hx
    · exact h.mem x hx
    · rw [List.mem_singleton.mp hx]
      exact ⟨j, hj⟩
  · obtain ⟨i, r', e1, hi⟩ := below c' e
    refine ⟨i, r', e1, fun x hx => ?_⟩
    rcases List.mem_append.mp hx with hx | hx
    · obtain ⟨k, hk, hjk⟩ := hacc x hx
      exact ⟨k, hk, by omega⟩
    · rw [List.mem_singleton.mp hx]
      exact ⟨j, hj, hi⟩
  · rcases h.head with ⟨h1, h2⟩ | ⟨t, p, h1⟩
    · rw [h1, ← Option.some.inj h2]
      exact .inr ⟨r, [], rfl⟩
    · rw [h1]
      exact .inr ⟨t, p ++ [(r, c)], rfl⟩
theorem Trc.done {P : Int → List Int} {m : MM} {start last : Int} {ts acc : MM} (hT : Tk P m start ts) (hs : lk m start = none) (h : Trc P m start last ts acc none) : ∃ t p, acc = (t, last) :: p ∧ Way P m start ((t, last) :: p) := by
  rcases h.head with ⟨_, h2⟩ | ⟨t, p, h1⟩
  · cases h2
  · refine ⟨t, p, h1, ?_⟩
    rw [← h1]
    refine ⟨chE_ch h.ch, h.ed, h.cn, ?_, hs⟩
    obtain ⟨q, x, e, hx⟩ := chE_last (by rw [h1]; exact fun z => nomatch z) h.ch
    obtain ⟨i, hi⟩ := h.mem x (by rw [e]; simp)
    rcases (hT i _ _ hi).2 with hr | ⟨_, _, c', _, _, e2⟩
    · exact ⟨q, x.2, by rw [e, ← hr]⟩
    · rw [hx] at e2
      cases e2
/-! ### the search -/
structure Bf (P : Int → List Int) (W : List Int) (m o : MM) (start : Int) (ts : MM) (qs : List Int) : Prop where
  tk : Tk P m start ts
  nd : (ts.map (·.1)).Nodup
  qe : qs = start :: ts.map fun z => (lk o z.1).getD 0
  ow : ∀ z ∈ ts, ∃ r, lk o z.1 = some r ∧ r ∈ W
  lo : ∀ z ∈ ts, 0 ≤ z.1 ∧ z.1 < 1000
theorem Bf.len {P : Int → List Int} {W : List Int} {m o : MM} {start : Int} {ts : MM} {qs : List Int} (h : Bf P W m o start ts qs) : ts.length ≤ 1000 ∧ qs.length = ts.length + 1 := by
  refine ⟨?_, by rw [h.qe, List.length_cons, List.length_map]⟩
  have n1 : ((ts.map (·.1)).map Int.toNat).Nodup := by
    rw [List.Nodup, List.pairwise_map]
    refine h.nd.imp_of_mem fun {a b} ha hb hab e => hab ?_
    obtain ⟨z, hz, rfl⟩ := List.mem_map.mp ha
    obtain ⟨y, hy, rfl⟩ := List.mem_map.mp hb
    have := h.lo z hz
    have := h.lo y hy
    omega
  have := nodup_below 1000 _ n1 fun x hx => by
    obtain ⟨a, ha, rfl⟩ := List.mem_map.mp hx
    obtain ⟨z, hz, rfl⟩ := List.mem_map.mp ha
    have := h.lo z hz
    omega
  rw [List.length_map, List.length_map] at this
  exact this
theorem tk_push {P : Int → List Int} {W : List Int} {m o : MM} {start : Int} {ts : MM} {qs : List Int} (h : Bf P W m o start ts qs) (hO : Own m o) {i : Nat} {row c : Int} (hi : qs[i]? = some row) (hc : c ∈ P row) : Tk P m start (ts ++ [(c, row)]) := fun j c' r e => by
  by_cases hj : j < ts.length
  · rw [List.getElem?_append_left hj] at e
    obtain ⟨e1, e2⟩ := h.tk j c' r e
    refine ⟨e1, e2.imp_right fun ⟨k, hk, c'', r', e3, e4⟩ => ⟨k, hk, c'', r', by rw [List.getElem?_append_left (by omega)]; exact e3, e4⟩⟩
  · rw [List.getElem?_append_right (by omega)] at e
    have hj0 : j - ts.length = 0 := by
      cases hk : j - ts.length with
      | zero => rfl
      | succ k => rw [hk] at e; cases e
    rw [hj0] at e
    have e' : (c, row) = (c', r) := Option.some.inj e
    injection e' with e1 e2
    rw [← e1, ← e2]
    refine ⟨hc, ?_⟩
    rw [h.qe] at hi
    cases i with
    | zero => exact .inl (Option.some.inj hi).symm
    | succ i =>
      rw [List.getElem?_cons_succ, List.getElem?_map] at hi
      cases ez : ts[i]? with
      | none => rw [ez] at hi; cases hi
      | some z =>
        rw [ez] at hi
        obtain ⟨r', h1, _⟩ := h.ow z (List.mem_of_getElem? ez)
        have h2 : (lk o z.1).getD 0 = row := Option.some.inj hi
        rw [h1] at h2
        have h3 : r' = row := h2
        have hl := (List.getElem?_eq_some_iff.mp ez).1
        refine .inr ⟨i, by omega, z.1, z.2, by rw [List.getElem?_append_left hl]; exact ez, (hO row z.1).mp (by rw [← h3]; exact h1)⟩
theorem Bf.push {P : Int → List Int} {W : List Int} {m o : MM} {start : Int} {ts : MM} {qs : List Int} (h : Bf P W m o start ts qs) (hO : Own m o) {i : Nat} {row c r : Int} (hi : qs[i]? = some row) (hc : c ∈ P row) (hl : 0 ≤ c ∧ c < 1000) (hn : lk ts c = none) (ho : lk o c = some r) (hr : r ∈ W) :
    Bf P W m o start (ts ++ [(c, row)]) (qs ++ [r]) := by
  refine ⟨tk_push h hO hi hc, ?_, ?_, fun z hz => ?_, fun z hz => ?_⟩
  · rw [List.map_append]
    exact nodup_push h.nd (lk_none hn)
  · rw [h.qe, List.map_append, List.cons_append, List.map_cons, List.map_nil, ho]
    rfl
  · rcases List.mem_append.mp hz with hz | hz
    · exact h.ow z hz
    · rw [List.mem_singleton.mp hz]
      exact ⟨r, ho, hr⟩
  · rcases List.mem_append.mp hz with hz | hz
    · exact h.lo z hz
    · rw [List.mem_singleton.mp hz]
      exact hl
/-- nothing is left to look at -/
theorem Bf.shut {P : Int → List Int} {W : List Int} {m o : MM} {start : Int} {ts : MM} {qs : List Int} (h : Bf P W m o start ts qs) (hO : Own m o) (hs : start ∈ W) (hd : ∀ (i : Nat) (row : Int), qs[i]? = some row → ∀ c ∈ P row, c ∈ ts.map (·.1)) :
    Shut P m qs ∧ start ∈ qs ∧ ∀ z ∈ qs, z ∈ W := by
  refine ⟨fun z hz c hc => ?_, by rw [h.qe]; exact List.mem_cons_self, fun z hz => ?_⟩
  · obtain ⟨i, hi⟩ := List.getElem?_of_mem hz
    obtain ⟨y, hy, rfl⟩ := List.mem_map.mp (hd i z hi c hc)
    obtain ⟨r, h1, h2⟩ := h.ow y hy
    refine ⟨r, ?_, (hO r y.1).mp h1⟩
    rw [h.qe]
    refine List.mem_cons_of_mem _ (List.mem_map.mpr ⟨y, hy, ?_⟩)
    rw [h1]
    rfl
  · rw [h.qe] at hz
    rcases List.mem_cons.mp hz with rfl | hz
    · exact hs
    · obtain ⟨y, hy, rfl⟩ := List.mem_map.mp hz
      obtain ⟨r, h1, h2⟩ := h.ow y hy
      rw [h1]
      exact h2
/-! ### promises -/
abbrev Prts := List (Int × Addr × List Int)
def prt (ps : Prts) (r : Int) : List Int := match ps.find? fun z => decide (z.1 = r) with
  | some z => z.2.2
  | none => []
def PrtAt (K : PySem.W.Frag) (H : Hp) (pd : Addr) (ps : Prts) : Prop := H pd = some (.dK (shownK ps)) ∧ ∀ z ∈ ps, SqL K H z.2.1 (z.2.2.map V.int)
theorem prtAt_up {K : PySem.W.Frag} {H H' : Hp} {pd : Addr} {ps : Prts} (s : Same H H') (h : PrtAt K H pd ps) : PrtAt K H' pd ps := ⟨s _ _ h.1, fun z hz => s.seq (h.2 z hz)⟩
def Small (ps : Prts) : Prop := ∀ z ∈ ps, (∀ c ∈ z.2.2, 0 ≤ c ∧ c < 1000) ∧ z.2.2.length ≤ 1000
theorem prt_small {ps : Prts} (h : Small ps) (r : Int) : (∀ c ∈ prt ps r, 0 ≤ c ∧ c < 1000) ∧ (prt ps r).length ≤ 1000 := by
  unfold prt
  cases e : ps.find? fun z => decide (z.1 = r) with
  | none => exact ⟨fun c hc => (nomatch hc), Nat.zero_le _⟩
  | some z => exact h z (List.mem_of_find?_eq_some e)
theorem val_shown (ps : Prts) (r : Int) : valV (shownK ps) (.inl r) = (ps.find? fun z => decide (z.1 = r)).map fun z => V.ref z.2.1 := by
  unfold valV shownK
  rw [List.find?_map, Option.map_map]
  congr 1
  congr 1
  funext z
  show decide ((Sum.inl z.1 : Key) = Sum.inl r) = decide (z.1 = r)
  by_cases e : z.1 = r
  · rw [decide_eq_true e]
    exact decide_eq_true (congrArg Sum.inl e)
  · rw [decide_eq_false e]
    exact decide_eq_false fun h => e (inl_inj h)
/-- what get(row, []) tells -/
theorem prt_get {K : PySem.W.Frag} {H : Hp} {pd e : Addr} {ps : Prts} (h : PrtAt K H pd ps) (he : H e = some (.lst [])) (r : Int) : ∃ q, (valV (shownK ps) (.inl r)).getD (.ref e) = .ref q ∧ SqL K H q ((prt ps r).map V.int) := by
  rw [val_shown]
  unfold prt
  cases ez : ps.find? fun z => decide (z.1 = r) with
  | none => exact ⟨e, rfl, .inl (.inl he)⟩
  | some z => exact ⟨z.2.1, rfl, h.2 z (List.mem_of_find?_eq_some ez)⟩
def dW (W : List Int) : List (Key × V) := W.map fun r => (Sum.inl r, V.bl true)
theorem val_dW (W : List Int) (r : Int) : (valV (dW W) (.inl r)).isSome = decide (r ∈ W) := by
  induction W with
  | nil => rfl
  | cons x t ih =>
    by_cases e : x = r
    · rw [show valV (dW (x :: t)) (.inl r) = some (.bl true) from valV_pos (p := (Sum.inl x, V.bl true)) (congrArg Sum.inl e), decide_eq_true (by rw [e]; exact List.mem_cons_self)]
      rfl
    · rw [show valV (dW (x :: t)) (.inl r) = valV (dW t) (.inl r) from valV_neg (p := (Sum.inl x, V.bl true)) (fun h => e (inl_inj h)), ih]
      by_cases hm : r ∈ t
      · rw [decide_eq_true hm, decide_eq_true (List.mem_cons_of_mem _ hm)]
      · rw [decide_eq_false hm, decide_eq_false (fun z => (List.mem_cons.mp z).elim (fun q => e q.symm) hm)]
def steps2 (p : MM) : List (List Int) := p.map fun x => [x.1, x.2]
def spTraced (K : PySem.W.Frag) : Sp := fun vs H Q _ => ∃ (dm dt : Addr) (m ts : MM) (P : Int → List Int) (start last : Int), vs = [.ref dm, .ref dt, .int last] ∧ H dm = some (.dK (dI m)) ∧ H dt = some (.dK (dI ts)) ∧ Tk P m start ts ∧ (ts.map (·.1)).Nodup ∧ lk m start = none ∧ last ∈ ts.map (·.1) ∧ ts.length ≤ 2000 ∧
  ∀ (H' : Hp) (l : Addr) (ks : Tups) (t : Int) (p : MM), Same H H' → H l = none → H' l = some (.lst (refs ks)) → TupsAt K H' ks → keys ks = steps2 ((t, last) :: p) → Way P m start ((t, last) :: p) → Q (.ref l) H'
def spSteps (K : PySem.W.Frag) : Sp := fun vs H Q _ => ∃ (pd dm do' ds : Addr) (ps : Prts) (m o : MM) (W : List Int) (start : Int), vs = [.ref pd, .ref dm, .ref do', .ref ds, .int start] ∧ PrtAt K H pd ps ∧ Small ps ∧ H dm = some (.dK (dI m)) ∧ H do' = some (.dK (dI o)) ∧ H ds = some (.dK (dW W)) ∧
  Mt (prt ps) m ∧ Own m o ∧ (o.map (·.1)).Nodup ∧ lk m start = none ∧ start ∈ W ∧
  (∀ (H' : Hp) (l : Addr) (R : List Int), Same H H' → H l = none → H' l = some (.lst []) → Shut (prt ps) m R → start ∈ R → (∀ z ∈ R, z ∈ W) → Q (.ref l) H') ∧
  (∀ (H' : Hp) (l : Addr) (ks : Tups) (x : Int × Int) (p : MM), Same H H' → H l = none → H' l = some (.lst (refs ks)) → TupsAt K H' ks → keys ks = steps2 (x :: p) → Step (prt ps) W m o start x p → Q (.ref l) H')
end Sw
namespace Sw
open PySem PySem.Spec PyProof.Rows L2
theorem get_dI {H : Hp} {a : Addr} {m : MM} {k : Int} {v : Option Int} (h : H a = some (.dK (dI m))) (e : lk m k = v) : DGet H a (.int k) (v.map V.int) := by
  have z : DGet H a (.int k) (valV (dI m) (.inl k)) := DGet.k (k := .inl k) h
  rw [val_dI, e] at z
  exact z
theorem get_dI1 {H : Hp} {a : Addr} {m : MM} {k v : Int} (h : H a = some (.dK (dI m))) (e : lk m k = some v) : DGet H a (.int k) (some (.int v)) := get_dI h e
theorem isD_of {H : Hp} {a : Addr} {kvs : List (Key × V)} (h : H a = some (.dK kvs)) : IsD H a := .inl ⟨_, .inl h⟩
theorem optV_map (o : Option Int) : (o.map V.int).getD .non = optV o := by cases o <;> rfl
def qOf (ps : Prts) (r : Int) (e : Addr) : Addr := match ps.find? fun z => decide (z.1 = r) with
  | some z => z.2.1
  | none => e
theorem qOf_eq (ps : Prts) (r : Int) (e : Addr) : (valV (shownK ps) (.inl r)).getD (.ref e) = .ref (qOf ps r e) := by
  rw [val_shown]
  unfold qOf
  cases ps.find? fun z => decide (z.1 = r) <;> rfl
theorem qOf_at {K : PySem.W.Frag} {H : Hp} {pd e : Addr} {ps : Prts} (h : PrtAt K H pd ps) (he : H e = some (.lst [])) (r : Int) : SqL K H (qOf ps r e) ((prt ps r).map V.int) := by
  unfold qOf prt
  cases ez : ps.find? fun z => decide (z.1 = r) with
  | none => exact .inl (.inl he)
  | some z => exact h.2 z (List.mem_of_find?_eq_some ez)
end Sw
namespace Sw
open PySem PySem.Spec PyProof.Rows L2
theorem same_unlock {H H2 : Hp} {d : Addr} {od : Obj} {u : HO} (hd : H d = some u) (S : Same (upd H d (.frz od u)) H2) : Same H (upd H2 d u) := fun q x e => by
  by_cases hq : q = d
  · subst hq
    rw [upd_same, ← hd]
    exact e
  · rw [upd_ne hq]
    exact S q x (by rw [upd_ne hq]; exact e)
theorem new_lock {H : Hp} {d D : Addr} {od : Obj} {u : HO} (nD : (upd H d (.frz od u)) D = none) : H D = none ∧ D ≠ d := by
  have hD : D ≠ d := fun e => by rw [e, upd_same] at nD; cases nD
  rw [upd_ne hD] at nD
  exact ⟨nD, hD⟩
theorem take_put {m : MM} {i : Nat} {r v : Int} (hn : (m.map (·.1)).Nodup) (hi : m[i]? = some (r, v)) : putI (m.take i) r v = m.take (i + 1) := by
  have e : m.take (i + 1) = m.take i ++ [(r, v)] := by rw [List.take_add_one, hi]; rfl
  rw [e]
  refine put_new_m ?_
  have n1 : ((m.take (i + 1)).map (·.1)).Nodup := List.Nodup.sublist (List.Sublist.map _ (List.take_sublist _ _)) hn
  rw [e, List.map_append, List.nodup_append] at n1
  cases el : lk (m.take i) r with
  | none => rfl
  | some v' => exact absurd rfl (n1.2.2 r (lk_key el) r (by simp))
theorem Mt.cn {P : Int → List Int} {m : MM} (h : Mt P m) : (m.map (·.2)).Nodup := by
  have hp := List.pairwise_map.mp h.nd
  refine List.pairwise_map.mpr (hp.imp_of_mem fun {x y} hx hy hxy e => hxy ?_)
  exact h.inj _ _ x.2 (lk_mem h.nd hx) (by rw [e]; exact lk_mem h.nd hy)
theorem own_swp {P : Int → List Int} {m : MM} (h : Mt P m) : Own m (swp m) := fun r c => by
  constructor
  · intro e
    exact lk_mem h.nd (mem_swp.mp (lk_some e))
  · intro e
    exact lk_mem (by rw [swp_keys]; exact h.cn) (mem_swp.mpr (lk_some e))
theorem own_len {m o : MM} (hn : (o.map (·.1)).Nodup) (h : Own m o) : o.length ≤ m.length := by
  have := len_le_of_sub hn (m := m.map (·.2)) fun c hc => by
    obtain ⟨r, e⟩ := lk_keyE hc
    exact List.mem_map.mpr ⟨_, lk_some ((h r c).mp e), rfl⟩
  rw [List.length_map, List.length_map] at this
  exact this
theorem mt_len {P : Int → List Int} {m m0 : MM} {W : List Int} (h : Mt P m) (ho : ∀ r c, lk m r = some c → r ∈ W ∨ ∃ c', lk m0 r = some c') : m.length ≤ W.length + m0.length := by
  have := len_le_of_sub h.nd (m := W ++ m0.map (·.1)) fun r hr => by
    obtain ⟨c, e⟩ := lk_keyE hr
    rcases ho r c e with h | ⟨c', h⟩
    · exact List.mem_append_left _ h
    · exact List.mem_append_right _ (lk_key h)
  rw [List.length_map, List.length_append, List.length_map] at this
  exact this
theorem app_push (m p : MM) (x : Int × Int) : appI m (p ++ [x]) = putI (appI m p) x.1 x.2 := by
  unfold appI
  rw [List.foldl_append]
  rfl
theorem putI_len (m : MM) (k v : Int) : (putI m k v).length ≤ m.length + 1 := by
  unfold putI
  split
  · rw [List.length_map]; omega
  · rw [List.length_append]; exact Nat.le_refl _
theorem appI_len : ∀ (p m : MM), (appI m p).length ≤ m.length + p.length
  | [], m => Nat.le_refl _
  | x :: r, m => by
    have h1 := appI_len r (putI m x.1 x.2)
    have h2 := putI_len m x.1 x.2
    show (appI (putI m x.1 x.2) r).length ≤ _
    rw [List.length_cons]
    omega
/-- what is left of a search for all wanted rows -/
structure More (P : Int → List Int) (W : List Int) (m0 g : MM) : Prop where
  mt : Mt P g
  cols : ∀ r c, lk m0 r = some c → ∃ r', lk g r' = some c
  rows : ∀ r c, r ∈ W → lk m0 r = some c → ∃ c', lk g r = some c'
  only : ∀ r c, lk g r = some c → r ∈ W ∨ ∃ c', lk m0 r = some c'
def spMore (K : PySem.W.Frag) : Sp := fun vs H Q _ => ∃ (pd wl dm : Addr) (ps : Prts) (W : List Int) (m0 : MM), vs = [.ref pd, .ref wl, .ref dm] ∧ PrtAt K H pd ps ∧ Small ps ∧ SqL K H wl (W.map V.int) ∧ W.Nodup ∧ W.length ≤ 1000 ∧ H dm = some (.dK (dI m0)) ∧ Mt (prt ps) m0 ∧ m0.length ≤ 1000 ∧
  ∀ (H' : Hp) (l : Addr) (g : MM) (Z : List Int), Same H H' → H l = none → H' l = some (.dK (dI g)) → More (prt ps) W m0 g → Shut (prt ps) g Z → (∀ z ∈ Z, z ∈ W) → (∀ r ∈ W, lk g r = none → r ∈ Z) → Q (.ref l) H'
end Sw
set_option Elab.async false
set_option linter.all false
set_option maxRecDepth 100000
set_option maxHeartbeats 4000000
/-! sorted(x), x a list or a tuple of tuples of integers of any size. -/
namespace Sw
open PySem PySem.Spec PyProof.Rows PyProof.Rows.G L2
/-- one tuple is below another one -/
def ltI : List Int → List Int → Bool
  | [], [] => false
  | [], _ :: _ => true
  | _ :: _, [] => false
  | x :: r, y :: q => decide (x < y) || (decide (x = y) && ltI r q)
theorem ltI_key : ∀ a b : List Int, (listOrd itemOrd).blt (a.map Sum.inl) (b.map Sum.inl) = ltI a b
  | [], [] => rfl
  | [], _ :: _ => rfl
  | _ :: _, [] => rfl
  | x :: r, y :: q => by
    show lexLt itemOrd (Sum.inl x :: r.map Sum.inl) (Sum.inl y :: q.map Sum.inl) = (decide (x < y) || (decide (x = y) && ltI r q))
    have ih : lexLt itemOrd (r.map Sum.inl) (q.map Sum.inl) = ltI r q := ltI_key r q
    by_cases h : x = y
    · subst h
      rw [lex_self, ih, decide_eq_true (rfl : x = x), decide_eq_false (Int.lt_irrefl x), Bool.false_or, Bool.true_and]
    · rw [lex_diff (fun e => h (Sum.inl.inj e)), decide_eq_false h, Bool.false_and, Bool.or_false]
      rfl
theorem ltI_total : ∀ a b : List Int, ltI a b = false → ltI b a = false → a = b
  | [], [], _, _ => rfl
  | [], _ :: _, h, _ => nomatch h
  | _ :: _, [], _, h => nomatch h
  | x :: r, y :: q, h1, h2 => by
    have h1' : (decide (x < y) || (decide (x = y) && ltI r q)) = false := h1
    have h2' : (decide (y < x) || (decide (y = x) && ltI q r)) = false := h2
    rw [Bool.or_eq_false_iff] at h1' h2'
    have a1 := of_decide_eq_false h1'.1
    have a2 := of_decide_eq_false h2'.1
    obtain rfl : x = y := by omega
    have b1 := h1'.2
    have b2 := h2'.2
    rw [decide_eq_true (rfl : x = x), Bool.true_and] at b1 b2
    rw [ltI_total r q b1 b2]
/-- tuples in their order, of any lengths -/
def AscL (l : List (List Int)) : Prop := l.Pairwise fun a b => ltI b a = false
theorem ascL_unique {l m : List (List Int)} (hl : AscL l) (hm : AscL m) (hp : l.Perm m) : l = m :=
  List.Perm.eq_of_pairwise (le := fun a b => ltI b a = false) (fun a b _ _ h1 h2 => (ltI_total b a h1 h2).symm) hl hm hp
/-- what a sorting tells of its values -/
theorem key_of {h : Heap} {v : Value} {ns : List Int} (x : TS.TupInts h v ns) : tupKeyC h (fun _ => false) v = some (ns.map Sum.inl) := by
  obtain ⟨t, its, rfl, ⟨o, h1, h2, n, h3⟩, hi⟩ := x
  have e : ∀ {vs : List Value} {ns : List Int} (i : Nat), IntsAre vs ns → tupItems (fun _ => false) i vs = some (ns.map Sum.inl) := by
    intro vs ns i q
    induction q generalizing i with
    | nil => rfl
    | cons k tk q ih =>
      show ((tupItems (fun _ => false) (i + 1) _).map (Sum.inl k :: ·)) = _
      rw [ih (i + 1)]
      rfl
  unfold tupKeyC isTupObj tupKey
  simp only [h1, h2, h3]
  exact e 0 hi
theorem tups_first {h : Heap} : ∀ {vs : List Value}, (∀ v ∈ vs, ∃ k ns, TS.TupInts h v (k :: ns)) → ∃ fs, TupsOf h (fun _ => false) vs fs
  | [], _ => ⟨[], .nil⟩
  | v :: r, q => by
    obtain ⟨fs, hf⟩ := tups_first fun x hx => q x (List.mem_cons_of_mem _ hx)
    obtain ⟨k, ns, t, its, e, ⟨o, h1, h2, n, h3⟩, hi⟩ := q v List.mem_cons_self
    cases hh : its.toList with
    | nil => rw [hh] at hi; cases hi
    | cons f w =>
      rw [hh] at hi
      cases hi with
      | cons _ tk _ => exact ⟨.int k tk :: fs, .cons ⟨t, o, its, n, e, h1, h2, h3, by rw [← Array.getElem?_toList, hh]; rfl, fun _ => ⟨k, tk, rfl⟩, fun z => nomatch z⟩ hf⟩
section
variable {prog : Program} {w : World} {A : Around} {E : Value → Shared → Prop} {s : Shared}
theorem sorted_any {l : Addr} {T : String} {o : Obj} {vs : List Value} {n : Nat} {key : Value → List Int} {Q : Value → Shared → Prop} (hT : T = "list" ∨ T = "tuple") (ho : s.heap.get? l = some o) (hc : o.cls = .type T) (hd : o.data = .seq vs.toArray n)
    (hk : ∀ v ∈ vs, TS.TupInts s.heap v (key v) ∧ key v ≠ []) (hL : vs.length ≤ sizeLine)
    (h : ∀ (out : Array Value) (h2 : Heap) (p : Addr), (∀ b x, s.heap.get? b = some x → h2.get? b = some x) → s.heap.get? p = none → (∃ ep, h2.get? p = some (seqObj "list" out ep)) → out.toList.Perm vs → out.toList.Pairwise (fun u v => ltI (key v) (key u) = false) → Q (.ref p) { s with heap := h2 }) :
    wpAny (model prog w) A (call (.builtin "sorted") [.ref l]) Q E s := by
  refine Calls.call_function_entry PyProof.Rows.kind_sorted PyProof.Rows.plain_sorted PyProof.Rows.entry_sorted (PyProof.Rows.args_sorted1 (.ref l)) ?_
  unfold Builtin.«sorted»
  refine wpAny_bind (m := checkCount "sorted" 1 1 _) ((wpAny_pure (wpAny_bind (wpAny_collect_seq (T := T) l hT ho hc hd (fun h1 k1 => ?_) (by rw [List.size_toArray]; exact hL)))))
  refine wpAny_bind (wpAny_newList ?go (by simpa using hL))
  show wpAny (model prog w) A.in1 _ _ E { s with heap := h1.push (seqObj "list" vs.toArray 0) }
  have hoL : (h1.push (seqObj "list" vs.toArray 0)).get? h1.objs.size = some (seqObj "list" vs.toArray 0) := Heap.get?_push_size _ rfl
  have keep : ∀ b x, s.heap.get? b = some x → (h1.push (seqObj "list" vs.toArray 0)).get? b = some x := fun b x e => Heap.get?_push_of_some _ (k1 b x e)
  have hnew : s.heap.get? h1.objs.size = none := by
    cases e : s.heap.get? h1.objs.size with
    | none => rfl
    | some x => exact absurd (Heap.lt_size (k1 _ _ e)) (Nat.lt_irrefl _)
  have hT2 : ∀ v ∈ vs, TS.TupInts (h1.push (seqObj "list" vs.toArray 0)) v (key v) := fun v hv => (hk v hv).1.keeps fun b x e _ => keep b x e
  obtain ⟨fs, hf⟩ := tups_first (h := h1.push (seqObj "list" vs.toArray 0)) (vs := vs) fun v hv => by
    have z := hT2 v hv
    cases e : key v with
    | nil => exact absurd e (hk v hv).2
    | cons k ns => exact ⟨k, ns, by rw [e] at z; exact z⟩
  refine wpAny_bind (wpAny_holding (wpAny_call_entry PyProof.Rows.slot_list_sort ⟨_, hoL, rfl⟩ PyProof.Rows.entry_list_sort (G.list_sort_tups (shape := fun _ => false) hoL hf (fun v hv => ⟨_, key_of (hT2 v hv)⟩) hL (fun st' a1 a2 a3 => ⟨_, rfl, ?_⟩)) (PyProof.Rows.args_list_sort (.ref h1.objs.size))))
  obtain ⟨ep, hep⟩ : ∃ ep, (sortedHeap (h1.push (seqObj "list" vs.toArray 0)) h1.objs.size vs ((arrOf st').map (·.2))).get? h1.objs.size = some (seqObj "list" ((arrOf st').map (·.2)) ep) := sortedHeap_at hoL
  have hp : (arrOf st').toList.Perm (vs.zip vs) := by rw [← pairsOf_toList]; exact Array.perm_iff_toList_perm.mp a1
  have hm : ∀ p ∈ (arrOf st').toList, p.1 = p.2 ∧ p.1 ∈ vs := fun p hp' => mem_zip_self (hp.mem_iff.mp hp')
  refine wpAny_pure ⟨_, rfl, h ((arrOf st').map (·.2)) _ _ (fun b x e => ?_) hnew ⟨ep, hep⟩ ?_ ?_⟩
  · have hb : b < h1.objs.size := Heap.lt_size (k1 b x e)
    rw [sortedHeap_old (Nat.ne_of_lt hb) (by rw [size_push']; exact Nat.lt_succ_of_lt hb)]
    exact keep b x e
  · rw [Array.toList_map]
    have z := hp.map Prod.snd
    rw [List.map_snd_zip (Nat.le_refl _)] at z
    exact z
  · rw [Array.toList_map, List.pairwise_map, List.pairwise_iff_getElem]
    intro i j hi hj hij
    have sz : (arrOf st').size = (pairsOf vs).size := a1.size_eq
    have z := a2 i j (Nat.le_of_lt hij) (by rw [← sz, ← Array.length_toList]; exact hj)
    have kk : ∀ (i : Nat) (hi : i < (arrOf st').toList.length), KK (tupKindC (h1.push (seqObj "list" vs.toArray 0)) fun _ => false) (arrOf st') i = (key ((arrOf st').toList[i]).2).map Sum.inl := fun i hi => by
      obtain ⟨e1, e2⟩ := hm _ (List.getElem_mem hi)
      unfold KK
      have e3 : (arrOf st')[i]? = some ((arrOf st').toList[i]) := by rw [← Array.getElem?_toList, List.getElem?_eq_getElem hi]
      rw [e3]
      show (tupKeyC _ _ _).getD _ = _
      rw [key_of (hT2 _ e2), ← e1]
      rfl
    rw [kk i hi, kk j hj] at z
    rw [← ltI_key]
    exact z
end
/-- sorted(x), told by keys -/
def rSortL (K : PySem.W.Frag) : List V → Hp → VK → Prop := fun vs H Q => ∃ (b : Addr) (ks : Tups), vs = [.ref b] ∧ (SqL K H b (refs ks) ∨ SqT K H b (refs ks)) ∧ TupsAt K H ks ∧ (∀ p ∈ ks, p.2 ≠ []) ∧
  ∀ (p : Addr) (ks' : Tups) (H' : Hp), Same H H' → H p = none → H' p = some (.lst (refs ks')) → ks'.Perm ks → AscL (keys ks') → Q (.ref p) H'
theorem cr_sortL {X : Cx} : CallR X (.builtin "sorted") (rSortL X.K) := by
  intro pins s σ H xs us Q I hv ⟨b, ks, ex, hb, ht, hne, q⟩
  subst ex
  rw [Vals.ref1 hv]
  obtain ⟨its, rv, hz, T, o, n, hT, ho, hc, hd⟩ : ∃ its : List Value, Vals (refs ks) its ∧ (refs ks).length ≤ sizeLine ∧ ∃ (T : String) (o : Obj) (n : Nat), (T = "list" ∨ T = "tuple") ∧ s.heap.get? b = some o ∧ o.cls = .type T ∧ o.data = .seq its.toArray n := by
    rcases hb with hb | hb
    · obtain ⟨its, rv, hl, hz⟩ := I.list hb
      obtain ⟨o, ho, hc, n, hd⟩ := hl.isList
      exact ⟨its, rv, hz, "list", o, n, .inl rfl, ho, hc, hd⟩
    · obtain ⟨its, rv, ⟨o, ho, hc, n, hd⟩, hz⟩ := I.tuple hb
      exact ⟨its, rv, hz, "tuple", o, n, .inr rfl, ho, hc, hd⟩
  obtain ⟨e1, e2⟩ := bkV_refs rv fun x m => by
    obtain ⟨p, _, rfl⟩ := List.mem_map.mp m
    exact ⟨_, rfl⟩
  -- a value's integers
  have hkey : ∀ v ∈ its, ∃ p ∈ ks, v = .ref p.1 := fun v hv => by
    obtain ⟨t, rfl⟩ := e2 v hv
    have hm : V.ref t ∈ refs ks := by
      rw [e1]
      exact List.mem_map.mpr ⟨_, hv, rfl⟩
    obtain ⟨p, hp, e⟩ := List.mem_map.mp hm
    injection e with e
    exact ⟨p, hp, by rw [e]⟩
  have hraw : ∀ p ∈ ks, TS.TupInts s.heap (.ref p.1) p.2 := fun p hp => tupI_raw I (ht p hp)
  refine sorted_any (key := TS.intsOf s.heap) hT ho hc hd (fun v hv => ?_) (by rw [← rv.length]; exact hz) fun out h2 p keep np hep h1 hw => ?_
  · obtain ⟨p, hp, rfl⟩ := hkey v hv
    have z := hraw p hp
    rw [z.ints]
    exact ⟨z, hne p hp⟩
  · obtain ⟨ep, hep⟩ := hep
    have hperm : (out.toList.map bkV).Perm (refs ks) := by
      rw [e1]
      exact h1.map bkV
    obtain ⟨ks', p1, p2⟩ := perm_map_inv (f := fun p : Addr × List Int => V.ref p.1) hperm (ks := ks) rfl
    have h3 : ∀ u ∈ out.toList, ∃ a, u = Value.ref a := fun u hu => e2 u (h1.mem_iff.mp hu)
    have hlen : (refs ks').length ≤ sizeLine := by rw [refs_len, p1.length_eq, ← refs_len]; exact hz
    have hvals : Vals (refs ks') out.toList := by
      have z := bkV_vals h3
      rw [p2] at z
      exact z
    have J := I.laidN (t' := s.toks) (a := p) (o := .lst (refs ks')) keep np (I.hok.gone np) ⟨hlen, out.toList, ep, hvals, hep⟩
    refine ⟨.ref p, _, J, rfl, q p ks' _ (same_new (I.hok.gone np)) (I.hok.gone np) upd_same p1 ?_⟩
    refine List.pairwise_map.mpr ?_
    have eo : out.toList = ks'.map fun p => Value.ref p.1 := by
      have z : ∀ {ks : Tups} {us : List Value}, Vals (refs ks) us → us = ks.map fun p => Value.ref p.1 := by
        intro ks
        induction ks with
        | nil => intro us z; cases z; rfl
        | cons x r ih =>
          intro us z
          cases z with
          | cons z1 z2 =>
            rw [ih z2]
            cases z1
            rfl
      exact z hvals
    rw [eo, List.pairwise_map] at hw
    exact hw.imp_of_mem fun {x y} hx hy z => by
      have zx := (hraw x (p1.mem_iff.mp hx)).ints
      have zy := (hraw y (p1.mem_iff.mp hy)).ints
      rw [zx, zy] at z
      exact z
end Sw
set_option Elab.async false
set_option linter.all false
set_option maxRecDepth 100000
set_option maxHeartbeats 4000000
/-! Tables: rows by columns, matchings with as many rows as any. -/
namespace L2
open PySem PySem.Spec PyProof.Rows
theorem call_repr_bl {X : Cx} : CallR X (.builtin "repr") (fun xs H Q => ∃ b, xs = [.bl b] ∧ Q (.str (if b then "True" else "False")) H) := by
  intro pins s σ H xs us Q I r h
  obtain ⟨b, rfl, q⟩ := h
  obtain ⟨u, rfl, ru⟩ := vals1 r
  cases ru
  exact PySem.P.repr_of_bool ⟨.str _, H, I.tok _, ⟨_, rfl⟩, q⟩
/-! len(set(xs)), xs a list of integers -/
def met (ns : List Int) (i : Nat) : List Int := firstMet (fun i => ns.getD i 0) i
theorem met_facts (ns : List Int) : ∀ i, i ≤ ns.length → (met ns i).Nodup ∧ ∀ x, x ∈ met ns i ↔ x ∈ ns.take i
  | 0, _ => ⟨List.nodup_nil, fun x => by rw [List.take_zero]; rfl⟩
  | i + 1, hi => by
    obtain ⟨h1, h2⟩ := met_facts ns i (by omega)
    have hlt : i < ns.length := hi
    have e : ns.getD i 0 = ns[i] := by rw [List.getD_eq_getElem?_getD, List.getElem?_eq_getElem hlt]; rfl
    rw [show met ns (i + 1) = step_dedup (met ns i) (ns.getD i 0) from firstMet_succ _ i, List.take_add_one, List.getElem?_eq_getElem hlt, e]
    unfold step_dedup
    by_cases hm : ns[i] ∈ met ns i
    · rw [if_pos (show ((met ns i).any fun x => x == ns[i]) = true from List.any_eq_true.mpr ⟨_, hm, beq_self_eq_true _⟩)]
      refine ⟨h1, fun x => ?_⟩
      rw [h2, List.mem_append]
      constructor
      · exact .inl
      · rintro (h | h)
        · exact h
        · rw [List.mem_singleton.mp h]
          exact (h2 _).mp hm
    · rw [if_neg (fun z => by
        obtain ⟨y, hy, e'⟩ := List.any_eq_true.mp z
        exact hm (by rw [← (beq_iff_eq.mp e' : y = ns[i])]; exact hy))]
      refine ⟨Sw.nodup_push h1 hm, fun x => ?_⟩
      rw [List.mem_append, List.mem_append, h2]
      rfl
def tLenSetA (K : PySem.W.Frag) (ta : TE) : TE := fun σ H Q => ta σ H fun x H1 => ∃ (l : Addr) (ns : List Int), x = V.ref l ∧ SqL K H1 l (ns.map V.int) ∧ ns.length < 64 ∧ ∀ n : Nat, (n < ns.length ↔ ¬ ns.Nodup) → Q (.int n) H1
theorem pe_lenSetA {X : Cx} {a : Expr} {ta : TE} {p p2 q pos : Pos} (hc : X.calm = true) (hg : Gl X "len") (hm : X.mg "len" = none) (hg2 : Gl X "set") (hm2 : X.mg "set" = none) (ha : PE X a ta)
    (na : starEach [a] X.env = (false, eval a X.env) :: starEach [] X.env := by rfl) : PE X (.Call (.Name "len" p) [.Call (.Name "set" p2) [a] [] q] [] pos) (tLenSetA X.K ta) := by
  refine ⟨fun pins s σ H Q I h => Call_ (ld_blt I hg hm PySem.boot_len (PyProof.Rows.callWith_builtin1 (PyProof.Rows.args_cons ?_ rfl) rfl rfl))⟩
  refine Call_ (ld_blt I hg2 hm2 PyProof.Rows.boot_set (PyProof.Rows.callWith_type1 (PyProof.Rows.args_cons (thn (ha.run pins s σ H _ I h) fun v s1 ⟨x, H1, I1, r1, q1⟩ => PyProof.Rows.args_nil ?_) na) na rfl))
  obtain ⟨l, ns, rfl, hq, h1, q1⟩ := q1
  cases r1
  obtain ⟨its, r, pl, hz⟩ := I1.list hq
  have hl : its.toArray.size = ns.length := by rw [List.size_toArray, ← r.length, List.length_map]
  refine call_set_list (I1.ok.hd hc) pl.isList (ns := ns) (by simpa using r.ints) ((by unfold scanBound; omega)) fun h' tk hS hk => PyProof.Rows.args_nil ?_
  rw [hl] at hS
  obtain ⟨m1, m2⟩ := met_facts ns ns.length (Nat.le_refl _)
  rw [List.take_length] at m2
  have hle : (met ns ns.length).length ≤ ns.length := Sw.len_le_of_sub m1 fun x hx => (m2 x).mp hx
  obtain ⟨o, es, ep, t, ho, hex, hd, _, _, _, hf, hn⟩ := hS
  have I2 : Inv X pins σ H1 { s1 with heap := h', toks := tk } := I1.kept fun b o e => hk b o (Heap.lt_size e) e
  have hn' : es.size = (met ns ns.length).length := hn
  refine call_len_set ho hex hd hf (by omega) ⟨.int (met ns ns.length).length, H1, I2.tok _, ⟨_, by rw [hn']⟩, q1 _ ⟨fun hlt hnd => ?_, fun hnd => ?_⟩⟩
  · have := Sw.len_le_of_sub hnd fun x hx => (m2 x).mpr hx
    omega
  · obtain ⟨m, hm', hs⟩ := Sw.shorter hnd
    have := Sw.len_le_of_sub m1 (m := m) fun x hx => hs x ((m2 x).mp hx)
    omega
end L2
namespace Sw
open PySem PySem.Spec PyProof.Rows L2
/-- as `best`, for the edges of the wanted rows alone -/
theorem best2 {P P' : Int → List Int} {m m' : MM} {Z W : List Int} (hW : W.Nodup) (hm : Mt P m) (hZ : Shut P m Z) (hZW : ∀ z ∈ Z, z ∈ W) (hF : ∀ r ∈ W, lk m r = none → r ∈ Z) (h' : Mt P' m') (hP : ∀ r ∈ W, ∀ c ∈ P' r, c ∈ P r) :
    (W.filter (has m')).length ≤ (W.filter (has m)).length := by
  have e : ∀ r, r ∈ W → lk (m'.filter fun z => decide (z.1 ∈ W)) r = lk m' r := fun r hr => by
    cases el : lk m' r with
    | some c => exact lk_mem (List.Nodup.sublist (List.Sublist.map _ List.filter_sublist) h'.nd) (List.mem_filter.mpr ⟨lk_some el, decide_eq_true hr⟩)
    | none =>
      cases e2 : lk (m'.filter fun z => decide (z.1 ∈ W)) r with
      | none => rfl
      | some c =>
        have := lk_mem h'.nd (List.mem_filter.mp (lk_some e2)).1
        rw [el] at this
        cases this
  have sub : ∀ r c, lk (m'.filter fun z => decide (z.1 ∈ W)) r = some c → r ∈ W ∧ lk m' r = some c := fun r c h => by
    obtain ⟨h1, h2⟩ := List.mem_filter.mp (lk_some h)
    exact ⟨of_decide_eq_true h2, lk_mem h'.nd h1⟩
  have := best hW hm hZ hZW hF (m' := m'.filter fun z => decide (z.1 ∈ W)) ⟨List.Nodup.sublist (List.Sublist.map _ List.filter_sublist) h'.nd, fun k v h => hP k (sub k v h).1 v (h'.ed k v (sub k v h).2), fun k j v h1 h2 => h'.inj k j v (sub k v h1).2 (sub j v h2).2⟩
  have e2 : W.filter (has (m'.filter fun z => decide (z.1 ∈ W))) = W.filter (has m') := List.filter_congr fun r hr => by unfold has; rw [e r hr]
  rw [e2] at this
  exact this
/-- a table, its rows lists -/
def TabAt (K : PySem.W.Frag) (H : Hp) (t : Addr) (tb : Tups) : Prop := SqL K H t (refs tb) ∧ ∀ p ∈ tb, SqL K H p.1 (p.2.map V.int)
theorem tabAt_up {K : PySem.W.Frag} {H H' : Hp} {t : Addr} {tb : Tups} (s : Same H H') (h : TabAt K H t tb) : TabAt K H' t tb := ⟨s.seq h.1, fun p hp => s.seq (h.2 p hp)⟩
def tP (rows : List (List Int)) (r : Int) : List Int := if 0 ≤ r then (rows[r.toNat]?).getD [] else []
structure TabOk (rows : List (List Int)) : Prop where
  len : rows.length ≤ 1000
  lo : ∀ l ∈ rows, ∀ c ∈ l, 0 ≤ c ∧ c < 1000
  nd : ∀ l ∈ rows, l.Nodup
theorem below1000 {l : List Int} (hn : l.Nodup) (h : ∀ c ∈ l, 0 ≤ c ∧ c < 1000) : l.length ≤ 1000 := by
  have n1 : (l.map Int.toNat).Nodup := by
    rw [List.Nodup, List.pairwise_map]
    refine hn.imp_of_mem fun {a b} ha hb hab e => hab ?_
    have := h a ha
    have := h b hb
    omega
  have := nodup_below 1000 _ n1 fun x hx => by
    obtain ⟨a, ha, rfl⟩ := List.mem_map.mp hx
    have := h a ha
    omega
  rw [List.length_map] at this
  exact this
theorem tP_some {rows : List (List Int)} {r c : Int} (h : c ∈ tP rows r) : 0 ≤ r ∧ ∃ l, rows[r.toNat]? = some l ∧ c ∈ l := by
  unfold tP at h
  split at h
  · refine ⟨by assumption, ?_⟩
    cases e : rows[r.toNat]? with
    | none => rw [e] at h; cases h
    | some l => rw [e] at h; exact ⟨l, rfl, h⟩
  · cases h
theorem tP_lo {rows : List (List Int)} (h : TabOk rows) {r c : Int} (hc : c ∈ tP rows r) : 0 ≤ c ∧ c < 1000 := by
  obtain ⟨_, l, e, hl⟩ := tP_some hc
  exact h.lo l (List.mem_of_getElem? e) c hl
def psOf (tb : Tups) (W : List Int) : Prts := W.map fun r => (r, (tb.getD r.toNat (0, [])).1, (tb.getD r.toNat (0, [])).2)
theorem prt_psOf {tb : Tups} {W : List Int} {r : Int} (hr : r ∈ W) (h0 : 0 ≤ r) : prt (psOf tb W) r = tP (keys tb) r := by
  unfold prt psOf
  rw [List.find?_map]
  have : ∃ z, W.find? ((fun z : Int × Addr × List Int => decide (z.1 = r)) ∘ fun r => (r, (tb.getD r.toNat (0, [])).1, (tb.getD r.toNat (0, [])).2)) = some z ∧ z = r := by
    cases e : W.find? ((fun z : Int × Addr × List Int => decide (z.1 = r)) ∘ fun r => (r, (tb.getD r.toNat (0, [])).1, (tb.getD r.toNat (0, [])).2)) with
    | none =>
      have := List.find?_eq_none.mp e r hr
      exact absurd (decide_eq_true (rfl : r = r)) this
    | some z =>
      have h2 := List.find?_some e
      exact ⟨z, rfl, of_decide_eq_true (show decide (z = r) = true from h2)⟩
  obtain ⟨z, ez, rfl⟩ := this
  rw [ez]
  show (tb.getD z.toNat (0, [])).2 = tP (keys tb) z
  unfold tP keys
  rw [if_pos h0, List.getD_eq_getElem?_getD, List.getElem?_map]
  cases tb[z.toNat]? <;> rfl
theorem prt_psOf_none {tb : Tups} {W : List Int} {r : Int} (hr : r ∉ W) : prt (psOf tb W) r = [] := by
  unfold prt psOf
  rw [List.find?_map]
  have : W.find? ((fun z : Int × Addr × List Int => decide (z.1 = r)) ∘ fun r => (r, (tb.getD r.toNat (0, [])).1, (tb.getD r.toNat (0, [])).2)) = none := List.find?_eq_none.mpr fun x hx h => hr (by rw [← (of_decide_eq_true h : x = r)]; exact hx)
  rw [this]
  rfl
def MaxOn (P : Int → List Int) (W : List Int) (g : MM) : Prop := ∀ m', Mt P m' → (W.filter (has m')).length ≤ (W.filter (has g)).length
def spMates (K : PySem.W.Frag) : Sp := fun vs H Q _ => ∃ (t rl : Addr) (tb : Tups) (W : List Int), vs = [.ref t, .ref rl] ∧ TabAt K H t tb ∧ TabOk (keys tb) ∧ SqL K H rl (W.map V.int) ∧ W.Nodup ∧ (∀ r ∈ W, 0 ≤ r ∧ r < (tb.length : Int)) ∧
  ∀ (H' : Hp) (l : Addr) (g : MM), Same H H' → H l = none → H' l = some (.dK (dI g)) → Mt (tP (keys tb)) g → (∀ r c, lk g r = some c → r ∈ W) → MaxOn (tP (keys tb)) W g → Q (.ref l) H'
def spMost (K : PySem.W.Frag) : Sp := fun vs H Q _ => ∃ (t rl : Addr) (tb : Tups) (W : List Int), vs = [.ref t, .ref rl] ∧ TabAt K H t tb ∧ TabOk (keys tb) ∧ SqL K H rl (W.map V.int) ∧ W.Nodup ∧ (∀ r ∈ W, 0 ≤ r ∧ r < (tb.length : Int)) ∧
  ∀ (H' : Hp) (g : MM), Same H H' → Mt (tP (keys tb)) g → (∀ r c, lk g r = some c → r ∈ W) → MaxOn (tP (keys tb)) W g → Q (.int (W.filter (has g)).length) H'
theorem filter_all {W : List Int} {g : MM} (hW : W.Nodup) (hn : (g.map (·.1)).Nodup) (h : ∀ r c, lk g r = some c → r ∈ W) : (W.filter (has g)).length = g.length := by
  have a := len_le_of_sub (hW.filter (has g)) (m := g.map (·.1)) fun r hr => by
    obtain ⟨c, e⟩ := has_some (List.mem_filter.mp hr).2
    exact lk_key e
  have b := len_le_of_sub hn (m := W.filter (has g)) fun r hr => by
    obtain ⟨c, e⟩ := lk_keyE hr
    exact List.mem_filter.mpr ⟨h r c e, by unfold has; rw [e]; rfl⟩
  rw [List.length_map] at a b
  omega
def spByCol (K : PySem.W.Frag) : Sp := fun vs H Q _ => ∃ (t : Addr) (tb : Tups), vs = [.ref t] ∧ TabAt K H t tb ∧ TabOk (keys tb) ∧
  ∀ (H' : Hp) (d : Addr) (ps : Prts), Same H H' → H d = none → PrtAt K H' d ps → Small ps → (∀ c r, r ∈ prt ps c ↔ c ∈ tP (keys tb) r) → Q (.ref d) H'
def pairs2 (m : MM) : List (List Int) := m.map fun x => [x.1, x.2]
def spMatching (K : PySem.W.Frag) : Sp := fun vs H Q _ => ∃ (t rl cl : Addr) (tb : Tups) (W C : List Int), vs = [.ref t, .ref rl, .ref cl] ∧ TabAt K H t tb ∧ TabOk (keys tb) ∧ SqL K H rl (W.map V.int) ∧ W.Nodup ∧ (∀ r ∈ W, 0 ≤ r ∧ r < (tb.length : Int)) ∧
  SqL K H cl (C.map V.int) ∧ C.Nodup ∧ C.length ≤ 1000 ∧
  ∀ (H' : Hp) (l : Addr) (ks : Tups) (g : MM), Same H H' → H l = none → H' l = some (.lst (refs ks)) → TupsAt K H' ks → keys ks = pairs2 g → AscL (keys ks) → Mt (tP (keys tb)) g → MaxOn (tP (keys tb)) W g → (∀ m', Mt (tP (keys tb)) m' → (C.filter (has (swp m'))).length ≤ (C.filter (has (swp g))).length) → Q (.ref l) H'
end Sw
namespace Sw
open PySem PySem.Spec PyProof.Rows L2
def asc1 : List Int → Bool
  | [] => true
  | [_] => true
  | x :: y :: r => decide (x < y) && asc1 (y :: r)
theorem asc1_zip : ∀ ns : List Int, ((ns.zip ns.tail).map fun p => decide (p.1 < p.2)).all id = asc1 ns
  | [] => rfl
  | [_] => rfl
  | x :: y :: r => by
    show (decide (x < y) && (((y :: r).zip r).map fun p => decide (p.1 < p.2)).all id) = (decide (x < y) && asc1 (y :: r))
    rw [← asc1_zip (y :: r)]
    rfl
def isMt (rows : List (List Int)) (m : MM) : Bool := asc1 (m.map (·.1)) && decide (m.map (·.2)).Nodup && m.all fun x => decide (x.2 ∈ tP rows x.1)
def spAsc (K : PySem.W.Frag) : Sp := fun vs H Q _ => ∃ (l : Addr) (ns : List Int), vs = [.ref l] ∧ SqL K H l (ns.map V.int) ∧ ns.length ≤ 2000 ∧ ∀ H', Same H H' → Q (.bl (asc1 ns)) H'
def spIsMt (K : PySem.W.Frag) : Sp := fun vs H Q _ => ∃ (t tl : Addr) (tb ks : Tups) (m : MM), vs = [.ref t, .ref tl] ∧ TabAt K H t tb ∧ SqL K H tl (refs ks) ∧ TupsAt K H ks ∧ keys ks = pairs2 m ∧ m.length < 64 ∧ tb.length ≤ 1000 ∧ ∀ H', Same H H' → Q (.bl (isMt (keys tb) m)) H'
theorem pair_at {ks : Tups} {m : MM} {i : Nat} {q : Addr × List Int} (ek : keys ks = pairs2 m) (hq : ks[i]? = some q) : ∃ x, m[i]? = some x ∧ q.2 = [x.1, x.2] := by
  have e1 : (keys ks)[i]? = some q.2 := by unfold keys; rw [List.getElem?_map, hq]; rfl
  rw [ek] at e1
  unfold pairs2 at e1
  rw [List.getElem?_map] at e1
  cases e : m[i]? with
  | none => rw [e] at e1; cases e1
  | some x => rw [e] at e1; exact ⟨x, rfl, (Option.some.inj e1).symm⟩
theorem refs_at {ks : Tups} {i : Nat} {y : V} (h : (refs ks)[i]? = some y) : ∃ q, ks[i]? = some q ∧ y = V.ref q.1 := by
  unfold refs at h
  rw [List.getElem?_map] at h
  cases e : ks[i]? with
  | none => rw [e] at h; cases h
  | some q => rw [e] at h; exact ⟨q, rfl, (Option.some.inj h).symm⟩
theorem row_at {K : PySem.W.Frag} {H : Hp} {t : Addr} {tb : Tups} (h : TabAt K H t tb) {r : Int} (h0 : 0 ≤ r) (h1 : r < (tb.length : Int)) : ∃ q, tb[r.toNat]? = some q ∧ atI (refs tb) r = some (.ref q.1) ∧ SqL K H q.1 (q.2.map V.int) ∧ tP (keys tb) r = q.2 := by
  have hl : r.toNat < tb.length := by omega
  have e := List.getElem?_eq_getElem hl
  refine ⟨tb[r.toNat], e, ?_, h.2 _ (List.getElem_mem hl), ?_⟩
  · have z : atI (refs tb) ((r.toNat : Nat) : Int) = some (.ref tb[r.toNat].1) := atI_nat (by unfold refs; rw [List.getElem?_map, e]; rfl)
    rw [show ((r.toNat : Nat) : Int) = r by omega] at z
    exact z
  · unfold tP keys
    rw [if_pos h0, List.getElem?_map, e]
    rfl
/-! rows by columns, under way -/
structure RB (K : PySem.W.Frag) (H0 H : Hp) (d : Addr) (ps : Prts) (rows : List (List Int)) (i : Nat) (part : List Int) : Prop where
  ed : H d = some (.dK (shownK ps))
  ls : ∀ z ∈ ps, H z.2.1 = some (.lst (z.2.2.map V.int)) ∧ H0 z.2.1 = none
  an : (ps.map fun z => z.2.1).Nodup
  kn : (ps.map (·.1)).Nodup
  mem : ∀ c r, r ∈ prt ps c ↔ (0 ≤ r ∧ r < (i : Int) ∧ c ∈ tP rows r) ∨ (r = (i : Int) ∧ c ∈ part)
  nd : ∀ z ∈ ps, z.2.2.Nodup
  kl : ∀ z ∈ ps, 0 ≤ z.1 ∧ z.1 < 1000
theorem prt_mem {ps : Prts} {z : Int × Addr × List Int} (hn : (ps.map (·.1)).Nodup) (hz : z ∈ ps) : prt ps z.1 = z.2.2 := by
  unfold prt
  cases e : ps.find? fun y => decide (y.1 = z.1) with
  | none => exact absurd (decide_eq_true (rfl : z.1 = z.1)) (List.find?_eq_none.mp e z hz)
  | some y =>
    have h1 := List.mem_of_find?_eq_some e
    have h2 : y.1 = z.1 := of_decide_eq_true (by have := List.find?_some e; exact this)
    have : y = z := by
      have go : ∀ {ps : Prts}, (ps.map (·.1)).Nodup → y ∈ ps → z ∈ ps → y = z := by
        intro ps
        induction ps with
        | nil => intro _ h; cases h
        | cons w r ih =>
          intro hn hy hz
          rw [List.map_cons, List.nodup_cons] at hn
          rcases List.mem_cons.mp hy with e1 | hy' <;> rcases List.mem_cons.mp hz with e2 | hz'
          · rw [e1, e2]
          · exact absurd (by rw [← e1, h2]; exact List.mem_map_of_mem (f := fun z : Int × Addr × List Int => z.1) hz') hn.1
          · exact absurd (by rw [← e2, ← h2]; exact List.mem_map_of_mem (f := fun z : Int × Addr × List Int => z.1) hy') hn.1
          · exact ih hn.2 hy' hz'
      exact go hn h1 hz
    rw [this]
theorem prt_none {ps : Prts} {c : Int} (h : c ∉ ps.map (·.1)) : prt ps c = [] := by
  unfold prt
  have : ps.find? (fun z => decide (z.1 = c)) = none := List.find?_eq_none.mpr fun x hx e => h (by rw [← (of_decide_eq_true e : x.1 = c)]; exact List.mem_map_of_mem (f := fun z : Int × Addr × List Int => z.1) hx)
  rw [this]
def addTo (ps : Prts) (c r : Int) : Prts := ps.map fun z => if z.1 = c then (z.1, z.2.1, z.2.2 ++ [r]) else z
theorem prt_addTo (ps : Prts) (c r c' : Int) (hc : c ∈ ps.map (·.1)) : prt (addTo ps c r) c' = if c' = c then prt ps c' ++ [r] else prt ps c' := by
  induction ps with
  | nil => cases hc
  | cons z t ih =>
    unfold prt addTo
    rw [List.map_cons, List.find?_cons, List.find?_cons]
    have ez : (if z.1 = c then (z.1, z.2.1, z.2.2 ++ [r]) else z).1 = z.1 := by split <;> rfl
    rw [ez]
    by_cases h : z.1 = c'
    · rw [decide_eq_true h]
      show (if z.1 = c then (z.1, z.2.1, z.2.2 ++ [r]) else z).2.2 = _
      by_cases h2 : c' = c
      · rw [if_pos (h.trans h2), if_pos h2]
      · rw [if_neg (fun e => h2 (h.symm.trans e)), if_neg h2]
    · rw [decide_eq_false h]
      show prt (addTo t c r) c' = if c' = c then prt t c' ++ [r] else prt t c'
      by_cases hct : c ∈ t.map (·.1)
      · exact ih hct
      · have hz : z.1 = c := by
          rcases List.mem_cons.mp hc with e | e
          · exact e.symm
          · exact absurd e hct
        rw [if_neg (fun e => h (hz.trans e.symm))]
        have : addTo t c r = t := by
          unfold addTo
          rw [List.map_congr_left (g := id) fun w hw => by
            rw [if_neg]
            · rfl
            · intro e
              exact hct (by rw [← e]; exact List.mem_map_of_mem (f := fun z : Int × Addr × List Int => z.1) hw), List.map_id]
        rw [this]
theorem shown_addTo (ps : Prts) (c r : Int) : shownK (addTo ps c r) = shownK ps := by
  unfold shownK addTo
  rw [List.map_map]
  apply List.map_congr_left
  intro z _
  show (Sum.inl (if z.1 = c then (z.1, z.2.1, z.2.2 ++ [r]) else z).1, V.ref (if z.1 = c then (z.1, z.2.1, z.2.2 ++ [r]) else z).2.1) = (Sum.inl z.1, V.ref z.2.1)
  split <;> rfl
theorem prt_snoc {ps : Prts} {c : Int} {q : Addr} {l : List Int} (hc : c ∉ ps.map (·.1)) (c' : Int) : prt (ps ++ [(c, q, l)]) c' = if c' = c then l else prt ps c' := by
  unfold prt
  rw [List.find?_append]
  by_cases h : c' = c
  · rw [if_pos h, h]
    have : ps.find? (fun z => decide (z.1 = c)) = none := List.find?_eq_none.mpr fun x hx e => hc (by rw [← (of_decide_eq_true e : x.1 = c)]; exact List.mem_map_of_mem (f := fun z : Int × Addr × List Int => z.1) hx)
    rw [this]
    show (match List.find? (fun z => decide (z.1 = c)) [(c, q, l)] with | some z => z.2.2 | none => []) = l
    rw [List.find?_cons, decide_eq_true (show ((c, q, l) : Int × Addr × List Int).1 = c from rfl)]
  · rw [if_neg h]
    have : List.find? (fun z : Int × Addr × List Int => decide (z.1 = c')) [(c, q, l)] = none := by
      rw [List.find?_cons, decide_eq_false (show ¬ ((c, q, l) : Int × Addr × List Int).1 = c' from fun e => h e.symm)]
      rfl
    rw [this]
    cases ps.find? (fun z => decide (z.1 = c')) <;> rfl
end Sw
namespace Sw
open PySem PySem.Spec PyProof.Rows L2
theorem nodup_get {ps : Prts} {x y : Int × Addr × List Int} (hn : (ps.map fun z => z.2.1).Nodup) (hx : x ∈ ps) (hy : y ∈ ps) (e : x.2.1 = y.2.1) : x = y := by
  induction ps with
  | nil => cases hx
  | cons w r ih =>
    rw [List.map_cons, List.nodup_cons] at hn
    rcases List.mem_cons.mp hx with e1 | hx' <;> rcases List.mem_cons.mp hy with e2 | hy'
    · rw [e1, e2]
    · exact absurd (by rw [← e1, e]; exact List.mem_map_of_mem (f := fun z : Int × Addr × List Int => z.2.1) hy') hn.1
    · exact absurd (by rw [← e2, ← e]; exact List.mem_map_of_mem (f := fun z : Int × Addr × List Int => z.2.1) hx') hn.1
    · exact ih hn.2 hx' hy'
/-- a row goes to the list of a column that has one -/
theorem RB.add {K : PySem.W.Frag} {H0 H : Hp} {d : Addr} {ps : Prts} {rows : List (List Int)} {i : Nat} {part : List Int} {c : Int} {z : Int × Addr × List Int} (h : RB K H0 H d ps rows i part) (hz : z ∈ ps) (ez : z.1 = c) (hc : c ∉ part) :
    RB K H0 (upd H z.2.1 (.lst (z.2.2.map V.int ++ [.int (i : Int)]))) d (addTo ps c i) rows i (part ++ [c]) := by
  have hck : c ∈ ps.map (·.1) := by rw [← ez]; exact List.mem_map_of_mem (f := fun z : Int × Addr × List Int => z.1) hz
  have hd : d ≠ z.2.1 := fun e => by have := (h.ls z hz).1; rw [← e, h.ed] at this; cases this
  have same : ∀ y ∈ ps, y.1 = c → y = z := fun y hy ey => by
    have a1 := prt_mem h.kn hy
    have go : ∀ {ps : Prts}, (ps.map (·.1)).Nodup → y ∈ ps → z ∈ ps → y = z := by
      intro ps
      induction ps with
      | nil => intro _ h; cases h
      | cons w r ih =>
        intro hn hy hz
        rw [List.map_cons, List.nodup_cons] at hn
        rcases List.mem_cons.mp hy with e1 | hy' <;> rcases List.mem_cons.mp hz with e2 | hz'
        · rw [e1, e2]
        · exact absurd (by rw [← e1, ey, ← ez]; exact List.mem_map_of_mem (f := fun z : Int × Addr × List Int => z.1) hz') hn.1
        · exact absurd (by rw [← e2, ez, ← ey]; exact List.mem_map_of_mem (f := fun z : Int × Addr × List Int => z.1) hy') hn.1
        · exact ih hn.2 hy' hz'
    exact go h.kn hy hz
  refine ⟨by rw [upd_ne hd, shown_addTo]; exact h.ed, fun y hy => ?_, ?_, ?_, fun c' r => ?_, fun y hy => ?_, fun y hy => ?_⟩
  · obtain ⟨w, hw, rfl⟩ := List.mem_map.mp hy
    by_cases e : w.1 = c
    · rw [if_pos e, same w hw e]
      refine ⟨?_, (h.ls z hz).2⟩
      show (upd H z.2.1 _) z.2.1 = _
      rw [upd_same, map_push]
    · rw [if_neg e]
      refine ⟨?_, (h.ls w hw).2⟩
      rw [upd_ne fun e' => e (by rw [nodup_get h.an hw hz e']; exact ez)]
      exact (h.ls w hw).1
  · unfold addTo
    rw [List.map_map, List.map_congr_left (g := fun z => z.2.1) fun w _ => by show (if w.1 = c then (w.1, w.2.1, w.2.2 ++ [(i : Int)]) else w).2.1 = w.2.1; split <;> rfl]
    exact h.an
  · unfold addTo
    rw [List.map_map, List.map_congr_left (g := fun z => z.1) fun w _ => by show (if w.1 = c then (w.1, w.2.1, w.2.2 ++ [(i : Int)]) else w).1 = w.1; split <;> rfl]
    exact h.kn
  · rw [prt_addTo ps c i c' hck]
    by_cases e : c' = c
    · rw [if_pos e, List.mem_append, h.mem, List.mem_singleton, List.mem_append, List.mem_singleton]
      constructor
      · rintro ((h1 | ⟨h1, h2⟩) | h1)
        · exact .inl h1
        · exact .inr ⟨h1, .inl h2⟩
        · exact .inr ⟨h1, .inr e⟩
      · rintro (h1 | ⟨h1, h2⟩)
        · exact .inl (.inl h1)
        · exact .inr h1
    · rw [if_neg e, h.mem, List.mem_append, List.mem_singleton]
      constructor
      · rintro (h1 | ⟨h1, h2⟩)
        · exact .inl h1
        · exact .inr ⟨h1, .inl h2⟩
      · rintro (h1 | ⟨h1, h2 | h2⟩)
        · exact .inl h1
        · exact .inr ⟨h1, h2⟩
        · exact absurd h2 e
  · obtain ⟨w, hw, rfl⟩ := List.mem_map.mp hy
    by_cases e : w.1 = c
    · rw [if_pos e]
      refine nodup_push (h.nd w hw) fun hm => ?_
      rw [← prt_mem h.kn hw, e] at hm
      rcases (h.mem c i).mp hm with ⟨_, h2, _⟩ | ⟨_, h2⟩
      · omega
      · exact hc h2
    · rw [if_neg e]
      exact h.nd w hw
  · obtain ⟨w, hw, rfl⟩ := List.mem_map.mp hy
    by_cases e : w.1 = c
    · rw [if_pos e]
      exact h.kl w hw
    · rw [if_neg e]
      exact h.kl w hw
/-- a column comes in, with a list of its own -/
theorem RB.new {K : PySem.W.Frag} {H0 H : Hp} {d q : Addr} {ps : Prts} {rows : List (List Int)} {i : Nat} {part : List Int} {c : Int} (h : RB K H0 H d ps rows i part) (hk : c ∉ ps.map (·.1)) (hq : H q = some (.lst [])) (hq0 : H0 q = none) (hqn : ∀ z ∈ ps, z.2.1 ≠ q) (hl : 0 ≤ c ∧ c < 1000) :
    RB K H0 (upd H d (.dK (shownK (ps ++ [(c, q, [])])))) d (ps ++ [(c, q, [])]) rows i part := by
  have hd : ∀ b o, H b = some (.lst o) → b ≠ d := fun b o e z => by rw [z, h.ed] at e; cases e
  refine ⟨upd_same, fun y hy => ?_, ?_, ?_, fun c' r => ?_, fun y hy => ?_, fun y hy => ?_⟩
  · rcases List.mem_append.mp hy with hy | hy
    · obtain ⟨h1, h2⟩ := h.ls y hy
      exact ⟨by rw [upd_ne (hd _ _ h1)]; exact h1, h2⟩
    · rw [List.mem_singleton.mp hy]
      exact ⟨by rw [upd_ne (hd _ _ hq)]; exact hq, hq0⟩
  · rw [List.map_append]
    refine nodup_push h.an fun hm => ?_
    obtain ⟨z, hz, e⟩ := List.mem_map.mp hm
    exact hqn z hz e
  · rw [List.map_append]
    exact nodup_push h.kn hk
  · rw [prt_snoc hk]
    by_cases e : c' = c
    · rw [if_pos e, ← h.mem, e, prt_none hk]
    · rw [if_neg e]
      exact h.mem c' r
  · rcases List.mem_append.mp hy with hy | hy
    · exact h.nd y hy
    · rw [List.mem_singleton.mp hy]
      exact List.nodup_nil
  · rcases List.mem_append.mp hy with hy | hy
    · exact h.kl y hy
    · rw [List.mem_singleton.mp hy]
      exact hl
end Sw
namespace Sw
open PySem PySem.Spec PyProof.Rows L2
theorem inV_ints (x : Int) : ∀ ns : List Int, inV (.int x) (ns.map V.int) = decide (x ∈ ns)
  | [] => rfl
  | y :: r => by
    show (eqV (.int y) (.int x) || inV (.int x) (r.map V.int)) = _
    rw [inV_ints x r]
    show ((y == x) || decide (x ∈ r)) = _
    by_cases h : y = x
    · rw [h, beq_self_eq_true, Bool.true_or, decide_eq_true List.mem_cons_self]
    · rw [beq_eq_false_iff_ne.mpr h, Bool.false_or]
      by_cases hm : x ∈ r
      · rw [decide_eq_true hm, decide_eq_true (List.mem_cons_of_mem _ hm)]
      · rw [decide_eq_false hm, decide_eq_false (fun z => (List.mem_cons.mp z).elim (fun e => h e.symm) hm)]
end Sw
set_option Elab.async false
set_option linter.all false
set_option maxRecDepth 100000
set_option maxHeartbeats 4000000
/-! All matchings of a small table, row by row. -/
namespace Sw
open PySem PySem.Spec PyProof.Rows L2
def stepM (P : Int → List Int) (k : Int) (m : MM) : List MM := m :: ((P k).filter fun c => !decide (c ∈ m.map (·.2))).map fun c => m ++ [(k, c)]
def allM (P : Int → List Int) : Nat → List MM
  | 0 => [[]]
  | k + 1 => (allM P k).flatMap (stepM P k)
theorem asc1_iff : ∀ ns : List Int, asc1 ns = true ↔ ns.Pairwise (· < ·)
  | [] => ⟨fun _ => .nil, fun _ => rfl⟩
  | [x] => ⟨fun _ => List.pairwise_singleton _ _, fun _ => rfl⟩
  | x :: y :: r => by
    show (decide (x < y) && asc1 (y :: r)) = true ↔ _
    rw [Bool.and_eq_true, asc1_iff (y :: r), decide_eq_true_iff, List.pairwise_cons (a := x)]
    constructor
    · rintro ⟨h, h2⟩
      refine ⟨fun z hz => ?_, h2⟩
      rcases List.mem_cons.mp hz with rfl | hz
      · exact h
      · have := (List.pairwise_cons.mp h2).1 z hz
        omega
    · rintro ⟨h, h2⟩
      exact ⟨h y (List.mem_cons_self ..), h2⟩
def MtTo (P : Int → List Int) (k : Int) (m : MM) : Prop := (m.map (·.1)).Pairwise (· < ·) ∧ (m.map (·.2)).Nodup ∧ ∀ x ∈ m, x.2 ∈ P x.1 ∧ 0 ≤ x.1 ∧ x.1 < k
theorem mem_allM (P : Int → List Int) : ∀ (k : Nat) (m : MM), m ∈ allM P k ↔ MtTo P k m
  | 0, m => by
    show m ∈ [[]] ↔ _
    rw [List.mem_singleton]
    constructor
    · rintro rfl
      exact ⟨.nil, List.nodup_nil, fun x hx => by cases hx⟩
    · rintro ⟨_, _, h⟩
      cases m with
      | nil => rfl
      | cons x r =>
        have := h x (List.mem_cons_self ..)
        omega
  | k + 1, m => by
    show m ∈ (allM P k).flatMap (stepM P k) ↔ _
    rw [List.mem_flatMap]
    constructor
    · rintro ⟨m0, h0, hm⟩
      obtain ⟨a1, a2, a3⟩ := (mem_allM P k m0).mp h0
      unfold stepM at hm
      rcases List.mem_cons.mp hm with rfl | hm
      · exact ⟨a1, a2, fun x hx => ⟨(a3 x hx).1, (a3 x hx).2.1, by have := (a3 x hx).2.2; omega⟩⟩
      · obtain ⟨c, hc, rfl⟩ := List.mem_map.mp hm
        obtain ⟨c1, c2⟩ := List.mem_filter.mp hc
        have c3 : c ∉ m0.map (·.2) := by
          intro h
          rw [decide_eq_true h] at c2
          cases c2
        refine ⟨?_, ?_, fun x hx => ?_⟩
        · rw [List.map_append, List.pairwise_append]
          refine ⟨a1, List.pairwise_singleton _ _, fun u hu v hv => ?_⟩
          obtain ⟨x, hx, rfl⟩ := List.mem_map.mp hu
          rw [List.mem_singleton.mp (show v ∈ [(k : Int)] from hv)]
          exact (a3 x hx).2.2
        · rw [List.map_append]
          exact nodup_push a2 c3
        · rcases List.mem_append.mp hx with hx | hx
          · exact ⟨(a3 x hx).1, (a3 x hx).2.1, by have := (a3 x hx).2.2; omega⟩
          · rw [List.mem_singleton.mp hx]
            exact ⟨c1, Int.natCast_nonneg k, by show (k : Int) < ((k + 1 : Nat) : Int); omega⟩
    · rintro ⟨a1, a2, a3⟩
      rcases List.eq_nil_or_concat m with rfl | ⟨m0, y, rfl⟩
      · exact ⟨[], (mem_allM P k []).mpr ⟨.nil, List.nodup_nil, fun x hx => by cases hx⟩, List.mem_cons_self ..⟩
      · rw [List.concat_eq_append] at a1 a2 a3 ⊢
        rw [List.map_append, List.pairwise_append] at a1
        obtain ⟨b1, _, b3⟩ := a1
        rw [List.map_append, List.nodup_append] at a2
        obtain ⟨d1, _, d3⟩ := a2
        have hy := a3 y (List.mem_append_right _ (List.mem_singleton.mpr rfl))
        have lt : ∀ x ∈ m0, x.1 < y.1 := fun x hx => b3 x.1 (List.mem_map_of_mem hx) y.1 (List.mem_singleton.mpr rfl)
        by_cases e : y.1 = (k : Int)
        · refine ⟨m0, (mem_allM P k m0).mpr ⟨b1, d1, fun x hx => ⟨(a3 x (List.mem_append_left _ hx)).1, (a3 x (List.mem_append_left _ hx)).2.1, by rw [← e]; exact lt x hx⟩⟩, ?_⟩
          refine List.mem_cons_of_mem _ (List.mem_map.mpr ⟨y.2, List.mem_filter.mpr ⟨by rw [← e]; exact hy.1, ?_⟩, by rw [← e]⟩)
          rw [decide_eq_false fun h => d3 y.2 h y.2 (List.mem_singleton.mpr rfl) rfl]
          rfl
        · refine ⟨_, (mem_allM P k (m0 ++ [y])).mpr ⟨?_, ?_, fun x hx => ⟨(a3 x hx).1, (a3 x hx).2.1, ?_⟩⟩, List.mem_cons_self ..⟩
          · rw [List.map_append, List.pairwise_append]
            exact ⟨b1, List.pairwise_singleton _ _, b3⟩
          · rw [List.map_append, List.nodup_append]
            exact ⟨d1, List.nodup_cons.mpr ⟨(fun h => nomatch h), List.nodup_nil⟩, d3⟩
          · have h2 := hy.2.2
            rcases List.mem_append.mp hx with hx | hx
            · have := lt x hx
              omega
            · rw [List.mem_singleton.mp hx]
              omega
theorem flat_len {α β : Type} (f : α → List β) (b : Nat) : ∀ l : List α, (∀ x ∈ l, (f x).length ≤ b) → (l.flatMap f).length ≤ l.length * b
  | [], _ => Nat.zero_le _
  | x :: l, h => by
    rw [List.flatMap_cons, List.length_append, List.length_cons, Nat.add_mul, Nat.one_mul]
    have := flat_len f b l fun y hy => h y (List.mem_cons_of_mem _ hy)
    have := h x (List.mem_cons_self ..)
    omega
theorem stepM_len {P : Int → List Int} (h6 : ∀ r, (P r).length ≤ 6) (k : Int) (m : MM) : (stepM P k m).length ≤ 7 := by
  unfold stepM
  rw [List.length_cons, List.length_map]
  have := List.length_filter_le (fun c => !decide (c ∈ m.map (·.2))) (P k)
  have := h6 k
  omega
theorem allM_len {P : Int → List Int} (h6 : ∀ r, (P r).length ≤ 6) : ∀ k : Nat, (allM P k).length ≤ 7 ^ k
  | 0 => Nat.le_refl _
  | k + 1 => by
    have := flat_len (stepM P k) 7 (allM P k) fun x _ => stepM_len h6 k x
    have := Nat.mul_le_mul_right 7 (allM_len h6 k)
    rw [Nat.pow_succ]
    exact Nat.le_trans (by assumption) this
theorem allM_each {P : Int → List Int} : ∀ (k : Nat) (m : MM), m ∈ allM P k → m.length ≤ k
  | 0, m, h => by
    rw [List.mem_singleton.mp (show m ∈ [[]] from h)]
    exact Nat.le_refl _
  | k + 1, m, h => by
    obtain ⟨m0, h0, hm⟩ := List.mem_flatMap.mp (show m ∈ (allM P k).flatMap (stepM P k) from h)
    have := allM_each k m0 h0
    unfold stepM at hm
    rcases List.mem_cons.mp hm with rfl | hm
    · omega
    · obtain ⟨c, _, rfl⟩ := List.mem_map.mp hm
      rw [List.length_append, List.length_singleton]
      omega
/-- lists of lists of pairs -/
abbrev Ents := List (Addr × Tups × MM)
def eRefs (es : Ents) : List V := es.map fun e => V.ref e.1
def EntAt (K : PySem.W.Frag) (H : Hp) (es : Ents) : Prop := ∀ e ∈ es, H e.1 = some (.lst (refs e.2.1)) ∧ TupsAt K H e.2.1 ∧ keys e.2.1 = pairs2 e.2.2
theorem entAt_up {K : PySem.W.Frag} {H H' : Hp} {es : Ents} (s : Same H H') (h : EntAt K H es) : EntAt K H' es := fun e he => ⟨s _ _ (h e he).1, tups_up s (h e he).2.1, (h e he).2.2⟩
theorem eRefs_push (es : Ents) (e : Addr × Tups × MM) : eRefs (es ++ [e]) = eRefs es ++ [V.ref e.1] := by unfold eRefs; rw [List.map_append]; rfl
theorem eRefs_len (es : Ents) : (eRefs es).length = es.length := List.length_map ..
theorem eRefs_at {es : Ents} {i : Nat} {y : V} (h : (eRefs es)[i]? = some y) : ∃ e, es[i]? = some e ∧ y = V.ref e.1 := by
  unfold eRefs at h
  rw [List.getElem?_map] at h
  cases e : es[i]? with
  | none => rw [e] at h; cases h
  | some q => rw [e] at h; exact ⟨q, rfl, (Option.some.inj h).symm⟩
def mms (es : Ents) : List MM := es.map fun e => e.2.2
def spAllM (K : PySem.W.Frag) : Sp := fun vs H Q _ => ∃ (t : Addr) (tb : Tups), vs = [.ref t] ∧ TabAt K H t tb ∧ tb.length ≤ 5 ∧ (∀ r, (tP (keys tb) r).length ≤ 6) ∧
  ∀ (H' : Hp) (l : Addr) (es : Ents), Same H H' → H l = none → H' l = some (.lst (eRefs es)) → EntAt K H' es → mms es = allM (tP (keys tb)) tb.length → Q (.ref l) H'
def spDrawn (K : PySem.W.Frag) : Sp := fun vs H Q _ => ∃ (p1 : Addr) (ns : List Int) (at' : Int), vs = [.ref p1, .int at'] ∧ SqL K H p1 (ns.map V.int) ∧ (∀ n ∈ ns, Num n) ∧ 0 ≤ at' ∧ at' + 6 ≤ (ns.length : Int) ∧
  ∀ (H' : Hp) (t : Addr) (tb : Tups), Same H H' → H' t = some (.lst (refs tb)) → (∀ p ∈ tb, SqL K H' p.1 (p.2.map V.int)) → tb.length ≤ 5 → (∀ p ∈ tb, p.2.Nodup ∧ ∀ c ∈ p.2, 0 ≤ c ∧ c < 6) → Q (.ref t) H'
def spSome (K : PySem.W.Frag) : Sp := fun vs H Q _ => ∃ (n : Int) (many : Nat), vs = [.int n, .int many] ∧ many ≤ 6 ∧ Num n ∧
  ∀ (H' : Hp) (l : Addr) (W : List Int), Same H H' → H' l = some (.lst (W.map V.int)) → W.Nodup → (∀ r ∈ W, 0 ≤ r ∧ r < (many : Int)) → Q (.ref l) H'
def spBent (K : PySem.W.Frag) : Sp := fun vs H Q _ => ∃ (p1 tl : Addr) (ns : List Int) (at' : Int) (ks : Tups) (m : MM), vs = [.ref p1, .int at', .ref tl] ∧ SqL K H p1 (ns.map V.int) ∧ (∀ n ∈ ns, Num n) ∧ 0 ≤ at' ∧ at' + 3 ≤ (ns.length : Int) ∧ SqL K H tl (refs ks) ∧ TupsAt K H ks ∧ keys ks = pairs2 m ∧ m.length ≤ 20 ∧
  ∀ (H' : Hp) (l : Addr) (ks' : Tups) (m' : MM), Same H H' → H' l = some (.lst (refs ks')) → TupsAt K H' ks' → keys ks' = pairs2 m' → m'.length ≤ 40 → Q (.ref l) H'
def spRowsOf (K : PySem.W.Frag) : Sp := fun vs H Q _ => ∃ (tl rl : Addr) (ks : Tups) (m : MM) (W : List Int), vs = [.ref tl, .ref rl] ∧ SqL K H tl (refs ks) ∧ TupsAt K H ks ∧ keys ks = pairs2 m ∧ m.length ≤ 40 ∧ SqL K H rl (W.map V.int) ∧
  ∀ H', Same H H' → Q (.int (m.filter fun x => decide (x.1 ∈ W)).length) H'
def spColsOf (K : PySem.W.Frag) : Sp := fun vs H Q _ => ∃ (tl rl : Addr) (ks : Tups) (m : MM) (W : List Int), vs = [.ref tl, .ref rl] ∧ SqL K H tl (refs ks) ∧ TupsAt K H ks ∧ keys ks = pairs2 m ∧ m.length ≤ 40 ∧ SqL K H rl (W.map V.int) ∧
  ∀ H', Same H H' → Q (.int (m.filter fun x => decide (x.2 ∈ W)).length) H'
end Sw

namespace Sw
open PySem PySem.Spec PyProof.Rows L2
theorem ixN_nat {j n : Nat} (h : j < n) : ixN n (j : Int) = some j := by unfold ixN; rw [if_pos (Int.natCast_nonneg j), if_pos (by omega)]; rfl
theorem seqIx_nat {j n : Nat} (h : j < n) : seqIndex? (j : Int) n = some j := by
  unfold seqIndex?
  rw [if_neg (by omega : ¬ ((j : Int) < 0))]
  show (if (decide (0 ≤ (j : Int)) && decide ((j : Int) < n)) = true then some (j : Int).toNat else none) = some j
  rw [decide_eq_true (Int.natCast_nonneg j), decide_eq_true (by omega : (j : Int) < n)]
  rfl
theorem refs_erase : ∀ (ks : Tups) (j : Nat), (refs ks).eraseIdx j = refs (ks.eraseIdx j)
  | [], _ => rfl
  | _ :: _, 0 => rfl
  | k :: ks, j + 1 => congrArg (V.ref k.1 :: ·) (refs_erase ks j)
theorem refs_rev (ks : Tups) : (refs ks).reverse = refs ks.reverse := by unfold refs; rw [List.map_reverse]
theorem refs_set (ks : Tups) (j : Nat) (p : Addr) (k : List Int) : (refs ks).set j (.ref p) = refs (ks.set j (p, k)) := by unfold refs; rw [List.map_set]
def Prs (ks : Tups) : Prop := ∀ p ∈ ks, ∃ u v : Int, p.2 = [u, v]
theorem prs_of : ∀ {ks : Tups}, Prs ks → ∃ m : MM, keys ks = pairs2 m
  | [], _ => ⟨[], rfl⟩
  | k :: ks, h => by
    obtain ⟨u, v, e⟩ := h k (List.mem_cons_self ..)
    obtain ⟨m, hm⟩ := prs_of fun p hp => h p (List.mem_cons_of_mem _ hp)
    refine ⟨(u, v) :: m, ?_⟩
    show k.2 :: keys ks = [u, v] :: pairs2 m
    rw [e, hm]
theorem prs_mm {ks : Tups} {m : MM} (h : keys ks = pairs2 m) : Prs ks := fun p hp => by
  have h1 : p.2 ∈ keys ks := List.mem_map_of_mem (f := fun z : Addr × List Int => z.2) hp
  rw [h] at h1
  obtain ⟨x, _, e⟩ := List.mem_map.mp h1
  exact ⟨x.1, x.2, e.symm⟩
theorem mm_len {ks : Tups} {m : MM} (h : keys ks = pairs2 m) : m.length = ks.length := by
  have := congrArg List.length h
  unfold pairs2 at this
  rw [keys_len, List.length_map] at this
  exact this.symm
/-- a list of pairs in the making, with what stands before and behind it among the locals -/
def BentAt (K : PySem.W.Frag) (H : Hp) (a b : List (Option V)) (n most : Nat) (S : Prop) : L2.St → Hp → Prop := fun σ H2 => ∃ (fl : Addr) (ks : Tups), σ = a ++ some (.ref fl) :: b ∧ Same H H2 ∧ H fl = none ∧ H2 fl = some (.lst (refs ks)) ∧ TupsAt K H2 ks ∧ Prs ks ∧ ks.length ≤ most ∧ (S → ks.length = n)
theorem bent_app {K : PySem.W.Frag} {H H2 H3 : Hp} {a b : List (Option V)} {fl pt : Addr} {ks : Tups} {u v : Int} {n most : Nat} {S : Prop} (nf : H fl = none) (s2 : Same H H2) (e : H2 fl = some (.lst (refs ks))) (s3 : Same H2 H3) (t : TupsAt K H3 ks) (tt : SqT K H3 pt ([u, v].map V.int)) (p : Prs ks) (l : ks.length < most) (hS : ¬ S) :
    BentAt K H a b n most S (a ++ some (.ref fl) :: b) (upd H3 fl (.lst (refs ks ++ [V.ref pt]))) := by
  have e3 := s3 _ _ e
  refine ⟨fl, ks ++ [(pt, [u, v])], rfl, same_put nf (s2.trans s3), nf, by rw [upd_same, ← refs_push], tups_app (fun q hq => sqT_lst e3 (t q hq)) (tups_one (sqT_lst e3 tt)), fun q hq => ?_, by rw [List.length_append]; exact l, fun h => absurd h hS⟩
  rcases List.mem_append.mp hq with hq | hq
  · exact p q hq
  · rw [List.mem_singleton.mp hq]
    exact ⟨u, v, rfl⟩
theorem bent_set {K : PySem.W.Frag} {H H2 H3 : Hp} {a b : List (Option V)} {fl pt : Addr} {ks : Tups} {u v : Int} {n most j : Nat} {S : Prop} (nf : H fl = none) (s2 : Same H H2) (e : H2 fl = some (.lst (refs ks))) (s3 : Same H2 H3) (t : TupsAt K H3 ks) (tt : SqT K H3 pt ([u, v].map V.int)) (p : Prs ks) (l : ks.length ≤ most) (hS : S → ks.length = n) :
    BentAt K H a b n most S (a ++ some (.ref fl) :: b) (upd H3 fl (.lst ((refs ks).set j (V.ref pt)))) := by
  have e3 := s3 _ _ e
  refine ⟨fl, ks.set j (pt, [u, v]), rfl, same_put nf (s2.trans s3), nf, by rw [upd_same, refs_set ks j pt [u, v]], fun q hq => ?_, fun q hq => ?_, by rw [List.length_set]; exact l, fun h => by rw [List.length_set]; exact hS h⟩
  · rcases List.mem_or_eq_of_mem_set hq with hq | rfl
    · exact sqT_lst e3 (t q hq)
    · exact sqT_lst e3 tt
  · rcases List.mem_or_eq_of_mem_set hq with hq | rfl
    · exact p q hq
    · exact ⟨u, v, rfl⟩
theorem kindI {kd c : Int} (g : decide (V.int kd = V.int c) = true) : kd = c := by
  have := of_decide_eq_true g
  injection this
end Sw

namespace L2
open PySem PySem.Spec PyProof.Rows
theorem call_list_ofK {X : Cx} {K : PySem.W.Frag} (h : X.K = K := by rfl) : CallR X (.type "list") (fun xs H Q => ∃ p ys, xs = [V.ref p] ∧ (SqL K H p ys ∨ SqT K H p ys) ∧ ∀ l, H l = none → Q (.ref l) (upd H l (.lst ys))) := h ▸ call_list_of
end L2

namespace Sw
open PySem PySem.Spec PyProof.Rows L2
theorem asc_pairs {g : MM} (ha : AscL (pairs2 g)) (hn : (g.map (·.1)).Nodup) : (g.map (·.1)).Pairwise (· < ·) := by
  unfold AscL pairs2 at ha
  rw [List.pairwise_map] at ha ⊢
  rw [List.Nodup, List.pairwise_map] at hn
  refine (ha.and hn).imp fun {a b} h => ?_
  obtain ⟨h1, h2⟩ := h
  have h3 : (decide (b.1 < a.1) || (decide (b.1 = a.1) && ltI [b.2] [a.2])) = false := h1
  rw [Bool.or_eq_false_iff] at h3
  have := of_decide_eq_false h3.1
  omega
theorem eqvAll_tups : ∀ a b : List (List Int), PyData.eqvAll (a.map dTI) (b.map dTI) = decide (a = b)
  | [], [] => rfl
  | [], _ :: _ => rfl
  | _ :: _, [] => rfl
  | x :: a, y :: b => by
    show (PyData.eqv (dTI x) (dTI y) && PyData.eqvAll (a.map dTI) (b.map dTI)) = _
    rw [eqv_ti, eqvAll_tups a b]
    by_cases h : x = y
    · by_cases h2 : a = b
      · rw [decide_eq_true h, decide_eq_true h2, decide_eq_true (by rw [h, h2])]; rfl
      · rw [decide_eq_true h, decide_eq_false h2, decide_eq_false (fun z => h2 (List.cons.inj z).2)]; rfl
    · rw [decide_eq_false h, decide_eq_false (fun z => h (List.cons.inj z).1)]; rfl
theorem pairs2_inj : ∀ {a b : MM}, pairs2 a = pairs2 b → a = b
  | [], [], _ => rfl
  | [], _ :: _, h => nomatch h
  | _ :: _, [], h => nomatch h
  | x :: a, y :: b, h => by
    have h1 : [x.1, x.2] = [y.1, y.2] := (List.cons.inj h).1
    injection h1 with h2 h3
    injection h3 with h4
    rw [pairs2_inj (List.cons.inj h).2, show x = y from Prod.ext h2 h4]
def mmD (m : MM) : PyData := .list ((pairs2 m).map dTI)
theorem eqv_mm (a b : MM) : PyData.eqv (mmD a) (mmD b) = decide (a = b) := by
  show PyData.eqvAll ((pairs2 a).map dTI) ((pairs2 b).map dTI) = _
  rw [eqvAll_tups]
  by_cases h : a = b
  · rw [h, decide_eq_true rfl, decide_eq_true rfl]
  · rw [decide_eq_false h, decide_eq_false fun z => h (pairs2_inj z)]
theorem any_mms (ms : List MM) (m : MM) : ((ms.map mmD).any fun z => PyData.eqv z (mmD m)) = decide (m ∈ ms) := by
  induction ms with
  | nil => rfl
  | cons q r ih =>
    rw [List.map_cons, List.any_cons, ih, eqv_mm]
    by_cases h : q = m
    · subst h
      simp
    · rw [decide_eq_false h, Bool.false_or]
      exact decide_eq_decide.mpr ⟨fun z => List.mem_cons_of_mem _ z, fun z => by
        rcases List.mem_cons.mp z with e | e
        · exact absurd e.symm h
        · exact e⟩
theorem lay_mm (m : MM) : Lay 2 (mmD m) := lay_tups _
theorem lay_mms (ms : List MM) : Lay 3 (.list (ms.map mmD)) := lay_list fun d hd => by
  obtain ⟨m, _, rfl⟩ := List.mem_map.mp hd
  exact lay_mm m
theorem dp_mm {K : PySem.W.Frag} {H : Hp} {l : Addr} {ks : Tups} {m : MM} (h : H l = some (.lst (refs ks))) (t : TupsAt K H ks) (e : keys ks = pairs2 m) : Dp K H (.ref l) (mmD m) := by
  have := dp_l h (dp_tups t)
  rw [e] at this
  exact this
theorem dp_mms {K : PySem.W.Frag} {H : Hp} : ∀ {es : Ents}, EntAt K H es → DpAll K H (eRefs es) ((mms es).map mmD)
  | [], _ => .nil
  | e :: r, h => .cons (dp_mm (h e List.mem_cons_self).1 (h e List.mem_cons_self).2.1 (h e List.mem_cons_self).2.2) (dp_mms fun q hq => h q (List.mem_cons_of_mem _ hq))
def tabD (rows : List (List Int)) : PyData := .list (rows.map fun r => .list (r.map PyData.int))
theorem lay_tab (rows : List (List Int)) : Lay 2 (tabD rows) := lay_list fun d hd => by
  obtain ⟨r, _, rfl⟩ := List.mem_map.mp hd
  refine lay_list fun d hd => ?_
  obtain ⟨i, _, rfl⟩ := List.mem_map.mp hd
  exact lay_int 0 i
theorem dpAll_tab {K : PySem.W.Frag} {H : Hp} : ∀ {tb : Tups}, (∀ p ∈ tb, SqL K H p.1 (p.2.map V.int)) → DpAll K H (refs tb) ((keys tb).map fun r => .list (r.map PyData.int))
  | [], _ => .nil
  | p :: r, h => .cons (.lst (h p List.mem_cons_self) (dpAll_ints _)) (dpAll_tab fun q hq => h q (List.mem_cons_of_mem _ hq))
theorem dp_tab {K : PySem.W.Frag} {H : Hp} {t : Addr} {tb : Tups} (h : TabAt K H t tb) : Dp K H (.ref t) (tabD (keys tb)) := .lst h.1 (dpAll_tab h.2)
theorem isMt_iff (rows : List (List Int)) (m : MM) : isMt rows m = decide (m ∈ allM (tP rows) rows.length) := by
  have e : isMt rows m = true ↔ m ∈ allM (tP rows) rows.length := by
    rw [mem_allM]
    unfold isMt MtTo
    rw [Bool.and_eq_true, Bool.and_eq_true, asc1_iff, decide_eq_true_iff, List.all_eq_true]
    constructor
    · rintro ⟨⟨h1, h2⟩, h3⟩
      refine ⟨h1, h2, fun x hx => ?_⟩
      have h4 := of_decide_eq_true (h3 x hx)
      obtain ⟨h5, l, hl, _⟩ := tP_some h4
      have := (List.getElem?_eq_some_iff.mp hl).1
      exact ⟨h4, h5, by omega⟩
    · rintro ⟨h1, h2, h3⟩
      exact ⟨⟨h1, h2⟩, fun x hx => decide_eq_true (h3 x hx).1⟩
  by_cases h : m ∈ allM (tP rows) rows.length
  · rw [decide_eq_true h]
    exact e.mpr h
  · rw [decide_eq_false h]
    cases e2 : isMt rows m with
    | false => rfl
    | true => exact absurd (e.mp e2) h
theorem mt_of_to {P : Int → List Int} {k : Int} {m : MM} (h : MtTo P k m) : Mt P m := by
  obtain ⟨h1, h2, h3⟩ := h
  have hnd : (m.map (·.1)).Nodup := h1.imp fun {a b} h e => by omega
  refine ⟨hnd, fun r c e => (h3 (r, c) (lk_some e)).1, fun r r' c e1 e2 => ?_⟩
  have m1 := lk_some e1
  have m2 := lk_some e2
  have hns : ((swp m).map (·.1)).Nodup := by rw [swp_keys]; exact h2
  have a1 := lk_mem (m := swp m) (k := c) (v := r) hns (List.mem_map.mpr ⟨(r, c), m1, rfl⟩)
  have a2 := lk_mem (m := swp m) (k := c) (v := r') hns (List.mem_map.mpr ⟨(r', c), m2, rfl⟩)
  rw [a1] at a2
  exact Option.some.inj a2
theorem cntR {P : Int → List Int} {m : MM} {W : List Int} (h : Mt P m) (hW : W.Nodup) : (m.filter fun x => decide (x.1 ∈ W)).length = (W.filter (has m)).length := by
  have hn : ((m.filter fun x => decide (x.1 ∈ W)).map (·.1)).Nodup := List.Nodup.sublist (List.Sublist.map _ List.filter_sublist) h.nd
  have a := len_le_of_sub hn (m := W.filter (has m)) fun r hr => by
    obtain ⟨x, hx, rfl⟩ := List.mem_map.mp hr
    obtain ⟨h1, h2⟩ := List.mem_filter.mp hx
    exact List.mem_filter.mpr ⟨of_decide_eq_true h2, by unfold has; rw [lk_mem (v := x.2) h.nd h1]; rfl⟩
  have b := len_le_of_sub (hW.filter (has m)) (m := (m.filter fun x => decide (x.1 ∈ W)).map (·.1)) fun r hr => by
    obtain ⟨h1, h2⟩ := List.mem_filter.mp hr
    obtain ⟨c, e⟩ := has_some h2
    exact List.mem_map.mpr ⟨(r, c), List.mem_filter.mpr ⟨lk_some e, decide_eq_true h1⟩, rfl⟩
  rw [List.length_map] at a b
  omega
theorem cntC {P : Int → List Int} {m : MM} {C : List Int} (h : Mt P m) (hC : C.Nodup) : (m.filter fun x => decide (x.2 ∈ C)).length = (C.filter (has (swp m))).length := by
  have hn : ((m.filter fun x => decide (x.2 ∈ C)).map (·.2)).Nodup := List.Nodup.sublist (List.Sublist.map _ List.filter_sublist) h.cn
  have hns : ((swp m).map (·.1)).Nodup := by rw [swp_keys]; exact h.cn
  have a := len_le_of_sub hn (m := C.filter (has (swp m))) fun c hr => by
    obtain ⟨x, hx, rfl⟩ := List.mem_map.mp hr
    obtain ⟨h1, h2⟩ := List.mem_filter.mp hx
    refine List.mem_filter.mpr ⟨of_decide_eq_true h2, ?_⟩
    have : (x.2, x.1) ∈ swp m := List.mem_map.mpr ⟨x, h1, rfl⟩
    unfold has
    rw [lk_mem (v := x.1) hns this]
    rfl
  have b := len_le_of_sub (hC.filter (has (swp m))) (m := (m.filter fun x => decide (x.2 ∈ C)).map (·.2)) fun c hr => by
    obtain ⟨h1, h2⟩ := List.mem_filter.mp hr
    obtain ⟨r, e⟩ := has_some h2
    obtain ⟨x, hx, ex⟩ := List.mem_map.mp (lk_some e)
    have hc : x.2 = c := (Prod.mk.inj ex).1
    exact List.mem_map.mpr ⟨x, List.mem_filter.mpr ⟨hx, decide_eq_true (by rw [hc]; exact h1)⟩, hc⟩
  rw [List.length_map] at a b
  omega
theorem row6 {tb : Tups} (h : ∀ p ∈ tb, p.2.Nodup ∧ ∀ c ∈ p.2, 0 ≤ c ∧ c < 6) (r : Int) : (tP (keys tb) r).length ≤ 6 := by
  unfold tP
  split
  · cases e : (keys tb)[r.toNat]? with
    | none => exact Nat.zero_le _
    | some l =>
      have hl : l ∈ keys tb := List.mem_of_getElem? e
      obtain ⟨p, hp, rfl⟩ := List.mem_map.mp hl
      obtain ⟨hn, hr⟩ := h p hp
      have n1 : (p.2.map Int.toNat).Nodup := by
        rw [List.Nodup, List.pairwise_map]
        refine hn.imp_of_mem fun {a b} ha hb hab e => hab ?_
        have := hr a ha
        have := hr b hb
        omega
      have := nodup_below 6 _ n1 fun x hx => by
        obtain ⟨a, ha, rfl⟩ := List.mem_map.mp hx
        have := hr a ha
        omega
      rw [List.length_map] at this
      exact this
  · exact Nat.zero_le _
theorem tabOk_of {tb : Tups} (hl : tb.length ≤ 5) (h : ∀ p ∈ tb, p.2.Nodup ∧ ∀ c ∈ p.2, 0 ≤ c ∧ c < 6) : TabOk (keys tb) := by
  refine ⟨by rw [keys_len]; omega, fun l hl c hc => ?_, fun l hl => ?_⟩
  · obtain ⟨p, hp, rfl⟩ := List.mem_map.mp hl
    have := (h p hp).2 c hc
    omega
  · obtain ⟨p, hp, rfl⟩ := List.mem_map.mp hl
    exact (h p hp).1
end Sw
set_option Elab.async false
set_option linter.all false
set_option maxRecDepth 100000
set_option maxHeartbeats 4000000
/-! Comprehensions of several clauses: list comprehensions of three, set comprehensions of two. -/
namespace SwC
open PySem PySem.Spec PyProof.Rows L2
section
variable {prog : Program} {w : World} {A : Around} {R : Result → Shared → Prop} {s : Shared} {e : Expr} {d : Nat} {t i i1 : Expr} {fs : List Expr} {it acc : Value} {env : Env}
def tests (fs : List Expr) (env : Env) : Sem Bool := forIn fs true fun c r => if r = true then do
  let ok ← PySem.isTrue c env (eval c env)
  pure (ForInStep.yield ok) else pure (ForInStep.yield r)
/-- a clause with another one behind it -/
theorem loop_mid (hu : A.under (Code.compLoop e d it acc env) = A) (hq : (Code.compLoop e d it acc env).quiet = true)
    (hden : (model prog w).den (Code.compLoop e d it acc env) = (compTurn e d it acc env).onRaise (fun x => (do
      noteFrame x env
      theTreesLotGoes x))) (ht : compTurn e d it acc env = (do
      standAt i.pos
      let r ← pyNext it
      match r with
      | none => pure (Fin.done Flow.next)
      | some v => do
        letOwnedTupleGo t it v
        assign t env v
        let ok ← tests fs env
        if ok = true then do
          let x ← eval i1 env
          standAt i1.pos
          let x ← foldedSetIterable i1 env x
          let it1 ← holding [x] (pyIter x)
          let _ ← runOwn (Code.compStart e (d + 1) it1 acc env) env
          again (Code.compLoop e d it acc env)
        else again (Code.compLoop e d it acc env)))
    (hs : ∀ x, foldedSetIterable i1 env x = pure x) (I : Nat → Shared → Prop)
    (turn : ∀ n s, I n s → wpAny (model prog w) A (pyNext it) (fun r s₁ => match r with
      | none => R (Except.ok Flow.next) s₁
      | some v => wpAny (model prog w) A (letOwnedTupleGo t it v) (fun _ s₁' => wpAny (model prog w) A (assign t env v) (fun _ s₂ => wpAny (model prog w) A (tests fs env) (fun ok s₃ =>
          if ok = true then wpAny (model prog w) A (eval i1 env) (fun x s₄ => wpAny (model prog w) A (pyIter x) (fun it1 s₅ => codeAny (model prog w) A (Code.compStart e (d + 1) it1 acc env) (fun r s' => match r with
              | Except.ok _ => ∃ m, m < n ∧ I m s'
              | Except.error _ => False) s₅) (fun _ _ => False) s₄) (fun _ _ => False) s₃
          else ∃ m, m < n ∧ I m s₃) (fun _ _ => False) s₂) (fun _ _ => False) s₁') (fun _ _ => False) s₁) (fun _ _ => False) s)
    (n : Nat) (h : I n s) : codeAny (model prog w) A (Code.compLoop e d it acc env) R s := by
  refine codeAny_loop hq I (fun n s hI => ?_) n h
  rw [hu, hden]
  refine wpAny_noted ?_
  rw [ht]
  refine wpAny_bind (wpAny_standAt (wpAny_bind (wpAny_mono (turn n s hI) (fun r s₁ h₁ => ?_) fun _ _ z => z.elim)))
  cases r with
  | none => exact wpAny_pure h₁
  | some v =>
    refine wpAny_bind (wpAny_mono h₁ (fun _ s₁' h₁' => ?_) fun _ _ z => z.elim)
    refine wpAny_bind (wpAny_mono h₁' (fun _ s₂ h₂ => ?_) fun _ _ z => z.elim)
    refine wpAny_bind (wpAny_mono h₂ (fun ok s₃ h₃ => ?_) fun _ _ z => z.elim)
    cases ok with
    | false => exact wpAny_pure ⟨rfl, h₃⟩
    | true =>
      refine wpAny_bind (wpAny_mono h₃ (fun x s₄ h₄ => ?_) fun _ _ z => z.elim)
      refine wpAny_bind (wpAny_standAt (wpAny_bind (wpAny_of_eq (hs x) (wpAny_bind (wpAny_holding (wpAny_mono h₄ (fun it1 s₅ h₅ => wpAny_bind (wpAny_runOwn ?_ ?_)) fun _ _ z => z.elim))))))
      · rw [Around.mark_none]
        refine codeAny_mono h₅ fun r s' hr => ?_
        cases r with
        | ok f => exact wpAny_pure ⟨rfl, hr⟩
        | error x => exact hr.elim
      · intro x
        cases x
/-- the last clause -/
theorem loop_last {em : Sem Unit} (hu : A.under (Code.compLoop e d it acc env) = A) (hq : (Code.compLoop e d it acc env).quiet = true)
    (hden : (model prog w).den (Code.compLoop e d it acc env) = (compTurn e d it acc env).onRaise (fun x => (do
      noteFrame x env
      theTreesLotGoes x))) (ht : compTurn e d it acc env = (do
      standAt i.pos
      let r ← pyNext it
      match r with
      | none => pure (Fin.done Flow.next)
      | some v => do
        letOwnedTupleGo t it v
        assign t env v
        let ok ← tests fs env
        if ok = true then do
          em
          again (Code.compLoop e d it acc env)
        else again (Code.compLoop e d it acc env)))
    (I : Nat → Shared → Prop)
    (turn : ∀ n s, I n s → wpAny (model prog w) A (pyNext it) (fun r s₁ => match r with
      | none => R (Except.ok Flow.next) s₁
      | some v => wpAny (model prog w) A (letOwnedTupleGo t it v) (fun _ s₁' => wpAny (model prog w) A (assign t env v) (fun _ s₂ => wpAny (model prog w) A (tests fs env) (fun ok s₃ =>
          if ok = true then wpAny (model prog w) A em (fun _ s₅ => ∃ m, m < n ∧ I m s₅) (fun _ _ => False) s₃
          else ∃ m, m < n ∧ I m s₃) (fun _ _ => False) s₂) (fun _ _ => False) s₁') (fun _ _ => False) s₁) (fun _ _ => False) s)
    (n : Nat) (h : I n s) : codeAny (model prog w) A (Code.compLoop e d it acc env) R s := by
  refine codeAny_loop hq I (fun n s hI => ?_) n h
  rw [hu, hden]
  refine wpAny_noted ?_
  rw [ht]
  refine wpAny_bind (wpAny_standAt (wpAny_bind (wpAny_mono (turn n s hI) (fun r s₁ h₁ => ?_) fun _ _ z => z.elim)))
  cases r with
  | none => exact wpAny_pure h₁
  | some v =>
    refine wpAny_bind (wpAny_mono h₁ (fun _ s₁' h₁' => ?_) fun _ _ z => z.elim)
    refine wpAny_bind (wpAny_mono h₁' (fun _ s₂ h₂ => ?_) fun _ _ z => z.elim)
    refine wpAny_bind (wpAny_mono h₂ (fun ok s₃ h₃ => ?_) fun _ _ z => z.elim)
    cases ok with
    | false => exact wpAny_pure ⟨rfl, h₃⟩
    | true => exact wpAny_bind (wpAny_mono h₃ (fun _ s₄ h₄ => wpAny_pure ⟨rfl, h₄⟩) fun _ _ z => z.elim)
end
section
variable {prog : Program} {w : World} {A : Around} {R : Result → Shared → Prop} {s : Shared} {elt t i t1 i1 t2 i2 : Expr} {fs fs1 fs2 : List Expr} {scope : Scope} {pos : Pos} {it acc : Value} {env : Env}
abbrev cl (t i : Expr) (fs : List Expr) : Comprehension := ⟨t, i, fs, 0⟩
/-- the turns of the clauses -/
theorem turn3_0 : compTurn (elt.ListComp [cl t i fs, cl t1 i1 fs1, cl t2 i2 fs2] scope pos) 0 it acc env = (do
      standAt i.pos
      let r ← pyNext it
      match r with
      | none => pure (Fin.done Flow.next)
      | some v => do
        letOwnedTupleGo t it v
        assign t env v
        let ok ← tests fs env
        if ok = true then do
          let x ← eval i1 env
          standAt i1.pos
          let x ← foldedSetIterable i1 env x
          let it1 ← holding [x] (pyIter x)
          let _ ← runOwn (Code.compStart (elt.ListComp [cl t i fs, cl t1 i1 fs1, cl t2 i2 fs2] scope pos) (0 + 1) it1 acc env) env
          again (Code.compLoop (elt.ListComp [cl t i fs, cl t1 i1 fs1, cl t2 i2 fs2] scope pos) 0 it acc env)
        else again (Code.compLoop (elt.ListComp [cl t i fs, cl t1 i1 fs1, cl t2 i2 fs2] scope pos) 0 it acc env)) := rfl
theorem turn3_1 : compTurn (elt.ListComp [cl t i fs, cl t1 i1 fs1, cl t2 i2 fs2] scope pos) 1 it acc env = (do
      standAt i1.pos
      let r ← pyNext it
      match r with
      | none => pure (Fin.done Flow.next)
      | some v => do
        letOwnedTupleGo t1 it v
        assign t1 env v
        let ok ← tests fs1 env
        if ok = true then do
          let x ← eval i2 env
          standAt i2.pos
          let x ← foldedSetIterable i2 env x
          let it1 ← holding [x] (pyIter x)
          let _ ← runOwn (Code.compStart (elt.ListComp [cl t i fs, cl t1 i1 fs1, cl t2 i2 fs2] scope pos) (1 + 1) it1 acc env) env
          again (Code.compLoop (elt.ListComp [cl t i fs, cl t1 i1 fs1, cl t2 i2 fs2] scope pos) 1 it acc env)
        else again (Code.compLoop (elt.ListComp [cl t i fs, cl t1 i1 fs1, cl t2 i2 fs2] scope pos) 1 it acc env)) := rfl
theorem turnS_0 : compTurn (elt.SetComp [cl t i fs, cl t1 i1 fs1] scope pos) 0 it acc env = (do
      standAt i.pos
      let r ← pyNext it
      match r with
      | none => pure (Fin.done Flow.next)
      | some v => do
        letOwnedTupleGo t it v
        assign t env v
        let ok ← tests fs env
        if ok = true then do
          let x ← eval i1 env
          standAt i1.pos
          let x ← foldedSetIterable i1 env x
          let it1 ← holding [x] (pyIter x)
          let _ ← runOwn (Code.compStart (elt.SetComp [cl t i fs, cl t1 i1 fs1] scope pos) (0 + 1) it1 acc env) env
          again (Code.compLoop (elt.SetComp [cl t i fs, cl t1 i1 fs1] scope pos) 0 it acc env)
        else again (Code.compLoop (elt.SetComp [cl t i fs, cl t1 i1 fs1] scope pos) 0 it acc env)) := rfl
def emL (elt : Expr) (acc : Value) (env : Env) : Sem Unit := do
  let y ← eval elt env
  let _ ← call (Value.builtin "list.append") [acc, y]
  pure ()
def emS (elt : Expr) (acc : Value) (env : Env) : Sem Unit := do
  let y ← eval elt env
  standAt elt.pos
  let _ ← call (Value.builtin "set.add") [acc, y]
  pure ()
theorem turn3_2 : compTurn (elt.ListComp [cl t i fs, cl t1 i1 fs1, cl t2 i2 fs2] scope pos) 2 it acc env = (do
      standAt i2.pos
      let r ← pyNext it
      match r with
      | none => pure (Fin.done Flow.next)
      | some v => do
        letOwnedTupleGo t2 it v
        assign t2 env v
        let ok ← tests fs2 env
        if ok = true then do
          emL elt acc env
          again (Code.compLoop (elt.ListComp [cl t i fs, cl t1 i1 fs1, cl t2 i2 fs2] scope pos) 2 it acc env)
        else again (Code.compLoop (elt.ListComp [cl t i fs, cl t1 i1 fs1, cl t2 i2 fs2] scope pos) 2 it acc env)) := rfl
theorem turnS_1 : compTurn (elt.SetComp [cl t i fs, cl t1 i1 fs1] scope pos) 1 it acc env = (do
      standAt i1.pos
      let r ← pyNext it
      match r with
      | none => pure (Fin.done Flow.next)
      | some v => do
        letOwnedTupleGo t1 it v
        assign t1 env v
        let ok ← tests fs1 env
        if ok = true then do
          emS elt acc env
          again (Code.compLoop (elt.SetComp [cl t i fs, cl t1 i1 fs1] scope pos) 1 it acc env)
        else again (Code.compLoop (elt.SetComp [cl t i fs, cl t1 i1 fs1] scope pos) 1 it acc env)) := rfl
end
section
variable {prog : Program} {w : World} {A : Around} {R : Result → Shared → Prop} {s : Shared} {e : Expr} {d : Nat} {i : Expr} {it acc : Value} {env : Env} {p : Pos}
theorem start_at (hu : A.under (Code.compStart e d it acc env) = A) (hq : ∀ it, (Code.compLoop e d it acc env).quiet = true)
    (hden : (model prog w).den (Code.compStart e d it acc env) = (compStart e d it acc env).onRaise (fun x => (do
      noteFrame x env
      standAt p)))
    (hs : compStart e d it acc env = (do
      let a ← ask
      if a.params.followText "comprehension-iter-twice" = true then again (Code.compLoop e d it acc env)
      else do
        rule "comprehension.iter-twice"
        standAt i.pos
        let it' ← pyIter it
        again (Code.compLoop e d it' acc env)))
    (h0 : codeAny (model prog w) A (Code.compLoop e d it acc env) R s)
    (h : wpAny (model prog w) A (pyIter it) (fun it' s' => codeAny (model prog w) A (Code.compLoop e d it' acc env) R s') (fun _ _ => False) s) :
    codeAny (model prog w) A (Code.compStart e d it acc env) R s := by
  refine codeAny_of_tree ?_
  rw [hu, hden]
  refine wpAny_notedAt ?_
  rw [hs]
  refine wpAny_bind (wpAny_askSetting (wpAny_ite ?_))
  split
  · exact wpAny_pure ⟨hq _, h0⟩
  · exact wpAny_bind (wpAny_rule (wpAny_bind (wpAny_standAt (wpAny_bind (wpAny_mono h (fun it' s' h' => wpAny_pure ⟨hq _, h'⟩) fun _ _ z => z.elim)))))
end
end SwC
namespace SwC
open PySem PySem.Spec PyProof.Rows L2
abbrev Body := L2.St → Hp → (Hp → Prop) → Prop
/-- one clause: what it walks, its target, its tests, and what is done in each turn -/
def tCl (wi : TI) (g : TG) (tt : TT) (vs : List Nat) (body : Body) : Body := fun σ H Nx => wi σ H fun J H1 => ∃ W : Nat → Nat → Hp → Prop, (∃ m, W 0 m H1) ∧ ∀ j k H, W j k H → (J.stop j H ∧ Nx H) ∨ (J.go j H ∧ ∃ N1 : Hp → Prop, (∀ H', N1 H' → ∃ k', k' < k ∧ W (j + 1) k' H') ∧ ∀ x H', J.yld j H x H' → g x (wipe σ vs) H' fun σ3 H5 => wipe σ3 vs = wipe σ vs ∧ tt σ3 H5 fun b H6 => if b = true then body σ3 H6 N1 else N1 H6)
def Does (X : Cx) (B : (Shared → Prop) → Shared → Prop) (body : Body) (vs : List Nat) : Prop := ∀ (pins : List (Addr × Obj)) (σ : L2.St) (H : Hp) (s : Shared) (Nx : Hp → Prop), L2.Inv X pins σ H s → body σ H Nx → B (fun s' => ∃ H', L2.Inv X pins (wipe σ vs) H' s' ∧ Nx H') s
def LoopOk (M : Model) (A : Around) (env : Env) (e : Expr) (d : Nat) (acc : Value) (t : Expr) (fs : List Expr) (B : (Shared → Prop) → Shared → Prop) : Prop := ∀ (R : Result → Shared → Prop) (it : Value) (I : Nat → Shared → Prop),
  (∀ n s, I n s → wpAny M A (pyNext it) (fun r s₁ => match r with
      | none => R (Except.ok Flow.next) s₁
      | some v => wpAny M A (letOwnedTupleGo t it v) (fun _ s₁' => wpAny M A (assign t env v) (fun _ s₂ => wpAny M A (tests fs env) (fun ok s₃ =>
          if ok = true then B (fun s' => ∃ m, m < n ∧ I m s') s₃
          else ∃ m, m < n ∧ I m s₃) (fun _ _ => False) s₂) (fun _ _ => False) s₁') (fun _ _ => False) s₁) (fun _ _ => False) s) →
  ∀ (n : Nat) (s : Shared), I n s → codeAny M A (Code.compLoop e d it acc env) R s
/-- the walk of a clause -/
theorem cl_loop {X : Cx} {B : (Shared → Prop) → Shared → Prop} {body : Body} {vs vsB : List Nat} {t : Expr} {fs : List Expr} {e : Expr} {d : Nat} {acc : Value} {g : TG} {tt : TT} {J : It} {fp : List Addr} {it : Addr} {tn : Nat → Heap → Prop} {pins : List (Addr × Obj)} {σ : L2.St} {R : Result → Shared → Prop} {Nx : Hp → Prop} {W : Nat → Nat → Hp → Prop}
    (hxe : X.xe = fun _ _ => False) (hc : X.calm = true)
    (hB : ∀ (P P' : Shared → Prop) s, (∀ s', P s' → P' s') → B P s → B P' s)
    (pg : PG X t g) (pt : PTs X fs tt) (hl : LoopOk (model X.prog X.w) X.A X.env e d acc t fs B) (hd : Does X B body vsB) (hv : ∀ i ∈ vsB, i ∈ vs)
    (T : Turn X.prog X.w X.K t J fp it tn) (f : ∀ H, (∀ b ∈ fp, H b = none) → ∀ b ∈ fp, FpOk X pins H b)
    (turn : ∀ j k H, W j k H → (J.stop j H ∧ Nx H) ∨ (J.go j H ∧ ∃ N1 : Hp → Prop, (∀ H', N1 H' → ∃ k', k' < k ∧ W (j + 1) k' H') ∧ ∀ x H', J.yld j H x H' → g x (wipe σ vs) H' fun σ3 H5 => wipe σ3 vs = wipe σ vs ∧ tt σ3 H5 fun b H6 => if b = true then body σ3 H6 N1 else N1 H6))
    (hR : ∀ H' s', L2.Inv X pins (wipe σ vs) H' s' → Nx H' → R (Except.ok Flow.next) s')
    {j m : Nat} {H : Hp} {s : Shared} (I0 : L2.Inv X pins (wipe σ vs) H s) (st : tn j s.heap) (n0 : ∀ b ∈ fp, H b = none) (w0 : W j m H) :
    codeAny (model X.prog X.w) X.A (Code.compLoop e d (.ref it) acc X.env) R s := by
  refine hl R (.ref it) (fun k s' => ∃ j H', L2.Inv X pins (wipe σ vs) H' s' ∧ tn j s'.heap ∧ (∀ b ∈ fp, H' b = none) ∧ W j k H') (fun n s5 a => ?_) m s ⟨j, H, I0, st, n0, w0⟩
  obtain ⟨j, H5, I5, st5, n5, w5⟩ := a
  rcases turn j n H5 w5 with ⟨stop, nx⟩ | ⟨go, N1, hN1, step⟩
  · refine thnF (T.done X rfl rfl rfl hc j pins s5 (wipe σ vs) H5 (fun _ _ => False) I5 (f H5 n5) st5 stop) fun r s6 z => ?_
    obtain ⟨rfl, I6⟩ := z
    exact hR H5 s6 I6 nx
  · refine thnF (T.item X rfl rfl rfl hc j pins s5 (wipe σ vs) H5 (fun _ _ => False) I5 (f H5 n5) st5 go) fun r s6 z => ?_
    obtain ⟨u, rfl, h6⟩ := z
    refine thnF h6 fun _ s7 z => ?_
    obtain ⟨x, H7, I7, r7, y7, st7, n7⟩ := z
    have I7' := I7.pinned (f H7 n7) (T.obj (j + 1) s7.heap st7)
    have h1 := pg.run (pins ++ pinsAt fp s7.heap) s7 (wipe σ vs) H7 x u _ I7' r7 (step x H7 y7)
    rw [hxe] at h1
    refine thnF h1 fun _ s8 z => ?_
    obtain ⟨σ8, H8, I8, hw8, q8⟩ := z
    have h2 := pt.run (pins ++ pinsAt fp s7.heap) s8 σ8 H8 _ I8 q8
    rw [hxe] at h2
    refine thnF h2 fun b s9 z => ?_
    obtain ⟨H9, I9, q9⟩ := z
    have fin : ∀ {σ9 : L2.St} {s' : Shared} {H' : Hp}, L2.Inv X (pins ++ pinsAt fp s7.heap) σ9 H' s' → (wipe σ vs).length = σ9.length → (∀ (i : Nat) (v : V), (wipe σ vs)[i]? = some (some v) → σ9[i]? = some (some v)) → N1 H' → ∃ m, m < n ∧ ∃ j H', L2.Inv X pins (wipe σ vs) H' s' ∧ tn j s'.heap ∧ (∀ b ∈ fp, H' b = none) ∧ W j m H' := by
      intro σ9 s' H' I' h1 h2 nx
      obtain ⟨m', hm, w'⟩ := hN1 H' nx
      have pin' : ∀ b ∈ fp, ∀ o, s7.heap.get? b = some o → s'.heap.get? b = some o ∧ H' b = none := fun b hb o ho => by
        have z := I'.pin (b, o) (List.mem_append_right _ (List.mem_append_right _ (mem_pinsAt hb ho)))
        exact ⟨z.1, z.2.1⟩
      refine ⟨m', hm, j + 1, H', (I'.unpinned).weak h1 h2, T.keep (j + 1) s7.heap s'.heap st7 fun b hb o ho => (pin' b hb o ho).1, fun b hb => ?_, w'⟩
      obtain ⟨o, ho, _⟩ := T.obj (j + 1) s7.heap st7 b hb
      exact (pin' b hb o ho).2
    have hl8 : (wipe σ vs).length = σ8.length := by rw [← hw8, wipe_length]
    cases b with
    | false => exact fin I9 hl8 (fun j v ej => (wipe_some (by rw [hw8]; exact ej)).1) q9
    | true =>
      refine hB _ _ _ (fun s' z => ?_) (hd _ σ8 H9 s9 N1 I9 q9)
      obtain ⟨H10, I10, nx⟩ := z
      refine fin I10 (hl8.trans (wipe_length σ8 vsB).symm) (fun j v ej => ?_) nx
      obtain ⟨e1, e2⟩ := wipe_some (σ := σ8) (vs := vs) (by rw [hw8]; exact ej)
      rw [wipe_out fun z => e2 (hv j z)]
      exact e1
/-- a clause behind another one -/
def BMid (M : Model) (A : Around) (env : Env) (e : Expr) (d : Nat) (i : Expr) (acc : Value) : (Shared → Prop) → Shared → Prop := fun P s => wpAny M A (eval i env) (fun x s₄ => wpAny M A (pyIter x) (fun it1 s₅ => codeAny M A (Code.compStart e d it1 acc env) (fun r s' => match r with
  | Except.ok _ => P s'
  | Except.error _ => False) s₅) (fun _ _ => False) s₄) (fun _ _ => False) s
def StartOk (M : Model) (A : Around) (env : Env) (e : Expr) (d : Nat) (acc : Value) : Prop := ∀ (R : Result → Shared → Prop) (it : Value) (s : Shared), codeAny M A (Code.compLoop e d it acc env) R s → wpAny M A (pyIter it) (fun it' s' => codeAny M A (Code.compLoop e d it' acc env) R s') (fun _ _ => False) s → codeAny M A (Code.compStart e d it acc env) R s
theorem cl_does {X : Cx} {B : (Shared → Prop) → Shared → Prop} {body : Body} {vs vsB : List Nat} {t i : Expr} {fs : List Expr} {e : Expr} {d : Nat} {acc : Value} {wi : TI} {g : TG} {tt : TT}
    (hxe : X.xe = fun _ _ => False) (hc : X.calm = true)
    (hB : ∀ (P P' : Shared → Prop) s, (∀ s', P s' → P' s') → B P s → B P' s)
    (pi : PI X t i wi) (pg : PG X t g) (pt : PTs X fs tt) (hl : LoopOk (model X.prog X.w) X.A X.env e d acc t fs B) (hs : StartOk (model X.prog X.w) X.A X.env e d acc) (hd : Does X B body vsB) (hv : ∀ i ∈ vsB, i ∈ vs) :
    Does X (BMid (model X.prog X.w) X.A X.env e d i acc) (tCl wi g tt vs body) vs := by
  intro pins σ H s Nx I h
  have h1 := pi.run pins s σ H _ I h
  rw [hxe] at h1
  refine thnF h1 fun xv s1 hx => thnF hx fun itv s2 h2 => ?_
  obtain ⟨it, fp, tn, J, H2, rfl, I2, T, st2, f2, W, ⟨m0, w0⟩, turn⟩ := h2
  have f : ∀ H, (∀ b ∈ fp, H b = none) → ∀ b ∈ fp, FpOk X pins H b := fun H hn b hb => ⟨hn b hb, (f2 b hb).2⟩
  have I2' : L2.Inv X pins (wipe σ vs) H2 s2 := I2.weak (wipe_length σ vs) fun j v ej => (wipe_some ej).1
  have loop : codeAny (model X.prog X.w) X.A (Code.compLoop e d (.ref it) acc X.env) (fun r s' => match r with
      | Except.ok _ => ∃ H', L2.Inv X pins (wipe σ vs) H' s' ∧ Nx H'
      | Except.error _ => False) s2 :=
    cl_loop hxe hc hB pg pt hl hd hv T f turn (fun H' s' I' nx => ⟨H', I', nx⟩) I2' st2 (fun b hb => (f2 b hb).1) w0
  exact hs _ _ _ loop (T.self _ 0 _ _ _ st2 loop)
/-- the first clause, when what it fills has been made -/
theorem outer {X : Cx} {pins : List (Addr × Obj)} {σ : L2.St} {H2 : Hp} {s2 S3 : Shared} {Q : VK} {ob : Obj} {o : HO} {D : Addr} {B : (Shared → Prop) → Shared → Prop} {body : Body} {vsB : List Nat} {t : Expr} {fs : List Expr} {e : Expr} {g : TG} {tt : TT} {J : It} {fp : List Addr} {it : Addr} {tn : Nat → Heap → Prop} {W : Nat → Nat → Hp → Prop} {scope : Scope} {own : List (Str × Nat)}
    (hc : X.calm = true) (hN : X.N.Nodup) (ok : BlkOk X.N X.env.scope scope own)
    (hB : ∀ (P P' : Shared → Prop) s, (∀ s', P s' → P' s') → B P s → B P' s)
    (hS : S3 = { s2 with heap := s2.heap.push ob }) (hD : D = s2.heap.objs.size)
    (I3 : L2.Inv X pins σ (upd H2 D o) S3) (T : Turn X.prog X.w X.K t J fp it tn) (st2 : tn 0 s2.heap) (f2 : ∀ b ∈ fp, FpOk X pins H2 b)
    (pg : PG (X.blk S3 (upd H2 D o) scope (compEnvC scope (cellsFrom (S3.heap.objs.size + 1) scope.names (cloFrom X.env.cells scope.names [])) S3.heap.objs.size X.env) fp) t g)
    (pt : PTs (X.blk S3 (upd H2 D o) scope (compEnvC scope (cellsFrom (S3.heap.objs.size + 1) scope.names (cloFrom X.env.cells scope.names [])) S3.heap.objs.size X.env) fp) fs tt)
    (hl : LoopOk (model X.prog X.w) X.A (compEnvC scope (cellsFrom (S3.heap.objs.size + 1) scope.names (cloFrom X.env.cells scope.names [])) S3.heap.objs.size X.env) e 0 (.ref D) t fs B)
    (hs : StartOk (model X.prog X.w) X.A (compEnvC scope (cellsFrom (S3.heap.objs.size + 1) scope.names (cloFrom X.env.cells scope.names [])) S3.heap.objs.size X.env) e 0 (.ref D))
    (hd : Does (X.blk S3 (upd H2 D o) scope (compEnvC scope (cellsFrom (S3.heap.objs.size + 1) scope.names (cloFrom X.env.cells scope.names [])) S3.heap.objs.size X.env) fp) B body vsB) (hv : ∀ i ∈ vsB, i ∈ own.map (·.2))
    {m0 : Nat} (w0 : W 0 m0 (upd H2 D o))
    (turn : ∀ j k H, W j k H → (J.stop j H ∧ Q (.ref D) H) ∨ (J.go j H ∧ ∃ N1 : Hp → Prop, (∀ H', N1 H' → ∃ k', k' < k ∧ W (j + 1) k' H') ∧ ∀ x H', J.yld j H x H' → g x (wipe σ (own.map (·.2))) H' fun σ3 H5 => wipe σ3 (own.map (·.2)) = wipe σ (own.map (·.2)) ∧ tt σ3 H5 fun b H6 => if b = true then body σ3 H6 N1 else N1 H6)) :
    codeAny (model X.prog X.w) X.A (Code.compStart e 0 (.ref it) (.ref D) (compEnvC scope (cellsFrom (S3.heap.objs.size + 1) scope.names (cloFrom X.env.cells scope.names [])) S3.heap.objs.size X.env))
      (compPost (model X.prog X.w) X.A X.xe none (EP X pins σ Q) (.ref D) S3.heap.objs.size)
      { heap := pushCells (S3.heap.push { cls := Value.type "dict", data := Data.dict #[] }) scope.names, gens := S3.gens, drawn := S3.drawn, toks := S3.toks, os := S3.os } := by
  have h3 : S3.heap = s2.heap.push ob := by rw [hS]
  have f3 : ∀ b ∈ fp, FpOk X pins (upd H2 D o) b ∧ b < S3.heap.objs.size := fun b hb => by
    obtain ⟨ob', e', _⟩ := T.obj 0 s2.heap st2 b hb
    have hlt := Heap.lt_size e'
    refine ⟨⟨?_, (f2 b hb).2⟩, ?_⟩
    · rw [upd_ne (by rw [hD]; exact Nat.ne_of_lt hlt)]
      exact (f2 b hb).1
    · rw [h3, Heap.size_push]
      exact Nat.lt_succ_of_lt hlt
  have n3 : ∀ b ∈ fp, (upd H2 D o) b = none := fun b hb => (f3 b hb).1.1
  have I4 := block_start I3 ok hN f3
  have st4 : tn 0 (pushCells (S3.heap.push { cls := Value.type "dict", data := Data.dict #[] }) scope.names) := T.keep 0 s2.heap _ st2 fun b _ ob' e' => pushCells_keeps scope.names _ b ob' (Heap.get?_push_of_some _ (by rw [h3]; exact Heap.get?_push_of_some _ e'))
  have f : ∀ H, (∀ b ∈ fp, H b = none) → ∀ b ∈ fp, FpOk (X.blk S3 (upd H2 D o) scope (compEnvC scope (cellsFrom (S3.heap.objs.size + 1) scope.names (cloFrom X.env.cells scope.names [])) S3.heap.objs.size X.env) fp) [] H b := fun H hn b hb =>
    ⟨hn b hb, (I4.ok.exf b hb).1, I4.ok.exfs b hb, .inl hb, fun x c e => (I4.ok.exf b hb).2 x c e, fun p hp => by cases hp⟩
  have loop := cl_loop (X := X.blk S3 (upd H2 D o) scope (compEnvC scope (cellsFrom (S3.heap.objs.size + 1) scope.names (cloFrom X.env.cells scope.names [])) S3.heap.objs.size X.env) fp) (R := compPost (model X.prog X.w) X.A X.xe none (EP X pins σ Q) (.ref D) S3.heap.objs.size) rfl hc hB pg pt hl hd hv T f turn (fun H' s6 I6 q => ?_) I4 st4 n3 w0
  · exact hs _ _ _ loop (T.self _ 0 _ _ _ st4 loop)
  · have I7 : L2.Inv X pins σ H' s6 := Inv.call' I3 I6.os I6.base I6.hok I6.bare fun b hb => ⟨(f3 b hb).1.2.2.2.1, (f3 b hb).1.2.1, (f3 b hb).1.2.2.2.2.1, (f3 b hb).1.2.2.2.2.2⟩
    have nC : H' S3.heap.objs.size = none := I6.free
    obtain ⟨m, hn, _⟩ := I6.loc
    obtain ⟨f0, f1, f2', f3', f4, f5⟩ := Inv.fpOk I3 (Nat.le_refl S3.heap.objs.size) nC
    exact ⟨m, hn, fun h'' sb => ⟨.ref D, H', Inv.turned I7 (fun b o hb e => (sb.2 b hb).trans e) f0 f1 f3' f4 f5, rfl, q⟩⟩
theorem bMid_mono {M : Model} {A : Around} {env : Env} {e : Expr} {d : Nat} {i : Expr} {acc : Value} (P P' : Shared → Prop) (s : Shared) (h : ∀ s', P s' → P' s') (b : BMid M A env e d i acc P s) : BMid M A env e d i acc P' s :=
  thnF b fun x s₄ h₄ => thnF h₄ fun it1 s₅ h₅ => codeAny_mono h₅ fun r s' hr => by
    cases r with
    | ok _ => exact h s' hr
    | error _ => exact hr.elim
def BLast (M : Model) (A : Around) (em : Sem Unit) : (Shared → Prop) → Shared → Prop := fun P s => wpAny M A em (fun _ s' => P s') (fun _ _ => False) s
theorem bLast_mono {M : Model} {A : Around} {em : Sem Unit} (P P' : Shared → Prop) (s : Shared) (h : ∀ s', P s' → P' s') (b : BLast M A em P s) : BLast M A em P' s := thnF b fun _ s' z => h s' z
def bodyL (te : TE) (D : Addr) : Body := fun σ H Nx => te σ H fun y H4 => ∃ acc, H4 D = some (.lst acc) ∧ acc.length < sizeLine ∧ Nx (upd H4 D (.lst (acc ++ [y])))
def bodyS (w : World) (te : TE) (D : Addr) : Body := fun σ H Nx => te σ H fun y H4 => ∃ (c : Int) (S : Int → Bool) (n : Nat), y = .int c ∧ H4 D = some (SetO w D S n) ∧ n + 1 < scanBound ∧ Nx (upd H4 D (SetO w D (fun j => S j || decide (j = c)) (if S c = true then n else n + 1)))
theorem does_L {X : Cx} {elt : Expr} {te : TE} {D : Addr} (hxe : X.xe = fun _ _ => False) (pe : PE X elt te) : Does X (BLast (model X.prog X.w) X.A (emL elt (.ref D) X.env)) (bodyL te D) [] := by
  intro pins σ H s Nx I h
  have h1 := pe.run pins s σ H _ I h
  rw [hxe] at h1
  refine wpAny_bind (thnF h1 fun u s1 z => ?_)
  obtain ⟨y, H4, I4, r4, acc, e4, l4, nx⟩ := z
  exact wpAny_bind (app_ok I4 e4 l4 r4 fun s' I' => wpAny_pure ⟨_, I'.weak (wipe_length _ _) (fun j v ej => (wipe_some ej).1), nx⟩)
theorem does_S {X : Cx} {elt : Expr} {te : TE} {D : Addr} (hxe : X.xe = fun _ _ => False) (pe : PE X elt te) : Does X (BLast (model X.prog X.w) X.A (emS elt (.ref D) X.env)) (bodyS X.w te D) [] := by
  intro pins σ H s Nx I h
  have h1 := pe.run pins s σ H _ I h
  rw [hxe] at h1
  refine wpAny_bind (thnF h1 fun u s1 z => ?_)
  obtain ⟨y, H4, I4, r4, c, S, n, rfl, e4, l4, nx⟩ := z
  have h2 := mt_sadd (X := X) pins s1 σ H4 (.ref D) [.int c] (.ref D) [u] (fun _ H' => Nx H') I4 rfl (.cons r4 .nil) ⟨D, c, S, n, rfl, rfl, e4, l4, nx⟩
  rw [hxe] at h2
  refine wpAny_bind (wpAny_standAt (wpAny_bind (thnF h2 fun _ s' z => wpAny_pure ?_)))
  obtain ⟨_, H5, I5, _, nx5⟩ := z
  exact ⟨H5, I5.weak (wipe_length _ _) (fun j v ej => (wipe_some ej).1), nx5⟩
/-- a list comprehension: the walk of its first clause, what is done in each turn -/
def tLcN (wi : TI) (g : TG) (tt : TT) (vs : List Nat) (body : Addr → Body) : TE := fun σ H Q => wi σ H fun J H1 => ∀ D, H1 D = none → ∃ W : Nat → Nat → Hp → Prop, (∃ m, W 0 m (upd H1 D (.lst []))) ∧ ∀ j k H, W j k H → (J.stop j H ∧ Q (.ref D) H) ∨ (J.go j H ∧ ∃ N1 : Hp → Prop, (∀ H', N1 H' → ∃ k', k' < k ∧ W (j + 1) k' H') ∧ ∀ x H', J.yld j H x H' → g x (wipe σ vs) H' fun σ3 H5 => wipe σ3 vs = wipe σ vs ∧ tt σ3 H5 fun b H6 => if b = true then body D σ3 H6 N1 else N1 H6)
def tScN (w : World) (wi : TI) (g : TG) (tt : TT) (vs : List Nat) (body : Addr → Body) : TE := fun σ H Q => wi σ H fun J H1 => ∀ D, H1 D = none → ∃ W : Nat → Nat → Hp → Prop, (∃ m, W 0 m (upd H1 D (SetO w D (fun _ => false) 0))) ∧ ∀ j k H, W j k H → (J.stop j H ∧ Q (.ref D) H) ∨ (J.go j H ∧ ∃ N1 : Hp → Prop, (∀ H', N1 H' → ∃ k', k' < k ∧ W (j + 1) k' H') ∧ ∀ x H', J.yld j H x H' → g x (wipe σ vs) H' fun σ3 H5 => wipe σ3 vs = wipe σ vs ∧ tt σ3 H5 fun b H6 => if b = true then body D σ3 H6 N1 else N1 H6)
section
variable {X : Cx} {elt t i t1 i1 t2 i2 : Expr} {fs fs1 fs2 : List Expr} {scope : Scope} {own : List (Str × Nat)} {vs1 vs2 : List Nat} {pos : Pos} {wi wi1 wi2 : TI} {g g1 g2 : TG} {tt tt1 tt2 : TT} {te : TE}
theorem pe_lc3 (hc : X.calm = true) (hN : X.N.Nodup) (hi : PI X t i wi) (ok : BlkOk X.N X.env.scope scope own) (hv1 : ∀ i ∈ vs1, i ∈ own.map (·.2)) (hv2 : ∀ i ∈ vs2, i ∈ vs1)
    (hg : ∀ (s : Shared) (H : Hp) (C : Addr) (cl : List (Str × Addr)) (fp : List Addr), PG (X.blk s H scope (compEnvC scope cl C X.env) fp) t g)
    (ht : ∀ (s : Shared) (H : Hp) (C : Addr) (cl : List (Str × Addr)) (fp : List Addr), PTs (X.blk s H scope (compEnvC scope cl C X.env) fp) fs tt)
    (hi1 : ∀ (s : Shared) (H : Hp) (C : Addr) (cl : List (Str × Addr)) (fp : List Addr), PI (X.blk s H scope (compEnvC scope cl C X.env) fp) t1 i1 wi1)
    (hg1 : ∀ (s : Shared) (H : Hp) (C : Addr) (cl : List (Str × Addr)) (fp : List Addr), PG (X.blk s H scope (compEnvC scope cl C X.env) fp) t1 g1)
    (ht1 : ∀ (s : Shared) (H : Hp) (C : Addr) (cl : List (Str × Addr)) (fp : List Addr), PTs (X.blk s H scope (compEnvC scope cl C X.env) fp) fs1 tt1)
    (hi2 : ∀ (s : Shared) (H : Hp) (C : Addr) (cl : List (Str × Addr)) (fp : List Addr), PI (X.blk s H scope (compEnvC scope cl C X.env) fp) t2 i2 wi2)
    (hg2 : ∀ (s : Shared) (H : Hp) (C : Addr) (cl : List (Str × Addr)) (fp : List Addr), PG (X.blk s H scope (compEnvC scope cl C X.env) fp) t2 g2)
    (ht2 : ∀ (s : Shared) (H : Hp) (C : Addr) (cl : List (Str × Addr)) (fp : List Addr), PTs (X.blk s H scope (compEnvC scope cl C X.env) fp) fs2 tt2)
    (he : ∀ (s : Shared) (H : Hp) (C : Addr) (cl : List (Str × Addr)) (fp : List Addr), PE (X.blk s H scope (compEnvC scope cl C X.env) fp) elt te)
    (hs : ∀ x, foldedSetIterable i X.env x = pure x := by intros; rfl) (hs1 : ∀ (env : Env) x, foldedSetIterable i1 env x = pure x := by intros; rfl) (hs2 : ∀ (env : Env) x, foldedSetIterable i2 env x = pure x := by intros; rfl) :
    PE X (.ListComp elt [cl t i fs, cl t1 i1 fs1, cl t2 i2 fs2] scope pos) (tLcN wi g tt (own.map (·.2)) fun D => tCl wi1 g1 tt1 vs1 (tCl wi2 g2 tt2 vs2 (bodyL te D))) := by
  constructor
  intro pins s σ H Q I h
  rw [eval_ListComp]
  refine wpAny_comprehension_free rfl hs (closure_ok fun y hy e => (ok.free y hy e).elim (fun k => I.ok.has y.1 (.inl k)) fun k => I.ok.has y.1 (.inr k)) ok.kind (fun y hy e => by rw [ok.uniq y hy, e]) (thn (hi.run pins s σ H _ I h) fun xv s1 hx => thn hx fun itv s2 h2 => ?_)
  obtain ⟨it, fp, tn, J, H2, rfl, I2, T, st2, f2, q⟩ := h2
  refine wpAny_newObj_type (newEnv_comp ?_)
  obtain ⟨W, ⟨m0, w0⟩, turn⟩ := q s2.heap.objs.size (HOk.fresh I2.hok (Nat.le_refl _))
  have I3 : L2.Inv X pins σ (upd H2 s2.heap.objs.size (.lst [])) { s2 with heap := s2.heap.push { cls := Value.type "list", data := Data.seq #[] } } :=
    Inv.laid I2 (fun b o e => Heap.get?_push_of_some _ e) (Nat.le_refl _) ⟨Nat.zero_le _, [], 0, .nil, Heap.get?_push_size s2.heap rfl⟩
  exact outer (S3 := { s2 with heap := s2.heap.push { cls := Value.type "list", data := Data.seq #[] } }) (D := s2.heap.objs.size) hc hN ok bMid_mono rfl rfl I3 T st2 f2 (hg _ _ _ _ _) (ht _ _ _ _ _)
    (fun R it I turn n s h => loop_mid rfl rfl rfl turn3_0 (hs1 _) I turn n h) (fun R it s h0 h => start_at rfl (fun _ => rfl) rfl rfl h0 h)
    (cl_does rfl hc bMid_mono (hi1 _ _ _ _ _) (hg1 _ _ _ _ _) (ht1 _ _ _ _ _) (fun R it I turn n s h => loop_mid rfl rfl rfl turn3_1 (hs2 _) I turn n h) (fun R it s h0 h => start_at rfl (fun _ => rfl) rfl rfl h0 h)
      (cl_does (vsB := []) rfl hc bLast_mono (hi2 _ _ _ _ _) (hg2 _ _ _ _ _) (ht2 _ _ _ _ _) (fun R it I turn n s h => loop_last rfl rfl rfl turn3_2 I turn n h) (fun R it s h0 h => start_at rfl (fun _ => rfl) rfl rfl h0 h) (does_L rfl (he _ _ _ _ _)) (fun _ h => by cases h)) hv2) hv1 w0 turn
theorem pe_sc2 (hc : X.calm = true) (hN : X.N.Nodup) (hi : PI X t i wi) (ok : BlkOk X.N X.env.scope scope own) (hv1 : ∀ i ∈ vs1, i ∈ own.map (·.2))
    (hg : ∀ (s : Shared) (H : Hp) (C : Addr) (cl : List (Str × Addr)) (fp : List Addr), PG (X.blk s H scope (compEnvC scope cl C X.env) fp) t g)
    (ht : ∀ (s : Shared) (H : Hp) (C : Addr) (cl : List (Str × Addr)) (fp : List Addr), PTs (X.blk s H scope (compEnvC scope cl C X.env) fp) fs tt)
    (hi1 : ∀ (s : Shared) (H : Hp) (C : Addr) (cl : List (Str × Addr)) (fp : List Addr), PI (X.blk s H scope (compEnvC scope cl C X.env) fp) t1 i1 wi1)
    (hg1 : ∀ (s : Shared) (H : Hp) (C : Addr) (cl : List (Str × Addr)) (fp : List Addr), PG (X.blk s H scope (compEnvC scope cl C X.env) fp) t1 g1)
    (ht1 : ∀ (s : Shared) (H : Hp) (C : Addr) (cl : List (Str × Addr)) (fp : List Addr), PTs (X.blk s H scope (compEnvC scope cl C X.env) fp) fs1 tt1)
    (he : ∀ (s : Shared) (H : Hp) (C : Addr) (cl : List (Str × Addr)) (fp : List Addr), PE (X.blk s H scope (compEnvC scope cl C X.env) fp) elt te)
    (hs : ∀ x, foldedSetIterable i X.env x = pure x := by intros; rfl) (hs1 : ∀ (env : Env) x, foldedSetIterable i1 env x = pure x := by intros; rfl) :
    PE X (.SetComp elt [cl t i fs, cl t1 i1 fs1] scope pos) (tScN X.w wi g tt (own.map (·.2)) fun D => tCl wi1 g1 tt1 vs1 (bodyS X.w te D)) := by
  constructor
  intro pins s σ H Q I h
  rw [PpSet.eval_SetComp]
  refine wpAny_comprehension_free rfl hs (closure_ok fun y hy e => (ok.free y hy e).elim (fun k => I.ok.has y.1 (.inl k)) fun k => I.ok.has y.1 (.inr k)) ok.kind (fun y hy e => by rw [ok.uniq y hy, e]) (thn (hi.run pins s σ H _ I h) fun xv s1 hx => thn hx fun itv s2 h2 => ?_)
  obtain ⟨it, fp, tn, J, H2, rfl, I2, T, st2, f2, q⟩ := h2
  refine PpSet.newSet_ok (newEnv_comp ?_)
  obtain ⟨W, ⟨m0, w0⟩, turn⟩ := q s2.heap.objs.size (HOk.fresh I2.hok (Nat.le_refl _))
  have I3 : L2.Inv X pins σ (upd H2 s2.heap.objs.size (SetO X.w s2.heap.objs.size (fun _ => false) 0)) { s2 with heap := s2.heap.push { cls := Value.type "set", data := Data.set #[] 0 (SetTable.fresh 0 0 !X.w.params.followText "set-order") } } :=
    Inv.laid I2 (fun b o e => Heap.get?_push_of_some _ e) (Nat.le_refl _) (setO_new (setR_fresh X.w))
  exact outer (S3 := { s2 with heap := s2.heap.push { cls := Value.type "set", data := Data.set #[] 0 (SetTable.fresh 0 0 !X.w.params.followText "set-order") } }) (D := s2.heap.objs.size) hc hN ok bMid_mono rfl rfl I3 T st2 f2 (hg _ _ _ _ _) (ht _ _ _ _ _)
    (fun R it I turn n s h => loop_mid rfl rfl rfl turnS_0 (hs1 _) I turn n h) (fun R it s h0 h => start_at rfl (fun _ => rfl) rfl rfl h0 h)
    (cl_does (vsB := []) rfl hc bLast_mono (hi1 _ _ _ _ _) (hg1 _ _ _ _ _) (ht1 _ _ _ _ _) (fun R it I turn n s h => loop_last rfl rfl rfl turnS_1 I turn n h) (fun R it s h0 h => start_at rfl (fun _ => rfl) rfl rfl h0 h) (does_S rfl (he _ _ _ _ _)) (fun _ h => by cases h)) hv1 w0 turn
end
/-- a clause, turn by turn -/
theorem cl_it {J : It} {n : Nat} {G : Hp → Prop} {Y : Nat → Hp → V → Hp → Prop} (w : Walk J n G Y) {g : TG} {tt : TT} {vs : List Nat} {σ : L2.St} {H1 : Hp} {body : Body} {Qd : Hp → Prop} (Pv : Nat → Hp → Prop) (h0 : Pv 0 H1) (hG : ∀ i H, i ≤ n → Pv i H → G H)
    (hs : ∀ i x H H', i < n → Pv i H → Y i H x H' → g x (wipe σ vs) H' fun σ2 H2 => wipe σ2 vs = wipe σ vs ∧ tt σ2 H2 fun b H3 => if b = true then body σ2 H3 (Pv (i + 1)) else Pv (i + 1) H3) (hd : ∀ H, Pv n H → Qd H) :
    ∃ W : Nat → Nat → Hp → Prop, (∃ m, W 0 m H1) ∧ ∀ j k H, W j k H → (J.stop j H ∧ Qd H) ∨ (J.go j H ∧ ∃ N1 : Hp → Prop, (∀ H', N1 H' → ∃ k', k' < k ∧ W (j + 1) k' H') ∧ ∀ x H', J.yld j H x H' → g x (wipe σ vs) H' fun σ3 H5 => wipe σ3 vs = wipe σ vs ∧ tt σ3 H5 fun b H6 => if b = true then body σ3 H6 N1 else N1 H6) := by
  refine ⟨fun i m H => m + i = n ∧ Pv i H, ⟨n, Nat.add_zero n, h0⟩, ?_⟩
  rintro i m H ⟨hm, p⟩
  have q := hG i H (by omega) p
  cases m with
  | zero =>
    obtain rfl : i = n := by omega
    exact .inl ⟨w.stops H q, hd H p⟩
  | succ m =>
    have hlt : i < n := by omega
    exact .inr ⟨w.goes i H hlt q, Pv (i + 1), fun H' p' => ⟨m, Nat.lt_succ_self m, by omega, p'⟩, fun x H' y => hs i x H H' hlt p (w.yields i H x H' hlt q y)⟩
theorem cl_list {K : PySem.W.Frag} {a : Addr} {xs : List V} {g : TG} {tt : TT} {vs : List Nat} {σ : L2.St} {H1 : Hp} {body : Body} {Qd : Hp → Prop} (Pv : Nat → Hp → Prop) (h0 : Pv 0 H1) (hG : ∀ i H, i ≤ xs.length → Pv i H → SqL K H a xs)
    (hs : ∀ i x H, xs[i]? = some x → Pv i H → g x (wipe σ vs) H fun σ2 H2 => wipe σ2 vs = wipe σ vs ∧ tt σ2 H2 fun b H3 => if b = true then body σ2 H3 (Pv (i + 1)) else Pv (i + 1) H3) (hd : ∀ H, Pv xs.length H → Qd H) :
    ∃ W : Nat → Nat → Hp → Prop, (∃ m, W 0 m H1) ∧ ∀ j k H, W j k H → ((Itl K a).stop j H ∧ Qd H) ∨ ((Itl K a).go j H ∧ ∃ N1 : Hp → Prop, (∀ H', N1 H' → ∃ k', k' < k ∧ W (j + 1) k' H') ∧ ∀ x H', (Itl K a).yld j H x H' → g x (wipe σ vs) H' fun σ3 H5 => wipe σ3 vs = wipe σ vs ∧ tt σ3 H5 fun b H6 => if b = true then body σ3 H6 N1 else N1 H6) := by
  refine cl_it walk_list Pv h0 hG (fun i x H H' hi p y => ?_) hd
  obtain ⟨rfl, hx⟩ : H' = H ∧ xs[i]? = some x := y
  exact hs i x H' hx p
theorem cl_range {lo : Int} {n : Nat} {g : TG} {tt : TT} {vs : List Nat} {σ : L2.St} {H1 : Hp} {body : Body} {Qd : Hp → Prop} (Pv : Nat → Hp → Prop) (h0 : Pv 0 H1)
    (hs : ∀ i H, i < n → Pv i H → g (.int (lo + (i : Nat))) (wipe σ vs) H fun σ2 H2 => wipe σ2 vs = wipe σ vs ∧ tt σ2 H2 fun b H3 => if b = true then body σ2 H3 (Pv (i + 1)) else Pv (i + 1) H3) (hd : ∀ H, Pv n H → Qd H) :
    ∃ W : Nat → Nat → Hp → Prop, (∃ m, W 0 m H1) ∧ ∀ j k H, W j k H → ((Itr lo n).stop j H ∧ Qd H) ∨ ((Itr lo n).go j H ∧ ∃ N1 : Hp → Prop, (∀ H', N1 H' → ∃ k', k' < k ∧ W (j + 1) k' H') ∧ ∀ x H', (Itr lo n).yld j H x H' → g x (wipe σ vs) H' fun σ3 H5 => wipe σ3 vs = wipe σ vs ∧ tt σ3 H5 fun b H6 => if b = true then body σ3 H6 N1 else N1 H6) := by
  refine cl_it walk_range Pv h0 (fun _ _ _ _ => trivial) (fun i x H H' hi p y => ?_) hd
  obtain ⟨rfl, rfl⟩ : H' = H ∧ x = .int (lo + (i : Nat)) := y
  exact hs i H' hi p
end SwC
set_option Elab.async false
set_option linter.all false
set_option maxRecDepth 100000
set_option maxHeartbeats 4000000
namespace L2
open PySem PySem.Spec PyProof.Rows
theorem pi_listK {X : Cx} {K : PySem.W.Frag} {tg e : Expr} {te : TE} (ha : PE X e te) (h : X.K = K := by rfl) : PI X tg e (iList K te) := h ▸ pi_list ha
end L2
namespace Sw
open PySem PySem.Spec PyProof.Rows L2
/-- the columns of some rows -/
def Cols (rows : List (List Int)) (L ns : List Int) : Prop := ns.Pairwise (· < ·) ∧ ∀ c, c ∈ ns ↔ ∃ r ∈ L, c ∈ tP rows r
structure Few (rows : List (List Int)) : Prop where
  len : rows.length ≤ 60
  lo : ∀ l ∈ rows, ∀ c ∈ l, 0 ≤ c ∧ c < 60
  nd : ∀ l ∈ rows, l.Nodup
def spPartners (K : PySem.W.Frag) : Sp := fun vs H Q _ => ∃ (t rl : Addr) (tb : Tups) (L : List Int), vs = [.ref t, .ref rl] ∧ TabAt K H t tb ∧ Few (keys tb) ∧ SqL K H rl (L.map V.int) ∧ (∀ r ∈ L, 0 ≤ r ∧ r < (tb.length : Int)) ∧
  ∀ (H' : Hp) (l : Addr) (ns : List Int), Same H H' → H' l = some (.lst (ns.map V.int)) → Cols (keys tb) L ns → Q (.ref l) H'
def spLack (K : PySem.W.Frag) : Sp := fun vs H Q _ => ∃ (t rl : Addr) (tb : Tups) (L : List Int), vs = [.ref t, .ref rl] ∧ TabAt K H t tb ∧ Few (keys tb) ∧ SqL K H rl (L.map V.int) ∧ (∀ r ∈ L, 0 ≤ r ∧ r < (tb.length : Int)) ∧
  ∀ (H' : Hp) (ns : List Int), Same H H' → Cols (keys tb) L ns → Q (.int ((L.length : Int) - ns.length)) H'
end Sw
namespace Sw
open PySem PySem.Spec PyProof.Rows L2
def spMatesZ (K : PySem.W.Frag) : Sp := fun vs H Q _ => ∃ (t rl : Addr) (tb : Tups) (W : List Int), vs = [.ref t, .ref rl] ∧ TabAt K H t tb ∧ TabOk (keys tb) ∧ SqL K H rl (W.map V.int) ∧ W.Nodup ∧ (∀ r ∈ W, 0 ≤ r ∧ r < (tb.length : Int)) ∧
  ∀ (H' : Hp) (l : Addr) (g : MM) (Z : List Int), Same H H' → H l = none → H' l = some (.dK (dI g)) → Mt (tP (keys tb)) g → (∀ r c, lk g r = some c → r ∈ W) → MaxOn (tP (keys tb)) W g → Shut (tP (keys tb)) g Z → (∀ z ∈ Z, z ∈ W) → (∀ r ∈ W, lk g r = none → r ∈ Z) → Q (.ref l) H'
/-- the rows that are reached from those without a mate, and no others -/
structure LeastBy (P : Int → List Int) (W : List Int) (g : MM) (F : List Int) : Prop where
  mt : Mt P g
  only : ∀ r c, lk g r = some c → r ∈ W
  sub : ∀ x ∈ F, x ∈ W
  free : ∀ r ∈ W, lk g r = none → r ∈ F
  shut : Shut P g F
  least : ∀ L : List Int, (∀ r ∈ W, lk g r = none → r ∈ L) → (∀ r ∈ L, ∀ c ∈ P r, ∀ r', lk g r' = some c → r' ∈ L) → ∀ x ∈ F, x ∈ L
def spLeast (K : PySem.W.Frag) : Sp := fun vs H Q _ => ∃ (t rl : Addr) (tb : Tups) (W : List Int), vs = [.ref t, .ref rl] ∧ TabAt K H t tb ∧ TabOk (keys tb) ∧ SqL K H rl (W.map V.int) ∧ W.Nodup ∧ W.length < 64 ∧ (∀ r ∈ W, 0 ≤ r ∧ r < (tb.length : Int)) ∧
  ∀ (H' : Hp) (l : Addr) (g : MM) (F : List Int), Same H H' → H' l = some (.lst (F.map V.int)) → F.Pairwise (· < ·) → LeastBy (tP (keys tb)) W g F → MaxOn (tP (keys tb)) W g → Q (.ref l) H'
end Sw
namespace Sw
open PySem PySem.Spec PyProof.Rows L2
theorem put_dW {q : List Int} {r : Int} (h : r ∉ q) : putK (dW q) (.inl r) (.bl true) = dW (q ++ [r]) := by
  rw [putK_new (k := (.inl r : Key)) (V.bl true) (by
    have z := val_dW q r
    rw [decide_eq_false h] at z
    cases ez : valV (dW q) (.inl r) with
    | none => rfl
    | some x => rw [ez] at z; cases z)]
  unfold dW
  rw [List.map_append]
  rfl
/-- rows that were reached -/
structure RQ (P : Int → List Int) (W : List Int) (g : MM) (Z q : List Int) : Prop where
  nd : q.Nodup
  sub : ∀ x ∈ q, x ∈ Z
  free : ∀ r ∈ W, lk g r = none → r ∈ q
  least : ∀ L : List Int, (∀ r ∈ W, lk g r = none → r ∈ L) → (∀ r ∈ L, ∀ c ∈ P r, ∀ r', lk g r' = some c → r' ∈ L) → ∀ x ∈ q, x ∈ L
end Sw
namespace Sw
open PySem PySem.Spec PyProof.Rows L2
def AscP (ps : Prts) : Prop := ∀ z ∈ ps, z.2.2.Pairwise (· < ·)
theorem asc_prt {ps : Prts} (h : AscP ps) (c : Int) : (prt ps c).Pairwise (· < ·) := by
  unfold prt
  cases e : ps.find? fun y => decide (y.1 = c) with
  | none => exact .nil
  | some y => exact h y (List.mem_of_find?_eq_some e)
theorem asc_add {K : PySem.W.Frag} {H0 H : Hp} {d : Addr} {ps : Prts} {rows : List (List Int)} {i : Nat} {part : List Int} {c : Int} (h : RB K H0 H d ps rows i part) (hA : AscP ps) (hc : c ∉ part) : AscP (addTo ps c i) := by
  intro z hz
  unfold addTo at hz
  obtain ⟨y, hy, rfl⟩ := List.mem_map.mp hz
  split
  · rename_i e
    rw [List.pairwise_append]
    refine ⟨hA y hy, List.pairwise_singleton _ _, fun a ha b hb => ?_⟩
    rw [List.mem_singleton.mp hb]
    rw [← prt_mem h.kn hy] at ha
    rcases (h.mem y.1 a).mp ha with ⟨_, h2, _⟩ | ⟨_, h2⟩
    · exact h2
    · exact absurd ((by simpa using e : y.1 = c) ▸ h2) hc
  · exact hA y hy
theorem asc_new {ps : Prts} {c : Int} {q : Addr} (hA : AscP ps) : AscP (ps ++ [(c, q, [])]) := fun z hz => by
  rcases List.mem_append.mp hz with hz | hz
  · exact hA z hz
  · rw [List.mem_singleton.mp hz]
    exact .nil
def spByColA (K : PySem.W.Frag) : Sp := fun vs H Q _ => ∃ (t : Addr) (tb : Tups), vs = [.ref t] ∧ TabAt K H t tb ∧ TabOk (keys tb) ∧
  ∀ (H' : Hp) (d : Addr) (ps : Prts), Same H H' → H d = none → PrtAt K H' d ps → Small ps → (∀ c r, r ∈ prt ps c ↔ c ∈ tP (keys tb) r) → (∀ c, (prt ps c).Pairwise (· < ·)) → (∀ z ∈ ps, H' z.2.1 ≠ none) → Q (.ref d) H'
/-- the table turned round -/
def turnedI (rows : List (List Int)) (c : Nat) : List Int := ((List.range rows.length).map Int.ofNat).filter fun r => decide ((c : Int) ∈ tP rows r)
theorem turned_eq {rows : List (List Int)} {c : Nat} {l : List Int} (h : l.Pairwise (· < ·)) (hm : ∀ r, r ∈ l ↔ (c : Int) ∈ tP rows r) : l = turnedI rows c := by
  have h2 : (turnedI rows c).Pairwise (· < ·) := by
    unfold turnedI
    refine List.Pairwise.filter _ ?_
    rw [List.pairwise_map]
    exact List.pairwise_lt_range.imp fun h => Int.ofNat_lt.mpr h
  have hm2 : ∀ r, r ∈ turnedI rows c ↔ (c : Int) ∈ tP rows r := fun r => by
    unfold turnedI
    rw [List.mem_filter, decide_eq_true_iff, List.mem_map]
    constructor
    · exact fun h => h.2
    · intro h
      obtain ⟨h0, l, hl, _⟩ := tP_some h
      have := (List.getElem?_eq_some_iff.mp hl).1
      exact ⟨⟨r.toNat, List.mem_range.mpr this, Int.toNat_of_nonneg h0⟩, h⟩
  refine List.Perm.eq_of_pairwise (le := fun a b : Int => a ≤ b) (fun a b _ _ h1 h2 => Int.le_antisymm h1 h2) (h.imp fun h => Int.le_of_lt h) (h2.imp fun h => Int.le_of_lt h) ?_
  rw [List.perm_ext_iff_of_nodup (h.imp fun h => Int.ne_of_lt h) (h2.imp fun h => Int.ne_of_lt h)]
  exact fun r => by rw [hm, hm2]
/-- rows of a list -/
def spTurned (K : PySem.W.Frag) : Sp := fun vs H Q _ => ∃ (t : Addr) (tb : Tups) (many : Nat), vs = [.ref t, .int many] ∧ TabAt K H t tb ∧ TabOk (keys tb) ∧ many ≤ 1000 ∧
  ∀ (H' : Hp) (l : Addr) (ks : Tups), Same H H' → H' l = some (.lst (refs ks)) → (∀ p ∈ ks, SqL K H' p.1 (p.2.map V.int)) → keys ks = (List.range many).map (turnedI (keys tb)) → Q (.ref l) H'
end Sw
namespace Sw
open PySem PySem.Spec PyProof.Rows L2
theorem sqL_put {K : PySem.W.Frag} {H : Hp} {a D : Addr} {xs : List V} {o : HO} (hn : a ≠ D) (h : SqL K H a xs) : SqL K (upd H D o) a xs := by
  rcases h with (h | ⟨u, h⟩) | h
  · exact .inl (.inl (by rw [upd_ne hn]; exact h))
  · exact .inl (.inr ⟨u, by rw [upd_ne hn]; exact h⟩)
  · exact .inr h
end Sw
namespace Sw
open PySem PySem.Spec PyProof.Rows L2
theorem qOf_ne {H : Hp} {ps : Prts} {r : Int} {e D : Addr} (h : ∀ z ∈ ps, H z.2.1 ≠ none) (hD : H D = none) (he : e ≠ D) : qOf ps r e ≠ D := by
  unfold qOf
  cases ez : ps.find? fun z => decide (z.1 = r) with
  | none => exact he
  | some z => exact fun e => h z (List.mem_of_find?_eq_some ez) (by rw [show z.2.1 = D from e]; exact hD)
end Sw
namespace Sw
open PySem PySem.Spec PyProof.Rows L2
/-! the law of least lots -/
def spLawLack (K : PySem.W.Frag) : Sp := fun vs H Q _ => ∃ (t rl : Addr) (tb : Tups) (L : List Int), vs = [.ref t, .ref rl] ∧ TabAt K H t tb ∧ (∀ r, (tP (keys tb) r).length ≤ 6) ∧ (∀ l ∈ keys tb, l.Nodup) ∧ SqL K H rl (L.map V.int) ∧ L.length ≤ 6 ∧ (∀ r ∈ L, 0 ≤ r ∧ r < (tb.length : Int)) ∧
  ∀ (H' : Hp) (ns : List Int), Same H H' → ns.Nodup → (∀ c, c ∈ ns ↔ ∃ r ∈ L, c ∈ tP (keys tb) r) → Q (.int ((L.length : Int) - ns.length)) H'
def partsL : List Int → List (List Int) → List (List Int)
  | [], f => f
  | x :: r, f => partsL r (f ++ f.map fun p => p ++ [x])
/-- lists of integers, plain in the heap -/
def IntsAt (H : Hp) (es : List (Addr × List Int)) : Prop := ∀ e ∈ es, H e.1 = some (.lst (e.2.map V.int))
def spLawParts (K : PySem.W.Frag) : Sp := fun vs H Q _ => ∃ (rl : Addr) (W : List Int), vs = [.ref rl] ∧ SqL K H rl (W.map V.int) ∧ W.length ≤ 5 ∧
  ∀ (H' : Hp) (l : Addr) (es : List (Addr × List Int)), Same H H' → H' l = some (.lst (refs es)) → IntsAt H' es → keys es = partsL W [[]] → Q (.ref l) H'
def lackI (P : Int → List Int) (L : List Int) (k : Int) : Prop := ∃ ns : List Int, ns.Nodup ∧ (∀ c, c ∈ ns ↔ ∃ r ∈ L, c ∈ P r) ∧ k = (L.length : Int) - ns.length
def spLawLeast (K : PySem.W.Frag) : Sp := fun vs H Q _ => ∃ (t rl : Addr) (tb : Tups) (W : List Int), vs = [.ref t, .ref rl] ∧ TabAt K H t tb ∧ (∀ r, (tP (keys tb) r).length ≤ 6) ∧ (∀ l ∈ keys tb, l.Nodup) ∧ SqL K H rl (W.map V.int) ∧ W.length ≤ 5 ∧ (∀ r ∈ W, 0 ≤ r ∧ r < (tb.length : Int)) ∧
  ∀ (H' : Hp) (l : Addr) (D : List Int), Same H H' → H' l = some (.lst (D.map V.int)) → D ∈ partsL W [[]] → (∀ M ∈ partsL W [[]], ∀ a b, lackI (tP (keys tb)) M a → lackI (tP (keys tb)) D b → a ≤ b) → (∀ M ∈ partsL W [[]], ∀ a, lackI (tP (keys tb)) M a → lackI (tP (keys tb)) D a → D.length ≤ M.length) → Q (.ref l) H'
def spLawExch (K : PySem.W.Frag) : Sp := fun vs H Q _ => ∃ (t : Addr) (tb : Tups) (many : Nat), vs = [.ref t, .int many] ∧ TabAt K H t tb ∧ tb.length ≤ 5 ∧ many ≤ 20 ∧
  ∀ (H' : Hp) (l : Addr) (ks : Tups), Same H H' → H' l = some (.lst (refs ks)) → (∀ p ∈ ks, SqL K H' p.1 (p.2.map V.int)) → keys ks = (List.range many).map (turnedI (keys tb)) → Q (.ref l) H'
end Sw
namespace Sw
open PySem PySem.Spec PyProof.Rows L2
theorem mem_partsL : ∀ (W : List Int) (f : List (List Int)) (p : List Int), p ∈ partsL W f ↔ ∃ q ∈ f, ∃ s, s.Sublist W ∧ p = q ++ s
  | [], f, p => by
    show p ∈ f ↔ _
    constructor
    · exact fun h => ⟨p, h, [], List.Sublist.refl _, (List.append_nil p).symm⟩
    · rintro ⟨q, hq, s, hs, rfl⟩
      rw [List.sublist_nil.mp hs, List.append_nil]
      exact hq
  | x :: W, f, p => by
    show p ∈ partsL W (f ++ f.map fun p => p ++ [x]) ↔ _
    rw [mem_partsL W]
    constructor
    · rintro ⟨q, hq, s, hs, rfl⟩
      rcases List.mem_append.mp hq with hq | hq
      · exact ⟨q, hq, s, hs.cons x, rfl⟩
      · obtain ⟨q', hq', rfl⟩ := List.mem_map.mp hq
        exact ⟨q', hq', x :: s, hs.cons_cons x, by rw [List.append_assoc]; rfl⟩
    · rintro ⟨q, hq, s, hs, rfl⟩
      cases hs with
      | cons _ hs => exact ⟨q, List.mem_append_left _ hq, s, hs, rfl⟩
      | cons_cons _ hs =>
        rename_i s'
        exact ⟨q ++ [x], List.mem_append_right _ (List.mem_map.mpr ⟨q, hq, rfl⟩), s', hs, by rw [List.append_assoc]; rfl⟩
theorem mem_parts {W p : List Int} : p ∈ partsL W [[]] ↔ p.Sublist W := by
  rw [mem_partsL]
  constructor
  · rintro ⟨q, hq, s, hs, rfl⟩
    rw [List.mem_singleton.mp hq]
    exact hs
  · exact fun h => ⟨[], List.mem_singleton.mpr rfl, p, h, rfl⟩
theorem partsL_len : ∀ (W : List Int) (f : List (List Int)), (partsL W f).length = f.length * 2 ^ W.length
  | [], f => (Nat.mul_one _).symm
  | x :: W, f => by
    show (partsL W (f ++ f.map fun p => p ++ [x])).length = _
    rw [partsL_len W, List.length_append, List.length_map, List.length_cons, Nat.pow_succ, Nat.mul_comm (2 ^ W.length) 2, ← Nat.mul_assoc, Nat.mul_two]
theorem same_card {a b : List Int} (ha : a.Nodup) (hb : b.Nodup) (h : ∀ x, x ∈ a ↔ x ∈ b) : a.length = b.length :=
  Nat.le_antisymm (len_le_of_sub ha fun x hx => (h x).mp hx) (len_le_of_sub hb fun x hx => (h x).mpr hx)
theorem lackI_uniq {P : Int → List Int} {M : List Int} {a b : Int} (ha : lackI P M a) (hb : lackI P M b) : a = b := by
  obtain ⟨n1, h1, m1, rfl⟩ := ha
  obtain ⟨n2, h2, m2, rfl⟩ := hb
  rw [same_card h1 h2 fun c => by rw [m1, m2]]
end Sw
namespace Sw
open PySem PySem.Spec PyProof.Rows L2
theorem ixN_last (n : Nat) : ixN (n + 1) (-1) = some n := by
  unfold ixN
  rw [if_neg (by decide), if_pos (by omega)]
  congr 1
  omega
theorem set_last {α : Type} (xs : List α) (a b : α) : (xs ++ [a]).set xs.length b = xs ++ [b] := by
  induction xs with
  | nil => rfl
  | cons x r ih => exact congrArg (x :: ·) ih
theorem cut_sub (zs : List Int) (lo hi : Option Int) : ∃ ys : List Int, cutV (zs.map V.int) lo hi = ys.map V.int ∧ ys.Sublist zs := by
  unfold cutV
  exact ⟨_, by rw [← List.map_drop, ← List.map_take], (List.take_sublist _ _).trans (List.drop_sublist _ _)⟩
end Sw
namespace Sw
open PySem PySem.Spec PyProof.Rows L2
def spSomeA (K : PySem.W.Frag) : Sp := fun vs H Q _ => ∃ (n : Int) (many : Nat), vs = [.int n, .int many] ∧ many ≤ 6 ∧ Num n ∧
  ∀ (H' : Hp) (l : Addr) (W : List Int), Same H H' → H' l = some (.lst (W.map V.int)) → W.Pairwise (· < ·) → W.length ≤ many → (∀ r ∈ W, 0 ≤ r ∧ r < (many : Int)) → Q (.ref l) H'
theorem asc_nodup {l : List Int} (h : l.Pairwise (· < ·)) : l.Nodup := h.imp fun h e => by omega
theorem asc_eq {l m : List Int} (hl : l.Pairwise (· < ·)) (hm : m.Pairwise (· < ·)) (h : ∀ x, x ∈ l ↔ x ∈ m) : l = m := by
  refine List.Perm.eq_of_pairwise (le := fun a b : Int => a ≤ b) (fun a b _ _ h1 h2 => Int.le_antisymm h1 h2) (hl.imp fun h => Int.le_of_lt h) (hm.imp fun h => Int.le_of_lt h) ?_
  rw [List.perm_ext_iff_of_nodup (asc_nodup hl) (asc_nodup hm)]
  exact h
theorem asc_sub {F W : List Int} (hF : F.Pairwise (· < ·)) (hW : W.Pairwise (· < ·)) (h : ∀ x ∈ F, x ∈ W) : F.Sublist W := by
  have e : F = W.filter fun x => decide (x ∈ F) := asc_eq hF (hW.filter _) fun x => by
    rw [List.mem_filter, decide_eq_true_iff]
    exact ⟨fun hx => ⟨h x hx, hx⟩, fun hx => hx.2⟩
  rw [e]
  exact List.filter_sublist
theorem ex_nodup : ∀ l : List Int, ∃ ns : List Int, ns.Nodup ∧ ∀ x, x ∈ ns ↔ x ∈ l
  | [] => ⟨[], List.nodup_nil, fun _ => Iff.rfl⟩
  | x :: r => by
    obtain ⟨ns, h1, h2⟩ := ex_nodup r
    by_cases h : x ∈ ns
    · exact ⟨ns, h1, fun y => by
        rw [h2, List.mem_cons]
        exact ⟨.inr, fun z => z.elim (fun e => by rw [e]; exact (h2 x).mp h) id⟩⟩
    · exact ⟨x :: ns, List.nodup_cons.mpr ⟨h, h1⟩, fun y => by rw [List.mem_cons, List.mem_cons, h2]⟩
theorem ex_lack (P : Int → List Int) (L : List Int) : ∃ x, lackI P L x := by
  obtain ⟨ns, h1, h2⟩ := ex_nodup (L.flatMap P)
  exact ⟨_, ns, h1, fun c => by rw [h2, List.mem_flatMap], rfl⟩
theorem filt_len (l : List Int) (p : Int → Bool) : (l.filter p).length + (l.filter fun x => !p x).length = l.length := by
  induction l with
  | nil => rfl
  | cons x r ih =>
    cases h : p x with
    | true => rw [List.filter_cons_of_pos h, List.filter_cons_of_neg (by simp [h]), List.length_cons, List.length_cons]; omega
    | false => rw [List.filter_cons_of_neg (by simp [h]), List.filter_cons_of_pos (by simp [h]), List.length_cons, List.length_cons]; omega
/-- of two lists: what is in one of them, what is in both -/
theorem union_card {a b u i : List Int} (ha : a.Nodup) (hb : b.Nodup) (hu : u.Nodup) (hi : i.Nodup) (h1 : ∀ x, x ∈ u ↔ x ∈ a ∨ x ∈ b) (h2 : ∀ x, x ∈ i ↔ x ∈ a ∧ x ∈ b) : u.length + i.length = a.length + b.length := by
  have e1 := filt_len b fun x => decide (x ∈ a)
  have e2 : (b.filter fun x => decide (x ∈ a)).length = i.length := same_card (hb.filter _) hi fun x => by
    rw [List.mem_filter, decide_eq_true_iff, h2]
    exact And.comm
  have e3 : (a ++ b.filter fun x => !decide (x ∈ a)).length = u.length := by
    refine same_card ?_ hu fun x => ?_
    · rw [List.nodup_append]
      refine ⟨ha, hb.filter _, fun y hy z hz e => ?_⟩
      have := (List.mem_filter.mp hz).2
      rw [← e, decide_eq_true hy] at this
      cases this
    · rw [List.mem_append, List.mem_filter, h1]
      by_cases hx : x ∈ a <;> simp [hx]
  rw [List.length_append] at e3
  omega
/-- lots that lack most are closed under what is in both -/
theorem lack_meet {P : Int → List Int} {A B I U : List Int} {a b i u : Int} (hA : A.Nodup) (hB : B.Nodup) (hI : I.Nodup) (hU : U.Nodup) (h1 : ∀ x, x ∈ U ↔ x ∈ A ∨ x ∈ B) (h2 : ∀ x, x ∈ I ↔ x ∈ A ∧ x ∈ B)
    (la : lackI P A a) (lb : lackI P B b) (li : lackI P I i) (lu : lackI P U u) : a + b ≤ i + u := by
  obtain ⟨na, na1, na2, rfl⟩ := la
  obtain ⟨nb, nb1, nb2, rfl⟩ := lb
  obtain ⟨ni, ni1, ni2, rfl⟩ := li
  obtain ⟨nu, nu1, nu2, rfl⟩ := lu
  have e1 := union_card hA hB hU hI h1 h2
  have e2 := union_card na1 nb1 nu1 (na1.filter fun x => decide (x ∈ nb)) (fun x => by
    rw [nu2, na2, nb2]
    constructor
    · rintro ⟨r, hr, hc⟩
      exact ((h1 r).mp hr).elim (fun h => .inl ⟨r, h, hc⟩) fun h => .inr ⟨r, h, hc⟩
    · rintro (⟨r, hr, hc⟩ | ⟨r, hr, hc⟩)
      · exact ⟨r, (h1 r).mpr (.inl hr), hc⟩
      · exact ⟨r, (h1 r).mpr (.inr hr), hc⟩) fun x => by rw [List.mem_filter, decide_eq_true_iff]
  have e3 : ni.length ≤ (na.filter fun x => decide (x ∈ nb)).length := len_le_of_sub ni1 fun x hx => by
    obtain ⟨r, hr, hc⟩ := (ni2 x).mp hx
    exact List.mem_filter.mpr ⟨(na2 x).mpr ⟨r, ((h2 r).mp hr).1, hc⟩, decide_eq_true ((nb2 x).mpr ⟨r, ((h2 r).mp hr).2, hc⟩)⟩
  omega
end Sw
namespace Sw
open PySem PySem.Spec PyProof.Rows L2
theorem full {a b : List Int} (ha : a.Nodup) (hab : ∀ x ∈ a, x ∈ b) (hl : b.length ≤ a.length) : ∀ x ∈ b, x ∈ a := fun x hx => by
  by_cases h : x ∈ a
  · exact h
  · have := len_le_of_sub (l := x :: a) (m := b) (List.nodup_cons.mpr ⟨h, ha⟩) fun y hy => by
      rcases List.mem_cons.mp hy with rfl | hy
      · exact hx
      · exact hab y hy
    rw [List.length_cons] at this
    omega
def matesOf (g : MM) (L : List Int) : List Int := (L.filter (has g)).map fun r => (lk g r).getD 0
theorem mem_mates {g : MM} {L : List Int} {c : Int} : c ∈ matesOf g L ↔ ∃ r ∈ L, lk g r = some c := by
  unfold matesOf
  rw [List.mem_map]
  constructor
  · rintro ⟨r, hr, rfl⟩
    obtain ⟨h1, h2⟩ := List.mem_filter.mp hr
    obtain ⟨c, e⟩ := has_some h2
    exact ⟨r, h1, by rw [e]; rfl⟩
  · rintro ⟨r, hr, e⟩
    exact ⟨r, List.mem_filter.mpr ⟨hr, by unfold has; rw [e]; rfl⟩, by rw [e]; rfl⟩
theorem nodup_mates {P : Int → List Int} {g : MM} {L : List Int} (h : Mt P g) (hL : L.Nodup) : (matesOf g L).Nodup := by
  unfold matesOf
  rw [List.Nodup, List.pairwise_map]
  refine (hL.filter _).imp_of_mem fun {a b} ha hb hab e => hab ?_
  obtain ⟨c, ea⟩ := has_some (List.mem_filter.mp ha).2
  obtain ⟨d, eb⟩ := has_some (List.mem_filter.mp hb).2
  have e' : (lk g a).getD 0 = (lk g b).getD 0 := e
  rw [ea, eb] at e'
  have e2 : c = d := e'
  exact h.inj a b c ea (by rw [eb, e2])
theorem len_mates (g : MM) (L : List Int) : (matesOf g L).length = (L.filter (has g)).length := List.length_map ..
theorem least_lack {P : Int → List Int} {W F : List Int} {g : MM} (h : LeastBy P W g F) (hW : W.Nodup) (hF : F.Nodup) : lackI P F ((W.length : Int) - (W.filter (has g)).length) := by
  obtain ⟨ns, n1, n2⟩ := ex_nodup (F.flatMap P)
  have n3 : ∀ c, c ∈ ns ↔ ∃ r ∈ F, c ∈ P r := fun c => by rw [n2, List.mem_flatMap]
  refine ⟨ns, n1, n3, ?_⟩
  have e1 : ns.length = (matesOf g F).length := same_card n1 (nodup_mates h.mt hF) fun c => by
    rw [n3, mem_mates]
    constructor
    · rintro ⟨r, hr, hc⟩
      exact h.shut r hr c hc
    · rintro ⟨r, hr, e⟩
      exact ⟨r, hr, h.mt.ed r c e⟩
  have e2 : (F.filter fun r => !has g r).length = (W.filter fun r => !has g r).length := same_card (hF.filter _) (hW.filter _) fun r => by
    rw [List.mem_filter, List.mem_filter]
    constructor
    · exact fun ⟨h1, h2⟩ => ⟨h.sub r h1, h2⟩
    · rintro ⟨h1, h2⟩
      refine ⟨h.free r h1 ?_, h2⟩
      unfold has at h2
      cases e : lk g r with
      | none => rfl
      | some c => rw [e] at h2; cases h2
  have e3 := filt_len F (has g)
  have e4 := filt_len W (has g)
  rw [len_mates] at e1
  omega
theorem least_le {P : Int → List Int} {W F L : List Int} {g : MM} {x : Int} (h : LeastBy P W g F) (hW : W.Nodup) (hL : L.Nodup) (hLW : ∀ r ∈ L, r ∈ W) (hx : lackI P L x) : x ≤ (W.length : Int) - (W.filter (has g)).length ∧ (x = (W.length : Int) - (W.filter (has g)).length → ∀ y ∈ F, y ∈ L) := by
  obtain ⟨ns, n1, n2, rfl⟩ := hx
  have m1 := nodup_mates h.mt hL
  have m2 : ∀ c ∈ matesOf g L, c ∈ ns := fun c hc => by
    obtain ⟨r, hr, e⟩ := mem_mates.mp hc
    exact (n2 c).mpr ⟨r, hr, h.mt.ed r c e⟩
  have l1 := len_le_of_sub m1 m2
  have s1 : ∀ r ∈ (L.filter fun r => !has g r), r ∈ (W.filter fun r => !has g r) := fun r hr => List.mem_filter.mpr ⟨hLW r (List.mem_filter.mp hr).1, (List.mem_filter.mp hr).2⟩
  have l2 := len_le_of_sub (hL.filter _) s1
  have e3 := filt_len L (has g)
  have e4 := filt_len W (has g)
  rw [len_mates] at l1
  refine ⟨by omega, fun e => ?_⟩
  have f1 := full m1 m2 (by rw [len_mates]; omega)
  have f2 := full (hL.filter _) s1 (by omega)
  refine h.least L (fun r hr hn => ?_) fun r hr c hc r' e' => ?_
  · exact (List.mem_filter.mp (f2 r (List.mem_filter.mpr ⟨hr, by unfold has; rw [hn]; rfl⟩))).1
  · obtain ⟨r'', h1, h2⟩ := mem_mates.mp (f1 c ((n2 c).mpr ⟨r, hr, hc⟩))
    rw [h.mt.inj r' r'' c e' h2]
    exact h1
/-- the told least lot -/
structure Due (P : Int → List Int) (W D : List Int) : Prop where
  sub : D.Sublist W
  top : ∀ M : List Int, M.Sublist W → ∀ a b, lackI P M a → lackI P D b → a ≤ b
  few : ∀ M : List Int, M.Sublist W → ∀ a, lackI P M a → lackI P D a → D.length ≤ M.length
theorem due_in {P : Int → List Int} {W D M : List Int} (h : Due P W D) (hW : W.Nodup) (hM : M.Sublist W) {b : Int} (hb : lackI P D b) (hm : lackI P M b) : ∀ y ∈ D, y ∈ M := by
  have nD := hW.sublist h.sub
  have nM := hW.sublist hM
  have sI : (D.filter fun x => decide (x ∈ M)).Sublist W := List.filter_sublist.trans h.sub
  have sU : (W.filter fun x => decide (x ∈ D ∨ x ∈ M)).Sublist W := List.filter_sublist
  obtain ⟨i, hi⟩ := ex_lack P (D.filter fun x => decide (x ∈ M))
  obtain ⟨u, hu⟩ := ex_lack P (W.filter fun x => decide (x ∈ D ∨ x ∈ M))
  have := lack_meet nD nM (nD.filter _) (hW.filter _) (fun x => by
    rw [List.mem_filter, decide_eq_true_iff]
    exact ⟨fun h => h.2, fun h' => ⟨h'.elim (fun z => h.sub.subset z) fun z => hM.subset z, h'⟩⟩) (fun x => by rw [List.mem_filter, decide_eq_true_iff]) hb hm hi hu
  have t1 := h.top _ sI i b hi hb
  have t2 := h.top _ sU u b hu hb
  have hib : i = b := by omega
  rw [hib] at hi
  have l1 := h.few _ sI b hi hb
  intro y hy
  have := full (nD.filter fun x => decide (x ∈ M)) (fun x hx => (List.mem_filter.mp hx).1) l1 y hy
  exact of_decide_eq_true (List.mem_filter.mp this).2
theorem due_eq {P : Int → List Int} {W D F : List Int} {g : MM} (h : Due P W D) (hW : W.Pairwise (· < ·)) (hL : LeastBy P W g F) (hF : F.Pairwise (· < ·)) : D = F ∧ lackI P D ((W.length : Int) - (W.filter (has g)).length) := by
  have nW := asc_nodup hW
  have nF := asc_nodup hF
  have sF := asc_sub hF hW hL.sub
  have lF := least_lack hL nW nF
  obtain ⟨b, hb⟩ := ex_lack P D
  have t1 := h.top F sF _ b lF hb
  obtain ⟨t2, t3⟩ := least_le hL nW (nW.sublist h.sub) (fun r hr => h.sub.subset hr) hb
  have e : b = (W.length : Int) - (W.filter (has g)).length := by omega
  rw [← e] at lF
  have h1 := due_in h nW sF hb lF
  have h2 := t3 e
  exact ⟨asc_eq (hW.sublist h.sub) hF fun x => ⟨h1 x, h2 x⟩, e ▸ hb⟩
end Sw
namespace Sw
open PySem PySem.Spec PyProof.Rows L2
def spDrawnA (K : PySem.W.Frag) : Sp := fun vs H Q _ => ∃ (p1 : Addr) (ns : List Int) (at' : Int), vs = [.ref p1, .int at'] ∧ SqL K H p1 (ns.map V.int) ∧ (∀ n ∈ ns, Num n) ∧ 0 ≤ at' ∧ at' + 6 ≤ (ns.length : Int) ∧
  ∀ (H' : Hp) (t : Addr) (tb : Tups), Same H H' → H' t = some (.lst (refs tb)) → IntsAt H' tb → tb.length ≤ 5 → (∀ p ∈ tb, p.2.Nodup ∧ ∀ c ∈ p.2, 0 ≤ c ∧ c < 6) → Q (.ref t) H'
theorem lay_ints (l : List Int) : Lay 1 (.list (l.map PyData.int)) := lay_list fun d hd => by
  obtain ⟨i, _, rfl⟩ := List.mem_map.mp hd
  exact lay_int 0 i
theorem eqv_ints_nil (l : List Int) : PyData.eqv (.list (l.map PyData.int)) (.list []) = decide (l = []) := by
  cases l with
  | nil => rfl
  | cons x r => rfl
theorem due_nil {P : Int → List Int} {W D : List Int} {b : Int} (h : Due P W D) (hb : lackI P D b) : D = [] ↔ b = 0 := by
  have l0 : lackI P [] 0 := ⟨[], List.nodup_nil, fun c => ⟨(fun h => by cases h), (fun ⟨_, h, _⟩ => by cases h)⟩, rfl⟩
  constructor
  · intro e
    rw [e] at hb
    exact lackI_uniq hb l0
  · intro e
    rw [e] at hb
    have := h.few [] (List.nil_sublist _) 0 l0 hb
    exact List.length_eq_zero_iff.mp (Nat.le_zero.mp this)
end Sw
set_option Elab.async false
set_option linter.all false
set_option maxRecDepth 100000
set_option maxHeartbeats 4000000
/-! A local name that holds one of two defs which may raise, called within a try. -/
namespace L2
open PySem PySem.Spec PyProof.Rows
def tCallVS (i : Nat) (f1 f2 : Addr) (sp1 sp2 : Sp) (E : St → XK) (t : TA) : TE := fun σ H Q =>
  (σ[i]? = some (some (V.ref f1)) ∧ t σ H fun vs H1 => sp1 vs H1 Q (E σ)) ∨ (σ[i]? = some (some (V.ref f2)) ∧ t σ H fun vs H1 => sp2 vs H1 Q (E σ))
section
variable {X : Cx} {CX : CXT} {i k1 k2 : Nat} {f1 f2 : Addr} {fd1 fd2 : FuncData} {ps1 ps2 : List Str} {sp1 sp2 : Sp} {E : St → XK} {x : Str} {p pos : Pos} {e : Expr} {es : List Expr} {t : TA}
theorem pe_callVS (F1 : FnOk X.prog X.w X.K X.mg X.base CX k1 f1 fd1 ps1 sp1) (F2 : FnOk X.prog X.w X.K X.mg X.base CX k2 f2 fd2 ps2 sp2) (hr1 : Room k1 X.A) (hr2 : Room k2 X.A)
    (kp1 : PySem.W.keepIn X.K (.ref f1) = true) (kp2 : PySem.W.keepIn X.K (.ref f2) = true) (b1 : Binds X.K fd1 ps1 []) (b2 : Binds X.K fd2 ps2 []) (hx : ∀ σ, PassesAt CX X σ (E σ))
    (hN : X.N[i]? = some x) (hv : Vis X.env.scope x) (ha : PA X (e :: es) t)
    (hd : (x == ("__debug__" : Str)) = false := by decide) (hcd : (x == ("__classdict__" : Str)) = false := by decide)
    (he : starEach (e :: es) X.env = (false, eval e X.env) :: starEach es X.env := by rfl) (hpl : (backTo pos (starEach es X.env)).any (·.1) = false := by rfl) :
    PE X (.Call (.Name x p) (e :: es) [] pos) (tCallVS i f1 f2 sp1 sp2 E t) := by
  refine ⟨fun pins s σ H Q I h => ?_⟩
  have go : ∀ {k : Nat} {f : Addr} {fd : FuncData} {ps : List Str} {sp : Sp}, FnOk X.prog X.w X.K X.mg X.base CX k f fd ps sp → Room k X.A → PySem.W.keepIn X.K (.ref f) = true → Binds X.K fd ps [] → σ[i]? = some (some (.ref f)) → (t σ H fun vs H1 => sp vs H1 Q (E σ)) → wpAny (model X.prog X.w) X.A (eval (.Call (.Name x p) (e :: es) [] pos) X.env) (EP X pins σ Q) X.xe s := fun {k f fd ps sp} F hr kp b hs ht => by
    refine wpAny_Call_Name_kw (thn ((pe_var (pos := p) hN hv hd hcd).run pins s σ H (fun v H1 => v = .ref f ∧ H1 = H) I ⟨.ref f, hs, rfl, rfl⟩) fun u s1 ⟨v, H1, I1, r1, q1⟩ => ?_)
    obtain ⟨rfl, rfl⟩ := q1
    cases r1
    refine PySem.W.callWith_K (h₀ := X.base) I.ok.mod.kin kp (thn (ha.run pos pins s1 σ _ _ I1 ht) fun us s2 ⟨vs, H2, I2, r, q⟩ => ⟨I2.kIn, ?_⟩) he hpl
    exact run_fnS F hr b (hx σ) I2 r q
  rcases h with ⟨h1, h2⟩ | ⟨h1, h2⟩
  · exact go F1 hr1 kp1 b1 h1 h2
  · exact go F2 hr2 kp2 b2 h1 h2
end
end L2
namespace Sw
open PySem PySem.Spec PyProof.Rows L2
def dLI (ns : List Int) : PyData := .list (ns.map .int)
theorem dp_li {K : PySem.W.Frag} {H : Hp} {p : Addr} {ns : List Int} (h : H p = some (.lst (ns.map V.int))) : Dp K H (.ref p) (dLI ns) := dp_l h (dpAll_ints ns)
theorem lay_li (ns : List Int) : Lay 1 (dLI ns) := lay_list fun d hd => by
  obtain ⟨i, _, rfl⟩ := List.mem_map.mp hd
  exact lay_int 0 i
def oneD (n : Int) (at_ : List Int) (l : List Int) : PyData := if isPose n at_ then dLI l else dTI at_
theorem lay_one (n : Int) (at_ l : List Int) : Lay 1 (oneD n at_ l) := by
  unfold oneD
  split
  · exact lay_li l
  · exact lay_ti at_
def listsD (n : Int) (cam at_ : List Int) (kk : List (List Int)) : List PyData := [oneD n at_ ((seenI n cam at_ 0 kk).map (·.1)), oneD n at_ (sureC cam (seenI n cam at_ 0 kk))]
/-- both lists, each with its error in its place -/
def spLists (K : PySem.W.Frag) (C : Addr) : Sp := fun vs H Q _ => ∃ (p pa : Addr) (n : Int) (ks : Tups) (cam at_ : List Int), vs = [.ref p, .ref pa] ∧ SkyS K C H p n ks cam ∧ isSky n (keys ks) cam = true ∧ SqT K H pa (at_.map V.int) ∧
  ∀ (H' : Hp) (l : Addr), Same H H' → Dp K H' (.ref l) (.list (listsD n cam at_ (keys ks))) → Q (.ref l) H'
/-! data that stand whatever the list at l becomes -/
def Off (K : PySem.W.Frag) (H : Hp) (l : Addr) (v : V) (d : PyData) : Prop := ∀ o, Dp K (upd H l o) v d
def OffAll (K : PySem.W.Frag) (H : Hp) (l : Addr) (vs : List V) (ds : List PyData) : Prop := ∀ o, DpAll K (upd H l o) vs ds
theorem same_off {H H' : Hp} {l : Addr} {o : HO} (h : ∀ q x, q ≠ l → H q = some x → H' q = some x) : Same (upd H l o) (upd H' l o) := fun q x e => by
  by_cases hq : q = l
  · subst hq
    rw [upd_same] at e ⊢
    exact e
  · rw [upd_ne hq] at e ⊢
    exact h q x hq e
theorem offAll_up {K : PySem.W.Frag} {H H' : Hp} {l : Addr} {vs : List V} {ds : List PyData} (h : ∀ q x, q ≠ l → H q = some x → H' q = some x) (d : OffAll K H l vs ds) : OffAll K H' l vs ds := fun o => dpAll_up (same_off h) (d o)
theorem offAll_push {K : PySem.W.Frag} {H : Hp} {l : Addr} {v : V} {d : PyData} {vs : List V} {ds : List PyData} (h1 : OffAll K H l vs ds) (h2 : Off K H l v d) : OffAll K H l (vs ++ [v]) (ds ++ [d]) := fun o => dpAll_push (h1 o) (h2 o)
theorem offAll_at {K : PySem.W.Frag} {H : Hp} {l : Addr} {o : HO} {vs : List V} {ds : List PyData} (hl : H l = some o) (h : OffAll K H l vs ds) : DpAll K H vs ds := dpAll_up (fun q x e => by
  by_cases hq : q = l
  · subst hq
    rw [upd_same] at e
    rw [hl]
    exact e
  · rw [upd_ne hq] at e
    exact e) (h o)
theorem off_ti {K : PySem.W.Frag} {H : Hp} {l p : Addr} {xs : List V} {ns : List Int} (hl : H l = some (.lst xs)) (h : SqT K H p (ns.map V.int)) : Off K H l (.ref p) (dTI ns) := fun _ => dp_ti (sqT_lst hl h)
theorem off_li {K : PySem.W.Frag} {H : Hp} {l p : Addr} {ns : List Int} (hne : p ≠ l) (h : H p = some (.lst (ns.map V.int))) : Off K H l (.ref p) (dLI ns) := fun _ => dp_li (by rw [upd_ne hne]; exact h)
/-! what is seen and sure, by the law's own way -/
theorem iabs_le {x r : Int} : iabs x ≤ r ↔ -r ≤ x ∧ x ≤ r := by
  unfold iabs
  split <;> omega
theorem seenI_in {n r b g l x y q : Int} (room least : Int) (hroom : room = r + b) (hleast : least = l - g) : ∀ (kk : List (List Int)) (j : Nat), kk.all (isStar n) = true →
    (seenI n [r, b, g, l] [x, y, q] j kk).map (·.1) = inI n [r, b, g, l] [x, y, q] room least j kk
  | [], _, _ => rfl
  | k :: t, j, h => by
    rw [List.all_cons, Bool.and_eq_true] at h
    obtain ⟨sx, sy, bb, rfl, _⟩ := star_form h.1
    show (((match seenOne n [r, b, g, l] [x, y, q] [sx, sy, bb] with | some d => [((j : Int), d)] | none => []) ++ seenI n [r, b, g, l] [x, y, q] (j + 1) t).map (·.1)) = (if inOne n [r, b, g, l] [x, y, q] room least [sx, sy, bb] then [(j : Int)] else []) ++ inI n [r, b, g, l] [x, y, q] room least (j + 1) t
    rw [List.map_append, seenI_in room least hroom hleast t (j + 1) h.2]
    congr 1
    cases e : offI n [r, b, g, l] [x, y, q] [sx, sy, bb] with
    | none => unfold seenOne inOne; rw [e]; rfl
    | some z =>
      obtain ⟨u, v⟩ := z
      have bd := off_some e
      have e1 : seenOne n [r, b, g, l] [x, y, q] [sx, sy, bb] = if l - g ≤ bb then some [u, v, bb] else none := by unfold seenOne; rw [e]
      have e2 : inOne n [r, b, g, l] [x, y, q] room least [sx, sy, bb] = decide (l - g ≤ bb) := by
        unfold inOne
        rw [e]
        show (decide (iabs u ≤ room) && decide (iabs v ≤ room) && decide (least ≤ bb)) = _
        rw [hroom, hleast, decide_eq_true (iabs_le.mpr bd.1), decide_eq_true (iabs_le.mpr bd.2)]
        rfl
      rw [e1, e2]
      by_cases hc : l - g ≤ bb
      · rw [if_pos hc, if_pos (decide_eq_true hc)]
        rfl
      · rw [if_neg hc, if_neg (by rw [decide_eq_false hc]; decide)]
        rfl
theorem sureI_app (r b g l : Int) (a c : List (Int × List Int)) : sureI r b g l (a ++ c) = sureI r b g l a ++ sureI r b g l c := by
  unfold sureI
  rw [List.filter_append, List.map_append]
theorem sureI_in {n r b g l x y q : Int} (hg : 0 ≤ g) (hb : 0 ≤ b) : ∀ (kk : List (List Int)) (j : Nat), kk.all (isStar n) = true →
    sureI r b g l (seenI n [r, b, g, l] [x, y, q] j kk) = inI n [r, b, g, l] [x, y, q] (r - b) (l + g) j kk
  | [], _, _ => rfl
  | k :: t, j, h => by
    rw [List.all_cons, Bool.and_eq_true] at h
    obtain ⟨sx, sy, bb, rfl, _⟩ := star_form h.1
    show sureI r b g l ((match seenOne n [r, b, g, l] [x, y, q] [sx, sy, bb] with | some d => [((j : Int), d)] | none => []) ++ seenI n [r, b, g, l] [x, y, q] (j + 1) t) = (if inOne n [r, b, g, l] [x, y, q] (r - b) (l + g) [sx, sy, bb] then [(j : Int)] else []) ++ inI n [r, b, g, l] [x, y, q] (r - b) (l + g) (j + 1) t
    rw [sureI_app, sureI_in hg hb t (j + 1) h.2]
    congr 1
    cases e : offI n [r, b, g, l] [x, y, q] [sx, sy, bb] with
    | none => unfold seenOne inOne; rw [e]; rfl
    | some z =>
      obtain ⟨u, v⟩ := z
      have e1 : seenOne n [r, b, g, l] [x, y, q] [sx, sy, bb] = if l - g ≤ bb then some [u, v, bb] else none := by unfold seenOne; rw [e]
      have e2 : inOne n [r, b, g, l] [x, y, q] (r - b) (l + g) [sx, sy, bb] = isSure r b g l [u, v, bb] := by
        unfold inOne
        rw [e]
        rfl
      rw [e1, e2]
      by_cases hc : l - g ≤ bb
      · rw [if_pos hc]
        show (([((j : Int), [u, v, bb])].filter fun z => isSure r b g l z.2).map (·.1)) = _
        rw [List.filter_cons]
        cases hs : isSure r b g l [u, v, bb] with
        | true => rfl
        | false => rfl
      · rw [if_neg hc]
        have : isSure r b g l [u, v, bb] = false := by
          show (decide (iabs u ≤ r - b) && decide (iabs v ≤ r - b) && decide (l + g ≤ bb)) = false
          rw [decide_eq_false (show ¬ l + g ≤ bb by omega), Bool.and_false]
        rw [this]
        rfl
end Sw
namespace Sw
open PySem PySem.Spec PyProof.Rows L2
theorem lay_offD (o : Option (Int × Int)) : Lay 1 (offD o) := by
  match o with
  | some (u, v) => exact lay_ti [u, v]
  | none => exact lay_non 1
theorem lay_pair {k : Nat} (i : Int) {d : PyData} (h : Lay k d) : Lay (k + 1) (.tuple [.int i, d]) := lay_tuple (lay_2 (lay_int _ _) h)
/-- a sky is made: what stood stands -/
theorem same_make {H : Hp} {x dx C : Addr} (nx : H x = none) (ndx : H dx = none) : Same H (upd (upd H dx (.own x)) x (.ins C dx [])) := fun q o e => by
  rw [upd_ne (ne_of_none e nx), upd_ne (ne_of_none e ndx)]
  exact e
end Sw
set_option Elab.async false
set_option linter.all false
set_option maxRecDepth 100000
set_option maxHeartbeats 4000000
/-! max and min of a tuple of integers. -/
namespace L2
open PySem PySem.Spec PyProof.Rows
open PySem.W (AlikeAll maxD minD maxD_ints minD_ints max_tuple_data min_tuple_data)
def rMaxTup (K : PySem.W.Frag) : List V → Hp → VK → Prop := fun vs H Q => ∃ (p : Addr) (i : Int) (ns : List Int), vs = [.ref p] ∧ SqT K H p ((i :: ns).map V.int) ∧ Q (.int (ns.foldl max i)) H
def rMinTup (K : PySem.W.Frag) : List V → Hp → VK → Prop := fun vs H Q => ∃ (p : Addr) (i : Int) (ns : List Int), vs = [.ref p] ∧ SqT K H p ((i :: ns).map V.int) ∧ Q (.int (ns.foldl min i)) H
theorem reads_ints {h : Heap} : ∀ {ns : List Int} {us : List Value}, Vals (ns.map V.int) us → ∃ as, ReadsAll h us (ns.map PyData.int) as
  | [], _, r => by
    cases r
    exact ⟨_, .nil⟩
  | n :: ns, _, r => by
    cases r with
    | cons rx rt =>
      obtain ⟨as, h2⟩ := reads_ints rt
      obtain ⟨t, rfl⟩ := rx
      exact ⟨_, .cons (.int n t) h2⟩
theorem alike_ints (i : Int) (ns : List Int) : AlikeAll (PyData.int i :: ns.map PyData.int) := by
  have mem : ∀ x ∈ (PyData.int i :: ns.map PyData.int), ∃ k, x = .int k := fun x hx => by
    rcases List.mem_cons.mp hx with rfl | hx
    · exact ⟨_, rfl⟩
    · obtain ⟨k, _, rfl⟩ := List.mem_map.mp hx
      exact ⟨k, rfl⟩
  refine ⟨fun x hx y hy => ?_, fun x hx => ?_⟩
  · obtain ⟨k, rfl⟩ := mem x hx
    obtain ⟨l, rfl⟩ := mem y hy
    rfl
  · obtain ⟨k, rfl⟩ := mem x hx
    exact nofun
theorem depth_ints : ∀ ns : List Int, PyData.depthAll (ns.map PyData.int) = 0
  | [] => rfl
  | n :: ns => by
    show max 0 (PyData.depthAll (ns.map PyData.int)) = 0
    rw [depth_ints ns]
    rfl
theorem cr_maxTup {X : Cx} (hc : X.calm = true) (hu : X.A.units + 1 < cLine) : CallR X (.builtin "max") (rMaxTup X.K) := by
  rintro pins s σ H vs us Q I r ⟨p, i, ns, rfl, hs, q⟩
  obtain ⟨its, rv, hl, _⟩ := I.tuple hs
  rw [Vals.ref1 r]
  obtain ⟨as, ra⟩ := reads_ints (h := s.heap) (ns := i :: ns) rv
  refine max_tuple_data (I.ok.hd hc) hl (x := .int i) (xs := ns.map .int) (by simpa using ra) (alike_ints i ns) (by rw [show PyData.depthAll (PyData.int i :: ns.map PyData.int) = 0 from depth_ints (i :: ns)]; exact hu) fun j v h' tk bs hj rd hk => ?_
  rw [maxD_ints] at rd
  cases rd
  exact ⟨.int _, H, I.kept hk, ⟨_, rfl⟩, q⟩
theorem cr_minTup {X : Cx} (hc : X.calm = true) (hu : X.A.units + 1 < cLine) : CallR X (.builtin "min") (rMinTup X.K) := by
  rintro pins s σ H vs us Q I r ⟨p, i, ns, rfl, hs, q⟩
  obtain ⟨its, rv, hl, _⟩ := I.tuple hs
  rw [Vals.ref1 r]
  obtain ⟨as, ra⟩ := reads_ints (h := s.heap) (ns := i :: ns) rv
  refine min_tuple_data (I.ok.hd hc) hl (x := .int i) (xs := ns.map .int) (by simpa using ra) (alike_ints i ns) (by rw [show PyData.depthAll (PyData.int i :: ns.map PyData.int) = 0 from depth_ints (i :: ns)]; exact hu) fun j v h' tk bs hj rd hk => ?_
  rw [minD_ints] at rd
  cases rd
  exact ⟨.int _, H, I.kept hk, ⟨_, rfl⟩, q⟩
end L2
set_option Elab.async false
set_option linter.all false
set_option maxRecDepth 100000
set_option maxHeartbeats 4000000
/-! Links between what is seen at two attitudes: the parts of the laws about them. -/
namespace Sw
open PySem PySem.Spec PyProof.Rows L2
def isRB (n : Int) (x : List Int) : Prop := ∃ r b : Int, x = [r, b] ∧ 0 ≤ r ∧ r ≤ 4 ∧ 0 ≤ b ∧ b ≤ 2 ∧ b ≤ r ∧ 2 * (r + b) + 1 ≤ n
def spCamL (K : PySem.W.Frag) : Sp := fun vs H Q _ => ∃ (p1 : Addr) (ns : List Int) (at' n : Int), vs = [.ref p1, .int at', .int n] ∧ SqL K H p1 (ns.map V.int) ∧ 0 ≤ at' ∧ at' + 3 ≤ (ns.length : Int) ∧ 4 ≤ n ∧ n ≤ 9 ∧
  ∀ (H' : Hp) (c : Addr) (cam : List Int), Same H H' → SqT K H' c (cam.map V.int) → isCam n cam = true → Q (.ref c) H'
def spStarsL (K : PySem.W.Frag) : Sp := fun vs H Q _ => ∃ (p1 : Addr) (ns : List Int) (at' n many : Int), vs = [.ref p1, .int at', .int n, .int many] ∧ SqL K H p1 (ns.map V.int) ∧ (∀ z ∈ ns, Num z) ∧ 0 ≤ at' ∧ 0 ≤ many ∧ many ≤ 20 ∧ at' + 1 + 3 * many ≤ (ns.length : Int) ∧ 4 ≤ n ∧ n ≤ 9 ∧
  ∀ (H' : Hp) (l : Addr) (ks : Tups), Same H H' → H l = none → H' l = some (.lst (refs ks)) → TupsAt K H' ks → (∀ x ∈ keys ks, isStar n x = true) → (keys ks).Nodup → (ks.length : Int) ≤ many → Asc 10 (keys ks) → Q (.ref l) H'
/-- the drawn parts of a sky, for skies of some sides -/
def spPartsL (K : PySem.W.Frag) : Sp := fun vs H Q _ => ∃ (p1 sl : Addr) (ns sides : List Int) (at' many : Int), vs = [.ref p1, .int at', .ref sl, .int many] ∧ SqL K H p1 (ns.map V.int) ∧ (∀ z ∈ ns, Num z) ∧ SqL K H sl (sides.map V.int) ∧ (∀ z ∈ sides, 4 ≤ z ∧ z ≤ 9) ∧ 0 < sides.length ∧ sides.length < 100 ∧ 0 ≤ at' ∧ 0 ≤ many ∧ many ≤ 20 ∧ at' + 5 + 3 * many ≤ (ns.length : Int) ∧
  ∀ (H' : Hp) (t : Addr) (n : Int) (ks : Tups) (cam : List Int), Same H H' → PartsAt K H' t n ks cam → isSky n (keys ks) cam = true → (ks.length : Int) ≤ many → Asc 10 (keys ks) → Q (.ref t) H'
def spMadeL (K : PySem.W.Frag) (C : Addr) : Sp := fun vs H Q _ => ∃ (t : Addr) (n : Int) (ks : Tups) (cam : List Int), vs = [.ref t] ∧ PartsAt K H t n ks cam ∧ isSky n (keys ks) cam = true ∧ Asc 10 (keys ks) ∧
  ∀ (H' : Hp) (p : Addr) (ks' : Tups), Same H H' → SkyS K C H' p n ks' cam → keys ks' = keys ks → Q (.ref p) H'
def spAttL (K : PySem.W.Frag) : Sp := fun vs H Q _ => ∃ (p1 : Addr) (ns : List Int) (at' n : Int), vs = [.ref p1, .int at', .int n] ∧ SqL K H p1 (ns.map V.int) ∧ 0 ≤ at' ∧ at' + 3 ≤ (ns.length : Int) ∧ 4 ≤ n ∧
  ∀ (H' : Hp) (p : Addr) (at_ : List Int), Same H H' → SqT K H' p (at_.map V.int) → isPose n at_ = true → Q (.ref p) H'
def spBeside (K : PySem.W.Frag) : Sp := fun vs H Q _ => ∃ (p1 q : Addr) (ns one : List Int) (at' n : Int), vs = [.ref p1, .int at', .int n, .ref q] ∧ SqL K H p1 (ns.map V.int) ∧ (∀ z ∈ ns, Num z) ∧ 0 ≤ at' ∧ at' + 4 ≤ (ns.length : Int) ∧ 4 ≤ n ∧ SqT K H q (one.map V.int) ∧ isPose n one = true ∧
  ∀ (H' : Hp) (p : Addr) (at_ : List Int), Same H H' → SqT K H' p (at_.map V.int) → isPose n at_ = true → Q (.ref p) H'
def spTurnedL (K : PySem.W.Frag) : Sp := fun vs H Q _ => ∃ q x y : Int, vs = [.int q, .int x, .int y] ∧ 0 ≤ q ∧ q ≤ 3 ∧
  ∀ (H' : Hp) (p' : Addr), Same H H' → SqT K H' p' [.int (turnX q x y), .int (turnY q x y)] → Q (.ref p') H'
theorem refs_pick {ks : Tups} {j : Int} (h0 : 0 ≤ j) (h1 : j < (ks.length : Int)) : ∃ q, ks[j.toNat]? = some q ∧ atI (refs ks) j = some (.ref q.1) := by
  obtain ⟨k, rfl⟩ := Int.eq_ofNat_of_zero_le h0
  have hk : k < ks.length := by omega
  refine ⟨ks[k], List.getElem?_eq_getElem hk, atI_nat ?_⟩
  unfold refs
  rw [List.getElem?_map, List.getElem?_eq_getElem hk]
  rfl
end Sw
namespace Sw
open PySem PySem.Spec PyProof.Rows L2
/-! ### dicts from numbers to tuples -/
theorem put_fresh {v : V} {j : Int} {zs : Shown} (h : ∀ z ∈ zs, z.1 ≠ j) : putK (shownK zs) (.inl j) v = shownK zs ++ [(.inl j, v)] := by
  unfold putK
  rw [if_neg]
  intro e
  rw [List.any_eq_true] at e
  obtain ⟨kv, hk, e⟩ := e
  obtain ⟨z, hz, rfl⟩ := List.mem_map.mp hk
  exact h z hz (inl_inj (of_decide_eq_true e))
theorem shown_push (zs : Shown) (z : Int × Addr × List Int) : shownK zs ++ [(Sum.inl z.1, V.ref z.2.1)] = shownK (zs ++ [z]) := by
  unfold shownK
  rw [List.map_append]
  rfl
def atK (S : List (Int × List Int)) (a : Int) : Option (List Int) := (S.find? fun z => decide (z.1 = a)).map (·.2)
theorem at_shown (zs : Shown) (a : Int) : atK (shownD zs) a = (zs.find? fun z => decide (z.1 = a)).map (·.2.2) := by
  unfold atK shownD
  rw [List.find?_map, Option.map_map]
  rfl
/-- what d[a] is -/
theorem get_shown {K : PySem.W.Frag} {H : Hp} {d : Addr} {zs : Shown} (h : H d = some (.dK (shownK zs))) (hz : ShownAt K H zs) (a : Int) :
    (atK (shownD zs) a = none → DGet H d (.int a) none) ∧ ∀ l, atK (shownD zs) a = some l → ∃ q, DGet H d (.int a) (some (.ref q)) ∧ SqT K H q (l.map V.int) := by
  have g : DGet H d (.int a) (valV (shownK zs) (.inl a)) := DGet.k (k := .inl a) h
  rw [val_shown] at g
  rw [at_shown]
  cases e : zs.find? fun z => decide (z.1 = a) with
  | none =>
    rw [e] at g
    exact ⟨fun _ => g, fun l z => by cases z⟩
  | some z =>
    rw [e] at g
    refine ⟨(fun z => by cases z), fun l el => ?_⟩
    have el' : z.2.2 = l := Option.some.inj el
    exact ⟨z.2.1, g, el' ▸ hz z (List.mem_of_find?_eq_some e)⟩
theorem atK_none {S : List (Int × List Int)} {a : Int} (h : ∀ z ∈ S, z.1 ≠ a) : atK S a = none := by
  unfold atK
  rw [List.find?_eq_none.mpr fun z hz => by simpa using h z hz]
  rfl
theorem atK_app (S T : List (Int × List Int)) (a : Int) : atK (S ++ T) a = (atK S a).or (atK T a) := by
  unfold atK
  rw [List.find?_append]
  cases S.find? fun z => decide (z.1 = a) <;> rfl
theorem seenI_ge (n : Int) (cam at_ : List Int) : ∀ (l : List (List Int)) (j : Nat), ∀ z ∈ seenI n cam at_ j l, (j : Int) ≤ z.1
  | [], j, z, h => by cases h
  | x :: r, j, z, h => by
    rcases List.mem_append.mp h with h | h
    · cases e : seenOne n cam at_ x with
      | none => rw [e] at h; cases h
      | some d =>
        rw [e] at h
        rw [List.mem_singleton.mp h]
        exact Int.le_refl _
    · have := seenI_ge n cam at_ r (j + 1) z h
      omega
theorem atK_seen (n : Int) (cam at_ : List Int) : ∀ (l : List (List Int)) (j m : Nat), atK (seenI n cam at_ j l) ((j + m : Nat) : Int) = (l[m]?).bind (seenOne n cam at_)
  | [], j, m => rfl
  | x :: r, j, m => by
    show atK ((match seenOne n cam at_ x with | some d => [((j : Int), d)] | none => []) ++ seenI n cam at_ (j + 1) r) _ = _
    rw [atK_app]
    cases m with
    | zero =>
      rw [atK_none (S := seenI n cam at_ (j + 1) r) fun z hz => by have := seenI_ge n cam at_ r (j + 1) z hz; omega, List.getElem?_cons_zero]
      show _ = seenOne n cam at_ x
      cases seenOne n cam at_ x with
      | none => rfl
      | some d =>
        unfold atK
        rw [List.find?_cons_of_pos (p := fun z : Int × List Int => decide (z.1 = ((j + 0 : Nat) : Int))) (decide_eq_true rfl)]
        rfl
    | succ m =>
      rw [List.getElem?_cons_succ, ← atK_seen n cam at_ r (j + 1) m, show j + (m + 1) = j + 1 + m by omega]
      have z : atK (match seenOne n cam at_ x with | some d => [((j : Int), d)] | none => []) ((j + 1 + m : Nat) : Int) = none := by
        refine atK_none fun z hz => ?_
        cases e : seenOne n cam at_ x with
        | none => rw [e] at hz; cases hz
        | some d =>
          rw [e] at hz
          rw [List.mem_singleton.mp hz]
          show (j : Int) ≠ _
          omega
      rw [z]
      rfl
theorem atK_seen0 (n : Int) (cam at_ : List Int) (l : List (List Int)) (m : Nat) : atK (seenI n cam at_ 0 l) (m : Int) = (l[m]?).bind (seenOne n cam at_) := by
  have := atK_seen n cam at_ l 0 m
  rwa [Nat.zero_add] at this
/-! ### linked stars -/
def nearB (cam : List Int) : List Int → List Int → Bool
  | [u, v, b], [x, y, c] => match cam with
    | [_, bl, g, _] => decide (-(2 * bl) ≤ u - x) && decide (u - x ≤ 2 * bl) && (decide (-(2 * bl) ≤ v - y) && decide (v - y ≤ 2 * bl)) && (decide (-(2 * g) ≤ b - c) && decide (b - c ≤ 2 * g))
    | _ => false
  | _, _ => false
/-- what is seen of the star with this number -/
def sO (n : Int) (cam at_ : List Int) (kk : List (List Int)) (m : Nat) : Option (List Int) := (kk[m]?).bind (seenOne n cam at_)
def lkN (n : Int) (cam : List Int) (kk : List (List Int)) (one other : List Int) (a b : Nat) : Bool :=
  match sO n cam one kk a, sO n cam other kk b with
  | some d, some e => nearB cam d e
  | _, _ => false
def rowN (n : Int) (cam : List Int) (kk : List (List Int)) (one other : List Int) (a : Nat) : List Int := ((List.range kk.length).filter (lkN n cam kk one other a)).map Int.ofNat
def tblN (n : Int) (cam : List Int) (kk : List (List Int)) (one other : List Int) : List (List Int) := (List.range kk.length).map (rowN n cam kk one other)
def linksN (n : Int) (cam : List Int) (kk : List (List Int)) (one other : List Int) : List (List Int) := (List.range kk.length).flatMap fun a : Nat => ((List.range kk.length).filter (lkN n cam kk one other a)).map fun b : Nat => [(a : Int), (b : Int)]
theorem row_seen (n : Int) (cam other : List Int) (d : List Int) (kk : List (List Int)) : ∀ i, i ≤ kk.length →
    ((seenI n cam other 0 (kk.take i)).filter fun z => nearB cam d z.2).map (·.1) = ((List.range i).filter fun b => match sO n cam other kk b with | some e => nearB cam d e | none => false).map Int.ofNat
  | 0, _ => rfl
  | i + 1, hi => by
    have hk : kk[i]? = some kk[i] := List.getElem?_eq_getElem hi
    have tk : kk.take (i + 1) = kk.take i ++ [kk[i]] := by rw [List.take_add_one, hk]; rfl
    rw [tk, seenI_push, List.filter_append, List.map_append, row_seen n cam other d kk i (by omega), List.range_succ, List.filter_append, List.map_append]
    congr 1
    rw [List.length_take, Nat.min_eq_left (by omega), Nat.zero_add]
    have es : sO n cam other kk i = seenOne n cam other kk[i] := by unfold sO; rw [hk]; rfl
    cases e : seenOne n cam other kk[i] with
    | none =>
      rw [e] at es
      rw [List.filter_cons_of_neg (by rw [es]; exact Bool.false_ne_true)]
      rfl
    | some w =>
      rw [e] at es
      cases z : nearB cam d w with
      | true =>
        rw [List.filter_cons_of_pos (by exact z), List.filter_cons_of_pos (by rw [es]; exact z)]
        rfl
      | false =>
        rw [List.filter_cons_of_neg (by rw [z]; exact Bool.false_ne_true), List.filter_cons_of_neg (by rw [es]; exact fun q => Bool.false_ne_true (z.symm.trans q))]
        rfl
theorem row_eq {n : Int} {cam one other : List Int} {kk : List (List Int)} {a : Nat} {d : List Int} (h : sO n cam one kk a = some d) :
    ((seenI n cam other 0 kk).filter fun z => nearB cam d z.2).map (·.1) = rowN n cam kk one other a := by
  have := row_seen n cam other d kk kk.length (Nat.le_refl _)
  rw [List.take_length] at this
  rw [this]
  unfold rowN
  congr 1
  apply List.filter_congr
  intro b _
  unfold lkN
  rw [h]
  cases sO n cam other kk b <;> rfl
theorem row_none {n : Int} {cam one other : List Int} {kk : List (List Int)} {a : Nat} (h : sO n cam one kk a = none) : rowN n cam kk one other a = [] := by
  unfold rowN
  rw [List.filter_eq_nil_iff.mpr]
  · rfl
  · intro b _
    unfold lkN
    rw [h]
    exact Bool.false_ne_true
end Sw
namespace Sw
open PySem PySem.Spec PyProof.Rows L2
structure OffD (K : PySem.W.Frag) (H : Hp) (d : Addr) (n : Int) (cam at_ : List Int) (kk : List (List Int)) (zs : Shown) : Prop where
  ed : H d = some (.dK (shownK zs))
  sh : ShownAt K H zs
  val : ∀ (m : Nat) (k : List Int), kk[m]? = some k → atK (shownD zs) (m : Int) = (offI n cam at_ k).map fun p => [p.1, p.2]
theorem offD_up {K : PySem.W.Frag} {H H' : Hp} {d : Addr} {n : Int} {cam at_ : List Int} {kk : List (List Int)} {zs : Shown} (s : Same H H') (h : OffD K H d n cam at_ kk zs) : OffD K H' d n cam at_ kk zs :=
  ⟨s _ _ h.ed, fun z hz => sqT_up s (h.sh z hz), h.val⟩
def spOffs (K : PySem.W.Frag) : Sp := fun vs H Q _ => ∃ (pp pa : Addr) (n : Int) (ks : Tups) (cam at_ : List Int), vs = [.ref pp, .ref pa] ∧ PartsAt K H pp n ks cam ∧ isSky n (keys ks) cam = true ∧ SqT K H pa (at_.map V.int) ∧ isPose n at_ = true ∧
  ∀ (H' : Hp) (d : Addr) (zs : Shown), Same H H' → OffD K H' d n cam at_ (keys ks) zs → Q (.ref d) H'
structure SeenD (K : PySem.W.Frag) (H : Hp) (d : Addr) (n : Int) (cam at_ : List Int) (kk : List (List Int)) (zs : Shown) : Prop where
  ed : H d = some (.dK (shownK zs))
  sh : ShownAt K H zs
  val : ∀ m : Nat, m < kk.length → atK (shownD zs) (m : Int) = (sO n cam at_ kk m).map (·.take 2)
theorem seenD_up {K : PySem.W.Frag} {H H' : Hp} {d : Addr} {n : Int} {cam at_ : List Int} {kk : List (List Int)} {zs : Shown} (s : Same H H') (h : SeenD K H d n cam at_ kk zs) : SeenD K H' d n cam at_ kk zs :=
  ⟨s _ _ h.ed, fun z hz => sqT_up s (h.sh z hz), h.val⟩
def spSeenL (K : PySem.W.Frag) : Sp := fun vs H Q _ => ∃ (pp pa : Addr) (n : Int) (ks : Tups) (cam at_ : List Int), vs = [.ref pp, .ref pa] ∧ PartsAt K H pp n ks cam ∧ isSky n (keys ks) cam = true ∧ SqT K H pa (at_.map V.int) ∧ isPose n at_ = true ∧
  ∀ (H' : Hp) (d : Addr) (zs : Shown), Same H H' → SeenD K H' d n cam at_ (keys ks) zs → Q (.ref d) H'
def spSureL (K : PySem.W.Frag) : Sp := fun vs H Q _ => ∃ (pp pa : Addr) (n : Int) (ks : Tups) (cam at_ : List Int), vs = [.ref pp, .ref pa] ∧ PartsAt K H pp n ks cam ∧ isSky n (keys ks) cam = true ∧ SqT K H pa (at_.map V.int) ∧ isPose n at_ = true ∧
  ∀ (H' : Hp) (l : Addr), Same H H' → H' l = some (.lst ((sureN n cam at_ (keys ks)).map V.int)) → Q (.ref l) H'
def spCommon : Sp := fun vs H Q _ => ∃ lo hi x y by' : Int, vs = [.int lo, .int hi, .int x, .int y, .int by'] ∧ -1000 ≤ lo ∧ lo ≤ 1000 ∧ -1000 ≤ hi ∧ hi ≤ 1000 ∧
  ∀ (H' : Hp) (b : Bool), Same H H' → (b = true ↔ ∃ k, lo ≤ k ∧ k ≤ hi ∧ iabs (k - x) ≤ by' ∧ iabs (k - y) ≤ by') → Q (.bl b) H'
def spLinksL (K : PySem.W.Frag) : Sp := fun vs H Q _ => ∃ (pp pa pb : Addr) (n : Int) (ks : Tups) (cam one other : List Int), vs = [.ref pp, .ref pa, .ref pb] ∧ PartsAt K H pp n ks cam ∧ isSky n (keys ks) cam = true ∧ SqT K H pa (one.map V.int) ∧ isPose n one = true ∧ SqT K H pb (other.map V.int) ∧ isPose n other = true ∧
  ∀ (H' : Hp) (l : Addr) (es : Tups), Same H H' → H' l = some (.lst (refs es)) → TupsAt K H' es → keys es = linksN n cam (keys ks) one other → Q (.ref l) H'
def spLots (K : PySem.W.Frag) : Sp := fun vs H Q _ => ∃ (rl : Addr) (W : List Int), vs = [.ref rl] ∧ SqL K H rl (W.map V.int) ∧ W.length ≤ 6 ∧
  ∀ (H' : Hp) (l : Addr) (es : List (Addr × List Int)), Same H H' → H' l = some (.lst (refs es)) → IntsAt H' es → keys es = partsL W [[]] → Q (.ref l) H'
def spLacks (K : PySem.W.Frag) : Sp := fun vs H Q _ => ∃ (pl rl : Addr) (es : Tups) (g : List (Int × Int)) (L : List Int), vs = [.ref pl, .ref rl] ∧ SqL K H pl (refs es) ∧ TupsAt K H es ∧ keys es = pairs2 g ∧ es.length ≤ 1000 ∧ SqL K H rl (L.map V.int) ∧ L.length ≤ 100 ∧
  ∀ (H' : Hp) (ns : List Int), Same H H' → ns.Nodup → (∀ c, c ∈ ns ↔ ∃ r ∈ L, (r, c) ∈ g) → Q (.int ((L.length : Int) - ns.length)) H'
def twoErr (D : Addr) (E : XK) (H : Hp) (q r : Addr) (n : Int) (ns ms : List Int) : Prop :=
  (isPose n ns = false → ∀ (d : Addr) (H' : Hp), Same H H' → H' d = some (.xd [("attitude", .ref q)]) → E (.ref D) (some d) H') ∧
  (isPose n ns = true → isPose n ms = false → ∀ (d : Addr) (H' : Hp), Same H H' → H' d = some (.xd [("attitude", .ref r)]) → E (.ref D) (some d) H')
structure ShD (K : PySem.W.Frag) (H : Hp) (d : Addr) (n : Int) (cam at_ : List Int) (kk : List (List Int)) (zs : Shown) : Prop where
  ed : H d = some (.dK (shownK zs))
  sh : ShownAt K H zs
  val : shownD zs = seenI n cam at_ 0 kk
theorem shD_up {K : PySem.W.Frag} {H H' : Hp} {d : Addr} {n : Int} {cam at_ : List Int} {kk : List (List Int)} {zs : Shown} (s : Same H H') (h : ShD K H d n cam at_ kk zs) : ShD K H' d n cam at_ kk zs :=
  ⟨s _ _ h.ed, fun z hz => sqT_up s (h.sh z hz), h.val⟩
def spShownAt (K : PySem.W.Frag) (C D : Addr) : Sp := fun vs H Q E => ∃ (p q r : Addr) (n : Int) (ks : Tups) (cam one other : List Int), vs = [.ref p, .ref q, .ref r] ∧ SkyS K C H p n ks cam ∧ isSky n (keys ks) cam = true ∧ SqT K H q (one.map V.int) ∧ SqT K H r (other.map V.int) ∧
  (isPose n one = true → isPose n other = true → ∀ (H' : Hp) (t d1 d2 : Addr) (z1 z2 : Shown), Same H H' → SqT K H' t [.ref d1, .ref d2] → d1 ≠ d2 → ShD K H' d1 n cam one (keys ks) z1 → ShD K H' d2 n cam other (keys ks) z2 → Q (.ref t) H') ∧ twoErr D E H q r n one other
def spLinkTab (K : PySem.W.Frag) (C : Addr) : Sp := fun vs H Q _ => ∃ (p d1 d2 : Addr) (n : Int) (ks : Tups) (cam one other : List Int) (z1 z2 : Shown), vs = [.ref p, .ref d1, .ref d2] ∧ d1 ≠ d2 ∧ SkyS K C H p n ks cam ∧ isSky n (keys ks) cam = true ∧ ShD K H d1 n cam one (keys ks) z1 ∧ ShD K H d2 n cam other (keys ks) z2 ∧
  ∀ (H' : Hp) (t : Addr) (tb : Tups), Same H H' → TabAt K H' t tb → keys tb = tblN n cam (keys ks) one other → Q (.ref t) H'
/-- the greatest lack -/
def LackIs (P : Int → List Int) (W : List Int) (x : Int) : Prop := (∃ M : List Int, M.Sublist W ∧ lackI P M x) ∧ ∀ M : List Int, M.Sublist W → ∀ y, lackI P M y → y ≤ x
def spLacks2 (K : PySem.W.Frag) (C : Addr) : Sp := fun vs H Q _ => ∃ (p d1 d2 : Addr) (n : Int) (ks : Tups) (cam one other : List Int) (z1 z2 : Shown), vs = [.ref p, .ref d1, .ref d2] ∧ d1 ≠ d2 ∧ SkyS K C H p n ks cam ∧ isSky n (keys ks) cam = true ∧ ShD K H d1 n cam one (keys ks) z1 ∧ ShD K H d2 n cam other (keys ks) z2 ∧
  ∀ (H' : Hp) (t : Addr) (x y : Int), Same H H' → SqT K H' t [.int x, .int y] → LackIs (tP (tblN n cam (keys ks) one other)) (sureN n cam one (keys ks)) x → LackIs (tP (tblN n cam (keys ks) other one)) (sureN n cam other (keys ks)) y → Q (.ref t) H'
def spLackOf (K : PySem.W.Frag) (C D : Addr) (f : Int → Int → Int) : Sp := fun vs H Q E => ∃ (p q r : Addr) (n : Int) (ks : Tups) (cam one other : List Int), vs = [.ref p, .ref q, .ref r] ∧ SkyS K C H p n ks cam ∧ isSky n (keys ks) cam = true ∧ SqT K H q (one.map V.int) ∧ SqT K H r (other.map V.int) ∧
  (isPose n one = true → isPose n other = true → ∀ (H' : Hp) (x y : Int), Same H H' → LackIs (tP (tblN n cam (keys ks) one other)) (sureN n cam one (keys ks)) x → LackIs (tP (tblN n cam (keys ks) other one)) (sureN n cam other (keys ks)) y → Q (.int (f x y)) H') ∧ twoErr D E H q r n one other
def spLeastOf (K : PySem.W.Frag) (C D : Addr) : Sp := fun vs H Q E => ∃ (p q r : Addr) (n : Int) (ks : Tups) (cam one other : List Int), vs = [.ref p, .ref q, .ref r] ∧ SkyS K C H p n ks cam ∧ isSky n (keys ks) cam = true ∧ SqT K H q (one.map V.int) ∧ SqT K H r (other.map V.int) ∧
  (isPose n one = true → isPose n other = true → ∀ (H' : Hp) (l : Addr) (g : MM) (F : List Int), Same H H' → H' l = some (.lst (F.map V.int)) → F.Pairwise (· < ·) → LeastBy (tP (tblN n cam (keys ks) one other)) (sureN n cam one (keys ks)) g F → Q (.ref l) H') ∧ twoErr D E H q r n one other
def spMostL (K : PySem.W.Frag) : Sp := fun vs H Q _ => ∃ (t rl : Addr) (tb : Tups) (W : List Int), vs = [.ref t, .ref rl] ∧ TabAt K H t tb ∧ TabOk (keys tb) ∧ SqL K H rl (W.map V.int) ∧ W.Nodup ∧ (∀ r ∈ W, 0 ≤ r ∧ r < (tb.length : Int)) ∧
  ∀ (H' : Hp) (m : Int), Same H H' → LackIs (tP (keys tb)) W ((W.length : Int) - m) → Q (.int m) H'
theorem lack_le {P : Int → List Int} {W L : List Int} {g : MM} {x : Int} (hM : Mt P g) (hW : W.Nodup) (hL : L.Nodup) (hLW : ∀ r ∈ L, r ∈ W) (hx : lackI P L x) : x ≤ (W.length : Int) - (W.filter (has g)).length := by
  obtain ⟨ns, hn, hc, rfl⟩ := hx
  have h1 : (matesOf g L).length ≤ ns.length := len_le_of_sub (nodup_mates hM hL) fun c hc' => by
    obtain ⟨r, hr, e⟩ := mem_mates.mp hc'
    exact (hc c).mpr ⟨r, hr, hM.ed r c e⟩
  rw [len_mates] at h1
  have h2 := filt_len L (has g)
  have h3 := filt_len W (has g)
  have h4 : (L.filter fun x => !has g x).length ≤ (W.filter fun x => !has g x).length := len_le_of_sub (hL.filter _) fun c hc' => by
    rw [List.mem_filter] at hc' ⊢
    exact ⟨hLW c hc'.1, hc'.2⟩
  omega
theorem lack_is {P : Int → List Int} {W Z : List Int} {g : MM} (hM : Mt P g) (hW : W.Nodup) (hZ : Shut P g Z) (hZW : ∀ z ∈ Z, z ∈ W) (hF : ∀ r ∈ W, lk g r = none → r ∈ Z) : LackIs P W ((W.length : Int) - (W.filter (has g)).length) := by
  refine ⟨⟨W.filter fun r => decide (r ∈ Z), List.filter_sublist, ?_⟩, fun M hMW y hy => lack_le hM hW (hMW.nodup hW) (fun r hr => hMW.subset hr) hy⟩
  have hm : ∀ r, r ∈ (W.filter fun r => decide (r ∈ Z)) ↔ r ∈ Z := fun r => by
    rw [List.mem_filter, decide_eq_true_iff]
    exact ⟨fun h => h.2, fun h => ⟨hZW r h, h⟩⟩
  have hn : (W.filter fun r => decide (r ∈ Z)).Nodup := hW.filter _
  generalize W.filter (fun r => decide (r ∈ Z)) = M at hm hn ⊢
  refine ⟨matesOf g M, nodup_mates hM hn, fun c => ?_, ?_⟩
  · rw [mem_mates]
    constructor
    · rintro ⟨r, hr, e⟩
      exact ⟨r, hr, hM.ed r c e⟩
    · rintro ⟨r, hr, e⟩
      obtain ⟨z, hz, e2⟩ := hZ r ((hm r).mp hr) c e
      exact ⟨z, (hm z).mpr hz, e2⟩
  · rw [len_mates]
    have h2 := filt_len M (has g)
    have h3 := filt_len W (has g)
    have h4 : (M.filter fun x => !has g x).length = (W.filter fun x => !has g x).length := same_card (hn.filter _) (hW.filter _) fun c => by
      rw [List.mem_filter, List.mem_filter, hm]
      have e : (!has g c) = true ↔ lk g c = none := by
        unfold has
        cases lk g c <;> simp
      rw [e]
      exact ⟨fun h => ⟨hZW c h.1, h.2⟩, fun h => ⟨hF c h.1 h.2, h.2⟩⟩
    omega
theorem lackIs_uniq {P : Int → List Int} {W : List Int} {x y : Int} (hx : LackIs P W x) (hy : LackIs P W y) : x = y := by
  obtain ⟨⟨M, h1, h2⟩, h3⟩ := hx
  obtain ⟨⟨N, h4, h5⟩, h6⟩ := hy
  have := h3 N h4 y h5
  have := h6 M h1 x h2
  omega
end Sw
namespace Sw
open PySem PySem.Spec PyProof.Rows L2
/-- what has been found up to here -/
structure OffV (n : Int) (cam at_ : List Int) (kk : List (List Int)) (vis : Int → Int → Nat → Prop) (zs : Shown) : Prop where
  from_ : ∀ z ∈ zs, ∃ (m : Nat) (k : List Int) (u v : Int), z.1 = (m : Int) ∧ kk[m]? = some k ∧ offI n cam at_ k = some (u, v) ∧ z.2.2 = [u, v] ∧ vis u v m
  to : ∀ (m : Nat) (k : List Int) (u v : Int), kk[m]? = some k → offI n cam at_ k = some (u, v) → vis u v m → ∃ z ∈ zs, z.1 = (m : Int)
theorem OffV.imp {n : Int} {cam at_ : List Int} {kk : List (List Int)} {vis vis' : Int → Int → Nat → Prop} {zs : Shown} (h : OffV n cam at_ kk vis zs) (e : ∀ (m : Nat) (k : List Int) (u v : Int), kk[m]? = some k → offI n cam at_ k = some (u, v) → (vis u v m ↔ vis' u v m)) : OffV n cam at_ kk vis' zs := by
  refine ⟨fun z hz => ?_, fun m k u v hk ho hv => h.to m k u v hk ho ((e m k u v hk ho).mpr hv)⟩
  obtain ⟨m, k, u, v, h1, h2, h3, h4, h5⟩ := h.from_ z hz
  exact ⟨m, k, u, v, h1, h2, h3, h4, (e m k u v h2 h3).mp h5⟩
theorem OffV.val {n : Int} {cam at_ : List Int} {kk : List (List Int)} {vis : Int → Int → Nat → Prop} {zs : Shown} (h : OffV n cam at_ kk vis zs) {m : Nat} {k : List Int} (all : ∀ u v, offI n cam at_ k = some (u, v) → vis u v m) (hk : kk[m]? = some k) :
    atK (shownD zs) (m : Int) = (offI n cam at_ k).map fun p => [p.1, p.2] := by
  rw [at_shown]
  cases e : zs.find? fun z => decide (z.1 = (m : Int)) with
  | none =>
    cases eo : offI n cam at_ k with
    | none => rfl
    | some p =>
      obtain ⟨u, v⟩ := p
      obtain ⟨z, hz, ez⟩ := h.to m k u v hk eo (all u v eo)
      have := List.find?_eq_none.mp e z hz
      exact absurd (decide_eq_true ez) this
  | some z =>
    have ez0 := List.find?_some (p := fun z : Int × Addr × List Int => decide (z.1 = (m : Int))) e
    have ez : z.1 = (m : Int) := of_decide_eq_true ez0
    obtain ⟨m', k', u, v, h1, h2, h3, h4, h5⟩ := h.from_ z (List.mem_of_find?_eq_some e)
    have em : m' = m := by omega
    rw [em, hk] at h2
    have ek := Option.some.inj h2
    rw [← ek] at h3
    rw [h3]
    show some z.2.2 = some [u, v]
    rw [h4]
theorem off_some3 {n r b g l x y q u v : Int} {k : List Int} (hk : isStar n k = true) (h : offI n [r, b, g, l] [x, y, q] k = some (u, v)) : (-(r + b) ≤ u ∧ u ≤ r + b) ∧ (-(r + b) ≤ v ∧ v ≤ r + b) := by
  obtain ⟨sx, sy, bb, rfl, _⟩ := star_form hk
  exact off_some h
end Sw
namespace Sw
open PySem PySem.Spec PyProof.Rows L2
theorem at_push (zs : Shown) (z : Int × Addr × List Int) (m : Int) : atK (shownD (zs ++ [z])) m = (atK (shownD zs) m).or (if z.1 = m then some z.2.2 else none) := by
  unfold shownD
  rw [List.map_append, atK_app]
  congr 1
  show atK [(z.1, z.2.2)] m = _
  unfold atK
  by_cases e : z.1 = m
  · rw [List.find?_cons_of_pos (p := fun z : Int × List Int => decide (z.1 = m)) (decide_eq_true e), if_pos e]
    rfl
  · rw [List.find?_cons_of_neg (p := fun z : Int × List Int => decide (z.1 = m)) (by simpa using e), if_neg e]
    rfl
theorem at_lt {zs : Shown} {i m : Int} (h : ∀ z ∈ zs, z.1 < i) (hm : i ≤ m) : atK (shownD zs) m = none := by
  refine atK_none fun z hz => ?_
  obtain ⟨y, hy, rfl⟩ := List.mem_map.mp hz
  have := h y hy
  show y.1 ≠ m
  omega
theorem seenOne_eq (n r b g l : Int) (at_ : List Int) (sx sy bb : Int) : seenOne n [r, b, g, l] at_ [sx, sy, bb] = match offI n [r, b, g, l] at_ [sx, sy, bb] with
    | some (u, v) => if l - g ≤ bb then some [u, v, bb] else none
    | none => none := by
  unfold seenOne
  cases offI n [r, b, g, l] at_ [sx, sy, bb] with
  | none => rfl
  | some p => rfl
theorem sO_eq {n : Int} {cam at_ : List Int} {kk : List (List Int)} {m : Nat} {k : List Int} (h : kk[m]? = some k) : sO n cam at_ kk m = seenOne n cam at_ k := by
  unfold sO
  rw [h]
  rfl
def sureOne (n r b g l : Int) (at_ : List Int) (sx sy bb : Int) : Bool := match offI n [r, b, g, l] at_ [sx, sy, bb] with
  | some (u, v) => decide (iabs u ≤ r - b) && decide (iabs v ≤ r - b) && decide (l + g ≤ bb)
  | none => false
theorem sure_step {n r b g l : Int} {at_ : List Int} {kk : List (List Int)} {i : Nat} {sx sy bb : Int} (g0 : 0 ≤ g) (hk : kk[i]? = some [sx, sy, bb]) :
    sureN n [r, b, g, l] at_ (kk.take (i + 1)) = sureN n [r, b, g, l] at_ (kk.take i) ++ (if sureOne n r b g l at_ sx sy bb then [(i : Int)] else []) := by
  have hi := (List.getElem?_eq_some_iff.mp hk).1
  have tk : kk.take (i + 1) = kk.take i ++ [[sx, sy, bb]] := by rw [List.take_add_one, hk]; rfl
  unfold sureN sureC
  show sureI r b g l _ = sureI r b g l _ ++ _
  rw [tk, seenI_push]
  unfold sureI
  rw [List.filter_append, List.map_append, List.length_take, Nat.min_eq_left (by omega), Nat.zero_add, seenOne_eq]
  congr 1
  unfold sureOne
  cases e : offI n [r, b, g, l] at_ [sx, sy, bb] with
  | none => rfl
  | some p =>
    obtain ⟨u, v⟩ := p
    show (List.filter (fun z => isSure r b g l z.2) (match (if l - g ≤ bb then some [u, v, bb] else none) with | some d => [((i : Int), d)] | none => [])).map (·.1) = if (decide (iabs u ≤ r - b) && decide (iabs v ≤ r - b) && decide (l + g ≤ bb)) = true then [(i : Int)] else []
    by_cases hb : l - g ≤ bb
    · rw [if_pos hb]
      show (List.filter (fun z => isSure r b g l z.2) [((i : Int), [u, v, bb])]).map (·.1) = _
      have z : isSure r b g l [u, v, bb] = (decide (iabs u ≤ r - b) && decide (iabs v ≤ r - b) && decide (l + g ≤ bb)) := rfl
      rw [← z]
      cases h : isSure r b g l [u, v, bb] with
      | true => rw [List.filter_cons_of_pos (by exact h)]; rfl
      | false => rw [List.filter_cons_of_neg (by rw [h]; exact Bool.false_ne_true)]; rfl
    · rw [if_neg hb, decide_eq_false (show ¬ l + g ≤ bb by omega), Bool.and_false]
      rfl
theorem clamp {lo hi w x y : Int} (h : lo ≤ hi) (w0 : 0 ≤ w) (x0 : lo - w ≤ x) (x1 : x ≤ hi + w) (y0 : lo - w ≤ y) (y1 : y ≤ hi + w) :
    (∃ k, lo ≤ k ∧ k ≤ hi ∧ iabs (k - x) ≤ w ∧ iabs (k - y) ≤ w) ↔ (-(2 * w) ≤ x - y ∧ x - y ≤ 2 * w) := by
  unfold iabs
  constructor
  · rintro ⟨k, h1, h2, h3, h4⟩
    split at h3 <;> split at h4 <;> omega
  · rintro ⟨h1, h2⟩
    by_cases e : x ≤ y
    · by_cases e2 : lo ≤ y - w
      · refine ⟨y - w, by omega, by omega, ?_, ?_⟩ <;> split <;> omega
      · refine ⟨lo, by omega, by omega, ?_, ?_⟩ <;> split <;> omega
    · by_cases e2 : lo ≤ x - w
      · refine ⟨x - w, by omega, by omega, ?_, ?_⟩ <;> split <;> omega
      · refine ⟨lo, by omega, by omega, ?_, ?_⟩ <;> split <;> omega
theorem links_mem {n : Int} {cam : List Int} {kk : List (List Int)} {one other : List Int} {r c : Int} : [r, c] ∈ linksN n cam kk one other ↔ c ∈ tP (tblN n cam kk one other) r := by
  unfold linksN tP tblN
  rw [List.mem_flatMap]
  constructor
  · rintro ⟨a, ha, h⟩
    obtain ⟨b, hb, e⟩ := List.mem_map.mp h
    injection e with e1 e2
    injection e2 with e2 _
    rw [List.mem_range] at ha
    rw [← e1, if_pos (Int.natCast_nonneg a), Int.toNat_natCast, List.getElem?_map, List.getElem?_range ha]
    exact List.mem_map.mpr ⟨b, hb, e2⟩
  · intro h
    split at h
    · rename_i h0
      obtain ⟨a, rfl⟩ := Int.eq_ofNat_of_zero_le h0
      rw [Int.toNat_natCast, List.getElem?_map] at h
      by_cases ha : a < kk.length
      · rw [List.getElem?_range ha] at h
        obtain ⟨b, hb, e⟩ := List.mem_map.mp (show c ∈ rowN n cam kk one other a from h)
        exact ⟨a, List.mem_range.mpr ha, List.mem_map.mpr ⟨b, hb, by rw [← e]; rfl⟩⟩
      · rw [List.getElem?_eq_none (by rw [List.length_range]; omega)] at h
        cases h
    · cases h
theorem tblN_ok (n : Int) (cam : List Int) (kk : List (List Int)) (one other : List Int) (h : kk.length ≤ 60) : TabOk (tblN n cam kk one other) := by
  have row : ∀ l ∈ tblN n cam kk one other, l.Nodup ∧ ∀ c ∈ l, 0 ≤ c ∧ c < 60 := fun l hl => by
    obtain ⟨a, ha, rfl⟩ := List.mem_map.mp hl
    refine ⟨by unfold rowN; rw [List.Nodup, List.pairwise_map]; exact (List.Pairwise.filter _ List.nodup_range).imp fun h e => h (Int.ofNat.inj e), fun c hc => ?_⟩
    obtain ⟨b, hb, rfl⟩ := List.mem_map.mp hc
    have := List.mem_range.mp (List.mem_filter.mp hb).1
    exact ⟨Int.natCast_nonneg b, by show (b : Int) < 60; omega⟩
  refine ⟨by unfold tblN; rw [List.length_map, List.length_range]; omega, fun l hl c hc => ?_, fun l hl => (row l hl).1⟩
  have := (row l hl).2 c hc
  omega
end Sw
namespace Sw
open PySem PySem.Spec PyProof.Rows L2
def linksTo (n : Int) (cam : List Int) (kk : List (List Int)) (one other : List Int) (i : Nat) : List (List Int) := (List.range i).flatMap fun a : Nat => ((List.range kk.length).filter (lkN n cam kk one other a)).map fun b : Nat => [(a : Int), (b : Int)]
theorem linksTo_succ (n : Int) (cam : List Int) (kk : List (List Int)) (one other : List Int) (i : Nat) : linksTo n cam kk one other (i + 1) = linksTo n cam kk one other i ++ (((List.range kk.length).filter (lkN n cam kk one other i)).map fun b : Nat => [(i : Int), (b : Int)]) := by
  unfold linksTo
  rw [List.range_succ, List.flatMap_append]
  congr 1
  exact List.append_nil _
/-- what is seen of a star, part by part -/
theorem sO_parts {n r b g l : Int} {at_ : List Int} {kk : List (List Int)} {m : Nat} {d : List Int} {x y q : Int} (eat : at_ = [x, y, q]) (hst : kk.all (isStar n) = true) (h : sO n [r, b, g, l] at_ kk m = some d) :
    ∃ u v c : Int, d = [u, v, c] ∧ (∃ sx sy, kk[m]? = some [sx, sy, c]) ∧ -(r + b) ≤ u ∧ u ≤ r + b ∧ -(r + b) ≤ v ∧ v ≤ r + b ∧ l - g ≤ c ∧ c ≤ 9 := by
  unfold sO at h
  cases hk : kk[m]? with
  | none => rw [hk] at h; cases h
  | some k =>
    rw [hk] at h
    have h' : seenOne n [r, b, g, l] at_ k = some d := h
    obtain ⟨sx, sy, bb, rfl, _, _, _, _, _, b9⟩ := star_form (List.all_eq_true.mp hst k (List.mem_of_getElem? hk))
    rw [seenOne_eq] at h'
    cases eo : offI n [r, b, g, l] at_ [sx, sy, bb] with
    | none => rw [eo] at h'; cases h'
    | some p =>
      obtain ⟨u, v⟩ := p
      rw [eo] at h'
      have h2 : (if l - g ≤ bb then some [u, v, bb] else none) = some d := h'
      by_cases hb : l - g ≤ bb
      · rw [if_pos hb] at h2
        rw [eat] at eo
        have := off_some eo
        exact ⟨u, v, bb, (Option.some.inj h2).symm, ⟨sx, sy, rfl⟩, this.1.1, this.1.2, this.2.1, this.2.2, hb, b9⟩
      · rw [if_neg hb] at h2
        cases h2
end Sw
namespace Sw
theorem keys_at {ks : Tups} {i : Nat} {k : List Int} (h : (keys ks)[i]? = some k) : ∃ q, ks[i]? = some q ∧ q.2 = k := by
  unfold keys at h
  rw [List.getElem?_map] at h
  cases e : ks[i]? with
  | none => rw [e] at h; cases h
  | some q => rw [e] at h; exact ⟨q, rfl, Option.some.inj h⟩
end Sw
namespace Sw
open PySem PySem.Spec PyProof.Rows L2
theorem shown3 {n : Int} {cam at_ : List Int} {kk : List (List Int)} {zs : Shown} (h : shownD zs = seenI n cam at_ 0 kk) : ∀ z ∈ zs, z.2.2.length = 3 := fun z hz =>
  seenI_three n cam at_ kk 0 (z.1, z.2.2) (by rw [← h]; exact List.mem_map_of_mem (f := fun z : Int × Addr × List Int => (z.1, z.2.2)) hz)
theorem seenI_asc (n : Int) (cam at_ : List Int) : ∀ (l : List (List Int)) (j : Nat), ((seenI n cam at_ j l).map (·.1)).Pairwise (· < ·)
  | [], _ => List.Pairwise.nil
  | x :: r, j => by
    show (((match seenOne n cam at_ x with | some d => [((j : Int), d)] | none => []) ++ seenI n cam at_ (j + 1) r).map (·.1)).Pairwise (· < ·)
    rw [List.map_append, List.pairwise_append]
    refine ⟨?_, seenI_asc n cam at_ r (j + 1), fun a ha b hb => ?_⟩
    · cases seenOne n cam at_ x with
      | none => exact List.Pairwise.nil
      | some d => exact List.pairwise_singleton _ _
    · obtain ⟨z, hz, rfl⟩ := List.mem_map.mp hb
      have h1 := seenI_ge n cam at_ r (j + 1) z hz
      cases e : seenOne n cam at_ x with
      | none => rw [e] at ha; cases ha
      | some d =>
        rw [e] at ha
        have h2 : a = (j : Int) := List.mem_singleton.mp ha
        omega
theorem sureN_asc (n : Int) (cam at_ : List Int) (kk : List (List Int)) : (sureN n cam at_ kk).Pairwise (· < ·) := by
  unfold sureN sureC
  split
  · unfold sureI
    exact List.Pairwise.sublist ((List.filter_sublist).map _) (seenI_asc n _ at_ kk 0)
  · exact List.Pairwise.nil
theorem sureN_nodup (n : Int) (cam at_ : List Int) (kk : List (List Int)) : (sureN n cam at_ kk).Nodup := asc_nodup (sureN_asc n cam at_ kk)
theorem sureN_mem {n : Int} {cam at_ : List Int} {kk : List (List Int)} {x : Int} (h : x ∈ sureN n cam at_ kk) : ∃ m : Nat, x = (m : Int) ∧ m < kk.length ∧ ∃ d, sO n cam at_ kk m = some d := by
  unfold sureN sureC at h
  split at h
  · rename_i r_ b_ g_ l_
    unfold sureI at h
    obtain ⟨z, hz, rfl⟩ := List.mem_map.mp h
    have hz' := (List.mem_filter.mp hz).1
    have h0 := seenI_ge n [r_, b_, g_, l_] at_ kk 0 z hz'
    have h1 := seenI_lt n [r_, b_, g_, l_] at_ kk 0 z hz'
    obtain ⟨m, hm⟩ := Int.eq_ofNat_of_zero_le (show 0 ≤ z.1 by omega)
    refine ⟨m, hm, by omega, z.2, ?_⟩
    have e := atK_seen0 n [r_, b_, g_, l_] at_ kk m
    unfold sO
    rw [← e]
    have hn : (seenI n [r_, b_, g_, l_] at_ 0 kk).Pairwise fun a b => a.1 ≠ b.1 := by
      have := seenI_asc n [r_, b_, g_, l_] at_ kk 0
      rw [List.pairwise_map] at this
      exact this.imp fun h => by omega
    unfold atK
    have hf : ∀ (S : List (Int × List Int)), S.Pairwise (fun a b => a.1 ≠ b.1) → z ∈ S → S.find? (fun y => decide (y.1 = (m : Int))) = some z := by
      intro S
      induction S with
      | nil => intro _ h; cases h
      | cons a t ih =>
        intro hp hm'
        rw [List.pairwise_cons] at hp
        by_cases ea : a = z
        · rw [ea]
          exact List.find?_cons_of_pos (p := fun y : Int × List Int => decide (y.1 = (m : Int))) (decide_eq_true hm)
        · have hzt : z ∈ t := (List.mem_cons.mp hm').resolve_left fun h => ea h.symm
          rw [List.find?_cons_of_neg (p := fun y : Int × List Int => decide (y.1 = (m : Int))) (by
            have := hp.1 z hzt
            simp only [decide_eq_true_eq]
            intro h
            exact this (h.trans hm.symm))]
          exact ih hp.2 hzt
    rw [hf _ hn hz']
    rfl
  · cases h
theorem sureN_in {n : Int} {cam at_ : List Int} {kk : List (List Int)} {x : Int} (h : x ∈ sureN n cam at_ kk) : 0 ≤ x ∧ x < (kk.length : Int) := by
  obtain ⟨m, rfl, hm, _⟩ := sureN_mem h
  omega
theorem sureN_len (n : Int) (cam at_ : List Int) (kk : List (List Int)) : (sureN n cam at_ kk).length ≤ kk.length := by
  have h := sureN_nodup n cam at_ kk
  have h2 := len_le_of_sub (l := sureN n cam at_ kk) (m := (List.range kk.length).map Int.ofNat) h fun x hx => by
    obtain ⟨m, rfl, hm, _⟩ := sureN_mem hx
    exact List.mem_map.mpr ⟨m, List.mem_range.mpr hm, rfl⟩
  rwa [List.length_map, List.length_range] at h2
theorem nearB_symm (cam d e : List Int) : nearB cam d e = nearB cam e d := by
  have f : ∀ k s t : Int, (decide (-(2 * k) ≤ s - t) && decide (s - t ≤ 2 * k)) = (decide (-(2 * k) ≤ t - s) && decide (t - s ≤ 2 * k)) := fun k s t => by
    by_cases h1 : -(2 * k) ≤ s - t <;> by_cases h2 : s - t ≤ 2 * k <;> by_cases h3 : -(2 * k) ≤ t - s <;> by_cases h4 : t - s ≤ 2 * k <;> simp only [h1, h2, h3, h4, decide_true, decide_false, Bool.and_true, Bool.and_false] <;> omega
  rcases d with _ | ⟨u, _ | ⟨v, _ | ⟨b, _ | ⟨_, _⟩⟩⟩⟩ <;> rcases e with _ | ⟨x, _ | ⟨y, _ | ⟨c, _ | ⟨_, _⟩⟩⟩⟩ <;> try rfl
  rcases cam with _ | ⟨_, _ | ⟨bl, _ | ⟨g, _ | ⟨_, _ | ⟨_, _⟩⟩⟩⟩⟩ <;> try rfl
  show (decide (-(2 * bl) ≤ u - x) && decide (u - x ≤ 2 * bl) && (decide (-(2 * bl) ≤ v - y) && decide (v - y ≤ 2 * bl)) && (decide (-(2 * g) ≤ b - c) && decide (b - c ≤ 2 * g))) = (decide (-(2 * bl) ≤ x - u) && decide (x - u ≤ 2 * bl) && (decide (-(2 * bl) ≤ y - v) && decide (y - v ≤ 2 * bl)) && (decide (-(2 * g) ≤ c - b) && decide (c - b ≤ 2 * g)))
  rw [f bl u x, f bl v y, f g b c]
theorem lkN_symm (n : Int) (cam : List Int) (kk : List (List Int)) (one other : List Int) (a b : Nat) : lkN n cam kk other one b a = lkN n cam kk one other a b := by
  unfold lkN
  cases sO n cam one kk a <;> cases sO n cam other kk b <;> first | rfl | exact nearB_symm _ _ _
theorem tbl_mem {n : Int} {cam : List Int} {kk : List (List Int)} {one other : List Int} {a b : Nat} (ha : a < kk.length) : ((b : Int) ∈ tP (tblN n cam kk one other) (a : Int)) ↔ b < kk.length ∧ lkN n cam kk one other a b = true := by
  unfold tP tblN
  rw [if_pos (Int.natCast_nonneg a), Int.toNat_natCast, List.getElem?_map, List.getElem?_range ha]
  show (b : Int) ∈ rowN n cam kk one other a ↔ _
  unfold rowN
  rw [List.mem_map]
  constructor
  · rintro ⟨c, hc, e⟩
    have ec : c = b := Int.ofNat.inj e
    rw [List.mem_filter, List.mem_range, ec] at hc
    exact hc
  · rintro ⟨h1, h2⟩
    exact ⟨b, List.mem_filter.mpr ⟨List.mem_range.mpr h1, h2⟩, rfl⟩
theorem tbl_turned (n : Int) (cam : List Int) (kk : List (List Int)) (one other : List Int) : (List.range kk.length).map (turnedI (tblN n cam kk one other)) = tblN n cam kk other one := by
  unfold tblN
  apply List.map_congr_left
  intro c hc
  have hc' := List.mem_range.mp hc
  unfold turnedI rowN
  rw [List.filter_map, List.length_map, List.length_range]
  congr 1
  apply List.filter_congr
  intro a ha
  have ha' := List.mem_range.mp ha
  have h := tbl_mem (n := n) (cam := cam) (one := one) (other := other) (b := c) ha'
  show decide ((c : Int) ∈ tP (tblN n cam kk one other) (a : Int)) = lkN n cam kk other one c a
  rw [lkN_symm]
  cases e : lkN n cam kk one other a c with
  | true => exact decide_eq_true (h.mpr ⟨hc', e⟩)
  | false => exact decide_eq_false fun z => by have := (h.mp z).2; rw [e] at this; cases this
end Sw
namespace Sw
open PySem PySem.Spec PyProof.Rows L2
def spAppN (K : PySem.W.Frag) (C : Addr) : Sp := fun vs H Q _ => ∃ (p pa : Addr) (n : Int) (ks : Tups) (cam at_ : List Int), vs = [.ref p, .ref pa] ∧ SkyS K C H p n ks cam ∧ isSky n (keys ks) cam = true ∧ SqT K H pa (at_.map V.int) ∧ isPose n at_ = true ∧
  ∀ (H' : Hp) (d : Addr) (zs : Shown), Same H H' → H d = none → ShD K H' d n cam at_ (keys ks) zs → Q (.ref d) H'
end Sw
namespace Sw
theorem same_both {H H2 : L2.Hp} {d : PySem.Addr} {o : L2.HO} (s : L2.Same H H2) : L2.Same (L2.upd H d o) (L2.upd H2 d o) := fun q x e => by
  by_cases h : q = d
  · rw [h, L2.upd_same] at e ⊢
    exact e
  · rw [L2.upd_ne h] at e ⊢
    exact s _ _ e
end Sw
namespace Sw
theorem atK_of_mem : ∀ {S : List (Int × List Int)} {z : Int × List Int}, (S.map (·.1)).Pairwise (· < ·) → z ∈ S → atK S z.1 = some z.2
  | x :: S, z, h, hz => by
    rw [List.map_cons, List.pairwise_cons] at h
    unfold atK
    by_cases e : x = z
    · rw [e, List.find?_cons_of_pos (p := fun y : Int × List Int => decide (y.1 = z.1)) (decide_eq_true rfl)]
      rfl
    · have hzS : z ∈ S := (List.mem_cons.mp hz).resolve_left fun h => e h.symm
      have lt := h.1 z.1 (List.mem_map_of_mem (f := fun z : Int × List Int => z.1) hzS)
      rw [List.find?_cons_of_neg (p := fun y : Int × List Int => decide (y.1 = z.1)) (by simp only [decide_eq_true_eq]; omega)]
      exact atK_of_mem h.2 hzS
end Sw
namespace Sw
open PySem PySem.Spec PyProof.Rows L2
def linksP (n : Int) (cam : List Int) (kk : List (List Int)) (one other : List Int) : List (Int × Int) := (List.range kk.length).flatMap fun a : Nat => ((List.range kk.length).filter (lkN n cam kk one other a)).map fun b : Nat => ((a : Int), (b : Int))
theorem linksP_eq (n : Int) (cam : List Int) (kk : List (List Int)) (one other : List Int) : linksN n cam kk one other = pairs2 (linksP n cam kk one other) := by
  unfold linksN linksP pairs2
  rw [List.map_flatMap]
  congr 1
  funext a
  rw [List.map_map]
  rfl
theorem linksP_mem {n : Int} {cam : List Int} {kk : List (List Int)} {one other : List Int} {r c : Int} : (r, c) ∈ linksP n cam kk one other ↔ c ∈ tP (tblN n cam kk one other) r := by
  rw [← links_mem, linksP_eq]
  unfold pairs2
  rw [List.mem_map]
  constructor
  · exact fun h => ⟨_, h, rfl⟩
  · rintro ⟨⟨a, b⟩, h, e⟩
    injection e with e1 e2
    injection e2 with e2 _
    have e1' : a = r := e1
    have e2' : b = c := e2
    rw [← e1', ← e2']
    exact h
theorem flat_le {α β : Type} (f : α → List β) (b : Nat) : ∀ l : List α, (∀ x ∈ l, (f x).length ≤ b) → (l.flatMap f).length ≤ l.length * b
  | [], _ => Nat.zero_le _
  | x :: l, h => by
    rw [List.flatMap_cons, List.length_append, List.length_cons, Nat.add_mul, Nat.one_mul]
    have := h x List.mem_cons_self
    have := flat_le f b l fun y hy => h y (List.mem_cons_of_mem _ hy)
    omega
theorem linksN_len (n : Int) (cam : List Int) (kk : List (List Int)) (one other : List Int) (h : kk.length ≤ 20) : (linksN n cam kk one other).length ≤ 400 := by
  unfold linksN
  have h1 := flat_le (fun a : Nat => ((List.range kk.length).filter (lkN n cam kk one other a)).map fun b : Nat => [(a : Int), (b : Int)]) 20 (List.range kk.length) fun a _ => by
    rw [List.length_map]
    have := List.length_filter_le (lkN n cam kk one other a) (List.range kk.length)
    rw [List.length_range] at this
    omega
  rw [List.length_range] at h1
  omega
/-- the greatest lack, as a law finds it -/
noncomputable def lackF (P : Int → List Int) (L : List Int) : Int := Classical.choose (ex_lack P L)
theorem lackF_is (P : Int → List Int) (L : List Int) : lackI P L (lackF P L) := Classical.choose_spec (ex_lack P L)
theorem lackF_eq {P : Int → List Int} {L : List Int} {x : Int} (h : lackI P L x) : x = lackF P L := lackI_uniq h (lackF_is P L)
def spRight (K : PySem.W.Frag) (C : Addr) : Sp := fun vs H Q _ => ∃ (t p q r : Addr) (n : Int) (ks kq : Tups) (cam one other : List Int), vs = [.ref t, .ref p, .ref q, .ref r] ∧ PartsAt K H t n ks cam ∧ SkyS K C H p n kq cam ∧ keys kq = keys ks ∧ isSky n (keys ks) cam = true ∧ ks.length ≤ 6 ∧ SqT K H q (one.map V.int) ∧ SqT K H r (other.map V.int) ∧ isPose n one = true ∧ isPose n other = true ∧
  ∀ (H' : Hp) (x : Int), Same H H' → LackIs (tP (tblN n cam (keys ks) one other)) (sureN n cam one (keys ks)) x → Q (.int x) H'
end Sw
namespace Sw
open PySem PySem.Spec PyProof.Rows L2
theorem no_err {D : Addr} {E : XK} {H : Hp} {q r : Addr} {n : Int} {one other : List Int} (h1 : isPose n one = true) (h2 : isPose n other = true) : twoErr D E H q r n one other :=
  ⟨fun e => Bool.noConfusion (h1.symm.trans e), fun _ e => Bool.noConfusion (h2.symm.trans e)⟩
end Sw
namespace Sw
open PySem PySem.Spec PyProof.Rows L2
theorem lackI_nil (P : Int → List Int) : lackI P [] 0 := ⟨[], List.nodup_nil, fun c => ⟨(fun h => by cases h), (fun ⟨_, h, _⟩ => by cases h)⟩, rfl⟩
theorem lackIs_bd {P : Int → List Int} {W : List Int} {x : Int} (h : LackIs P W x) : 0 ≤ x ∧ x ≤ W.length := by
  obtain ⟨⟨M, hM, ns, _, _, em⟩, hle⟩ := h
  have h0 := hle [] (List.nil_sublist _) 0 (lackI_nil P)
  have hl := hM.length_le
  omega
theorem lackIs_small {P : Int → List Int} {W : List Int} {x : Int} (h : LackIs P W x) (hW : W.length ≤ 60) : x.natAbs < 10 ^ 12 := by
  have := lackIs_bd h
  have : x.natAbs ≤ 60 := by omega
  exact Nat.lt_of_le_of_lt this (by decide)
theorem near_self {r b g l : Int} (b0 : 0 ≤ b) (g0 : 0 ≤ g) (u v c : Int) : nearB [r, b, g, l] [u, v, c] [u, v, c] = true := by
  show (decide (-(2 * b) ≤ u - u) && decide (u - u ≤ 2 * b) && (decide (-(2 * b) ≤ v - v) && decide (v - v ≤ 2 * b)) && (decide (-(2 * g) ≤ c - c) && decide (c - c ≤ 2 * g))) = true
  rw [decide_eq_true (show -(2 * b) ≤ u - u by omega), decide_eq_true (show u - u ≤ 2 * b by omega), decide_eq_true (show -(2 * b) ≤ v - v by omega), decide_eq_true (show v - v ≤ 2 * b by omega), decide_eq_true (show -(2 * g) ≤ c - c by omega), decide_eq_true (show c - c ≤ 2 * g by omega)]
  rfl
theorem self_in {n : Int} {cam at_ : List Int} {kk : List (List Int)} (hsky : isSky n kk cam = true) (hp : isPose n at_ = true) {x : Int} (h : x ∈ sureN n cam at_ kk) : x ∈ tP (tblN n cam kk at_ at_) x := by
  obtain ⟨_, hst, _, _, hcam⟩ := sky_parts hsky
  obtain ⟨r, b, g, l, rfl, _, _, b0, _, g0, _⟩ := cam_form hcam
  obtain ⟨ax, ay, aq, rfl, _⟩ := pose_form hp
  obtain ⟨m, rfl, hm, d, hd⟩ := sureN_mem h
  obtain ⟨u, v, c, rfl, _⟩ := sO_parts rfl hst hd
  refine (tbl_mem hm).mpr ⟨hm, ?_⟩
  unfold lkN
  rw [hd]
  exact near_self b0 g0 u v c
theorem self_le {n : Int} {cam at_ : List Int} {kk : List (List Int)} (hsky : isSky n kk cam = true) (hp : isPose n at_ = true) {M : List Int} (hM : M.Sublist (sureN n cam at_ kk)) {y : Int} (hy : lackI (tP (tblN n cam kk at_ at_)) M y) : y ≤ 0 := by
  obtain ⟨ns, hn, hc, rfl⟩ := hy
  have := len_le_of_sub (hM.nodup (sureN_nodup n cam at_ kk)) fun x hx => (hc x).mpr ⟨x, hx, self_in hsky hp (hM.subset hx)⟩
  omega
theorem self_lack {n : Int} {cam at_ : List Int} {kk : List (List Int)} (hsky : isSky n kk cam = true) (hp : isPose n at_ = true) {x : Int} (h : LackIs (tP (tblN n cam kk at_ at_)) (sureN n cam at_ kk) x) : x = 0 := by
  have h0 := h.2 [] (List.nil_sublist _) 0 (lackI_nil _)
  obtain ⟨⟨M, hM, hx⟩, _⟩ := h
  have := self_le hsky hp hM hx
  omega
theorem self_least {n : Int} {cam at_ : List Int} {kk : List (List Int)} (hsky : isSky n kk cam = true) (hp : isPose n at_ = true) {g : MM} {F : List Int} (hF : F.Pairwise (· < ·)) (h : LeastBy (tP (tblN n cam kk at_ at_)) (sureN n cam at_ kk) g F) : F = [] := by
  have hW := sureN_nodup n cam at_ kk
  have hFW : F.Sublist (sureN n cam at_ kk) := asc_sub hF (sureN_asc n cam at_ kk) h.sub
  have h1 := self_le hsky hp hFW (least_lack h hW (asc_nodup hF))
  have h2 := (least_le h hW List.nodup_nil (fun r hr => by cases hr) (lackI_nil _)).1
  have h3 := (least_le h hW List.nodup_nil (fun r hr => by cases hr) (lackI_nil _)).2 (by omega)
  cases F with
  | nil => rfl
  | cons x r => exact absurd (h3 x List.mem_cons_self) List.not_mem_nil
end Sw
set_option Elab.async false
set_option linter.all false
set_option maxRecDepth 100000
set_option maxHeartbeats 4000000
/-! Parting papers. -/
namespace Sw
open PySem PySem.Spec PyProof.Rows L2
def Parts (P : Int → List Int) (W L : List Int) (bound : Int) : Prop := asc1 L = true ∧ (∀ r ∈ L, r ∈ W) ∧ ∀ x, lackI P L x → bound < x
def spLacksMore (K : PySem.W.Frag) : Sp := fun vs H Q _ => ∃ (t rl tl : Addr) (tb : Tups) (W L : List Int) (bound : Int), vs = [.ref t, .ref rl, .ref tl, .int bound] ∧ TabAt K H t tb ∧ Few (keys tb) ∧ SqL K H rl (W.map V.int) ∧ (∀ r ∈ W, 0 ≤ r ∧ r < (tb.length : Int)) ∧ SqL K H tl (L.map V.int) ∧ L.length ≤ 100 ∧
  ∀ (H' : Hp) (b : Bool), Same H H' → (b = true ↔ Parts (tP (keys tb)) W L bound) → Q (.bl b) H'
def spPaper (K : PySem.W.Frag) (C D : Addr) : Sp := fun vs H Q E => ∃ (p q r : Addr) (n m f : Int) (ks : Tups) (cam one other : List Int), vs = [.ref p, .ref q, .ref r, .int m, .int f] ∧ SkyS K C H p n ks cam ∧ isSky n (keys ks) cam = true ∧ SqT K H q (one.map V.int) ∧ SqT K H r (other.map V.int) ∧
  (isPose n one = true → isPose n other = true → ∀ x y, LackIs (tP (tblN n cam (keys ks) one other)) (sureN n cam one (keys ks)) x → LackIs (tP (tblN n cam (keys ks) other one)) (sureN n cam other (keys ks)) y →
    (max x y ≤ m + f → ∀ H', Same H H' → Q .non H') ∧
    (¬ max x y ≤ m + f → y ≤ x → ∀ (H' : Hp) (t l : Addr) (g : MM) (F : List Int), Same H H' → SqT K H' t [.str "one", .ref l] → H' l = some (.lst (F.map V.int)) → F.Pairwise (· < ·) → LeastBy (tP (tblN n cam (keys ks) one other)) (sureN n cam one (keys ks)) g F → Q (.ref t) H') ∧
    (¬ max x y ≤ m + f → x < y → ∀ (H' : Hp) (t l : Addr) (g : MM) (F : List Int), Same H H' → SqT K H' t [.str "other", .ref l] → H' l = some (.lst (F.map V.int)) → F.Pairwise (· < ·) → LeastBy (tP (tblN n cam (keys ks) other one)) (sureN n cam other (keys ks)) g F → Q (.ref t) H')) ∧ twoErr D E H q r n one other
def spCheckP (K : PySem.W.Frag) (C D : Addr) : Sp := fun vs H Q E => ∃ (p q r pp tl : Addr) (n m f : Int) (ks : Tups) (cam one other L : List Int) (w : Str), vs = [.ref p, .ref q, .ref r, .int m, .int f, .ref pp] ∧ SkyS K C H p n ks cam ∧ isSky n (keys ks) cam = true ∧ SqT K H q (one.map V.int) ∧ SqT K H r (other.map V.int) ∧
  SqT K H pp [.str w, .ref tl] ∧ SqL K H tl (L.map V.int) ∧ L.length ≤ 100 ∧
  (isPose n one = true → isPose n other = true → ∀ (H' : Hp) (b : Bool), Same H H' → (b = true ↔ (w = "one" ∧ Parts (tP (tblN n cam (keys ks) one other)) (sureN n cam one (keys ks)) L (m + f)) ∨ (w = "other" ∧ Parts (tP (tblN n cam (keys ks) other one)) (sureN n cam other (keys ks)) L (m + f))) → Q (.bl b) H') ∧ twoErr D E H q r n one other
def spLeastL (K : PySem.W.Frag) : Sp := fun vs H Q _ => ∃ (pl hl : Addr) (es : Tups) (g : List (Int × Int)) (W : List Int) (P : Int → List Int), vs = [.ref pl, .ref hl] ∧ SqL K H pl (refs es) ∧ TupsAt K H es ∧ keys es = pairs2 g ∧ es.length ≤ 1000 ∧ SqL K H hl (W.map V.int) ∧ W.Pairwise (· < ·) ∧ W.length ≤ 6 ∧ (∀ r c, (r, c) ∈ g ↔ c ∈ P r) ∧
  ∀ (H' : Hp) (t l : Addr) (x : Int) (D : List Int), Same H H' → SqT K H' t [.int x, .ref l] → H' l = some (.lst (D.map V.int)) → LackIs P W x → (∀ (g : MM) (F : List Int), F.Pairwise (· < ·) → LeastBy P W g F → D = F) → Q (.ref t) H'
def spDrawnL (K : PySem.W.Frag) : Sp := fun vs H Q _ => ∃ (p1 hl : Addr) (ns W : List Int) (at' many : Int), vs = [.ref p1, .int at', .int many, .ref hl] ∧ SqL K H p1 (ns.map V.int) ∧ SqL K H hl (W.map V.int) ∧ 0 ≤ at' ∧ 0 ≤ many ∧ many ≤ 20 ∧ at' + 2 + many ≤ (ns.length : Int) ∧ W.length ≤ 20 ∧ (∀ r ∈ W, 0 ≤ r ∧ r < many) ∧
  ∀ (H' : Hp) (l : Addr) (L : List Int), Same H H' → H' l = some (.lst (L.map V.int)) → L.length ≤ 50 → Q (.ref l) H'
theorem tblN_few (n : Int) (cam : List Int) (kk : List (List Int)) (one other : List Int) (h : kk.length ≤ 60) : Few (tblN n cam kk one other) := by
  have row : ∀ l ∈ tblN n cam kk one other, l.Nodup ∧ ∀ c ∈ l, 0 ≤ c ∧ c < 60 := fun l hl => by
    obtain ⟨a, ha, rfl⟩ := List.mem_map.mp hl
    refine ⟨by unfold rowN; rw [List.Nodup, List.pairwise_map]; exact (List.Pairwise.filter _ List.nodup_range).imp fun h e => h (Int.ofNat.inj e), fun c hc => ?_⟩
    obtain ⟨b, hb, rfl⟩ := List.mem_map.mp hc
    have := List.mem_range.mp (List.mem_filter.mp hb).1
    exact ⟨Int.natCast_nonneg b, by show (b : Int) < 60; omega⟩
  exact ⟨by unfold tblN; rw [List.length_map, List.length_range]; omega, fun l hl c hc => (row l hl).2 c hc, fun l hl => (row l hl).1⟩
theorem eqv_ints (a b : List Int) : PyData.eqv (.list (a.map .int)) (.list (b.map .int)) = decide (a = b) := eqvAll_ints a b
theorem sorted_once {L S : List Int} (hp : S.Perm L) (hs : S.Pairwise (· ≤ ·)) : (L = S ∧ ∀ z ∈ L, L.count z = 1) ↔ asc1 L = true := by
  rw [asc1_iff]
  constructor
  · rintro ⟨rfl, h⟩
    have hn : L.Nodup := List.nodup_iff_count.mpr fun z => by
      by_cases hz : z ∈ L
      · rw [h z hz]
        exact Nat.le_refl _
      · rw [List.count_eq_zero.mpr hz]
        exact Nat.zero_le _
    exact (hs.and hn).imp fun {a b} h => by
      have h1 : a ≤ b := h.1
      have h2 : a ≠ b := h.2
      omega
  · intro h
    have hn := asc_nodup h
    refine ⟨?_, fun z hz => ?_⟩
    · have hS : S.Pairwise (· < ·) := (hs.and (hp.nodup_iff.mpr hn)).imp fun {a b} h => by
        have h1 : a ≤ b := h.1
        have h2 : a ≠ b := h.2
        omega
      exact asc_eq h hS fun x => hp.mem_iff.symm
    · have h1 := List.nodup_iff_count.mp hn z
      have h2 := List.count_pos_iff.mpr hz
      omega
end Sw
namespace L2
open PySem PySem.Spec PyProof.Rows
theorem pe_bmN {X : Cx} {o e : Expr} {es : List Expr} {to : TE} {t : TA} {name : Str} {apos cpos : Pos} {T id : String} {r : V → List V → Hp → VK → Prop} {K : PySem.W.Frag} (pa : PlainAttrs T) (slot : Slot T name id) (hty : typeOf (.builtin id) = pure (.type "method_descriptor")) (hm : MtR X id r) (ho : PE X o to) (ha : PA X (e :: es) t) (h : X.K = K := by rfl)
    (hbase : attributeBase o name X.env (eval o X.env) = eval o X.env := by rfl)
    (hfew : ((backTo cpos (starEach (e :: es) X.env)).all (fun x => !x.1) && (backToKw cpos (keywordEach [] X.env)).all (fun x => x.1.isSome)
      && decide ((e :: es).length + ([] : List Keyword).length + (if ([] : List Keyword).isEmpty then 0 else 1) < 30)) = true := by rfl)
    (hline : (apos.endLine == cpos.line) = true := by rfl) (hs : starEach (e :: es) X.env = (false, eval e X.env) :: starEach es X.env := by rfl) (hplain : (backTo cpos (starEach es X.env)).any (·.1) = false := by rfl) :
    PE X (.Call (.Attribute o name apos) (e :: es) [] cpos) (tBM K T r to t) := h ▸ pe_bm pa slot hty hm ho ha hbase hfew hline hs hplain
theorem mt_lcountN {X : Cx} {K : PySem.W.Frag} (h : X.K = K := by rfl) : MtR X "list.count" (rCntI K) := h ▸ mt_lcount
end L2
namespace Sw
open PySem PySem.Spec PyProof.Rows L2
theorem links_swap {n : Int} {cam : List Int} {kk : List (List Int)} {one other : List Int} (r c : Int) : (r, c) ∈ ((linksP n cam kk one other).map fun z : Int × Int => (z.2, z.1)) ↔ c ∈ tP (tblN n cam kk other one) r := by
  rw [← linksP_mem]
  unfold linksP
  rw [List.mem_map]
  constructor
  · rintro ⟨⟨x, y⟩, h, e⟩
    injection e with e1 e2
    obtain ⟨a, ha, h⟩ := List.mem_flatMap.mp h
    obtain ⟨b, hb, h⟩ := List.mem_map.mp h
    injection h with h1 h2
    obtain ⟨hb1, hb2⟩ := List.mem_filter.mp hb
    refine List.mem_flatMap.mpr ⟨b, hb1, List.mem_map.mpr ⟨a, List.mem_filter.mpr ⟨ha, by rw [← lkN_symm]; exact hb2⟩, ?_⟩⟩
    rw [← e1, ← e2, ← h1, ← h2]
  · intro h
    obtain ⟨a, ha, h⟩ := List.mem_flatMap.mp h
    obtain ⟨b, hb, h⟩ := List.mem_map.mp h
    injection h with h1 h2
    obtain ⟨hb1, hb2⟩ := List.mem_filter.mp hb
    refine ⟨(c, r), List.mem_flatMap.mpr ⟨b, hb1, List.mem_map.mpr ⟨a, List.mem_filter.mpr ⟨ha, by rw [lkN_symm]; exact hb2⟩, ?_⟩⟩, rfl⟩
    rw [← h1, ← h2]
theorem least_parts {P : Int → List Int} {W F : List Int} {g : MM} {x b : Int} (hLI : LackIs P W x) (hLB : LeastBy P W g F) (hW : W.Pairwise (· < ·)) (hF : F.Pairwise (· < ·)) (hb : b < x) : Parts P W F b := by
  have hWn := asc_nodup hW
  have hFW : F.Sublist W := asc_sub hF hW hLB.sub
  have h0 := least_lack hLB hWn (asc_nodup hF)
  have h1 := hLI.2 F hFW _ h0
  obtain ⟨⟨M, hM, hMm⟩, _⟩ := hLI
  have h2 := (least_le hLB hWn (hM.nodup hWn) (fun r hr => hM.subset hr) hMm).1
  refine ⟨(asc1_iff F).mpr hF, hLB.sub, fun z hz => ?_⟩
  have := lackI_uniq hz h0
  omega
theorem shb_word {w : Str} (h : w = "one" ∨ w = "other") : SwG.Shb 41 0 (.str w) := by
  rcases h with rfl | rfl
  · exact ⟨by decide +kernel, by decide +kernel, by decide +kernel, by decide +kernel, by decide +kernel⟩
  · exact ⟨by decide +kernel, by decide +kernel, by decide +kernel, by decide +kernel, by decide +kernel⟩
theorem shw_due {w : Str} {F : List Int} (h : w = "one" ∨ w = "other") (hF : ∀ i ∈ F, i.natAbs < 10 ^ 12) (hl : F.length ≤ 20) : SwG.Shw (.tuple [.str w, .list (F.map .int)]) :=
  (SwG.shb_tuple (w := 1000) (k := 1) (ds := [.str w, .list (F.map .int)]) fun d hd => by
    rcases List.mem_cons.mp hd with rfl | hd
    · exact (shb_word h).up (by decide) (by decide)
    · rw [List.mem_singleton.mp hd]
      exact (SwG.shb_ints hF).up (by omega) (by decide)).shw (by show 2 * (1000 + 1) ≤ 1000000; decide) (by decide)
theorem dp_ints {K : PySem.W.Frag} {H : Hp} : ∀ F : List Int, DpAll K H (F.map V.int) (F.map .int)
  | [] => .nil
  | x :: r => .cons (.int x) (dp_ints r)
theorem dp_due {K : PySem.W.Frag} {H : Hp} {t l : Addr} {w : Str} {F : List Int} (ht : SqT K H t [.str w, .ref l]) (hl : H l = some (.lst (F.map V.int))) : Dp K H (.ref t) (.tuple [.str w, .list (F.map .int)]) :=
  dp_t ht (.cons (.str _) (.cons (dp_l hl (dp_ints F)) .nil))
end Sw
set_option Elab.async false
set_option linter.all false
/-! Matchings made row by row (own work): a map from columns to rows, grown along ways of change. -/
namespace Sw
open PySem PySem.Spec PyProof.Rows L2
/-- how often a row owns -/
def own (o : MM) (s : Int) : Nat := (o.map (·.2)).count s
/-- a way was found for the row -/
structure KWay (P : Int → List Int) (o o' : MM) (T : List Int) (r : Int) : Prop where
  nd : (o'.map (·.1)).Nodup
  ed : ∀ c s, lk o' c = some s → c ∈ P s
  len : o'.length = o.length + 1
  cnt : ∀ s, own o' s = own o s + if s = r then 1 else 0
  on : ∀ c ∈ T, lk o' c = lk o c
  kept : ∀ F : List Int, (∀ z ∈ F, ∀ c ∈ P z, ∃ s ∈ F, lk o c = some s) → r ∉ F ∧ ∀ c s, s ∈ F → lk o c = some s → lk o' c = some s
/-- none was found -/
structure KWall (P : Int → List Int) (o : MM) (T T' : List Int) (r : Int) : Prop where
  sub : ∀ c ∈ T, c ∈ T'
  nb : ∀ c ∈ P r, c ∈ T'
  cl : ∀ c ∈ T', c ∈ T ∨ ∃ s, lk o c = some s ∧ ∀ d ∈ P s, d ∈ T'
theorem own_push (o : MM) (c r s : Int) : own (o ++ [(c, r)]) s = own o s + if s = r then 1 else 0 := by
  unfold own
  rw [List.map_append, List.count_append, List.map_cons, List.map_nil, List.count_singleton]
  congr 1
  by_cases h : s = r
  · rw [if_pos h, h]
    simp
  · rw [if_neg h]
    have : ¬ r = s := fun e => h e.symm
    simp [this]
theorem own_put : ∀ {o : MM} {c t r : Int}, (o.map (·.1)).Nodup → lk o c = some t → ∀ s, own (putI o c r) s + (if s = t then 1 else 0) = own o s + if s = r then 1 else 0
  | [], c, t, r, hn, h, s => by cases h
  | (k, v) :: o, c, t, r, hn, h, s => by
    rw [List.map_cons, List.nodup_cons] at hn
    by_cases hk : k = c
    · have hv : v = t := by
        rw [lk_pos (z := (k, v)) hk] at h
        exact Option.some.inj h
      have e : putI ((k, v) :: o) c r = (k, r) :: o := by
        unfold putI
        rw [if_pos (by rw [List.any_cons, decide_eq_true hk]; rfl), List.map_cons, if_pos hk]
        congr 1
        have hn1 : k ∉ o.map (·.1) := hn.1
        refine (List.map_congr_left fun z hz => ?_).trans (List.map_id _)
        rw [if_neg fun e => hn1 (by rw [hk, ← e]; exact List.mem_map_of_mem (f := fun z : Int × Int => z.1) hz)]
        rfl
      rw [e]
      unfold own
      rw [List.map_cons, List.map_cons, List.count_cons, List.count_cons, hv]
      have h1 : ((r == s) = true) ↔ s = r := by rw [beq_iff_eq]; exact eq_comm
      have h2 : ((t == s) = true) ↔ s = t := by rw [beq_iff_eq]; exact eq_comm
      simp only [h1, h2]
      omega
    · rw [lk_neg (z := (k, v)) hk] at h
      have hin : (o.any fun z => decide (z.1 = c)) = true := by
        rw [List.any_eq_true]
        exact ⟨_, lk_some h, decide_eq_true rfl⟩
      have e : putI ((k, v) :: o) c r = (k, v) :: putI o c r := by
        unfold putI
        rw [if_pos hin, if_pos (by rw [List.any_cons, hin, Bool.or_true]), List.map_cons, if_neg hk]
      rw [e]
      have ih := own_put (r := r) hn.2 h s
      unfold own at ih ⊢
      rw [List.map_cons, List.map_cons, List.count_cons, List.count_cons]
      show _ + (if (v == s) = true then 1 else 0) + _ = _ + (if (v == s) = true then 1 else 0) + _
      omega
theorem put_len {o : MM} {c t r : Int} (h : lk o c = some t) : (putI o c r).length = o.length := by
  unfold putI
  rw [if_pos (by rw [List.any_eq_true]; exact ⟨_, lk_some h, decide_eq_true rfl⟩), List.length_map]
/-- a column that none owns -/
theorem way_base {P : Int → List Int} {o : MM} {T : List Int} {r c : Int} (hn : (o.map (·.1)).Nodup) (he : ∀ c s, lk o c = some s → c ∈ P s) (hc : lk o c = none) (hp : c ∈ P r) (hT : c ∉ T) : KWay P o (putI o c r) T r where
  nd := put_nodup hn
  ed := fun d s h => by
    rw [lk_put] at h
    by_cases hd : d = c
    · rw [if_pos hd] at h
      rw [hd, ← Option.some.inj h]
      exact hp
    · rw [if_neg hd] at h
      exact he d s h
  len := by rw [put_new_m hc, List.length_append]; rfl
  cnt := fun s => by rw [put_new_m hc, own_push]
  on := fun d hd => by rw [lk_put, if_neg fun e => hT (by rw [← e]; exact hd)]
  kept := fun F hF => by
    refine ⟨fun hr => ?_, fun d s hs h => ?_⟩
    · obtain ⟨s, _, h⟩ := hF r hr c hp
      rw [hc] at h
      cases h
    · rw [lk_put, if_neg fun e => by rw [e, hc] at h; cases h]
      exact h
/-- a column whose owner finds a way -/
theorem way_step {P : Int → List Int} {o o1 : MM} {T T1 : List Int} {r s c : Int} (hc : lk o c = some s) (hp : c ∈ P r) (hT : c ∉ T) (hsub : ∀ d ∈ T, d ∈ T1) (hcT : c ∈ T1) (W : KWay P o o1 T1 s) : KWay P o (putI o1 c r) T r := by
  have h1 : lk o1 c = some s := by rw [W.on c hcT]; exact hc
  refine ⟨put_nodup W.nd, fun d t h => ?_, by rw [put_len h1, W.len], fun t => ?_, fun d hd => ?_, fun F hF => ?_⟩
  · rw [lk_put] at h
    by_cases hd : d = c
    · rw [if_pos hd] at h
      rw [hd, ← Option.some.inj h]
      exact hp
    · rw [if_neg hd] at h
      exact W.ed d t h
  · have a := own_put (r := r) W.nd h1 t
    have b := W.cnt t
    omega
  · rw [lk_put, if_neg fun e => hT (by rw [← e]; exact hd)]
    exact W.on d (hsub d hd)
  · obtain ⟨k1, k2⟩ := W.kept F hF
    refine ⟨fun hr => ?_, fun d t ht h => ?_⟩
    · obtain ⟨t, ht, h⟩ := hF r hr c hp
      rw [hc] at h
      exact k1 (Option.some.inj h ▸ ht)
    · rw [lk_put, if_neg fun e => by rw [e, hc] at h; exact k1 (Option.some.inj h ▸ ht)]
      exact k2 d t ht h
end Sw
namespace Sw
open PySem PySem.Spec PyProof.Rows L2
theorem own_pos {o : MM} {s : Int} (hn : (o.map (·.1)).Nodup) : 0 < own o s ↔ ∃ c, lk o c = some s := by
  unfold own
  rw [List.count_pos_iff, List.mem_map]
  constructor
  · rintro ⟨⟨c, t⟩, h, rfl⟩
    exact ⟨c, lk_mem hn h⟩
  · rintro ⟨c, h⟩
    exact ⟨_, lk_some h, rfl⟩
/-- what holds when some rows have been tried -/
structure KSt (P : Int → List Int) (W : List Int) (o : MM) : Prop where
  nd : (o.map (·.1)).Nodup
  ed : ∀ c s, lk o c = some s → c ∈ P s
  one : ∀ s, own o s ≤ 1
  only : ∀ c s, lk o c = some s → s ∈ W
  cert : ∃ F : List Int, (∀ z ∈ F, z ∈ W) ∧ (∀ r ∈ W, own o r = 0 → r ∈ F) ∧ ∀ z ∈ F, ∀ c ∈ P z, ∃ s ∈ F, lk o c = some s
theorem kst_nil (P : Int → List Int) : KSt P [] [] := ⟨List.nodup_nil, (fun c s h => by cases h), (fun s => Nat.zero_le _), (fun c s h => by cases h), [], (fun z hz => by cases hz), (fun r hr => by cases hr), fun z hz => by cases hz⟩
theorem kst_way {P : Int → List Int} {W : List Int} {o o' : MM} {r : Int} (h : KSt P W o) (hr : r ∉ W) (w : KWay P o o' [] r) : KSt P (W ++ [r]) o' := by
  have hz : own o r = 0 := by
    by_cases e : 0 < own o r
    · obtain ⟨c, e⟩ := (own_pos h.nd).mp e
      exact absurd (h.only c r e) hr
    · omega
  refine ⟨w.nd, w.ed, fun s => ?_, fun c s e => ?_, ?_⟩
  · rw [w.cnt]
    have := h.one s
    by_cases e : s = r
    · rw [if_pos e, e, hz]
      decide
    · rw [if_neg e]
      omega
  · have p := (own_pos w.nd).mpr ⟨c, e⟩
    rw [w.cnt] at p
    by_cases e2 : s = r
    · exact List.mem_append_right _ (List.mem_singleton.mpr e2)
    · rw [if_neg e2] at p
      obtain ⟨d, e3⟩ := (own_pos h.nd).mp p
      exact List.mem_append_left _ (h.only d s e3)
  · obtain ⟨F, f1, f2, f3⟩ := h.cert
    refine ⟨F, fun z hz => List.mem_append_left _ (f1 z hz), fun q hq e => ?_, fun z hz c hc => ?_⟩
    · rw [w.cnt] at e
      rcases List.mem_append.mp hq with hq | hq
      · exact f2 q hq (by omega)
      · rw [List.mem_singleton.mp hq, if_pos rfl] at e
        omega
    · obtain ⟨s, hs, e⟩ := f3 z hz c hc
      exact ⟨s, hs, (w.kept F f3).2 c s hs e⟩
theorem kst_wall {P : Int → List Int} {W T : List Int} {o : MM} {r : Int} (h : KSt P W o) (w : KWall P o [] T r) : KSt P (W ++ [r]) o := by
  obtain ⟨F, f1, f2, f3⟩ := h.cert
  have cl : ∀ c ∈ T, ∃ s, lk o c = some s ∧ ∀ d ∈ P s, d ∈ T := fun c hc => (w.cl c hc).resolve_left fun e => by cases e
  have ow : ∀ c ∈ T, ∃ s ∈ T.filterMap (lk o), lk o c = some s := fun c hc => by
    obtain ⟨s, e, _⟩ := cl c hc
    exact ⟨s, List.mem_filterMap.mpr ⟨c, hc, e⟩, e⟩
  refine ⟨h.nd, h.ed, h.one, fun c s e => List.mem_append_left _ (h.only c s e), F ++ r :: T.filterMap (lk o), fun z hz => ?_, fun q hq e => ?_, fun z hz c hc => ?_⟩
  · rcases List.mem_append.mp hz with hz | hz
    · exact List.mem_append_left _ (f1 z hz)
    · rcases List.mem_cons.mp hz with rfl | hz
      · exact List.mem_append_right _ (List.mem_singleton.mpr rfl)
      · obtain ⟨c, _, e⟩ := List.mem_filterMap.mp hz
        exact List.mem_append_left _ (h.only c z e)
  · rcases List.mem_append.mp hq with hq | hq
    · exact List.mem_append_left _ (f2 q hq e)
    · rw [List.mem_singleton.mp hq]
      exact List.mem_append_right _ List.mem_cons_self
  · have far : ∀ c ∈ T, ∃ s ∈ F ++ r :: T.filterMap (lk o), lk o c = some s := fun c hc => by
      obtain ⟨s, hs, e⟩ := ow c hc
      exact ⟨s, List.mem_append_right _ (List.mem_cons_of_mem _ hs), e⟩
    rcases List.mem_append.mp hz with hz | hz
    · obtain ⟨s, hs, e⟩ := f3 z hz c hc
      exact ⟨s, List.mem_append_left _ hs, e⟩
    · rcases List.mem_cons.mp hz with rfl | hz
      · exact far c (w.nb c hc)
      · obtain ⟨d, hd, e⟩ := List.mem_filterMap.mp hz
        obtain ⟨s, e2, h2⟩ := cl d hd
        rw [e] at e2
        rw [← Option.some.inj e2] at h2
        exact far c (h2 c hc)
theorem swp_nodup {o : MM} (h : ∀ s, own o s ≤ 1) : ((swp o).map (·.1)).Nodup := by
  have e : (swp o).map (·.1) = o.map (·.2) := by
    unfold swp
    rw [List.map_map]
    rfl
  rw [e]
  exact List.nodup_iff_count.mpr h
theorem lk_swp {o : MM} (hn : (o.map (·.1)).Nodup) (h : ∀ s, own o s ≤ 1) {r c : Int} : lk (swp o) r = some c ↔ lk o c = some r := by
  constructor
  · intro e
    have := lk_some e
    unfold swp at this
    obtain ⟨⟨a, b⟩, hm, e2⟩ := List.mem_map.mp this
    injection e2 with e3 e4
    rw [← e3, ← e4]
    exact lk_mem hn hm
  · intro e
    refine lk_mem (swp_nodup h) ?_
    unfold swp
    exact List.mem_map.mpr ⟨(c, r), lk_some e, rfl⟩
theorem kst_least {P : Int → List Int} {W : List Int} {o : MM} (h : KSt P W o) (hW : W.Nodup) : ∃ F : List Int, F.Sublist W ∧ LeastBy P W (swp o) F := by
  obtain ⟨F, f1, f2, f3⟩ := h.cert
  have sw : ∀ {r c : Int}, lk (swp o) r = some c ↔ lk o c = some r := lk_swp h.nd h.one
  have fr : ∀ r ∈ W, lk (swp o) r = none → r ∈ F := fun r hr e => f2 r hr (by
    by_cases p : 0 < own o r
    · obtain ⟨c, e3⟩ := (own_pos h.nd).mp p
      rw [sw.mpr e3] at e
      cases e
    · omega)
  have cl : ∀ r ∈ F, ∀ c ∈ P r, ∀ r', lk (swp o) r' = some c → r' ∈ F := fun r hr c hc r' e => by
    obtain ⟨s, hs, e2⟩ := f3 r hr c hc
    rw [sw.mp e] at e2
    rw [Option.some.inj e2]
    exact hs
  let Ok : Int → Prop := fun x => ∀ L : List Int, (∀ r ∈ W, lk (swp o) r = none → r ∈ L) → (∀ r ∈ L, ∀ c ∈ P r, ∀ r', lk (swp o) r' = some c → r' ∈ L) → x ∈ L
  have hm : ∀ x, x ∈ (W.filter fun x => @decide (Ok x) (Classical.propDecidable _)) ↔ x ∈ W ∧ Ok x := fun x => by
    rw [List.mem_filter, @decide_eq_true_iff _ (Classical.propDecidable _)]
  refine ⟨_, List.filter_sublist (p := fun x => @decide (Ok x) (Classical.propDecidable _)), ⟨swp_nodup h.one, fun k v e => h.ed v k (sw.mp e), fun k j v e1 e2 => ?_⟩, fun r c e => h.only c r (sw.mp e), fun x hx => ((hm x).mp hx).1, fun r hr e => (hm r).mpr ⟨hr, fun L l1 _ => l1 r hr e⟩, fun z hz c hc => ?_, fun L l1 l2 x hx => ((hm x).mp hx).2 L l1 l2⟩
  · have a := sw.mp e1
    have b := sw.mp e2
    rw [a] at b
    exact Option.some.inj b
  · have hz2 := ((hm z).mp hz).2
    obtain ⟨s, hs, e⟩ := f3 z (hz2 F fr cl) c hc
    exact ⟨s, (hm s).mpr ⟨f1 s hs, fun L l1 l2 => l2 z (hz2 L l1 l2) c hc s (sw.mpr e)⟩, sw.mpr e⟩
theorem kst_len {P : Int → List Int} {W : List Int} {o : MM} (h : KSt P W o) (hW : W.Nodup) : (W.filter (has (swp o))).length = o.length := by
  have hn : (o.map (·.2)).Nodup := List.nodup_iff_count.mpr h.one
  rw [← List.length_map (f := fun z : Int × Int => z.2) (as := o)]
  refine same_card (hW.filter _) hn fun r => ?_
  rw [List.mem_filter]
  constructor
  · rintro ⟨_, e⟩
    obtain ⟨c, e⟩ := has_some e
    exact List.mem_map.mpr ⟨_, lk_some ((lk_swp h.nd h.one).mp e), rfl⟩
  · intro hr
    obtain ⟨⟨c, s⟩, hm, rfl⟩ := List.mem_map.mp hr
    have e := lk_mem h.nd hm
    refine ⟨h.only c _ e, ?_⟩
    unfold has
    rw [(lk_swp h.nd h.one).mpr e]
    rfl
/-- what _law_at_once tells -/
theorem kst_lack {P : Int → List Int} {W : List Int} {o : MM} (h : KSt P W o) (hW : W.Nodup) : (∃ M : List Int, M.Sublist W ∧ lackI P M ((W.length : Int) - o.length)) ∧ ∀ M : List Int, M.Sublist W → ∀ y, lackI P M y → y ≤ (W.length : Int) - o.length := by
  obtain ⟨F, hF, hLB⟩ := kst_least h hW
  rw [← kst_len h hW]
  exact ⟨⟨_, hF, least_lack hLB hW (hF.nodup hW)⟩, fun M hM y hy => (least_le hLB hW (hM.nodup hW) (fun r hr => hM.subset hr) hy).1⟩
end Sw
namespace Sw
open PySem PySem.Spec PyProof.Rows L2
/-- all stays but what lies at two places -/
def Same2 (a b : Addr) (H H' : Hp) : Prop := ∀ x o, x ≠ a → x ≠ b → H x = some o → H' x = some o
theorem Same2.trans {a b : Addr} {H1 H2 H3 : Hp} (h : Same2 a b H1 H2) (g : Same2 a b H2 H3) : Same2 a b H1 H3 := fun x o ha hb e => g x o ha hb (h x o ha hb e)
theorem same2_refl (a b : Addr) (H : Hp) : Same2 a b H H := fun _ _ _ _ e => e
theorem same2_of {a b : Addr} {H H' : Hp} (s : Same H H') : Same2 a b H H' := fun x o _ _ e => s x o e
theorem same2_fst {a b : Addr} {H : Hp} {o : HO} : Same2 a b H (upd H a o) := fun x _ ha _ e => by rw [upd_ne ha]; exact e
theorem same2_snd {a b : Addr} {H : Hp} {o : HO} : Same2 a b H (upd H b o) := fun x _ _ hb e => by rw [upd_ne hb]; exact e
theorem rd2 {a b p : Addr} {H H' : Hp} {o : HO} (s : Same2 a b H H') (ha : p ≠ a) (hb : p ≠ b) (h : Rd H p o) : Rd H' p o := by
  rcases h with h | ⟨n, h⟩
  · exact .inl (s _ _ ha hb h)
  · exact .inr ⟨n, s _ _ ha hb h⟩
theorem sqL2 {K : PySem.W.Frag} {a b p : Addr} {H H' : Hp} {xs : List V} (s : Same2 a b H H') (ha : p ≠ a) (hb : p ≠ b) (h : SqL K H p xs) : SqL K H' p xs := h.imp (rd2 s ha hb) id
theorem sqT2 {K : PySem.W.Frag} {a b p : Addr} {H H' : Hp} {d : List (Key × V)} {l : List V} {xs : List V} (s : Same2 a b H H') (ea : H a = some (.dK d)) (eb : H b = some (.lst l)) (h : SqT K H p xs) : SqT K H' p xs := by
  rcases h with h | h
  · refine .inl (rd2 s ?_ ?_ h)
    · rintro rfl
      rcases h with h | ⟨n, h⟩ <;> rw [ea] at h <;> cases h
    · rintro rfl
      rcases h with h | ⟨n, h⟩ <;> rw [eb] at h <;> cases h
  · exact .inr h
def spWay (K : PySem.W.Frag) (n : Nat) : Sp := fun vs H Q _ => ∃ (pl ow tl : Addr) (es : Tups) (G : List (Int × Int)) (o : MM) (T C : List Int) (r : Int) (P : Int → List Int), vs = [.ref pl, .int r, .ref ow, .ref tl] ∧ SqL K H pl (refs es) ∧ pl ≠ ow ∧ pl ≠ tl ∧ TupsAt K H es ∧ keys es = pairs2 G ∧ (∀ a c, (a, c) ∈ G ↔ c ∈ P a) ∧ (∀ a c, (a, c) ∈ G → c ∈ C) ∧
  H ow = some (.dK (dI o)) ∧ H tl = some (.lst (T.map V.int)) ∧ (o.map (·.1)).Nodup ∧ (∀ c s, lk o c = some s → c ∈ P s) ∧ T.Nodup ∧ (∀ c ∈ T, c ∈ C) ∧ C.length ≤ 1000 ∧ C.length < T.length + n ∧
  ∀ (H' : Hp) (c : Bool) (o' : MM) (T' : List Int), Same2 ow tl H H' → H' ow = some (.dK (dI o')) → H' tl = some (.lst (T'.map V.int)) → (c = true → KWay P o o' T r) → (c = false → o' = o ∧ KWall P o T T' r ∧ T'.Nodup ∧ ∀ c ∈ T', c ∈ C) → Q (.bl c) H'
end Sw
namespace Sw
open PySem PySem.Spec PyProof.Rows L2
def spOnce (K : PySem.W.Frag) : Sp := fun vs H Q _ => ∃ (pl wl : Addr) (es : Tups) (G : List (Int × Int)) (W C : List Int) (P : Int → List Int), vs = [.ref pl, .ref wl] ∧ H pl = some (.lst (refs es)) ∧ TupsAt K H es ∧ keys es = pairs2 G ∧ (∀ a c, (a, c) ∈ G ↔ c ∈ P a) ∧ (∀ a c, (a, c) ∈ G → c ∈ C) ∧ C.length ≤ 20 ∧ SqL K H wl (W.map V.int) ∧ W.Nodup ∧
  ∀ (H' : Hp) (o : MM), Same H H' → KSt P W o → Q (.int o.length) H'
end Sw
namespace Sw
open PySem PySem.Spec PyProof.Rows L2
def CoupI (n : Int) (cam : List Int) (kk : List (List Int)) (one other : List Int) (g : MM) : Prop := AscL (pairs2 g) ∧ Mt (tP (tblN n cam kk one other)) g ∧ MaxOn (tP (tblN n cam kk one other)) (sureN n cam one kk) g ∧ ∀ m', Mt (tP (tblN n cam kk one other)) m' → ((sureN n cam other kk).filter (has (swp m'))).length ≤ ((sureN n cam other kk).filter (has (swp g))).length
def spCoup2 (K : PySem.W.Frag) (C : Addr) : Sp := fun vs H Q _ => ∃ (p d1 d2 : Addr) (n : Int) (ks : Tups) (cam one other : List Int) (z1 z2 : Shown), vs = [.ref p, .ref d1, .ref d2] ∧ d1 ≠ d2 ∧ SkyS K C H p n ks cam ∧ isSky n (keys ks) cam = true ∧ ShD K H d1 n cam one (keys ks) z1 ∧ ShD K H d2 n cam other (keys ks) z2 ∧
  ∀ (H' : Hp) (l : Addr) (es : Tups) (g : MM), Same H H' → H' l = some (.lst (refs es)) → TupsAt K H' es → keys es = pairs2 g → CoupI n cam (keys ks) one other g → Q (.ref l) H'
def spCouples (K : PySem.W.Frag) (C D : Addr) : Sp := fun vs H Q E => ∃ (p q r : Addr) (n : Int) (ks : Tups) (cam one other : List Int), vs = [.ref p, .ref q, .ref r] ∧ SkyS K C H p n ks cam ∧ isSky n (keys ks) cam = true ∧ SqT K H q (one.map V.int) ∧ SqT K H r (other.map V.int) ∧
  (isPose n one = true → isPose n other = true → ∀ (H' : Hp) (l : Addr) (es : Tups) (g : MM), Same H H' → H' l = some (.lst (refs es)) → TupsAt K H' es → keys es = pairs2 g → CoupI n cam (keys ks) one other g → Q (.ref l) H') ∧ twoErr D E H q r n one other
def spDiffer (K : PySem.W.Frag) : Sp := fun vs H Q _ => ∃ (l : Addr) (L : List Int), vs = [.ref l] ∧ SqL K H l (L.map V.int) ∧ L.length ≤ 1000 ∧ ∀ (H' : Hp) (b : Bool), Same H H' → (b = true ↔ L.Nodup) → Q (.bl b) H'
end Sw
namespace Sw
open PySem PySem.Spec PyProof.Rows L2
theorem tbl_turn {n : Int} {cam : List Int} {kk : List (List Int)} {one other : List Int} {r c : Int} (h : c ∈ tP (tblN n cam kk one other) r) : r ∈ tP (tblN n cam kk other one) c := by
  rw [← links_swap c r (n := n) (cam := cam) (kk := kk) (one := one) (other := other)]
  exact List.mem_map.mpr ⟨(r, c), linksP_mem.mpr h, rfl⟩
theorem mt_swp {P P' : Int → List Int} {g : MM} (h : Mt P g) (hP : ∀ r c, c ∈ P r → r ∈ P' c) : Mt P' (swp g) := by
  have hn : ((swp g).map (·.1)).Nodup := by
    rw [swp_keys, List.Nodup, List.pairwise_map]
    have h1 := List.pairwise_map.mp h.nd
    refine List.Pairwise.imp_of_mem (fun {a b} ha hb hab e => hab ?_) h1
    exact h.inj a.1 b.1 a.2 (lk_mem h.nd ha) (by rw [e]; exact lk_mem h.nd hb)
  refine ⟨hn, fun k v e => hP v k (h.ed v k (lk_mem h.nd (mem_swp.mp (lk_some e)))), fun k j v e1 e2 => ?_⟩
  have a := lk_mem h.nd (mem_swp.mp (lk_some e1))
  have b := lk_mem h.nd (mem_swp.mp (lk_some e2))
  rw [a] at b
  exact Option.some.inj b
theorem swp_swp (g : MM) : swp (swp g) = g := by
  unfold swp
  rw [List.map_map]
  exact (List.map_congr_left fun z _ => rfl).trans (List.map_id _)
theorem kst_best {P : Int → List Int} {W : List Int} {o : MM} (h : KSt P W o) (hW : W.Nodup) : (∀ m', Mt P m' → (W.filter (has m')).length ≤ o.length) ∧ Mt P (swp o) ∧ (W.filter (has (swp o))).length = o.length := by
  obtain ⟨F, _, hLB⟩ := kst_least h hW
  refine ⟨fun m' hm' => ?_, hLB.mt, kst_len h hW⟩
  rw [← kst_len h hW]
  exact best hW hLB.mt hLB.shut hLB.sub hLB.free hm'
theorem coup_one {n : Int} {cam : List Int} {kk : List (List Int)} {one other : List Int} {g o : MM} (hc : CoupI n cam kk one other g) (h : KSt (tP (tblN n cam kk one other)) (sureN n cam one kk) o) : ((sureN n cam one kk).filter (has g)).length = o.length := by
  obtain ⟨h1, h2, h3⟩ := kst_best h (sureN_nodup _ _ _ _)
  have a := h1 g hc.2.1
  have b := hc.2.2.1 _ h2
  omega
theorem coup_two {n : Int} {cam : List Int} {kk : List (List Int)} {one other : List Int} {g o : MM} (hc : CoupI n cam kk one other g) (h : KSt (tP (tblN n cam kk other one)) (sureN n cam other kk) o) : ((sureN n cam other kk).filter (has (swp g))).length = o.length := by
  obtain ⟨h1, h2, h3⟩ := kst_best h (sureN_nodup _ _ _ _)
  have a := h1 (swp g) (mt_swp hc.2.1 fun r c => tbl_turn)
  have b := hc.2.2.2 (swp (swp o)) (mt_swp h2 fun r c => tbl_turn)
  rw [swp_swp] at b
  omega
theorem has_keys {g : MM} (hn : (g.map (·.1)).Nodup) (x : Int) : has g x = decide (x ∈ g.map (·.1)) := by
  rw [Bool.eq_iff_iff, decide_eq_true_iff]
  constructor
  · intro h
    obtain ⟨v, e⟩ := has_some h
    exact List.mem_map.mpr ⟨_, lk_some e, rfl⟩
  · intro h
    obtain ⟨z, hz, rfl⟩ := List.mem_map.mp h
    unfold has
    rw [lk_mem hn hz]
    rfl
end Sw
namespace L2
open PySem PySem.Spec PyProof.Rows
theorem op_notInDK {X : Cx} {K : PySem.W.Frag} (hu : X.A.units + 65 < cLine) (h : X.K = K := by rfl) : OpR X (compareOp .NotIn) (rNotInD K) := h ▸ op_notInD hu
end L2
namespace Sw
open PySem PySem.Spec PyProof.Rows L2
theorem linksP_cols {n : Int} {cam : List Int} {kk : List (List Int)} {one other : List Int} {r c : Int} (h : (r, c) ∈ linksP n cam kk one other) : r ∈ (List.range kk.length).map Int.ofNat ∧ c ∈ (List.range kk.length).map Int.ofNat := by
  unfold linksP at h
  obtain ⟨a, ha, h⟩ := List.mem_flatMap.mp h
  obtain ⟨b, hb, h⟩ := List.mem_map.mp h
  injection h with h1 h2
  exact ⟨List.mem_map.mpr ⟨a, ha, h1⟩, List.mem_map.mpr ⟨b, (List.mem_filter.mp hb).1, h2⟩⟩
theorem rNe_int {a b : Int} {H : Hp} {Q : VK} (e : a = b) (q : Q (.bl false) H) : rNe (.int a) (.int b) H Q := ⟨rfl, by rw [e, decide_eq_true rfl]; exact q⟩
theorem rEq_int {a b : Int} {H : Hp} {Q : VK} (e : a = b) (q : Q (.bl true) H) : rEq (.int a) (.int b) H Q := ⟨rfl, by rw [e, decide_eq_true rfl]; exact q⟩
end Sw
set_option Elab.async false
set_option linter.all false
/-! What of a sky fits spots (own work; k26, k29, k31, k32, k78). -/
namespace Sw
open PySem PySem.Spec PyProof.Rows L2
/-- an offset and a brightness fit a spot -/
def fitS (b g : Int) : List Int → List Int → Bool
  | [u, v, c], [x, y, z] => decide (iabs (u - x) ≤ b) && decide (iabs (v - y) ≤ b) && decide (iabs (c - z) ≤ g)
  | _, _ => false
def ftN (n : Int) (cam : List Int) (kk : List (List Int)) (at_ : List Int) (sp : List (List Int)) (i j : Nat) : Bool := match cam, sO n cam at_ kk i, sp[j]? with
  | [_, b, g, _], some d, some s => fitS b g d s
  | _, _, _ => false
def fitTo (n : Int) (cam : List Int) (kk : List (List Int)) (at_ : List Int) (sp : List (List Int)) (i : Nat) : MM := (List.range i).flatMap fun a : Nat => ((List.range sp.length).filter (ftN n cam kk at_ sp a)).map fun c : Nat => ((a : Int), (c : Int))
theorem fitTo_succ (n : Int) (cam : List Int) (kk : List (List Int)) (at_ : List Int) (sp : List (List Int)) (i : Nat) : fitTo n cam kk at_ sp (i + 1) = fitTo n cam kk at_ sp i ++ ((List.range sp.length).filter (ftN n cam kk at_ sp i)).map fun c : Nat => ((i : Int), (c : Int)) := by
  unfold fitTo
  rw [List.range_succ, List.flatMap_append]
  congr 1
  exact List.append_nil _
/-- spots: three integers each -/
def Spots3 (sp : List (List Int)) : Prop := ∀ z ∈ sp, ∃ x y c : Int, z = [x, y, c]
def spFit (K : PySem.W.Frag) : Sp := fun vs H Q _ => ∃ (pp pa pt : Addr) (n : Int) (ks ss : Tups) (cam at_ : List Int), vs = [.ref pp, .ref pa, .ref pt] ∧ PartsAt K H pp n ks cam ∧ isSky n (keys ks) cam = true ∧ SqT K H pa (at_.map V.int) ∧ isPose n at_ = true ∧ SqT K H pt (refs ss) ∧ TupsAt K H ss ∧ Spots3 (keys ss) ∧ ss.length ≤ 60 ∧
  ∀ (H' : Hp) (l : Addr) (es : Tups), Same H H' → H' l = some (.lst (refs es)) → TupsAt K H' es → keys es = pairs2 (fitTo n cam (keys ks) at_ (keys ss) (keys ks).length) → Q (.ref l) H'
end Sw
namespace Sw
open PySem PySem.Spec PyProof.Rows L2
def spGLack (K : PySem.W.Frag) : Sp := fun vs H Q _ => ∃ (t wl q r : Addr) (n : Int) (ks : Tups) (cam one other W : List Int), vs = [.ref t, .ref wl, .ref q, .ref r] ∧ PartsAt K H t n ks cam ∧ isSky n (keys ks) cam = true ∧ SqL K H wl (W.map V.int) ∧ W.Nodup ∧ SqT K H q (one.map V.int) ∧ isPose n one = true ∧ SqT K H r (other.map V.int) ∧ isPose n other = true ∧
  ∀ (H' : Hp) (o : MM), Same H H' → KSt (tP (tblN n cam (keys ks) one other)) W o → Q (.int ((W.length : Int) - o.length)) H'
def spBoth (K : PySem.W.Frag) : Sp := fun vs H Q _ => ∃ (sl ll : Addr) (S L : List Int), vs = [.ref sl, .ref ll] ∧ SqL K H sl (S.map V.int) ∧ SqL K H ll (L.map V.int) ∧ S.length ≤ 1000 ∧
  ∀ (H' : Hp) (l : Addr), Same H H' → H' l = some (.lst ((S.filter fun x => decide (x ∈ L)).map V.int)) → Q (.ref l) H'
end Sw
set_option Elab.async false
set_option linter.all false
set_option maxRecDepth 100000
set_option maxHeartbeats 4000000
/-! max of three, list(range(n)), the set of a list of integers (own work). -/
namespace L2
open PySem PySem.Spec PyProof.Rows
def mx3 (i j k : Int) : Int := if j > i then (if k > j then k else j) else (if k > i then k else i)
theorem mx3_le {i j k z : Int} : mx3 i j k ≤ z ↔ i ≤ z ∧ j ≤ z ∧ k ≤ z := by
  unfold mx3
  by_cases h1 : j > i
  · rw [if_pos h1]
    by_cases h2 : k > j
    · rw [if_pos h2]; omega
    · rw [if_neg h2]; omega
  · rw [if_neg h1]
    by_cases h2 : k > i
    · rw [if_pos h2]; omega
    · rw [if_neg h2]; omega
theorem mx3_ge (i j k : Int) : i ≤ mx3 i j k ∧ j ≤ mx3 i j k ∧ k ≤ mx3 i j k := mx3_le.mp (Int.le_refl _)
theorem call_max3 {X : Cx} (hc : X.calm = true) : CallR X (.builtin "max") (fun xs H Q => ∃ i j k, xs = [.int i, .int j, .int k] ∧ Q (.int (mx3 i j k)) H) := by
  intro pins s σ H xs us Q I r h
  obtain ⟨i, j, k, rfl, q⟩ := h
  cases r with
  | cons r1 r =>
    cases r with
    | cons r2 r =>
      cases r with
      | cons r3 r =>
        cases r
        obtain ⟨t1, rfl⟩ := r1
        obtain ⟨t2, rfl⟩ := r2
        obtain ⟨t3, rfl⟩ := r3
        refine max_three_ints (I.ok.hd hc) fun h' tk kp => ⟨_, H, I.kept kp, ?_, q⟩
        unfold mx3
        by_cases h1 : j > i
        · rw [if_pos h1, if_pos h1]
          by_cases h2 : k > j
          · rw [if_pos h2, if_pos h2]; exact ⟨_, rfl⟩
          · rw [if_neg h2, if_neg h2]; exact ⟨_, rfl⟩
        · rw [if_neg h1, if_neg h1]
          by_cases h2 : k > i
          · rw [if_pos h2, if_pos h2]; exact ⟨_, rfl⟩
          · rw [if_neg h2, if_neg h2]; exact ⟨_, rfl⟩
end L2
namespace L2
open PySem PySem.Spec PyProof.Rows
abbrev noSet (w : World) : Obj := { cls := .type "set", dict := none, data := .set #[] 0 (.fresh 0 0 (!w.params.followText "set-order")) }
section
variable {P : Program} {w : World} {A : Around} {E : Value → Shared → Prop} {s : Shared}
/-- set(x): what is left to do when the empty set is there -/
theorem set_made {x : Value} {Q : Value → Shared → Prop} {W : Value → Shared → Prop} (hW : W = fun r z => r = .none ∧ Q (.ref s.heap.objs.size) z)
    (go : wpAny (model P w) A.in1.in1 (Builtin.«set.__init__» ⟨[.ref s.heap.objs.size, x], []⟩)
      (fun fin z => match fin with | .done f => wants W E (.ok f) z | .again c => c.quiet = true ∧ codeAny (model P w) A.in1 c (wants W E) z)
      (fun e z => wants W E (.error e) z) { s with heap := s.heap.push (noSet w) }) : wpAny (model P w) A (call (.type "set") [x]) Q E s := by
  have tc := F.called_set
  obtain ⟨c0, l0, em⟩ := tc.mro
  have e1 := tc.made
  have e2 := tc.sub
  have e3 := tc.notType
  have e4 := tc.canCreate
  have e5 := F.typeCall_set_1 x
  refine wpAny_call (codeAny_of_tree ?_)
  show wpAny _ _ (callAny (.type "set") _) _ _ _
  refine wpAny_pure ⟨Code.quiet_builtin _ (by decide +kernel), codeAny_builtin F.entry_type_call (by
    rw [Around.under_plain (weight_type_call_type "set" [x] []) rfl]
    repeat any_goals (first | wp_step | assumption)
    refine codeAny_mono (code_set_led1 x (E := E) (Q₁ := fun o z => o = .ref s.heap.objs.size ∧ z = { s with heap := s.heap.push (noSet w) }) ⟨rfl, rfl⟩) fun r z hr => ?_
    match r, hr with
    | .error _, hr => exact hr
    | .ok (.ret o), hr =>
      obtain ⟨rfl, rfl⟩ := hr
      have hT : Shared.TypeIs { s with heap := s.heap.push (noSet w) } (.ref s.heap.objs.size) "set" := ⟨_, Heap.get?_push_size _ rfl, rfl⟩
      have e6 := tc.init.lookup
      have e7 := tc.init.bind (.ref s.heap.objs.size)
      repeat any_goals (first | wp_step | assumption)
      refine codeAny_mono (codeAny_call_builtin (R := wants W E) tc.init.plain F.entry_set_init (check_set_init_1 hT go)) fun r2 z2 hr2 => ?_
      match r2, hr2 with
      | .error _, hr2 => exact hr2
      | .ok (.ret o), hr2 =>
        subst hW
        obtain ⟨rfl, q⟩ := hr2
        repeat any_goals (first | wp_step | assumption))⟩
/-- set(xs), xs a list of integers -/
theorem set_of_list {l : Addr} {its : Array Value} (ns : List Int) {Q : Value → Shared → Prop} (hh : A.handled = none) (hl : s.heap.IsList l its) (hi : IntsAre its.toList ns) (hb : ns.length + 1 < scanBound)
    (k : ∀ (h' : Heap) (tk c : Nat), SetR w h' s.heap.objs.size (fun j => decide (j ∈ ns)) c → c ≤ ns.length → (∀ b o, s.heap.get? b = some o → h'.get? b = some o) → Q (.ref s.heap.objs.size) { s with heap := h', toks := tk }) :
    wpAny (model P w) A (call (.type "set") [.ref l]) Q E s := by
  have hz : its.size = ns.length := by
    rw [← Array.length_toList]
    exact hi.length
  refine set_made rfl ?_
  obtain ⟨⟨_, od, _, os⟩, eo, rfl, m, rfl⟩ := hl
  have old : ∀ {b : Addr} {o : Obj}, s.heap.get? b = some o → (s.heap.push (noSet w)).get? b = some o := fun e => Heap.get?_push_of_some _ e
  have eo1 := old eo
  have hl1 : (s.heap.push (noSet w)).IsList l its := ⟨_, eo1, rfl, m, rfl⟩
  have f1 := F.sub_list_set
  have f2 := F.sub_list_frozenset
  have f3 : (Value.type "list" == Value.type "dict") = false := by decide
  unfold Builtin.«set.__init__» noKeywords Builtin.Frozenset.updateFrom
  generalize hI : pyIter = I
  wp_walk
  subst hI
  refine wpAny_pyIter_list hl1 (wpAny_bind (wpAny_runValue ?_))
  have z1 : (s.heap.push (noSet w)).objs.size = s.heap.objs.size + 1 := Heap.size_push ..
  have z2 : l < s.heap.objs.size := Heap.lt_size eo
  have n1 : l ≠ (s.heap.push (noSet w)).objs.size := Nat.ne_of_lt (z1 ▸ Nat.lt_succ_of_lt z2)
  have h3 : A.in1.in1.in1.handled = none := hh
  refine set_update_ints ((Walks.list h3 _ l n1 its).toS) s.heap.objs.size (fun hm => ?_) ns hz hb (fun i v hv => ?_) its.size 0 _ (Nat.sub_zero _) (Nat.zero_le _)
    ⟨⟨_, Heap.get?_push_size _ rfl, rfl, rfl⟩, hl1.push _⟩ ⟨0, Nat.le_refl 0, setR_new_at (Heap.get?_push_of_some _ (Heap.get?_push_size _ rfl))⟩ ?_
  · rcases List.mem_cons.mp hm with e | hm
    · exact Nat.ne_of_lt (Nat.lt_succ_self _) (e.trans z1)
    · exact Nat.ne_of_gt z2 (List.mem_singleton.mp hm)
  · have hlt : i < ns.length := hz ▸ (Array.getElem?_eq_some_iff.mp hv).1
    obtain ⟨t, e⟩ := PyProof.Rows.IntsAre.int_at hi i v (by rw [Array.getElem?_toList]; exact hv)
    exact ⟨ns[i], t, List.getElem?_eq_getElem hlt, by rw [e, List.getD_eq_getElem?_getD, List.getElem?_eq_getElem hlt]; rfl⟩
  · rintro ⟨h', g, d, tk, o⟩ c hm hc hS
    obtain rfl : g = s.gens := hm.gens
    obtain rfl : d = s.drawn := hm.drawn
    obtain rfl : o = s.os := hm.os
    show wpAny _ _ _ _ _ _
    refine wpAny_pure ?_
    show wpAny _ _ (ret Value.none) _ _ _
    refine wpAny_pure ⟨rfl, k h' tk c hS (hz ▸ hc) fun b o e => hm.heap b o (fun hm => ?_) (Heap.get?_push_of_some _ (old e))⟩
    have hlt := Heap.lt_size e
    rcases List.mem_cons.mp hm with e | hm
    · exact Nat.ne_of_lt hlt e
    · exact Nat.ne_of_lt (Nat.lt_succ_of_lt hlt) ((List.mem_singleton.mp hm).trans z1)
end
end L2
namespace L2
open PySem PySem.Spec PyProof.Rows
/-- sorted(set(xs)) -/
def tSortSet (K : PySem.W.Frag) (te : TE) : TE := fun σ H Q => te σ H fun x H1 => ∃ (l : Addr) (ns : List Int), x = V.ref l ∧ SqL K H1 l (ns.map V.int) ∧ ns.length < 60 ∧
  ∀ (p : Addr) (out : List Int), out.Pairwise (· < ·) → (∀ k : Int, k ∈ out ↔ k ∈ ns) → H1 p = none → Q (.ref p) (upd H1 p (.lst (out.map V.int)))
theorem pe_sortSet {X : Cx} {a : Expr} {ta : TE} {p p2 q pos : Pos} (hc : X.calm = true) (hg : Gl X "sorted") (hm : X.mg "sorted" = none) (hg2 : Gl X "set") (hm2 : X.mg "set" = none) (ha : PE X a ta)
    (na : starEach [a] X.env = (false, eval a X.env) :: starEach [] X.env := by rfl) : PE X (.Call (.Name "sorted" p) [.Call (.Name "set" p2) [a] [] q] [] pos) (tSortSet X.K ta) := by
  refine ⟨fun pins s σ H Q I h => Call_ (ld_blt I hg hm PyProof.Rows.boot_sorted (PyProof.Rows.callWith_builtin1 (PyProof.Rows.args_cons ?_ rfl) rfl rfl))⟩
  refine Call_ (ld_blt I hg2 hm2 PyProof.Rows.boot_set (PyProof.Rows.callWith_type1 (PyProof.Rows.args_cons (thn (ha.run pins s σ H _ I h) fun v s1 ⟨x, H1, I1, r1, q1⟩ => PyProof.Rows.args_nil ?_) na) na rfl))
  obtain ⟨l, ns, rfl, hq, h1, q1⟩ := q1
  cases r1
  obtain ⟨its, r, pl, hz⟩ := I1.list hq
  refine set_of_list ns (I1.ok.hd hc) pl.isList (by simpa using r.ints) (by unfold scanBound; omega) fun h' tk c R hcn kp => PyProof.Rows.args_nil ?_
  have I2 : Inv X pins σ H1 { s1 with heap := h', toks := tk } := I1.kept kp
  have R2 : SetR X.w ({ s1 with heap := h', toks := tk } : Shared).heap s1.heap.objs.size (fun j => decide (j ∈ ns)) c := R
  generalize ({ s1 with heap := h', toks := tk } : Shared) = s2 at I2 R2 ⊢
  refine sorted_set R2 (I2.ok.hd hc) (by omega) fun s' p out d N k g o hp hgp hi hs hmm hl => ?_
  have hlen : (N.map V.int).length ≤ sizeLine := by rw [List.length_map, hl, sizeLine_eq]; omega
  have hn : H1 p = none := I2.hok.fresh hp
  have J : Inv X pins σ (upd H1 p (.lst (N.map V.int))) { s2 with heap := s'.heap, gens := s'.gens, drawn := s'.drawn, toks := s'.toks } :=
    I2.call (ch := []) (Un.laid k hp hn) (I2.hok.laid k hp ⟨hlen, out.toList, d, vals_of_ints hi, hgp⟩) (by rw [g]; exact I2.bare) (fun _ z => nomatch z)
  have e : s' = { s2 with heap := s'.heap, gens := s'.gens, drawn := s'.drawn, toks := s'.toks } := by
    cases s'
    cases s2
    cases o
    rfl
  rw [e]
  exact ⟨.ref p, _, J, rfl, q1 p N hs (fun z => by rw [hmm z]; exact decide_eq_true_iff) hn⟩
/-- list(range(n)) -/
def tListRng (te : TE) : TE := fun σ H Q => te σ H fun x H1 => ∃ n : Nat, x = V.int n ∧ n ≤ 1000 ∧ ∀ l, H1 l = none → Q (.ref l) (upd H1 l (.lst ((List.range n).map fun i : Nat => V.int (i : Int))))
theorem pe_listRng {X : Cx} {a : Expr} {ta : TE} {p p2 q pos : Pos} (hc : X.calm = true) (hg : Gl X "list") (hm : X.mg "list" = none) (hg2 : Gl X "range") (hm2 : X.mg "range" = none) (ha : PE X a ta)
    (na : starEach [a] X.env = (false, eval a X.env) :: starEach [] X.env := by rfl) : PE X (.Call (.Name "list" p) [.Call (.Name "range" p2) [a] [] q] [] pos) (tListRng ta) := by
  refine ⟨fun pins s σ H Q I h => Call_ (ld_blt I hg hm PyProof.Rows.boot_list (PyProof.Rows.callWith_type1 (PyProof.Rows.args_cons ?_ rfl) rfl rfl))⟩
  refine Call_ (ld_blt I hg2 hm2 PyProof.Rows.boot_range (PyProof.Rows.callWith_type1 (PyProof.Rows.args_cons (thn (ha.run pins s σ H _ I h) fun v s1 ⟨x, H1, I1, r1, q1⟩ => PyProof.Rows.args_nil ?_) na) na rfl))
  obtain ⟨n, rfl, hn, q1⟩ := q1
  obtain ⟨t, rfl⟩ := r1
  refine call_range_1 (PyProof.Rows.args_nil ?_)
  have hR : IsRange ({ s1 with heap := s1.heap.push { cls := .type "range", data := .fields #[.int 0 s1.toks, .int (n : Int) t, .int 1 (s1.toks + 1)] }, toks := s1.toks + 1 + 1 } : Shared).heap s1.heap.objs.size 0 n 1 s1.toks t (s1.toks + 1) := IsRange.new ..
  have I2 : Inv X pins σ H1 ({ s1 with heap := s1.heap.push { cls := .type "range", data := .fields #[.int 0 s1.toks, .int (n : Int) t, .int 1 (s1.toks + 1)] }, toks := s1.toks + 1 + 1 } : Shared) := I1.kept fun b o e => Heap.get?_push_of_some _ e
  generalize ({ s1 with heap := s1.heap.push { cls := .type "range", data := .fields #[.int 0 s1.toks, .int (n : Int) t, .int 1 (s1.toks + 1)] }, toks := s1.toks + 1 + 1 } : Shared) = s2 at I2 hR ⊢
  refine call_list_range (n := n) (I2.ok.hd hc) hR (small_one (by omega) (by omega) (by omega) (by omega)) (by rw [rangeSize_one]; split <;> omega) (by omega) fun h' tk acc c kp hg' hI => ?_
  obtain ⟨hsz, hat⟩ := hI
  have hlen : ((List.range n).map fun i : Nat => V.int (i : Int)).length ≤ sizeLine := by rw [List.length_map, List.length_range, sizeLine_eq]; omega
  have vals : ∀ (m : List Nat) (us : List Value), (us.length = m.length) → (∀ i (h : i < us.length), ∃ j t, m[i]? = some j ∧ us[i] = .int (j : Int) t) → Vals (m.map fun i : Nat => V.int (i : Int)) us := by
    intro m
    induction m with
    | nil => intro us hl _; cases us with
      | nil => exact .nil
      | cons _ _ => cases hl
    | cons j m ih =>
      intro us hl h
      cases us with
      | nil => cases hl
      | cons u us =>
        obtain ⟨j', t, e1, e2⟩ := h 0 (Nat.succ_pos _)
        obtain rfl : j = j' := Option.some.inj e1
        exact .cons ⟨t, e2⟩ (ih us (Nat.succ.inj hl) fun i hi => h (i + 1) (Nat.succ_lt_succ hi))
  have hfr : H1 s2.heap.objs.size = none := I2.hok.fresh (Nat.le_refl _)
  have J := I2.laid (t' := tk) (a := s2.heap.objs.size) (o := .lst ((List.range n).map fun i : Nat => V.int (i : Int))) kp (Nat.le_refl _) (show ObjOk X.prog X.w _ h' _ (.lst ((List.range n).map fun i : Nat => V.int (i : Int))) from ⟨hlen, acc.toList, c, vals _ _ (by rw [Array.length_toList, List.length_range, hsz]) (fun i hi => ?_), hg'⟩)
  · exact ⟨.ref s2.heap.objs.size, _, J, rfl, q1 _ hfr⟩
  · rw [Array.length_toList, hsz] at hi
    obtain ⟨t2, e⟩ := hat i acc[i] (Array.getElem?_eq_getElem (by omega))
    exact ⟨i, t2, List.getElem?_range hi, by rw [Array.getElem_toList, e]; congr 1; omega⟩
end L2
set_option Elab.async false
set_option linter.all false
/-! A sighting that misleads (own work; k32). -/
namespace Sw
open PySem PySem.Spec PyProof.Rows L2
/-- a permutation moves positions, no two to one -/
theorem perm_idx {α : Type} {l m : List α} (h : l.Perm m) : ∃ f : Nat → Nat, (∀ i, i < l.length → f i < m.length ∧ m[f i]? = l[i]?) ∧ ∀ i j, i < l.length → j < l.length → f i = f j → i = j := by
  induction h with
  | nil => exact ⟨id, fun i hi => absurd hi (Nat.not_lt_zero _), fun i j _ _ e => e⟩
  | cons x _ ih =>
    obtain ⟨f, h1, h2⟩ := ih
    refine ⟨fun i => match i with | 0 => 0 | i + 1 => f i + 1, fun i hi => ?_, fun i j hi hj e => ?_⟩
    · cases i with
      | zero => exact ⟨Nat.succ_pos _, rfl⟩
      | succ i =>
        have := h1 i (Nat.lt_of_succ_lt_succ hi)
        exact ⟨Nat.succ_lt_succ this.1, by simpa using this.2⟩
    · cases i with
      | zero =>
        cases j with
        | zero => rfl
        | succ j => cases e
      | succ i =>
        cases j with
        | zero => cases e
        | succ j => rw [h2 i j (Nat.lt_of_succ_lt_succ hi) (Nat.lt_of_succ_lt_succ hj) (Nat.succ.inj e)]
  | swap x y l =>
    refine ⟨fun i => match i with | 0 => 1 | 1 => 0 | i + 2 => i + 2, fun i hi => ?_, fun i j hi hj e => ?_⟩
    · match i, hi with
      | 0, _ => exact ⟨by simp, rfl⟩
      | 1, _ => exact ⟨by simp, rfl⟩
      | i + 2, hi => exact ⟨hi, by simp⟩
    · match i, j, e with
      | 0, 0, _ => rfl
      | 0, 1, e => cases e
      | 0, j + 2, e => simp at e
      | 1, 0, e => cases e
      | 1, 1, _ => rfl
      | 1, j + 2, e => simp at e
      | i + 2, 0, e => simp at e
      | i + 2, 1, e => simp at e
      | i + 2, j + 2, e => exact e
  | trans _ _ ih1 ih2 =>
    obtain ⟨f, f1, f2⟩ := ih1
    obtain ⟨g, g1, g2⟩ := ih2
    refine ⟨fun i => g (f i), fun i hi => ?_, fun i j hi hj e => f2 i j hi hj (g2 _ _ (f1 i hi).1 (f1 j hj).1 e)⟩
    have a := f1 i hi
    have b := g1 _ a.1
    exact ⟨b.1, b.2.trans a.2⟩
theorem nodup_map_inj {α β : Type} {f : α → β} : ∀ {l : List α}, (l.map f).Nodup → ∀ x ∈ l, ∀ y ∈ l, f x = f y → x = y
  | [], _, x, hx, _, _, _ => by cases hx
  | a :: l, h, x, hx, y, hy, e => by
    rw [List.map_cons, List.nodup_cons] at h
    rcases List.mem_cons.mp hx with ex | hx'
    · rcases List.mem_cons.mp hy with ey | hy'
      · rw [ex, ey]
      · exact absurd (by rw [← ex, e]; exact List.mem_map_of_mem (f := f) hy') h.1
    · rcases List.mem_cons.mp hy with ey | hy'
      · exact absurd (by rw [← ey, ← e]; exact List.mem_map_of_mem (f := f) hx') h.1
      · exact nodup_map_inj h.2 x hx' y hy' e
/-- the partners that pairs give -/
def pOf (G : MM) (a : Int) : List Int := (G.filter fun z => decide (z.1 = a)).map (·.2)
theorem pOf_mem {G : MM} {a c : Int} : (a, c) ∈ G ↔ c ∈ pOf G a := by
  unfold pOf
  constructor
  · intro h
    exact List.mem_map.mpr ⟨(a, c), List.mem_filter.mpr ⟨h, decide_eq_true rfl⟩, rfl⟩
  · intro h
    obtain ⟨⟨a', c'⟩, h', rfl⟩ := List.mem_map.mp h
    obtain ⟨h2, e⟩ := List.mem_filter.mp h'
    have e := of_decide_eq_true e
    rw [← show a' = a from e]
    exact h2
theorem pOf_swp {G : MM} {a c : Int} (h : c ∈ pOf G a) : a ∈ pOf (swp G) c := pOf_mem.mp (mem_swp.mpr (pOf_mem.mpr h))
theorem fit_mem {n : Int} {cam : List Int} {kk : List (List Int)} {at_ : List Int} {sp : List (List Int)} {i a c : Nat} (h1 : a < i) (h2 : c < sp.length) (h3 : ftN n cam kk at_ sp a c = true) : ((a : Int), (c : Int)) ∈ fitTo n cam kk at_ sp i :=
  List.mem_flatMap.mpr ⟨a, List.mem_range.mpr h1, List.mem_map.mpr ⟨c, List.mem_filter.mpr ⟨List.mem_range.mpr h2, h3⟩, rfl⟩⟩
theorem fit_cols {n : Int} {cam : List Int} {kk : List (List Int)} {at_ : List Int} {sp : List (List Int)} {i : Nat} {a c : Int} (h : (a, c) ∈ fitTo n cam kk at_ sp i) : a ∈ (List.range i).map Int.ofNat ∧ c ∈ (List.range sp.length).map Int.ofNat := by
  unfold fitTo at h
  obtain ⟨x, hx, h⟩ := List.mem_flatMap.mp h
  obtain ⟨y, hy, h⟩ := List.mem_map.mp h
  injection h with e1 e2
  exact ⟨List.mem_map.mpr ⟨x, hx, e1⟩, List.mem_map.mpr ⟨y, (List.mem_filter.mp hy).1, e2⟩⟩
/-- stars with spots of their own among some -/
theorem fit_match {n r b g l : Int} {kk : List (List Int)} {at_ : List Int} {sp L : List (List Int)} (hp : sp.Perm L) (Z : List (Int × Nat)) (h1 : (Z.map (·.1)).Nodup) (h2 : (Z.map (·.2)).Nodup)
    (h3 : ∀ z ∈ Z, ∃ m : Nat, z.1 = (m : Int) ∧ m < kk.length ∧ ∃ d s, sO n [r, b, g, l] at_ kk m = some d ∧ L[z.2]? = some s ∧ fitS b g d s = true) :
    ∃ m : MM, Mt (pOf (fitTo n [r, b, g, l] kk at_ sp kk.length)) m ∧ m.map (·.1) = Z.map (·.1) ∧ ∀ c ∈ m.map (·.2), c ∈ (List.range sp.length).map Int.ofNat := by
  obtain ⟨f, f1, f2⟩ := perm_idx hp.symm
  have lt : ∀ z ∈ Z, z.2 < L.length := fun z hz => by
    obtain ⟨_, _, _, _, _, _, e, _⟩ := h3 z hz
    exact (List.getElem?_eq_some_iff.mp e).1
  have ek : (Z.map fun z => (z.1, (f z.2 : Int))).map (·.1) = Z.map (·.1) := by rw [List.map_map]; rfl
  refine ⟨Z.map fun z => (z.1, (f z.2 : Int)), ⟨by rw [ek]; exact h1, fun k v e => ?_, fun k j v e1 e2 => ?_⟩, ek, fun c hc => ?_⟩
  · obtain ⟨z, hz, e⟩ := List.mem_map.mp (lk_some e)
    injection e with e1 e2
    obtain ⟨m, em, hm, d, s, hd, hs, hf⟩ := h3 z hz
    rw [← e1, ← e2, em]
    have hfz := f1 _ (lt z hz)
    refine pOf_mem.mp (fit_mem hm hfz.1 ?_)
    unfold ftN
    rw [hd, hfz.2, hs]
    exact hf
  · obtain ⟨z, hz, e1⟩ := List.mem_map.mp (lk_some e1)
    obtain ⟨y, hy, e2⟩ := List.mem_map.mp (lk_some e2)
    injection e1 with a1 b1
    injection e2 with a2 b2
    have : f z.2 = f y.2 := by
      have := b1.trans b2.symm
      exact Int.ofNat.inj this
    have := nodup_map_inj h2 z hz y hy (f2 _ _ (lt z hz) (lt y hy) this)
    rw [← a1, ← a2, this]
  · rw [List.map_map] at hc
    obtain ⟨z, hz, rfl⟩ := List.mem_map.mp hc
    exact List.mem_map.mpr ⟨f z.2, List.mem_range.mpr (f1 _ (lt z hz)).1, rfl⟩
theorem has_key {m : MM} {k : Int} (hn : (m.map (·.1)).Nodup) (h : k ∈ m.map (·.1)) : has m k = true := by
  rw [has_keys hn]
  exact decide_eq_true h
theorem held_ge {W X : List Int} {m : MM} (hn : (m.map (·.1)).Nodup) (hX : X.Nodup) (h : ∀ x ∈ X, x ∈ W ∧ x ∈ m.map (·.1)) : X.length ≤ (W.filter (has m)).length :=
  len_le_of_sub hX fun x hx => List.mem_filter.mpr ⟨(h x hx).1, has_key hn (h x hx).2⟩
/-! ### the spots -/
def cspot : List Int → List Int → List Int → List Int
  | [r, b, g, l], [x, y, c], [x', y', c'] => [mx3 (x - b) (x' - b) (-r), mx3 (y - b) (y' - b) (-r), mx3 (c - g) (c' - g) l]
  | _, _, _ => []
def isSp : List Int → List Int → Prop
  | [r, _, g, l], s => ∃ x y c : Int, s = [x, y, c] ∧ -r ≤ x ∧ x ≤ r ∧ -r ≤ y ∧ y ≤ r ∧ l ≤ c ∧ c ≤ 9 + g
  | _, _ => False
/-- what a camera can see -/
def Vis (r b g l : Int) : List Int → Prop
  | [u, v, c] => -(r + b) ≤ u ∧ u ≤ r + b ∧ -(r + b) ≤ v ∧ v ≤ r + b ∧ l - g ≤ c ∧ c ≤ 9
  | _ => False
theorem sO_vis {n r b g l : Int} {at_ : List Int} {kk : List (List Int)} {m : Nat} {d : List Int} (hp : isPose n at_ = true) (hst : kk.all (isStar n) = true) (h : sO n [r, b, g, l] at_ kk m = some d) : Vis r b g l d := by
  obtain ⟨x, y, q, rfl, _⟩ := pose_form hp
  obtain ⟨u, v, c, rfl, _, h⟩ := sO_parts rfl hst h
  exact h
theorem fitS_iff {b g u v c x y z : Int} : fitS b g [u, v, c] [x, y, z] = true ↔ (-b ≤ u - x ∧ u - x ≤ b) ∧ (-b ≤ v - y ∧ v - y ≤ b) ∧ (-g ≤ c - z ∧ c - z ≤ g) := by
  show (decide (iabs (u - x) ≤ b) && decide (iabs (v - y) ≤ b) && decide (iabs (c - z) ≤ g)) = true ↔ _
  rw [Bool.and_eq_true, Bool.and_eq_true, decide_eq_true_iff, decide_eq_true_iff, decide_eq_true_iff, iabs_le, iabs_le, iabs_le, and_assoc]
theorem cspot_ok {r b g l : Int} {d e : List Int} (b0 : 0 ≤ b) (g0 : 0 ≤ g) (r0 : 0 ≤ r) (l9 : l ≤ 9) (hd : Vis r b g l d) (he : Vis r b g l e) (hn : nearB [r, b, g, l] d e = true) :
    isSp [r, b, g, l] (cspot [r, b, g, l] d e) ∧ fitS b g d (cspot [r, b, g, l] d e) = true ∧ fitS b g e (cspot [r, b, g, l] d e) = true := by
  match d, e, hd, he, hn with
  | [u, v, c], [u', v', c'], hd, he, hn =>
    have hn' : (decide (-(2 * b) ≤ u - u') && decide (u - u' ≤ 2 * b) && (decide (-(2 * b) ≤ v - v') && decide (v - v' ≤ 2 * b)) && (decide (-(2 * g) ≤ c - c') && decide (c - c' ≤ 2 * g))) = true := hn
    simp only [Bool.and_eq_true, decide_eq_true_eq] at hn'
    obtain ⟨⟨⟨n1, n2⟩, n3, n4⟩, n5, n6⟩ := hn'
    obtain ⟨d1, d2, d3, d4, d5, d6⟩ := hd
    obtain ⟨e1, e2, e3, e4, e5, e6⟩ := he
    have x1 := mx3_ge (u - b) (u' - b) (-r)
    have x2 : mx3 (u - b) (u' - b) (-r) ≤ r := mx3_le.mpr (by omega)
    have x3 : mx3 (u - b) (u' - b) (-r) ≤ u + b := mx3_le.mpr (by omega)
    have x4 : mx3 (u - b) (u' - b) (-r) ≤ u' + b := mx3_le.mpr (by omega)
    have y1 := mx3_ge (v - b) (v' - b) (-r)
    have y2 : mx3 (v - b) (v' - b) (-r) ≤ r := mx3_le.mpr (by omega)
    have y3 : mx3 (v - b) (v' - b) (-r) ≤ v + b := mx3_le.mpr (by omega)
    have y4 : mx3 (v - b) (v' - b) (-r) ≤ v' + b := mx3_le.mpr (by omega)
    have z1 := mx3_ge (c - g) (c' - g) l
    have z2 : mx3 (c - g) (c' - g) l ≤ 9 + g := mx3_le.mpr (by omega)
    have z3 : mx3 (c - g) (c' - g) l ≤ c + g := mx3_le.mpr (by omega)
    have z4 : mx3 (c - g) (c' - g) l ≤ c' + g := mx3_le.mpr (by omega)
    refine ⟨⟨_, _, _, rfl, ?_⟩, ?_, ?_⟩
    · omega
    · show fitS b g [u, v, c] [mx3 (u - b) (u' - b) (-r), mx3 (v - b) (v' - b) (-r), mx3 (c - g) (c' - g) l] = true
      rw [fitS_iff]
      omega
    · show fitS b g [u', v', c'] [mx3 (u - b) (u' - b) (-r), mx3 (v - b) (v' - b) (-r), mx3 (c - g) (c' - g) l] = true
      rw [fitS_iff]
      omega
theorem near_vis {r b g l : Int} {d : List Int} (b0 : 0 ≤ b) (g0 : 0 ≤ g) (hd : Vis r b g l d) : nearB [r, b, g, l] d d = true := by
  match d, hd with
  | [u, v, c], _ => exact near_self b0 g0 u v c
end Sw
namespace Sw
open PySem PySem.Spec PyProof.Rows L2
def dO (n : Int) (cam at_ : List Int) (kk : List (List Int)) (a : Int) : List Int := (sO n cam at_ kk a.toNat).getD []
def misA (n : Int) (cam : List Int) (kk : List (List Int)) (one tr : List Int) (m : MM) : List (List Int) := m.map fun z => cspot cam (dO n cam one kk z.1) (dO n cam tr kk z.2)
def misF (n : Int) (cam : List Int) (kk : List (List Int)) (tr : List Int) (m : MM) : List (Int × List Int) := (seenI n cam tr 0 kk).filter fun z => !decide (z.1 ∈ m.map (·.2))
def misB (n : Int) (cam : List Int) (kk : List (List Int)) (tr : List Int) (m : MM) : List (List Int) := (misF n cam kk tr m).map fun z => cspot cam z.2 z.2
def misG (W : List Int) (m : MM) (k : Nat) : List Int := (W.filter fun x => !decide (x ∈ m.map (·.1))).drop k
def misC (n : Int) (cam : List Int) (kk : List (List Int)) (one : List Int) (W : List Int) (m : MM) (k : Nat) : List (List Int) := (misG W m k).map (dO n cam one kk)
def misL (n : Int) (cam : List Int) (kk : List (List Int)) (one tr : List Int) (W : List Int) (m : MM) (k : Nat) : List (List Int) := misA n cam kk one tr m ++ misB n cam kk tr m ++ misC n cam kk one W m k
theorem dO_eq {n : Int} {cam at_ : List Int} {kk : List (List Int)} {a : Nat} {d : List Int} (h : sO n cam at_ kk a = some d) : dO n cam at_ kk (a : Int) = d := by
  unfold dO
  rw [Int.toNat_natCast, h]
  rfl
theorem seen_at {n : Int} {cam at_ : List Int} {kk : List (List Int)} {z : Int × List Int} (h : z ∈ seenI n cam at_ 0 kk) : ∃ a : Nat, z.1 = (a : Int) ∧ a < kk.length ∧ sO n cam at_ kk a = some z.2 := by
  have h0 := seenI_ge n cam at_ kk 0 z h
  have h1 := seenI_lt n cam at_ kk 0 z h
  obtain ⟨m, hm⟩ := Int.eq_ofNat_of_zero_le (show 0 ≤ z.1 by omega)
  refine ⟨m, hm, by omega, ?_⟩
  unfold sO
  rw [← atK_seen0 n cam at_ kk m]
  have e := atK_of_mem (seenI_asc n cam at_ kk 0) h
  rw [show z.1 = (m : Int) from hm] at e
  exact e
theorem edge_at {n : Int} {cam : List Int} {kk : List (List Int)} {one tr : List Int} {m : MM} (hM : Mt (tP (tblN n cam kk one tr)) m) {z : Int × Int} (hz : z ∈ m) :
    ∃ a s : Nat, z.1 = (a : Int) ∧ z.2 = (s : Int) ∧ a < kk.length ∧ s < kk.length ∧ ∃ d e, sO n cam one kk a = some d ∧ sO n cam tr kk s = some e ∧ nearB cam d e = true := by
  have h := linksP_mem.mpr (hM.ed _ _ (lk_mem hM.nd hz))
  unfold linksP at h
  obtain ⟨a, ha, h⟩ := List.mem_flatMap.mp h
  obtain ⟨s, hs, h⟩ := List.mem_map.mp h
  injection h with e1 e2
  obtain ⟨hs1, hs2⟩ := List.mem_filter.mp hs
  refine ⟨a, s, e1.symm, e2.symm, List.mem_range.mp ha, List.mem_range.mp hs1, ?_⟩
  unfold lkN at hs2
  cases ed : sO n cam one kk a with
  | none => rw [ed] at hs2; cases hs2
  | some d =>
    cases ee : sO n cam tr kk s with
    | none => rw [ed, ee] at hs2; cases hs2
    | some e =>
      rw [ed, ee] at hs2
      exact ⟨d, e, rfl, rfl, hs2⟩
theorem sure_src {n r b g l : Int} {at_ : List Int} {kk : List (List Int)} {x : Int} (h : x ∈ sureN n [r, b, g, l] at_ kk) : ∃ z ∈ seenI n [r, b, g, l] at_ 0 kk, z.1 = x ∧ isSure r b g l z.2 = true := by
  have h' : x ∈ ((seenI n [r, b, g, l] at_ 0 kk).filter fun z => isSure r b g l z.2).map (·.1) := h
  obtain ⟨z, hz, e⟩ := List.mem_map.mp h'
  obtain ⟨h1, h2⟩ := List.mem_filter.mp hz
  exact ⟨z, h1, e, h2⟩
theorem sure_spot {r b g l : Int} {d : List Int} (b0 : 0 ≤ b) (g0 : 0 ≤ g) (hv : Vis r b g l d) (h : isSure r b g l d = true) : isSp [r, b, g, l] d ∧ fitS b g d d = true := by
  match d, hv, h with
  | [u, v, c], hv, h =>
    obtain ⟨v1, v2, v3, v4, v5, v6⟩ := hv
    have h' : (decide (iabs u ≤ r - b) && decide (iabs v ≤ r - b) && decide (l + g ≤ c)) = true := h
    simp only [Bool.and_eq_true, decide_eq_true_eq, iabs_le] at h'
    obtain ⟨⟨h1, h2⟩, h3⟩ := h'
    refine ⟨⟨u, v, c, rfl, ?_⟩, fitS_iff.mpr ?_⟩ <;> omega
/-- what the sighting is made of -/
structure Mis (n r b g l : Int) (kk : List (List Int)) (one tr : List Int) (W : List Int) (m : MM) : Prop where
  sky : isSky n kk [r, b, g, l] = true
  p1 : isPose n one = true
  p2 : isPose n tr = true
  mt : Mt (tP (tblN n [r, b, g, l] kk one tr)) m
  wn : W.Nodup
  sure : ∀ x ∈ W, x ∈ sureN n [r, b, g, l] one kk
  rows : ∀ a c, lk m a = some c → a ∈ W
section
variable {n r b g l : Int} {kk : List (List Int)} {one tr : List Int} {W : List Int} {m : MM} {k : Nat}
theorem Mis.cam (h : Mis n r b g l kk one tr W m) : 0 ≤ r ∧ 0 ≤ b ∧ 0 ≤ g ∧ l ≤ 9 ∧ kk.all (isStar n) = true := by
  obtain ⟨_, hs, _, _, hc⟩ := sky_parts h.sky
  obtain ⟨r', b', g', l', e, c⟩ := cam_form hc
  injection e with e1 e
  injection e with e2 e
  injection e with e3 e
  injection e with e4 e
  subst e1 e2 e3 e4
  exact ⟨c.1, c.2.2.1, c.2.2.2.2.1, c.2.2.2.2.2.2.2.1, hs⟩
theorem Mis.edge (h : Mis n r b g l kk one tr W m) {z : Int × Int} (hz : z ∈ m) : ∃ a s : Nat, z.1 = (a : Int) ∧ z.2 = (s : Int) ∧ a < kk.length ∧ s < kk.length ∧ ∃ d e c, sO n [r, b, g, l] one kk a = some d ∧ sO n [r, b, g, l] tr kk s = some e ∧
    cspot [r, b, g, l] (dO n [r, b, g, l] one kk z.1) (dO n [r, b, g, l] tr kk z.2) = c ∧ isSp [r, b, g, l] c ∧ fitS b g d c = true ∧ fitS b g e c = true := by
  obtain ⟨r0, b0, g0, l9, hs⟩ := h.cam
  obtain ⟨a, s, e1, e2, h1, h2, d, e, h3, h4, h5⟩ := edge_at h.mt hz
  have := cspot_ok b0 g0 r0 l9 (sO_vis h.p1 hs h3) (sO_vis h.p2 hs h4) h5
  refine ⟨a, s, e1, e2, h1, h2, d, e, _, h3, h4, rfl, ?_⟩
  rw [e1, e2, dO_eq h3, dO_eq h4]
  exact this
theorem Mis.own (h : Mis n r b g l kk one tr W m) {z : Int × List Int} (hz : z ∈ misF n [r, b, g, l] kk tr m) : ∃ a : Nat, z.1 = (a : Int) ∧ a < kk.length ∧ sO n [r, b, g, l] tr kk a = some z.2 ∧ isSp [r, b, g, l] (cspot [r, b, g, l] z.2 z.2) ∧ fitS b g z.2 (cspot [r, b, g, l] z.2 z.2) = true := by
  obtain ⟨r0, b0, g0, l9, hs⟩ := h.cam
  obtain ⟨a, h1, h2, h3⟩ := seen_at (List.mem_filter.mp hz).1
  have hv := sO_vis h.p2 hs h3
  have := cspot_ok b0 g0 r0 l9 hv hv (near_vis b0 g0 hv)
  exact ⟨a, h1, h2, h3, this.1, this.2.1⟩
theorem Mis.guide (h : Mis n r b g l kk one tr W m) {x : Int} (hx : x ∈ misG W m k) : x ∈ W ∧ x ∉ m.map (·.1) ∧ ∃ a : Nat, ∃ d, x = (a : Int) ∧ a < kk.length ∧ sO n [r, b, g, l] one kk a = some d ∧ dO n [r, b, g, l] one kk x = d ∧ isSp [r, b, g, l] d ∧ fitS b g d d = true := by
  obtain ⟨r0, b0, g0, l9, hs⟩ := h.cam
  have hx' := List.mem_of_mem_drop hx
  obtain ⟨hW, hn⟩ := List.mem_filter.mp hx'
  obtain ⟨z, hz, e, hsu⟩ := sure_src (h.sure x hW)
  obtain ⟨a, h1, h2, h3⟩ := seen_at hz
  have := sure_spot b0 g0 (sO_vis h.p1 hs h3) hsu
  refine ⟨hW, by simpa using hn, a, z.2, e ▸ h1, h2, h3, ?_, this⟩
  rw [← e, h1]
  exact dO_eq h3
theorem Mis.spots (h : Mis n r b g l kk one tr W m) : ∀ s ∈ misL n [r, b, g, l] kk one tr W m k, isSp [r, b, g, l] s := fun s hs => by
  rcases List.mem_append.mp hs with hs | hs
  · rcases List.mem_append.mp hs with hs | hs
    · obtain ⟨z, hz, rfl⟩ := List.mem_map.mp hs
      obtain ⟨_, _, _, _, _, _, _, _, _, _, _, rfl, e, _⟩ := h.edge hz
      exact e
    · obtain ⟨z, hz, rfl⟩ := List.mem_map.mp hs
      obtain ⟨_, _, _, _, e, _⟩ := h.own hz
      exact e
  · obtain ⟨x, hx, rfl⟩ := List.mem_map.mp hs
    obtain ⟨_, _, _, d, _, _, _, e, e2, _⟩ := h.guide hx
    rw [e]
    exact e2
theorem misF_nodup (h : Mis n r b g l kk one tr W m) : (m.map (·.2) ++ (misF n [r, b, g, l] kk tr m).map (·.1)).Nodup := by
  refine List.nodup_append.mpr ⟨h.mt.cn, (List.filter_sublist.map _).nodup (asc_nodup (seenI_asc n [r, b, g, l] tr kk 0)), fun x hx y hy e => ?_⟩
  obtain ⟨z, hz, rfl⟩ := List.mem_map.mp hy
  have := (List.mem_filter.mp hz).2
  rw [e] at hx
  rw [decide_eq_true hx] at this
  cases this
theorem misG_nodup (h : Mis n r b g l kk one tr W m) : (m.map (·.1) ++ misG W m k).Nodup := by
  refine List.nodup_append.mpr ⟨h.mt.nd, ((List.drop_sublist _ _).trans List.filter_sublist).nodup h.wn, fun x hx y hy e => ?_⟩
  exact (h.guide hy).2.1 (e ▸ hx)
theorem filt_split {α : Type} (p : α → Bool) : ∀ l : List α, (l.filter p).length + (l.filter fun x => !p x).length = l.length
  | [] => rfl
  | x :: l => by
    have := filt_split p l
    cases h : p x with
    | true =>
      rw [List.filter_cons_of_pos h, List.filter_cons_of_neg (by rw [h]; decide), List.length_cons, List.length_cons]
      omega
    | false =>
      rw [List.filter_cons_of_neg (by rw [h]; decide), List.filter_cons_of_pos (by rw [h]; decide), List.length_cons, List.length_cons]
      omega
theorem misG_len (h : Mis n r b g l kk one tr W m) : (misG W m k).length = W.length - m.length - k := by
  unfold misG
  rw [List.length_drop]
  have e := filt_split (fun x => decide (x ∈ m.map (·.1))) W
  have e2 := filter_all h.wn h.mt.nd h.rows
  rw [List.filter_congr fun x _ => has_keys h.mt.nd x] at e2
  omega
theorem mis_len (h : Mis n r b g l kk one tr W m) {f : Int} (hb : (W.length : Int) - m.length ≤ (k : Int) + f) (f0 : 0 ≤ f) : ((misL n [r, b, g, l] kk one tr W m k).length : Int) ≤ (kk.length : Int) + f := by
  have h1 := len_le_of_sub (m := (List.range kk.length).map Int.ofNat) (misF_nodup h) fun x hx => by
    rcases List.mem_append.mp hx with hx | hx
    · obtain ⟨z, hz, rfl⟩ := List.mem_map.mp hx
      obtain ⟨_, s, _, e, _, hs, _⟩ := h.edge hz
      exact List.mem_map.mpr ⟨s, List.mem_range.mpr hs, e.symm⟩
    · obtain ⟨z, hz, rfl⟩ := List.mem_map.mp hx
      obtain ⟨a, e, ha, _⟩ := h.own hz
      exact List.mem_map.mpr ⟨a, List.mem_range.mpr ha, e.symm⟩
  rw [List.length_append, List.length_map, List.length_map, List.length_map, List.length_range] at h1
  unfold misL misA misB misC
  rw [List.length_append, List.length_append, List.length_map, List.length_map, List.length_map, misG_len h]
  have := filter_all h.wn h.mt.nd h.rows
  have := List.length_filter_le (has m) W
  omega
theorem zip_fst {α : Type} (l : List α) (j : Nat) : (l.zipIdx j).map (·.1) = l := List.zipIdx_map_fst j l
theorem zip_at {α : Type} {l : List α} {j : Nat} {z : α × Nat} (h : z ∈ l.zipIdx j) : ∃ i, z.2 = j + i ∧ l[i]? = some z.1 := by
  obtain ⟨x, i⟩ := z
  obtain ⟨h1, h2⟩ := List.mem_zipIdx_iff_le_and_getElem?_sub.mp h
  exact ⟨i - j, (by show i = _; omega), h2⟩
theorem Mis.match_tr (h : Mis n r b g l kk one tr W m) {sp : List (List Int)} (hp : sp.Perm (misL n [r, b, g, l] kk one tr W m k)) :
    ∃ q : MM, Mt (pOf (fitTo n [r, b, g, l] kk tr sp kk.length)) q ∧ q.map (·.1) = m.map (·.2) ++ (misF n [r, b, g, l] kk tr m).map (·.1) ∧ ∀ c ∈ q.map (·.2), c ∈ (List.range sp.length).map Int.ofNat := by
  have := fit_match (n := n) (kk := kk) (at_ := tr) hp ((m.map (·.2) ++ (misF n [r, b, g, l] kk tr m).map (·.1)).zipIdx) (by rw [zip_fst]; exact misF_nodup h) (by rw [List.zipIdx_map_snd]; exact List.nodup_range') fun z hz => by
    obtain ⟨i, e, hi⟩ := zip_at hz
    have e : z.2 = i := by omega
    rw [e]
    by_cases hl : i < m.length
    · rw [List.getElem?_append_left (by rw [List.length_map]; exact hl), List.getElem?_map] at hi
      obtain ⟨y, hy, ey⟩ := Option.map_eq_some_iff.mp hi
      obtain ⟨a, s, e1, e2, h1, h2, d, e', c, h3, h4, ec, h5, h6, h7⟩ := h.edge (List.mem_of_getElem? hy)
      refine ⟨s, ey.symm.trans e2, h2, e', c, h4, ?_, h7⟩
      unfold misL misA
      rw [List.append_assoc, List.getElem?_append_left (by rw [List.length_map]; exact hl), List.getElem?_map, hy]
      exact congrArg some ec
    · rw [List.getElem?_append_right (by rw [List.length_map]; omega), List.length_map, List.getElem?_map] at hi
      obtain ⟨y, hy, ey⟩ := Option.map_eq_some_iff.mp hi
      obtain ⟨a, h1, h2, h3, h4, h5⟩ := h.own (List.mem_of_getElem? hy)
      refine ⟨a, ey.symm.trans h1, h2, y.2, _, h3, ?_, h5⟩
      have hlt := (List.getElem?_eq_some_iff.mp hy).1
      unfold misL misA misB
      rw [List.append_assoc, List.getElem?_append_right (by rw [List.length_map]; omega), List.length_map, List.getElem?_append_left (by rw [List.length_map]; exact hlt), List.getElem?_map, hy]
      rfl
  rw [zip_fst] at this
  exact this
theorem Mis.match_one (h : Mis n r b g l kk one tr W m) {sp : List (List Int)} (hp : sp.Perm (misL n [r, b, g, l] kk one tr W m k)) :
    ∃ q : MM, Mt (pOf (fitTo n [r, b, g, l] kk one sp kk.length)) q ∧ q.map (·.1) = m.map (·.1) ++ misG W m k := by
  have hz2 : ∀ {α β : Type} (l : List α) (l' : List β) (i j : Nat), i + l.length ≤ j → (((l.zipIdx i).map (·.2)) ++ (l'.zipIdx j).map (·.2)).Nodup := fun l l' i j hij => by
    rw [List.zipIdx_map_snd, List.zipIdx_map_snd]
    refine List.nodup_append.mpr ⟨List.nodup_range', List.nodup_range', fun x hx y hy e => ?_⟩
    have a := List.mem_range'_1.mp hx
    have b := List.mem_range'_1.mp hy
    omega
  have := fit_match (n := n) (kk := kk) (at_ := one) hp ((m.map (·.1)).zipIdx ++ (misG W m k).zipIdx (m.length + (misF n [r, b, g, l] kk tr m).length)) (by rw [List.map_append, zip_fst, zip_fst]; exact misG_nodup h)
    (by rw [List.map_append]; exact hz2 _ _ _ _ (by rw [List.length_map]; omega)) fun z hz => by
    rcases List.mem_append.mp hz with hz | hz
    · obtain ⟨i, e, hi⟩ := zip_at hz
      have e : z.2 = i := by omega
      rw [e]
      rw [List.getElem?_map] at hi
      obtain ⟨y, hy, ey⟩ := Option.map_eq_some_iff.mp hi
      have hl := (List.getElem?_eq_some_iff.mp hy).1
      obtain ⟨a, s, e1, e2, h1, h2, d, e', c, h3, h4, ec, h5, h6, h7⟩ := h.edge (List.mem_of_getElem? hy)
      refine ⟨a, ey.symm.trans e1, h1, d, c, h3, ?_, h6⟩
      unfold misL misA
      rw [List.append_assoc, List.getElem?_append_left (by rw [List.length_map]; exact hl), List.getElem?_map, hy]
      exact congrArg some ec
    · obtain ⟨i, e, hi⟩ := zip_at hz
      obtain ⟨_, _, a, d, h1, h2, h3, h4, h5, h6⟩ := h.guide (List.mem_of_getElem? hi)
      refine ⟨a, h1, h2, d, d, h3, ?_, h6⟩
      unfold misL misA misB misC
      rw [List.getElem?_append_right (by rw [List.length_append, List.length_map, List.length_map]; omega), List.length_append, List.length_map, List.length_map, e,
        show m.length + (misF n [r, b, g, l] kk tr m).length + i - (m.length + (misF n [r, b, g, l] kk tr m).length) = i by omega, List.getElem?_map, hi]
      exact congrArg some h4
  rw [List.map_append, zip_fst, zip_fst] at this
  obtain ⟨q, h1, h2, _⟩ := this
  exact ⟨q, h1, h2⟩
/-- none of the sure stars of the true attitude is missing -/
theorem Mis.need (h : Mis n r b g l kk one tr W m) {sp : List (List Int)} (hp : sp.Perm (misL n [r, b, g, l] kk one tr W m k)) {o : MM} (ho : KSt (pOf (fitTo n [r, b, g, l] kk tr sp kk.length)) (sureN n [r, b, g, l] tr kk) o) :
    ((sureN n [r, b, g, l] tr kk).length : Int) - o.length ≤ 0 := by
  obtain ⟨q, hq, e, _⟩ := h.match_tr hp
  have h1 := (kst_best ho (sureN_nodup _ _ _ _)).1 q hq
  have h2 := held_ge (W := sureN n [r, b, g, l] tr kk) hq.nd (sureN_nodup _ _ _ _) fun x hx => ⟨hx, by
    rw [e]
    obtain ⟨z, hz, ez, _⟩ := sure_src hx
    by_cases ht : x ∈ m.map (·.2)
    · exact List.mem_append_left _ ht
    · exact List.mem_append_right _ (List.mem_map.mpr ⟨z, List.mem_filter.mpr ⟨hz, by rw [ez, decide_eq_false ht]; rfl⟩, ez⟩)⟩
  omega
/-- at most so many of the spots are false ones -/
theorem Mis.more (h : Mis n r b g l kk one tr W m) {sp : List (List Int)} (hp : sp.Perm (misL n [r, b, g, l] kk one tr W m k)) {o : MM} (ho : KSt (pOf (swp (fitTo n [r, b, g, l] kk tr sp kk.length))) ((List.range sp.length).map Int.ofNat) o)
    {f : Int} (hb : (W.length : Int) - m.length ≤ (k : Int) + f) (f0 : 0 ≤ f) : (sp.length : Int) - o.length ≤ f := by
  obtain ⟨q, hq, e, hc⟩ := h.match_tr hp
  have hn : ((List.range sp.length).map Int.ofNat).Nodup := by
    rw [List.Nodup, List.pairwise_map]
    exact List.nodup_range.imp fun hab e => hab (Int.ofNat.inj e)
  have hs := mt_swp (P' := pOf (swp (fitTo n [r, b, g, l] kk tr sp kk.length))) hq fun r c hrc => pOf_swp hrc
  have h1 := (kst_best ho hn).1 (swp q) hs
  have h2 := held_ge (W := (List.range sp.length).map Int.ofNat) (X := q.map (·.2)) hs.nd hq.cn fun x hx => ⟨hc x hx, by rw [swp_keys]; exact hx⟩
  have h3 := congrArg List.length e
  rw [List.length_map, List.length_append, List.length_map, List.length_map] at h3
  have h4 := hp.length_eq
  unfold misL misA misB misC at h4
  rw [List.length_append, List.length_append, List.length_map, List.length_map, List.length_map, misG_len h] at h4
  rw [List.length_map] at h2
  omega
/-- as many of the guides as may be are missing -/
theorem Mis.less (h : Mis n r b g l kk one tr W m) {sp : List (List Int)} (hp : sp.Perm (misL n [r, b, g, l] kk one tr W m k)) {o : MM} (ho : KSt (pOf (fitTo n [r, b, g, l] kk one sp kk.length)) W o) :
    (W.length : Int) - o.length ≤ k := by
  obtain ⟨q, hq, e⟩ := h.match_one hp
  have h1 := (kst_best ho h.wn).1 q hq
  have h2 := held_ge (W := W) hq.nd (misG_nodup (k := k) h) fun x hx => ⟨by
    rcases List.mem_append.mp hx with hx | hx
    · obtain ⟨z, hz, rfl⟩ := List.mem_map.mp hx
      exact h.rows _ _ (lk_mem h.mt.nd hz)
    · exact (h.guide hx).1, by rw [e]; exact hx⟩
  rw [List.length_append, List.length_map, misG_len h] at h2
  omega
end
end Sw
namespace Sw
open PySem PySem.Spec PyProof.Rows L2
theorem sub_back {a b : List Int} (ha : a.Nodup) (h : ∀ x ∈ a, x ∈ b) (hl : b.length ≤ a.length) : ∀ x ∈ b, x ∈ a := fun x hx => by
  by_cases hxa : x ∈ a
  · exact hxa
  · have := len_le_of_sub (l := x :: a) (m := b) (List.nodup_cons.mpr ⟨hxa, ha⟩) fun y hy => (List.mem_cons.mp hy).elim (fun e => e ▸ hx) (h y)
    rw [List.length_cons] at this
    omega
/-- `matching` without wanted columns -/
def spMatchE (K : PySem.W.Frag) : Sp := fun vs H Q _ => ∃ (t rl cl : Addr) (tb : Tups) (W : List Int), vs = [.ref t, .ref rl, .ref cl] ∧ TabAt K H t tb ∧ TabOk (keys tb) ∧ SqL K H rl (W.map V.int) ∧ W.Nodup ∧ (∀ r ∈ W, 0 ≤ r ∧ r < (tb.length : Int)) ∧ SqL K H cl [] ∧
  ∀ (H' : Hp) (l : Addr) (ks : Tups) (g : MM), Same H H' → H' l = some (.lst (refs ks)) → TupsAt K H' ks → keys ks = pairs2 g → Mt (tP (keys tb)) g → MaxOn (tP (keys tb)) W g → (∀ r c, lk g r = some c → r ∈ W) → Q (.ref l) H'
def spComSpot (K : PySem.W.Frag) (C : Addr) : Sp := fun vs H Q _ => ∃ (p u v : Addr) (n : Int) (st : List V) (r b g l : Int) (d e : List Int), vs = [.ref p, .ref u, .ref v] ∧ SkyAt K C H p n st [r, b, g, l] ∧ SqT K H u (d.map V.int) ∧ SqT K H v (e.map V.int) ∧ d.length = 3 ∧ e.length = 3 ∧
  ∀ (H' : Hp) (t : Addr), Same H H' → SqT K H' t ((cspot [r, b, g, l] d e).map V.int) → Q (.ref t) H'
/-- some numbers of stars -/
def Nums (ks : Tups) (L : List Int) : Prop := L.length < 60 ∧ ∀ j ∈ L, 0 ≤ j ∧ j < (ks.length : Int)
def spLotOf (K : PySem.W.Frag) (C : Addr) : Sp := fun vs H Q _ => ∃ (p gl : Addr) (n : Int) (ks : Tups) (cam L : List Int), vs = [.ref p, .ref gl] ∧ SkyS K C H p n ks cam ∧ ks.length ≤ 20 ∧ SqL K H gl (L.map V.int) ∧ Nums ks L ∧
  ∀ (H' : Hp) (l : Addr) (N : List Int), Same H H' → H' l = some (.lst (N.map V.int)) → (∀ x, x ∈ N ↔ x ∈ L) → Q (.ref l) H'
def heldN (n : Int) (cam : List Int) (kk : List (List Int)) (one L : List Int) : List Int := (sureN n cam one kk).filter fun x => decide (x ∈ L)
def spLinksG (K : PySem.W.Frag) (C : Addr) : Sp := fun vs H Q _ => ∃ (p gl q r : Addr) (n : Int) (ks : Tups) (cam one tr L : List Int), vs = [.ref p, .ref gl, .ref q, .ref r] ∧ SkyS K C H p n ks cam ∧ isSky n (keys ks) cam = true ∧ SqL K H gl (L.map V.int) ∧ Nums ks L ∧ SqT K H q (one.map V.int) ∧ isPose n one = true ∧ SqT K H r (tr.map V.int) ∧ isPose n tr = true ∧
  ∀ (H' : Hp) (t tt wl : Addr) (tb : Tups), Same H H' → SqT K H' t [.ref tt, .ref wl] → TabAt K H' tt tb → keys tb = tblN n cam (keys ks) one tr → H' wl = some (.lst ((heldN n cam (keys ks) one L).map V.int)) → Q (.ref t) H'
def MisM (n : Int) (cam : List Int) (kk : List (List Int)) (one tr W : List Int) (g : MM) : Prop := Mt (tP (tblN n cam kk one tr)) g ∧ MaxOn (tP (tblN n cam kk one tr)) W g ∧ ∀ r c, lk g r = some c → r ∈ W
def spMisl (K : PySem.W.Frag) (C : Addr) : Sp := fun vs H Q _ => ∃ (p gl q r : Addr) (n mi fa : Int) (ks : Tups) (cam one tr L : List Int), vs = [.ref p, .ref gl, .ref q, .ref r, .int mi, .int fa] ∧ SkyS K C H p n ks cam ∧ isSky n (keys ks) cam = true ∧ SqL K H gl (L.map V.int) ∧ Nums ks L ∧ SqT K H q (one.map V.int) ∧ isPose n one = true ∧ SqT K H r (tr.map V.int) ∧ isPose n tr = true ∧
  0 ≤ mi ∧ mi ≤ 100 ∧ 0 ≤ fa ∧ fa ≤ 100 ∧
  (∀ (H' : Hp) (g : MM), Same H H' → MisM n cam (keys ks) one tr (heldN n cam (keys ks) one L) g → mi + fa < ((heldN n cam (keys ks) one L).length : Int) - g.length → Q .non H') ∧
  ∀ (H' : Hp) (g : MM) (t : Addr) (es : Tups), Same H H' → MisM n cam (keys ks) one tr (heldN n cam (keys ks) one L) g → ((heldN n cam (keys ks) one L).length : Int) - g.length ≤ mi + fa → SqT K H' t (refs es) → TupsAt K H' es →
    (keys es).Perm (misL n cam (keys ks) one tr (heldN n cam (keys ks) one L) g mi.toNat) → AscL (keys es) → Q (.ref t) H'
/-! ### of the law -/
def spIsSpotL (K : PySem.W.Frag) : Sp := fun vs H Q _ => ∃ (t z : Addr) (n : Int) (ks : Tups) (cam s : List Int), vs = [.ref t, .ref z] ∧ PartsAt K H t n ks cam ∧ isCam n cam = true ∧ SqT K H z (s.map V.int) ∧ isSp cam s ∧ ∀ H', Same H H' → Q (.bl true) H'
def spIsSight (K : PySem.W.Frag) : Sp := fun vs H Q _ => ∃ (t z : Addr) (n f : Int) (ks es : Tups) (cam : List Int), vs = [.ref t, .ref z, .int f] ∧ PartsAt K H t n ks cam ∧ isCam n cam = true ∧ SqT K H z (refs es) ∧ TupsAt K H es ∧ (∀ s ∈ keys es, isSp cam s) ∧ AscL (keys es) ∧ es.length ≤ 60 ∧ (es.length : Int) ≤ (ks.length : Int) + f ∧ ∀ H', Same H H' → Q (.bl true) H'
def spNeedL (K : PySem.W.Frag) : Sp := fun vs H Q _ => ∃ (pp pa pt : Addr) (n : Int) (ks ss : Tups) (cam at_ : List Int), vs = [.ref pp, .ref pa, .ref pt] ∧ PartsAt K H pp n ks cam ∧ isSky n (keys ks) cam = true ∧ SqT K H pa (at_.map V.int) ∧ isPose n at_ = true ∧ SqT K H pt (refs ss) ∧ TupsAt K H ss ∧ Spots3 (keys ss) ∧ ss.length ≤ 20 ∧
  ∀ (H' : Hp) (t : Addr) (o1 o2 : MM), Same H H' → KSt (pOf (fitTo n cam (keys ks) at_ (keys ss) (keys ks).length)) (sureN n cam at_ (keys ks)) o1 → KSt (pOf (swp (fitTo n cam (keys ks) at_ (keys ss) (keys ks).length))) ((List.range (keys ss).length).map Int.ofNat) o2 →
    SqT K H' t [.int (((sureN n cam at_ (keys ks)).length : Int) - o1.length), .int (((keys ss).length : Int) - o2.length)] → Q (.ref t) H'
def spLetsL (K : PySem.W.Frag) : Sp := fun vs H Q _ => ∃ (pp pa pt : Addr) (n mi fa : Int) (ks ss : Tups) (cam at_ : List Int), vs = [.ref pp, .ref pa, .ref pt, .int mi, .int fa] ∧ PartsAt K H pp n ks cam ∧ isSky n (keys ks) cam = true ∧ SqT K H pa (at_.map V.int) ∧ isPose n at_ = true ∧ SqT K H pt (refs ss) ∧ TupsAt K H ss ∧ Spots3 (keys ss) ∧ ss.length ≤ 20 ∧
  (∀ o1 : MM, KSt (pOf (fitTo n cam (keys ks) at_ (keys ss) (keys ks).length)) (sureN n cam at_ (keys ks)) o1 → ((sureN n cam at_ (keys ks)).length : Int) - o1.length ≤ mi) ∧
  (∀ o2 : MM, KSt (pOf (swp (fitTo n cam (keys ks) at_ (keys ss) (keys ks).length))) ((List.range (keys ss).length).map Int.ofNat) o2 → ((keys ss).length : Int) - o2.length ≤ fa) ∧
  ∀ (H' : Hp), Same H H' → Q (.bl true) H'
end Sw
namespace Sw
open PySem PySem.Spec PyProof.Rows L2
theorem ty_sqT {K : PySem.W.Frag} {H : Hp} {a : Addr} {xs : List V} (h : SqT K H a xs) : TyX K H (.ref a) (.type "tuple") := by
  rcases h with (h | ⟨o, h⟩) | ⟨o, its, n, e, c, _⟩
  · exact .base (.tup h)
  · exact .fTuple h
  · exact .kTuple e c
end Sw
namespace Sw
open PySem PySem.Spec PyProof.Rows L2
theorem vis3 {r b g l : Int} {d : List Int} (h : Vis r b g l d) : d.length = 3 := by
  match d, h with
  | [_, _, _], _ => rfl
theorem sqT_frz {K : PySem.W.Frag} {H : Hp} {d p : Addr} {od : Obj} {kvs : List (Key × V)} {o : HO} {ys : List V} (hl : H d = some (.frz od (.dK kvs))) (h : SqT K H p ys) : SqT K (upd H d o) p ys := by
  rcases h with (h | ⟨u, h⟩) | h
  · exact .inl (.inl (by rw [upd_ne (fun z => by rw [z, hl] at h; cases h)]; exact h))
  · exact .inl (.inr ⟨u, by rw [upd_ne (fun z => by rw [z, hl] at h; cases h)]; exact h⟩)
  · exact .inr h
theorem sky_dk {K : PySem.W.Frag} {C : Addr} {H : Hp} {p d : Addr} {n : Int} {st : List V} {cam : List Int} {kvs : List (Key × V)} {o : HO} (hl : H d = some (.dK kvs)) (h : SkyAt K C H p n st cam) : SkyAt K C (upd H d o) p n st cam := by
  obtain ⟨dx, ts, tc, h1, h2, h3⟩ := h
  exact ⟨dx, ts, tc, by rw [upd_ne (fun z => by rw [z, hl] at h1; cases h1)]; exact h1, sqT_dk hl h2, sqT_dk hl h3⟩
theorem inV_not (x : Int) (ns : List Int) : (if true then !inV (V.int x) (ns.map V.int) else inV (V.int x) (ns.map V.int)) = !decide (x ∈ ns) := by
  rw [if_pos rfl, inV_ints]
end Sw
namespace Sw
open PySem PySem.Spec PyProof.Rows L2
theorem mis_best {P : Int → List Int} {W : List Int} {g o : MM} (hW : W.Nodup) (hM : Mt P g) (hX : MaxOn P W g) (hr : ∀ r c, lk g r = some c → r ∈ W) (h : KSt P W o) : g.length = o.length := by
  obtain ⟨h1, h2, h3⟩ := kst_best h hW
  have a := h1 g hM
  have b := hX _ h2
  rw [filter_all hW hM.nd hr] at a b
  omega
theorem rNe_bl {a b : Bool} {H : Hp} {Q : VK} (e : a = b) (q : Q (.bl false) H) : rNe (.bl a) (.bl b) H Q := ⟨rfl, by rw [e, decide_eq_true rfl]; exact q⟩
end Sw
set_option Elab.async false
set_option linter.all false
set_option maxRecDepth 100000
set_option maxHeartbeats 4000000
/-! All attitudes of a sky, ascending. -/
namespace Sw
open PySem PySem.Spec PyProof.Rows L2
def attY (x y k : Nat) : List (List Int) := (List.range k).map fun q : Nat => [(x : Int), (y : Int), (q : Int)]
def attX (x j : Nat) : List (List Int) := (List.range j).flatMap fun y : Nat => attY x y 4
def attsI (n i : Nat) : List (List Int) := (List.range i).flatMap fun x : Nat => attX x n
theorem attY_succ (x y k : Nat) : attY x y (k + 1) = attY x y k ++ [[(x : Int), (y : Int), (k : Int)]] := by
  unfold attY
  rw [List.range_succ, List.map_append]
  rfl
theorem attX_succ (x j : Nat) : attX x (j + 1) = attX x j ++ attY x j 4 := by
  unfold attX
  rw [List.range_succ, List.flatMap_append]
  simp
theorem attsI_succ (n i : Nat) : attsI n (i + 1) = attsI n i ++ attX i n := by
  unfold attsI
  rw [List.range_succ, List.flatMap_append]
  simp
def spAtts (K : PySem.W.Frag) (C : Addr) : Sp := fun vs H Q _ => ∃ (p : Addr) (n : Int) (st : List V) (cam : List Int), vs = [.ref p] ∧ SkyAt K C H p n st cam ∧ 0 ≤ n ∧ n ≤ 9 ∧
  ∀ (H' : Hp) (l : Addr) (ks : Tups), Same H H' → H l = none → H' l = some (.lst (refs ks)) → TupsAt K H' ks → keys ks = attsI n.toNat n.toNat → Q (.ref l) H'
end Sw
set_option Elab.async false
set_option linter.all false
/-! Sightings that confuse two attitudes (own work; k26, k23). -/
namespace L2
open PySem PySem.Spec PyProof.Rows
open Sw (Tups refs keys TupsAt dTI dp_tups eqv_ti)
theorem plain_ints : ∀ ns : List Int, PyData.plainAll (ns.map PyData.int) = true
  | [] => rfl
  | n :: ns => by
    show (PyData.plain (.int n) && PyData.plainAll (ns.map PyData.int)) = true
    rw [plain_ints ns]
    rfl
theorem plain_ti (z : List Int) : (dTI z).plain = true := plain_ints z
theorem plain_tis : ∀ kk : List (List Int), PyData.plainAll (kk.map dTI) = true
  | [] => rfl
  | z :: kk => by
    show (PyData.plain (dTI z) && PyData.plainAll (kk.map dTI)) = true
    rw [plain_tis kk, plain_ti]
    rfl
theorem count_tis (kk : List (List Int)) (k : List Int) : ((kk.map dTI).countP fun y => PyData.eqv y (dTI k)) = kk.count k := by
  induction kk with
  | nil => rfl
  | cons q r ih =>
    rw [List.map_cons, List.countP_cons, List.count_cons, ih, eqv_ti]
    congr 1
    by_cases h : q = k
    · rw [decide_eq_true h, h]
      simp
    · rw [decide_eq_false h]
      simp [h]
/-- l.count(t), a list of tuples of integers -/
def rCntT (K : PySem.W.Frag) : V → List V → Hp → VK → Prop := fun x xs H Q => ∃ (a : Addr) (y : V) (ks : Tups) (k : List Int), x = .ref a ∧ xs = [y] ∧ SqL K H a (refs ks) ∧ TupsAt K H ks ∧ Dp K H y (dTI k) ∧ Q (.int ((keys ks).count k : Nat)) H
theorem mt_lcountT {X : Cx} (hu : X.A.units + 65 < cLine) : MtR X "list.count" (rCntT X.K) := by
  intro pins s σ H x xs v us Q I rx rxs h
  obtain ⟨a, y, ks, k, rfl, rfl, hs, ht, hy, q⟩ := h
  cases rx
  obtain ⟨u, rfl, ru⟩ := rxs.one
  obtain ⟨bs, r1⟩ := Dp.reads I (dTI k) y u hy ru
  obtain ⟨its, rv, pl, hz⟩ := I.list hs
  obtain ⟨as, h4⟩ := Dp.readsAll I _ _ its (dp_tups ht) rv
  refine SeqAt.count_list_data pl.isList (show ReadsAll s.heap its.toArray.toList ((keys ks).map dTI) as from h4) r1 (plain_tis _) (plain_ti _) ?_ ⟨.int ((keys ks).count k : Nat), H, I.tok _, ⟨s.toks, by rw [count_tis]⟩, q⟩
  have hd : (dTI k).depth ≤ 1 := by
    show PyData.depthAll (k.map .int) + 1 ≤ 1
    rw [depth_ints k]
    exact Nat.le_refl _
  omega
theorem mt_lcountTN {X : Cx} {K : PySem.W.Frag} (hu : X.A.units + 65 < cLine) (h : X.K = K := by rfl) : MtR X "list.count" (rCntT K) := h ▸ mt_lcountT hu
end L2
namespace Sw
open PySem PySem.Spec PyProof.Rows L2
theorem cam_of {n r b g l : Int} {kk : List (List Int)} (h : isSky n kk [r, b, g, l] = true) : 0 ≤ r ∧ 0 ≤ b ∧ 0 ≤ g ∧ l ≤ 9 ∧ kk.all (isStar n) = true := by
  obtain ⟨_, hs, _, _, hc⟩ := sky_parts h
  obtain ⟨r', b', g', l', e, c⟩ := cam_form hc
  injection e with e1 e
  injection e with e2 e
  injection e with e3 e
  injection e with e4 e
  subst e1 e2 e3 e4
  exact ⟨c.1, c.2.2.1, c.2.2.2.2.1, c.2.2.2.2.2.2.2.1, hs⟩
/-- one side of a sighting -/
theorem side_num {n r b g l : Int} {kk : List (List Int)} {at_ : List Int} {sp L : List (List Int)} (hp : sp.Perm L) (Z : List (Int × Nat)) (h1 : (Z.map (·.1)).Nodup) (h2 : (Z.map (·.2)).Nodup)
    (h3 : ∀ z ∈ Z, ∃ m : Nat, z.1 = (m : Int) ∧ m < kk.length ∧ ∃ d s, sO n [r, b, g, l] at_ kk m = some d ∧ L[z.2]? = some s ∧ fitS b g d s = true) {S : List Int} (hS : S.Nodup) {k : Nat} (hc : S.length ≤ (S.filter fun x => decide (x ∈ Z.map (·.1))).length + k) :
    (∀ o : MM, KSt (pOf (fitTo n [r, b, g, l] kk at_ sp kk.length)) S o → (S.length : Int) - o.length ≤ k) ∧
    ∀ o : MM, KSt (pOf (swp (fitTo n [r, b, g, l] kk at_ sp kk.length))) ((List.range sp.length).map Int.ofNat) o → Z.length ≤ o.length := by
  obtain ⟨q, hq, e, hcols⟩ := fit_match (n := n) (kk := kk) (at_ := at_) hp Z h1 h2 h3
  refine ⟨fun o ho => ?_, fun o ho => ?_⟩
  · have a := (kst_best ho hS).1 q hq
    rw [List.filter_congr fun x _ => has_keys hq.nd x, e] at a
    omega
  · have hn : ((List.range sp.length).map Int.ofNat).Nodup := by
      rw [List.Nodup, List.pairwise_map]
      exact List.nodup_range.imp fun hab e => hab (Int.ofNat.inj e)
    have hs := mt_swp (P' := pOf (swp (fitTo n [r, b, g, l] kk at_ sp kk.length))) hq fun r c hrc => pOf_swp hrc
    have a := (kst_best ho hn).1 (swp q) hs
    have b := held_ge (W := (List.range sp.length).map Int.ofNat) (X := q.map (·.2)) hs.nd hq.cn fun x hx => ⟨hcols x hx, by rw [swp_keys]; exact hx⟩
    have c := congrArg List.length e
    rw [List.length_map, List.length_map] at c
    rw [List.length_map] at b
    omega
/-- what covers a lot but for some -/
theorem cover {S V : List Int} (hS : S.Nodup) {k : Nat} : S.length ≤ (S.filter fun x => decide (x ∈ V ++ (S.filter fun x => !decide (x ∈ V)).drop k)).length + k := by
  have a := filt_split (fun x => decide (x ∈ V)) S
  have h := len_le_of_sub (l := (S.filter fun x => decide (x ∈ V)) ++ (S.filter fun x => !decide (x ∈ V)).drop k) (m := S.filter fun x => decide (x ∈ V ++ (S.filter fun x => !decide (x ∈ V)).drop k)) (by
    refine List.nodup_append.mpr ⟨hS.filter _, ((List.drop_sublist _ _).trans List.filter_sublist).nodup hS, fun x hx y hy e => ?_⟩
    have h1 := of_decide_eq_true (List.mem_filter.mp hx).2
    have h2 := (List.mem_filter.mp (List.mem_of_mem_drop hy)).2
    rw [← e, decide_eq_true h1] at h2
    cases h2) fun x hx => by
    rcases List.mem_append.mp hx with hx | hx
    · obtain ⟨q1, q2⟩ := List.mem_filter.mp hx
      exact List.mem_filter.mpr ⟨q1, decide_eq_true (List.mem_append_left _ (of_decide_eq_true q2))⟩
    · exact List.mem_filter.mpr ⟨(List.mem_filter.mp (List.mem_of_mem_drop hx)).1, decide_eq_true (List.mem_append_right _ hx)⟩
  rw [List.length_append, List.length_drop] at h
  omega
def confL (n : Int) (cam : List Int) (kk : List (List Int)) (one other : List Int) (m : MM) (k1 k2 : Nat) : List (List Int) :=
  misA n cam kk one other m ++ (misG (sureN n cam one kk) m k1).map (dO n cam one kk) ++ (misG (sureN n cam other kk) (swp m) k2).map (dO n cam other kk)
section
variable {n r b g l : Int} {kk : List (List Int)} {one other : List Int} {m : MM} {k : Nat}
theorem own_at {at_ : List Int} {C : MM} (hsky : isSky n kk [r, b, g, l] = true) (hp : isPose n at_ = true) {x : Int} (hx : x ∈ misG (sureN n [r, b, g, l] at_ kk) C k) : x ∉ C.map (·.1) ∧ ∃ a : Nat, ∃ d, x = (a : Int) ∧ a < kk.length ∧ sO n [r, b, g, l] at_ kk a = some d ∧ dO n [r, b, g, l] at_ kk x = d ∧ isSp [r, b, g, l] d ∧ fitS b g d d = true := by
  obtain ⟨r0, b0, g0, l9, hs⟩ := cam_of hsky
  obtain ⟨hW, hn⟩ := List.mem_filter.mp (List.mem_of_mem_drop hx)
  obtain ⟨z, hz, e, hsu⟩ := sure_src hW
  obtain ⟨a, h1, h2, h3⟩ := seen_at hz
  have := sure_spot b0 g0 (sO_vis hp hs h3) hsu
  refine ⟨by simpa using hn, a, z.2, e ▸ h1, h2, h3, ?_, this⟩
  rw [← e, h1]
  exact dO_eq h3
theorem own_nodup {at_ : List Int} {C : MM} (hsky : isSky n kk [r, b, g, l] = true) (hp : isPose n at_ = true) (hn : (C.map (·.1)).Nodup) : (C.map (·.1) ++ misG (sureN n [r, b, g, l] at_ kk) C k).Nodup := by
  refine List.nodup_append.mpr ⟨hn, ((List.drop_sublist _ _).trans List.filter_sublist).nodup (sureN_nodup _ _ _ _), fun x hx y hy e => ?_⟩
  exact (own_at hsky hp hy).1 (e ▸ hx)
structure Conf (n r b g l : Int) (kk : List (List Int)) (one other : List Int) (m : MM) : Prop where
  sky : isSky n kk [r, b, g, l] = true
  p1 : isPose n one = true
  p2 : isPose n other = true
  mt : Mt (tP (tblN n [r, b, g, l] kk one other)) m
theorem Conf.edge (h : Conf n r b g l kk one other m) {z : Int × Int} (hz : z ∈ m) : ∃ a s : Nat, z.1 = (a : Int) ∧ z.2 = (s : Int) ∧ a < kk.length ∧ s < kk.length ∧ ∃ d e c, sO n [r, b, g, l] one kk a = some d ∧ sO n [r, b, g, l] other kk s = some e ∧
    cspot [r, b, g, l] (dO n [r, b, g, l] one kk z.1) (dO n [r, b, g, l] other kk z.2) = c ∧ isSp [r, b, g, l] c ∧ fitS b g d c = true ∧ fitS b g e c = true := by
  obtain ⟨r0, b0, g0, l9, hs⟩ := cam_of h.sky
  obtain ⟨a, s, e1, e2, h1, h2, d, e, h3, h4, h5⟩ := edge_at h.mt hz
  have := cspot_ok b0 g0 r0 l9 (sO_vis h.p1 hs h3) (sO_vis h.p2 hs h4) h5
  refine ⟨a, s, e1, e2, h1, h2, d, e, _, h3, h4, rfl, ?_⟩
  rw [e1, e2, dO_eq h3, dO_eq h4]
  exact this
theorem Conf.spots (h : Conf n r b g l kk one other m) {k1 k2 : Nat} : ∀ s ∈ confL n [r, b, g, l] kk one other m k1 k2, isSp [r, b, g, l] s := fun s hs => by
  rcases List.mem_append.mp hs with hs | hs
  · rcases List.mem_append.mp hs with hs | hs
    · obtain ⟨z, hz, rfl⟩ := List.mem_map.mp hs
      obtain ⟨_, _, _, _, _, _, _, _, _, _, _, rfl, e, _⟩ := h.edge hz
      exact e
    · obtain ⟨x, hx, rfl⟩ := List.mem_map.mp hs
      obtain ⟨_, _, d, _, _, _, e, e2, _⟩ := own_at h.sky h.p1 hx
      rw [e]
      exact e2
  · obtain ⟨x, hx, rfl⟩ := List.mem_map.mp hs
    obtain ⟨_, _, d, _, _, _, e, e2, _⟩ := own_at h.sky h.p2 hx
    rw [e]
    exact e2
theorem zips_nodup {α β : Type} (l : List α) (l' : List β) (i j : Nat) (hij : i + l.length ≤ j) : (((l.zipIdx i).map (·.2)) ++ (l'.zipIdx j).map (·.2)).Nodup := by
  rw [List.zipIdx_map_snd, List.zipIdx_map_snd]
  refine List.nodup_append.mpr ⟨List.nodup_range', List.nodup_range', fun x hx y hy e => ?_⟩
  have a := List.mem_range'_1.mp hx
  have b := List.mem_range'_1.mp hy
  omega
theorem Conf.fst_ (h : Conf n r b g l kk one other m) {k1 k2 : Nat} {sp : List (List Int)} (hp : sp.Perm (confL n [r, b, g, l] kk one other m k1 k2)) :
    (∀ o : MM, KSt (pOf (fitTo n [r, b, g, l] kk one sp kk.length)) (sureN n [r, b, g, l] one kk) o → ((sureN n [r, b, g, l] one kk).length : Int) - o.length ≤ k1) ∧
    ∀ o : MM, KSt (pOf (swp (fitTo n [r, b, g, l] kk one sp kk.length))) ((List.range sp.length).map Int.ofNat) o → m.length + (misG (sureN n [r, b, g, l] one kk) m k1).length ≤ o.length := by
  have hz : ((m.map (·.1)).zipIdx ++ (misG (sureN n [r, b, g, l] one kk) m k1).zipIdx m.length).map (·.1) = m.map (·.1) ++ misG (sureN n [r, b, g, l] one kk) m k1 := by rw [List.map_append, zip_fst, zip_fst]
  have := side_num (n := n) (kk := kk) (at_ := one) hp ((m.map (·.1)).zipIdx ++ (misG (sureN n [r, b, g, l] one kk) m k1).zipIdx m.length) (by rw [hz]; exact own_nodup h.sky h.p1 h.mt.nd)
    (by rw [List.map_append]; exact zips_nodup _ _ _ _ (by rw [List.length_map]; omega)) (fun z hz => by
    rcases List.mem_append.mp hz with hz | hz
    · obtain ⟨i, e, hi⟩ := zip_at hz
      have e : z.2 = i := by omega
      rw [e]
      rw [List.getElem?_map] at hi
      obtain ⟨y, hy, ey⟩ := Option.map_eq_some_iff.mp hi
      have hl := (List.getElem?_eq_some_iff.mp hy).1
      obtain ⟨a, s, e1, e2, h1, h2, d, e', c, h3, h4, ec, h5, h6, h7⟩ := h.edge (List.mem_of_getElem? hy)
      refine ⟨a, ey.symm.trans e1, h1, d, c, h3, ?_, h6⟩
      unfold confL misA
      rw [List.append_assoc, List.getElem?_append_left (by rw [List.length_map]; exact hl), List.getElem?_map, hy]
      exact congrArg some ec
    · obtain ⟨i, e, hi⟩ := zip_at hz
      obtain ⟨_, a, d, h1, h2, h3, h4, h5, h6⟩ := own_at h.sky h.p1 (List.mem_of_getElem? hi)
      have hl := (List.getElem?_eq_some_iff.mp hi).1
      refine ⟨a, h1, h2, d, d, h3, ?_, h6⟩
      unfold confL misA
      rw [List.append_assoc, List.getElem?_append_right (by rw [List.length_map]; omega), List.length_map, e, show m.length + i - m.length = i by omega, List.getElem?_append_left (by rw [List.length_map]; exact hl), List.getElem?_map, hi]
      exact congrArg some h4) (S := sureN n [r, b, g, l] one kk) (sureN_nodup _ _ _ _) (k := k1) (by rw [hz]; exact cover (sureN_nodup _ _ _ _))
  refine ⟨this.1, fun o ho => ?_⟩
  have a := this.2 o ho
  rw [List.length_append, List.length_zipIdx, List.length_zipIdx, List.length_map] at a
  exact a
theorem Conf.snd_ (h : Conf n r b g l kk one other m) {k1 k2 : Nat} {sp : List (List Int)} (hp : sp.Perm (confL n [r, b, g, l] kk one other m k1 k2)) :
    (∀ o : MM, KSt (pOf (fitTo n [r, b, g, l] kk other sp kk.length)) (sureN n [r, b, g, l] other kk) o → ((sureN n [r, b, g, l] other kk).length : Int) - o.length ≤ k2) ∧
    ∀ o : MM, KSt (pOf (swp (fitTo n [r, b, g, l] kk other sp kk.length))) ((List.range sp.length).map Int.ofNat) o → m.length + (misG (sureN n [r, b, g, l] other kk) (swp m) k2).length ≤ o.length := by
  have hsn : ((swp m).map (·.1)).Nodup := by rw [swp_keys]; exact h.mt.cn
  have hsk : m.map (·.2) = (swp m).map (·.1) := (swp_keys m).symm
  have hz : ((m.map (·.2)).zipIdx ++ (misG (sureN n [r, b, g, l] other kk) (swp m) k2).zipIdx (m.length + (misG (sureN n [r, b, g, l] one kk) m k1).length)).map (·.1) = (swp m).map (·.1) ++ misG (sureN n [r, b, g, l] other kk) (swp m) k2 := by rw [List.map_append, zip_fst, zip_fst, hsk]
  have := side_num (n := n) (kk := kk) (at_ := other) hp ((m.map (·.2)).zipIdx ++ (misG (sureN n [r, b, g, l] other kk) (swp m) k2).zipIdx (m.length + (misG (sureN n [r, b, g, l] one kk) m k1).length)) (by rw [hz]; exact own_nodup h.sky h.p2 hsn)
    (by rw [List.map_append]; exact zips_nodup _ _ _ _ (by rw [List.length_map]; omega)) (fun z hz => by
    rcases List.mem_append.mp hz with hz | hz
    · obtain ⟨i, e, hi⟩ := zip_at hz
      have e : z.2 = i := by omega
      rw [e]
      rw [List.getElem?_map] at hi
      obtain ⟨y, hy, ey⟩ := Option.map_eq_some_iff.mp hi
      have hl := (List.getElem?_eq_some_iff.mp hy).1
      obtain ⟨a, s, e1, e2, h1, h2, d, e', c, h3, h4, ec, h5, h6, h7⟩ := h.edge (List.mem_of_getElem? hy)
      refine ⟨s, ey.symm.trans e2, h2, e', c, h4, ?_, h7⟩
      unfold confL misA
      rw [List.append_assoc, List.getElem?_append_left (by rw [List.length_map]; exact hl), List.getElem?_map, hy]
      exact congrArg some ec
    · obtain ⟨i, e, hi⟩ := zip_at hz
      obtain ⟨_, a, d, h1, h2, h3, h4, h5, h6⟩ := own_at h.sky h.p2 (List.mem_of_getElem? hi)
      refine ⟨a, h1, h2, d, d, h3, ?_, h6⟩
      unfold confL misA
      rw [List.getElem?_append_right (by rw [List.length_append, List.length_map, List.length_map]; omega), List.length_append, List.length_map, List.length_map, e,
        show m.length + (misG (sureN n [r, b, g, l] one kk) m k1).length + i - (m.length + (misG (sureN n [r, b, g, l] one kk) m k1).length) = i by omega, List.getElem?_map, hi]
      exact congrArg some h4) (S := sureN n [r, b, g, l] other kk) (sureN_nodup _ _ _ _) (k := k2) (by rw [hz]; exact cover (sureN_nodup _ _ _ _))
  refine ⟨this.1, fun o ho => ?_⟩
  have a := this.2 o ho
  rw [List.length_append, List.length_zipIdx, List.length_zipIdx, List.length_map] at a
  exact a
theorem confL_len (k1 k2 : Nat) : (confL n [r, b, g, l] kk one other m k1 k2).length = m.length + (misG (sureN n [r, b, g, l] one kk) m k1).length + (misG (sureN n [r, b, g, l] other kk) (swp m) k2).length := by
  unfold confL misA
  rw [List.length_append, List.length_append, List.length_map, List.length_map, List.length_map]
theorem misG_len2 {S : List Int} {C : MM} : (misG S C k).length = S.length - (S.filter fun x => decide (x ∈ C.map (·.1))).length - k := by
  unfold misG
  rw [List.length_drop]
  have e := filt_split (fun x => decide (x ∈ C.map (·.1))) S
  omega
theorem Conf.stars (h : Conf n r b g l kk one other m) : m.length + (misG (sureN n [r, b, g, l] one kk) m k).length ≤ kk.length := by
  have h1 := len_le_of_sub (m := (List.range kk.length).map Int.ofNat) (own_nodup (k := k) h.sky h.p1 h.mt.nd) fun x hx => by
    rcases List.mem_append.mp hx with hx | hx
    · obtain ⟨z, hz, rfl⟩ := List.mem_map.mp hx
      obtain ⟨a, _, e, _, ha, _⟩ := h.edge hz
      exact List.mem_map.mpr ⟨a, List.mem_range.mpr ha, e.symm⟩
    · obtain ⟨_, a, _, e, ha, _⟩ := own_at h.sky h.p1 hx
      exact List.mem_map.mpr ⟨a, List.mem_range.mpr ha, e.symm⟩
  rw [List.length_append, List.length_map, List.length_map, List.length_range] at h1
  exact h1
end
end Sw
namespace Sw
open PySem PySem.Spec PyProof.Rows L2
/-- both sides, when the lacks are at most the sum of the bounds -/
theorem conf_nums {n r b g l : Int} {kk : List (List Int)} {one other : List Int} {m o1 o2 : MM} {mi fa : Int} {sp : List (List Int)} (h : Conf n r b g l kk one other m) (hC : CoupI n [r, b, g, l] kk one other m)
    (k1 : KSt (tP (tblN n [r, b, g, l] kk one other)) (sureN n [r, b, g, l] one kk) o1) (k2 : KSt (tP (tblN n [r, b, g, l] kk other one)) (sureN n [r, b, g, l] other kk) o2)
    (x1 : ((sureN n [r, b, g, l] one kk).length : Int) - o1.length ≤ mi + fa) (x2 : ((sureN n [r, b, g, l] other kk).length : Int) - o2.length ≤ mi + fa) (m0 : 0 ≤ mi) (f0 : 0 ≤ fa)
    (hp : sp.Perm (confL n [r, b, g, l] kk one other m mi.toNat mi.toNat)) :
    ((∀ o : MM, KSt (pOf (fitTo n [r, b, g, l] kk one sp kk.length)) (sureN n [r, b, g, l] one kk) o → ((sureN n [r, b, g, l] one kk).length : Int) - o.length ≤ mi) ∧
      ∀ o : MM, KSt (pOf (swp (fitTo n [r, b, g, l] kk one sp kk.length))) ((List.range sp.length).map Int.ofNat) o → (sp.length : Int) - o.length ≤ fa) ∧
    ((∀ o : MM, KSt (pOf (fitTo n [r, b, g, l] kk other sp kk.length)) (sureN n [r, b, g, l] other kk) o → ((sureN n [r, b, g, l] other kk).length : Int) - o.length ≤ mi) ∧
      ∀ o : MM, KSt (pOf (swp (fitTo n [r, b, g, l] kk other sp kk.length))) ((List.range sp.length).map Int.ofNat) o → (sp.length : Int) - o.length ≤ fa) ∧
    (sp.length : Int) ≤ (kk.length : Int) + fa := by
  have hl := hp.length_eq.trans (confL_len _ _)
  have c1 := coup_one hC k1
  have c2 := coup_two hC k2
  rw [List.filter_congr fun x _ => has_keys h.mt.nd x] at c1
  rw [List.filter_congr fun x _ => has_keys (show ((swp m).map (·.1)).Nodup by rw [swp_keys]; exact h.mt.cn) x] at c2
  have g1 := misG_len2 (k := mi.toNat) (S := sureN n [r, b, g, l] one kk) (C := m)
  have g2 := misG_len2 (k := mi.toNat) (S := sureN n [r, b, g, l] other kk) (C := swp m)
  have hs := h.stars (k := mi.toNat)
  obtain ⟨a1, a2⟩ := h.fst_ hp
  obtain ⟨b1, b2⟩ := h.snd_ hp
  refine ⟨⟨fun o ho => ?_, fun o ho => ?_⟩, ⟨fun o ho => ?_, fun o ho => ?_⟩, ?_⟩
  · have := a1 o ho
    omega
  · have := a2 o ho
    omega
  · have := b1 o ho
    omega
  · have := b2 o ho
    omega
  · omega
noncomputable def lackW (P : Int → List Int) (W : List Int) : Int := @dite Int (∃ x, LackIs P W x) (Classical.propDecidable _) (fun h => Classical.choose h) fun _ => 0
theorem lackW_eq {P : Int → List Int} {W : List Int} {x : Int} (h : LackIs P W x) : lackW P W = x := by
  have he : ∃ x, LackIs P W x := ⟨x, h⟩
  unfold lackW
  rw [dif_pos he]
  exact lackIs_uniq (Classical.choose_spec he) h
theorem kst_lackIs {P : Int → List Int} {W : List Int} {o : MM} (h : KSt P W o) (hW : W.Nodup) : LackIs P W ((W.length : Int) - o.length) := kst_lack h hW
/-- how unlike two attitudes are -/
noncomputable def unlW (n : Int) (cam : List Int) (kk : List (List Int)) (one other : List Int) : Int := max (lackW (tP (tblN n cam kk one other)) (sureN n cam one kk)) (lackW (tP (tblN n cam kk other one)) (sureN n cam other kk))
theorem unlW_eq {n : Int} {cam : List Int} {kk : List (List Int)} {one other : List Int} {x y : Int} (hx : LackIs (tP (tblN n cam kk one other)) (sureN n cam one kk) x) (hy : LackIs (tP (tblN n cam kk other one)) (sureN n cam other kk) y) : unlW n cam kk one other = max x y := by
  unfold unlW
  rw [lackW_eq hx, lackW_eq hy]
def spOwn (K : PySem.W.Frag) (C : Addr) : Sp := fun vs H Q _ => ∃ (p d cl : Addr) (n k : Int) (ks : Tups) (cam at_ L : List Int) (zs : Shown), vs = [.ref p, .ref d, .ref cl, .int k] ∧ SkyS K C H p n ks cam ∧ isSky n (keys ks) cam = true ∧ isPose n at_ = true ∧ ShD K H d n cam at_ (keys ks) zs ∧ SqL K H cl (L.map V.int) ∧ 0 ≤ k ∧
  ∀ (H' : Hp) (l : Addr) (es : Tups), Same H H' → H' l = some (.lst (refs es)) → TupsAt K H' es → keys es = (((sureN n cam at_ (keys ks)).filter fun x => !decide (x ∈ L)).drop k.toNat).map (dO n cam at_ (keys ks)) → Q (.ref l) H'
def spComSight (K : PySem.W.Frag) (C : Addr) : Sp := fun vs H Q _ => ∃ (p q r : Addr) (n k1 k2 : Int) (ks : Tups) (cam one other : List Int), vs = [.ref p, .ref q, .ref r, .int k1, .int k2] ∧ SkyS K C H p n ks cam ∧ isSky n (keys ks) cam = true ∧ SqT K H q (one.map V.int) ∧ isPose n one = true ∧ SqT K H r (other.map V.int) ∧ isPose n other = true ∧ 0 ≤ k1 ∧ 0 ≤ k2 ∧
  ∀ (H' : Hp) (g : MM) (t : Addr) (es : Tups), Same H H' → CoupI n cam (keys ks) one other g → SqT K H' t (refs es) → TupsAt K H' es → (keys es).Perm (confL n cam (keys ks) one other g k1.toNat k2.toNat) → AscL (keys es) → Q (.ref t) H'
def spConfusable (K : PySem.W.Frag) (C D : Addr) : Sp := fun vs H Q E => ∃ (p q r : Addr) (n mi fa : Int) (ks : Tups) (cam one other : List Int), vs = [.ref p, .ref q, .ref r, .int mi, .int fa] ∧ SkyS K C H p n ks cam ∧ isSky n (keys ks) cam = true ∧ SqT K H q (one.map V.int) ∧ SqT K H r (other.map V.int) ∧
  (isPose n one = true → isPose n other = true → ∀ H' : Hp, Same H H' → Q (.bl (decide (unlW n cam (keys ks) one other ≤ mi + fa))) H') ∧ twoErr D E H q r n one other
def spConfSight (K : PySem.W.Frag) (C D : Addr) : Sp := fun vs H Q E => ∃ (p q r : Addr) (n mi fa : Int) (ks : Tups) (cam one other : List Int), vs = [.ref p, .ref q, .ref r, .int mi, .int fa] ∧ SkyS K C H p n ks cam ∧ isSky n (keys ks) cam = true ∧ SqT K H q (one.map V.int) ∧ SqT K H r (other.map V.int) ∧ 0 ≤ mi ∧
  (isPose n one = true → isPose n other = true → (mi + fa < unlW n cam (keys ks) one other → ∀ H' : Hp, Same H H' → Q .non H') ∧
    (unlW n cam (keys ks) one other ≤ mi + fa → ∀ (H' : Hp) (g : MM) (t : Addr) (es : Tups), Same H H' → CoupI n cam (keys ks) one other g → SqT K H' t (refs es) → TupsAt K H' es → (keys es).Perm (confL n cam (keys ks) one other g mi.toNat mi.toNat) → AscL (keys es) → Q (.ref t) H')) ∧ twoErr D E H q r n one other
noncomputable def nearTo (n : Int) (cam : List Int) (kk : List (List Int)) (one : List Int) (m : Int) : List (List Int) := (attsI n.toNat n.toNat).filter fun o => decide (unlW n cam kk one o ≤ m)
def spConfWith (K : PySem.W.Frag) (C D : Addr) : Sp := fun vs H Q E => ∃ (p q : Addr) (n mi fa : Int) (ks : Tups) (cam one : List Int), vs = [.ref p, .ref q, .int mi, .int fa] ∧ SkyS K C H p n ks cam ∧ isSky n (keys ks) cam = true ∧ SqT K H q (one.map V.int) ∧
  (isPose n one = true → ∀ (H' : Hp) (l : Addr) (es : Tups), Same H H' → H' l = some (.lst (refs es)) → TupsAt K H' es → keys es = nearTo n cam (keys ks) one (mi + fa) → Q (.ref l) H') ∧
  (isPose n one = false → ∀ (d : Addr) (H' : Hp), Same H H' → H' d = some (.xd [("attitude", .ref q)]) → E (.ref D) (some d) H')
/-! ### of the law -/
def spLackL (K : PySem.W.Frag) : Sp := fun vs H Q _ => ∃ (t q r : Addr) (n : Int) (ks : Tups) (cam one other : List Int), vs = [.ref t, .ref q, .ref r] ∧ PartsAt K H t n ks cam ∧ isSky n (keys ks) cam = true ∧ SqT K H q (one.map V.int) ∧ isPose n one = true ∧ SqT K H r (other.map V.int) ∧ isPose n other = true ∧
  ∀ (H' : Hp) (o : MM), Same H H' → KSt (tP (tblN n cam (keys ks) one other)) (sureN n cam one (keys ks)) o → Q (.int (((sureN n cam one (keys ks)).length : Int) - o.length)) H'
def spUnlL (K : PySem.W.Frag) : Sp := fun vs H Q _ => ∃ (t q r : Addr) (n : Int) (ks : Tups) (cam one other : List Int), vs = [.ref t, .ref q, .ref r] ∧ PartsAt K H t n ks cam ∧ isSky n (keys ks) cam = true ∧ SqT K H q (one.map V.int) ∧ isPose n one = true ∧ SqT K H r (other.map V.int) ∧ isPose n other = true ∧
  ∀ (H' : Hp) (o1 o2 : MM), Same H H' → KSt (tP (tblN n cam (keys ks) one other)) (sureN n cam one (keys ks)) o1 → KSt (tP (tblN n cam (keys ks) other one)) (sureN n cam other (keys ks)) o2 → Q (.int (unlW n cam (keys ks) one other)) H'
def spIsAttL (K : PySem.W.Frag) : Sp := fun vs H Q _ => ∃ (z : Addr) (n : Int) (at_ : List Int), vs = [.int n, .ref z] ∧ SqT K H z (at_.map V.int) ∧ isPose n at_ = true ∧ ∀ H', Same H H' → Q (.bl true) H'
end Sw
namespace L2
open PySem PySem.Spec PyProof.Rows
theorem cr_maxTupK {X : Cx} {K : PySem.W.Frag} (hc : X.calm = true) (hu : X.A.units + 1 < cLine) (h : X.K = K := by rfl) : CallR X (.builtin "max") (rMaxTup K) := h ▸ cr_maxTup hc hu
end L2
namespace Sw
open PySem PySem.Spec PyProof.Rows L2
theorem ltI_asymm : ∀ a b : List Int, ltI a b = true → ltI b a = false
  | [], [], h => by cases h
  | [], _ :: _, _ => rfl
  | _ :: _, [], h => by cases h
  | x :: r, y :: q, h => by
    have h' : (decide (x < y) || (decide (x = y) && ltI r q)) = true := h
    show (decide (y < x) || (decide (y = x) && ltI q r)) = false
    rw [Bool.or_eq_true, Bool.and_eq_true, decide_eq_true_iff, decide_eq_true_iff] at h'
    rcases h' with h' | ⟨h1, h2⟩
    · rw [decide_eq_false (by omega), decide_eq_false (show ¬ y = x by omega)]
      rfl
    · rw [decide_eq_false (by omega), ltI_asymm r q h2, Bool.and_false]
      rfl
theorem lt3_iff {a b c a' b' c' : Int} : ltI [a, b, c] [a', b', c'] = true ↔ a < a' ∨ (a = a' ∧ (b < b' ∨ (b = b' ∧ c < c'))) := by
  show (decide (a < a') || (decide (a = a') && (decide (b < b') || (decide (b = b') && (decide (c < c') || (decide (c = c') && false)))))) = true ↔ _
  simp only [Bool.or_eq_true, Bool.and_eq_true, decide_eq_true_eq, Bool.and_false, Bool.or_false]
theorem attX_mem {x j : Nat} {o : List Int} : o ∈ attX x j ↔ ∃ y q : Nat, y < j ∧ q < 4 ∧ o = [(x : Int), (y : Int), (q : Int)] := by
  unfold attX attY
  rw [List.mem_flatMap]
  constructor
  · rintro ⟨y, hy, h⟩
    obtain ⟨q, hq, rfl⟩ := List.mem_map.mp h
    exact ⟨y, q, List.mem_range.mp hy, List.mem_range.mp hq, rfl⟩
  · rintro ⟨y, q, hy, hq, rfl⟩
    exact ⟨y, List.mem_range.mpr hy, List.mem_map.mpr ⟨q, List.mem_range.mpr hq, rfl⟩⟩
theorem atts_mem {n i : Nat} {o : List Int} : o ∈ attsI n i ↔ ∃ x y q : Nat, x < i ∧ y < n ∧ q < 4 ∧ o = [(x : Int), (y : Int), (q : Int)] := by
  unfold attsI
  rw [List.mem_flatMap]
  constructor
  · rintro ⟨x, hx, h⟩
    obtain ⟨y, q, hy, hq, e⟩ := attX_mem.mp h
    exact ⟨x, y, q, List.mem_range.mp hx, hy, hq, e⟩
  · rintro ⟨x, y, q, hx, hy, hq, e⟩
    exact ⟨x, List.mem_range.mpr hx, attX_mem.mpr ⟨y, q, hy, hq, e⟩⟩
theorem atts_pose {n : Int} {o : List Int} (h0 : 0 ≤ n) : o ∈ attsI n.toNat n.toNat ↔ isPose n o = true := by
  rw [atts_mem]
  constructor
  · rintro ⟨x, y, q, hx, hy, hq, rfl⟩
    exact decide_eq_true (by omega)
  · intro h
    obtain ⟨x, y, q, rfl, h1, h2, h3, h4, h5, h6⟩ := pose_form h
    obtain ⟨x', rfl⟩ := Int.eq_ofNat_of_zero_le h1
    obtain ⟨y', rfl⟩ := Int.eq_ofNat_of_zero_le h3
    obtain ⟨q', rfl⟩ := Int.eq_ofNat_of_zero_le h5
    exact ⟨x', y', q', by omega, by omega, by omega, rfl⟩
theorem atts_lt (n i : Nat) : (attsI n i).Pairwise fun a b => ltI a b = true := by
  unfold attsI
  rw [List.pairwise_flatMap]
  refine ⟨fun x _ => ?_, List.pairwise_lt_range.imp fun {a b} h u hu v hv => ?_⟩
  · unfold attX
    rw [List.pairwise_flatMap]
    refine ⟨fun y _ => ?_, List.pairwise_lt_range.imp fun {a b} h u hu v hv => ?_⟩
    · unfold attY
      rw [List.pairwise_map]
      exact List.pairwise_lt_range.imp fun {a b} h => lt3_iff.mpr (by omega)
    · unfold attY at hu hv
      obtain ⟨q, _, rfl⟩ := List.mem_map.mp hu
      obtain ⟨q', _, rfl⟩ := List.mem_map.mp hv
      exact lt3_iff.mpr (by omega)
  · obtain ⟨y, q, _, _, rfl⟩ := attX_mem.mp hu
    obtain ⟨y', q', _, _, rfl⟩ := attX_mem.mp hv
    exact lt3_iff.mpr (by omega)
theorem attsI_len (n : Nat) : ∀ i, (attsI n i).length = 4 * n * i
  | 0 => rfl
  | i + 1 => by
    have hx : ∀ x j, (attX x j).length = 4 * j := fun x j => by
      induction j with
      | zero => rfl
      | succ j ih =>
        rw [attX_succ, List.length_append, ih]
        unfold attY
        rw [List.length_map, List.length_range]
        omega
    rw [attsI_succ, List.length_append, attsI_len n i, hx, Nat.mul_add, Nat.mul_one]
theorem atts_nodup (n i : Nat) : (attsI n i).Nodup := (atts_lt n i).imp fun {a b} h e => by
  have := ltI_asymm a b h
  rw [e] at this h
  rw [h] at this
  cases this
theorem near_asc {n : Int} {cam : List Int} {kk : List (List Int)} {one : List Int} {m : Int} : AscL (nearTo n cam kk one m) :=
  ((atts_lt n.toNat n.toNat).imp fun {a b} h => ltI_asymm a b h).sublist List.filter_sublist
theorem near_count {n : Int} {cam : List Int} {kk : List (List Int)} {one o : List Int} {m : Int} (h0 : 0 ≤ n) (hp : isPose n o = true) : (nearTo n cam kk one m).count o = if unlW n cam kk one o ≤ m then 1 else 0 := by
  have hn : (nearTo n cam kk one m).Nodup := (atts_nodup _ _).sublist List.filter_sublist
  by_cases h : unlW n cam kk one o ≤ m
  · rw [if_pos h]
    have hm : o ∈ nearTo n cam kk one m := List.mem_filter.mpr ⟨(atts_pose h0).mpr hp, decide_eq_true h⟩
    have a := List.nodup_iff_count.mp hn o
    have b := List.count_pos_iff.mpr hm
    omega
  · rw [if_neg h]
    exact List.count_eq_zero.mpr fun hm => h (of_decide_eq_true (List.mem_filter.mp hm).2)
theorem near_pose {n : Int} {cam : List Int} {kk : List (List Int)} {one o : List Int} {m : Int} (h0 : 0 ≤ n) (h : o ∈ nearTo n cam kk one m) : isPose n o = true := (atts_pose h0).mp (List.mem_filter.mp h).1
theorem near_len {n : Int} {cam : List Int} {kk : List (List Int)} {one : List Int} {m : Int} (h9 : n ≤ 9) : (nearTo n cam kk one m).length ≤ 400 := by
  have := List.length_filter_le (fun o => decide (unlW n cam kk one o ≤ m)) (attsI n.toNat n.toNat)
  rw [attsI_len] at this
  have h : 4 * n.toNat * n.toNat ≤ 4 * 9 * 9 := Nat.mul_le_mul (by omega) (by omega)
  unfold nearTo
  omega
end Sw
namespace Sw
open PySem PySem.Spec PyProof.Rows L2
theorem unl_self {n : Int} {cam : List Int} {kk : List (List Int)} {one : List Int} (hsky : isSky n kk cam = true) (hp : isPose n one = true) : unlW n cam kk one one = 0 := by
  have h0 : LackIs (tP (tblN n cam kk one one)) (sureN n cam one kk) 0 := by
    refine ⟨⟨[], List.nil_sublist _, lackI_nil _⟩, fun M hM y hy => self_le hsky hp hM hy⟩
  rw [unlW_eq h0 h0]
  rfl
end Sw
set_option Elab.async false
set_option linter.all false
set_option maxRecDepth 100000
set_option maxHeartbeats 4000000
/-! Errors that are held as values. -/
namespace Sw
open PySem PySem.Spec PyProof.Rows L2
def ErrV (H : Hp) (e C : Addr) : Prop := H e = some (ExO (.ref C) e) ∨ ∃ (d : Addr) (f : Str) (v : V), H e = some (exo e C (some d)) ∧ H d = some (.xd [(f, v)])
def ErrF (H : Hp) (e C : Addr) (f : Str) (v : V) : Prop := ∃ d : Addr, H e = some (exo e C (some d)) ∧ H d = some (.xd [(f, v)])
theorem errV_up {H H' : Hp} {e C : Addr} (s : Same H H') (h : ErrV H e C) : ErrV H' e C := by
  rcases h with h | ⟨d, f, v, h1, h2⟩
  · exact .inl (s _ _ h)
  · exact .inr ⟨d, f, v, s _ _ h1, s _ _ h2⟩
theorem errF_up {H H' : Hp} {e C : Addr} {f : Str} {v : V} (s : Same H H') (h : ErrF H e C f v) : ErrF H' e C f v := by
  obtain ⟨d, h1, h2⟩ := h
  exact ⟨d, s _ _ h1, s _ _ h2⟩
theorem ErrF.v {H : Hp} {e C : Addr} {f : Str} {v : V} (h : ErrF H e C f v) : ErrV H e C := by
  obtain ⟨d, h1, h2⟩ := h
  exact .inr ⟨d, f, v, h1, h2⟩
structure ErrC (K : PySem.W.Frag) (C : Addr) : Prop where
  x : ExcC K C
  i : PySem.W.isClsIn K C = true
def rIsV (K : PySem.W.Frag) : List V → Hp → VK → Prop := fun xs H Q => ∃ (e C : Addr) (c : V) (cv : Value) (b : Bool), xs = [.ref e, c] ∧ ErrV H e C ∧ ErrC K C ∧ ClsV c cv ∧ PySem.W.kitOne K (.ref C) cv = some b ∧ Q (.bl b) H
theorem call_isV {X : Cx} : CallR X (.builtin "isinstance") (rIsV X.K) := by
  intro pins s σ H xs us Q I hv ⟨e, C, c, cv, b, ex, he, hC, hcv, hk, q⟩
  subst ex
  cases hv with
  | cons r1 r2 =>
    cases r2 with
    | cons r2 r3 =>
      cases r3
      rename_i u1 u2
      obtain rfl : u1 = Value.ref e := r1
      obtain rfl : u2 = cv := by
        cases hcv
        · exact r2
        · exact r2
      obtain ⟨oe, od, J⟩ : ∃ oe od, PySem.W.InstAt s.heap e oe C od := by
        rcases he with h | ⟨d, f, v, h1, h2⟩
        · have z : ObjOk X.prog X.w H s.heap e (ExO (.ref C) e) := I.hok e _ h
          obtain ⟨⟨oe, vs, g1, g2, g3, _⟩, _⟩ := z
          refine ⟨oe, none, g1, g2.1, ?_, ?_⟩
          · unfold PySem.W.notCls
            rw [g3] <;> rfl
          · rw [g2.2]
            trivial
        · have z : ObjOk X.prog X.w H s.heap e (exo e C (some d)) := I.hok e _ h1
          obtain ⟨⟨t1, g1⟩, _⟩ := z
          have y : ObjOk X.prog X.w H s.heap d (.xd [(f, v)]) := I.hok d _ h2
          obtain ⟨mA, hns, hr⟩ := y
          obtain ⟨od, ho, hl⟩ := lookIn_ns hns
          exact ⟨_, some od, g1, rfl, rfl, ho⟩
      refine PySem.W.kia_one (PySem.W.kitx_exc (ox := oe) (od := od) (gt := none) hC.i hC.x.hg hC.x.hk hC.x.hs hC.x.ha hC.x.hn hC.x.ht hC.x.hm) I.kIn J hk (by intro z; cases z) fun tk => ?_
      exact ⟨.bl b, H, I.tok _, rfl, q⟩
/-! making them -/
def nErr (C : Addr) (H : Hp) (Q : VK) : Prop := ∀ (e : Addr) (H2 : Hp), Same H H2 → ErrV H2 e C → Q (.ref e) H2
def tErr1 (C : Addr) (te : TE) : TE := fun σ H Q => te σ H fun _ H1 => nErr C H1 Q
def tMore (te : TE) : TE := fun σ H Q => ∃ Q0 : VK, te σ H Q0 ∧ ∀ x H1, Q0 x H1 → Q x H1
theorem pe_more {X : Cx} {e : Expr} {te : TE} (he : PE X e te) : PE X e (tMore te) :=
  ⟨fun pins s σ H _ I ⟨Q0, h, q⟩ => thn (he.run pins s σ H Q0 I h) fun _ _ ⟨v, H1, I1, r, h1⟩ => ⟨v, H1, I1, r, q _ _ h1⟩⟩
theorem pe_err1 {X : Cx} {C : Addr} {xn : Str} {e : Expr} {te : TE} {p pos : Pos} (T : PlainErr X.K X.mg xn C) (he : PE X e te) (hg : Gl X xn := by rfl)
    (hs : starEach [e] X.env = (false, eval e X.env) :: starEach [] X.env := by rfl) (hdb : (xn == ("__debug__" : Str)) = false := by decide) :
    PE X (.Call (.Name xn p) [e] [] pos) (tErr1 C te) := by
  refine ⟨fun pins s σ H Q I h => ?_⟩
  exact (pe_exc1 PySem.F.excBase_ValueError T.x T.g T.k hg (pe_more he) hs hdb).run pins s σ H Q I ⟨_, h, fun x H1 q e n => q e _ (same_new n) (.inl upd_same)⟩
def tErrS (C : Addr) (fld : Str) (ta : TA) : TE := fun σ H Q => ta σ H fun vs H1 => ∃ v, vs = [v] ∧ ∀ (e : Addr) (H2 : Hp), Same H1 H2 → ErrF H2 e C fld v → Q (.ref e) H2
section
variable {X : Cx} {C fI : Addr} {xn fld : Str}
theorem pe_errS {a : Expr} {ta : TA} {p pos : Pos} {k : Nat} (T : PySem.SwX.SErr X.prog X.K X.mg xn fld C fI) (hr : Room k X.A) (ha : PA X [a] ta) (hg : Gl X xn := by rfl) (hdb : (xn == ("__debug__" : Str)) = false := by decide)
    (he : starEach (a :: []) X.env = (false, eval a X.env) :: starEach [] X.env := by rfl) (hpl : (backTo pos (starEach [] X.env)).any (·.1) = false := by rfl) :
    PE X (.Call (.Name xn p) [a] [] pos) (tErrS C fld ta) := by
  refine ⟨fun pins s σ H Q I h => ?_⟩
  refine wpAny_Call_Name_kw (ld_glob I hg T.gC ?_ hdb)
  refine PySem.W.callWith_K (h₀ := X.base) I.ok.mod.kin T.kC (thn (ha.run pos pins s σ H _ I h) fun us s1 hh => ?_) he hpl
  obtain ⟨vs, H1, I1, r1, v, ev, q1⟩ := hh
  subst ev
  refine ⟨I1.kIn, ?_⟩
  cases r1 with
  | cons rv rn =>
    rename_i v' us'
    cases rn
    show wpAny _ _ (call (.ref C) [v']) _ _ _
    have hlim := I1.nolimit
    obtain ⟨mb, hb1, hb2⟩ := I1.mod.blt
    have hgl := I1.mod.glob.keeps I1.bk
    have hbl := hb1.keeps I1.bk
    have hkin := I1.kIn
    obtain ⟨hp, g, dr, tk, os⟩ := s1
    refine wpAny_call (PySem.SwX.sup_made T hkin hlim hgl hbl (hb2 _ (by decide)) (by have := hr.dp; omega) fun h' tk' e d M => ?_)
    obtain ⟨t1, hoe⟩ := M.obj
    have hns := M.ns
    obtain ⟨G', g1, g2⟩ := restrict h' fun b => decide (b ≠ e)
    have gk : ∀ b, b ≠ e → G'.get? b = h'.get? b := fun b hb => g1 b (decide_eq_true hb)
    have ge : G'.get? e = none := g2 e (by simp)
    have old : ∀ b o, hp.get? b = some o → G'.get? b = some o := fun b o q => (gk b (Nat.ne_of_lt (Nat.lt_of_lt_of_le (Heap.lt_size q) M.new))).trans (M.keep b o q)
    have ob : ObjOk X.prog X.w (upd H1 d (.xd [(fld, v)])) G' d (.xd [(fld, v)]) :=
      ⟨_, hns.at (fun o q => (gk d M.dne).trans q), fun f => relO_one rv⟩
    have J : Inv X pins σ (upd H1 d (.xd [(fld, v)])) ⟨G', g, dr, tk', os⟩ := I1.laid (t' := tk') old M.dbig ob
    have fe : upd H1 d (.xd [(fld, v)]) e = none := by
      rw [upd_ne (Ne.symm M.dne)]
      exact I1.hok.fresh M.new
    have fd : H1 d = none := I1.hok.fresh M.dbig
    have J2 : Inv X pins σ (upd (upd H1 d (.xd [(fld, v)])) e (exo e C (some d))) ⟨h', g, dr, tk', os⟩ := by
      refine J.laidN (t' := tk') (fun b o q => ?_) ge fe ⟨⟨t1, hoe⟩, ⟨_, hoe⟩, ?_⟩
      · by_cases hb : b = e
        · have q' : G'.get? b = some o := q
          rw [hb, ge] at q'
          cases q'
        · exact (gk b hb).symm.trans q
      · rintro h1 h2 ⟨t2, z⟩ hz
        exact ⟨t2, hz _ z⟩
    refine ⟨.ref e, _, J2, rfl, q1 e _ ((same_new fd).trans (same_new fe)) ⟨d, upd_same, ?_⟩⟩
    rw [upd_ne M.dne]
    exact upd_same
/-- e.fld of such an error -/
def tErrGet (C : Addr) (fld : Str) (te : TE) : TE := fun σ H Q => te σ H fun x H1 => ∃ (e : Addr) (v : V), x = .ref e ∧ ErrF H1 e C fld v ∧ Q v H1
theorem pe_errGet {e : Expr} {te : TE} {pos : Pos} (T : PySem.SwX.SErr X.prog X.K X.mg xn fld C fI) (he : PE X e te)
    (hb : attributeBase e fld X.env (eval e X.env) = eval e X.env := by rfl) :
    PE X (.Attribute e fld pos) (tErrGet C fld te) := by
  refine ⟨fun pins s σ H Q I h => ?_⟩
  refine attr_of hb (thn (he.run pins s σ H _ I h) fun u s1 hh => ?_)
  obtain ⟨x, H1, I1, rx, b, v, ex, ⟨dd, h1, h2⟩, q⟩ := hh
  subst ex
  obtain rfl : u = Value.ref b := rx
  have z : ObjOk X.prog X.w H1 s1.heap b (exo b C (some dd)) := I1.hok b _ h1
  obtain ⟨⟨t1, g1⟩, _⟩ := z
  have hx : ObjOk X.prog X.w H1 s1.heap dd (.xd [(fld, v)]) := I1.hok dd _ h2
  obtain ⟨mA, hns, hr⟩ := hx
  obtain ⟨od, ho, hl⟩ := lookIn_ns hns
  have l : List.lookup fld [(fld, v)] = some v := by simp [List.lookup]
  obtain ⟨u, hu, ru⟩ := RelO.some_of (v := v) (o := mA fld) (by rw [← l]; exact hr fld)
  have J : PySem.W.InstAt s1.heap b _ C (some od) := ⟨g1, rfl, rfl, ho⟩
  exact HandSPX.exc_get I1.kIn J T.ga T.gg T.exC (PySem.W.findObj_own T.hdC T.noF rfl (by rw [hl, hu])) (handed_of ru) ⟨v, H1, I1.tok _, ru, q⟩
end
/-! of what kinds -/
def kindsB (K : PySem.W.Frag) (cs : List Addr) : Bool := cs.all fun C => cs.all fun D => PySem.W.kitOne K (.ref C) (.ref D) == some (decide (C = D))
def underB (K : PySem.W.Frag) (cs : List Addr) (S : Addr) : Bool := cs.all fun C => PySem.W.kitOne K (.ref C) (.ref S) == some true && PySem.W.kitOne K (.ref C) (.type "ValueError") == some true
theorem kinds_at {K : PySem.W.Frag} {cs : List Addr} (h : kindsB K cs = true) {C D : Addr} (hC : C ∈ cs) (hD : D ∈ cs) : PySem.W.kitOne K (.ref C) (.ref D) = some (decide (C = D)) := by
  have z := List.all_eq_true.mp (List.all_eq_true.mp h C hC) D hD
  simpa using z
theorem under_at {K : PySem.W.Frag} {cs : List Addr} {S C : Addr} (h : underB K cs S = true) (hC : C ∈ cs) : PySem.W.kitOne K (.ref C) (.ref S) = some true ∧ PySem.W.kitOne K (.ref C) (.type "ValueError") = some true := by
  have z := List.all_eq_true.mp h C hC
  simpa using z
def one? (C D : Addr) : Int := if decide (C = D) = true then 1 else 0
theorem sum_kinds {C : Addr} : ∀ {cs : List Addr}, cs.Nodup → C ∈ cs → (cs.map (one? C)).sum = 1
  | [], _, h => by cases h
  | D :: r, hn, h => by
    have hn' := List.nodup_cons.mp hn
    rw [List.map_cons, List.sum_cons]
    by_cases e : C = D
    · subst e
      have z : ∀ {l : List Addr}, C ∉ l → (l.map (one? C)).sum = 0 := by
        intro l
        induction l with
        | nil => intro _; rfl
        | cons x l ih =>
          intro hx
          rw [List.map_cons, List.sum_cons, ih (fun q => hx (List.mem_cons_of_mem _ q))]
          unfold one?
          rw [decide_eq_false (fun q : C = x => hx (q ▸ List.mem_cons_self))]
          rfl
      rw [z hn'.1]
      unfold one?
      rw [decide_eq_true rfl]
      rfl
    · rw [sum_kinds hn'.2 (List.mem_of_ne_of_mem e h)]
      unfold one?
      rw [decide_eq_false e]
      rfl
def spKinds (cs : List Addr) : Sp := fun vs H Q _ => ∃ e C : Addr, vs = [.ref e] ∧ C ∈ cs ∧ ErrV H e C ∧ Q (.int 1) H
end Sw
set_option Elab.async false
set_option linter.all false
/-! Links told as pairs, and what is refused (own work; k23). -/
namespace L2
open PySem PySem.Spec PyProof.Rows
/-- isinstance(e, S), e the error that the clause holds -/
def rErrIsi (C S a : Addr) (cls : Value) (d : Option Addr) : List V → Hp → VK → Prop := fun xs H Q => xs = [.ref a, .ref S] ∧ cls = .ref C ∧ (∃ (dd : Addr) (f : Str) (v : V), d = some dd ∧ H dd = some (.xd [(f, v)])) ∧ Q (.bl true) H
theorem call_errIsi {X : Cx} {a C S : Addr} {oe : Obj} {cls : Value} {d : Option Addr} {pn : List (Addr × Obj)} (hC : Sw.ErrC X.K C) (hk : PySem.W.kitOne X.K (.ref C) (.ref S) = some true) (hz : Zc cls d oe) (hf : ∃ vs, oe.data = .fields vs) :
    CallR (X.suite a ((a, oe) :: pn)) (.builtin "isinstance") (rErrIsi C S a cls d) := by
  intro pins s σ H xs us Q I hv ⟨ex, ec, ⟨dd, f, v, ed, ea⟩, q⟩
  subst ex ec ed
  cases hv with
  | cons r1 r2 =>
    cases r2 with
    | cons r2 r3 =>
      cases r3
      rename_i u1 u2
      obtain rfl : u1 = Value.ref a := r1
      obtain rfl : u2 = Value.ref S := r2
      obtain ⟨ha, _⟩ := I.pin (a, oe) (List.mem_append_left _ List.mem_cons_self)
      obtain ⟨vs, hd⟩ := hf
      have hx : ObjOk X.prog X.w H s.heap dd (.xd [(f, v)]) := I.hok dd _ ea
      obtain ⟨mA, hns, hr⟩ := hx
      obtain ⟨od, ho, hl⟩ := lookIn_ns hns
      have J : PySem.W.InstAt s.heap a oe C (some od) := ⟨ha, hz.1, by unfold PySem.W.notCls; rw [hd] <;> rfl, by rw [hz.2]; exact ho⟩
      refine PySem.W.kia_one (PySem.W.kitx_exc (ox := oe) (od := some od) (gt := none) hC.i hC.x.hg hC.x.hk hC.x.hs hC.x.ha hC.x.hn hC.x.ht hC.x.hm) I.kIn J hk (by intro z; cases z) fun tk => ?_
      exact ⟨.bl true, H, I.tok _, rfl, q⟩
theorem op_eqDK {X : Cx} {K : PySem.W.Frag} (hu : X.A.units + 64 < cLine) (h : X.K = K := by rfl) : OpR X (compareOp .Eq) (rEqD K) := h ▸ op_eqD hu
end L2
namespace Sw
open PySem PySem.Spec PyProof.Rows L2
def spLinked (K : PySem.W.Frag) (C D : Addr) : Sp := fun vs H Q E => ∃ (p q r : Addr) (n : Int) (ks : Tups) (cam one other : List Int), vs = [.ref p, .ref q, .ref r] ∧ SkyS K C H p n ks cam ∧ isSky n (keys ks) cam = true ∧ SqT K H q (one.map V.int) ∧ SqT K H r (other.map V.int) ∧
  (isPose n one = true → isPose n other = true → ∀ (H' : Hp) (l : Addr) (es : Tups), Same H H' → H' l = some (.lst (refs es)) → TupsAt K H' es → keys es = linksN n cam (keys ks) one other → Q (.ref l) H') ∧ twoErr D E H q r n one other
/-- one of both is refused: the first one that is none -/
def Bad (n : Int) (one other bad : List Int) (kind : Int) : Prop := (isPose n one = false ∧ one = bad) ∨ (isPose n one = true ∧ isPose n other = false ∧ other = bad ∧ kind < 9)
def spCalled (K : PySem.W.Frag) (C D : Addr) : Sp := fun vs H Q E => ∃ (p q r : Addr) (n kind : Int) (ks : Tups) (cam one other bad : List Int), vs = [.int kind, .ref p, .ref q, .ref r] ∧ SkyS K C H p n ks cam ∧ isSky n (keys ks) cam = true ∧ ks.length ≤ 6 ∧ SqT K H q (one.map V.int) ∧ SqT K H r (other.map V.int) ∧ 0 ≤ kind ∧ kind ≤ 9 ∧ Bad n one other bad kind ∧
  ∀ (d x : Addr) (H' : Hp), Same H H' → SqT K H' x (bad.map V.int) → H' d = some (.xd [("attitude", .ref x)]) → E (.ref D) (some d) H'
def spRefused (K : PySem.W.Frag) (C : Addr) : Sp := fun vs H Q _ => ∃ (p q r bl : Addr) (n kind : Int) (ks : Tups) (cam one other bad : List Int), vs = [.int kind, .ref p, .ref q, .ref r, .ref bl] ∧ SkyS K C H p n ks cam ∧ isSky n (keys ks) cam = true ∧ ks.length ≤ 6 ∧ SqT K H q (one.map V.int) ∧ SqT K H r (other.map V.int) ∧ SqT K H bl (bad.map V.int) ∧ 0 ≤ kind ∧ kind ≤ 9 ∧ Bad n one other bad kind ∧
  ∀ H', Same H H' → Q (.bl true) H'
theorem links_flat (n : Int) (cam : List Int) (kk : List (List Int)) (one other : List Int) : linksN n cam kk one other = (List.range kk.length).flatMap fun a : Nat => (rowN n cam kk one other a).map fun b => [(a : Int), b] := by
  unfold linksN rowN
  congr 1
  funext a
  rw [List.map_map]
  rfl
theorem seen_flat {β : Type} (n : Int) (cam at_ : List Int) (G : Int → List β) : ∀ (l : List (List Int)) (j : Nat), (∀ m : Nat, (l[m]?).bind (seenOne n cam at_) = none → G ((j + m : Nat) : Int) = []) →
    (seenI n cam at_ j l).flatMap (fun z => G z.1) = (List.range l.length).flatMap fun m : Nat => G ((j + m : Nat) : Int)
  | [], j, _ => rfl
  | k :: r, j, h => by
    have ih := seen_flat n cam at_ G r (j + 1) fun m hm => by
      have := h (m + 1) hm
      rw [show j + 1 + m = j + (m + 1) by omega]
      exact this
    show ((match seenOne n cam at_ k with | some d => [((j : Int), d)] | none => []) ++ seenI n cam at_ (j + 1) r).flatMap (fun z => G z.1) = _
    rw [List.flatMap_append, ih, List.length_cons, List.range_succ_eq_map, List.flatMap_cons, List.flatMap_map]
    have e2 : (List.range r.length).flatMap (fun m : Nat => G ((j + 1 + m : Nat) : Int)) = (List.range r.length).flatMap fun m : Nat => G ((j + m.succ : Nat) : Int) := by
      congr 1
      funext m
      rw [show j + 1 + m = j + m.succ by omega]
    rw [e2]
    congr 1
    cases e : seenOne n cam at_ k with
    | none =>
      have := h 0 (by show (some k).bind _ = none; exact e)
      rw [this]
      rfl
    | some d =>
      show G (j : Int) ++ [] = G ((j + 0 : Nat) : Int)
      rw [List.append_nil]
      rfl
theorem flat_congr {α β : Type} {f g : α → List β} : ∀ {l : List α}, (∀ a ∈ l, f a = g a) → l.flatMap f = l.flatMap g
  | [], _ => rfl
  | a :: l, h => by rw [List.flatMap_cons, List.flatMap_cons, h a List.mem_cons_self, flat_congr fun b hb => h b (List.mem_cons_of_mem _ hb)]
theorem links_seen (n : Int) (cam : List Int) (kk : List (List Int)) (one other : List Int) : ((seenI n cam one 0 kk).map (·.1)).flatMap (fun a => (tP (tblN n cam kk one other) a).map fun b => [a, b]) = linksN n cam kk one other := by
  rw [List.flatMap_map]
  have := seen_flat n cam one (fun a => (tP (tblN n cam kk one other) a).map fun b => [a, b]) kk 0 fun m hm => by
    rw [Nat.zero_add]
    show (tP (tblN n cam kk one other) (m : Int)).map _ = []
    have e : tP (tblN n cam kk one other) (m : Int) = [] := by
      unfold tP tblN
      rw [if_pos (Int.natCast_nonneg m), Int.toNat_natCast, List.getElem?_map]
      by_cases hl : m < kk.length
      · rw [List.getElem?_range hl]
        exact row_none hm
      · rw [List.getElem?_eq_none (by rw [List.length_range]; omega)]
        rfl
    rw [e]
    rfl
  rw [this, links_flat]
  refine flat_congr fun a ha => ?_
  rw [Nat.zero_add]
  unfold tP tblN
  rw [if_pos (Int.natCast_nonneg a), Int.toNat_natCast, List.getElem?_map, List.getElem?_range (List.mem_range.mp ha)]
  rfl
theorem links_lt (n : Int) (cam : List Int) (kk : List (List Int)) (one other : List Int) : (linksN n cam kk one other).Pairwise fun a b => ltI a b = true := by
  unfold linksN
  rw [List.pairwise_flatMap]
  refine ⟨fun x _ => ?_, List.pairwise_lt_range.imp fun {a b} h u hu v hv => ?_⟩
  · rw [List.pairwise_map]
    refine (List.pairwise_lt_range.imp fun {a b} h => ?_).sublist List.filter_sublist
    show (decide ((x : Int) < x) || (decide ((x : Int) = x) && (decide ((a : Int) < b) || _))) = true
    rw [decide_eq_true (rfl : (x : Int) = x), decide_eq_true (show (a : Int) < b by omega)]
    simp
  · obtain ⟨q, _, rfl⟩ := List.mem_map.mp hu
    obtain ⟨q', _, rfl⟩ := List.mem_map.mp hv
    show (decide ((a : Int) < b) || _) = true
    rw [decide_eq_true (show (a : Int) < b by omega)]
    rfl
theorem links_asc (n : Int) (cam : List Int) (kk : List (List Int)) (one other : List Int) : AscL (linksN n cam kk one other) := (links_lt n cam kk one other).imp fun {a b} h => ltI_asymm a b h
theorem lt_nodup {l : List (List Int)} (h : l.Pairwise fun a b => ltI a b = true) : l.Nodup := h.imp fun {a b} h e => by
  have := ltI_asymm a b h
  rw [e] at this h
  rw [h] at this
  cases this
/-- the links of both sides -/
theorem links_perm (n : Int) (cam : List Int) (kk : List (List Int)) (one other : List Int) : (linksN n cam kk other one).Perm (pairs2 (swp (linksP n cam kk one other))) := by
  have hn := lt_nodup (links_lt n cam kk one other)
  rw [linksP_eq] at hn
  have hP : (linksP n cam kk one other).Nodup := by
    unfold pairs2 at hn
    rw [List.Nodup, List.pairwise_map] at hn
    exact hn.imp fun {a b} h e => h (by rw [e])
  have hQ : (pairs2 (swp (linksP n cam kk one other))).Nodup := by
    unfold pairs2 swp
    rw [List.map_map, List.Nodup, List.pairwise_map]
    refine hP.imp fun {a b} h e => h ?_
    have e' : [a.2, a.1] = [b.2, b.1] := e
    injection e' with e1 e2
    injection e2 with e2 _
    exact Prod.ext e2 e1
  refine (List.perm_ext_iff_of_nodup (lt_nodup (links_lt n cam kk other one)) hQ).mpr fun z => ?_
  rw [linksP_eq]
  unfold pairs2
  rw [List.mem_map, List.mem_map]
  constructor
  · rintro ⟨x, hx, rfl⟩
    exact ⟨x, mem_swp.mpr (linksP_mem.mpr (tbl_turn (linksP_mem.mp hx))), rfl⟩
  · rintro ⟨x, hx, rfl⟩
    exact ⟨x, linksP_mem.mpr (tbl_turn (linksP_mem.mp (mem_swp.mp hx))), rfl⟩
end Sw
namespace Sw
open PySem PySem.Spec PyProof.Rows L2
theorem tP_len (n : Int) (cam : List Int) (kk : List (List Int)) (one other : List Int) (a : Int) : (tP (tblN n cam kk one other) a).length ≤ kk.length := by
  unfold tP
  split
  · unfold tblN
    rw [List.getElem?_map]
    cases e : (List.range kk.length)[a.toNat]? with
    | none => exact Nat.zero_le _
    | some m =>
      show (rowN n cam kk one other m).length ≤ _
      unfold rowN
      rw [List.length_map]
      have := List.length_filter_le (lkN n cam kk one other m) (List.range kk.length)
      rw [List.length_range] at this
      exact this
  · exact Nat.zero_le _
theorem shw_links {n : Int} {cam : List Int} {kk : List (List Int)} {one other : List Int} (h : kk.length ≤ 20) : SwG.Shw (.list ((linksN n cam kk one other).map dTI)) := by
  have hl := linksN_len n cam kk one other h
  refine (SwG.shb_list (w := 84) (k := 1) (ds := (linksN n cam kk one other).map dTI) fun d hd => ?_).shw (by rw [List.length_map]; omega) (by decide)
  obtain ⟨z, hz, rfl⟩ := List.mem_map.mp hd
  rw [linksP_eq] at hz
  unfold pairs2 at hz
  obtain ⟨x, hx, rfl⟩ := List.mem_map.mp hz
  have hc := linksP_cols (r := x.1) (c := x.2) hx
  have h1 : x.1.natAbs < 10 ^ 12 := by
    obtain ⟨m, hm, e⟩ := List.mem_map.mp hc.1
    have := List.mem_range.mp hm
    rw [← e]
    show m < 10 ^ 12
    omega
  have h2 : x.2.natAbs < 10 ^ 12 := by
    obtain ⟨m, hm, e⟩ := List.mem_map.mp hc.2
    have := List.mem_range.mp hm
    rw [← e]
    show m < 10 ^ 12
    omega
  exact SwG.shb_tuple (w := 41) (k := 0) (ds := [.int x.1, .int x.2]) fun d hd => by
    rcases List.mem_cons.mp hd with rfl | hd
    · exact SwG.shb_int h1
    · rw [List.mem_singleton.mp hd]
      exact SwG.shb_int h2
end Sw
namespace Sw
open PySem PySem.Spec PyProof.Rows L2
theorem sqL_dk {K : PySem.W.Frag} {H : Hp} {d p : Addr} {kvs : List (Key × V)} {o : HO} {ys : List V} (hl : H d = some (.dK kvs)) (h : SqL K H p ys) : SqL K (upd H d o) p ys := by
  rcases h with (h | ⟨u, h⟩) | h
  · exact .inl (.inl (by rw [upd_ne (fun z => by rw [z, hl] at h; cases h)]; exact h))
  · exact .inl (.inr ⟨u, by rw [upd_ne (fun z => by rw [z, hl] at h; cases h)]; exact h⟩)
  · exact .inr h
end Sw
namespace Sw
open PySem PySem.Spec PyProof.Rows L2
theorem kind_eq {i j : Int} (h : decide (V.int i = V.int j) = true) : i = j := by
  have := of_decide_eq_true h
  injection this
theorem kind_ne {i j : Int} (h : ¬ decide (V.int i = V.int j) = true) : i ≠ j := fun e => h (by rw [e]; exact decide_eq_true rfl)
end Sw
namespace SwT
open PySem PySem.Spec PyProof.Rows L2 Sw
/-! ### the text by places -/
def topS (i : Nat) : Stmt := PySem.Challenge.pw_starward_k23_linked_stars.main.body.getD i (.Pass ⟨0, 0, 0, 0⟩)
abbrev s_quarter_turned : Stmt := topS 7
theorem sc_quarter_turned : FnScope ["quarters", "pair", "x", "y", "count"] ["quarters", "pair"] (defScope s_quarter_turned) := ⟨rfl, rfl, rfl, by decide +kernel, rfl, by decide +kernel, by decide +kernel⟩
abbrev s_is_pose : Stmt := topS 8
theorem sc_is_pose : FnScope ["side", "told", "x", "y", "quarter"] ["side", "told"] (defScope s_is_pose) := ⟨rfl, rfl, rfl, by decide +kernel, rfl, by decide +kernel, by decide +kernel⟩
abbrev s_is_side : Stmt := topS 12
theorem sc_is_side : FnScope ["side"] ["side"] (defScope s_is_side) := ⟨rfl, rfl, rfl, by decide +kernel, rfl, by decide +kernel, by decide +kernel⟩
abbrev s_is_star : Stmt := topS 13
theorem sc_is_star : FnScope ["side", "star", "x", "y", "brightness"] ["side", "star"] (defScope s_is_star) := ⟨rfl, rfl, rfl, by decide +kernel, rfl, by decide +kernel, by decide +kernel⟩
abbrev s_is_camera : Stmt := topS 14
theorem sc_is_camera : FnScope ["side", "camera", "reach", "blur", "glare", "limit"] ["side", "camera"] (defScope s_is_camera) := ⟨rfl, rfl, rfl, by decide +kernel, rfl, by decide +kernel, by decide +kernel⟩
abbrev s__check_sky : Stmt := topS 15
theorem sc__check_sky : FnScope ["side", "stars", "camera", "star"] ["side", "stars", "camera"] (defScope s__check_sky) := ⟨rfl, rfl, rfl, by decide +kernel, rfl, by decide +kernel, by decide +kernel⟩
abbrev s_Skyx_initx : Stmt := inClass (topS 16) 0
theorem sc_Skyx_initx : FnScope ["self", "side", "stars", "camera"] ["self", "side", "stars", "camera"] (defScope s_Skyx_initx) := ⟨rfl, rfl, rfl, by decide +kernel, rfl, by decide +kernel, by decide +kernel⟩
abbrev s_Sky_side : Stmt := inClass (topS 16) 1
theorem sc_Sky_side : FnScope ["self"] ["self"] (defScope s_Sky_side) := ⟨rfl, rfl, rfl, by decide +kernel, rfl, by decide +kernel, by decide +kernel⟩
abbrev s_Sky_stars : Stmt := inClass (topS 16) 2
theorem sc_Sky_stars : FnScope ["self"] ["self"] (defScope s_Sky_stars) := ⟨rfl, rfl, rfl, by decide +kernel, rfl, by decide +kernel, by decide +kernel⟩
abbrev s_Sky_reach : Stmt := inClass (topS 16) 4
theorem sc_Sky_reach : FnScope ["self"] ["self"] (defScope s_Sky_reach) := ⟨rfl, rfl, rfl, by decide +kernel, rfl, by decide +kernel, by decide +kernel⟩
abbrev s_Sky_blur : Stmt := inClass (topS 16) 5
theorem sc_Sky_blur : FnScope ["self"] ["self"] (defScope s_Sky_blur) := ⟨rfl, rfl, rfl, by decide +kernel, rfl, by decide +kernel, by decide +kernel⟩
abbrev s_Sky_glare : Stmt := inClass (topS 16) 6
theorem sc_Sky_glare : FnScope ["self"] ["self"] (defScope s_Sky_glare) := ⟨rfl, rfl, rfl, by decide +kernel, rfl, by decide +kernel, by decide +kernel⟩
abbrev s_Sky_limit : Stmt := inClass (topS 16) 7
theorem sc_Sky_limit : FnScope ["self"] ["self"] (defScope s_Sky_limit) := ⟨rfl, rfl, rfl, by decide +kernel, rfl, by decide +kernel, by decide +kernel⟩
abbrev s_attitudes : Stmt := topS 18
theorem sc_attitudes : FnScope ["sky", "side", "x", "y", "quarter"] ["sky"] (defScope s_attitudes) := ⟨rfl, rfl, rfl, by decide +kernel, rfl, by decide +kernel, by decide +kernel⟩
abbrev s_check_attitude : Stmt := topS 19
theorem sc_check_attitude : FnScope ["sky", "attitude"] ["sky", "attitude"] (defScope s_check_attitude) := ⟨rfl, rfl, rfl, by decide +kernel, rfl, by decide +kernel, by decide +kernel⟩
abbrev s_check_two : Stmt := topS 20
theorem sc_check_two : FnScope ["sky", "one", "other"] ["sky", "one", "other"] (defScope s_check_two) := ⟨rfl, rfl, rfl, by decide +kernel, rfl, by decide +kernel, by decide +kernel⟩
abbrev s__offset_of : Stmt := topS 21
theorem sc__offset_of : FnScope ["sky", "attitude", "star", "aside", "dx", "dy", "bound"] ["sky", "attitude", "star"] (defScope s__offset_of) := ⟨rfl, rfl, rfl, by decide +kernel, rfl, by decide +kernel, by decide +kernel⟩
abbrev s__nearest : Stmt := topS 22
theorem sc__nearest : FnScope ["side", "part", "half"] ["side", "part"] (defScope s__nearest) := ⟨rfl, rfl, rfl, by decide +kernel, rfl, by decide +kernel, by decide +kernel⟩
abbrev s_appearances : Stmt := topS 23
theorem sc_appearances : FnScope ["sky", "attitude", "shown", "faintest", "number", "star", "aside"] ["sky", "attitude"] (defScope s_appearances) := ⟨rfl, rfl, rfl, by decide +kernel, rfl, by decide +kernel, by decide +kernel⟩
abbrev s_sure_among : Stmt := topS 24
theorem sc_sure_among : FnScope ["sky", "shown", "bound", "faintest", "number", "dx", "dy", "brightness"] ["sky", "shown"] (defScope s_sure_among) := ⟨rfl, rfl, rfl, by decide +kernel, rfl, by decide +kernel, by decide +kernel⟩
abbrev s_most : Stmt := topS 26
theorem sc_most : FnScope ["table", "rows"] ["table", "rows"] (defScope s_most) := ⟨rfl, rfl, rfl, by decide +kernel, rfl, by decide +kernel, by decide +kernel⟩
abbrev s_matching : Stmt := topS 27
theorem sc_matching : FnScope ["table", "rows", "columns", "mates", "owners", "row", "column"] ["table", "rows", "columns"] (defScope s_matching) := ⟨rfl, rfl, rfl, by decide +kernel, rfl, by decide +kernel, by decide +kernel⟩
abbrev s__mates_of : Stmt := topS 28
theorem sc__mates_of : FnScope ["table", "rows", "row"] ["table", "rows"] (defScope s__mates_of) := ⟨rfl, rfl, rfl, by decide +kernel, rfl, by decide +kernel, by decide +kernel⟩
abbrev s__rows_by_column : Stmt := topS 29
theorem sc__rows_by_column : FnScope ["table", "found", "row", "columns", "column"] ["table"] (defScope s__rows_by_column) := ⟨rfl, rfl, rfl, by decide +kernel, rfl, by decide +kernel, by decide +kernel⟩
abbrev s__with_more : Stmt := topS 30
theorem sc__with_more : FnScope ["partners_of", "wanted", "mates", "row", "grown", "owners", "stays", "steps", "taker", "column"] ["partners_of", "wanted", "mates"] (defScope s__with_more) := ⟨rfl, rfl, rfl, by decide +kernel, rfl, by decide +kernel, by decide +kernel⟩
abbrev s__steps_to_more : Stmt := topS 31
theorem sc__steps_to_more : FnScope ["partners_of", "mates", "owners", "stays", "start", "takers", "queue", "at", "row", "column"] ["partners_of", "mates", "owners", "stays", "start"] (defScope s__steps_to_more) := ⟨rfl, rfl, rfl, by decide +kernel, rfl, by decide +kernel, by decide +kernel⟩
abbrev s__traced : Stmt := topS 32
theorem sc__traced : FnScope ["mates", "takers", "last", "steps", "column"] ["mates", "takers", "last"] (defScope s__traced) := ⟨rfl, rfl, rfl, by decide +kernel, rfl, by decide +kernel, by decide +kernel⟩
abbrev s_is_ascending : Stmt := topS 33
theorem sc_is_ascending : FnScope ["numbers", "one", "other"] ["numbers"] (defScope s_is_ascending) := ⟨rfl, rfl, rfl, by decide +kernel, rfl, by decide +kernel, by decide +kernel⟩
abbrev s_partners : Stmt := topS 34
theorem sc_partners : FnScope ["table", "rows", "row", "column"] ["table", "rows"] (defScope s_partners) := ⟨rfl, rfl, rfl, by decide +kernel, rfl, by decide +kernel, by decide +kernel⟩
abbrev s_lack_matching : Stmt := topS 35
theorem sc_lack_matching : FnScope ["table", "rows"] ["table", "rows"] (defScope s_lack_matching) := ⟨rfl, rfl, rfl, by decide +kernel, rfl, by decide +kernel, by decide +kernel⟩
abbrev s_lacks_more : Stmt := topS 37
theorem sc_lacks_more : FnScope ["table", "rows", "told", "bound", "row"] ["table", "rows", "told", "bound"] (defScope s_lacks_more) := ⟨rfl, rfl, rfl, by decide +kernel, rfl, by decide +kernel, by decide +kernel⟩
abbrev s_least_lot : Stmt := topS 38
theorem sc_least_lot : FnScope ["table", "rows", "mates", "row", "owners", "queue", "found", "at", "column", "owner"] ["table", "rows"] (defScope s_least_lot) := ⟨rfl, rfl, rfl, by decide +kernel, rfl, by decide +kernel, by decide +kernel⟩
abbrev s_turned_table : Stmt := topS 39
theorem sc_turned_table : FnScope ["table", "many", "found", "column"] ["table", "many"] (defScope s_turned_table) := ⟨rfl, rfl, rfl, by decide +kernel, rfl, by decide +kernel, by decide +kernel⟩
abbrev s_linked : Stmt := topS 41
theorem sc_linked : FnScope ["sky", "one", "other", "shown", "shown_other", "table", "first", "second"] ["sky", "one", "other"] (defScope s_linked) := ⟨rfl, rfl, rfl, by decide +kernel, rfl, by decide +kernel, by decide +kernel⟩
abbrev s_shown_at : Stmt := topS 42
theorem sc_shown_at : FnScope ["sky", "one", "other"] ["sky", "one", "other"] (defScope s_shown_at) := ⟨rfl, rfl, rfl, by decide +kernel, rfl, by decide +kernel, by decide +kernel⟩
abbrev s_link_table : Stmt := topS 43
theorem sc_link_table : FnScope ["sky", "shown", "shown_other", "blur", "glare", "table", "first", "dx", "dy", "brightness", "_", "second", "x", "y", "bright"] ["sky", "shown", "shown_other"] (defScope s_link_table) := ⟨rfl, rfl, rfl, by decide +kernel, rfl, by decide +kernel, by decide +kernel⟩
abbrev s_lack_confuse : Stmt := topS 44
theorem sc_lack_confuse : FnScope ["sky", "one", "other", "shown", "shown_other"] ["sky", "one", "other"] (defScope s_lack_confuse) := ⟨rfl, rfl, rfl, by decide +kernel, rfl, by decide +kernel, by decide +kernel⟩
abbrev s_unlikeness : Stmt := topS 46
theorem sc_unlikeness : FnScope ["sky", "one", "other", "shown", "shown_other"] ["sky", "one", "other"] (defScope s_unlikeness) := ⟨rfl, rfl, rfl, by decide +kernel, rfl, by decide +kernel, by decide +kernel⟩
abbrev s_both_lacks : Stmt := topS 47
theorem sc_both_lacks : FnScope ["sky", "shown", "shown_other", "table", "sure", "sure_other", "back"] ["sky", "shown", "shown_other"] (defScope s_both_lacks) := ⟨rfl, rfl, rfl, by decide +kernel, rfl, by decide +kernel, by decide +kernel⟩
abbrev s_lacking_lot : Stmt := topS 48
theorem sc_lacking_lot : FnScope ["sky", "one", "other", "shown", "shown_other"] ["sky", "one", "other"] (defScope s_lacking_lot) := ⟨rfl, rfl, rfl, by decide +kernel, rfl, by decide +kernel, by decide +kernel⟩
abbrev s_couples : Stmt := topS 49
theorem sc_couples : FnScope ["sky", "one", "other", "shown", "shown_other"] ["sky", "one", "other"] (defScope s_couples) := ⟨rfl, rfl, rfl, by decide +kernel, rfl, by decide +kernel, by decide +kernel⟩
abbrev s__couples : Stmt := topS 50
theorem sc__couples : FnScope ["sky", "shown", "shown_other", "table"] ["sky", "shown", "shown_other"] (defScope s__couples) := ⟨rfl, rfl, rfl, by decide +kernel, rfl, by decide +kernel, by decide +kernel⟩
abbrev s_are_confusable : Stmt := topS 51
theorem sc_are_confusable : FnScope ["sky", "one", "other", "missing", "false"] ["sky", "one", "other", "missing", "false"] (defScope s_are_confusable) := ⟨rfl, rfl, rfl, by decide +kernel, rfl, by decide +kernel, by decide +kernel⟩
abbrev s_confusing_sighting : Stmt := topS 52
theorem sc_confusing_sighting : FnScope ["sky", "one", "other", "missing", "false"] ["sky", "one", "other", "missing", "false"] (defScope s_confusing_sighting) := ⟨rfl, rfl, rfl, by decide +kernel, rfl, by decide +kernel, by decide +kernel⟩
abbrev s_common_sighting : Stmt := topS 53
theorem sc_common_sighting : FnScope ["sky", "one", "other", "missing", "missing_other", "shown", "shown_other", "pairs", "spots", "first", "second", "_"] ["sky", "one", "other", "missing", "missing_other"] (defScope s_common_sighting) := ⟨rfl, rfl, rfl, by decide +kernel, rfl, by decide +kernel, by decide +kernel⟩
abbrev s_common_spot : Stmt := topS 54
theorem sc_common_spot : FnScope ["sky", "look", "other_look"] ["sky", "look", "other_look"] (defScope s_common_spot) := ⟨rfl, rfl, rfl, by decide +kernel, rfl, by decide +kernel, by decide +kernel⟩
abbrev s__own_spots : Stmt := topS 55
theorem sc__own_spots : FnScope ["sky", "shown", "coupled", "missing", "left_out", "number"] ["sky", "shown", "coupled", "missing"] (defScope s__own_spots) := ⟨rfl, rfl, rfl, by decide +kernel, rfl, by decide +kernel, by decide +kernel⟩
abbrev s_parting_paper : Stmt := topS 56
theorem sc_parting_paper : FnScope ["sky", "one", "other", "missing", "false", "shown", "shown_other", "lacks"] ["sky", "one", "other", "missing", "false"] (defScope s_parting_paper) := ⟨rfl, rfl, rfl, by decide +kernel, rfl, by decide +kernel, by decide +kernel⟩
abbrev s_check_parting : Stmt := topS 57
theorem sc_check_parting : FnScope ["sky", "one", "other", "missing", "false", "paper", "shown", "shown_other", "word", "lot"] ["sky", "one", "other", "missing", "false", "paper"] (defScope s_check_parting) := ⟨rfl, rfl, rfl, by decide +kernel, rfl, by decide +kernel, by decide +kernel⟩
abbrev s_confusable_with : Stmt := topS 58
theorem sc_confusable_with : FnScope ["sky", "one", "missing", "false", "shown", "other"] ["sky", "one", "missing", "false"] (defScope s_confusable_with) := ⟨rfl, rfl, rfl, by decide +kernel, rfl, by decide +kernel, by decide +kernel⟩
abbrev s__law_row : Stmt := topS 60
theorem sc__law_row : FnScope ["cell", "many", "row", "rest", "state", "k"] ["cell", "many"] (defScope s__law_row) := ⟨rfl, rfl, rfl, by decide +kernel, rfl, by decide +kernel, by decide +kernel⟩
abbrev s__law_numbers : Stmt := topS 61
theorem sc__law_numbers : FnScope ["script", "many", "cells", "each", "numbers", "cell", "number"] ["script", "many"] (defScope s__law_numbers) := ⟨rfl, rfl, rfl, by decide +kernel, rfl, by decide +kernel, by decide +kernel⟩
abbrev s__law_camera : Stmt := topS 62
theorem sc__law_camera : FnScope ["numbers", "at", "side", "choices", "reach", "blur", "place"] ["numbers", "at", "side"] (defScope s__law_camera) := ⟨rfl, rfl, rfl, by decide +kernel, rfl, by decide +kernel, by decide +kernel⟩
abbrev s__law_stars : Stmt := topS 63
theorem sc__law_stars : FnScope ["numbers", "at", "side", "many", "found", "count", "k", "place", "light", "star"] ["numbers", "at", "side", "many"] (defScope s__law_stars) := ⟨rfl, rfl, rfl, by decide +kernel, rfl, by decide +kernel, by decide +kernel⟩
abbrev s__law_parts : Stmt := topS 64
theorem sc__law_parts : FnScope ["numbers", "at", "sides", "many", "side"] ["numbers", "at", "sides", "many"] (defScope s__law_parts) := ⟨rfl, rfl, rfl, by decide +kernel, rfl, by decide +kernel, by decide +kernel⟩
abbrev s__law_made : Stmt := topS 65
theorem sc__law_made : FnScope ["parts"] ["parts"] (defScope s__law_made) := ⟨rfl, rfl, rfl, by decide +kernel, rfl, by decide +kernel, by decide +kernel⟩
abbrev s__law_attitude : Stmt := topS 66
theorem sc__law_attitude : FnScope ["numbers", "at", "side"] ["numbers", "at", "side"] (defScope s__law_attitude) := ⟨rfl, rfl, rfl, by decide +kernel, rfl, by decide +kernel, by decide +kernel⟩
abbrev s__law_beside : Stmt := topS 67
theorem sc__law_beside : FnScope ["numbers", "at", "side", "one", "other", "quarter"] ["numbers", "at", "side", "one"] (defScope s__law_beside) := ⟨rfl, rfl, rfl, by decide +kernel, rfl, by decide +kernel, by decide +kernel⟩
abbrev s__law_turned : Stmt := topS 68
theorem sc__law_turned : FnScope ["quarter", "x", "y", "turn"] ["quarter", "x", "y"] (defScope s__law_turned) := ⟨rfl, rfl, rfl, by decide +kernel, rfl, by decide +kernel, by decide +kernel⟩
abbrev s__law_offsets : Stmt := topS 69
theorem sc__law_offsets : FnScope ["parts", "attitude", "side", "stars", "camera", "room", "found", "dx", "dy", "x", "y", "here", "number"] ["parts", "attitude"] (defScope s__law_offsets) := ⟨rfl, rfl, rfl, by decide +kernel, rfl, by decide +kernel, by decide +kernel⟩
abbrev s__law_seen : Stmt := topS 70
theorem sc__law_seen : FnScope ["parts", "attitude", "offsets", "found", "number"] ["parts", "attitude"] (defScope s__law_seen) := ⟨rfl, rfl, rfl, by decide +kernel, rfl, by decide +kernel, by decide +kernel⟩
abbrev s__law_common : Stmt := topS 72
theorem sc__law_common : FnScope ["low", "high", "one", "other", "by", "k"] ["low", "high", "one", "other", "by"] (defScope s__law_common) := ⟨rfl, rfl, rfl, by decide +kernel, rfl, by decide +kernel, by decide +kernel⟩
abbrev s__law_links : Stmt := topS 73
theorem sc__law_links : FnScope ["parts", "one", "other", "reach", "blur", "glare", "limit", "first", "second", "found", "a", "b"] ["parts", "one", "other"] (defScope s__law_links) := ⟨rfl, rfl, rfl, by decide +kernel, rfl, by decide +kernel, by decide +kernel⟩
abbrev s__law_called : Stmt := topS 74
theorem sc__law_called : FnScope ["kind", "made", "one", "other"] ["kind", "made", "one", "other"] (defScope s__law_called) := ⟨rfl, rfl, rfl, by decide +kernel, rfl, by decide +kernel, by decide +kernel⟩
abbrev s__law_refused : Stmt := topS 75
theorem sc__law_refused : FnScope ["kind", "made", "one", "other", "bad", "e"] ["kind", "made", "one", "other", "bad"] (defScope s__law_refused) := ⟨rfl, rfl, rfl, by decide +kernel, rfl, by decide +kernel, by decide +kernel⟩
abbrev s_law : Stmt := topS 76
theorem sc_law : FnScope ["script", "numbers", "parts", "one", "other", "made", "due", "bad", "kind", "first", "second"] ["script"] (defScope s_law) := ⟨rfl, rfl, rfl, by decide +kernel, rfl, by decide +kernel, by decide +kernel⟩
/-- where the top has put each of them -/
structure Ad where
  f_quarter_turned : Addr
  fd_quarter_turned : FuncData
  f_is_pose : Addr
  fd_is_pose : FuncData
  f_is_side : Addr
  fd_is_side : FuncData
  f_is_star : Addr
  fd_is_star : FuncData
  f_is_camera : Addr
  fd_is_camera : FuncData
  f__check_sky : Addr
  fd__check_sky : FuncData
  f_Skyx_initx : Addr
  fd_Skyx_initx : FuncData
  f_Sky_side : Addr
  fd_Sky_side : FuncData
  f_Sky_stars : Addr
  fd_Sky_stars : FuncData
  f_Sky_reach : Addr
  fd_Sky_reach : FuncData
  f_Sky_blur : Addr
  fd_Sky_blur : FuncData
  f_Sky_glare : Addr
  fd_Sky_glare : FuncData
  f_Sky_limit : Addr
  fd_Sky_limit : FuncData
  f_attitudes : Addr
  fd_attitudes : FuncData
  f_check_attitude : Addr
  fd_check_attitude : FuncData
  f_check_two : Addr
  fd_check_two : FuncData
  f__offset_of : Addr
  fd__offset_of : FuncData
  f__nearest : Addr
  fd__nearest : FuncData
  f_appearances : Addr
  fd_appearances : FuncData
  f_sure_among : Addr
  fd_sure_among : FuncData
  f_most : Addr
  fd_most : FuncData
  f_matching : Addr
  fd_matching : FuncData
  f__mates_of : Addr
  fd__mates_of : FuncData
  f__rows_by_column : Addr
  fd__rows_by_column : FuncData
  f__with_more : Addr
  fd__with_more : FuncData
  f__steps_to_more : Addr
  fd__steps_to_more : FuncData
  f__traced : Addr
  fd__traced : FuncData
  f_is_ascending : Addr
  fd_is_ascending : FuncData
  f_partners : Addr
  fd_partners : FuncData
  f_lack_matching : Addr
  fd_lack_matching : FuncData
  f_lacks_more : Addr
  fd_lacks_more : FuncData
  f_least_lot : Addr
  fd_least_lot : FuncData
  f_turned_table : Addr
  fd_turned_table : FuncData
  f_linked : Addr
  fd_linked : FuncData
  f_shown_at : Addr
  fd_shown_at : FuncData
  f_link_table : Addr
  fd_link_table : FuncData
  f_lack_confuse : Addr
  fd_lack_confuse : FuncData
  f_unlikeness : Addr
  fd_unlikeness : FuncData
  f_both_lacks : Addr
  fd_both_lacks : FuncData
  f_lacking_lot : Addr
  fd_lacking_lot : FuncData
  f_couples : Addr
  fd_couples : FuncData
  f__couples : Addr
  fd__couples : FuncData
  f_are_confusable : Addr
  fd_are_confusable : FuncData
  f_confusing_sighting : Addr
  fd_confusing_sighting : FuncData
  f_common_sighting : Addr
  fd_common_sighting : FuncData
  f_common_spot : Addr
  fd_common_spot : FuncData
  f__own_spots : Addr
  fd__own_spots : FuncData
  f_parting_paper : Addr
  fd_parting_paper : FuncData
  f_check_parting : Addr
  fd_check_parting : FuncData
  f_confusable_with : Addr
  fd_confusable_with : FuncData
  f__law_row : Addr
  fd__law_row : FuncData
  f__law_numbers : Addr
  fd__law_numbers : FuncData
  f__law_camera : Addr
  fd__law_camera : FuncData
  f__law_stars : Addr
  fd__law_stars : FuncData
  f__law_parts : Addr
  fd__law_parts : FuncData
  f__law_made : Addr
  fd__law_made : FuncData
  f__law_attitude : Addr
  fd__law_attitude : FuncData
  f__law_beside : Addr
  fd__law_beside : FuncData
  f__law_turned : Addr
  fd__law_turned : FuncData
  f__law_offsets : Addr
  fd__law_offsets : FuncData
  f__law_seen : Addr
  fd__law_seen : FuncData
  f__law_common : Addr
  fd__law_common : FuncData
  f__law_links : Addr
  fd__law_links : FuncData
  f__law_called : Addr
  fd__law_called : FuncData
  f__law_refused : Addr
  fd__law_refused : FuncData
  f_law : Addr
  fd_law : FuncData
  c_InvalidAttitude : Addr
  i_InvalidAttitude : Addr
  c_SkyError : Addr
  c_InvalidSky : Addr
  c_Sky : Addr
  g_Sky_side : Addr
  g_Sky_stars : Addr
  g_Sky_reach : Addr
  g_Sky_blur : Addr
  g_Sky_glare : Addr
  g_Sky_limit : Addr
  u_MOST_STARS : Value
  u_BRIGHTEST : Value
/-- what the top has written -/
structure Txt (P : Program) (K : PySem.W.Frag) (mg : Str → Option Value) (a : Ad) : Prop where
  F_quarter_turned : Fun K "quarter_turned" "quarter_turned" s_quarter_turned a.f_quarter_turned a.fd_quarter_turned
  b_quarter_turned : Binds K a.fd_quarter_turned ["quarters", "pair"] []
  m_quarter_turned : mg "quarter_turned" = some (.ref a.f_quarter_turned)
  F_is_pose : Fun K "is_pose" "is_pose" s_is_pose a.f_is_pose a.fd_is_pose
  b_is_pose : Binds K a.fd_is_pose ["side", "told"] []
  m_is_pose : mg "is_pose" = some (.ref a.f_is_pose)
  F_is_side : Fun K "is_side" "is_side" s_is_side a.f_is_side a.fd_is_side
  b_is_side : Binds K a.fd_is_side ["side"] []
  m_is_side : mg "is_side" = some (.ref a.f_is_side)
  F_is_star : Fun K "is_star" "is_star" s_is_star a.f_is_star a.fd_is_star
  b_is_star : Binds K a.fd_is_star ["side", "star"] []
  m_is_star : mg "is_star" = some (.ref a.f_is_star)
  F_is_camera : Fun K "is_camera" "is_camera" s_is_camera a.f_is_camera a.fd_is_camera
  b_is_camera : Binds K a.fd_is_camera ["side", "camera"] []
  m_is_camera : mg "is_camera" = some (.ref a.f_is_camera)
  F__check_sky : Fun K "_check_sky" "_check_sky" s__check_sky a.f__check_sky a.fd__check_sky
  b__check_sky : Binds K a.fd__check_sky ["side", "stars", "camera"] []
  m__check_sky : mg "_check_sky" = some (.ref a.f__check_sky)
  F_Skyx_initx : Fun K "__init__" "Sky.__init__" s_Skyx_initx a.f_Skyx_initx a.fd_Skyx_initx
  b_Skyx_initx : Binds K a.fd_Skyx_initx ["self", "side", "stars", "camera"] []
  F_Sky_side : Fun K "side" "Sky.side" s_Sky_side a.f_Sky_side a.fd_Sky_side
  b_Sky_side : Binds K a.fd_Sky_side ["self"] []
  p_Sky_side : PropOf K a.c_Sky "side" a.g_Sky_side a.f_Sky_side
  F_Sky_stars : Fun K "stars" "Sky.stars" s_Sky_stars a.f_Sky_stars a.fd_Sky_stars
  b_Sky_stars : Binds K a.fd_Sky_stars ["self"] []
  p_Sky_stars : PropOf K a.c_Sky "stars" a.g_Sky_stars a.f_Sky_stars
  F_Sky_reach : Fun K "reach" "Sky.reach" s_Sky_reach a.f_Sky_reach a.fd_Sky_reach
  b_Sky_reach : Binds K a.fd_Sky_reach ["self"] []
  p_Sky_reach : PropOf K a.c_Sky "reach" a.g_Sky_reach a.f_Sky_reach
  F_Sky_blur : Fun K "blur" "Sky.blur" s_Sky_blur a.f_Sky_blur a.fd_Sky_blur
  b_Sky_blur : Binds K a.fd_Sky_blur ["self"] []
  p_Sky_blur : PropOf K a.c_Sky "blur" a.g_Sky_blur a.f_Sky_blur
  F_Sky_glare : Fun K "glare" "Sky.glare" s_Sky_glare a.f_Sky_glare a.fd_Sky_glare
  b_Sky_glare : Binds K a.fd_Sky_glare ["self"] []
  p_Sky_glare : PropOf K a.c_Sky "glare" a.g_Sky_glare a.f_Sky_glare
  F_Sky_limit : Fun K "limit" "Sky.limit" s_Sky_limit a.f_Sky_limit a.fd_Sky_limit
  b_Sky_limit : Binds K a.fd_Sky_limit ["self"] []
  p_Sky_limit : PropOf K a.c_Sky "limit" a.g_Sky_limit a.f_Sky_limit
  F_attitudes : Fun K "attitudes" "attitudes" s_attitudes a.f_attitudes a.fd_attitudes
  b_attitudes : Binds K a.fd_attitudes ["sky"] []
  m_attitudes : mg "attitudes" = some (.ref a.f_attitudes)
  F_check_attitude : Fun K "check_attitude" "check_attitude" s_check_attitude a.f_check_attitude a.fd_check_attitude
  b_check_attitude : Binds K a.fd_check_attitude ["sky", "attitude"] []
  m_check_attitude : mg "check_attitude" = some (.ref a.f_check_attitude)
  F_check_two : Fun K "check_two" "check_two" s_check_two a.f_check_two a.fd_check_two
  b_check_two : Binds K a.fd_check_two ["sky", "one", "other"] []
  m_check_two : mg "check_two" = some (.ref a.f_check_two)
  F__offset_of : Fun K "_offset_of" "_offset_of" s__offset_of a.f__offset_of a.fd__offset_of
  b__offset_of : Binds K a.fd__offset_of ["sky", "attitude", "star"] []
  m__offset_of : mg "_offset_of" = some (.ref a.f__offset_of)
  F__nearest : Fun K "_nearest" "_nearest" s__nearest a.f__nearest a.fd__nearest
  b__nearest : Binds K a.fd__nearest ["side", "part"] []
  m__nearest : mg "_nearest" = some (.ref a.f__nearest)
  F_appearances : Fun K "appearances" "appearances" s_appearances a.f_appearances a.fd_appearances
  b_appearances : Binds K a.fd_appearances ["sky", "attitude"] []
  m_appearances : mg "appearances" = some (.ref a.f_appearances)
  F_sure_among : Fun K "sure_among" "sure_among" s_sure_among a.f_sure_among a.fd_sure_among
  b_sure_among : Binds K a.fd_sure_among ["sky", "shown"] []
  m_sure_among : mg "sure_among" = some (.ref a.f_sure_among)
  F_most : Fun K "most" "most" s_most a.f_most a.fd_most
  b_most : Binds K a.fd_most ["table", "rows"] []
  m_most : mg "most" = some (.ref a.f_most)
  F_matching : Fun K "matching" "matching" s_matching a.f_matching a.fd_matching
  b_matching : Binds K a.fd_matching ["table", "rows", "columns"] []
  m_matching : mg "matching" = some (.ref a.f_matching)
  F__mates_of : Fun K "_mates_of" "_mates_of" s__mates_of a.f__mates_of a.fd__mates_of
  b__mates_of : Binds K a.fd__mates_of ["table", "rows"] []
  m__mates_of : mg "_mates_of" = some (.ref a.f__mates_of)
  F__rows_by_column : Fun K "_rows_by_column" "_rows_by_column" s__rows_by_column a.f__rows_by_column a.fd__rows_by_column
  b__rows_by_column : Binds K a.fd__rows_by_column ["table"] []
  m__rows_by_column : mg "_rows_by_column" = some (.ref a.f__rows_by_column)
  F__with_more : Fun K "_with_more" "_with_more" s__with_more a.f__with_more a.fd__with_more
  b__with_more : Binds K a.fd__with_more ["partners_of", "wanted", "mates"] []
  m__with_more : mg "_with_more" = some (.ref a.f__with_more)
  F__steps_to_more : Fun K "_steps_to_more" "_steps_to_more" s__steps_to_more a.f__steps_to_more a.fd__steps_to_more
  b__steps_to_more : Binds K a.fd__steps_to_more ["partners_of", "mates", "owners", "stays", "start"] []
  m__steps_to_more : mg "_steps_to_more" = some (.ref a.f__steps_to_more)
  F__traced : Fun K "_traced" "_traced" s__traced a.f__traced a.fd__traced
  b__traced : Binds K a.fd__traced ["mates", "takers", "last"] []
  m__traced : mg "_traced" = some (.ref a.f__traced)
  F_is_ascending : Fun K "is_ascending" "is_ascending" s_is_ascending a.f_is_ascending a.fd_is_ascending
  b_is_ascending : Binds K a.fd_is_ascending ["numbers"] []
  m_is_ascending : mg "is_ascending" = some (.ref a.f_is_ascending)
  F_partners : Fun K "partners" "partners" s_partners a.f_partners a.fd_partners
  b_partners : Binds K a.fd_partners ["table", "rows"] []
  m_partners : mg "partners" = some (.ref a.f_partners)
  F_lack_matching : Fun K "lack" "lack" s_lack_matching a.f_lack_matching a.fd_lack_matching
  b_lack_matching : Binds K a.fd_lack_matching ["table", "rows"] []
  m_lack_matching : mg "lack_matching" = some (.ref a.f_lack_matching)
  F_lacks_more : Fun K "lacks_more" "lacks_more" s_lacks_more a.f_lacks_more a.fd_lacks_more
  b_lacks_more : Binds K a.fd_lacks_more ["table", "rows", "told", "bound"] []
  m_lacks_more : mg "lacks_more" = some (.ref a.f_lacks_more)
  F_least_lot : Fun K "least_lot" "least_lot" s_least_lot a.f_least_lot a.fd_least_lot
  b_least_lot : Binds K a.fd_least_lot ["table", "rows"] []
  m_least_lot : mg "least_lot" = some (.ref a.f_least_lot)
  F_turned_table : Fun K "turned_table" "turned_table" s_turned_table a.f_turned_table a.fd_turned_table
  b_turned_table : Binds K a.fd_turned_table ["table", "many"] []
  m_turned_table : mg "turned_table" = some (.ref a.f_turned_table)
  F_linked : Fun K "linked" "linked" s_linked a.f_linked a.fd_linked
  b_linked : Binds K a.fd_linked ["sky", "one", "other"] []
  m_linked : mg "linked" = some (.ref a.f_linked)
  F_shown_at : Fun K "shown_at" "shown_at" s_shown_at a.f_shown_at a.fd_shown_at
  b_shown_at : Binds K a.fd_shown_at ["sky", "one", "other"] []
  m_shown_at : mg "shown_at" = some (.ref a.f_shown_at)
  F_link_table : Fun K "link_table" "link_table" s_link_table a.f_link_table a.fd_link_table
  b_link_table : Binds K a.fd_link_table ["sky", "shown", "shown_other"] []
  m_link_table : mg "link_table" = some (.ref a.f_link_table)
  F_lack_confuse : Fun K "lack" "lack" s_lack_confuse a.f_lack_confuse a.fd_lack_confuse
  b_lack_confuse : Binds K a.fd_lack_confuse ["sky", "one", "other"] []
  m_lack_confuse : mg "lack_confuse" = some (.ref a.f_lack_confuse)
  F_unlikeness : Fun K "unlikeness" "unlikeness" s_unlikeness a.f_unlikeness a.fd_unlikeness
  b_unlikeness : Binds K a.fd_unlikeness ["sky", "one", "other"] []
  m_unlikeness : mg "unlikeness" = some (.ref a.f_unlikeness)
  F_both_lacks : Fun K "both_lacks" "both_lacks" s_both_lacks a.f_both_lacks a.fd_both_lacks
  b_both_lacks : Binds K a.fd_both_lacks ["sky", "shown", "shown_other"] []
  m_both_lacks : mg "both_lacks" = some (.ref a.f_both_lacks)
  F_lacking_lot : Fun K "lacking_lot" "lacking_lot" s_lacking_lot a.f_lacking_lot a.fd_lacking_lot
  b_lacking_lot : Binds K a.fd_lacking_lot ["sky", "one", "other"] []
  m_lacking_lot : mg "lacking_lot" = some (.ref a.f_lacking_lot)
  F_couples : Fun K "couples" "couples" s_couples a.f_couples a.fd_couples
  b_couples : Binds K a.fd_couples ["sky", "one", "other"] []
  m_couples : mg "couples" = some (.ref a.f_couples)
  F__couples : Fun K "_couples" "_couples" s__couples a.f__couples a.fd__couples
  b__couples : Binds K a.fd__couples ["sky", "shown", "shown_other"] []
  m__couples : mg "_couples" = some (.ref a.f__couples)
  F_are_confusable : Fun K "are_confusable" "are_confusable" s_are_confusable a.f_are_confusable a.fd_are_confusable
  b_are_confusable : Binds K a.fd_are_confusable ["sky", "one", "other", "missing", "false"] []
  m_are_confusable : mg "are_confusable" = some (.ref a.f_are_confusable)
  F_confusing_sighting : Fun K "confusing_sighting" "confusing_sighting" s_confusing_sighting a.f_confusing_sighting a.fd_confusing_sighting
  b_confusing_sighting : Binds K a.fd_confusing_sighting ["sky", "one", "other", "missing", "false"] []
  m_confusing_sighting : mg "confusing_sighting" = some (.ref a.f_confusing_sighting)
  F_common_sighting : Fun K "common_sighting" "common_sighting" s_common_sighting a.f_common_sighting a.fd_common_sighting
  b_common_sighting : Binds K a.fd_common_sighting ["sky", "one", "other", "missing", "missing_other"] []
  m_common_sighting : mg "common_sighting" = some (.ref a.f_common_sighting)
  F_common_spot : Fun K "common_spot" "common_spot" s_common_spot a.f_common_spot a.fd_common_spot
  b_common_spot : Binds K a.fd_common_spot ["sky", "look", "other_look"] []
  m_common_spot : mg "common_spot" = some (.ref a.f_common_spot)
  F__own_spots : Fun K "_own_spots" "_own_spots" s__own_spots a.f__own_spots a.fd__own_spots
  b__own_spots : Binds K a.fd__own_spots ["sky", "shown", "coupled", "missing"] []
  m__own_spots : mg "_own_spots" = some (.ref a.f__own_spots)
  F_parting_paper : Fun K "parting_paper" "parting_paper" s_parting_paper a.f_parting_paper a.fd_parting_paper
  b_parting_paper : Binds K a.fd_parting_paper ["sky", "one", "other", "missing", "false"] []
  m_parting_paper : mg "parting_paper" = some (.ref a.f_parting_paper)
  F_check_parting : Fun K "check_parting" "check_parting" s_check_parting a.f_check_parting a.fd_check_parting
  b_check_parting : Binds K a.fd_check_parting ["sky", "one", "other", "missing", "false", "paper"] []
  m_check_parting : mg "check_parting" = some (.ref a.f_check_parting)
  F_confusable_with : Fun K "confusable_with" "confusable_with" s_confusable_with a.f_confusable_with a.fd_confusable_with
  b_confusable_with : Binds K a.fd_confusable_with ["sky", "one", "missing", "false"] []
  m_confusable_with : mg "confusable_with" = some (.ref a.f_confusable_with)
  F__law_row : Fun K "_law_row" "_law_row" s__law_row a.f__law_row a.fd__law_row
  b__law_row : Binds K a.fd__law_row ["cell", "many"] []
  m__law_row : mg "_law_row" = some (.ref a.f__law_row)
  F__law_numbers : Fun K "_law_numbers" "_law_numbers" s__law_numbers a.f__law_numbers a.fd__law_numbers
  b__law_numbers : Binds K a.fd__law_numbers ["script", "many"] []
  m__law_numbers : mg "_law_numbers" = some (.ref a.f__law_numbers)
  F__law_camera : Fun K "_law_camera" "_law_camera" s__law_camera a.f__law_camera a.fd__law_camera
  b__law_camera : Binds K a.fd__law_camera ["numbers", "at", "side"] []
  m__law_camera : mg "_law_camera" = some (.ref a.f__law_camera)
  F__law_stars : Fun K "_law_stars" "_law_stars" s__law_stars a.f__law_stars a.fd__law_stars
  b__law_stars : Binds K a.fd__law_stars ["numbers", "at", "side", "many"] []
  m__law_stars : mg "_law_stars" = some (.ref a.f__law_stars)
  F__law_parts : Fun K "_law_parts" "_law_parts" s__law_parts a.f__law_parts a.fd__law_parts
  b__law_parts : Binds K a.fd__law_parts ["numbers", "at", "sides", "many"] []
  m__law_parts : mg "_law_parts" = some (.ref a.f__law_parts)
  F__law_made : Fun K "_law_made" "_law_made" s__law_made a.f__law_made a.fd__law_made
  b__law_made : Binds K a.fd__law_made ["parts"] []
  m__law_made : mg "_law_made" = some (.ref a.f__law_made)
  F__law_attitude : Fun K "_law_attitude" "_law_attitude" s__law_attitude a.f__law_attitude a.fd__law_attitude
  b__law_attitude : Binds K a.fd__law_attitude ["numbers", "at", "side"] []
  m__law_attitude : mg "_law_attitude" = some (.ref a.f__law_attitude)
  F__law_beside : Fun K "_law_beside" "_law_beside" s__law_beside a.f__law_beside a.fd__law_beside
  b__law_beside : Binds K a.fd__law_beside ["numbers", "at", "side", "one"] []
  m__law_beside : mg "_law_beside" = some (.ref a.f__law_beside)
  F__law_turned : Fun K "_law_turned" "_law_turned" s__law_turned a.f__law_turned a.fd__law_turned
  b__law_turned : Binds K a.fd__law_turned ["quarter", "x", "y"] []
  m__law_turned : mg "_law_turned" = some (.ref a.f__law_turned)
  F__law_offsets : Fun K "_law_offsets" "_law_offsets" s__law_offsets a.f__law_offsets a.fd__law_offsets
  b__law_offsets : Binds K a.fd__law_offsets ["parts", "attitude"] []
  m__law_offsets : mg "_law_offsets" = some (.ref a.f__law_offsets)
  F__law_seen : Fun K "_law_seen" "_law_seen" s__law_seen a.f__law_seen a.fd__law_seen
  b__law_seen : Binds K a.fd__law_seen ["parts", "attitude"] []
  m__law_seen : mg "_law_seen" = some (.ref a.f__law_seen)
  F__law_common : Fun K "_law_common" "_law_common" s__law_common a.f__law_common a.fd__law_common
  b__law_common : Binds K a.fd__law_common ["low", "high", "one", "other", "by"] []
  m__law_common : mg "_law_common" = some (.ref a.f__law_common)
  F__law_links : Fun K "_law_links" "_law_links" s__law_links a.f__law_links a.fd__law_links
  b__law_links : Binds K a.fd__law_links ["parts", "one", "other"] []
  m__law_links : mg "_law_links" = some (.ref a.f__law_links)
  F__law_called : Fun K "_law_called" "_law_called" s__law_called a.f__law_called a.fd__law_called
  b__law_called : Binds K a.fd__law_called ["kind", "made", "one", "other"] []
  m__law_called : mg "_law_called" = some (.ref a.f__law_called)
  F__law_refused : Fun K "_law_refused" "_law_refused" s__law_refused a.f__law_refused a.fd__law_refused
  b__law_refused : Binds K a.fd__law_refused ["kind", "made", "one", "other", "bad"] []
  m__law_refused : mg "_law_refused" = some (.ref a.f__law_refused)
  F_law : Fun K "law" "law" s_law a.f_law a.fd_law
  cl_Sky : Cls K a.c_Sky
  m_Sky : mg "Sky" = some (.ref a.c_Sky)
  M_Sky : Mk K a.c_Sky a.f_Skyx_initx
  n_Sky__side : NoAttr K a.c_Sky "_side"
  n_Sky__stars : NoAttr K a.c_Sky "_stars"
  n_Sky__camera : NoAttr K a.c_Sky "_camera"
  S_InvalidAttitude : PySem.SwX.SErr P K mg "InvalidAttitude" "attitude" a.c_InvalidAttitude a.i_InvalidAttitude
  E_InvalidSky : PlainErr K mg "InvalidSky" a.c_InvalidSky
  g_SkyError : mg "SkyError" = some (.ref a.c_SkyError)
  g_InvalidSky : mg "InvalidSky" = some (.ref a.c_InvalidSky)
  X_InvalidAttitude : ErrC K a.c_InvalidAttitude
  kinds : kindsB K [a.c_InvalidAttitude] = true
  under : underB K [a.c_InvalidAttitude] a.c_SkyError = true
  apart : decide [a.c_InvalidAttitude].Nodup = true
  m_MOST_STARS : mg "MOST_STARS" = some a.u_MOST_STARS
  v_MOST_STARS : ∃ t, a.u_MOST_STARS = .int 20 t
  m_BRIGHTEST : mg "BRIGHTEST" = some a.u_BRIGHTEST
  v_BRIGHTEST : ∃ t, a.u_BRIGHTEST = .int 9 t
  z_len : mg "len" = none
  z_abs : mg "abs" = none
  z_int : mg "int" = none
  z_max : mg "max" = none
  z_range : mg "range" = none
  z_tuple : mg "tuple" = none
  z_all : mg "all" = none
  z_any : mg "any" = none
  z_isinstance : mg "isinstance" = none
  z_sorted : mg "sorted" = none
  z_repr : mg "repr" = none
  z_set : mg "set" = none
  z_enumerate : mg "enumerate" = none
  z_zip : mg "zip" = none
section
variable {P : Program} {w : World} {K : PySem.W.Frag} {mg : Str → Option Value} {base : Heap} {a : Ad}
theorem ok_quarter_turned (T : Txt P K mg a) : FnOk P w K mg base CX0 1 a.f_quarter_turned a.fd_quarter_turned ["quarters", "pair"] (spTurn K) := by
  refine T.F_quarter_turned.ok sc_quarter_turned (fun vs H Q E h => ?_) (fun cdv A outer s H vs Q E hr h => ?_)
  · obtain ⟨q, x, y, p, rfl, _⟩ := h
    rfl
  · obtain ⟨q, x, y, p, rfl, hS, k⟩ := h
    refine ⟨_, (pss_cons (ps_asg (pv 1) (pg_tup rfl (pgs_cons (pg_name (i := 2) sc_quarter_turned.nd rfl (.inl rfl)) (pgs_cons (pg_name (i := 3) sc_quarter_turned.nd rfl (.inl rfl)) pgs_nil))))
      (pss_cons (ps_set (i := 4) sc_quarter_turned.nd rfl (.inl rfl) (pe_op op_mod (pv 0) pe_int))
      (pss_cons (ps_if (pt_cmpR op_eq (pv 4) pe_int (nomark _)) (pss_one (ps_ret (pe_tupM (pa_cons (pe_un un_neg (pv 3)) (pa_cons (pv 2) pa_nil))))) pss_nil)
      (pss_cons (ps_if (pt_cmpR op_eq (pv 4) pe_int (nomark _)) (pss_one (ps_ret (pe_tupM (pa_cons (pe_un un_neg (pv 2)) (pa_cons (pe_un un_neg (pv 3)) pa_nil))))) pss_nil)
      (pss_cons (ps_if (pt_cmpR op_eq (pv 4) pe_int (nomark _)) (pss_one (ps_ret (pe_tupM (pa_cons (pv 3) (pa_cons (pe_un un_neg (pv 2)) pa_nil))))) pss_nil)
      (pss_one (ps_ret (pe_tupM (pa_cons (pv 2) (pa_cons (pv 3) pa_nil)))))))))), ?_⟩
    refine ⟨.ref p, rfl, p, _, rfl, hS, rfl, _, _, rfl, _, _, rfl, rfl, ?_⟩
    refine ⟨_, rfl, _, _, rfl, rfl, (by show (0 : Int) < 4; decide), ?_⟩
    refine ⟨_, rfl, rfl, _, rfl, ite2 (fun hg => ?_) (fun hg => ?_)⟩
    · have e : q % 4 = 1 := V.int.inj (of_decide_eq_true hg)
      refine ⟨_, rfl, _, rfl, _, rfl, (by show 2 ≤ sizeLine; decide), fun p' H' s1 t1 => k H' p' s1 ?_⟩
      unfold turnX turnY
      rw [if_pos e, if_pos e]
      exact t1
    have n1 : ¬ q % 4 = 1 := fun z => hg (decide_eq_true (congrArg V.int z))
    refine ⟨_, rfl, rfl, _, rfl, ite2 (fun hg => ?_) (fun hg => ?_)⟩
    · have e : q % 4 = 2 := V.int.inj (of_decide_eq_true hg)
      refine ⟨_, rfl, _, rfl, _, rfl, _, rfl, (by show 2 ≤ sizeLine; decide), fun p' H' s1 t1 => k H' p' s1 ?_⟩
      unfold turnX turnY
      rw [if_neg n1, if_neg n1, if_pos e, if_pos e]
      exact t1
    have n2 : ¬ q % 4 = 2 := fun z => hg (decide_eq_true (congrArg V.int z))
    refine ⟨_, rfl, rfl, _, rfl, ite2 (fun hg => ?_) (fun hg => ?_)⟩
    · have e : q % 4 = 3 := V.int.inj (of_decide_eq_true hg)
      refine ⟨_, rfl, _, rfl, _, rfl, (by show 2 ≤ sizeLine; decide), fun p' H' s1 t1 => k H' p' s1 ?_⟩
      unfold turnX turnY
      rw [if_neg n1, if_neg n1, if_neg n2, if_neg n2, if_pos e, if_pos e]
      exact t1
    have n3 : ¬ q % 4 = 3 := fun z => hg (decide_eq_true (congrArg V.int z))
    refine ⟨_, rfl, _, rfl, (by show 2 ≤ sizeLine; decide), fun p' H' s1 t1 => k H' p' s1 ?_⟩
    unfold turnX turnY
    rw [if_neg n1, if_neg n1, if_neg n2, if_neg n2, if_neg n3, if_neg n3]
    exact t1

theorem ok_is_pose (T : Txt P K mg a) : FnOk P w K mg base CX0 1 a.f_is_pose a.fd_is_pose ["side", "told"] (spIs K isPose) := by
  refine T.F_is_pose.ok sc_is_pose (fun vs H Q E h => ?_) (fun cdv A outer s H vs Q E hr h => ?_)
  · obtain ⟨n, p, ns, rfl, _⟩ := h
    rfl
  · obtain ⟨n, p, ns, rfl, hS, k⟩ := h
    refine ⟨_, (pss_cons (ps_if (pt_cmpR op_ne (pe_callB call_len_seq (by rfl) T.z_len (by decide +kernel) (pa_cons (pv 1) pa_nil)) pe_int (nomark _)) (pss_one (ps_ret pe_bl)) pss_nil)
      (pss_cons (ps_asg (pv 1) (pg_tup rfl (pgs_cons (pg_name (i := 2) sc_is_pose.nd rfl (.inl rfl)) (pgs_cons (pg_name (i := 3) sc_is_pose.nd rfl (.inl rfl)) (pgs_cons (pg_name (i := 4) sc_is_pose.nd rfl (.inl rfl)) pgs_nil)))))
      (pss_one (ps_ret (pe_and (pe_chain op_le op_lt pe_int (pv 2) (pv 0)) (pe_and (pe_chain op_le op_lt pe_int (pv 3) (pv 0)) (pe_one (pe_chain op_le op_le pe_int (pv 4) pe_int)))))))), ?_⟩
    refine ⟨.ref p, rfl, p, _, rfl, .inr hS, rfl, _, rfl, ite2 (fun hg => ?_) (fun hg => ?_)⟩
    · have e : isPose n ns = false := pose_len (by have z := int_ne hg; rw [List.length_map] at z; exact z)
      exact e ▸ k
    · obtain ⟨x, y, q, rfl⟩ := of3 (by have z := int_eq hg; rw [List.length_map] at z; exact z)
      refine ⟨.ref p, rfl, p, _, rfl, hS, rfl, _, _, rfl, _, _, rfl, _, _, rfl, rfl, ?_⟩
      have fin : ∀ b : Bool, isPose n [x, y, q] = b → Q (.bl b) H := fun b e => e ▸ k
      have no : ∀ {c : Prop} [Decidable c], ¬ (decide c = true) → ¬ c := fun h z => h (decide_eq_true z)
      have F : (¬ (0 ≤ x ∧ x < n ∧ 0 ≤ y ∧ y < n ∧ 0 ≤ q ∧ q ≤ 3)) → Q (.bl false) H := fun z => fin _ (decide_eq_false z)
      refine ⟨_, rfl, _, _, rfl, rfl, _, rfl, ite2 (fun h1 => ?_) (fun h1 => ⟨_, rfl, iteF (F fun z => h1 (decide_eq_true z.1))⟩)⟩
      refine ⟨_, rfl, _, _, rfl, rfl, _, rfl, ite2 (fun h2 => ?_) (fun h2 => F fun z => h2 (decide_eq_true z.2.1))⟩
      refine ⟨_, rfl, _, _, rfl, rfl, _, rfl, ite2 (fun h3 => ?_) (fun h3 => ⟨_, rfl, iteF (F fun z => h3 (decide_eq_true z.2.2.1))⟩)⟩
      refine ⟨_, rfl, _, _, rfl, rfl, _, rfl, ite2 (fun h4 => ?_) (fun h4 => F fun z => h4 (decide_eq_true z.2.2.2.1))⟩
      refine ⟨_, rfl, _, _, rfl, rfl, _, rfl, ite2 (fun h5 => ?_) (fun h5 => F fun z => h5 (decide_eq_true z.2.2.2.2.1))⟩
      refine ⟨_, _, rfl, rfl, ?_⟩
      refine fin _ ?_
      show decide _ = decide _
      have a1 := of_decide_eq_true h1
      have a2 := of_decide_eq_true h2
      have a3 := of_decide_eq_true h3
      have a4 := of_decide_eq_true h4
      have a5 := of_decide_eq_true h5
      by_cases z : q ≤ 3
      · rw [decide_eq_true z, decide_eq_true ⟨a1, a2, a3, a4, a5, z⟩]
      · rw [decide_eq_false z, decide_eq_false (fun w => z w.2.2.2.2.2)]

theorem ok_is_side (T : Txt P K mg a) : FnOk P w K mg base CX0 1 a.f_is_side a.fd_is_side ["side"] spSide := by
  refine T.F_is_side.ok sc_is_side (fun vs H Q E h => ?_) (fun cdv A outer s H vs Q E hr h => ?_)
  · obtain ⟨n, rfl, _⟩ := h
    rfl
  · obtain ⟨n, rfl, k⟩ := h
    refine ⟨_, (pss_one (ps_ret (pe_chain op_le op_le pe_int (pv 0) pe_int))), ?_⟩
    refine ⟨_, rfl, _, _, rfl, rfl, _, rfl, ite2 (fun h1 => ⟨_, _, rfl, rfl, ?_⟩) (fun h1 => ?_)⟩
    · have a1 : 4 ≤ n := of_decide_eq_true h1
      show Q (.bl (decide (n ≤ 9))) H
      by_cases z : n ≤ 9
      · rw [decide_eq_true z]
        rw [decide_eq_true ⟨a1, z⟩] at k
        exact k
      · rw [decide_eq_false z]
        rw [decide_eq_false (fun y => z y.2)] at k
        exact k
    · rw [decide_eq_false (fun y => h1 (decide_eq_true y.1))] at k
      exact k

theorem ok_is_star (T : Txt P K mg a) : FnOk P w K mg base CX0 1 a.f_is_star a.fd_is_star ["side", "star"] (spIs K isStar) := by
  refine T.F_is_star.ok sc_is_star (fun vs H Q E h => ?_) (fun cdv A outer s H vs Q E hr h => ?_)
  · obtain ⟨n, p, ns, rfl, _⟩ := h
    rfl
  · obtain ⟨n, p, ns, rfl, hS, k⟩ := h
    refine ⟨_, (pss_cons (ps_if (pt_cmpR op_ne (pe_callB call_len_seq (by rfl) T.z_len (by decide +kernel) (pa_cons (pv 1) pa_nil)) pe_int (nomark _)) (pss_one (ps_ret pe_bl)) pss_nil)
      (pss_cons (ps_asg (pv 1) (pg_tup rfl (pgs_cons (pg_name (i := 2) sc_is_star.nd rfl (.inl rfl)) (pgs_cons (pg_name (i := 3) sc_is_star.nd rfl (.inl rfl)) (pgs_cons (pg_name (i := 4) sc_is_star.nd rfl (.inl rfl)) pgs_nil)))))
      (pss_one (ps_ret (pe_and (pe_chain op_le op_lt pe_int (pv 2) (pv 0)) (pe_and (pe_chain op_le op_lt pe_int (pv 3) (pv 0)) (pe_one (pe_chain op_le op_le pe_int (pv 4) (pe_glob (v := .int 9) rfl T.m_BRIGHTEST T.v_BRIGHTEST))))))))), ?_⟩
    refine ⟨.ref p, rfl, p, _, rfl, .inr hS, rfl, _, rfl, ite2 (fun hg => ?_) (fun hg => ?_)⟩
    · have e : isStar n ns = false := star_len (by have z := int_ne hg; rw [List.length_map] at z; exact z)
      exact e ▸ k
    · obtain ⟨x, y, q, rfl⟩ := of3 (by have z := int_eq hg; rw [List.length_map] at z; exact z)
      refine ⟨.ref p, rfl, p, _, rfl, hS, rfl, _, _, rfl, _, _, rfl, _, _, rfl, rfl, ?_⟩
      have fin : ∀ b : Bool, isStar n [x, y, q] = b → Q (.bl b) H := fun b e => e ▸ k
      have no : ∀ {c : Prop} [Decidable c], ¬ (decide c = true) → ¬ c := fun h z => h (decide_eq_true z)
      have F : (¬ (0 ≤ x ∧ x < n ∧ 0 ≤ y ∧ y < n ∧ 1 ≤ q ∧ q ≤ 9)) → Q (.bl false) H := fun z => fin _ (decide_eq_false z)
      refine ⟨_, rfl, _, _, rfl, rfl, _, rfl, ite2 (fun h1 => ?_) (fun h1 => ⟨_, rfl, iteF (F fun z => h1 (decide_eq_true z.1))⟩)⟩
      refine ⟨_, rfl, _, _, rfl, rfl, _, rfl, ite2 (fun h2 => ?_) (fun h2 => F fun z => h2 (decide_eq_true z.2.1))⟩
      refine ⟨_, rfl, _, _, rfl, rfl, _, rfl, ite2 (fun h3 => ?_) (fun h3 => ⟨_, rfl, iteF (F fun z => h3 (decide_eq_true z.2.2.1))⟩)⟩
      refine ⟨_, rfl, _, _, rfl, rfl, _, rfl, ite2 (fun h4 => ?_) (fun h4 => F fun z => h4 (decide_eq_true z.2.2.2.1))⟩
      refine ⟨_, rfl, _, _, rfl, rfl, _, rfl, ite2 (fun h5 => ?_) (fun h5 => F fun z => h5 (decide_eq_true z.2.2.2.2.1))⟩
      refine ⟨_, _, rfl, rfl, ?_⟩
      refine fin _ ?_
      show decide _ = decide _
      have a1 := of_decide_eq_true h1
      have a2 := of_decide_eq_true h2
      have a3 := of_decide_eq_true h3
      have a4 := of_decide_eq_true h4
      have a5 := of_decide_eq_true h5
      by_cases z : q ≤ 9
      · rw [decide_eq_true z, decide_eq_true ⟨a1, a2, a3, a4, a5, z⟩]
      · rw [decide_eq_false z, decide_eq_false (fun w => z w.2.2.2.2.2)]

theorem ok_is_camera (T : Txt P K mg a) : FnOk P w K mg base CX0 1 a.f_is_camera a.fd_is_camera ["side", "camera"] (spIs K isCam) := by
  refine T.F_is_camera.ok sc_is_camera (fun vs H Q E h => ?_) (fun cdv A outer s H vs Q E hr h => ?_)
  · obtain ⟨n, p, ns, rfl, _⟩ := h
    rfl
  · obtain ⟨n, p, ns, rfl, hS, k⟩ := h
    refine ⟨_, (pss_cons (ps_if (pt_cmpR op_ne (pe_callB call_len_seq (by rfl) T.z_len (by decide +kernel) (pa_cons (pv 1) pa_nil)) pe_int (nomark _)) (pss_one (ps_ret pe_bl)) pss_nil)
      (pss_cons (ps_asg (pv 1) (pg_tup rfl (pgs_cons (pg_name (i := 2) sc_is_camera.nd rfl (.inl rfl)) (pgs_cons (pg_name (i := 3) sc_is_camera.nd rfl (.inl rfl)) (pgs_cons (pg_name (i := 4) sc_is_camera.nd rfl (.inl rfl)) (pgs_cons (pg_name (i := 5) sc_is_camera.nd rfl (.inl rfl)) pgs_nil))))))
      (pss_cons (ps_if (pt_not (PW.pt (pw_and (pt_chain op_le op_le pe_int (pv 2) pe_int) (pw_and (pt_chain op_le op_le pe_int (pv 3) pe_int) (pw_and (pt_chain op_le op_le pe_int (pv 4) pe_int) (pw_and1 (pt_chain op_le op_le pe_int (pv 5) (pe_glob (v := .int 9) rfl T.m_BRIGHTEST T.v_BRIGHTEST)))))))) (pss_one (ps_ret pe_bl)) pss_nil)
      (pss_one (ps_ret (pe_and (pe_cmpR op_le (pv 3) (pv 2) (nomark _)) (pe_one (pe_cmpR op_le (pe_op op_add (pe_op op_mul pe_int (pe_op op_add (pv 2) (pv 3))) pe_int) (pv 0) (nomark _))))))))), ?_⟩
    refine ⟨.ref p, rfl, p, _, rfl, .inr hS, rfl, _, rfl, ite2 (fun hg => ?_) (fun hg => ?_)⟩
    · have e : isCam n ns = false := cam_len (by have z := int_ne hg; rw [List.length_map] at z; exact z)
      exact e ▸ k
    · obtain ⟨r, b, g, l, rfl⟩ := of4 (by have z := int_eq hg; rw [List.length_map] at z; exact z)
      refine ⟨.ref p, rfl, p, _, rfl, hS, rfl, _, _, rfl, _, _, rfl, _, _, rfl, _, _, rfl, rfl, ?_⟩
      have F : ¬ (0 ≤ r ∧ r ≤ 4 ∧ 0 ≤ b ∧ b ≤ 2 ∧ 0 ≤ g ∧ g ≤ 2 ∧ 1 ≤ l ∧ l ≤ 9 ∧ b ≤ r ∧ 2 * (r + b) + 1 ≤ n) → Q (.bl false) H := fun z => (show isCam n [r, b, g, l] = false from decide_eq_false z) ▸ k
      refine ⟨_, rfl, _, _, rfl, rfl, _, rfl, ite2 (fun h1 => ⟨_, _, rfl, rfl, _, rfl, ?_⟩) (fun h1 => ⟨_, rfl, iteF (iteT (F fun z => h1 (decide_eq_true z.1)))⟩)⟩
      refine ite2 (fun h2 => ?_) (fun h2 => iteT (F fun z => h2 (decide_eq_true z.2.1)))
      refine ⟨_, rfl, _, _, rfl, rfl, _, rfl, ite2 (fun h3 => ⟨_, _, rfl, rfl, _, rfl, ?_⟩) (fun h3 => ⟨_, rfl, iteF (iteT (F fun z => h3 (decide_eq_true z.2.2.1)))⟩)⟩
      refine ite2 (fun h4 => ?_) (fun h4 => iteT (F fun z => h4 (decide_eq_true z.2.2.2.1)))
      refine ⟨_, rfl, _, _, rfl, rfl, _, rfl, ite2 (fun h5 => ⟨_, _, rfl, rfl, _, rfl, ?_⟩) (fun h5 => ⟨_, rfl, iteF (iteT (F fun z => h5 (decide_eq_true z.2.2.2.2.1)))⟩)⟩
      refine ite2 (fun h6 => ?_) (fun h6 => iteT (F fun z => h6 (decide_eq_true z.2.2.2.2.2.1)))
      refine ⟨_, rfl, _, _, rfl, rfl, _, rfl, ite2 (fun h7 => ⟨_, _, rfl, rfl, _, rfl, ?_⟩) (fun h7 => ⟨_, rfl, iteT (F fun z => h7 (decide_eq_true z.2.2.2.2.2.2.1))⟩)⟩
      refine ite2 (fun hz => F fun z => ?_) (fun hz => ?_)
      · rw [decide_eq_true z.2.2.2.2.2.2.2.1] at hz
        cases hz
      have h8 : l ≤ 9 := by
        by_cases z : l ≤ 9
        · exact z
        · exact absurd (by rw [decide_eq_false z]; rfl) hz
      refine ⟨_, rfl, _, rfl, _, _, rfl, rfl, _, rfl, ite2 (fun h9 => ?_) (fun h9 => F fun z => h9 (decide_eq_true z.2.2.2.2.2.2.2.2.1))⟩
      refine ⟨_, rfl, _, rfl, _, _, rfl, rfl, _, _, rfl, rfl, .inl (by constructor <;> decide), _, _, rfl, rfl, _, rfl, _, _, rfl, rfl, ?_⟩
      have a1 := of_decide_eq_true h1
      have a2 := of_decide_eq_true h2
      have a3 := of_decide_eq_true h3
      have a4 := of_decide_eq_true h4
      have a5 := of_decide_eq_true h5
      have a6 := of_decide_eq_true h6
      have a7 := of_decide_eq_true h7
      have a9 := of_decide_eq_true h9
      show Q (.bl (decide (2 * (r + b) + 1 ≤ n))) H
      by_cases z : 2 * (r + b) + 1 ≤ n
      · rw [decide_eq_true z]
        exact (show isCam n [r, b, g, l] = true from decide_eq_true ⟨a1, a2, a3, a4, a5, a6, a7, h8, a9, z⟩) ▸ k
      · rw [decide_eq_false z]
        exact F fun y => z y.2.2.2.2.2.2.2.2.2

theorem ok__check_sky (T : Txt P K mg a) : FnOk P w K mg base (L2.CX P w) 2 a.f__check_sky a.fd__check_sky ["side", "stars", "camera"] (spCheck K a.c_InvalidSky) := by
  refine T.F__check_sky.okX sc__check_sky (fun vs H Q E h => ?_) (fun cdv A outer s H vs Q E hr h => ?_)
  · obtain ⟨n, l, c, ks, cam, rfl, _⟩ := h
    rfl
  · obtain ⟨n, l, c, ks, cam, rfl, hl, ht, hc, hk, k1, k2⟩ := h
    refine ⟨_, (pss_cons (ps_if (pt_not (pt_val (pe_call (ok_is_side T) (hr.mono (by decide)) (by rfl) T.m_is_side T.F_is_side.kp T.b_is_side .nil pass0 (pa_cons (pv 0) pa_nil)))) (pss_one (ps_raise rfl (takes_of rfl rfl rfl rfl) (pmk_own PySem.F.excBase_ValueError T.E_InvalidSky.x T.E_InvalidSky.g T.E_InvalidSky.k (raises_own T.E_InvalidSky.b T.E_InvalidSky.t) rfl))) pss_nil)
      (pss_cons (ps_for (passes_of rfl) rfl (pi_list (pv 1)) (pg_name (i := 3) sc__check_sky.nd rfl (.inl rfl)) (pss_one (ps_if (pt_not (pt_val (pe_call (ok_is_star T) (hr.mono (by decide)) (by rfl) T.m_is_star T.F_is_star.kp T.b_is_star .nil pass0 (pa_cons (pv 0) (pa_cons (pv 3) pa_nil))))) (pss_one (ps_raise rfl (takes_of rfl rfl rfl rfl) (pmk_own PySem.F.excBase_ValueError T.E_InvalidSky.x T.E_InvalidSky.g T.E_InvalidSky.k (raises_own T.E_InvalidSky.b T.E_InvalidSky.t) rfl))) pss_nil)))
      (pss_cons (ps_if (pt_cmpR op_lt (pe_callB cr_lenT (by rfl) T.z_len (by decide +kernel) (pa_cons (pe_callTy (cr_setOfT rfl hr.units) (by rfl) T.z_set (by decide +kernel) (pa_cons (pv 1) pa_nil)) pa_nil)) (pe_callB call_len_seq (by rfl) T.z_len (by decide +kernel) (pa_cons (pv 1) pa_nil)) (nomark _)) (pss_one (ps_raise rfl (takes_of rfl rfl rfl rfl) (pmk_own PySem.F.excBase_ValueError T.E_InvalidSky.x T.E_InvalidSky.g T.E_InvalidSky.k (raises_own T.E_InvalidSky.b T.E_InvalidSky.t) rfl))) pss_nil)
      (pss_cons (ps_if (pt_cmpR op_gt (pe_callB call_len_seq (by rfl) T.z_len (by decide +kernel) (pa_cons (pv 1) pa_nil)) (pe_glob (v := .int 20) rfl T.m_MOST_STARS T.v_MOST_STARS) (nomark _)) (pss_one (ps_raise rfl (takes_of rfl rfl rfl rfl) (pmk_own PySem.F.excBase_ValueError T.E_InvalidSky.x T.E_InvalidSky.g T.E_InvalidSky.k (raises_own T.E_InvalidSky.b T.E_InvalidSky.t) rfl))) pss_nil)
      (pss_one (ps_if (pt_not (pt_val (pe_call (ok_is_camera T) (hr.mono (by decide)) (by rfl) T.m_is_camera T.F_is_camera.kp T.b_is_camera .nil pass0 (pa_cons (pv 0) (pa_cons (pv 2) pa_nil))))) (pss_one (ps_raise rfl (takes_of rfl rfl rfl rfl) (pmk_own PySem.F.excBase_ValueError T.E_InvalidSky.x T.E_InvalidSky.g T.E_InvalidSky.k (raises_own T.E_InvalidSky.b T.E_InvalidSky.t) rfl))) pss_nil)))))), ?_⟩
    refine ⟨_, rfl, n, rfl, _, rfl, ?_⟩
    by_cases hn : 4 ≤ n ∧ n ≤ 9
    rotate_left
    · have bad : isSky n (keys ks) cam = false := by unfold isSky; rw [decide_eq_false hn]; rfl
      rw [decide_eq_false hn]
      exact iteT (k2 bad _ (Same.refl _))
    rw [decide_eq_true hn]
    refine iteF ?_
    refine ⟨.ref l, rfl, l, rfl, ⟨_, hl⟩, for_list (K := K) (a := l) (xs := refs ks) (fun i σ H2 => ∃ z : Option V, σ = [some (.int n), some (.ref l), some (.ref c), z] ∧ H2 = H ∧ ∀ p ∈ ks.take i, isStar n p.2 = true) ⟨_, rfl, rfl, fun p hp => by cases hp⟩ (fun i σ H2 _ ⟨_, _, e, _⟩ => by rw [e]; exact hl) ?_ ?_⟩
    · rintro i y σ H2 hi ⟨z, rfl, rfl, hs⟩
      obtain ⟨p, hp, rfl⟩ : ∃ p, ks[i]? = some p ∧ y = V.ref p.1 := by
        unfold refs at hi
        rw [List.getElem?_map] at hi
        cases e : ks[i]? with
        | none => rw [e] at hi; cases hi
        | some p => rw [e] at hi; exact ⟨p, rfl, (Option.some.inj hi).symm⟩
      refine ⟨_, rfl, .ref p.1, rfl, n, p.1, p.2, rfl, ht p (List.mem_of_getElem? hp), _, rfl, ?_⟩
      cases e : isStar n p.2 with
      | true =>
        refine iteF ⟨_, rfl, rfl, fun q hq => ?_⟩
        rw [List.take_add_one, hp] at hq
        rcases List.mem_append.mp hq with hq | hq
        · exact hs q hq
        · simp at hq
          rw [hq]
          exact e
      | false =>
        have bad : isSky n (keys ks) cam = false := by
          have z : (keys ks).all (isStar n) = false := by
            rw [List.all_eq_false]
            exact ⟨p.2, List.mem_map_of_mem (List.mem_of_getElem? hp), by rw [e]; simp⟩
          unfold isSky
          rw [z, Bool.and_false]
          rfl
        exact iteT (k2 bad _ (Same.refl _))
    · rintro σ H2 ⟨z, rfl, rfl, hs⟩
      have hall : (keys ks).all (isStar n) = true := List.all_eq_true.mpr fun x hx => by
        obtain ⟨p, hp, rfl⟩ := List.mem_map.mp hx
        exact hs p (by rw [List.take_of_length_le (by rw [refs_len]; exact Nat.le_refl _)]; exact hp)
      refine ⟨.ref l, rfl, l, ks, rfl, hl, ht, hk, fun b L nb h1 h2 => ⟨b, L, rfl, upd_same, fun hnd => ?_⟩⟩
      have s3 : Same H2 (upd H2 b (SetTO P w b L)) := same_new nb
      refine ⟨.ref l, rfl, l, _, rfl, .inl (s3.seq hl), _, _, rfl, rfl, _, rfl, ?_⟩
      have sl := set_len h1 h2 hnd
      by_cases hd : (keys ks).Nodup
      rotate_left
      · have bad : isSky n (keys ks) cam = false := by
          unfold isSky
          rw [decide_eq_false hd, Bool.and_false]
          rfl
        have g : ((L.length : Nat) : Int) < (((refs ks).length : Nat) : Int) := by
          rw [refs_len]
          have := sl.mpr hd
          omega
        exact iteD2 g (k2 bad _ s3)
      have g : ¬ ((L.length : Nat) : Int) < (((refs ks).length : Nat) : Int) := by
        rw [refs_len]
        intro z
        exact sl.mp (by omega) hd
      refine iteD3 g ?_
      refine ⟨.ref l, rfl, l, _, rfl, .inl (s3.seq hl), _, _, rfl, rfl, _, rfl, ?_⟩
      by_cases h20 : ks.length ≤ 20
      rotate_left
      · have bad : isSky n (keys ks) cam = false := by
          unfold isSky
          rw [show decide ((keys ks).length ≤ 20) = false from decide_eq_false (by rw [keys_len]; exact h20), Bool.and_false]
          rfl
        exact iteD2 (by rw [refs_len]; omega) (k2 bad _ s3)
      refine iteD3 (by rw [refs_len]; omega) ?_
      refine ⟨_, rfl, .ref c, rfl, n, c, cam, rfl, sqT_up s3 hc, _, rfl, ?_⟩
      have e : isSky n (keys ks) cam = isCam n cam := by
        unfold isSky
        rw [decide_eq_true hn, hall, decide_eq_true hd, show decide ((keys ks).length ≤ 20) = true from decide_eq_true (by rw [keys_len]; exact h20)]
        rfl
      cases ec : isCam n cam with
      | true => exact iteF (k1 (e.trans ec) _ s3)
      | false => exact iteT (k2 (e.trans ec) _ s3)

theorem ok_Skyx_initx (T : Txt P K mg a) : FnOk P w K mg base (L2.CX P w) 3 a.f_Skyx_initx a.fd_Skyx_initx ["self", "side", "stars", "camera"] (spInit K a.c_Sky a.c_InvalidSky) := by
  refine T.F_Skyx_initx.okX sc_Skyx_initx (fun vs H Q E h => ?_) (fun cdv A outer s H vs Q E hr h => ?_)
  · obtain ⟨x, dx, n, p, c, ks, cam, rfl, _⟩ := h
    rfl
  · obtain ⟨x, dx, n, p, c, ks, cam, rfl, hx, hp, ht, hc, hk, k, kE⟩ := h
    refine ⟨_, (pss_cons (ps_expr (pe_call (ok__check_sky T) (hr.mono (by decide)) (by rfl) T.m__check_sky T.F__check_sky.kp T.b__check_sky .nil (passes_call (takes_of rfl rfl rfl rfl) (fun _ _ _ _ h => h)) (pa_cons (pv 1) (pa_cons (pv 2) (pa_cons (pv 3) pa_nil)))))
      (pss_cons (ps_fld (pv 0) (pv 1) rfl)
      (pss_cons (ps_fld (pv 0) (pe_callTy call_tuple_of (by rfl) T.z_tuple (by decide +kernel) (pa_cons (pe_callB (cr_sortM (d := 3) (B := 10) (by decide)) (by rfl) T.z_sorted (by decide +kernel) (pa_cons (pv 2) pa_nil)) pa_nil)) rfl)
      (pss_one (ps_fld (pv 0) (pv 3) rfl))))), ?_⟩
    refine ⟨_, rfl, .ref p, rfl, .ref c, rfl, n, p, c, ks, cam, rfl, hp, ht, hc, hk, fun hsky H1 s1 => ?_, fun hbad H1 s1 => kE hbad _ s1⟩
    obtain ⟨⟨h4, h9⟩, hstars, hnd, h20, hcam⟩ := sky_parts hsky
    refine ⟨_, rfl, .ref x, rfl, x, a.c_Sky, dx, [], rfl, s1 _ _ hx, T.cl_Sky, T.n_Sky__side, (by show 0 < 1000; decide), ?_⟩
    -- self._stars = tuple(sorted(stars))
    have hx1 := s1 _ _ hx
    generalize e2 : upd H1 x (.ins a.c_Sky dx (putF "_side" (.int n) [])) = H2
    have hx2 : H2 x = some (.ins a.c_Sky dx (putF "_side" (.int n) [])) := by rw [← e2]; exact upd_same
    have hp2 : SqL K H2 p (refs ks) := by rw [← e2]; exact sqL_ins hx1 (s1.seq hp)
    have hc2 : SqT K H2 c (cam.map V.int) := by rw [← e2]; exact sqT_ins hx1 (sqT_up s1 hc)
    have ht2 : TupsAt K H2 ks := fun q hq => by rw [← e2]; exact sqT_ins hx1 (sqT_up s1 (ht q hq))
    refine ⟨.ref p, rfl, p, ks, rfl, hp2, ht2, hk, stars_fit hstars h9, fun l ks' H3 s3 nl el hperm hasc => ?_⟩
    refine ⟨l, _, rfl, .inl ⟨.inl (.inl el), fun t nt => ?_⟩⟩
    have s4 : Same H2 (upd H3 t (.tup (refs ks'))) := s3.trans (same_new nt)
    generalize e4 : upd H3 t (.tup (refs ks')) = H4 at s4 ⊢
    have ht4 : SqT K H4 t (refs ks') := by rw [← e4]; exact .inl (.inl upd_same)
    have hx4 := s4 _ _ hx2
    refine ⟨.ref x, rfl, x, a.c_Sky, dx, _, rfl, hx4, T.cl_Sky, T.n_Sky__stars, (by show 1 < 1000; decide), ?_⟩
    -- self._camera = camera
    generalize e5 : upd H4 x (.ins a.c_Sky dx (putF "_stars" (.ref t) (putF "_side" (.int n) []))) = H5
    have hx5 : H5 x = some (.ins a.c_Sky dx (putF "_stars" (.ref t) (putF "_side" (.int n) []))) := by rw [← e5]; exact upd_same
    have ht5 : SqT K H5 t (refs ks') := by rw [← e5]; exact sqT_ins hx4 ht4
    have hc5 : SqT K H5 c (cam.map V.int) := by rw [← e5]; exact sqT_ins hx4 (sqT_up s4 hc2)
    have hk5 : TupsAt K H5 ks := fun q hq => by rw [← e5]; exact sqT_ins hx4 (sqT_up s4 (ht2 q hq))
    refine ⟨_, rfl, .ref x, rfl, x, a.c_Sky, dx, _, rfl, hx5, T.cl_Sky, T.n_Sky__camera, skyF_two n t, ?_⟩
    refine k hsky _ ks' ⟨⟨dx, t, c, upd_same, sqT_ins hx5 ht5, sqT_ins hx5 hc5⟩, fun q hq => sqT_ins hx5 (hk5 q (hperm.mem_iff.mp hq))⟩ hperm hasc (fun b o hb hn => ?_)
    rw [upd_ne hn, ← e5, upd_ne hn]
    refine s4 _ _ ?_
    rw [← e2, upd_ne hn]
    exact s1 _ _ hb

theorem ok_Sky_side (T : Txt P K mg a) : FnOk P w K mg base CX0 1 a.f_Sky_side a.fd_Sky_side ["self"] (spOfSide K a.c_Sky) := by
  refine T.F_Sky_side.ok sc_Sky_side (fun vs H Q E h => ?_) (fun cdv A outer s H vs Q E hr h => ?_)
  · obtain ⟨p, n, st, cam, rfl, _⟩ := h
    rfl
  · obtain ⟨p, n, st, cam, rfl, ⟨dx, ts, tc, h1, _⟩, k⟩ := h
    refine ⟨_, (pss_one (ps_ret (pe_fld (pv 0) rfl))), ?_⟩
    exact ⟨.ref p, rfl, p, a.c_Sky, dx, _, _, rfl, h1, T.cl_Sky, T.n_Sky__side, skyF_side n ts tc, k⟩

theorem ok_Sky_stars (T : Txt P K mg a) : FnOk P w K mg base CX0 1 a.f_Sky_stars a.fd_Sky_stars ["self"] (spOfStars K a.c_Sky) := by
  refine T.F_Sky_stars.ok sc_Sky_stars (fun vs H Q E h => ?_) (fun cdv A outer s H vs Q E hr h => ?_)
  · obtain ⟨p, n, st, cam, rfl, _⟩ := h
    rfl
  · obtain ⟨p, n, st, cam, rfl, ⟨dx, ts, tc, h1, h2, h3⟩, k⟩ := h
    refine ⟨_, (pss_one (ps_ret (pe_fld (pv 0) rfl))), ?_⟩
    exact ⟨.ref p, rfl, p, a.c_Sky, dx, _, _, rfl, h1, T.cl_Sky, T.n_Sky__stars, skyF_stars n ts tc, k _ h2⟩

theorem ok_Sky_reach (T : Txt P K mg a) : FnOk P w K mg base CX0 1 a.f_Sky_reach a.fd_Sky_reach ["self"] (spOfPart K a.c_Sky 0) := by
  refine T.F_Sky_reach.ok sc_Sky_reach (fun vs H Q E h => ?_) (fun cdv A outer s H vs Q E hr h => ?_)
  · obtain ⟨p, n, st, cam, z, rfl, _⟩ := h
    rfl
  · obtain ⟨p, n, st, cam, z, rfl, ⟨dx, ts, tc, h1, h2, h3⟩, hz, k⟩ := h
    refine ⟨_, (pss_one (ps_ret (pe_ix ix_seq (pe_fld (pv 0) rfl) pe_int (fun _ _ => rfl)))), ?_⟩
    exact ⟨.ref p, rfl, p, a.c_Sky, dx, _, _, rfl, h1, T.cl_Sky, T.n_Sky__camera, skyF_camera n ts tc, .inr (.inl ⟨tc, _, _, _, rfl, rfl, h3, atI_nat (by rw [List.getElem?_map, hz]; rfl), k⟩)⟩

theorem ok_Sky_blur (T : Txt P K mg a) : FnOk P w K mg base CX0 1 a.f_Sky_blur a.fd_Sky_blur ["self"] (spOfPart K a.c_Sky 1) := by
  refine T.F_Sky_blur.ok sc_Sky_blur (fun vs H Q E h => ?_) (fun cdv A outer s H vs Q E hr h => ?_)
  · obtain ⟨p, n, st, cam, z, rfl, _⟩ := h
    rfl
  · obtain ⟨p, n, st, cam, z, rfl, ⟨dx, ts, tc, h1, h2, h3⟩, hz, k⟩ := h
    refine ⟨_, (pss_one (ps_ret (pe_ix ix_seq (pe_fld (pv 0) rfl) pe_int (fun _ _ => rfl)))), ?_⟩
    exact ⟨.ref p, rfl, p, a.c_Sky, dx, _, _, rfl, h1, T.cl_Sky, T.n_Sky__camera, skyF_camera n ts tc, .inr (.inl ⟨tc, _, _, _, rfl, rfl, h3, atI_nat (by rw [List.getElem?_map, hz]; rfl), k⟩)⟩

theorem ok_Sky_glare (T : Txt P K mg a) : FnOk P w K mg base CX0 1 a.f_Sky_glare a.fd_Sky_glare ["self"] (spOfPart K a.c_Sky 2) := by
  refine T.F_Sky_glare.ok sc_Sky_glare (fun vs H Q E h => ?_) (fun cdv A outer s H vs Q E hr h => ?_)
  · obtain ⟨p, n, st, cam, z, rfl, _⟩ := h
    rfl
  · obtain ⟨p, n, st, cam, z, rfl, ⟨dx, ts, tc, h1, h2, h3⟩, hz, k⟩ := h
    refine ⟨_, (pss_one (ps_ret (pe_ix ix_seq (pe_fld (pv 0) rfl) pe_int (fun _ _ => rfl)))), ?_⟩
    exact ⟨.ref p, rfl, p, a.c_Sky, dx, _, _, rfl, h1, T.cl_Sky, T.n_Sky__camera, skyF_camera n ts tc, .inr (.inl ⟨tc, _, _, _, rfl, rfl, h3, atI_nat (by rw [List.getElem?_map, hz]; rfl), k⟩)⟩

theorem ok_Sky_limit (T : Txt P K mg a) : FnOk P w K mg base CX0 1 a.f_Sky_limit a.fd_Sky_limit ["self"] (spOfPart K a.c_Sky 3) := by
  refine T.F_Sky_limit.ok sc_Sky_limit (fun vs H Q E h => ?_) (fun cdv A outer s H vs Q E hr h => ?_)
  · obtain ⟨p, n, st, cam, z, rfl, _⟩ := h
    rfl
  · obtain ⟨p, n, st, cam, z, rfl, ⟨dx, ts, tc, h1, h2, h3⟩, hz, k⟩ := h
    refine ⟨_, (pss_one (ps_ret (pe_ix ix_seq (pe_fld (pv 0) rfl) pe_int (fun _ _ => rfl)))), ?_⟩
    exact ⟨.ref p, rfl, p, a.c_Sky, dx, _, _, rfl, h1, T.cl_Sky, T.n_Sky__camera, skyF_camera n ts tc, .inr (.inl ⟨tc, _, _, _, rfl, rfl, h3, atI_nat (by rw [List.getElem?_map, hz]; rfl), k⟩)⟩

theorem ok_attitudes (T : Txt P K mg a) : FnOk P w K mg base CX0 3 a.f_attitudes a.fd_attitudes ["sky"] (spAtts K a.c_Sky) := by
  refine T.F_attitudes.ok sc_attitudes (fun vs H Q E h => ?_) (fun cdv A outer s H vs Q E hr h => ?_)
  · obtain ⟨p, n, st, cam, rfl, _⟩ := h
    rfl
  · obtain ⟨p, n, st, cam, rfl, hK, h0, h9, k⟩ := h
    refine ⟨_, (pss_cons (ps_set (i := 1) sc_attitudes.nd rfl (.inr rfl) (pe_prop (pv 0) T.cl_Sky T.p_Sky_side (ok_Sky_side T) (hr.mono (by decide)) T.b_Sky_side .nil pass0 rfl))
      (pss_one (ps_ret (SwC.pe_lc3 (g := gName 2) (tt := tYes) (g1 := gName 3) (tt1 := tYes) (vs1 := [3, 4]) (g2 := gName 4) (tt2 := tYes) (vs2 := [4]) (own := [("x", 2), ("y", 3), ("quarter", 4)]) rfl sc_attitudes.nd (pi_range1 (by rfl) T.z_range (pa_cons (pv 1) pa_nil)) (blkOk_by (own := [("x", 2), ("y", 3), ("quarter", 4)]) (N := ["sky", "side", "x", "y", "quarter"]) (sc := defScope s_attitudes) (by decide +kernel)) (by decide) (by decide) (fun _ _ _ _ _ => (pg_name (i := 2) sc_attitudes.nd rfl (.inl rfl))) (fun _ _ _ _ _ => pts_nil) (fun _ _ _ _ _ => (pi_range1 (by rfl) T.z_range (pa_cons (pv 1) pa_nil))) (fun _ _ _ _ _ => (pg_name (i := 3) sc_attitudes.nd rfl (.inl rfl))) (fun _ _ _ _ _ => pts_nil) (fun _ _ _ _ _ => (pi_range1 (by rfl) T.z_range (pa_cons pe_int pa_nil))) (fun _ _ _ _ _ => (pg_name (i := 4) sc_attitudes.nd rfl (.inl rfl))) (fun _ _ _ _ _ => pts_nil) (fun _ _ _ _ _ => (pe_tup (pa_cons (pv 2) (pa_cons (pv 3) (pa_cons (pv 4) pa_nil))))))))), ?_⟩
    obtain ⟨dx, ts, tc, h1, _⟩ := id hK
    refine ⟨.ref p, rfl, p, dx, _, rfl, h1, p, n, st, cam, rfl, hK, ?_⟩
    obtain ⟨m, rfl⟩ := Int.eq_ofNat_of_zero_le h0
    have hm : m ≤ 9 := by omega
    refine ⟨_, rfl, (m : Int), rfl, by omega, by omega, fun D nD => SwC.cl_range (lo := 0) (n := m) (fun i H2 => ∃ ks : Tups, Same H H2 ∧ H2 D = some (.lst (refs ks)) ∧ TupsAt K H2 ks ∧ keys ks = attsI m i ∧ ks.length ≤ 36 * i) ⟨[], same_new nD, upd_same, (fun p hp => by cases hp), rfl, Nat.zero_le _⟩ ?_ ?_⟩
    · rintro i H2 hi ⟨ks, S2, e2, t2, k2, l2⟩
      refine ⟨rfl, ?_⟩
      refine ⟨_, rfl, (m : Int), rfl, by omega, by omega, SwC.cl_range (lo := 0) (n := m) (fun j H3 => ∃ ks : Tups, Same H H3 ∧ H3 D = some (.lst (refs ks)) ∧ TupsAt K H3 ks ∧ keys ks = attsI m i ++ attX i j ∧ ks.length ≤ 36 * i + 4 * j) ⟨ks, S2, e2, t2, by rw [k2]; exact (List.append_nil _).symm, by omega⟩ ?_ ?_⟩
      · rintro j H3 hj ⟨ks, S3, e3, t3, k3, l3⟩
        refine ⟨rfl, ?_⟩
        refine ⟨_, rfl, by decide, by decide, SwC.cl_range (lo := 0) (n := 4) (fun q H4 => ∃ ks : Tups, Same H H4 ∧ H4 D = some (.lst (refs ks)) ∧ TupsAt K H4 ks ∧ keys ks = (attsI m i ++ attX i j) ++ attY i j q ∧ ks.length ≤ 36 * i + 4 * j + q) ⟨ks, S3, e3, t3, by rw [k3]; exact (List.append_nil _).symm, by omega⟩ ?_ ?_⟩
        · rintro q H4 hq ⟨ks, S4, e4, t4, k4, l4⟩
          refine ⟨rfl, ?_⟩
          refine ⟨_, rfl, _, rfl, _, rfl, (by show 3 ≤ sizeLine; decide), fun p np => ?_⟩
          have s5 : Same H4 (upd H4 p (.tup [.int (0 + (i : Int)), .int (0 + (j : Int)), .int (0 + (q : Int))])) := same_new np
          have t5 : SqT K (upd H4 p (.tup [.int (0 + (i : Int)), .int (0 + (j : Int)), .int (0 + (q : Int))])) p ([(i : Int), (j : Int), (q : Int)].map V.int) := by
            rw [Int.zero_add, Int.zero_add, Int.zero_add]
            exact .inl (.inl upd_same)
          generalize upd H4 p (.tup [.int (0 + (i : Int)), .int (0 + (j : Int)), .int (0 + (q : Int))]) = H5 at s5 t5 ⊢
          have e5 := s5 _ _ e4
          refine ⟨_, e5, sizeN (by rw [refs_len]; omega), ks ++ [(p, [(i : Int), (j : Int), (q : Int)])], same_put nD (S4.trans s5), by rw [upd_same, ← refs_push], tups_app (fun z hz => sqT_lst e5 (sqT_up s5 (t4 z hz))) (tups_one (sqT_lst e5 t5)), ?_, by rw [List.length_append]; show ks.length + 1 ≤ _; omega⟩
          rw [keys_push, k4, attY_succ, List.append_assoc]
        · rintro H4 ⟨ks, S4, e4, t4, k4, l4⟩
          exact ⟨ks, S4, e4, t4, by rw [k4, attX_succ, List.append_assoc], by omega⟩
      · rintro H3 ⟨ks, S3, e3, t3, k3, l3⟩
        exact ⟨ks, S3, e3, t3, by rw [k3, attsI_succ], by omega⟩
    · rintro H2 ⟨ks, S2, e2, t2, k2, _⟩
      exact k H2 D ks S2 nD e2 t2 k2

theorem ok_check_attitude (T : Txt P K mg a) : FnOk P w K mg base (L2.CX P w) 3 a.f_check_attitude a.fd_check_attitude ["sky", "attitude"] (spAsk K a.c_Sky a.c_InvalidAttitude "attitude" isPose) := by
  refine T.F_check_attitude.okX sc_check_attitude (fun vs H Q E h => ?_) (fun cdv A outer s H vs Q E hr h => ?_)
  · obtain ⟨p, q, n, st, cam, ns, rfl, _⟩ := h
    rfl
  · obtain ⟨p, q, n, st, cam, ns, rfl, hK, hq, k1, k2⟩ := h
    refine ⟨_, (pss_one (ps_if (pt_not (pt_val (pe_call (ok_is_pose T) (hr.mono (by decide)) (by rfl) T.m_is_pose T.F_is_pose.kp T.b_is_pose .nil pass0 (pa_cons (pe_prop (pv 0) T.cl_Sky T.p_Sky_side (ok_Sky_side T) (hr.mono (by decide)) T.b_Sky_side .nil pass0 rfl) (pa_cons (pv 1) pa_nil))))) (pss_one (ps_raiseS rfl T.S_InvalidAttitude hr (takes_of rfl rfl rfl rfl) (by exact (pa_cons (pv 1) pa_nil)))) pss_nil)), ?_⟩
    obtain ⟨dx, ts, tc, h1, _⟩ := id hK
    refine ⟨.ref p, rfl, p, dx, _, rfl, h1, p, n, st, cam, rfl, hK, ?_⟩
    refine ⟨_, rfl, n, q, ns, rfl, hq, _, rfl, ?_⟩
    cases e : isPose n ns with
    | true => exact iteF (k1 e)
    | false => exact iteT ⟨_, rfl, _, rfl, fun d hd => k2 e d _ (same_new hd) upd_same⟩

theorem ok_check_two (T : Txt P K mg a) : FnOk P w K mg base (L2.CX P w) 4 a.f_check_two a.fd_check_two ["sky", "one", "other"] (spAsk2 K a.c_Sky a.c_InvalidAttitude) := by
  refine T.F_check_two.okX sc_check_two (fun vs H Q E h => ?_) (fun cdv A outer s H vs Q E hr h => ?_)
  · obtain ⟨p, q, r, n, st, cam, ns, ms, rfl, _⟩ := h
    rfl
  · obtain ⟨p, q, r, n, st, cam, ns, ms, rfl, hK, hq, hm, k1, k2, k3⟩ := h
    refine ⟨_, (pss_cons (ps_expr (pe_call (ok_check_attitude T) (hr.mono (by decide)) (by rfl) T.m_check_attitude T.F_check_attitude.kp T.b_check_attitude .nil (passes_call (takes_of rfl rfl rfl rfl) (fun _ _ _ _ h => h)) (pa_cons (pv 0) (pa_cons (pv 1) pa_nil))))
      (pss_one (ps_expr (pe_call (ok_check_attitude T) (hr.mono (by decide)) (by rfl) T.m_check_attitude T.F_check_attitude.kp T.b_check_attitude .nil (passes_call (takes_of rfl rfl rfl rfl) (fun _ _ _ _ h => h)) (pa_cons (pv 0) (pa_cons (pv 2) pa_nil)))))), ?_⟩
    refine ⟨.ref p, rfl, .ref q, rfl, p, q, n, st, cam, ns, rfl, hK, hq, fun e => ?_, fun e d H' s1 h1 => k2 e d H' s1 h1⟩
    exact ⟨.ref p, rfl, .ref r, rfl, p, r, n, st, cam, ms, rfl, hK, hm, fun e2 => k1 e e2, fun e2 d H' s1 h1 => k3 e e2 d H' s1 h1⟩

theorem ok__nearest (T : Txt P K mg a) : FnOk P w K mg base CX0 1 a.f__nearest a.fd__nearest ["side", "part"] spNear := by
  refine T.F__nearest.ok sc__nearest (fun vs H Q E h => ?_) (fun cdv A outer s H vs Q E hr h => ?_)
  · obtain ⟨n, i, rfl, _⟩ := h
    rfl
  · obtain ⟨n, i, rfl, hn, k⟩ := h
    refine ⟨_, (pss_cons (ps_set (i := 2) sc__nearest.nd rfl (.inl rfl) (pe_op op_fdiv (pv 0) pe_int))
      (pss_one (ps_ret (pe_op op_sub (pe_op op_mod (pe_op op_add (pv 1) (pv 2)) (pv 0)) (pv 2))))), ?_⟩
    exact ⟨_, rfl, _, _, rfl, rfl, ⟨by decide, by decide⟩, _, rfl, _, rfl, _, _, rfl, rfl, _, rfl, _, _, rfl, rfl, hn, _, rfl, _, _, rfl, rfl, k⟩

theorem ok__offset_of (T : Txt P K mg a) : FnOk P w K mg base CX0 3 a.f__offset_of a.fd__offset_of ["sky", "attitude", "star"] (spOffOf K a.c_Sky) := by
  refine T.F__offset_of.ok sc__offset_of (fun vs H Q E h => ?_) (fun cdv A outer s H vs Q E hr h => ?_)
  · obtain ⟨p, n, st, r, b, g, l, x, y, q, sx, sy, bb, pa, ps, rfl, _⟩ := h
    rfl
  · obtain ⟨p, n, st, r, b, g, l, x, y, q, sx, sy, bb, pa, ps, rfl, hK, hn, hpa, hps, k1, k2⟩ := h
    refine ⟨_, (pss_cons (ps_set (i := 3) sc__offset_of.nd rfl (.inl rfl) (pe_tupM (pa_cons (pe_call (ok__nearest T) (hr.mono (by decide)) (by rfl) T.m__nearest T.F__nearest.kp T.b__nearest .nil pass0 (pa_cons (pe_prop (pv 0) T.cl_Sky T.p_Sky_side (ok_Sky_side T) (hr.mono (by decide)) T.b_Sky_side .nil pass0 rfl) (pa_cons (pe_op op_sub (pe_ix ix_seq (pv 2) pe_int (fun _ _ => rfl)) (pe_ix ix_seq (pv 1) pe_int (fun _ _ => rfl))) pa_nil))) (pa_cons (pe_call (ok__nearest T) (hr.mono (by decide)) (by rfl) T.m__nearest T.F__nearest.kp T.b__nearest .nil pass0 (pa_cons (pe_prop (pv 0) T.cl_Sky T.p_Sky_side (ok_Sky_side T) (hr.mono (by decide)) T.b_Sky_side .nil pass0 rfl) (pa_cons (pe_op op_sub (pe_ix ix_seq (pv 2) pe_int (fun _ _ => rfl)) (pe_ix ix_seq (pv 1) pe_int (fun _ _ => rfl))) pa_nil))) pa_nil))))
      (pss_cons (ps_asg (pe_call (ok_quarter_turned T) (hr.mono (by decide)) (by rfl) T.m_quarter_turned T.F_quarter_turned.kp T.b_quarter_turned .nil pass0 (pa_cons (pe_op op_sub pe_int (pe_ix ix_seq (pv 1) pe_int (fun _ _ => rfl))) (pa_cons (pv 3) pa_nil))) (pg_tup rfl (pgs_cons (pg_name (i := 4) sc__offset_of.nd rfl (.inl rfl)) (pgs_cons (pg_name (i := 5) sc__offset_of.nd rfl (.inl rfl)) pgs_nil))))
      (pss_cons (ps_set (i := 6) sc__offset_of.nd rfl (.inl rfl) (pe_op op_add (pe_prop (pv 0) T.cl_Sky T.p_Sky_reach (ok_Sky_reach T) (hr.mono (by decide)) T.b_Sky_reach .nil pass0 rfl) (pe_prop (pv 0) T.cl_Sky T.p_Sky_blur (ok_Sky_blur T) (hr.mono (by decide)) T.b_Sky_blur .nil pass0 rfl)))
      (pss_cons (ps_if (PW.pt (pw_or (pt_cmpR op_gt (pe_callB call_abs (by rfl) T.z_abs (by decide +kernel) (pa_cons (pv 4) pa_nil)) (pv 6) (nomark _)) (pw_or1 (pt_cmpR op_gt (pe_callB call_abs (by rfl) T.z_abs (by decide +kernel) (pa_cons (pv 5) pa_nil)) (pv 6) (nomark _))))) (pss_one (ps_ret pe_non)) pss_nil)
      (pss_one (ps_ret (pe_tupM (pa_cons (pv 4) (pa_cons (pv 5) pa_nil))))))))), ?_⟩
    obtain ⟨dx, ts, tc, h1, h2, h3⟩ := id hK
    refine ⟨.ref p, rfl, p, dx, _, rfl, h1, p, n, st, _, rfl, hK, ?_⟩
    refine ⟨.ref ps, rfl, .inr (.inl ⟨ps, _, 0, .int sx, rfl, rfl, hps, rfl, .ref pa, rfl, .inr (.inl ⟨pa, _, 0, .int x, rfl, rfl, hpa, rfl, _, _, rfl, rfl, n, sx - x, rfl, hn, ?_⟩)⟩)⟩
    refine ⟨.ref p, rfl, p, dx, _, rfl, h1, p, n, st, _, rfl, hK, ?_⟩
    refine ⟨.ref ps, rfl, .inr (.inl ⟨ps, _, 1, .int sy, rfl, rfl, hps, rfl, .ref pa, rfl, .inr (.inl ⟨pa, _, 1, .int y, rfl, rfl, hpa, rfl, _, _, rfl, rfl, n, sy - y, rfl, hn, ?_⟩)⟩)⟩
    refine ⟨(by show 2 ≤ sizeLine; decide), fun p1 H1 s1 t1 => ?_⟩
    refine ⟨.ref pa, rfl, .inr (.inl ⟨pa, _, 2, .int q, rfl, rfl, sqT_up s1 hpa, rfl, _, _, rfl, rfl, .ref p1, rfl, ?_⟩)⟩
    refine ⟨4 - q, near n (sx - x), near n (sy - y), p1, rfl, t1, fun H2 p2 s2 t2 => ?_⟩
    refine ⟨p2, _, rfl, t2, rfl, _, _, rfl, _, _, rfl, rfl, ?_⟩
    have S := s1.trans s2
    have hK2 := sky_up S hK
    have h12 := S _ _ h1
    refine ⟨.ref p, rfl, p, dx, _, rfl, h12, p, n, st, _, r, rfl, hK2, rfl, ?_⟩
    refine ⟨.ref p, rfl, p, dx, _, rfl, h12, p, n, st, _, b, rfl, hK2, rfl, ?_⟩
    refine ⟨_, _, rfl, rfl, ?_⟩
    refine ⟨_, rfl, _, rfl, _, rfl, _, _, rfl, rfl, _, rfl, ite2 (fun g1 => ?_) (fun g1 => ?_)⟩
    · have z1 : r + b < iabs (turnX (4 - q) (near n (sx - x)) (near n (sy - y))) := of_decide_eq_true g1
      exact iteT (k1 (if_pos (.inl z1)) _ S)
    refine ⟨_, rfl, _, rfl, _, rfl, _, _, rfl, rfl, _, rfl, ite2 (fun g2 => ?_) (fun g2 => ?_)⟩
    · have z2 : r + b < iabs (turnY (4 - q) (near n (sx - x)) (near n (sy - y))) := of_decide_eq_true g2
      exact k1 (if_pos (.inr z2)) _ S
    · have z1 : ¬ r + b < iabs (turnX (4 - q) (near n (sx - x)) (near n (sy - y))) := fun z => g1 (decide_eq_true z)
      have z2 : ¬ r + b < iabs (turnY (4 - q) (near n (sx - x)) (near n (sy - y))) := fun z => g2 (decide_eq_true z)
      exact ⟨_, rfl, _, rfl, (by show 2 ≤ sizeLine; decide), fun t H3 s3 tt => k2 _ _ (if_neg (fun z => z.elim z1 z2)) _ t (S.trans s3) tt⟩

theorem ok_appearances (T : Txt P K mg a) : FnOk P w K mg base CX0 4 a.f_appearances a.fd_appearances ["sky", "attitude"] (spAppN K a.c_Sky) := by
  refine T.F_appearances.ok sc_appearances (fun vs H Q E h => ?_) (fun cdv A outer s H vs Q E hr h => ?_)
  · obtain ⟨p, pa, n, ks, cam, at_, rfl, _⟩ := h
    rfl
  · obtain ⟨p, pa, n, ks, cam, at_, rfl, hK, hsky, hpa, hpose, k⟩ := h
    have hu1 : (A.deeper (envOfC "appearances" (defScope s_appearances) s.heap.objs.size a.f_appearances cdv)).units + 1 < cLine := by
      have := hr.un
      omega
    refine ⟨_, (pss_cons (ps_set (i := 2) sc_appearances.nd rfl (.inl rfl) pe_dnewK)
      (pss_cons (ps_set (i := 3) sc_appearances.nd rfl (.inl rfl) (pe_op op_sub (pe_prop (pv 0) T.cl_Sky T.p_Sky_limit (ok_Sky_limit T) (hr.mono (by decide)) T.b_Sky_limit .nil pass0 rfl) (pe_prop (pv 0) T.cl_Sky T.p_Sky_glare (ok_Sky_glare T) (hr.mono (by decide)) T.b_Sky_glare .nil pass0 rfl)))
      (pss_cons (ps_for PassesOwn.never rfl (pi_enumT (by rfl) T.z_enumerate (pe_prop (pv 0) T.cl_Sky T.p_Sky_stars (ok_Sky_stars T) (hr.mono (by decide)) T.b_Sky_stars .nil pass0 rfl)) (pg_tup rfl (pgs_cons (pg_name (i := 4) sc_appearances.nd rfl (.inl rfl)) (pgs_cons (pg_name (i := 5) sc_appearances.nd rfl (.inl rfl)) pgs_nil))) (pss_cons (ps_set (i := 6) sc_appearances.nd rfl (.inl rfl) (pe_call (ok__offset_of T) (hr.mono (by decide)) (by rfl) T.m__offset_of T.F__offset_of.kp T.b__offset_of .nil pass0 (pa_cons (pv 0) (pa_cons (pv 1) (pa_cons (pv 5) pa_nil)))))
      (pss_one (ps_if (PW.pt (pw_and (pt_cmpR op_notN (pv 6) pe_non (nomark _)) (pw_and1 (pt_cmpR op_ge (pe_ix ix_seq (pv 5) pe_int (fun _ _ => rfl)) (pv 3) (nomark _))))) (pss_one (ps_dput hu1 (pv 2) (pv 4) (pe_tupM (pa_cons (pe_ix ix_seq (pv 6) pe_int (fun _ _ => rfl)) (pa_cons (pe_ix ix_seq (pv 6) pe_int (fun _ _ => rfl)) (pa_cons (pe_ix ix_seq (pv 5) pe_int (fun _ _ => rfl)) pa_nil)))) rfl)) pss_nil))))
      (pss_one (ps_ret (pv 2)))))), ?_⟩
    obtain ⟨⟨h4, h9⟩, hstars, hnd, h20, hcam⟩ := sky_parts hsky
    obtain ⟨x, y, qq, rfl, _⟩ := pose_form hpose
    obtain ⟨r, b, g, l, rfl, _⟩ := cam_form hcam
    refine fun d nd => ?_
    have s1 : Same H (upd H d (.dK [])) := same_new nd
    have ed1 : (upd H d (.dK [])) d = some (.dK (shownK [])) := upd_same
    generalize upd H d (.dK []) = H1 at s1 ed1 ⊢
    have hK1 := skyS_up s1 hK
    obtain ⟨dx, ts, tc, h1, h2, h3⟩ := id hK1.1
    refine ⟨.ref p, rfl, p, dx, _, rfl, h1, p, n, _, _, l, rfl, hK1.1, rfl, ?_⟩
    refine ⟨.ref p, rfl, p, dx, _, rfl, h1, p, n, _, _, g, rfl, hK1.1, rfl, _, _, rfl, rfl, ?_⟩
    refine ⟨.ref p, rfl, p, dx, _, rfl, h1, p, n, _, _, rfl, hK1.1, fun ts' hts => ?_⟩
    refine ⟨ts', refs ks, rfl, hts, for_it (walk_enumT (xs := refs ks)) (fun i σ H2 => ∃ (z4 z5 z6 : Option V) (zs : Shown), σ = [some (.ref p), some (.ref pa), some (.ref d), some (.int (l - g)), z4, z5, z6] ∧ Same H H2 ∧ SqT K H2 ts' (refs ks) ∧ H2 d = some (.dK (shownK zs)) ∧ ShownAt K H2 zs ∧ shownD zs = seenI n [r, b, g, l] [x, y, qq] 0 ((keys ks).take i))
      ⟨_, _, _, [], rfl, s1, hts, ed1, (fun z hz => by cases hz), rfl⟩ (fun i σ H2 _ ⟨_, _, _, _, _, _, e, _⟩ => e) ?_ ?_⟩
    · rintro i v σ H2 H3 hi ⟨z4, z5, z6, zs, rfl, S2, q2, e2, t2, d2⟩ ⟨Tp, x', y', rfl, nT, rfl, ex', ey'⟩
      obtain rfl : V.int (i : Int) = x' := Option.some.inj ex'
      have hi' : i < ks.length := by rw [refs_len] at hi; exact hi
      have hks : ks[i]? = some ks[i] := List.getElem?_eq_getElem hi'
      obtain rfl : V.ref ks[i].1 = y' := by
        have ey2 : (ks.map fun p : Addr × List Int => V.ref p.1)[i]? = some y' := ey'
        rw [List.getElem?_map, hks] at ey2
        exact Option.some.inj ey2
      have s3 : Same H2 (upd H2 Tp (.tup [.int i, .ref ks[i].1])) := same_new nT
      have tT : SqT K (upd H2 Tp (.tup [.int i, .ref ks[i].1])) Tp [.int i, .ref ks[i].1] := .inl (.inl upd_same)
      generalize upd H2 Tp (.tup [.int i, .ref ks[i].1]) = H3 at s3 tT ⊢
      have S3 := S2.trans s3
      have hK3 := skyS_up S3 hK
      have hkm : ks[i] ∈ ks := List.getElem_mem hi'
      have hkey : (keys ks)[i]? = some ks[i].2 := by unfold keys; rw [List.getElem?_map, hks]; rfl
      obtain ⟨sx, sy, bb, e3, _⟩ := star_form (List.all_eq_true.mp hstars ks[i].2 (List.mem_of_getElem? hkey))
      have hp3 := hK3.2 ks[i] hkm
      rw [e3] at hp3 hkey
      have step : seenI n [r, b, g, l] [x, y, qq] 0 ((keys ks).take (i + 1)) = seenI n [r, b, g, l] [x, y, qq] 0 ((keys ks).take i) ++ (match seenOne n [r, b, g, l] [x, y, qq] [sx, sy, bb] with | some d => [(((i : Nat) : Int), d)] | none => []) := by
        rw [List.take_add_one, hkey]
        show seenI n _ _ 0 ((keys ks).take i ++ [[sx, sy, bb]]) = _
        rw [seenI_push, List.length_take, keys_len, Nat.min_eq_left (Nat.le_of_lt hi'), Nat.zero_add]
        all_goals (cases seenOne n [r, b, g, l] [x, y, qq] [sx, sy, bb] <;> rfl)
      have keep : ∀ H4, Same H3 H4 → seenOne n [r, b, g, l] [x, y, qq] [sx, sy, bb] = none → ∃ (zs' : Shown), Same H H4 ∧ SqT K H4 ts' (refs ks) ∧ H4 d = some (.dK (shownK zs')) ∧ ShownAt K H4 zs' ∧ shownD zs' = seenI n [r, b, g, l] [x, y, qq] 0 ((keys ks).take (i + 1)) := fun H4 s4 en => by
        refine ⟨zs, S3.trans s4, sqT_up (s3.trans s4) q2, s4 _ _ (s3 _ _ e2), fun z hz => sqT_up (s3.trans s4) (t2 z hz), ?_⟩
        rw [step, en, d2]
        exact (List.append_nil _).symm
      refine ⟨Tp, _, rfl, tT, rfl, _, _, rfl, _, _, rfl, rfl, ?_⟩
      refine ⟨.ref p, rfl, .ref pa, rfl, .ref ks[i].1, rfl, p, n, _, r, b, g, l, x, y, qq, sx, sy, bb, pa, ks[i].1, rfl, hK3.1, by omega, sqT_up S3 hpa, hp3, fun eo H4 s4 => ?_, fun u v eo H4 ta s4 tta => ?_⟩
      · have en : seenOne n [r, b, g, l] [x, y, qq] [sx, sy, bb] = none := by unfold seenOne; rw [eo]
        obtain ⟨zs', w1, w2, w3, w4, w5⟩ := keep H4 s4 en
        exact ⟨_, rfl, rfl, _, rfl, iteF ⟨_, _, _, zs', rfl, w1, w2, w3, w4, w5⟩⟩
      · refine ⟨_, rfl, rfl, _, rfl, iteT ⟨.ref ks[i].1, rfl, .inr (.inl ⟨ks[i].1, _, 2, .int bb, rfl, rfl, sqT_up s4 hp3, rfl, _, rfl, _, _, rfl, rfl, _, rfl, ite2 (fun hg => ?_) (fun hg => ?_)⟩)⟩⟩
        · have hb : l - g ≤ bb := of_decide_eq_true hg
          have en : seenOne n [r, b, g, l] [x, y, qq] [sx, sy, bb] = some [u, v, bb] := by unfold seenOne; rw [eo]; exact if_pos hb
          refine ⟨.ref ta, rfl, .inr (.inl ⟨ta, _, 0, .int u, rfl, rfl, tta, rfl, .ref ta, rfl, .inr (.inl ⟨ta, _, 1, .int v, rfl, rfl, tta, rfl, .ref ks[i].1, rfl, .inr (.inl ⟨ks[i].1, _, 2, .int bb, rfl, rfl, sqT_up s4 hp3, rfl, ?_⟩)⟩)⟩)⟩
          refine ⟨(by show 3 ≤ sizeLine; decide), fun tv H5 s5 ttv => ?_⟩
          have S35 := s4.trans s5
          have e5 : H5 d = some (.dK (shownK zs)) := S35 _ _ (s3 _ _ e2)
          have lt : ∀ z ∈ zs, z.1 < ((i : Nat) : Int) := fun z hz => by
            have hz' : (z.1, z.2.2) ∈ shownD zs := List.mem_map_of_mem (f := fun z : Int × Addr × List Int => (z.1, z.2.2)) hz
            rw [d2] at hz'
            have := seenI_lt _ _ _ _ _ _ hz'
            rw [List.length_take, keys_len, Nat.min_eq_left (Nat.le_of_lt hi'), Nat.zero_add] at this
            exact this
          have hln : zs.length ≤ 64 := by
            have h5 := shownD_len zs
            rw [d2] at h5
            have h6 := seenI_len n [r, b, g, l] [x, y, qq] ((keys ks).take i) 0
            rw [List.length_take, keys_len] at h6
            rw [keys_len] at h20
            omega
          refine ⟨.ref d, rfl, _, rfl, d, _, rfl, DPut.k (k := .inl ((i : Nat) : Int)) e5 (sizeN (by rw [shown_len]; omega)), ?_⟩
          rw [put_new lt]
          refine ⟨_, _, _, zs ++ [(((i : Nat) : Int), tv, [u, v, bb])], rfl, same_put nd (S3.trans S35), sqT_dk e5 (sqT_up (s3.trans S35) q2), ?_, ?_, ?_⟩
          · rw [upd_same]
            unfold shownK
            rw [List.map_append]
            rfl
          · intro z hz
            rcases List.mem_append.mp hz with hz | hz
            · exact sqT_dk e5 (sqT_up (s3.trans S35) (t2 z hz))
            · rw [List.mem_singleton.mp hz]
              exact sqT_dk e5 ttv
          · rw [step, en, ← d2]
            unfold shownD
            rw [List.map_append]
            rfl
        · have en : seenOne n [r, b, g, l] [x, y, qq] [sx, sy, bb] = none := by unfold seenOne; rw [eo]; exact if_neg (fun z => hg (decide_eq_true z))
          obtain ⟨zs', w1, w2, w3, w4, w5⟩ := keep H4 s4 en
          exact ⟨_, _, _, zs', rfl, w1, w2, w3, w4, w5⟩
    · rintro σ H2 ⟨z4, z5, z6, zs, rfl, S2, q2, e2, t2, d2⟩
      rw [List.take_of_length_le (by rw [refs_len, keys_len]; exact Nat.le_refl _)] at d2
      exact ⟨.ref d, rfl, k H2 d zs S2 nd ⟨e2, t2, d2⟩⟩

theorem ok_sure_among (T : Txt P K mg a) : FnOk P w K mg base CX0 3 a.f_sure_among a.fd_sure_among ["sky", "shown"] (spSure K a.c_Sky) := by
  refine T.F_sure_among.ok sc_sure_among (fun vs H Q E h => ?_) (fun cdv A outer s H vs Q E hr h => ?_)
  · obtain ⟨p, d, n, st, r, b, g, l, zs, rfl, _⟩ := h
    rfl
  · obtain ⟨p, d, n, st, r, b, g, l, zs, rfl, hK, hd, hz, h3, hlen, k⟩ := h
    refine ⟨_, (pss_cons (ps_set (i := 2) sc_sure_among.nd rfl (.inr rfl) (pe_op op_sub (pe_prop (pv 0) T.cl_Sky T.p_Sky_reach (ok_Sky_reach T) (hr.mono (by decide)) T.b_Sky_reach .nil pass0 rfl) (pe_prop (pv 0) T.cl_Sky T.p_Sky_blur (ok_Sky_blur T) (hr.mono (by decide)) T.b_Sky_blur .nil pass0 rfl)))
      (pss_cons (ps_set (i := 3) sc_sure_among.nd rfl (.inr rfl) (pe_op op_add (pe_prop (pv 0) T.cl_Sky T.p_Sky_limit (ok_Sky_limit T) (hr.mono (by decide)) T.b_Sky_limit .nil pass0 rfl) (pe_prop (pv 0) T.cl_Sky T.p_Sky_glare (ok_Sky_glare T) (hr.mono (by decide)) T.b_Sky_glare .nil pass0 rfl)))
      (pss_one (ps_ret (pe_lock (pe_lc (g := gTup K 2 (gCons (gName 4) (gCons (gTup K 3 (gCons (gName 5) (gCons (gName 6) (gCons (gName 7) gNil)))) gNil))) (own := [("number", 4), ("dx", 5), ("dy", 6), ("brightness", 7)]) rfl sc_sure_among.nd (pi_items (pv 1)) (blkOk_by (own := [("number", 4), ("dx", 5), ("dy", 6), ("brightness", 7)]) (N := ["sky", "shown", "bound", "faintest", "number", "dx", "dy", "brightness"]) (sc := defScope s_sure_among) (by decide +kernel)) (fun _ _ _ _ _ => (pg_tup rfl (pgs_cons (pg_name (i := 4) sc_sure_among.nd rfl (.inl rfl)) (pgs_cons (pg_tup rfl (pgs_cons (pg_name (i := 5) sc_sure_among.nd rfl (.inl rfl)) (pgs_cons (pg_name (i := 6) sc_sure_among.nd rfl (.inl rfl)) (pgs_cons (pg_name (i := 7) sc_sure_among.nd rfl (.inl rfl)) pgs_nil)))) pgs_nil)))) (fun _ _ _ _ _ => (pts_one (PW.pt (pw_and (pt_cmpR op_le (pe_callB call_abs (by rfl) T.z_abs (by decide +kernel) (pa_cons (pv 5) pa_nil)) (pv 2) (nomark _)) (pw_and (pt_cmpR op_le (pe_callB call_abs (by rfl) T.z_abs (by decide +kernel) (pa_cons (pv 6) pa_nil)) (pv 2) (nomark _)) (pw_and1 (pt_cmpR op_ge (pv 7) (pv 3) (nomark _)))))))) (fun _ _ _ _ _ => (pv 4)))))))), ?_⟩
    obtain ⟨dx, ts, tc, h1, h2, h3'⟩ := id hK
    refine ⟨.ref p, rfl, p, dx, _, rfl, h1, p, n, _, _, r, rfl, hK, rfl, ?_⟩
    refine ⟨.ref p, rfl, p, dx, _, rfl, h1, p, n, _, _, b, rfl, hK, rfl, _, _, rfl, rfl, ?_⟩
    refine ⟨.ref p, rfl, p, dx, _, rfl, h1, p, n, _, _, l, rfl, hK, rfl, ?_⟩
    refine ⟨.ref p, rfl, p, dx, _, rfl, h1, p, n, _, _, g, rfl, hK, rfl, _, _, rfl, rfl, ?_⟩
    refine ⟨d, _, hd, trivial, fun od => ?_⟩
    have ed0 : (upd H d (.frz od (.dK (shownK zs)))) d = some (.frz od (.dK (shownK zs))) := upd_same
    have k0 : ∀ q o, q ≠ d → H q = some o → (upd H d (.frz od (.dK (shownK zs)))) q = some o := fun q o hq e => by rw [upd_ne hq]; exact e
    have z0 : ShownAt K (upd H d (.frz od (.dK (shownK zs)))) zs := fun z hz' => sqT_dk hd (hz z hz')
    generalize upd H d (.frz od (.dK (shownK zs))) = H0 at ed0 k0 z0 ⊢
    refine ⟨.ref d, rfl, d, od, shownK zs, rfl, ed0, fun D nD => lc_it walk_items (fun i H2 => Same H0 H2 ∧ H2 D = some (.lst ((sureI r b g l (shownD (zs.take i))).map V.int))) ⟨same_new nD, upd_same⟩ (fun i H2 _ ⟨s2, _⟩ => s2 _ _ ed0) ?_ ?_⟩
    · rintro i v H2 H3 hi ⟨S2, e2⟩ ⟨Tp, x', y', rfl, nT, rfl, ex, ey⟩
      have hi' : i < zs.length := by rw [shown_len] at hi; exact hi
      have hzs : (shownK zs)[i]? = some (Sum.inl zs[i].1, V.ref zs[i].2.1) := by
        unfold shownK
        rw [List.getElem?_map, List.getElem?_eq_getElem hi']
        rfl
      have ex2 : ((shownK zs)[i]?).map (fun kv => kV kv.1) = some x' := ex
      have ey2 : ((shownK zs)[i]?).map Prod.snd = some y' := ey
      rw [hzs] at ex2 ey2
      obtain rfl : V.int zs[i].1 = x' := Option.some.inj ex2
      obtain rfl : V.ref zs[i].2.1 = y' := Option.some.inj ey2
      have s3 : Same H2 (upd H2 Tp (.tup [.int zs[i].1, .ref zs[i].2.1])) := same_new nT
      have tT : SqT K (upd H2 Tp (.tup [.int zs[i].1, .ref zs[i].2.1])) Tp [.int zs[i].1, .ref zs[i].2.1] := .inl (.inl upd_same)
      generalize upd H2 Tp (.tup [.int zs[i].1, .ref zs[i].2.1]) = H3 at s3 tT ⊢
      have hzm : zs[i] ∈ zs := List.getElem_mem hi'
      obtain ⟨u, v, c, e3⟩ := of3 (show ((zs[i].2.2.length : Nat) : Int) = 3 by rw [h3 _ hzm]; rfl)
      have hz3 : SqT K H3 zs[i].2.1 (zs[i].2.2.map V.int) := sqT_up (S2.trans s3) (z0 _ hzm)
      rw [e3] at hz3
      have e3' := s3 _ _ e2
      have stp : shownD (zs.take (i + 1)) = shownD (zs.take i) ++ [(zs[i].1, [u, v, c])] := by
        rw [List.take_add_one, List.getElem?_eq_getElem hi']
        unfold shownD
        rw [List.map_append, ← e3]
        rfl
      have no : isSure r b g l [u, v, c] = false → sureI r b g l (shownD (zs.take (i + 1))) = sureI r b g l (shownD (zs.take i)) := fun e => by
        rw [stp]
        unfold sureI
        rw [List.filter_append, List.filter_cons_of_neg (by show ¬ isSure r b g l [u, v, c] = true; rw [e]; decide), List.filter_nil, List.append_nil]
      have stay : isSure r b g l [u, v, c] = false → Same H0 H3 ∧ H3 D = some (.lst ((sureI r b g l (shownD (zs.take (i + 1)))).map V.int)) := fun e => by
        rw [no e]
        exact ⟨S2.trans s3, e3'⟩
      refine ⟨Tp, _, rfl, tT, rfl, _, _, rfl, _, _, rfl, ?_⟩
      refine ⟨zs[i].2.1, _, rfl, hz3, rfl, _, _, rfl, _, _, rfl, _, _, rfl, rfl, rfl, rfl, ?_⟩
      refine ⟨_, rfl, u, rfl, _, rfl, _, _, rfl, rfl, _, rfl, ite2 (fun g1 => ?_) (fun g1 => ?_)⟩
      · refine ⟨_, rfl, v, rfl, _, rfl, _, _, rfl, rfl, _, rfl, ite2 (fun g2 => ?_) (fun g2 => ?_)⟩
        · refine ⟨_, rfl, _, rfl, _, _, rfl, rfl, _, rfl, ite2 (fun g3 => ?_) (fun g3 => ?_)⟩
          · have e : isSure r b g l [u, v, c] = true := by
              show (decide (iabs u ≤ r - b) && decide (iabs v ≤ r - b) && decide (l + g ≤ c)) = true
              rw [show decide (iabs u ≤ r - b) = true from g1, show decide (iabs v ≤ r - b) = true from g2, show decide (l + g ≤ c) = true from g3]
              rfl
            have ad : sureI r b g l (shownD (zs.take (i + 1))) = sureI r b g l (shownD (zs.take i)) ++ [zs[i].1] := by
              rw [stp]
              unfold sureI
              rw [List.filter_append, List.filter_cons_of_pos (by show isSure r b g l [u, v, c] = true; exact e), List.filter_nil, List.map_append]
              rfl
            have ln : (sureI r b g l (shownD (zs.take i))).length ≤ 64 := by
              unfold sureI
              rw [List.length_map]
              have h5 := List.length_filter_le (fun z : Int × List Int => isSure r b g l z.2) (shownD (zs.take i))
              rw [shownD_len, List.length_take] at h5
              omega
            refine ⟨_, rfl, _, e3', sizeN (by rw [List.length_map]; omega), same_put nD (S2.trans s3), ?_⟩
            rw [upd_same, ad, map_push]
          · refine stay ?_
            show (decide (iabs u ≤ r - b) && decide (iabs v ≤ r - b) && decide (l + g ≤ c)) = false
            rw [show decide (l + g ≤ c) = false from decide_eq_false (fun z => g3 (decide_eq_true z)), Bool.and_false]
        · refine iteF (stay ?_)
          show (decide (iabs u ≤ r - b) && decide (iabs v ≤ r - b) && decide (l + g ≤ c)) = false
          rw [show decide (iabs v ≤ r - b) = false from decide_eq_false (fun z => g2 (decide_eq_true z)), Bool.and_false]
          rfl
      · refine iteF (stay ?_)
        show (decide (iabs u ≤ r - b) && decide (iabs v ≤ r - b) && decide (l + g ≤ c)) = false
        rw [show decide (iabs u ≤ r - b) = false from decide_eq_false (fun z => g1 (decide_eq_true z))]
        rfl
    · rintro H2 ⟨S2, e2⟩
      rw [List.take_of_length_le (by rw [shown_len]; exact Nat.le_refl _)] at e2
      have hDd : D ≠ d := fun z => by rw [z, ed0] at nD; cases nD
      refine ⟨S2 _ _ ed0, k _ D (fun q o hq => ?_) (by
        cases e : H D with
        | none => rfl
        | some o => rw [k0 D o hDd e] at nD; cases nD) (by rw [upd_ne hDd]; exact e2)⟩
      by_cases hqd : q = d
      · rw [hqd, upd_same, ← hd, ← hqd]
        exact hq
      · rw [upd_ne hqd]
        exact S2 _ _ (k0 q o hqd hq)

theorem ok__traced (T : Txt P K mg a) : FnOk P w K mg base CX0 1 a.f__traced a.fd__traced ["mates", "takers", "last"] (spTraced K) := by
  refine T.F__traced.ok sc__traced (fun vs H Q E h => ?_) (fun cdv A outer s H vs Q E hr h => ?_)
  · obtain ⟨dm, dt, m, ts, P', start, last, rfl, _⟩ := h
    rfl
  · obtain ⟨dm, dt, m, ts, P', start, last, rfl, hm, ht, hT, hn, hs, hl, hz, k⟩ := h
    have hu1 : (A.deeper (envOfC "_traced" (defScope s__traced) s.heap.objs.size a.f__traced cdv)).units + 1 < cLine := by
      have := hr.un
      omega
    refine ⟨_, (pss_cons (ps_set (i := 3) sc__traced.nd rfl (.inl rfl) (pe_lstM pa_nil))
      (pss_cons (ps_set (i := 4) sc__traced.nd rfl (.inl rfl) (pv 2))
      (pss_cons (ps_while PassesOwn.never (pt_cmpR op_notN (pv 4) pe_non (nomark _)) (pss_cons (ps_expr (pe_bm PySem.F.plainAttrs_list PySem.F.slot_list_append PySem.F.type_list_append mt_append (pv 3) (pa_cons (pe_tupM (pa_cons (pe_dget hu1 (pv 1) (pv 4) (fun _ _ => rfl)) (pa_cons (pv 4) pa_nil))) pa_nil)))
      (pss_one (ps_set (i := 4) sc__traced.nd rfl (.inl rfl) (pe_dget1 hu1 (pv 0) (pe_dget hu1 (pv 1) (pv 4) (fun _ _ => rfl)) ⟨rfl, rfl, rfl, rfl⟩)))))
      (pss_one (ps_ret (pv 3)))))), ?_⟩
    refine ⟨Nat.zero_le _, fun l H1 s1 nl el => ⟨_, rfl, ?_⟩⟩
    obtain ⟨r0, e0⟩ := lk_keyE hl
    obtain ⟨i0, hi0⟩ := List.getElem?_of_mem (lk_some e0)
    refine ⟨fun μ σ H2 => ∃ (acc : MM) (ks : Tups) (col : Option Int), σ = [some (.ref dm), some (.ref dt), some (.int last), some (.ref l), some (optV col)] ∧ Same H H2 ∧ H2 l = some (.lst (refs ks)) ∧ TupsAt K H2 ks ∧ keys ks = steps2 acc ∧ Trc P' m start last ts acc col ∧ ∀ c, col = some c → ∃ (i : Nat) (r : Int), ts[i]? = some (c, r) ∧ i < μ,
      ⟨i0 + 1, [], [], some last, rfl, s1, el, (fun p hp => by cases hp), rfl, ⟨(fun x hx => by cases hx), List.nodup_nil, trivial, (fun x hx => by cases hx), fun c e => ?_, .inl ⟨rfl, rfl⟩⟩, fun c e => ?_⟩, ?_⟩
    · rw [← Option.some.inj e]
      exact ⟨i0, r0, hi0, fun x hx => by cases hx⟩
    · rw [← Option.some.inj e]
      exact ⟨i0, r0, hi0, Nat.lt_succ_self _⟩
    rintro μ σ H2 ⟨acc, ks, col, rfl, S, el2, t2, ek, Tr, hμ⟩
    cases col with
    | none =>
      refine ⟨_, rfl, rfl, _, rfl, iteF ⟨.ref l, rfl, ?_⟩⟩
      obtain ⟨t, p, e, hw⟩ := Tr.done hT hs
      exact k H2 l ks t p S nl el2 t2 (by rw [ek, e]) hw
    | some c =>
      obtain ⟨r, j, e1, e2, Tr', hb⟩ := Tr.step hT hn hs
      obtain ⟨i, r', hi, hiμ⟩ := hμ c rfl
      have hij := getElem_keys hn e2 hi
      refine ⟨_, rfl, rfl, _, rfl, iteT ⟨_, fun σ' H' z => z, ?_⟩⟩
      refine ⟨.ref l, rfl, .inl ⟨rfl, _, .inl (.inl el2)⟩, .ref dt, rfl, _, rfl, dt, .int r, rfl, get_dI1 (S _ _ ht) e1, _, rfl, (by show 2 ≤ sizeLine; decide), fun tp H3 s3 ttp => ?_⟩
      have el3 := s3 _ _ el2
      have hks : ks.length ≤ 2000 := by
        have h1 : ks.length = acc.length := by rw [← keys_len, ek]; unfold steps2; rw [List.length_map]
        have h2 : (acc.map (·.2)).length ≤ (ts.map (·.1)).length := len_le_of_sub Tr.cn fun x hx => by
          obtain ⟨y, hy, rfl⟩ := List.mem_map.mp hx
          obtain ⟨i', hi'⟩ := Tr.mem y hy
          exact List.mem_map_of_mem (f := fun z : Int × Int => z.1) (List.mem_of_getElem? hi')
        rw [List.length_map, List.length_map] at h2
        omega
      refine ⟨l, _, _, rfl, rfl, el3, sizeN (by rw [refs_len]; omega), ?_⟩
      have S4 : Same H (upd H3 l (.lst (refs ks ++ [.ref tp]))) := same_put nl (S.trans s3)
      refine ⟨.ref dm, rfl, dm, rfl, isD_of (S4 _ _ hm), .ref dt, rfl, _, rfl, dt, .int r, rfl, get_dI1 (S4 _ _ ht) e1, _, get_dI (S4 _ _ hm) rfl, ?_⟩
      rw [optV_map]
      refine ⟨j, by omega, acc ++ [(r, c)], ks ++ [(tp, [r, c])], lk m r, rfl, S4, by rw [upd_same, refs_push _ (tp, [r, c])], ?_, ?_, Tr', hb⟩
      · exact tups_app (tups_put el3 (tups_up s3 t2)) (tups_one (sqT_lst el3 ttp))
      · rw [keys_push, ek]
        unfold steps2
        rw [List.map_append]
        rfl

theorem ok__steps_to_more (T : Txt P K mg a) : FnOk P w K mg base CX0 2 a.f__steps_to_more a.fd__steps_to_more ["partners_of", "mates", "owners", "stays", "start"] (spSteps K) := by
  refine T.F__steps_to_more.ok sc__steps_to_more (fun vs H Q E h => ?_) (fun cdv A outer s H vs Q E hr h => ?_)
  · obtain ⟨pd, dm, do', ds, ps, m, o, W, start, rfl, _⟩ := h
    rfl
  · obtain ⟨pd, dm, do', ds, ps, m, o, W, start, rfl, hP, hsm, hm, ho, hW, hMt, hO, hon, hfree, hsW, k1, k2⟩ := h
    have hu1 : (A.deeper (envOfC "_steps_to_more" (defScope s__steps_to_more) s.heap.objs.size a.f__steps_to_more cdv)).units + 1 < cLine := by
      have := hr.un
      omega
    refine ⟨_, (pss_cons (ps_set (i := 5) sc__steps_to_more.nd rfl (.inl rfl) pe_dnewK)
      (pss_cons (ps_set (i := 6) sc__steps_to_more.nd rfl (.inl rfl) (pe_lstM (pa_cons (pv 4) pa_nil)))
      (pss_cons (ps_set (i := 7) sc__steps_to_more.nd rfl (.inl rfl) pe_int)
      (pss_cons (ps_while PassesOwn.never (pt_cmpR op_lt (pv 7) (pe_callB call_len_seq (by rfl) T.z_len (by decide +kernel) (pa_cons (pv 6) pa_nil)) (nomark _)) (pss_cons (ps_set (i := 8) sc__steps_to_more.nd rfl (.inl rfl) (pe_ix ix_seq (pv 6) (pv 7) (fun _ _ => rfl)))
      (pss_cons (ps_for PassesOwn.never rfl (pi_list (pe_dget2 hu1 (pv 0) (pv 8) (pe_lstM pa_nil) ⟨rfl, rfl, rfl, rfl⟩)) (pg_name (i := 9) sc__steps_to_more.nd rfl (.inl rfl)) (pss_one (ps_if (pt_cmp (pc_dnotin hu1 (pv 9) (pv 5))) (pss_cons (ps_dput hu1 (pv 5) (pv 9) (pv 8) rfl)
      (pss_cons (ps_if (pt_cmp (pc_dnotinN hu1 (pe_dget1 hu1 (pv 2) (pv 9) ⟨rfl, rfl, rfl, rfl⟩) (pv 3))) (pss_one (ps_ret (pe_call (ok__traced T) (hr.mono (by decide)) (by rfl) T.m__traced T.F__traced.kp T.b__traced .nil pass0 (pa_cons (pv 1) (pa_cons (pv 5) (pa_cons (pv 9) pa_nil)))))) pss_nil)
      (pss_one (ps_expr (pe_bm PySem.F.plainAttrs_list PySem.F.slot_list_append PySem.F.type_list_append mt_append (pv 6) (pa_cons (pe_dget hu1 (pv 2) (pv 9) (fun _ _ => rfl)) pa_nil)))))) pss_nil)))
      (pss_one (ps_aug (i := 7) sc__steps_to_more.nd rfl (.inl rfl) pe_int ip_add)))))
      (pss_one (ps_ret (pe_lstM pa_nil))))))), ?_⟩
    refine fun d nd => ?_
    have s1 : Same H (upd H d (.dK [])) := same_new nd
    have ed1 : (upd H d (.dK [])) d = some (.dK (dI [])) := upd_same
    generalize upd H d (.dK []) = H1 at s1 ed1 ⊢
    refine ⟨_, rfl, (by show 1 ≤ sizeLine; decide), fun l H2 s2 nl el => ?_⟩
    have nl0 : H l = none := none_back s1 nl
    have hdl : d ≠ l := fun e => by rw [← e, ed1] at nl; cases nl
    refine ⟨fun μ σ H3 => ∃ (n : Nat) (ts : MM) (qs : List Int) (z8 z9 : Option V), σ = [some (.ref pd), some (.ref dm), some (.ref do'), some (.ref ds), some (.int start), some (.ref d), some (.ref l), some (.int (n : Int)), z8, z9] ∧ Same H H3 ∧ H3 d = some (.dK (dI ts)) ∧ H3 l = some (.lst (qs.map V.int)) ∧
        Bf (prt ps) W m o start ts qs ∧ (∀ i, i < n → ∀ row, qs[i]? = some row → ∀ c ∈ prt ps row, c ∈ ts.map (·.1)) ∧ n ≤ qs.length ∧ μ + n = 1002,
      ⟨1002, 0, [], [start], _, _, rfl, s1.trans s2, s2 _ _ ed1, el, ⟨(fun j c r e => by cases e), List.nodup_nil, rfl, (fun z hz => by cases hz), (fun z hz => by cases hz)⟩, (fun i hi => absurd hi (Nat.not_lt_zero _)), Nat.zero_le _, rfl⟩, ?_⟩
    rintro μ σ H3 ⟨n, ts, qs, z8, z9, rfl, S3, ed3, el3, hB, hdone, hn, hμ⟩
    obtain ⟨hts, hqs⟩ := hB.len
    refine ⟨_, rfl, .ref l, rfl, l, _, rfl, .inl (.inl (.inl el3)), _, _, rfl, rfl, _, rfl, ite2 (fun g => ?_) (fun g => ?_)⟩
    rotate_left
    · -- nothing is left
      have hnl : n = qs.length := by
        have : ¬ ((n : Int) < (((qs.map V.int).length : Nat) : Int)) := fun z => g (decide_eq_true z)
        rw [List.length_map] at this
        omega
      obtain ⟨a1, a2, a3⟩ := hB.shut hO hsW fun i row hi => hdone i (by rw [hnl]; exact (List.getElem?_eq_some_iff.mp hi).1) row hi
      exact ⟨Nat.zero_le _, fun l5 H5 s5 n5 e5 => k1 H5 l5 qs (S3.trans s5) (none_back S3 n5) e5 a1 a2 a3⟩
    · have hlt : n < qs.length := by
        have : ((n : Int) < (((qs.map V.int).length : Nat) : Int)) := of_decide_eq_true g
        rw [List.length_map] at this
        omega
      have hrow : qs[n]? = some qs[n] := List.getElem?_eq_getElem hlt
      generalize qs[n] = row at hrow
      refine ⟨_, fun σ' H' z => z, ?_⟩
      refine ⟨.ref l, rfl, _, rfl, .inl ⟨l, _, _, _, rfl, rfl, .inl (.inl el3), atI_nat (by rw [List.getElem?_map, hrow]; rfl), ?_⟩⟩
      refine ⟨.ref pd, rfl, pd, rfl, isD_of (S3 _ _ hP.1), _, rfl, Nat.zero_le _, fun le H4 s4 nle ele => ?_⟩
      have S4 := S3.trans s4
      refine ⟨_, DGet.k (k := .inl row) (S4 _ _ hP.1), ?_⟩
      rw [qOf_eq]
      have hlel : le ≠ l := fun e => by rw [e, el3] at nle; cases nle
      have hled : le ≠ d := fun e => by rw [e, ed3] at nle; cases nle
      refine ⟨qOf ps row le, rfl, ⟨_, qOf_at (prtAt_up S4 hP) ele row⟩, for_list (K := K) (a := qOf ps row le) (xs := (prt ps row).map V.int) (fun p σ H5 => ∃ (ts : MM) (qs : List Int) (z9 : Option V), σ = [some (.ref pd), some (.ref dm), some (.ref do'), some (.ref ds), some (.int start), some (.ref d), some (.ref l), some (.int (n : Int)), some (.int row), z9] ∧ Same H H5 ∧ H5 le = some (.lst []) ∧ H5 d = some (.dK (dI ts)) ∧ H5 l = some (.lst (qs.map V.int)) ∧
          Bf (prt ps) W m o start ts qs ∧ (∀ i, i < n → ∀ row, qs[i]? = some row → ∀ c ∈ prt ps row, c ∈ ts.map (·.1)) ∧ n < qs.length ∧ qs[n]? = some row ∧ ∀ c ∈ (prt ps row).take p, c ∈ ts.map (·.1))
        ⟨ts, qs, _, rfl, S4, ele, s4 _ _ ed3, s4 _ _ el3, hB, hdone, hlt, hrow, fun c hc => by cases hc⟩ (fun p σ H5 _ ⟨_, _, _, _, S5, e5, _⟩ => qOf_at (prtAt_up S5 hP) e5 row) ?_ ?_⟩
      · rintro p v σ H5 hp ⟨ts, qs, z9, rfl, S5, ele5, ed5, el5, hB, hdone, hlt, hrow, hpart⟩
        obtain ⟨hts, hqs⟩ := hB.len
        obtain ⟨c, hc, rfl⟩ : ∃ c, (prt ps row)[p]? = some c ∧ v = V.int c := by
          rw [List.getElem?_map] at hp
          cases e : (prt ps row)[p]? with
          | none => rw [e] at hp; cases hp
          | some c => rw [e] at hp; exact ⟨c, rfl, (Option.some.inj hp).symm⟩
        have hcP : c ∈ prt ps row := List.mem_of_getElem? hc
        have hcl := (prt_small hsm row).1 c hcP
        have next : ∀ ts' : MM, (∀ x ∈ ts.map (·.1), x ∈ ts'.map (·.1)) → c ∈ ts'.map (·.1) → ∀ x ∈ (prt ps row).take (p + 1), x ∈ ts'.map (·.1) := fun ts' h1 h2 x hx => by
          rw [List.take_add_one, hc] at hx
          rcases List.mem_append.mp hx with hx | hx
          · exact h1 x (hpart x hx)
          · rw [List.mem_singleton.mp hx]
            exact h2
        refine ⟨_, rfl, .ref d, rfl, d, _, rfl, get_dI ed5 rfl, _, rfl, ?_⟩
        cases elk : lk ts c with
        | some r0 => exact iteF ⟨ts, qs, _, rfl, S5, ele5, ed5, el5, hB, hdone, hlt, hrow, next ts (fun x hx => hx) (lk_key elk)⟩
        | none =>
          refine iteT ⟨_, rfl, .ref d, rfl, _, rfl, d, _, rfl, DPut.k (k := .inl c) ed5 (sizeN (by rw [dI_len]; omega)), ?_⟩
          rw [put_dI, put_new_m elk]
          have S6 : Same H (upd H5 d (.dK (dI (ts ++ [(c, row)])))) := same_put nd S5
          have ed6 : (upd H5 d (.dK (dI (ts ++ [(c, row)])))) d = some (.dK (dI (ts ++ [(c, row)]))) := upd_same
          have el6 : (upd H5 d (.dK (dI (ts ++ [(c, row)])))) l = some (.lst (qs.map V.int)) := by rw [upd_ne (Ne.symm hdl)]; exact el5
          have ele6 : (upd H5 d (.dK (dI (ts ++ [(c, row)])))) le = some (.lst []) := by rw [upd_ne hled]; exact ele5
          generalize upd H5 d (.dK (dI (ts ++ [(c, row)]))) = H6 at S6 ed6 el6 ele6 ⊢
          have hnd : ((ts ++ [(c, row)]).map (·.1)).Nodup := by
            rw [List.map_append]
            exact nodup_push hB.nd (lk_none elk)
          have found : (∀ r, lk o c = some r → r ∉ W) → ∀ (Hx : Hp), Same H6 Hx → ∀ (l' : Addr) (ks : Tups) (t : Int) (q : MM), H6 l' = none → Hx l' = some (.lst (refs ks)) → TupsAt K Hx ks → keys ks = steps2 ((t, c) :: q) → Way (prt ps) m start ((t, c) :: q) → Q (.ref l') Hx := fun out Hx sx l' ks t q nl' e1 e2 e3 hw =>
            k2 Hx l' ks (t, c) q (S6.trans sx) (none_back S6 nl') e1 e2 e3 ⟨hMt, hO, hon, hw, out⟩
          have call : (∀ r, lk o c = some r → r ∉ W) → spTraced K [.ref dm, .ref d, .int c] H6 Q E0 := fun out =>
            ⟨dm, d, m, ts ++ [(c, row)], prt ps, start, c, rfl, S6 _ _ hm, ed6, tk_push hB hO hrow hcP, hnd, hfree, by simp, by rw [List.length_append]; show ts.length + 1 ≤ 2000; omega,
              fun Hx l' ks t q sx nl' e1 e2 e3 hw => found out Hx sx l' ks t q nl' e1 e2 e3 hw⟩
          refine ⟨.ref do', rfl, do', rfl, isD_of (S6 _ _ ho), _, rfl, _, get_dI (S6 _ _ ho) rfl, .ref ds, rfl, ?_⟩
          cases eo : lk o c with
          | none =>
            refine .inr ⟨ds, _, rfl, rfl, .inl (S6 _ _ hW), _, rfl, iteT ?_⟩
            exact ⟨.ref dm, rfl, .ref d, rfl, _, rfl, call fun r e => by rw [eo] at e; cases e⟩
          | some r =>
            refine .inl ⟨ds, _, rfl, DGet.k (k := .inl r) (S6 _ _ hW), _, rfl, ?_⟩
            rw [val_dW]
            by_cases hrW : r ∈ W
            · rw [decide_eq_true hrW]
              refine iteF ⟨.ref l, rfl, .inl ⟨rfl, _, .inl (.inl el6)⟩, .ref do', rfl, _, rfl, do', .int r, rfl, get_dI1 (S6 _ _ ho) eo, l, _, _, rfl, rfl, el6, sizeN (by rw [List.length_map]; omega), ?_⟩
              refine ⟨ts ++ [(c, row)], qs ++ [r], _, rfl, same_put nl0 S6, by rw [upd_ne hlel]; exact ele6, by rw [upd_ne hdl]; exact ed6, by rw [upd_same, map_push], hB.push hO hrow hcP hcl elk eo hrW, fun i hi row' hi' x hx => ?_, by rw [List.length_append]; omega, ?_, next _ (fun x hx => by rw [List.map_append]; exact List.mem_append_left _ hx) (by simp)⟩
              · rw [List.getElem?_append_left (by omega)] at hi'
                rw [List.map_append]
                exact List.mem_append_left _ (hdone i hi row' hi' x hx)
              · rw [List.getElem?_append_left hlt]
                exact hrow
            · rw [decide_eq_false hrW]
              refine iteT ⟨.ref dm, rfl, .ref d, rfl, _, rfl, call fun r' e => ?_⟩
              rw [eo] at e
              rw [← Option.some.inj e]
              exact hrW
      · rintro σ H5 ⟨ts, qs, z9, rfl, S5, ele5, ed5, el5, hB, hdone, hlt, hrow, hpart⟩
        rw [List.length_map, List.take_length] at hpart
        obtain ⟨hts, hqs⟩ := hB.len
        refine ⟨_, rfl, _, _, rfl, rfl, μ - 1, by omega, n + 1, ts, qs, _, _, rfl, S5, ed5, el5, hB, fun i hi row' hi' => ?_, by omega, by omega⟩
        by_cases hin : i = n
        · rw [hin, hrow] at hi'
          rw [← Option.some.inj hi']
          exact hpart
        · exact hdone i (by omega) row' hi'

theorem ok__with_more (T : Txt P K mg a) : FnOk P w K mg base CX0 3 a.f__with_more a.fd__with_more ["partners_of", "wanted", "mates"] (spMore K) := by
  refine T.F__with_more.ok sc__with_more (fun vs H Q E h => ?_) (fun cdv A outer s H vs Q E hr h => ?_)
  · obtain ⟨pd, wl, dm, ps, W, m0, rfl, _⟩ := h
    rfl
  · obtain ⟨pd, wl, dm, ps, W, m0, rfl, hP, hsm, hWl, hWn, hWz, hm, hMt, hmz, k⟩ := h
    have hu1 : (A.deeper (envOfC "_with_more" (defScope s__with_more) s.heap.objs.size a.f__with_more cdv)).units + 1 < cLine := by
      have := hr.un
      omega
    refine ⟨_, (pss_cons (ps_lock (ps_set (i := 4) sc__with_more.nd rfl (.inr rfl) (pe_dc (g := gName 3) (tt := tYes) (own := [("row", 3)]) rfl sc__with_more.nd (pi_keys (pv 2)) (blkOk_by (own := [("row", 3)]) (N := ["partners_of", "wanted", "mates", "row", "grown", "owners", "stays", "steps", "taker", "column"]) (sc := defScope s__with_more) (by decide +kernel)) (fun _ _ _ _ _ => (pg_name (i := 3) sc__with_more.nd rfl (.inl rfl))) (fun _ _ _ _ _ => pts_nil) (fun _ _ _ _ _ => (pv 3)) (fun _ _ _ _ _ => (pe_dget hu1 (pv 2) (pv 3) (fun _ _ => rfl))))))
      (pss_cons (ps_lock (ps_setDc (i := 5) rfl sc__with_more.nd rfl rfl (sw_trueD rfl rfl rfl (by decide +kernel)) (g := gName 3) (tt := tYes) (own := [("row", 3)]) (pi_keys (pv 4)) (blkOk_by (own := [("row", 3)]) (N := ["partners_of", "wanted", "mates", "row", "grown", "owners", "stays", "steps", "taker", "column"]) (sc := defScope s__with_more) (by decide +kernel)) (fun _ _ _ _ _ => (pg_name (i := 3) sc__with_more.nd rfl (.inl rfl))) (fun _ _ _ _ _ => pts_nil) (fun _ _ _ _ _ => (pe_dget hu1 (pv 4) (pv 3) (fun _ _ => rfl))) (fun _ _ _ _ _ => (pv 3))))
      (pss_cons (ps_setDc (i := 6) rfl sc__with_more.nd rfl rfl (sw_trueD rfl rfl rfl (by decide +kernel)) (g := gName 3) (tt := tYes) (own := [("row", 3)]) (pi_list (pv 1)) (blkOk_by (own := [("row", 3)]) (N := ["partners_of", "wanted", "mates", "row", "grown", "owners", "stays", "steps", "taker", "column"]) (sc := defScope s__with_more) (by decide +kernel)) (fun _ _ _ _ _ => (pg_name (i := 3) sc__with_more.nd rfl (.inl rfl))) (fun _ _ _ _ _ => pts_nil) (fun _ _ _ _ _ => (pv 3)) (fun _ _ _ _ _ => pe_bl))
      (pss_cons (ps_for PassesOwn.never rfl (pi_list (pv 1)) (pg_name (i := 3) sc__with_more.nd rfl (.inl rfl)) (C8.pss_cut (ps_set (i := 7) sc__with_more.nd rfl (.inl rfl) (pe_ifExp (pt_cmp (pc_din hu1 (pv 3) (pv 4))) (pe_lstM pa_nil) (pe_call (ok__steps_to_more T) (hr.mono (by decide)) (by rfl) T.m__steps_to_more T.F__steps_to_more.kp T.b__steps_to_more .nil pass0 (pa_cons (pv 0) (pa_cons (pv 4) (pa_cons (pv 5) (pa_cons (pv 6) (pa_cons (pv 3) pa_nil))))))))
      (C8.pss_cut (ps_if (pt_truth (pv 7) (by intro _; rfl)) (pss_one (ps_expr (pe_dpopN (pv 4) (pe_dget1 hu1 (pv 5) (pe_ix ix_seq (pe_ix ix_seq (pv 7) pe_int (fun _ _ => rfl)) pe_int (fun _ _ => rfl)) ⟨rfl, rfl, rfl, rfl⟩) pe_non ⟨rfl, rfl, rfl, rfl⟩))) pss_nil)
      (pss_one (ps_for PassesOwn.never rfl (pi_list (pv 7)) (pg_tup rfl (pgs_cons (pg_name (i := 8) sc__with_more.nd rfl (.inl rfl)) (pgs_cons (pg_name (i := 9) sc__with_more.nd rfl (.inl rfl)) pgs_nil))) (pss_cons (ps_dput hu1 (pv 4) (pv 8) (pv 9) rfl)
      (pss_one (ps_dput hu1 (pv 5) (pv 9) (pv 8) rfl))))))))
      (pss_one (ps_ret (pv 4))))))), ?_⟩
    -- grown
    refine ⟨dm, _, hm, trivial, fun od => ?_⟩
    have edm : (upd H dm (.frz od (.dK (dI m0)))) dm = some (.frz od (.dK (dI m0))) := upd_same
    refine ⟨.ref dm, rfl, dm, od, rfl, .inl ⟨_, edm, fun dg nDg => dc_it walk_keys (fun i H2 => Same (upd H dm (.frz od (.dK (dI m0)))) H2 ∧ H2 dg = some (.dK (dI (m0.take i)))) ⟨same_new nDg, upd_same⟩ (fun i H2 _ ⟨s2, _⟩ => s2 _ _ edm) ?_ ?_⟩⟩
    · rintro i v H2 H3 hi ⟨S2, e2⟩ ⟨rfl, kk, vv, hkv, rfl⟩
      obtain ⟨r, c, hrc, rfl, rfl⟩ : ∃ r c, m0[i]? = some (r, c) ∧ kk = .inl r ∧ vv = .int c := by
        unfold dI at hkv
        rw [List.getElem?_map] at hkv
        cases e : m0[i]? with
        | none => rw [e] at hkv; cases hkv
        | some z =>
          rw [e] at hkv
          have := Option.some.inj hkv
          injection this with h1 h2
          exact ⟨z.1, z.2, rfl, h1.symm, h2.symm⟩
      have el := lk_mem hMt.nd (List.mem_of_getElem? hrc)
      refine ⟨rfl, ?_⟩
      refine ⟨_, rfl, .ref dm, rfl, _, rfl, dm, .int c, rfl, ?_, dI (m0.take i), .inl r, rfl, e2, sizeN ?_, same_put nDg S2, ?_⟩
      · exact .inl ⟨_, .inl r, .inr ⟨od, S2 _ _ edm⟩, rfl, by rw [val_dI, el]; rfl⟩
      · rw [dI_len, List.length_take]
        omega
      · rw [upd_same, put_dI, take_put hMt.nd hrc]
    rintro H2 ⟨S2, e2⟩
    rw [dI_len, List.take_length] at e2
    obtain ⟨ndg, hdgm⟩ := new_lock nDg
    refine ⟨S2 _ _ edm, ?_⟩
    have S3 : Same H (upd H2 dm (.dK (dI m0))) := same_unlock hm S2
    have eg3 : (upd H2 dm (.dK (dI m0))) dg = some (.dK (dI m0)) := by rw [upd_ne hdgm]; exact e2
    generalize upd H2 dm (.dK (dI m0)) = H3 at S3 eg3 ⊢
    -- owners
    refine ⟨dg, _, eg3, trivial, fun og => ?_⟩
    have edg : (upd H3 dg (.frz og (.dK (dI m0)))) dg = some (.frz og (.dK (dI m0))) := upd_same
    refine ⟨.ref dg, rfl, dg, og, rfl, .inl ⟨_, edg, fun do' nDo => dc_it walk_keys (fun i H4 => Same (upd H3 dg (.frz og (.dK (dI m0)))) H4 ∧ H4 do' = some (.dK (dI (swp (m0.take i))))) ⟨same_new nDo, upd_same⟩ (fun i H4 _ ⟨s4, _⟩ => s4 _ _ edg) ?_ ?_⟩⟩
    · rintro i v H4 H5 hi ⟨S4, e4⟩ ⟨rfl, kk, vv, hkv, rfl⟩
      obtain ⟨r, c, hrc, rfl, rfl⟩ : ∃ r c, m0[i]? = some (r, c) ∧ kk = .inl r ∧ vv = .int c := by
        unfold dI at hkv
        rw [List.getElem?_map] at hkv
        cases e : m0[i]? with
        | none => rw [e] at hkv; cases hkv
        | some z =>
          rw [e] at hkv
          have := Option.some.inj hkv
          injection this with h1 h2
          exact ⟨z.1, z.2, rfl, h1.symm, h2.symm⟩
      have el := lk_mem hMt.nd (List.mem_of_getElem? hrc)
      have hsw : (swp m0)[i]? = some (c, r) := by unfold swp; rw [List.getElem?_map, hrc]; rfl
      have tk : ∀ j, swp (m0.take j) = (swp m0).take j := fun j => by unfold swp; rw [List.map_take]
      refine ⟨rfl, ?_⟩
      refine ⟨.ref dg, rfl, _, rfl, dg, .int c, rfl, ?_, _, rfl, dI (swp (m0.take i)), .inl c, rfl, e4, sizeN ?_, same_put nDo S4, ?_⟩
      · exact .inl ⟨_, .inl r, .inr ⟨og, S4 _ _ edg⟩, rfl, by rw [val_dI, el]; rfl⟩
      · rw [dI_len, tk, List.length_take]
        unfold swp
        rw [List.length_map]
        omega
      · rw [upd_same, show kV (Sum.inl r) = V.int r from rfl, put_dI, tk, take_put (by rw [swp_keys]; exact hMt.cn) hsw, tk]
    rintro H4 ⟨S4, e4⟩
    rw [dI_len, List.take_length] at e4
    obtain ⟨ndo3, hdog⟩ := new_lock nDo
    refine ⟨S4 _ _ edg, ?_⟩
    have S5' : Same H3 (upd H4 dg (.dK (dI m0))) := same_unlock eg3 S4
    have eo5 : (upd H4 dg (.dK (dI m0))) do' = some (.dK (dI (swp m0))) := by rw [upd_ne hdog]; exact e4
    have ndo : H do' = none := none_back S3 ndo3
    generalize upd H4 dg (.dK (dI m0)) = H5 at S5' eo5 ⊢
    have S5 := S3.trans S5'
    have eg5 := S5' _ _ eg3
    -- stays
    refine ⟨.ref wl, rfl, wl, rfl, ⟨_, S5.seq hWl⟩, fun ds nDs => dc_it (walk_list (xs := W.map V.int)) (fun i H6 => Same H5 H6 ∧ H6 ds = some (.dK (dW (W.take i)))) ⟨same_new nDs, upd_same⟩ (fun i H6 _ ⟨s6, _⟩ => (S5.trans s6).seq hWl) ?_ ?_⟩
    · rintro i v H6 H7 hi ⟨S6, e6⟩ ⟨rfl, hv⟩
      obtain ⟨r, hr', rfl⟩ := map_at hv
      refine ⟨rfl, ?_⟩
      refine ⟨_, rfl, dW (W.take i), .inl r, rfl, e6, sizeN ?_, same_put nDs S6, ?_⟩
      · unfold dW
        rw [List.length_map, List.length_take]
        omega
      · have e : W.take (i + 1) = W.take i ++ [r] := by rw [List.take_add_one, hr']; rfl
        have n1 : (W.take (i + 1)).Nodup := List.Nodup.sublist (List.take_sublist _ _) hWn
        rw [e, List.nodup_append] at n1
        rw [upd_same, putK_new (k := (.inl r : Key)) (V.bl true) (by
          have z := val_dW (W.take i) r
          rw [decide_eq_false (fun hm => n1.2.2 r hm r (by simp) rfl)] at z
          cases ez : valV (dW (W.take i)) (.inl r) with
          | none => rfl
          | some x => rw [ez] at z; cases z), e]
        unfold dW
        rw [List.map_append]
        rfl
    rintro H6 ⟨S6', e6⟩
    rw [List.length_map, List.take_length] at e6
    have S6 := S5.trans S6'
    have eg6 := S6' _ _ eg5
    have eo6 := S6' _ _ eo5
    have nds : H ds = none := none_back S5 nDs
    have hne1 : dg ≠ do' := fun e => by rw [e] at eg3; rw [eg3] at ndo3; cases ndo3
    have hne2 : ds ≠ dg := fun e => by rw [e] at nDs; rw [nDs] at eg5; cases eg5
    have hne3 : ds ≠ do' := fun e => by rw [e] at nDs; rw [nDs] at eo5; cases eo5
    -- all wanted rows
    refine ⟨.ref wl, rfl, wl, rfl, ⟨_, S6.seq hWl⟩, for_list (K := K) (a := wl) (xs := W.map V.int) (fun i σ H7 => ∃ (g o : MM) (Z : List Int) (z3 z7 z8 z9 : Option V), σ = [some (.ref pd), some (.ref wl), some (.ref dm), z3, some (.ref dg), some (.ref do'), some (.ref ds), z7, z8, z9] ∧ Same H H7 ∧ H7 dg = some (.dK (dI g)) ∧ H7 do' = some (.dK (dI o)) ∧ H7 ds = some (.dK (dW W)) ∧
        More (prt ps) W m0 g ∧ Own g o ∧ (o.map (·.1)).Nodup ∧ Shut (prt ps) g Z ∧ (∀ z ∈ Z, z ∈ W) ∧ ∀ r ∈ W.take i, lk g r = none → r ∈ Z)
      ⟨m0, swp m0, [], _, _, _, _, rfl, S6, eg6, eo6, e6, ⟨hMt, fun r c e => ⟨r, e⟩, fun r c _ e => ⟨c, e⟩, fun r c e => .inr ⟨c, e⟩⟩, own_swp hMt, by rw [swp_keys]; exact hMt.cn, (fun z hz => by cases hz), (fun z hz => by cases hz), fun r hr' => by cases hr'⟩ (fun i σ H7 _ ⟨_, _, _, _, _, _, _, _, S7, _⟩ => S7.seq hWl) ?_ ?_⟩
    · rintro i v σ H7 hi ⟨g, o, Z, z3, z7, z8, z9, rfl, S7, eg7, eo7, es7, hM, hO, hon, hZ, hZW, hZF⟩
      obtain ⟨row, hrow, rfl⟩ := map_at hi
      have hrW : row ∈ W := List.mem_of_getElem? hrow
      have hgl := mt_len hM.mt hM.only
      have hol := own_len hon hO
      have hx : ∀ r, r ∈ W.take (i + 1) → r ∈ W.take i ∨ r = row := fun r hr' => by
        rw [List.take_add_one, hrow] at hr'
        rcases List.mem_append.mp hr' with h | h
        · exact .inl h
        · exact .inr (List.mem_singleton.mp h)
      refine ⟨fun σ H8 => ∃ (ls : Addr) (ks : Tups) (path : MM), σ = [some (.ref pd), some (.ref wl), some (.ref dm), some (.int row), some (.ref dg), some (.ref do'), some (.ref ds), some (.ref ls), z8, z9] ∧ Same H7 H8 ∧ H7 ls = none ∧ H8 ls = some (.lst (refs ks)) ∧ TupsAt K H8 ks ∧ keys ks = steps2 path ∧
          ((path = [] ∧ ((∃ c, lk g row = some c) ∨ ∃ R, Shut (prt ps) g R ∧ row ∈ R ∧ ∀ z ∈ R, z ∈ W)) ∨ ∃ x p, path = x :: p ∧ Step (prt ps) W g o row x p), ?_, ?_⟩
      · refine ⟨_, rfl, .ref dg, rfl, dg, _, rfl, get_dI eg7 rfl, _, rfl, ?_⟩
        cases el : lk g row with
        | some c => exact iteT ⟨Nat.zero_le _, fun ls H8 s8 n8 e8 => ⟨ls, [], [], rfl, s8, n8, e8, (fun p hp => by cases hp), rfl, .inl ⟨rfl, .inl ⟨c, rfl⟩⟩⟩⟩
        | none =>
          refine iteF ⟨.ref pd, rfl, .ref dg, rfl, .ref do', rfl, .ref ds, rfl, _, rfl, pd, dg, do', ds, ps, g, o, W, row, rfl, prtAt_up S7 hP, hsm, eg7, eo7, es7, hM.mt, hO, hon, el, hrW, fun H8 ls R s8 n8 e8 h1 h2 h3 => ?_, fun H8 ls ks x p s8 n8 e8 h1 h2 h3 => ?_⟩
          · exact ⟨ls, [], [], rfl, s8, n8, e8, (fun p hp => by cases hp), rfl, .inl ⟨rfl, .inr ⟨R, h1, h2, h3⟩⟩⟩
          · exact ⟨ls, ks, x :: p, rfl, s8, n8, e8, h1, h2, .inr ⟨x, p, rfl, h3⟩⟩
      rintro σ H8 ⟨ls, ks, path, rfl, s8, nls, els, tks, ekp, hpath⟩
      have S8 := S7.trans s8
      have hkl : ks.length = path.length := by rw [← keys_len, ekp]; unfold steps2; rw [List.length_map]
      have hplen : path.length ≤ 2001 := by
        rcases hpath with ⟨e, _⟩ | ⟨x, p, e, hs⟩
        · rw [e]; exact Nat.zero_le _
        · rw [e]
          have := len_le_of_sub hs.way.tn (m := row :: g.map (·.1)) fun t ht => by
            obtain ⟨y, hy, rfl⟩ := List.mem_map.mp ht
            rcases ch_next hs.way.ch hs.way.last y hy with h | ⟨_, _, h⟩
            · rw [h]; exact List.mem_cons_self
            · exact List.mem_cons_of_mem _ (lk_key h)
          simp only [List.length_map, List.length_cons] at this ⊢
          omega
      have ndl : ls ≠ dg := fun e => by rw [e, eg7] at nls; cases nls
      have ndl2 : ls ≠ do' := fun e => by rw [e, eo7] at nls; cases nls
      have ndl3 : ls ≠ ds := fun e => by rw [e, es7] at nls; cases nls
      have hcl : (cutM g o path).length ≤ g.length := by
        match path with
        | [] => exact Nat.le_refl _
        | x :: p =>
          show (match lk o x.2 with | some r => dropI g r | none => g).length ≤ _
          split
          · exact List.length_filter_le _ _
          · exact Nat.le_refl _
      refine ⟨fun σ H9 => σ = [some (.ref pd), some (.ref wl), some (.ref dm), some (.int row), some (.ref dg), some (.ref do'), some (.ref ds), some (.ref ls), z8, z9] ∧ Same H H9 ∧ H9 dg = some (.dK (dI (cutM g o path))) ∧ H9 do' = some (.dK (dI o)) ∧ H9 ds = some (.dK (dW W)) ∧ H9 ls = some (.lst (refs ks)) ∧ TupsAt K H9 ks, ?_, ?_⟩
      · have hke : (!path.isEmpty) = !(refs ks).isEmpty := by
          cases path with
          | nil =>
            have : ks = [] := List.length_eq_zero_iff.mp hkl
            rw [this]
            rfl
          | cons x p =>
            cases ks with
            | nil => cases hkl
            | cons q kr => rfl
        refine ⟨_, rfl, !path.isEmpty, .inl ⟨_, .inl (.inl els), hke⟩, ?_⟩
        cases hpk : path with
        | nil =>
          have hk0 : ks = [] := by
            rw [hpk] at hkl
            exact List.length_eq_zero_iff.mp hkl
          rw [hk0]
          refine iteF ⟨rfl, S8, s8 _ _ eg7, s8 _ _ eo7, s8 _ _ es7, by rw [els, hk0], fun p hp => by cases hp⟩
        | cons x p =>
          obtain ⟨q, kr, hkr⟩ : ∃ q kr, ks = q :: kr := by
            cases ks with
            | nil => rw [hpk] at hkl; cases hkl
            | cons q kr => exact ⟨q, kr, rfl⟩
          have hq2 : q.2 = [x.1, x.2] := by
            rw [hkr, hpk] at ekp
            unfold keys steps2 at ekp
            rw [List.map_cons, List.map_cons] at ekp
            injection ekp
          have hq := tks q (by rw [hkr]; exact List.mem_cons_self)
          rw [hq2] at hq
          refine iteT ?_
          refine ⟨.ref dg, rfl, dg, rfl, isD_of (s8 _ _ eg7), .ref do', rfl, do', rfl, isD_of (s8 _ _ eo7), .ref ls, rfl, .inl ⟨ls, _, _, .ref q.1, rfl, rfl, .inl (.inl els), (by rw [hkr]; exact (atI_nat (show (refs (q :: kr))[0]? = some (V.ref q.1) from rfl))), .inr (.inl ⟨q.1, _, 1, .int x.2, rfl, rfl, hq, rfl, ?_⟩)⟩⟩
          refine ⟨_, get_dI (s8 _ _ eo7) rfl, dI g, s8 _ _ eg7, ?_⟩
          cases eo : lk o x.2 with
          | none =>
            have ec : cutM g o (x :: p) = g := by show (match lk o x.2 with | some r => dropI g r | none => g) = g; rw [eo]
            rw [ec]
            exact .inl ⟨rfl, rfl, S8, s8 _ _ eg7, s8 _ _ eo7, s8 _ _ es7, els, tks⟩
          | some r =>
            have ec : cutM g o (x :: p) = dropI g r := by show (match lk o x.2 with | some r => dropI g r | none => g) = _; rw [eo]
            rw [ec]
            have er := (hO r x.2).mp eo
            have eg8 := s8 _ _ eg7
            refine .inr ⟨.inl r, rfl, fun v' hv' => ⟨rfl, same_put ndg S8, by rw [upd_same, drop_dI], by rw [upd_ne (Ne.symm hne1)]; exact s8 _ _ eo7, by rw [upd_ne hne2]; exact s8 _ _ es7, by rw [upd_ne ndl]; exact els, fun p' hp' => sqT_dk eg8 (tks p' hp')⟩, fun hv' => ?_⟩
            rw [val_dI, er] at hv'
            cases hv'
      rintro σ H9 ⟨rfl, S9, eg9, eo9, es9, els9, tks9⟩
      refine ⟨.ref ls, rfl, ls, rfl, ⟨_, .inl (.inl els9)⟩, for_list (K := K) (a := ls) (xs := refs ks) (fun j σ H10 => ∃ z8 z9 : Option V, σ = [some (.ref pd), some (.ref wl), some (.ref dm), some (.int row), some (.ref dg), some (.ref do'), some (.ref ds), some (.ref ls), z8, z9] ∧ Same H H10 ∧ H10 dg = some (.dK (dI (appI (cutM g o path) (path.take j)))) ∧ H10 do' = some (.dK (dI (appI o (swp (path.take j))))) ∧ H10 ds = some (.dK (dW W)) ∧ H10 ls = some (.lst (refs ks)) ∧ TupsAt K H10 ks)
        ⟨_, _, rfl, S9, eg9, eo9, es9, els9, tks9⟩ (fun j σ H10 _ ⟨_, _, _, _, _, _, _, e, _⟩ => .inl (.inl e)) ?_ ?_⟩
      · rintro j y σ H10 hj ⟨z8', z9', rfl, S10, eg10, eo10, es10, els10, tks10⟩
        obtain ⟨q, hq, rfl⟩ : ∃ q, ks[j]? = some q ∧ y = V.ref q.1 := by
          unfold refs at hj
          rw [List.getElem?_map] at hj
          cases e : ks[j]? with
          | none => rw [e] at hj; cases hj
          | some q => rw [e] at hj; exact ⟨q, rfl, (Option.some.inj hj).symm⟩
        obtain ⟨x, hxj, hq2⟩ : ∃ x, path[j]? = some x ∧ q.2 = [x.1, x.2] := by
          have e1 : (keys ks)[j]? = some q.2 := by unfold keys; rw [List.getElem?_map, hq]; rfl
          rw [ekp] at e1
          unfold steps2 at e1
          rw [List.getElem?_map] at e1
          cases e : path[j]? with
          | none => rw [e] at e1; cases e1
          | some x => rw [e] at e1; exact ⟨x, rfl, (Option.some.inj e1).symm⟩
        have hqt := tks10 q (List.mem_of_getElem? hq)
        rw [hq2] at hqt
        have e1 : path.take (j + 1) = path.take j ++ [x] := by rw [List.take_add_one, hxj]; rfl
        have l1 := appI_len (path.take j) (cutM g o path)
        have l2 := appI_len (swp (path.take j)) o
        have l3 : (path.take j).length ≤ 2001 := by rw [List.length_take]; omega
        have l4 : (swp (path.take j)).length = (path.take j).length := by unfold swp; rw [List.length_map]
        refine ⟨q.1, _, rfl, hqt, rfl, _, _, rfl, _, _, rfl, rfl, ?_⟩
        refine ⟨_, rfl, .ref dg, rfl, _, rfl, dg, _, rfl, DPut.k (k := .inl x.1) eg10 (sizeN (by rw [dI_len]; omega)), ?_⟩
        rw [put_dI]
        have S11 : Same H (upd H10 dg (.dK (dI (putI (appI (cutM g o path) (path.take j)) x.1 x.2)))) := same_put ndg S10
        have eg11 : (upd H10 dg (.dK (dI (putI (appI (cutM g o path) (path.take j)) x.1 x.2)))) dg = some (.dK (dI (appI (cutM g o path) (path.take (j + 1))))) := by rw [upd_same, e1, app_push]
        have eo11 : (upd H10 dg (.dK (dI (putI (appI (cutM g o path) (path.take j)) x.1 x.2)))) do' = some (.dK (dI (appI o (swp (path.take j))))) := by rw [upd_ne (Ne.symm hne1)]; exact eo10
        have es11 : (upd H10 dg (.dK (dI (putI (appI (cutM g o path) (path.take j)) x.1 x.2)))) ds = some (.dK (dW W)) := by rw [upd_ne hne2]; exact es10
        have els11 : (upd H10 dg (.dK (dI (putI (appI (cutM g o path) (path.take j)) x.1 x.2)))) ls = some (.lst (refs ks)) := by rw [upd_ne ndl]; exact els10
        have tks11 : TupsAt K (upd H10 dg (.dK (dI (putI (appI (cutM g o path) (path.take j)) x.1 x.2)))) ks := fun p hp => sqT_dk eg10 (tks10 p hp)
        generalize upd H10 dg (.dK (dI (putI (appI (cutM g o path) (path.take j)) x.1 x.2))) = H11 at S11 eg11 eo11 es11 els11 tks11 ⊢
        refine ⟨_, rfl, .ref do', rfl, _, rfl, do', _, rfl, DPut.k (k := .inl x.2) eo11 (sizeN (by rw [dI_len]; omega)), ?_⟩
        rw [put_dI]
        refine ⟨_, _, rfl, same_put ndo S11, by rw [upd_ne hne1]; exact eg11, ?_, by rw [upd_ne hne3]; exact es11, by rw [upd_ne ndl2]; exact els11, fun p hp => sqT_dk eo11 (tks11 p hp)⟩
        rw [upd_same, e1]
        unfold swp
        rw [List.map_append]
        exact congrArg (fun z => some (HO.dK (dI z))) (app_push _ _ (x.2, x.1)).symm
      · rintro σ H10 ⟨z8', z9', rfl, S10, eg10, eo10, es10, els10, tks10⟩
        rw [List.take_of_length_le (by rw [refs_len]; omega)] at eg10 eo10
        rcases hpath with ⟨rfl, hp⟩ | ⟨x, p, rfl, hs⟩
        · have eg' : H10 dg = some (.dK (dI g)) := eg10
          have eo' : H10 do' = some (.dK (dI o)) := eo10
          rcases hp with ⟨c, hc⟩ | ⟨R, hR1, hR2, hR3⟩
          · refine ⟨g, o, Z, _, _, _, _, rfl, S10, eg', eo', es10, hM, hO, hon, hZ, hZW, fun r hr' e => ?_⟩
            rcases hx r hr' with h | rfl
            · exact hZF r h e
            · rw [hc] at e
              cases e
          · refine ⟨g, o, Z ++ R, _, _, _, _, rfl, S10, eg', eo', es10, hM, hO, hon, fun z hz c hc => ?_, fun z hz => ?_, fun r hr' e => ?_⟩
            · rcases List.mem_append.mp hz with hz | hz
              · obtain ⟨z', h1, h2⟩ := hZ z hz c hc
                exact ⟨z', List.mem_append_left _ h1, h2⟩
              · obtain ⟨z', h1, h2⟩ := hR1 z hz c hc
                exact ⟨z', List.mem_append_right _ h1, h2⟩
            · rcases List.mem_append.mp hz with hz | hz
              · exact hZW z hz
              · exact hR3 z hz
            · rcases hx r hr' with h | rfl
              · exact List.mem_append_left _ (hZF r h e)
              · exact List.mem_append_right _ hR2
        · refine ⟨_, _, Z, _, _, _, _, rfl, S10, eg10, eo10, es10, ⟨hs.mt', fun r c e => ?_, fun r c hr' e => ?_, fun r c e => ?_⟩, hs.own', app_nodup _ hon, hs.shut hZ hZW, hZW, fun r hr' e => ?_⟩
          · obtain ⟨r', h1⟩ := hM.cols r c e
            exact hs.cols h1
          · obtain ⟨c', h1⟩ := hM.rows r c hr' e
            exact hs.rows hr' h1
          · rcases hs.only e with h | ⟨c', h⟩
            · rw [h]; exact .inl hrW
            · exact hM.only r c' h
          · rcases hx r hr' with h | rfl
            · cases eg : lk g r with
              | none => exact hZF r h eg
              | some c =>
                obtain ⟨c', h1⟩ := hs.rows (List.mem_of_mem_take h) eg
                rw [h1] at e
                cases e
            · obtain ⟨c', h1⟩ := hs.start'
              rw [h1] at e
              cases e
    · rintro σ H7 ⟨g, o, Z, z3, z7, z8, z9, rfl, S7, eg7, eo7, es7, hM, hO, hon, hZ, hZW, hZF⟩
      rw [List.length_map, List.take_length] at hZF
      exact ⟨.ref dg, rfl, k H7 dg g Z S7 ndg eg7 hM hZ hZW hZF⟩

theorem ok__mates_of (T : Txt P K mg a) : FnOk P w K mg base CX0 4 a.f__mates_of a.fd__mates_of ["table", "rows"] (spMatesZ K) := by
  refine T.F__mates_of.ok sc__mates_of (fun vs H Q E h => ?_) (fun cdv A outer s H vs Q E hr h => ?_)
  · obtain ⟨t, rl, tb, W, rfl, _⟩ := h
    rfl
  · obtain ⟨t, rl, tb, W, rfl, hT, hok, hrl, hWn, hWr, k⟩ := h
    refine ⟨_, (pss_one (ps_ret (pe_call (ok__with_more T) (hr.mono (by decide)) (by rfl) T.m__with_more T.F__with_more.kp T.b__with_more .nil pass0 (pa_cons (pe_dc (g := gName 2) (tt := tYes) (own := [("row", 2)]) rfl sc__mates_of.nd (pi_list (pv 1)) (blkOk_by (own := [("row", 2)]) (N := ["table", "rows", "row"]) (sc := defScope s__mates_of) (by decide +kernel)) (fun _ _ _ _ _ => (pg_name (i := 2) sc__mates_of.nd rfl (.inl rfl))) (fun _ _ _ _ _ => pts_nil) (fun _ _ _ _ _ => (pv 2)) (fun _ _ _ _ _ => (pe_ix (ix_seqK (K := K)) (pv 0) (pv 2) (fun _ _ => rfl)))) (pa_cons (pv 1) (pa_cons pe_dnewK pa_nil)))))), ?_⟩
    have hkl := keys_len tb
    have hl := hok.len
    have hWz : W.length ≤ 1000 := below1000 hWn fun c hc => by have := hWr c hc; omega
    refine ⟨.ref rl, rfl, rl, rfl, ⟨_, hrl⟩, fun dp nDp => dc_it (walk_list (xs := W.map V.int)) (fun i H2 => Same H H2 ∧ H2 dp = some (.dK (shownK (psOf tb (W.take i))))) ⟨same_new nDp, upd_same⟩ (fun i H2 _ ⟨s2, _⟩ => s2.seq hrl) ?_ ?_⟩
    · rintro i v H2 H3 hi ⟨S2, e2⟩ ⟨rfl, hv⟩
      obtain ⟨r, hr', rfl⟩ := map_at hv
      obtain ⟨h0, h1⟩ := hWr r (List.mem_of_getElem? hr')
      obtain ⟨q, hq, hat, _, _⟩ := row_at (tabAt_up S2 hT) h0 h1
      have hqd : tb.getD r.toNat (0, []) = q := by rw [List.getD_eq_getElem?_getD, hq]; rfl
      refine ⟨rfl, ?_⟩
      refine ⟨_, rfl, .ref t, rfl, _, rfl, .inl ⟨t, _, _, _, rfl, rfl, (tabAt_up S2 hT).1, hat, shownK (psOf tb (W.take i)), .inl r, rfl, e2, sizeN ?_, same_put nDp S2, ?_⟩⟩
      · unfold shownK psOf
        rw [List.length_map, List.length_map, List.length_take]
        omega
      · have e : W.take (i + 1) = W.take i ++ [r] := by rw [List.take_add_one, hr']; rfl
        have n1 : (W.take (i + 1)).Nodup := List.Nodup.sublist (List.take_sublist _ _) hWn
        rw [e, List.nodup_append] at n1
        rw [upd_same, putK_new (k := (.inl r : Key)) (V.ref q.1) (by
          rw [val_shown]
          have : (psOf tb (W.take i)).find? (fun z => decide (z.1 = r)) = none := List.find?_eq_none.mpr fun z hz e' => by
            obtain ⟨r', hr1, rfl⟩ := List.mem_map.mp hz
            exact n1.2.2 r' hr1 r (by simp) (of_decide_eq_true e')
          rw [this]
          rfl), e]
        unfold psOf shownK
        rw [List.map_append, List.map_append]
        show _ = some (HO.dK (_ ++ [(Sum.inl r, V.ref (tb.getD r.toNat (0, [])).1)]))
        rw [hqd]
    rintro H2 ⟨S2, e2⟩
    rw [List.length_map, List.take_length] at e2
    refine ⟨.ref rl, rfl, fun d0 nd0 => ?_⟩
    have s3 : Same H2 (upd H2 d0 (.dK [])) := same_new nd0
    have ed0 : (upd H2 d0 (.dK [])) d0 = some (.dK (dI [])) := upd_same
    generalize upd H2 d0 (.dK []) = H3 at s3 ed0 ⊢
    have S3 := S2.trans s3
    have hrow : ∀ z ∈ psOf tb W, ∃ r ∈ W, ∃ q, tb[r.toNat]? = some q ∧ z = (r, q.1, q.2) := fun z hz => by
      obtain ⟨r, hr', rfl⟩ := List.mem_map.mp hz
      obtain ⟨h0, h1⟩ := hWr r hr'
      obtain ⟨q, hq, _⟩ := row_at hT h0 h1
      exact ⟨r, hr', q, hq, by rw [List.getD_eq_getElem?_getD, hq]; rfl⟩
    have hedge : ∀ r ∈ W, prt (psOf tb W) r = tP (keys tb) r := fun r hr' => prt_psOf hr' (hWr r hr').1
    refine ⟨dp, rl, d0, psOf tb W, W, [], rfl, ⟨s3 _ _ e2, fun z hz => ?_⟩, fun z hz => ?_, S3.seq hrl, hWn, hWz, ed0, ⟨List.nodup_nil, (fun k v e => by cases e), (fun k j v e => by cases e)⟩, Nat.zero_le _, fun H4 l g Z S4 nl el hM hZ hZW hF => ?_⟩
    · obtain ⟨r, _, q, hq, rfl⟩ := hrow z hz
      exact S3.seq (hT.2 q (List.mem_of_getElem? hq))
    · obtain ⟨r, _, q, hq, rfl⟩ := hrow z hz
      have hm : q.2 ∈ keys tb := List.mem_map_of_mem (f := fun z : Addr × List Int => z.2) (List.mem_of_getElem? hq)
      exact ⟨hok.lo _ hm, below1000 (hok.nd _ hm) (hok.lo _ hm)⟩
    · have only : ∀ r c, lk g r = some c → r ∈ W := fun r c e => by
        rcases hM.only r c e with h | ⟨c', h⟩
        · exact h
        · cases h
      refine k H4 l g Z (S3.trans S4) (none_back S3 nl) el ⟨hM.mt.nd, fun r c e => ?_, hM.mt.inj⟩ only (fun m' h' => ?_) (fun z hz c hc => hZ z hz c (by rw [hedge z (hZW z hz)]; exact hc)) hZW hF
      · rw [← hedge r (only r c e)]
        exact hM.mt.ed r c e
      · exact best2 hWn hM.mt hZ hZW hF h' fun r hr' c hc => by rw [hedge r hr']; exact hc

theorem ok_most (T : Txt P K mg a) : FnOk P w K mg base CX0 5 a.f_most a.fd_most ["table", "rows"] (spMostL K) := by
  refine T.F_most.ok sc_most (fun vs H Q E h => ?_) (fun cdv A outer s H vs Q E hr h => ?_)
  · obtain ⟨t, rl, tb, W, rfl, _⟩ := h
    rfl
  · obtain ⟨t, rl, tb, W, rfl, hT, hok, hrl, hWn, hWr, k⟩ := h
    refine ⟨_, (pss_one (ps_ret (pe_callB call_lenD (by rfl) T.z_len (by decide +kernel) (pa_cons (pe_call (ok__mates_of T) (hr.mono (by decide)) (by rfl) T.m__mates_of T.F__mates_of.kp T.b__mates_of .nil pass0 (pa_cons (pv 0) (pa_cons (pv 1) pa_nil))) pa_nil)))), ?_⟩
    refine ⟨.ref t, rfl, .ref rl, rfl, t, rl, tb, W, rfl, hT, hok, hrl, hWn, hWr, fun H' l g Z S nl el hM ho hx hZ hZW hF => ⟨l, _, rfl, el, ?_⟩⟩
    rw [dI_len, ← filter_all hWn hM.nd ho]
    exact k H' _ S (lack_is hM hWn hZ hZW hF)

theorem ok__rows_by_column (T : Txt P K mg a) : FnOk P w K mg base CX0 1 a.f__rows_by_column a.fd__rows_by_column ["table"] (spByColA K) := by
  refine T.F__rows_by_column.ok sc__rows_by_column (fun vs H Q E h => ?_) (fun cdv A outer s H vs Q E hr h => ?_)
  · obtain ⟨t, tb, rfl, _⟩ := h
    rfl
  · obtain ⟨t, tb, rfl, hT, hok, k⟩ := h
    refine ⟨_, (pss_cons (ps_set (i := 1) sc__rows_by_column.nd rfl (.inl rfl) pe_dnewK)
      (pss_cons (ps_for PassesOwn.never rfl (pi_enum (by rfl) T.z_enumerate (pa_cons (pv 0) pa_nil)) (pg_tup rfl (pgs_cons (pg_name (i := 2) sc__rows_by_column.nd rfl (.inl rfl)) (pgs_cons (pg_name (i := 3) sc__rows_by_column.nd rfl (.inl rfl)) pgs_nil))) (pss_one (ps_for PassesOwn.never rfl (pi_list (pv 3)) (pg_name (i := 4) sc__rows_by_column.nd rfl (.inl rfl)) (pss_one (ps_expr (pe_bm PySem.F.plainAttrs_list PySem.F.slot_list_append PySem.F.type_list_append mt_append (pe_dsetd (pv 1) (pv 4) (pe_lstM pa_nil) ⟨rfl, rfl, rfl, rfl⟩) (pa_cons (pv 2) pa_nil)))))))
      (pss_one (ps_ret (pv 1))))), ?_⟩
    have hkl := keys_len tb
    have hlen := hok.len
    refine fun d nd => ?_
    have s1 : Same H (upd H d (.dK [])) := same_new nd
    have ed1 : (upd H d (.dK [])) d = some (.dK (shownK [])) := upd_same
    generalize upd H d (.dK []) = H1 at s1 ed1 ⊢
    refine ⟨.ref t, rfl, t, refs tb, rfl, (tabAt_up s1 hT).1, for_it (walk_enum (xs := refs tb)) (fun i σ H2 => ∃ (ps : Prts) (z2 z3 z4 : Option V), σ = [some (.ref t), some (.ref d), z2, z3, z4] ∧ Same H H2 ∧ RB K H H2 d ps (keys tb) i [] ∧ AscP ps)
      ⟨[], _, _, _, rfl, s1, ⟨ed1, (fun z hz => by cases hz), List.nodup_nil, List.nodup_nil, fun c r => ⟨fun h => (by cases h), fun h => ?_⟩, (fun z hz => by cases hz), fun z hz => by cases hz⟩, fun z hz => by cases hz⟩ (fun i σ H2 _ ⟨_, _, _, _, _, S2, _⟩ => (tabAt_up S2 hT).1) ?_ ?_⟩
    · rcases h with ⟨h1, h2, _⟩ | ⟨_, h⟩
      · omega
      · cases h
    · rintro i v σ H2 H3 hi ⟨ps, z2, z3, z4, rfl, S2, hB, hA⟩ ⟨Tp, x', y', rfl, nT, rfl, ex', ey'⟩
      obtain rfl : V.int (i : Int) = x' := Option.some.inj ex'
      obtain ⟨q, hq, rfl⟩ := refs_at ey'
      have hil := (List.getElem?_eq_some_iff.mp hq).1
      have s3 : Same H2 (upd H2 Tp (.tup [.int i, .ref q.1])) := same_new nT
      have tT : SqT K (upd H2 Tp (.tup [.int i, .ref q.1])) Tp [.int i, .ref q.1] := .inl (.inl upd_same)
      generalize upd H2 Tp (.tup [.int i, .ref q.1]) = H3 at s3 tT ⊢
      have S3 := S2.trans s3
      have hqm := List.mem_of_getElem? hq
      have hkm : q.2 ∈ keys tb := List.mem_map_of_mem (f := fun z : Addr × List Int => z.2) hqm
      have hrow : tP (keys tb) (i : Int) = q.2 := by
        unfold tP keys
        rw [if_pos (Int.natCast_nonneg i), Int.toNat_natCast, List.getElem?_map, hq]
        rfl
      refine ⟨Tp, _, rfl, tT, rfl, _, _, rfl, _, _, rfl, rfl, ?_⟩
      refine ⟨.ref q.1, rfl, q.1, rfl, ⟨_, S3.seq (hT.2 q hqm)⟩, for_list (K := K) (a := q.1) (xs := q.2.map V.int) (fun p σ H4 => ∃ (ps : Prts) (z4 : Option V), σ = [some (.ref t), some (.ref d), some (.int (i : Int)), some (.ref q.1), z4] ∧ Same H H4 ∧ RB K H H4 d ps (keys tb) i (q.2.take p) ∧ AscP ps)
        ⟨ps, _, rfl, S3, ⟨s3 _ _ hB.ed, fun z hz => ⟨s3 _ _ (hB.ls z hz).1, (hB.ls z hz).2⟩, hB.an, hB.kn, hB.mem, hB.nd, hB.kl⟩, hA⟩ (fun p σ H4 _ ⟨_, _, _, S4, _⟩ => S4.seq (hT.2 q hqm)) ?_ ?_⟩
      · rintro p v σ H4 hp ⟨ps, z4, rfl, S4, hB, hA⟩
        obtain ⟨c, hc, rfl⟩ := map_at hp
        have htk : q.2.take (p + 1) = q.2.take p ++ [c] := by rw [List.take_add_one, hc]; rfl
        have hcn : c ∉ q.2.take p := by
          have n1 : (q.2.take (p + 1)).Nodup := List.Nodup.sublist (List.take_sublist _ _) (hok.nd _ hkm)
          rw [htk, List.nodup_append] at n1
          exact fun h => n1.2.2 c h c (by simp) rfl
        have hcl := hok.lo _ hkm c (List.mem_of_getElem? hc)
        have hpl : ps.length ≤ 1000 := by
          have := below1000 hB.kn fun c' hc' => by
            obtain ⟨z, hz, rfl⟩ := List.mem_map.mp hc'
            exact hB.kl z hz
          rw [List.length_map] at this
          exact this
        have zlen : ∀ z ∈ ps, z.2.2.length ≤ 1000 := fun z hz => below1000 (hB.nd z hz) fun r hr' => by
          rw [← prt_mem hB.kn hz] at hr'
          rcases (hB.mem z.1 r).mp hr' with ⟨h1, h2, _⟩ | ⟨h1, _⟩
          · omega
          · omega
        refine ⟨.ref d, rfl, d, rfl, isD_of hB.ed, _, rfl, Nat.zero_le _, fun q5 H5 s5 n5 e5 => ?_⟩
        have hB5 : RB K H H5 d ps (keys tb) i (q.2.take p) := ⟨s5 _ _ hB.ed, fun z hz => ⟨s5 _ _ (hB.ls z hz).1, (hB.ls z hz).2⟩, hB.an, hB.kn, hB.mem, hB.nd, hB.kl⟩
        have S5 := S4.trans s5
        refine ⟨shownK ps, .inl c, hB5.ed, rfl, sizeN (by unfold shownK; rw [List.length_map]; omega), fun v hv => ?_, fun hv => ?_⟩
        · obtain ⟨z, hz, ez, rfl⟩ : ∃ z ∈ ps, z.1 = c ∧ v = V.ref z.2.1 := by
            rw [val_shown] at hv
            cases e : ps.find? fun z => decide (z.1 = c) with
            | none => rw [e] at hv; cases hv
            | some z =>
              rw [e] at hv
              have h2 := List.find?_some e
              exact ⟨z, List.mem_of_find?_eq_some e, of_decide_eq_true h2, (Option.some.inj hv).symm⟩
          refine ⟨.inl ⟨rfl, _, .inl (.inl (hB5.ls z hz).1)⟩, _, rfl, z.2.1, _, _, rfl, rfl, (hB5.ls z hz).1, sizeN (by rw [List.length_map]; have := zlen z hz; omega), ?_⟩
          refine ⟨addTo ps c i, _, rfl, same_put (hB5.ls z hz).2 S5, ?_⟩
          rw [htk]
          exact ⟨hB5.add hz ez hcn, asc_add hB5 hA hcn⟩
        · have hk : c ∉ ps.map (·.1) := fun hm => by
            obtain ⟨z, hz, ez⟩ := List.mem_map.mp hm
            rw [val_shown] at hv
            cases e : ps.find? fun z => decide (z.1 = c) with
            | none => exact absurd (decide_eq_true ez) (List.find?_eq_none.mp e z hz)
            | some y => rw [e] at hv; cases hv
          have hqn : ∀ z ∈ ps, z.2.1 ≠ q5 := fun z hz e => by have := (hB.ls z hz).1; rw [e, n5] at this; cases this
          have hN := hB5.new hk e5 (none_back S4 n5) hqn hcl
          have eP : putK (shownK ps) (.inl c) (.ref q5) = shownK (ps ++ [(c, q5, [])]) := by
            rw [putK_new (k := (.inl c : Key)) (V.ref q5) hv]
            unfold shownK
            rw [List.map_append]
            rfl
          rw [eP]
          have S6 : Same H (upd H5 d (.dK (shownK (ps ++ [(c, q5, [])])))) := same_put nd S5
          have e6 : (upd H5 d (.dK (shownK (ps ++ [(c, q5, [])])))) q5 = some (.lst []) := by rw [upd_ne (fun e => by rw [e, hB.ed] at n5; cases n5)]; exact e5
          generalize upd H5 d (.dK (shownK (ps ++ [(c, q5, [])]))) = H6 at S6 e6 hN ⊢
          refine ⟨.inl ⟨rfl, _, .inl (.inl e6)⟩, _, rfl, q5, _, _, rfl, rfl, e6, sizeN (by show 0 ≤ 200000; decide), ?_⟩
          refine ⟨addTo (ps ++ [(c, q5, [])]) c i, _, rfl, same_put (none_back S4 n5) S6, ?_⟩
          rw [htk]
          exact ⟨hN.add (z := (c, q5, [])) (by simp) rfl hcn, asc_add hN (asc_new hA) hcn⟩
      · rintro σ H4 ⟨ps, z4, rfl, S4, hB, hA⟩
        rw [List.length_map, List.take_length] at hB
        refine ⟨ps, _, _, _, rfl, S4, ⟨hB.ed, hB.ls, hB.an, hB.kn, fun c r => ?_, hB.nd, hB.kl⟩, hA⟩
        rw [hB.mem]
        constructor
        · rintro (⟨h1, h2, h3⟩ | ⟨h1, h2⟩)
          · exact .inl ⟨h1, by omega, h3⟩
          · exact .inl ⟨by omega, by omega, by rw [h1, hrow]; exact h2⟩
        · rintro (⟨h1, h2, h3⟩ | ⟨_, h2⟩)
          · by_cases e : r = (i : Int)
            · rw [e, hrow] at h3
              exact .inr ⟨e, h3⟩
            · exact .inl ⟨h1, by omega, h3⟩
          · cases h2
    · rintro σ H2 ⟨ps, z2, z3, z4, rfl, S2, hB, hA⟩
      refine ⟨.ref d, rfl, k H2 d ps S2 nd ⟨hB.ed, fun z hz => .inl (.inl (hB.ls z hz).1)⟩ (fun z hz => ⟨fun r hr' => ?_, ?_⟩) (fun c r => ?_) (asc_prt hA) (fun z hz => by rw [(hB.ls z hz).1]; exact fun e => by cases e)⟩
      · rw [← prt_mem hB.kn hz] at hr'
        rcases (hB.mem z.1 r).mp hr' with ⟨h1, h2, _⟩ | ⟨_, h2⟩
        · rw [refs_len] at h2
          omega
        · cases h2
      · refine below1000 (hB.nd z hz) fun r hr' => ?_
        rw [← prt_mem hB.kn hz] at hr'
        rcases (hB.mem z.1 r).mp hr' with ⟨h1, h2, _⟩ | ⟨_, h2⟩
        · rw [refs_len] at h2
          omega
        · cases h2
      · rw [hB.mem]
        constructor
        · rintro (⟨_, _, h3⟩ | ⟨_, h2⟩)
          · exact h3
          · cases h2
        · intro h
          obtain ⟨h0, l, hl, _⟩ := tP_some h
          have := (List.getElem?_eq_some_iff.mp hl).1
          rw [keys_len] at this
          exact .inl ⟨h0, by rw [refs_len]; omega, h⟩

theorem ok_matching (T : Txt P K mg a) : FnOk P w K mg base CX0 5 a.f_matching a.fd_matching ["table", "rows", "columns"] (spMatching K) := by
  refine T.F_matching.ok sc_matching (fun vs H Q E h => ?_) (fun cdv A outer s H vs Q E hr h => ?_)
  · obtain ⟨t, rl, cl, tb, W, C, rfl, _⟩ := h
    rfl
  · obtain ⟨t, rl, cl, tb, W, C, rfl, hT, hok, hrl, hWn, hWr, hcl, hCn, hCz, k⟩ := h
    have hu1 : (A.deeper (envOfC "matching" (defScope s_matching) s.heap.objs.size a.f_matching cdv)).units + 1 < cLine := by
      have := hr.un
      omega
    refine ⟨_, (pss_cons (ps_set (i := 3) sc_matching.nd rfl (.inr rfl) (pe_call (ok__mates_of T) (hr.mono (by decide)) (by rfl) T.m__mates_of T.F__mates_of.kp T.b__mates_of .nil pass0 (pa_cons (pv 0) (pa_cons (pv 1) pa_nil))))
      (pss_cons (ps_set (i := 4) sc_matching.nd rfl (.inl rfl) (pe_call (ok__with_more T) (hr.mono (by decide)) (by rfl) T.m__with_more T.F__with_more.kp T.b__with_more .nil pass0 (pa_cons (pe_call (ok__rows_by_column T) (hr.mono (by decide)) (by rfl) T.m__rows_by_column T.F__rows_by_column.kp T.b__rows_by_column .nil pass0 (pa_cons (pv 0) pa_nil)) (pa_cons (pv 2) (pa_cons (pe_lock (pe_dc (g := gName 5) (tt := tYes) (own := [("row", 5)]) rfl sc_matching.nd (pi_keys (pv 3)) (blkOk_by (own := [("row", 5)]) (N := ["table", "rows", "columns", "mates", "owners", "row", "column"]) (sc := defScope s_matching) (by decide +kernel)) (fun _ _ _ _ _ => (pg_name (i := 5) sc_matching.nd rfl (.inl rfl))) (fun _ _ _ _ _ => pts_nil) (fun _ _ _ _ _ => (pe_dget hu1 (pv 3) (pv 5) (fun _ _ => rfl))) (fun _ _ _ _ _ => (pv 5)))) pa_nil)))))
      (pss_one (ps_ret (pe_callB cr_sortL (by rfl) T.z_sorted (by decide +kernel) (pa_cons (pe_lock (pe_lc (g := gTup K 2 (gCons (gName 6) (gCons (gName 5) gNil))) (tt := tYes) (own := [("column", 6), ("row", 5)]) rfl sc_matching.nd (pi_items (pv 4)) (blkOk_by (own := [("column", 6), ("row", 5)]) (N := ["table", "rows", "columns", "mates", "owners", "row", "column"]) (sc := defScope s_matching) (by decide +kernel)) (fun _ _ _ _ _ => (pg_tup rfl (pgs_cons (pg_name (i := 6) sc_matching.nd rfl (.inl rfl)) (pgs_cons (pg_name (i := 5) sc_matching.nd rfl (.inl rfl)) pgs_nil)))) (fun _ _ _ _ _ => pts_nil) (fun _ _ _ _ _ => (pe_tup (pa_cons (pv 5) (pa_cons (pv 6) pa_nil)))))) pa_nil)))))), ?_⟩
    refine ⟨.ref t, rfl, .ref rl, rfl, t, rl, tb, W, rfl, hT, hok, hrl, hWn, hWr, fun H1 dm g Z_ S1 ndm edm hM ho hx _ _ _ => ?_⟩
    refine ⟨.ref t, rfl, t, tb, rfl, tabAt_up S1 hT, hok, fun H2 dp ps s2 ndp hP hsm hmem _ _ => ⟨.ref cl, rfl, ?_⟩⟩
    have S2 := S1.trans s2
    have edm2 := s2 _ _ edm
    -- the matching, turned round
    refine ⟨dm, _, edm2, trivial, fun od => ?_⟩
    have ezm : (upd H2 dm (.frz od (.dK (dI g)))) dm = some (.frz od (.dK (dI g))) := upd_same
    refine ⟨.ref dm, rfl, dm, od, rfl, .inl ⟨_, ezm, fun D nD => dc_it walk_keys (fun i H3 => Same (upd H2 dm (.frz od (.dK (dI g)))) H3 ∧ H3 D = some (.dK (dI (swp (g.take i))))) ⟨same_new nD, upd_same⟩ (fun i H3 _ ⟨s3, _⟩ => s3 _ _ ezm) ?_ ?_⟩⟩
    · rintro i v H3 H4 hi ⟨S3, e3⟩ ⟨rfl, kk, vv, hkv, rfl⟩
      obtain ⟨r, c, hrc, rfl, rfl⟩ : ∃ r c, g[i]? = some (r, c) ∧ kk = .inl r ∧ vv = .int c := by
        unfold dI at hkv
        rw [List.getElem?_map] at hkv
        cases e : g[i]? with
        | none => rw [e] at hkv; cases hkv
        | some z =>
          rw [e] at hkv
          have := Option.some.inj hkv
          injection this with h1 h2
          exact ⟨z.1, z.2, rfl, h1.symm, h2.symm⟩
      have el := lk_mem hM.nd (List.mem_of_getElem? hrc)
      have hsw : (swp g)[i]? = some (c, r) := by unfold swp; rw [List.getElem?_map, hrc]; rfl
      have tk : ∀ j, swp (g.take j) = (swp g).take j := fun j => by unfold swp; rw [List.map_take]
      have hgz : g.length ≤ 1000 := by
        rw [← filter_all hWn hM.nd ho]
        have := List.length_filter_le (has g) W
        have := below1000 hWn fun r hr' => by
          have h1 := hWr r hr'
          have h2 := hok.len
          rw [keys_len] at h2
          omega
        omega
      refine ⟨rfl, ?_⟩
      refine ⟨.ref dm, rfl, _, rfl, dm, .int c, rfl, ?_, _, rfl, dI (swp (g.take i)), .inl c, rfl, e3, sizeN ?_, same_put nD S3, ?_⟩
      · exact .inl ⟨_, .inl r, .inr ⟨od, S3 _ _ ezm⟩, rfl, by rw [val_dI, el]; rfl⟩
      · rw [dI_len, tk, List.length_take]
        unfold swp
        rw [List.length_map]
        omega
      · rw [upd_same, show kV (Sum.inl r) = V.int r from rfl, put_dI, tk, take_put (by rw [swp_keys]; exact hM.cn) hsw, tk]
    rintro H3 ⟨S3, e3⟩
    rw [dI_len, List.take_length] at e3
    obtain ⟨nD2, hDdm⟩ := new_lock nD
    refine ⟨S3 _ _ ezm, ?_⟩
    have s4 : Same H2 (upd H3 dm (.dK (dI g))) := same_unlock edm2 S3
    have eD4 : (upd H3 dm (.dK (dI g))) D = some (.dK (dI (swp g))) := by rw [upd_ne hDdm]; exact e3
    generalize upd H3 dm (.dK (dI g)) = H4 at s4 eD4 ⊢
    have S4 := S2.trans s4
    have hgz : g.length ≤ 1000 := by
      rw [← filter_all hWn hM.nd ho]
      have := List.length_filter_le (has g) W
      have := below1000 hWn fun r hr' => by
        have h1 := hWr r hr'
        have h2 := hok.len
        rw [keys_len] at h2
        omega
      omega
    have hsl : (swp g).length = g.length := by unfold swp; rw [List.length_map]
    have hSw : Mt (prt ps) (swp g) := by
      refine ⟨by rw [swp_keys]; exact hM.cn, fun c r e => ?_, fun c c' r e1 e2 => ?_⟩
      · rw [hmem]
        exact hM.ed r c ((own_swp hM r c).mp e)
      · have a1 := (own_swp hM r c).mp e1
        have a2 := (own_swp hM r c').mp e2
        rw [a1] at a2
        exact Option.some.inj a2
    refine ⟨dp, cl, D, ps, C, swp g, rfl, prtAt_up s4 hP, hsm, S4.seq hcl, hCn, hCz, eD4, hSw, by rw [hsl]; exact hgz, fun H5 do' g2 Z s5 ndo edo hMo hZ hZC hF => ?_⟩
    have S5 := S4.trans s5
    -- as pairs, sorted
    have hg2z := mt_len hMo.mt hMo.only
    have hM2 : Mt (tP (keys tb)) (swp g2) := by
      refine ⟨by rw [swp_keys]; exact hMo.mt.cn, fun r c e => ?_, fun r r' c e1 e2 => ?_⟩
      · have := hMo.mt.ed c r ((own_swp hMo.mt c r).mp e)
        exact (hmem c r).mp this
      · have a1 := (own_swp hMo.mt c r).mp e1
        have a2 := (own_swp hMo.mt c r').mp e2
        rw [a1] at a2
        exact Option.some.inj a2
    refine ⟨do', _, edo, trivial, fun oo => ?_⟩
    have ezo : (upd H5 do' (.frz oo (.dK (dI g2)))) do' = some (.frz oo (.dK (dI g2))) := upd_same
    refine ⟨.ref do', rfl, do', oo, _, rfl, ezo, fun L nL => lc_it walk_items (fun i H6 => ∃ ks : Tups, Same (upd H5 do' (.frz oo (.dK (dI g2)))) H6 ∧ H6 L = some (.lst (refs ks)) ∧ TupsAt K H6 ks ∧ keys ks = pairs2 (swp (g2.take i)) ∧ ks.length = i) ⟨[], same_new nL, upd_same, (fun p hp => by cases hp), rfl, rfl⟩ (fun i H6 _ ⟨_, s6, _⟩ => s6 _ _ ezo) ?_ ?_⟩
    · rintro i v H6 H7 hi ⟨ks, S6, e6, t6, ek6, l6⟩ ⟨Tp, x', y', rfl, nT, rfl, ex, ey⟩
      rw [dI_len] at hi
      obtain ⟨c, r, hcr⟩ : ∃ c r, g2[i]? = some (c, r) := ⟨_, _, List.getElem?_eq_getElem hi⟩
      have hkv : (dI g2)[i]? = some (Sum.inl c, V.int r) := by unfold dI; rw [List.getElem?_map, hcr]; rfl
      have ex2 : ((dI g2)[i]?).map (fun kv => kV kv.1) = some x' := ex
      have ey2 : ((dI g2)[i]?).map Prod.snd = some y' := ey
      rw [hkv] at ex2 ey2
      obtain rfl : V.int c = x' := Option.some.inj ex2
      obtain rfl : V.int r = y' := Option.some.inj ey2
      have s7 : Same H6 (upd H6 Tp (.tup [.int c, .int r])) := same_new nT
      have tT : SqT K (upd H6 Tp (.tup [.int c, .int r])) Tp [.int c, .int r] := .inl (.inl upd_same)
      generalize upd H6 Tp (.tup [.int c, .int r]) = H7 at s7 tT ⊢
      have e7 := s7 _ _ e6
      refine ⟨Tp, _, rfl, tT, rfl, _, _, rfl, _, _, rfl, rfl, rfl, ?_⟩
      refine ⟨_, rfl, _, rfl, (by show 2 ≤ sizeLine; decide), fun p np => ?_⟩
      have s8 : Same H7 (upd H7 p (.tup [.int r, .int c])) := same_new np
      have e8 := s8 _ _ e7
      refine ⟨refs ks, e8, sizeN (by rw [refs_len]; omega), ks ++ [(p, [r, c])], same_put nL ((S6.trans s7).trans s8), by rw [upd_same, ← refs_push], ?_, ?_, by rw [List.length_append, l6]; rfl⟩
      · exact tups_app (fun q hq => sqT_lst e8 (sqT_up (s7.trans s8) (t6 q hq))) (tups_one (sqT_lst e8 (.inl (.inl upd_same))))
      · rw [keys_push, ek6, List.take_add_one, hcr]
        unfold swp pairs2
        rw [List.map_append, List.map_append]
        rfl
    rintro H6 ⟨ks, S6, e6, t6, ek6, l6⟩
    rw [dI_len, List.take_length] at ek6
    obtain ⟨nL5, hLo⟩ := new_lock nL
    refine ⟨S6 _ _ ezo, ?_⟩
    have s7 : Same H5 (upd H6 do' (.dK (dI g2))) := same_unlock edo S6
    have eL7 : (upd H6 do' (.dK (dI g2))) L = some (.lst (refs ks)) := by rw [upd_ne hLo]; exact e6
    have t7 : TupsAt K (upd H6 do' (.dK (dI g2))) ks := fun q hq => by
      have z := t6 q hq
      rcases z with (z | ⟨u, z⟩) | z
      · exact .inl (.inl (by rw [upd_ne (fun e => by rw [e, S6 _ _ ezo] at z; cases z)]; exact z))
      · exact .inl (.inr ⟨u, by rw [upd_ne (fun e => by rw [e, S6 _ _ ezo] at z; cases z)]; exact z⟩)
      · exact .inr z
    generalize upd H6 do' (.dK (dI g2)) = H7 at s7 eL7 t7 ⊢
    refine ⟨L, ks, rfl, .inl (.inl (.inl eL7)), t7, fun p hp e => ?_, fun pl ks' H8 s8 npl epl hperm hasc => ?_⟩
    · have hm : p.2 ∈ keys ks := List.mem_map_of_mem (f := fun z : Addr × List Int => z.2) hp
      rw [ek6] at hm
      obtain ⟨x, _, e'⟩ := List.mem_map.mp hm
      rw [e] at e'
      cases e'
    have S8 := (S5.trans s7).trans s8
    -- the sorted pairs are a matching, too
    obtain ⟨gs, hgs, egs⟩ : ∃ gs : MM, gs.Perm (swp g2) ∧ keys ks' = pairs2 gs := by
      have hp : (keys ks').Perm ((swp g2).map fun x => [x.1, x.2]) := by
        have := hperm.map (·.2)
        rw [show ks.map (·.2) = keys ks from rfl, ek6] at this
        exact this
      obtain ⟨gs, h1, h2⟩ := perm_map_inv (f := fun x : Int × Int => [x.1, x.2]) hp (ks := swp g2) rfl
      exact ⟨gs, h1, h2⟩
    have hnd : (gs.map (·.1)).Nodup := (hgs.map (·.1)).nodup_iff.mpr hM2.nd
    have hlk : ∀ r, lk gs r = lk (swp g2) r := fun r => by
      cases e : lk (swp g2) r with
      | some c => exact lk_mem hnd (hgs.mem_iff.mpr (lk_some e))
      | none =>
        cases e2 : lk gs r with
        | none => rfl
        | some c =>
          have := lk_mem hM2.nd (hgs.mem_iff.mp (lk_some e2))
          rw [e] at this
          cases this
    have hMs : Mt (tP (keys tb)) gs := ⟨hnd, fun r c e => hM2.ed r c (by rw [← hlk]; exact e), fun r r' c e1 e2 => hM2.inj r r' c (by rw [← hlk]; exact e1) (by rw [← hlk]; exact e2)⟩
    have hss : ∀ c, lk (swp gs) c = lk g2 c := fun c => by
      cases e : lk g2 c with
      | some r =>
        refine (own_swp hMs r c).mpr ?_
        rw [hlk]
        exact (own_swp hMo.mt c r).mpr e
      | none =>
        cases e2 : lk (swp gs) c with
        | none => rfl
        | some r =>
          have := (own_swp hMs r c).mp e2
          rw [hlk] at this
          have := (own_swp hMo.mt c r).mp this
          rw [e] at this
          cases this
    refine k H8 pl ks' gs S8 (none_back ((S5.trans s7)) npl) epl (fun q hq => sqT_up s8 (t7 q (hperm.mem_iff.mp hq))) egs hasc hMs (fun m' h' => Nat.le_trans (hx m' h') (filter_le _ _ _ fun r _ hr' => ?_)) fun m' h' => ?_
    · obtain ⟨c, e⟩ := has_some hr'
      obtain ⟨c', e'⟩ := hMo.cols c r ((own_swp hM r c).mpr e)
      unfold has
      rw [hlk, (own_swp hMo.mt c' r).mpr e']
      rfl
    · have e1 : C.filter (has (swp gs)) = C.filter (has g2) := List.filter_congr fun c _ => by unfold has; rw [hss]
      rw [e1]
      have hs' : Mt (fun c => prt ps c) (swp m') := by
        refine ⟨by rw [swp_keys]; exact h'.cn, fun c r e => ?_, fun c c' r e1 e2 => ?_⟩
        · show r ∈ prt ps c
          rw [hmem]
          exact h'.ed r c ((own_swp h' r c).mp e)
        · have a1 := (own_swp h' r c).mp e1
          have a2 := (own_swp h' r c').mp e2
          rw [a1] at a2
          exact Option.some.inj a2
      exact best hCn hMo.mt hZ hZC hF hs'

theorem ok_is_ascending (T : Txt P K mg a) : FnOk P w K mg base CX0 1 a.f_is_ascending a.fd_is_ascending ["numbers"] (spAsc K) := by
  refine T.F_is_ascending.ok sc_is_ascending (fun vs H Q E h => ?_) (fun cdv A outer s H vs Q E hr h => ?_)
  · obtain ⟨l, ns, rfl, _⟩ := h
    rfl
  · obtain ⟨l, ns, rfl, hl, hz, k⟩ := h
    refine ⟨_, (pss_one (ps_ret (pe_callB (cr_all rfl) (by rfl) T.z_all (by decide +kernel) (pa_cons (pe_lc (g := gTup K 2 (gCons (gName 1) (gCons (gName 2) gNil))) (tt := tYes) (own := [("one", 1), ("other", 2)]) rfl sc_is_ascending.nd (pi_zip (by rfl) T.z_zip (pa_cons (pv 0) (pa_cons (pe_slice sl_listM (pv 0) (po_some pe_int) po_none) pa_nil))) (blkOk_by (own := [("one", 1), ("other", 2)]) (N := ["numbers", "one", "other"]) (sc := defScope s_is_ascending) (by decide +kernel)) (fun _ _ _ _ _ => (pg_tup rfl (pgs_cons (pg_name (i := 1) sc_is_ascending.nd rfl (.inl rfl)) (pgs_cons (pg_name (i := 2) sc_is_ascending.nd rfl (.inl rfl)) pgs_nil)))) (fun _ _ _ _ _ => pts_nil) (fun _ _ _ _ _ => (pe_cmpR op_lt (pv 1) (pv 2) (nomark _)))) pa_nil)))), ?_⟩
    refine ⟨.ref l, rfl, .ref l, rfl, 1, rfl, l, _, rfl, hl, fun lt H1 s1 nlt elt => ?_⟩
    have elt' : H1 lt = some (.lst (ns.tail.map V.int)) := by
      rw [elt]
      show some (HO.lst (cutV (ns.map V.int) (some ((1 : Nat) : Int)) none)) = _
      rw [cut_from, ← List.map_drop, List.drop_one]
    have hl1 : SqL K H1 l (ns.map V.int) := s1.seq hl
    refine ⟨l, lt, _, _, rfl, hl1, .inl (.inl elt'), fun D nD => lc_it (walk_zip (xs := ns.map V.int) (ys := ns.tail.map V.int) rfl) (fun i H2 => Same H1 H2 ∧ H2 D = some (.lst ((((ns.zip ns.tail).take i).map fun p => decide (p.1 < p.2)).map V.bl))) ⟨same_new nD, upd_same⟩ (fun i H2 _ ⟨s2, _⟩ => ⟨s2.seq hl1, .inl (.inl (s2 _ _ elt'))⟩) ?_ ?_⟩
    · rintro i v H2 H3 hi ⟨S2, e2⟩ ⟨Tp, x', y', rfl, nT, rfl, ex, ey⟩
      obtain ⟨x, hx, rfl⟩ := map_at ex
      obtain ⟨y, hy, rfl⟩ := map_at ey
      have hzip : (ns.zip ns.tail)[i]? = some (x, y) := by rw [List.getElem?_zip_eq_some]; exact ⟨hx, hy⟩
      have s3 : Same H2 (upd H2 Tp (.tup [.int x, .int y])) := same_new nT
      have tT : SqT K (upd H2 Tp (.tup [.int x, .int y])) Tp [.int x, .int y] := .inl (.inl upd_same)
      generalize upd H2 Tp (.tup [.int x, .int y]) = H3 at s3 tT ⊢
      refine ⟨Tp, _, rfl, tT, rfl, _, _, rfl, _, _, rfl, rfl, rfl, ?_⟩
      refine ⟨_, rfl, _, rfl, _, _, rfl, rfl, _, s3 _ _ e2, sizeN ?_, same_put nD (S2.trans s3), ?_⟩
      · rw [List.length_map, List.length_map, List.length_take, List.length_zip]
        omega
      · rw [upd_same, List.take_add_one, hzip, List.map_append, List.map_append]
        rfl
    rintro H2 ⟨S2, e2⟩
    rw [List.take_of_length_le (by rw [List.length_zip, List.length_map, List.length_map]; exact Nat.le_refl _)] at e2
    refine ⟨D, _, rfl, .inl (.inl e2), ?_⟩
    rw [asc1_zip]
    exact k H2 (s1.trans S2)

theorem ok_partners (T : Txt P K mg a) : FnOk P w K mg base CX0 1 a.f_partners a.fd_partners ["table", "rows"] (spPartners K) := by
  refine T.F_partners.ok sc_partners (fun vs H Q E h => ?_) (fun cdv A outer s H vs Q E hr h => ?_)
  · obtain ⟨t, rl, tb, L, rfl, _⟩ := h
    rfl
  · obtain ⟨t, rl, tb, L, rfl, hT, hF, hrl, hL, k⟩ := h
    refine ⟨_, (pss_one (ps_ret (pe_callB (cr_sortedSet rfl) (by rfl) T.z_sorted (by decide +kernel) (pa_cons (SwC.pe_sc2 (g := gName 2) (tt := tYes) (g1 := gName 3) (tt1 := tYes) (vs1 := [3]) (own := [("row", 2), ("column", 3)]) rfl sc_partners.nd (pi_list (pv 1)) (blkOk_by (own := [("row", 2), ("column", 3)]) (N := ["table", "rows", "row", "column"]) (sc := defScope s_partners) (by decide +kernel)) (by decide) (fun _ _ _ _ _ => (pg_name (i := 2) sc_partners.nd rfl (.inl rfl))) (fun _ _ _ _ _ => pts_nil) (fun _ _ _ _ _ => ((pi_listK (K := K)) (pe_ix (ix_seqK (K := K)) (pv 0) (pv 2) (fun _ _ => rfl)))) (fun _ _ _ _ _ => (pg_name (i := 3) sc_partners.nd rfl (.inl rfl))) (fun _ _ _ _ _ => pts_nil) (fun _ _ _ _ _ => (pv 3))) pa_nil)))), ?_⟩
    have hkl := keys_len tb
    have small : ∀ N : List Int, N.Nodup → (∀ c ∈ N, ∃ r, c ∈ tP (keys tb) r) → N.length ≤ 60 := fun N hn hN => by
      have n1 : (N.map Int.toNat).Nodup := by
        rw [List.Nodup, List.pairwise_map]
        refine hn.imp_of_mem fun {a b} ha hb hab e => hab ?_
        obtain ⟨r, h1⟩ := hN a ha
        obtain ⟨_, l, e1, h2⟩ := tP_some h1
        have := hF.lo l (List.mem_of_getElem? e1) a h2
        obtain ⟨r', h3⟩ := hN b hb
        obtain ⟨_, l', e2, h4⟩ := tP_some h3
        have := hF.lo l' (List.mem_of_getElem? e2) b h4
        omega
      have := nodup_below 60 _ n1 fun x hx => by
        obtain ⟨a, ha, rfl⟩ := List.mem_map.mp hx
        obtain ⟨r, h1⟩ := hN a ha
        obtain ⟨_, l, e1, h2⟩ := tP_some h1
        have := hF.lo l (List.mem_of_getElem? e1) a h2
        omega
      rw [List.length_map] at this
      exact this
    refine ⟨.ref rl, rfl, rl, rfl, ⟨_, hrl⟩, fun D nD => SwC.cl_list (K := K) (a := rl) (xs := L.map V.int) (fun i H2 => ∃ (S : Int → Bool) (N : List Int), Same H H2 ∧ H2 D = some (SetO w D S N.length) ∧ N.Nodup ∧ (∀ c, S c = true ↔ c ∈ N) ∧ (∀ c, c ∈ N ↔ ∃ r ∈ L.take i, c ∈ tP (keys tb) r))
      ⟨fun _ => false, [], same_new nD, upd_same, List.nodup_nil, (fun c => ⟨(fun h => by cases h), (fun h => by cases h)⟩), (fun c => ⟨(fun h => by cases h), (fun ⟨_, h, _⟩ => by cases h)⟩)⟩ (fun i H2 _ ⟨_, _, s2, _⟩ => s2.seq hrl) ?_ ?_⟩
    · rintro i y H2 hi ⟨S, N, S2, e2, hn, hS, hN⟩
      obtain ⟨r, hr, rfl⟩ := map_at hi
      have hrL := List.mem_of_getElem? hr
      obtain ⟨row, hrow, hat, hq, hP⟩ := row_at (tabAt_up S2 hT) (hL r hrL).1 (hL r hrL).2
      refine ⟨rfl, ?_⟩
      refine ⟨.ref t, rfl, _, rfl, .inl ⟨t, _, _, _, rfl, rfl, S2.seq hT.1, hat, row.1, rfl, ⟨_, hq⟩, SwC.cl_list (K := K) (a := row.1) (xs := row.2.map V.int) (fun p H3 => ∃ (S : Int → Bool) (N : List Int), Same H H3 ∧ H3 D = some (SetO w D S N.length) ∧ N.Nodup ∧ (∀ c, S c = true ↔ c ∈ N) ∧ (∀ c, c ∈ N ↔ (∃ r ∈ L.take i, c ∈ tP (keys tb) r) ∨ c ∈ row.2.take p))
        ⟨S, N, S2, e2, hn, hS, fun c => ⟨fun h => .inl ((hN c).mp h), fun h => h.elim (hN c).mpr (fun h => by cases h)⟩⟩ (fun p H3 _ ⟨_, _, s3, _⟩ => s3.seq (hT.2 row (List.mem_of_getElem? hrow))) ?_ ?_⟩⟩
      · rintro p y H3 hp ⟨S, N, S3, e3, hn, hS, hN⟩
        obtain ⟨c, hc, rfl⟩ := map_at hp
        have htk : row.2.take (p + 1) = row.2.take p ++ [c] := by rw [List.take_add_one, hc]; rfl
        have hl := small N hn fun c hc' => ((hN c).mp hc').elim (fun ⟨r, _, h⟩ => ⟨r, h⟩) fun h => ⟨r, by rw [hP]; exact List.mem_of_mem_take h⟩
        refine ⟨rfl, ?_⟩
        refine ⟨_, rfl, c, S, N.length, rfl, e3, (by unfold scanBound; omega), ?_⟩
        have hS' : ∀ j, (S j || decide (j = c)) = true ↔ j ∈ N ∨ j = c := fun j => by rw [Bool.or_eq_true, hS, decide_eq_true_iff]
        by_cases hcN : c ∈ N
        · rw [if_pos ((hS c).mpr hcN)]
          refine ⟨_, N, same_put nD S3, upd_same, hn, fun j => ?_, fun j => ?_⟩
          · rw [hS']
            exact ⟨fun h => h.elim id fun h => h ▸ hcN, .inl⟩
          · rw [hN, htk, List.mem_append, List.mem_singleton]
            exact ⟨fun h => h.elim .inl fun h => .inr (.inl h), fun h => h.elim .inl fun h => h.elim .inr fun h => by rw [h]; exact (hN c).mp hcN⟩
        · rw [if_neg fun h => hcN ((hS c).mp h)]
          refine ⟨_, N ++ [c], same_put nD S3, by rw [upd_same, List.length_append]; rfl, nodup_push hn hcN, fun j => ?_, fun j => ?_⟩
          · rw [hS', List.mem_append, List.mem_singleton]
          · rw [List.mem_append, List.mem_singleton, hN, htk, List.mem_append, List.mem_singleton, or_assoc]
      · rintro H3 ⟨S, N, S3, e3, hn, hS, hN⟩
        rw [List.length_map, List.take_length] at hN
        refine ⟨S, N, S3, e3, hn, hS, fun c => ?_⟩
        have htk : L.take (i + 1) = L.take i ++ [r] := by rw [List.take_add_one, hr]; rfl
        rw [hN, htk, ← hP]
        constructor
        · rintro (⟨r', h1, h2⟩ | h)
          · exact ⟨r', List.mem_append_left _ h1, h2⟩
          · exact ⟨r, List.mem_append_right _ (List.mem_singleton.mpr rfl), h⟩
        · rintro ⟨r', h1, h2⟩
          rcases List.mem_append.mp h1 with h1 | h1
          · exact .inl ⟨r', h1, h2⟩
          · exact .inr (List.mem_singleton.mp h1 ▸ h2)
    · rintro H2 ⟨S, N, S2, e2, hn, hS, hN⟩
      rw [List.length_map, List.take_length] at hN
      have hl := small N hn fun c hc' => let ⟨r, _, h⟩ := (hN c).mp hc'; ⟨r, h⟩
      refine ⟨D, S, N.length, rfl, e2, by omega, fun ns' p hs1 hs2 hs3 np => k _ p ns' (S2.trans (same_new np)) upd_same ⟨hs1, fun c => ?_⟩⟩
      rw [hs2, hS, hN]

theorem ok_lack_matching (T : Txt P K mg a) : FnOk P w K mg base CX0 2 a.f_lack_matching a.fd_lack_matching ["table", "rows"] (spLack K) := by
  refine T.F_lack_matching.ok sc_lack_matching (fun vs H Q E h => ?_) (fun cdv A outer s H vs Q E hr h => ?_)
  · obtain ⟨t, rl, tb, L, rfl, _⟩ := h
    rfl
  · obtain ⟨t, rl, tb, L, rfl, hT, hF, hrl, hL, k⟩ := h
    refine ⟨_, (pss_one (ps_ret (pe_op op_sub (pe_callB call_len_seq (by rfl) T.z_len (by decide +kernel) (pa_cons (pv 1) pa_nil)) (pe_callB call_len_seq (by rfl) T.z_len (by decide +kernel) (pa_cons (pe_call (ok_partners T) (hr.mono (by decide)) (by rfl) T.m_partners T.F_partners.kp T.b_partners .nil pass0 (pa_cons (pv 0) (pa_cons (pv 1) pa_nil))) pa_nil))))), ?_⟩
    refine ⟨.ref rl, rfl, rl, _, rfl, .inl hrl, .ref t, rfl, .ref rl, rfl, t, rl, tb, L, rfl, hT, hF, hrl, hL, fun H1 l ns S1 e1 hc => ⟨l, _, rfl, .inl (.inl (.inl e1)), _, _, rfl, rfl, ?_⟩⟩
    rw [List.length_map, List.length_map]
    exact k H1 ns S1 hc

theorem ok_lacks_more (T : Txt P K mg a) : FnOk P w K mg base CX0 3 a.f_lacks_more a.fd_lacks_more ["table", "rows", "told", "bound"] (spLacksMore K) := by
  refine T.F_lacks_more.ok sc_lacks_more (fun vs H Q E h => ?_) (fun cdv A outer s H vs Q E hr h => ?_)
  · obtain ⟨t, rl, tl, tb, W, L, bound, rfl, _⟩ := h
    rfl
  · obtain ⟨t, rl, tl, tb, W, L, bound, rfl, hT, hF, hrl, hW, htl, hL, k⟩ := h
    refine ⟨_, (pss_one (ps_ret (pe_and (pe_call (ok_is_ascending T) (hr.mono (by decide)) (by rfl) T.m_is_ascending T.F_is_ascending.kp T.b_is_ascending .nil pass0 (pa_cons (pv 2) pa_nil)) (pe_and (pe_callB (cr_all rfl) (by rfl) T.z_all (by decide +kernel) (pa_cons (pe_lc (g := gName 4) (tt := tYes) (own := [("row", 4)]) rfl sc_lacks_more.nd (pi_list (pv 2)) (blkOk_by (own := [("row", 4)]) (N := ["table", "rows", "told", "bound", "row"]) (sc := defScope s_lacks_more) (by decide +kernel)) (fun _ _ _ _ _ => (pg_name (i := 4) sc_lacks_more.nd rfl (.inl rfl))) (fun _ _ _ _ _ => pts_nil) (fun _ _ _ _ _ => (pe_cmpR (op_in_seqK (K := K)) (pv 4) (pv 1) (by rfl)))) pa_nil)) (pe_one (pe_cmpR op_gt (pe_call (ok_lack_matching T) (hr.mono (by decide)) (by rfl) T.m_lack_matching T.F_lack_matching.kp T.b_lack_matching .nil pass0 (pa_cons (pv 0) (pa_cons (pv 2) pa_nil))) (pv 3) (nomark _))))))), ?_⟩
    refine ⟨.ref tl, rfl, tl, L, rfl, htl, by omega, fun H1 s1 => ⟨_, rfl, ?_⟩⟩
    refine ite2 (fun g1 => ?_) (fun g1 => k H1 false s1 ⟨(fun h => by cases h), fun h => absurd h.1 g1⟩)
    have htl1 := s1.seq htl
    have hrl1 := s1.seq hrl
    refine ⟨.ref tl, rfl, tl, rfl, ⟨_, htl1⟩, fun D nD => lc_list (K := K) (a := tl) (xs := L.map V.int) (fun i H2 => Same H1 H2 ∧ H2 D = some (.lst (((L.take i).map fun r => decide (r ∈ W)).map V.bl))) ⟨same_new nD, upd_same⟩ (fun i H2 _ ⟨s2, _⟩ => s2.seq htl1) ?_ ?_⟩
    · rintro i v H2 hi ⟨S2, e2⟩
      obtain ⟨r, hr', rfl⟩ := map_at hi
      have htk : L.take (i + 1) = L.take i ++ [r] := by rw [List.take_add_one, hr']; rfl
      have hil := (List.getElem?_eq_some_iff.mp hr').1
      refine ⟨rfl, ?_⟩
      refine ⟨_, rfl, .ref rl, rfl, rl, _, rfl, .inl (S2.seq hrl1), rfl, ?_, ?_⟩
      · rw [List.all_map]
        exact List.all_eq_true.mpr fun _ _ => rfl
      rw [show (if false then !inV (V.int r) (W.map V.int) else inV (V.int r) (W.map V.int)) = decide (r ∈ W) from inV_ints _ _]
      refine ⟨_, e2, sizeN (by rw [List.length_map, List.length_map, List.length_take]; omega), same_put nD S2, ?_⟩
      rw [upd_same, htk, List.map_append, List.map_append]
      rfl
    rintro H2 ⟨S2, e2⟩
    rw [List.length_map, List.take_length] at e2
    refine ⟨D, _, rfl, .inl (.inl e2), _, rfl, ?_⟩
    have eal : ((L.map fun r => decide (r ∈ W)).all id) = true ↔ ∀ r ∈ L, r ∈ W := by
      rw [List.all_map, List.all_eq_true]
      exact ⟨fun h r hr => of_decide_eq_true (h r hr), fun h r hr => decide_eq_true (h r hr)⟩
    have S := s1.trans S2
    refine ite2 (fun g2 => ?_) (fun g2 => k H2 false S ⟨(fun h => by cases h), fun h => absurd (eal.mpr h.2.1) g2⟩)
    have hin := eal.mp g2
    refine ⟨.ref t, rfl, .ref tl, rfl, t, tl, tb, L, rfl, tabAt_up S hT, hF, S.seq htl, fun r hr => hW r (hin r hr), fun H3 ns s3 hc => ?_⟩
    refine ⟨_, rfl, _, _, rfl, rfl, k H3 _ (S.trans s3) ?_⟩
    show decide (bound < (L.length : Int) - ns.length) = true ↔ _
    rw [decide_eq_true_iff]
    have hl : lackI (tP (keys tb)) L ((L.length : Int) - ns.length) := ⟨ns, asc_nodup hc.1, hc.2, rfl⟩
    exact ⟨fun h => ⟨g1, hin, fun x hx => by rw [lackI_uniq hx hl]; exact h⟩, fun h => h.2.2 _ hl⟩

theorem ok_least_lot (T : Txt P K mg a) : FnOk P w K mg base CX0 5 a.f_least_lot a.fd_least_lot ["table", "rows"] (spLeast K) := by
  refine T.F_least_lot.ok sc_least_lot (fun vs H Q E h => ?_) (fun cdv A outer s H vs Q E hr h => ?_)
  · obtain ⟨t, rl, tb, W, rfl, _⟩ := h
    rfl
  · obtain ⟨t, rl, tb, W, rfl, hT, hok, hrl, hWn, hW64, hWr, k⟩ := h
    have hu1 : (A.deeper (envOfC "least_lot" (defScope s_least_lot) s.heap.objs.size a.f_least_lot cdv)).units + 1 < cLine := by
      have := hr.un
      omega
    refine ⟨_, (pss_cons (ps_set (i := 2) sc_least_lot.nd rfl (.inr rfl) (pe_call (ok__mates_of T) (hr.mono (by decide)) (by rfl) T.m__mates_of T.F__mates_of.kp T.b__mates_of .nil pass0 (pa_cons (pv 0) (pa_cons (pv 1) pa_nil))))
      (pss_cons (ps_lock (ps_setDc (i := 4) rfl sc_least_lot.nd rfl rfl (sw_trueD rfl rfl rfl (by decide +kernel)) (g := gName 3) (tt := tYes) (own := [("row", 3)]) (pi_keys (pv 2)) (blkOk_by (own := [("row", 3)]) (N := ["table", "rows", "mates", "row", "owners", "queue", "found", "at", "column", "owner"]) (sc := defScope s_least_lot) (by decide +kernel)) (fun _ _ _ _ _ => (pg_name (i := 3) sc_least_lot.nd rfl (.inl rfl))) (fun _ _ _ _ _ => pts_nil) (fun _ _ _ _ _ => (pe_dget hu1 (pv 2) (pv 3) (fun _ _ => rfl))) (fun _ _ _ _ _ => (pv 3))))
      (pss_cons (ps_setLc (i := 5) rfl sc_least_lot.nd rfl rfl (sw_true rfl rfl rfl (by decide +kernel)) (g := gName 3) (own := [("row", 3)]) (pi_list (pv 1)) (blkOk_by (own := [("row", 3)]) (N := ["table", "rows", "mates", "row", "owners", "queue", "found", "at", "column", "owner"]) (sc := defScope s_least_lot) (by decide +kernel)) (fun _ _ _ _ _ => (pg_name (i := 3) sc_least_lot.nd rfl (.inl rfl))) (fun _ _ _ _ _ => (pts_one (pt_cmp (pc_dnotin hu1 (pv 3) (pv 2))))) (fun _ _ _ _ _ => (pv 3)))
      (pss_cons (ps_setDc (i := 6) rfl sc_least_lot.nd rfl rfl (sw_trueD rfl rfl rfl (by decide +kernel)) (g := gName 3) (tt := tYes) (own := [("row", 3)]) (pi_list (pv 5)) (blkOk_by (own := [("row", 3)]) (N := ["table", "rows", "mates", "row", "owners", "queue", "found", "at", "column", "owner"]) (sc := defScope s_least_lot) (by decide +kernel)) (fun _ _ _ _ _ => (pg_name (i := 3) sc_least_lot.nd rfl (.inl rfl))) (fun _ _ _ _ _ => pts_nil) (fun _ _ _ _ _ => (pv 3)) (fun _ _ _ _ _ => pe_bl))
      (pss_cons (ps_set (i := 7) sc_least_lot.nd rfl (.inl rfl) pe_int)
      (pss_cons (ps_while PassesOwn.never (pt_cmpR op_lt (pv 7) (pe_callB call_len_seq (by rfl) T.z_len (by decide +kernel) (pa_cons (pv 5) pa_nil)) (nomark _)) (pss_cons (ps_set (i := 3) sc_least_lot.nd rfl (.inl rfl) (pe_ix ix_seq (pv 5) (pv 7) (fun _ _ => rfl)))
      (pss_cons (ps_for PassesOwn.never rfl (pi_list (pe_ix ix_seq (pv 0) (pv 3) (fun _ _ => rfl))) (pg_name (i := 8) sc_least_lot.nd rfl (.inl rfl)) (pss_cons (ps_set (i := 9) sc_least_lot.nd rfl (.inl rfl) (pe_dget hu1 (pv 4) (pv 8) (fun _ _ => rfl)))
      (pss_one (ps_if (pt_cmp (pc_dnotin hu1 (pv 9) (pv 6))) (pss_cons (ps_dput hu1 (pv 6) (pv 9) pe_bl rfl)
      (pss_one (ps_expr (pe_bm PySem.F.plainAttrs_list PySem.F.slot_list_append PySem.F.type_list_append mt_append (pv 5) (pa_cons (pv 9) pa_nil))))) pss_nil))))
      (pss_one (ps_aug (i := 7) sc_least_lot.nd rfl (.inl rfl) pe_int ip_add)))))
      (pss_one (ps_ret (pe_callB cr_sorted (by rfl) T.z_sorted (by decide +kernel) (pa_cons (pv 5) pa_nil)))))))))), ?_⟩
    have hWz : W.length ≤ 1000 := by omega
    refine ⟨.ref t, rfl, .ref rl, rfl, t, rl, tb, W, rfl, hT, hok, hrl, hWn, hWr, fun H1 dm g Z S1 ndm edm hM ho hx hZ hZW hF => ?_⟩
    have hgz : g.length ≤ 1000 := by
      rw [← filter_all hWn hM.nd ho]
      have := List.length_filter_le (has g) W
      omega
    -- owners
    refine ⟨dm, _, edm, trivial, fun om => ?_⟩
    have ezm : (upd H1 dm (.frz om (.dK (dI g)))) dm = some (.frz om (.dK (dI g))) := upd_same
    refine ⟨.ref dm, rfl, dm, om, rfl, .inl ⟨_, ezm, fun do' nDo => dc_it walk_keys (fun i H2y => Same (upd H1 dm (.frz om (.dK (dI g)))) H2y ∧ H2y do' = some (.dK (dI (swp (g.take i))))) ⟨same_new nDo, upd_same⟩ (fun i H2y _ ⟨s4, _⟩ => s4 _ _ ezm) ?_ ?_⟩⟩
    · rintro i v H2y H3x hi ⟨S2y, e2y⟩ ⟨rfl, kk, vv, hkv, rfl⟩
      obtain ⟨r, c, hrc, rfl, rfl⟩ : ∃ r c, g[i]? = some (r, c) ∧ kk = .inl r ∧ vv = .int c := by
        unfold dI at hkv
        rw [List.getElem?_map] at hkv
        cases e : g[i]? with
        | none => rw [e] at hkv; cases hkv
        | some z =>
          rw [e] at hkv
          have := Option.some.inj hkv
          injection this with h1 h2
          exact ⟨z.1, z.2, rfl, h1.symm, h2.symm⟩
      have el := lk_mem hM.nd (List.mem_of_getElem? hrc)
      have hsw : (swp g)[i]? = some (c, r) := by unfold swp; rw [List.getElem?_map, hrc]; rfl
      have tk : ∀ j, swp (g.take j) = (swp g).take j := fun j => by unfold swp; rw [List.map_take]
      refine ⟨rfl, ?_⟩
      refine ⟨.ref dm, rfl, _, rfl, dm, .int c, rfl, ?_, _, rfl, dI (swp (g.take i)), .inl c, rfl, e2y, sizeN ?_, same_put nDo S2y, ?_⟩
      · exact .inl ⟨_, .inl r, .inr ⟨om, S2y _ _ ezm⟩, rfl, by rw [val_dI, el]; rfl⟩
      · rw [dI_len, tk, List.length_take]
        unfold swp
        rw [List.length_map]
        omega
      · rw [upd_same, show kV (Sum.inl r) = V.int r from rfl, put_dI, tk, take_put (by rw [swp_keys]; exact hM.cn) hsw, tk]
    rintro H2y ⟨S2y, e2y⟩
    rw [dI_len, List.take_length] at e2y
    obtain ⟨ndo3, hdom⟩ := new_lock nDo
    refine ⟨S2y _ _ ezm, ?_⟩
    have S3x : Same H1 (upd H2y dm (.dK (dI g))) := same_unlock edm S2y
    have eo3 : (upd H2y dm (.dK (dI g))) do' = some (.dK (dI (swp g))) := by rw [upd_ne hdom]; exact e2y
    generalize upd H2y dm (.dK (dI g)) = H3 at S3x eo3 ⊢
    have S3 := S1.trans S3x
    have edm3 := S3x _ _ edm
    -- queue
    refine ⟨.ref rl, rfl, rl, rfl, ⟨_, S3.seq hrl⟩, fun l nl => lc_list (K := K) (a := rl) (xs := W.map V.int) (fun i H4 => Same H3 H4 ∧ H4 l = some (.lst (((W.take i).filter fun r => !has g r).map V.int))) ⟨same_new nl, upd_same⟩ (fun i H4 _ ⟨s4, _⟩ => (S3.trans s4).seq hrl) ?_ ?_⟩
    · rintro i v H4 hi ⟨S4, e4⟩
      obtain ⟨r, hr', rfl⟩ := map_at hi
      have htk : W.take (i + 1) = W.take i ++ [r] := by rw [List.take_add_one, hr']; rfl
      refine ⟨rfl, ?_⟩
      refine ⟨_, rfl, .ref dm, rfl, dm, _, rfl, get_dI (S4 _ _ edm3) rfl, _, rfl, ?_⟩
      cases elk : lk g r with
      | some c =>
        refine iteF ⟨S4, ?_⟩
        rw [htk, List.filter_append, List.filter_cons_of_neg (p := fun r => !has g r) (by unfold has; rw [elk]; exact Bool.false_ne_true), List.filter_nil, List.append_nil]
        exact e4
      | none =>
        refine iteT ⟨_, rfl, _, e4, sizeN ?_, same_put nl S4, ?_⟩
        · rw [List.length_map]
          have := List.length_filter_le (fun r => !has g r) (W.take i)
          rw [List.length_take] at this
          omega
        · rw [upd_same, htk, List.filter_append, List.filter_cons_of_pos (p := fun r => !has g r) (by unfold has; rw [elk]; rfl), List.filter_nil, List.map_append]
          rfl
    rintro H4 ⟨S34, e4⟩
    rw [List.length_map, List.take_length] at e4
    have q0n : (W.filter fun r => !has g r).Nodup := hWn.filter _
    have q0m : ∀ r, r ∈ (W.filter fun r => !has g r) ↔ r ∈ W ∧ lk g r = none := fun r => by
      rw [List.mem_filter]
      unfold has
      cases lk g r <;> simp
    generalize (W.filter fun r => !has g r) = q0 at e4 q0n q0m
    have hq0 : q0.length ≤ W.length := len_le_of_sub q0n fun x hx => ((q0m x).mp hx).1
    have S4 := S3.trans S34
    -- found
    refine ⟨.ref l, rfl, l, rfl, ⟨_, .inl (.inl e4)⟩, fun df nDf => dc_it (walk_list (xs := q0.map V.int)) (fun i H5 => Same H4 H5 ∧ H5 df = some (.dK (dW (q0.take i)))) ⟨same_new nDf, upd_same⟩ (fun i H5 _ ⟨s5, _⟩ => .inl (.inl (s5 _ _ e4))) ?_ ?_⟩
    · rintro i v H6 H7 hi ⟨S6, e6⟩ ⟨rfl, hv⟩
      obtain ⟨r, hr', rfl⟩ := map_at hv
      refine ⟨rfl, ?_⟩
      refine ⟨_, rfl, dW (q0.take i), .inl r, rfl, e6, sizeN ?_, same_put nDf S6, ?_⟩
      · unfold dW
        rw [List.length_map, List.length_take]
        omega
      · have e : q0.take (i + 1) = q0.take i ++ [r] := by rw [List.take_add_one, hr']; rfl
        have n1 : (q0.take (i + 1)).Nodup := List.Nodup.sublist (List.take_sublist _ _) q0n
        rw [e, List.nodup_append] at n1
        rw [upd_same, put_dW fun hm => n1.2.2 r hm r (by simp) rfl, e]
    rintro H5 ⟨S45, e5⟩
    rw [List.length_map, List.take_length] at e5
    have S5 := S4.trans S45
    have el5 := S45 _ _ e4
    have eo5 := S45 _ _ (S34 _ _ eo3)
    have nl0 : H l = none := none_back S3 nl
    have ndf0 : H df = none := none_back S4 nDf
    have hne1 : df ≠ l := fun e => by rw [e, e4] at nDf; cases nDf
    have hne2 : do' ≠ l := fun e => by rw [e] at eo3; rw [eo3] at nl; cases nl
    have hne3 : do' ≠ df := fun e => by
      have z := S34 _ _ eo3
      rw [e, nDf] at z
      cases z
    -- the walk
    refine ⟨fun μ σ H6 => ∃ (n : Nat) (q : List Int) (z3 z8 z9 : Option V), σ = [some (.ref t), some (.ref rl), some (.ref dm), z3, some (.ref do'), some (.ref l), some (.ref df), some (.int (n : Int)), z8, z9] ∧ Same H H6 ∧ H6 do' = some (.dK (dI (swp g))) ∧ H6 df = some (.dK (dW q)) ∧ H6 l = some (.lst (q.map V.int)) ∧
        RQ (tP (keys tb)) W g Z q ∧ (∀ i, i < n → ∀ row, q[i]? = some row → ∀ c ∈ tP (keys tb) row, ∃ r' ∈ q, lk g r' = some c) ∧ n ≤ q.length ∧ μ + n = 1002,
      ⟨1002, 0, q0, _, _, _, rfl, S5, eo5, e5, el5, ⟨q0n, fun x hx => hF x ((q0m x).mp hx).1 ((q0m x).mp hx).2, fun r h1 h2 => (q0m r).mpr ⟨h1, h2⟩, fun L h1 _ x hx => h1 x ((q0m x).mp hx).1 ((q0m x).mp hx).2⟩, (fun i hi => absurd hi (Nat.not_lt_zero _)), Nat.zero_le _, rfl⟩, ?_⟩
    rintro μ σ H6 ⟨n, q, z3, z8, z9, rfl, S6, eo6, ef6, el6, hQ, hdone, hn, hμ⟩
    have hqW : q.length ≤ W.length := len_le_of_sub hQ.nd fun x hx => hZW x (hQ.sub x hx)
    refine ⟨_, rfl, .ref l, rfl, l, _, rfl, .inl (.inl (.inl el6)), _, _, rfl, rfl, _, rfl, ite2 (fun g1 => ?_) (fun g1 => ?_)⟩
    rotate_left
    · have hnl : n = q.length := by
        have : ¬ ((n : Int) < (((q.map V.int).length : Nat) : Int)) := fun z => g1 (decide_eq_true z)
        rw [List.length_map] at this
        omega
      refine ⟨.ref l, rfl, l, q, rfl, .inl (.inl el6), by omega, fun ns' p hperm hasc np => ?_⟩
      have hmem : ∀ x, x ∈ ns' ↔ x ∈ q := fun x => hperm.mem_iff
      refine k _ p g ns' (S6.trans (same_new np)) upd_same ?_ ⟨hM, ho, fun x hx => hZW x (hQ.sub x ((hmem x).mp hx)), fun r h1 h2 => (hmem r).mpr (hQ.free r h1 h2), fun z hz c hc => ?_, fun L h1 h2 x hx => hQ.least L h1 h2 x ((hmem x).mp hx)⟩ hx
      · refine (hasc.and (hperm.nodup_iff.mpr hQ.nd)).imp fun {a b} h => ?_
        have h1 : a ≤ b := h.1
        have h2 : a ≠ b := h.2
        omega
      · obtain ⟨j, hj, ej⟩ := List.getElem_of_mem ((hmem z).mp hz)
        obtain ⟨r', h1, h2⟩ := hdone j (by omega) z (by rw [List.getElem?_eq_getElem hj, ej]) c hc
        exact ⟨r', (hmem r').mpr h1, h2⟩
    · have hlt : n < q.length := by
        have : ((n : Int) < (((q.map V.int).length : Nat) : Int)) := of_decide_eq_true g1
        rw [List.length_map] at this
        omega
      have hrow : q[n]? = some q[n] := List.getElem?_eq_getElem hlt
      generalize q[n] = row at hrow
      have hrZ := hQ.sub row (List.mem_of_getElem? hrow)
      have hrW := hZW row hrZ
      have S6' := S6
      obtain ⟨rw', hrw, hat, hq', hPr⟩ := row_at (tabAt_up S6' hT) (hWr row hrW).1 (hWr row hrW).2
      refine ⟨_, fun σ' H' z => z, ?_⟩
      refine ⟨.ref l, rfl, _, rfl, .inl ⟨l, _, _, _, rfl, rfl, .inl (.inl el6), atI_nat (by rw [List.getElem?_map, hrow]; rfl), ?_⟩⟩
      refine ⟨.ref t, rfl, _, rfl, .inl ⟨t, _, _, _, rfl, rfl, S6'.seq hT.1, hat, rw'.1, rfl, ⟨_, hq'⟩, for_list (K := K) (a := rw'.1) (xs := rw'.2.map V.int) (fun p σ H7 => ∃ (q : List Int) (z8 z9 : Option V), σ = [some (.ref t), some (.ref rl), some (.ref dm), some (.int row), some (.ref do'), some (.ref l), some (.ref df), some (.int (n : Int)), z8, z9] ∧ Same H H7 ∧ H7 do' = some (.dK (dI (swp g))) ∧ H7 df = some (.dK (dW q)) ∧ H7 l = some (.lst (q.map V.int)) ∧
          RQ (tP (keys tb)) W g Z q ∧ (∀ i, i < n → ∀ row, q[i]? = some row → ∀ c ∈ tP (keys tb) row, ∃ r' ∈ q, lk g r' = some c) ∧ n < q.length ∧ q[n]? = some row ∧ ∀ c ∈ rw'.2.take p, ∃ r' ∈ q, lk g r' = some c)
        ⟨q, _, _, rfl, S6, eo6, ef6, el6, hQ, hdone, hlt, hrow, fun c hc => by cases hc⟩ (fun p σ H7 _ ⟨_, _, _, _, S7, _⟩ => S7.seq (hT.2 rw' (List.mem_of_getElem? hrw))) ?_ ?_⟩⟩
      · rintro p v σ H7 hp ⟨q, z8, z9, rfl, S7, eo7, ef7, el7, hQ, hdone, hlt, hrow, hpart⟩
        have hqW : q.length ≤ W.length := len_le_of_sub hQ.nd fun x hx => hZW x (hQ.sub x hx)
        obtain ⟨c, hc, rfl⟩ := map_at hp
        have hcP : c ∈ tP (keys tb) row := by rw [hPr]; exact List.mem_of_getElem? hc
        obtain ⟨r', hr'Z, hr'c⟩ := hZ row hrZ c hcP
        have hown : lk (swp g) c = some r' := (own_swp hM r' c).mpr hr'c
        have htk : rw'.2.take (p + 1) = rw'.2.take p ++ [c] := by rw [List.take_add_one, hc]; rfl
        refine ⟨.ref do', rfl, _, rfl, do', .int r', rfl, get_dI1 eo7 hown, ?_⟩
        refine ⟨_, rfl, .ref df, rfl, df, _, rfl, DGet.k (k := .inl r') ef7, _, rfl, ?_⟩
        rw [val_dW]
        by_cases hin : r' ∈ q
        · rw [decide_eq_true hin]
          refine iteF ⟨q, _, _, rfl, S7, eo7, ef7, el7, hQ, hdone, hlt, hrow, fun x hx => ?_⟩
          rw [htk] at hx
          rcases List.mem_append.mp hx with hx | hx
          · exact hpart x hx
          · rw [List.mem_singleton.mp hx]
            exact ⟨r', hin, hr'c⟩
        · rw [decide_eq_false hin]
          refine iteT ⟨.ref df, rfl, _, rfl, df, _, rfl, DPut.k (k := .inl r') ef7 (sizeN (by unfold dW; rw [List.length_map]; omega)), ?_⟩
          rw [put_dW hin]
          have S8 : Same H (upd H7 df (.dK (dW (q ++ [r'])))) := same_put ndf0 S7
          have ef8 : (upd H7 df (.dK (dW (q ++ [r'])))) df = some (.dK (dW (q ++ [r']))) := upd_same
          have el8 : (upd H7 df (.dK (dW (q ++ [r'])))) l = some (.lst (q.map V.int)) := by rw [upd_ne (Ne.symm hne1)]; exact el7
          have eo8 : (upd H7 df (.dK (dW (q ++ [r'])))) do' = some (.dK (dI (swp g))) := by rw [upd_ne hne3]; exact eo7
          generalize upd H7 df (.dK (dW (q ++ [r']))) = H8 at S8 ef8 el8 eo8 ⊢
          refine ⟨.ref l, rfl, .inl ⟨rfl, _, .inl (.inl el8)⟩, _, rfl, l, _, _, rfl, rfl, el8, sizeN (by rw [List.length_map]; omega), ?_⟩
          refine ⟨q ++ [r'], _, _, rfl, same_put nl0 S8, by rw [upd_ne hne2]; exact eo8, by rw [upd_ne hne1]; exact ef8, by rw [upd_same, map_push], ⟨nodup_push hQ.nd hin, fun x hx => ?_, fun r h1 h2 => List.mem_append_left _ (hQ.free r h1 h2), fun L h1 h2 x hx => ?_⟩, fun i hi row' hi' x hx => ?_, by rw [List.length_append]; omega, by rw [List.getElem?_append_left hlt]; exact hrow, fun x hx => ?_⟩
          · rcases List.mem_append.mp hx with hx | hx
            · exact hQ.sub x hx
            · rw [List.mem_singleton.mp hx]
              exact hr'Z
          · rcases List.mem_append.mp hx with hx | hx
            · exact hQ.least L h1 h2 x hx
            · rw [List.mem_singleton.mp hx]
              exact h2 row (hQ.least L h1 h2 row (List.mem_of_getElem? hrow)) c hcP r' hr'c
          · rw [List.getElem?_append_left (by omega)] at hi'
            obtain ⟨y, h1, h2⟩ := hdone i hi row' hi' x hx
            exact ⟨y, List.mem_append_left _ h1, h2⟩
          · rw [htk] at hx
            rcases List.mem_append.mp hx with hx | hx
            · obtain ⟨y, h1, h2⟩ := hpart x hx
              exact ⟨y, List.mem_append_left _ h1, h2⟩
            · rw [List.mem_singleton.mp hx]
              exact ⟨r', by simp, hr'c⟩
      · rintro σ H7 ⟨q, z8, z9, rfl, S7, eo7, ef7, el7, hQ, hdone, hlt, hrow, hpart⟩
        rw [List.length_map, List.take_length, ← hPr] at hpart
        refine ⟨_, rfl, _, _, rfl, rfl, μ - 1, by omega, n + 1, q, _, _, _, rfl, S7, eo7, ef7, el7, hQ, fun i hi row' hi' => ?_, by omega, by omega⟩
        by_cases hin : i = n
        · rw [hin, hrow] at hi'
          rw [← Option.some.inj hi']
          exact hpart
        · exact hdone i (by omega) row' hi'

theorem ok_turned_table (T : Txt P K mg a) : FnOk P w K mg base CX0 2 a.f_turned_table a.fd_turned_table ["table", "many"] (spTurned K) := by
  refine T.F_turned_table.ok sc_turned_table (fun vs H Q E h => ?_) (fun cdv A outer s H vs Q E hr h => ?_)
  · obtain ⟨t, tb, many, rfl, _⟩ := h
    rfl
  · obtain ⟨t, tb, many, rfl, hT, hok, hm, k⟩ := h
    have hu1 : (A.deeper (envOfC "turned_table" (defScope s_turned_table) s.heap.objs.size a.f_turned_table cdv)).units + 1 < cLine := by
      have := hr.un
      omega
    refine ⟨_, (pss_cons (ps_set (i := 2) sc_turned_table.nd rfl (.inr rfl) (pe_call (ok__rows_by_column T) (hr.mono (by decide)) (by rfl) T.m__rows_by_column T.F__rows_by_column.kp T.b__rows_by_column .nil pass0 (pa_cons (pv 0) pa_nil)))
      (pss_one (ps_ret (pe_lc (g := gName 3) (tt := tYes) (own := [("column", 3)]) rfl sc_turned_table.nd (pi_range1 (by rfl) T.z_range (pa_cons (pv 1) pa_nil)) (blkOk_by (own := [("column", 3)]) (N := ["table", "many", "found", "column"]) (sc := defScope s_turned_table) (by decide +kernel)) (fun _ _ _ _ _ => (pg_name (i := 3) sc_turned_table.nd rfl (.inl rfl))) (fun _ _ _ _ _ => pts_nil) (fun _ _ _ _ _ => (pe_dget2 hu1 (pv 2) (pv 3) (pe_lst pa_nil) ⟨rfl, rfl, rfl, rfl⟩)))))), ?_⟩
    refine ⟨.ref t, rfl, t, tb, rfl, hT, hok, fun H1 d ps S1 nd hP hsm hmem hasc hnn => ?_⟩
    refine ⟨_, rfl, (many : Int), rfl, by omega, by omega, fun D nD => lc_range (lo := 0) (n := many) (fun i H2 => ∃ ks : Tups, Same H1 H2 ∧ H2 D = some (.lst (refs ks)) ∧ (∀ p ∈ ks, SqL K H2 p.1 (p.2.map V.int) ∧ p.1 ≠ D) ∧ keys ks = (List.range i).map (turnedI (keys tb)) ∧ ks.length = i) ⟨[], same_new nD, upd_same, (fun p hp => by cases hp), rfl, rfl⟩ ?_ ?_⟩
    · rintro i H2 hi ⟨ks, S2, e2, t2, k2, l2⟩
      refine ⟨rfl, ?_⟩
      have hP2 := prtAt_up S2 hP
      refine ⟨.ref d, rfl, d, rfl, isD_of hP2.1, _, rfl, Nat.zero_le _, fun le nle => ?_⟩
      have s4 : Same H2 (upd H2 le (.lst [])) := same_new nle
      have ele : (upd H2 le (.lst [])) le = some (.lst []) := upd_same
      have hle : le ≠ D := fun e => by rw [e, e2] at nle; cases nle
      generalize upd H2 le (.lst []) = H4 at s4 ele ⊢
      have hP4 := prtAt_up s4 hP2
      refine ⟨_, DGet.k (k := .inl (0 + (i : Int))) hP4.1, ?_⟩
      rw [qOf_eq]
      have e4 := s4 _ _ e2
      have hat := qOf_at hP4 ele (0 + (i : Int))
      have hz : (0 : Int) + (i : Int) = i := Int.zero_add _
      have hne : qOf ps (0 + (i : Int)) le ≠ D := qOf_ne hnn nD hle
      refine ⟨refs ks, e4, sizeN (by rw [refs_len]; omega), ks ++ [(qOf ps (0 + (i : Int)) le, prt ps (0 + (i : Int)))], same_put nD (S2.trans s4), by rw [upd_same, ← refs_push], fun p hp => ?_, ?_, by rw [List.length_append, l2]; rfl⟩
      · rcases List.mem_append.mp hp with hp | hp
        · exact ⟨sqL_put (t2 p hp).2 (s4.seq (t2 p hp).1), (t2 p hp).2⟩
        · rw [List.mem_singleton.mp hp]
          exact ⟨sqL_put hne hat, hne⟩
      · rw [keys_push, k2, List.range_succ, List.map_append, hz, turned_eq (rows := keys tb) (c := i) (hasc i) (fun r => hmem i r)]
        rfl
    · rintro H2 ⟨ks, S2, e2, t2, k2, _⟩
      exact k H2 D ks (S1.trans S2) e2 (fun p hp => (t2 p hp).1) k2

theorem ok_shown_at (T : Txt P K mg a) : FnOk P w K mg base (L2.CX P w) 5 a.f_shown_at a.fd_shown_at ["sky", "one", "other"] (spShownAt K a.c_Sky a.c_InvalidAttitude) := by
  refine T.F_shown_at.okX sc_shown_at (fun vs H Q E h => ?_) (fun cdv A outer s H vs Q E hr h => ?_)
  · obtain ⟨p, q, r, n, ks, cam, one, other, rfl, _⟩ := h
    rfl
  · obtain ⟨p, q, r, n, ks, cam, one, other, rfl, hK, hsky, hq', hr', k1, k2, k3⟩ := h
    refine ⟨_, (pss_cons (ps_expr (pe_call (ok_check_two T) (hr.mono (by decide)) (by rfl) T.m_check_two T.F_check_two.kp T.b_check_two .nil (passes_call (takes_of rfl rfl rfl rfl) (fun _ _ _ _ h => h)) (pa_cons (pv 0) (pa_cons (pv 1) (pa_cons (pv 2) pa_nil)))))
      (pss_one (ps_ret (pe_tupM (pa_cons (pe_call (ok_appearances T) (hr.mono (by decide)) (by rfl) T.m_appearances T.F_appearances.kp T.b_appearances .nil pass0 (pa_cons (pv 0) (pa_cons (pv 1) pa_nil))) (pa_cons (pe_call (ok_appearances T) (hr.mono (by decide)) (by rfl) T.m_appearances T.F_appearances.kp T.b_appearances .nil pass0 (pa_cons (pv 0) (pa_cons (pv 2) pa_nil))) pa_nil)))))), ?_⟩
    refine ⟨.ref p, rfl, .ref q, rfl, .ref r, rfl, p, q, r, n, _, cam, one, other, rfl, hK.1, hq', hr', fun e1 e2 => ?_, fun e d H' s1 h1 => k2 e d H' s1 h1, fun e1 e2 d H' s1 h1 => k3 e1 e2 d H' s1 h1⟩
    refine ⟨.ref p, rfl, .ref q, rfl, p, q, n, ks, cam, one, rfl, hK, hsky, hq', e1, fun H1 d1 z1 s1 nd1 h1 => ?_⟩
    refine ⟨.ref p, rfl, .ref r, rfl, p, r, n, ks, cam, other, rfl, skyS_up s1 hK, hsky, sqT_up s1 hr', e2, fun H2 d2 z2 s2 nd2 h2 => ?_⟩
    refine ⟨(by show 2 ≤ sizeLine; decide), fun t H3 s3 t3 => ?_⟩
    exact k1 e1 e2 H3 t d1 d2 z1 z2 ((s1.trans s2).trans s3) t3 (fun e => by rw [e] at h1; rw [h1.ed] at nd2; cases nd2) (shD_up (s2.trans s3) h1) (shD_up s3 h2)

theorem ok_link_table (T : Txt P K mg a) : FnOk P w K mg base CX0 3 a.f_link_table a.fd_link_table ["sky", "shown", "shown_other"] (spLinkTab K a.c_Sky) := by
  refine T.F_link_table.ok sc_link_table (fun vs H Q E h => ?_) (fun cdv A outer s H vs Q E hr h => ?_)
  · obtain ⟨p, d1, d2, n, ks, cam, one, other, z1, z2, rfl, _⟩ := h
    rfl
  · obtain ⟨p, d1, d2, n, ks, cam, one, other, z1, z2, rfl, hne, hK, hsky, hd1, hd2, k⟩ := h
    refine ⟨_, (pss_cons (ps_asg (pe_tupM (pa_cons (pe_op op_mul pe_int (pe_prop (pv 0) T.cl_Sky T.p_Sky_blur (ok_Sky_blur T) (hr.mono (by decide)) T.b_Sky_blur .nil pass0 rfl)) (pa_cons (pe_op op_mul pe_int (pe_prop (pv 0) T.cl_Sky T.p_Sky_glare (ok_Sky_glare T) (hr.mono (by decide)) T.b_Sky_glare .nil pass0 rfl)) pa_nil))) (pg_tup rfl (pgs_cons (pg_name (i := 3) sc_link_table.nd rfl (.inr rfl)) (pgs_cons (pg_name (i := 4) sc_link_table.nd rfl (.inr rfl)) pgs_nil))))
      (pss_cons (ps_setLc (i := 5) rfl sc_link_table.nd rfl rfl (sw_true rfl rfl rfl (by decide +kernel)) (g := gName 10) (tt := tYes) (own := [("_", 10)]) (pi_tup (pe_prop (pv 0) T.cl_Sky T.p_Sky_stars (ok_Sky_stars T) (hr.mono (by decide)) T.b_Sky_stars .nil pass0 rfl)) (blkOk_by (own := [("_", 10)]) (N := ["sky", "shown", "shown_other", "blur", "glare", "table", "first", "dx", "dy", "brightness", "_", "second", "x", "y", "bright"]) (sc := defScope s_link_table) (by decide +kernel)) (fun _ _ _ _ _ => (pg_name (i := 10) sc_link_table.nd rfl (.inl rfl))) (fun _ _ _ _ _ => pts_nil) (fun _ _ _ _ _ => (pe_lst pa_nil)))
      (pss_cons (ps_lock (ps_for PassesOwn.never rfl (pi_items (pv 1)) (pg_tup rfl (pgs_cons (pg_name (i := 6) sc_link_table.nd rfl (.inl rfl)) (pgs_cons (pg_tup rfl (pgs_cons (pg_name (i := 7) sc_link_table.nd rfl (.inr rfl)) (pgs_cons (pg_name (i := 8) sc_link_table.nd rfl (.inr rfl)) (pgs_cons (pg_name (i := 9) sc_link_table.nd rfl (.inr rfl)) pgs_nil)))) pgs_nil))) (pss_one (ps_asg (pe_lock (pe_lc (g := gTup K 2 (gCons (gName 11) (gCons (gTup K 3 (gCons (gName 12) (gCons (gName 13) (gCons (gName 14) gNil)))) gNil))) (own := [("second", 11), ("x", 12), ("y", 13), ("bright", 14)]) rfl sc_link_table.nd (pi_items (pv 2)) (blkOk_by (own := [("second", 11), ("x", 12), ("y", 13), ("bright", 14)]) (N := ["sky", "shown", "shown_other", "blur", "glare", "table", "first", "dx", "dy", "brightness", "_", "second", "x", "y", "bright"]) (sc := defScope s_link_table) (by decide +kernel)) (fun _ _ _ _ _ => (pg_tup rfl (pgs_cons (pg_name (i := 11) sc_link_table.nd rfl (.inl rfl)) (pgs_cons (pg_tup rfl (pgs_cons (pg_name (i := 12) sc_link_table.nd rfl (.inl rfl)) (pgs_cons (pg_name (i := 13) sc_link_table.nd rfl (.inl rfl)) (pgs_cons (pg_name (i := 14) sc_link_table.nd rfl (.inl rfl)) pgs_nil)))) pgs_nil)))) (fun _ _ _ _ _ => (pts_one (PW.pt (pw_and (pt_chain op_le op_le (pe_un un_neg (pv 3)) (pe_op op_sub (pv 7) (pv 12)) (pv 3)) (pw_and (pt_chain op_le op_le (pe_un un_neg (pv 3)) (pe_op op_sub (pv 8) (pv 13)) (pv 3)) (pw_and1 (pt_chain op_le op_le (pe_un un_neg (pv 4)) (pe_op op_sub (pv 9) (pv 14)) (pv 4)))))))) (fun _ _ _ _ _ => (pv 11)))) (pg_sub (pv 5) (pv 6) set_list)))))
      (pss_one (ps_ret (pv 5)))))), ?_⟩
    obtain ⟨⟨h4, h9⟩, hstars, hnd, h20, hcam⟩ := sky_parts hsky
    obtain ⟨r, b, g, l, rfl, c1, c2, c3, c4, c5, c6, c7, c8, c9, c10⟩ := cam_form hcam
    have h20' : ks.length ≤ 20 := by rw [keys_len] at h20; exact h20
    obtain ⟨dx, ts, tc, q1, q2, q3⟩ := id hK.1
    refine ⟨.ref p, rfl, p, dx, _, rfl, q1, p, n, _, _, b, rfl, hK.1, rfl, _, _, rfl, rfl, .inl (by constructor <;> decide), ?_⟩
    refine ⟨.ref p, rfl, p, dx, _, rfl, q1, p, n, _, _, g, rfl, hK.1, rfl, _, _, rfl, rfl, .inl (by constructor <;> decide), (by show 2 ≤ sizeLine; decide), fun t0 H1 s1 t1 => ?_⟩
    refine ⟨t0, _, rfl, t1, rfl, _, _, rfl, _, _, rfl, rfl, ?_⟩
    have hK1 := skyS_up s1 hK
    obtain ⟨dx', ts1, tc1, q1', q2', q3'⟩ := id hK1.1
    refine ⟨.ref p, rfl, p, dx', _, rfl, q1', p, n, _, _, rfl, hK1.1, fun ts2 hts => ?_⟩
    refine ⟨ts2, rfl, ⟨_, hts⟩, fun D nD => lc_tup (K := K) (a := ts2) (xs := refs ks) (fun i H2 => ∃ tb : Tups, Same H1 H2 ∧ H2 D = some (.lst (refs tb)) ∧ (∀ p ∈ tb, H2 p.1 = some (.lst (p.2.map V.int)) ∧ p.1 ≠ D) ∧ keys tb = (List.range i).map fun _ => []) ⟨[], same_new nD, upd_same, (fun p hp => by cases hp), rfl⟩ (fun i H2 _ ⟨_, s2, _⟩ => sqT_up s2 hts) ?_ ?_⟩
    · rintro i v H2 hi ⟨tb, S2, e2, t2, k2⟩
      have hil := (List.getElem?_eq_some_iff.mp hi).1
      rw [refs_len] at hil
      have ltb : tb.length = i := by rw [← keys_len tb, k2, List.length_map, List.length_range]
      refine ⟨rfl, ?_⟩
      refine ⟨Nat.zero_le _, fun q nq => ?_⟩
      have s3 : Same H2 (upd H2 q (.lst [])) := same_new nq
      have e3 : (upd H2 q (.lst [])) q = some (.lst []) := upd_same
      have nqD : q ≠ D := fun e => by rw [e, e2] at nq; cases nq
      generalize upd H2 q (.lst []) = H3 at s3 e3 ⊢
      refine ⟨_, s3 _ _ e2, sizeN (by rw [refs_len]; omega), tb ++ [(q, [])], same_put nD (S2.trans s3), by rw [upd_same, ← refs_push], fun p hp => ?_, ?_⟩
      · rcases List.mem_append.mp hp with hp | hp
        · exact ⟨by rw [upd_ne (t2 p hp).2]; exact s3 _ _ (t2 p hp).1, (t2 p hp).2⟩
        · rw [List.mem_singleton.mp hp]
          exact ⟨by rw [upd_ne nqD]; exact e3, nqD⟩
      · rw [keys_push, k2, List.range_succ, List.map_append]
        rfl
    rintro H2 ⟨tb0, S2, e2, t2, k2⟩
    rw [refs_len] at k2
    have hd1' := shD_up (s1.trans S2) hd1
    refine ⟨d1, _, hd1'.ed, trivial, fun od => ?_⟩
    have hd1h := shD_up s1 hd1
    have S2f : Same (upd H1 d1 (.frz od (.dK (shownK z1)))) (upd H2 d1 (.frz od (.dK (shownK z1)))) := same_both S2
    have ef : (upd H2 d1 (.frz od (.dK (shownK z1)))) d1 = some (.frz od (.dK (shownK z1))) := upd_same
    have nDd : D ≠ d1 := fun e => by rw [e, hd1h.ed] at nD; cases nD
    have nDf : (upd H1 d1 (.frz od (.dK (shownK z1)))) D = none := by rw [upd_ne nDd]; exact nD
    have e2f : (upd H2 d1 (.frz od (.dK (shownK z1)))) D = some (.lst (refs tb0)) := by rw [upd_ne nDd]; exact e2
    have t2f : ∀ p ∈ tb0, (upd H2 d1 (.frz od (.dK (shownK z1)))) p.1 = some (.lst (p.2.map V.int)) ∧ p.1 ≠ D := fun p hp => ⟨by rw [upd_ne (fun e => by have := (t2 p hp).1; rw [e, hd1'.ed] at this; cases this)]; exact (t2 p hp).1, (t2 p hp).2⟩
    have hf0 : (upd H1 d1 (.frz od (.dK (shownK z1)))) d1 = some (.frz od (.dK (shownK z1))) := upd_same
    have hdf2 : (upd H1 d1 (.frz od (.dK (shownK z1)))) d2 = some (.dK (shownK z2)) := by rw [upd_ne (Ne.symm hne)]; exact (shD_up s1 hd2).ed
    have hz1f : ShownAt K (upd H1 d1 (.frz od (.dK (shownK z1)))) z1 := fun z hz => sqT_dk hd1h.ed (hd1h.sh z hz)
    have hz2f : ShownAt K (upd H1 d1 (.frz od (.dK (shownK z1)))) z2 := fun z hz => sqT_dk hd1h.ed ((shD_up s1 hd2).sh z hz)
    have hz1 : z1.length ≤ 20 := by rw [← shownD_len, hd1.val]; exact Nat.le_trans (seenI_len _ _ _ _ _) h20
    have hz2 : z2.length ≤ 20 := by rw [← shownD_len, hd2.val]; exact Nat.le_trans (seenI_len _ _ _ _ _) h20
    generalize upd H2 d1 (.frz od (.dK (shownK z1))) = H3 at S2f ef e2f t2f ⊢
    refine ⟨.ref d1, rfl, d1, od, shownK z1, rfl, ef, for_it walk_items (fun i σ H4 => ∃ (z6 z7 z8 z9 : Option V) (tb : Tups), σ = [some (.ref p), some (.ref d1), some (.ref d2), some (.int (2 * b)), some (.int (2 * g)), some (.ref D), z6, z7, z8, z9, none, none, none, none, none] ∧ Same (upd H1 d1 (.frz od (.dK (shownK z1)))) H4 ∧ H4 D = some (.lst (refs tb)) ∧ (∀ p ∈ tb, H4 p.1 = some (.lst (p.2.map V.int)) ∧ p.1 ≠ D) ∧ keys tb = (List.range ks.length).map fun m : Nat => if (m : Int) ∈ ((shownD z1).take i).map (·.1) then rowN n [r, b, g, l] (keys ks) one other m else [])
      ⟨_, _, _, _, tb0, rfl, S2f, e2f, t2f, by rw [k2]; rfl⟩ (fun i σ H4 _ ⟨_, _, _, _, _, _, s4, _⟩ => s4 _ _ hf0) ?_ ?_⟩
    · rintro i v σ H4 H5 hi ⟨z6, z7, z8, z9, tb, rfl, S4, e4, t4, k4⟩ ⟨Tp, x', y', rfl, nT, rfl, ex, ey⟩
      have hi' : i < z1.length := by rw [shown_len] at hi; exact hi
      have hzs : (shownK z1)[i]? = some (Sum.inl z1[i].1, V.ref z1[i].2.1) := by
        unfold shownK
        rw [List.getElem?_map, List.getElem?_eq_getElem hi']
        rfl
      have ex2 : ((shownK z1)[i]?).map (fun kv => kV kv.1) = some x' := ex
      have ey2 : ((shownK z1)[i]?).map Prod.snd = some y' := ey
      rw [hzs] at ex2 ey2
      obtain rfl : V.int z1[i].1 = x' := Option.some.inj ex2
      obtain rfl : V.ref z1[i].2.1 = y' := Option.some.inj ey2
      have s5 : Same H4 (upd H4 Tp (.tup [.int z1[i].1, .ref z1[i].2.1])) := same_new nT
      have tT : SqT K (upd H4 Tp (.tup [.int z1[i].1, .ref z1[i].2.1])) Tp [.int z1[i].1, .ref z1[i].2.1] := .inl (.inl upd_same)
      generalize upd H4 Tp (.tup [.int z1[i].1, .ref z1[i].2.1]) = H5 at s5 tT ⊢
      have hzm : z1[i] ∈ z1 := List.getElem_mem hi'
      obtain ⟨u, v, c, e3⟩ := of3 (show ((z1[i].2.2.length : Nat) : Int) = 3 by rw [shown3 hd1.val _ hzm]; rfl)
      have S5 := S4.trans s5
      have hz3 : SqT K H5 z1[i].2.1 (z1[i].2.2.map V.int) := sqT_up S5 (hz1f _ hzm)
      rw [e3] at hz3
      refine ⟨Tp, _, rfl, tT, rfl, _, _, rfl, _, _, rfl, ?_⟩
      refine ⟨z1[i].2.1, _, rfl, hz3, rfl, _, _, rfl, _, _, rfl, _, _, rfl, rfl, rfl, ?_⟩
      refine ⟨d2, _, S5 _ _ hdf2, trivial, fun od2 => ?_⟩
      have hd2e := S5 _ _ hdf2
      have sL0 : (upd H5 d2 (.frz od2 (.dK (shownK z2)))) d2 = some (.frz od2 (.dK (shownK z2))) := upd_same
      have hz2l : ShownAt K (upd H5 d2 (.frz od2 (.dK (shownK z2)))) z2 := fun z hz => sqT_dk hd2e (sqT_up S5 (hz2f z hz))
      refine ⟨.ref d2, rfl, d2, od2, shownK z2, rfl, sL0, fun L nL => lc_it walk_items (fun j H6 => Same (upd H5 d2 (.frz od2 (.dK (shownK z2)))) H6 ∧ H6 L = some (.lst (((((shownD z2).take j).filter fun z => nearB [r, b, g, l] [u, v, c] z.2).map (·.1)).map V.int))) ⟨same_new nL, upd_same⟩ (fun j H6 _ ⟨s6, _⟩ => s6 _ _ sL0) ?_ ?_⟩
      · rintro j v' H6 H7 hj ⟨S6, e6⟩ ⟨Tq, x2, y2, rfl, nTq, rfl, fx, fy⟩
        have hj' : j < z2.length := by rw [shown_len] at hj; exact hj
        have hzs2 : (shownK z2)[j]? = some (Sum.inl z2[j].1, V.ref z2[j].2.1) := by
          unfold shownK
          rw [List.getElem?_map, List.getElem?_eq_getElem hj']
          rfl
        have fx2 : ((shownK z2)[j]?).map (fun kv => kV kv.1) = some x2 := fx
        have fy2 : ((shownK z2)[j]?).map Prod.snd = some y2 := fy
        rw [hzs2] at fx2 fy2
        obtain rfl : V.int z2[j].1 = x2 := Option.some.inj fx2
        obtain rfl : V.ref z2[j].2.1 = y2 := Option.some.inj fy2
        have s7 : Same H6 (upd H6 Tq (.tup [.int z2[j].1, .ref z2[j].2.1])) := same_new nTq
        have tQ : SqT K (upd H6 Tq (.tup [.int z2[j].1, .ref z2[j].2.1])) Tq [.int z2[j].1, .ref z2[j].2.1] := .inl (.inl upd_same)
        generalize upd H6 Tq (.tup [.int z2[j].1, .ref z2[j].2.1]) = H7 at s7 tQ ⊢
        have hzm2 : z2[j] ∈ z2 := List.getElem_mem hj'
        obtain ⟨x, y, c', e3q⟩ := of3 (show ((z2[j].2.2.length : Nat) : Int) = 3 by rw [shown3 hd2.val _ hzm2]; rfl)
        have hz3q : SqT K H7 z2[j].2.1 (z2[j].2.2.map V.int) := sqT_up (S6.trans s7) (hz2l _ hzm2)
        rw [e3q] at hz3q
        have e7 := s7 _ _ e6
        have stp : (shownD z2).take (j + 1) = (shownD z2).take j ++ [(z2[j].1, [x, y, c'])] := by
          rw [List.take_add_one]
          congr 1
          unfold shownD
          rw [List.getElem?_map, List.getElem?_eq_getElem hj', ← e3q]
          rfl
        have eN : nearB [r, b, g, l] [u, v, c] [x, y, c'] = (decide (-(2 * b) ≤ u - x) && decide (u - x ≤ 2 * b) && (decide (-(2 * b) ≤ v - y) && decide (v - y ≤ 2 * b)) && (decide (-(2 * g) ≤ c - c') && decide (c - c' ≤ 2 * g))) := rfl
        have stay : (¬ (-(2 * b) ≤ u - x ∧ u - x ≤ 2 * b ∧ -(2 * b) ≤ v - y ∧ v - y ≤ 2 * b ∧ -(2 * g) ≤ c - c' ∧ c - c' ≤ 2 * g)) → Same (upd H5 d2 (.frz od2 (.dK (shownK z2)))) H7 ∧ H7 L = some (.lst (((((shownD z2).take (j + 1)).filter fun z => nearB [r, b, g, l] [u, v, c] z.2).map (·.1)).map V.int)) := fun h => by
          refine ⟨S6.trans s7, ?_⟩
          rw [stp, List.filter_append, List.filter_cons_of_neg (by
            show ¬ nearB [r, b, g, l] [u, v, c] [x, y, c'] = true
            rw [eN]
            intro z
            simp only [Bool.and_eq_true, decide_eq_true_eq] at z
            exact h ⟨z.1.1.1, z.1.1.2, z.1.2.1, z.1.2.2, z.2.1, z.2.2⟩), List.filter_nil, List.append_nil]
          exact e7
        refine ⟨Tq, _, rfl, tQ, rfl, _, _, rfl, _, _, rfl, ?_⟩
        refine ⟨z2[j].2.1, _, rfl, hz3q, rfl, _, _, rfl, _, _, rfl, _, _, rfl, rfl, rfl, rfl, ?_⟩
        repeat (first | refine ⟨_, rfl, ?_⟩ | refine ⟨_, _, rfl, rfl, ?_⟩)
        refine ite2 (fun h1 => ?_) (fun h1 => ⟨_, rfl, iteF (iteF (stay fun z => h1 (decide_eq_true z.1)))⟩)
        repeat (first | refine ⟨_, rfl, ?_⟩ | refine ⟨_, _, rfl, rfl, ?_⟩)
        refine ite2 (fun h2 => ?_) (fun h2 => iteF (stay fun z => h2 (decide_eq_true z.2.1)))
        repeat (first | refine ⟨_, rfl, ?_⟩ | refine ⟨_, _, rfl, rfl, ?_⟩)
        refine ite2 (fun h3 => ?_) (fun h3 => ⟨_, rfl, iteF (iteF (stay fun z => h3 (decide_eq_true z.2.2.1)))⟩)
        repeat (first | refine ⟨_, rfl, ?_⟩ | refine ⟨_, _, rfl, rfl, ?_⟩)
        refine ite2 (fun h4 => ?_) (fun h4 => iteF (stay fun z => h4 (decide_eq_true z.2.2.2.1)))
        repeat (first | refine ⟨_, rfl, ?_⟩ | refine ⟨_, _, rfl, rfl, ?_⟩)
        refine ite2 (fun h5 => ?_) (fun h5 => ⟨_, rfl, iteF (stay fun z => h5 (decide_eq_true z.2.2.2.2.1))⟩)
        repeat (first | refine ⟨_, rfl, ?_⟩ | refine ⟨_, _, rfl, rfl, ?_⟩)
        refine ite2 (fun h6 => ?_) (fun h6 => stay fun z => h6 (decide_eq_true z.2.2.2.2.2))
        have eT : nearB [r, b, g, l] [u, v, c] [x, y, c'] = true := by
          rw [eN, show decide (-(2 * b) ≤ u - x) = true from h1, show decide (u - x ≤ 2 * b) = true from h2, show decide (-(2 * b) ≤ v - y) = true from h3, show decide (v - y ≤ 2 * b) = true from h4, show decide (-(2 * g) ≤ c - c') = true from h5, show decide (c - c' ≤ 2 * g) = true from h6]
          rfl
        refine ⟨_, rfl, _, e7, sizeN ?_, same_put nL (S6.trans s7), ?_⟩
        · rw [List.length_map, List.length_map]
          have := List.length_filter_le (fun z => nearB [r, b, g, l] [u, v, c] z.2) ((shownD z2).take j)
          rw [List.length_take] at this
          omega
        · rw [upd_same, stp, List.filter_append, List.filter_cons_of_pos (by exact eT), List.filter_nil, List.map_append, List.map_append]
          rfl
      rintro H6 ⟨S6, e6⟩
      rw [shown_len, ← shownD_len, List.take_length, hd2.val] at e6
      refine ⟨S6 _ _ sL0, ?_⟩
      have Su : Same H5 (upd H6 d2 (.dK (shownK z2))) := same_unlock hd2e S6
      have nLd2 : L ≠ d2 := fun e => by rw [e, sL0] at nL; cases nL
      have nL5 : H5 L = none := by rw [upd_ne nLd2] at nL; exact nL
      have e6u : (upd H6 d2 (.dK (shownK z2))) L = some (.lst ((((seenI n [r, b, g, l] other 0 (keys ks)).filter fun z => nearB [r, b, g, l] [u, v, c] z.2).map (·.1)).map V.int)) := by rw [upd_ne nLd2]; exact e6
      generalize upd H6 d2 (.dK (shownK z2)) = H7 at Su e6u ⊢
      have e4' := Su _ _ (s5 _ _ e4)
      have nLD : L ≠ D := fun e => by rw [e, s5 _ _ e4] at nL5; cases nL5
      have hmem : (z1[i].1, z1[i].2.2) ∈ seenI n [r, b, g, l] one 0 (keys ks) := by rw [← hd1.val]; exact List.mem_map_of_mem (f := fun z : Int × Addr × List Int => (z.1, z.2.2)) hzm
      have k0 := seenI_ge n _ _ _ 0 _ hmem
      have k1 := seenI_lt n _ _ _ 0 _ hmem
      obtain ⟨m, hm⟩ := Int.eq_ofNat_of_zero_le (show 0 ≤ z1[i].1 by omega)
      have hml : m < ks.length := by rw [← keys_len ks]; omega
      have hso : sO n [r, b, g, l] one (keys ks) m = some [u, v, c] := by
        unfold sO
        rw [← atK_seen0]
        have := atK_of_mem (seenI_asc n [r, b, g, l] one (keys ks) 0) hmem
        rw [e3] at this
        have hm' : z1[i].1 = (m : Int) := hm
        rw [hm'] at this
        exact this
      rw [row_eq hso] at e6u
      have ltb : tb.length = ks.length := by rw [← keys_len tb, k4, List.length_map, List.length_range]
      refine ⟨.ref D, rfl, _, rfl, D, refs tb, z1[i].1, m, rfl, rfl, e4', by rw [hm, refs_len, ltb]; exact ixN_nat hml, ?_⟩
      refine ⟨_, _, _, _, tb.set m (L, rowN n [r, b, g, l] (keys ks) one other m), rfl, ?_, ?_, fun q hq' => ?_, ?_⟩
      · exact same_put nDf ((S4.trans s5).trans Su)
      · rw [upd_same]
        unfold refs
        rw [List.map_set]
      · rcases List.mem_or_eq_of_mem_set hq' with hq' | rfl
        · exact ⟨by rw [upd_ne (t4 q hq').2]; exact Su _ _ (s5 _ _ (t4 q hq').1), (t4 q hq').2⟩
        · exact ⟨by rw [upd_ne nLD]; exact e6u, nLD⟩
      · have ek : keys (tb.set m (L, rowN n [r, b, g, l] (keys ks) one other m)) = (keys tb).set m (rowN n [r, b, g, l] (keys ks) one other m) := by
          unfold keys
          rw [List.map_set]
        have stp1 : ((shownD z1).take (i + 1)).map (·.1) = ((shownD z1).take i).map (·.1) ++ [(m : Int)] := by
          rw [List.take_add_one, List.map_append]
          congr 1
          unfold shownD
          rw [List.getElem?_map, List.getElem?_eq_getElem hi', ← hm]
          rfl
        rw [ek, k4, stp1]
        apply List.ext_getElem?
        intro q
        rw [List.getElem?_set, List.length_map, List.length_range]
        by_cases eq : m = q
        · rw [if_pos eq, ← eq, if_pos hml, List.getElem?_map, List.getElem?_range hml]
          show _ = some (if (m : Int) ∈ _ then _ else _)
          rw [if_pos (List.mem_append_right _ (List.mem_singleton.mpr rfl))]
        · rw [if_neg eq, List.getElem?_map, List.getElem?_map]
          by_cases hq2 : q < ks.length
          · rw [List.getElem?_range hq2]
            show some (if (q : Int) ∈ _ then _ else _) = some (if (q : Int) ∈ _ then _ else _)
            have e : ((q : Int) ∈ ((shownD z1).take i).map (·.1) ++ [(m : Int)]) ↔ (q : Int) ∈ ((shownD z1).take i).map (·.1) := by
              rw [List.mem_append, List.mem_singleton]
              exact ⟨fun h => h.resolve_right fun z => eq (by omega), .inl⟩
            by_cases hin : (q : Int) ∈ ((shownD z1).take i).map (·.1)
            · rw [if_pos hin, if_pos (e.mpr hin)]
            · rw [if_neg hin, if_neg fun z => hin (e.mp z)]
          · rw [List.getElem?_eq_none (by rw [List.length_range]; omega)]
            rfl
    · rintro σ H4 ⟨z6, z7, z8, z9, tb, rfl, S4, e4, t4, k4⟩
      refine ⟨S4 _ _ hf0, ?_⟩
      have Sx : Same H1 (upd H4 d1 (.dK (shownK z1))) := same_unlock hd1h.ed S4
      refine ⟨.ref D, rfl, k _ D tb (s1.trans Sx) ⟨.inl (.inl (by rw [upd_ne nDd]; exact e4)), fun q hq' => .inl (.inl (by rw [upd_ne (fun e => by have := (t4 q hq').1; rw [e, S4 _ _ hf0] at this; cases this)]; exact (t4 q hq').1))⟩ ?_⟩
      rw [k4, ← keys_len ks]
      unfold tblN
      apply List.map_congr_left
      intro m hm
      by_cases hin : (m : Int) ∈ ((shownD z1).take (shownK z1).length).map (·.1)
      · rw [if_pos hin]
      · rw [if_neg hin]
        refine (row_none ?_).symm
        unfold sO
        rw [← atK_seen0, ← hd1.val]
        refine atK_none fun z hz => fun e => hin ?_
        rw [shown_len, ← shownD_len, List.take_length, ← e]
        exact List.mem_map_of_mem (f := fun z : Int × List Int => z.1) hz

theorem ok_linked (T : Txt P K mg a) : FnOk P w K mg base (L2.CX P w) 6 a.f_linked a.fd_linked ["sky", "one", "other"] (spLinked K a.c_Sky a.c_InvalidAttitude) := by
  refine T.F_linked.okX sc_linked (fun vs H Q E h => ?_) (fun cdv A outer s H vs Q E hr h => ?_)
  · obtain ⟨p, q, r, n, ks, cam, one, other, rfl, _⟩ := h
    rfl
  · obtain ⟨p, q, r, n, ks, cam, one, other, rfl, hK, hsky, hq, hr', k1, k2⟩ := h
    refine ⟨_, (pss_cons (ps_asg (pe_call (ok_shown_at T) (hr.mono (by decide)) (by rfl) T.m_shown_at T.F_shown_at.kp T.b_shown_at .nil (passes_call (takes_of rfl rfl rfl rfl) (fun _ _ _ _ h => h)) (pa_cons (pv 0) (pa_cons (pv 1) (pa_cons (pv 2) pa_nil)))) (pg_tup rfl (pgs_cons (pg_name (i := 3) sc_linked.nd rfl (.inl rfl)) (pgs_cons (pg_name (i := 4) sc_linked.nd rfl (.inl rfl)) pgs_nil))))
      (pss_cons (ps_set (i := 5) sc_linked.nd rfl (.inr rfl) (pe_call (ok_link_table T) (hr.mono (by decide)) (by rfl) T.m_link_table T.F_link_table.kp T.b_link_table .nil pass0 (pa_cons (pv 0) (pa_cons (pv 3) (pa_cons (pv 4) pa_nil)))))
      (pss_one (ps_ret (pe_lock (pe_lc2 (g := gName 6) (tt := tYes) (g1 := gName 7) (tt1 := tYes) (vs1 := [7]) (own := [("first", 6), ("second", 7)]) rfl sc_linked.nd (pi_keys (pv 3)) (blkOk_by (own := [("first", 6), ("second", 7)]) (N := ["sky", "one", "other", "shown", "shown_other", "table", "first", "second"]) (sc := defScope s_linked) (by decide +kernel)) (by decide) (fun _ _ _ _ _ => (pg_name (i := 6) sc_linked.nd rfl (.inl rfl))) (fun _ _ _ _ _ => pts_nil) (fun _ _ _ _ _ => ((pi_listK (K := K)) (pe_ix (ix_seqK (K := K)) (pv 5) (pv 6) (fun _ _ => rfl)))) (fun _ _ _ _ _ => (pg_name (i := 7) sc_linked.nd rfl (.inl rfl))) (fun _ _ _ _ _ => pts_nil) (fun _ _ _ _ _ => (pe_tup (pa_cons (pv 6) (pa_cons (pv 7) pa_nil)))))))))), ?_⟩
    obtain ⟨⟨h4, h9⟩, hstars, hnd, h20, hcam⟩ := sky_parts hsky
    have hkl := keys_len ks
    refine ⟨.ref p, rfl, .ref q, rfl, .ref r, rfl, p, q, r, n, ks, cam, one, other, rfl, hK, hsky, hq, hr', fun hone hoth H1 t d1 d2 z1 z2 s1 tt hne hd1 hd2 => ?_, k2⟩
    refine ⟨t, _, rfl, tt, rfl, _, _, rfl, _, _, rfl, rfl, ?_⟩
    refine ⟨.ref p, rfl, .ref d1, rfl, .ref d2, rfl, p, d1, d2, n, ks, cam, one, other, z1, z2, rfl, hne, skyS_up s1 hK, hsky, hd1, hd2, fun H2 tl tb s2 hT hk => ?_⟩
    have hd1a := shD_up s2 hd1
    have hz1 : z1.length ≤ 20 := by rw [← shownD_len, hd1.val]; exact Nat.le_trans (seenI_len _ _ _ _ _) h20
    have ltb : tb.length = ks.length := by rw [← keys_len tb, hk]; unfold tblN; rw [List.length_map, List.length_range, keys_len]
    refine ⟨d1, _, hd1a.ed, trivial, fun od => ?_⟩
    have sL0 : (upd H2 d1 (.frz od (.dK (shownK z1)))) d1 = some (.frz od (.dK (shownK z1))) := upd_same
    have hTL : TabAt K (upd H2 d1 (.frz od (.dK (shownK z1)))) tl tb := by
      refine ⟨?_, fun z hz => ?_⟩
      · first | exact sqL_dk hd1a.ed hT.1 | exact sqT_dk hd1a.ed hT.1
      · first | exact sqL_dk hd1a.ed (hT.2 z hz) | exact sqT_dk hd1a.ed (hT.2 z hz)
    have hka : ∀ i, i < z1.length → ∃ a' : Nat, z1[i]?.map (·.1) = some (a' : Int) ∧ a' < tb.length := fun i hi => by
      have hz : (z1[i].1, z1[i].2.2) ∈ seenI n cam one 0 (keys ks) := by
        rw [← hd1.val]
        exact List.mem_map_of_mem (f := fun z : Int × Addr × List Int => (z.1, z.2.2)) (List.getElem_mem hi)
      obtain ⟨a', e1, e2, _⟩ := seen_at hz
      exact ⟨a', by rw [List.getElem?_eq_getElem hi]; exact congrArg some e1, by omega⟩
    refine ⟨.ref d1, rfl, d1, od, rfl, .inl ⟨_, sL0, fun D nD => SwC.cl_it walk_keys (fun i H3 => ∃ cs : Tups, Same (upd H2 d1 (.frz od (.dK (shownK z1)))) H3 ∧ H3 D = some (.lst (refs cs)) ∧ TupsAt K H3 cs ∧ keys cs = ((z1.map (·.1)).take i).flatMap (fun a => (tP (keys tb) a).map fun b => [a, b]) ∧ cs.length ≤ 20 * i) ⟨[], same_new nD, upd_same, (fun p hp => by cases hp), rfl, Nat.zero_le _⟩ (fun i H3 _ ⟨_, s3, _⟩ => s3 _ _ sL0) ?_ ?_⟩⟩
    · rintro i v H3 H4 hi ⟨cs, S3, e3, t3, k3, l3⟩ ⟨rfl, kk, vv, hkv, rfl⟩
      rw [shown_len] at hi
      obtain ⟨a', ea, ha'⟩ := hka i hi
      have ekk : kk = .inl (a' : Int) := by
        unfold shownK at hkv
        rw [List.getElem?_map] at hkv
        rw [List.getElem?_eq_getElem hi] at hkv ea
        have e1 := Option.some.inj hkv
        have e2 : z1[i].1 = (a' : Int) := Option.some.inj ea
        injection e1 with e1 _
        rw [← e1, e2]
      subst ekk
      have hT3 := tabAt_up S3 hTL
      obtain ⟨row, hrow, hat, hq', hP⟩ := row_at (r := (a' : Int)) hT3 (by omega) (by omega)
      have hrl : row.2.length ≤ 20 := by
        rw [← hP, hk]
        have := tP_len n cam (keys ks) one other (a' : Int)
        omega
      refine ⟨rfl, ?_⟩
      refine ⟨.ref tl, rfl, _, rfl, .inl ⟨tl, _, _, _, rfl, rfl, hT3.1, hat, row.1, rfl, ⟨_, hq'⟩, SwC.cl_list (K := K) (a := row.1) (xs := row.2.map V.int) (fun p_ H5 => ∃ cs : Tups, Same (upd H2 d1 (.frz od (.dK (shownK z1)))) H5 ∧ H5 D = some (.lst (refs cs)) ∧ TupsAt K H5 cs ∧ keys cs = ((z1.map (·.1)).take i).flatMap (fun a => (tP (keys tb) a).map fun b => [a, b]) ++ (row.2.take p_).map (fun b => [(a' : Int), b]) ∧ cs.length ≤ 20 * i + p_) ⟨cs, S3, e3, t3, by rw [k3]; exact (List.append_nil _).symm, l3⟩ (fun p_ H5 _ ⟨_, s5, _⟩ => s5.seq (hTL.2 row (List.mem_of_getElem? hrow))) ?_ ?_⟩⟩
      · rintro p_ y H5 hp ⟨cs, S5, e5, t5, k5, l5⟩
        obtain ⟨c, hc, rfl⟩ := map_at hp
        have hpl := (List.getElem?_eq_some_iff.mp hc).1
        refine ⟨rfl, ?_⟩
        refine ⟨_, rfl, _, rfl, (by show 2 ≤ sizeLine; decide), fun pn np => ?_⟩
        have s6 : Same H5 (upd H5 pn (.tup [kV (Sum.inl (a' : Int)), .int c])) := same_new np
        have t6 : SqT K (upd H5 pn (.tup [kV (Sum.inl (a' : Int)), .int c])) pn ([(a' : Int), c].map V.int) := .inl (.inl upd_same)
        generalize upd H5 pn (.tup [kV (Sum.inl (a' : Int)), .int c]) = H6 at s6 t6 ⊢
        have e6 := s6 _ _ e5
        refine ⟨_, e6, sizeN (by rw [refs_len]; omega), cs ++ [(pn, [(a' : Int), c])], same_put nD (S5.trans s6), by rw [upd_same, ← refs_push], tups_app (tups_put e6 (tups_up s6 t5)) (tups_one (sqT_lst e6 t6)), ?_, by rw [List.length_append]; show cs.length + 1 ≤ _; omega⟩
        · rw [keys_push, k5, List.take_add_one, hc, List.map_append, List.append_assoc]
          rfl
      · rintro H5 ⟨cs, S5, e5, t5, k5, l5⟩
        rw [List.length_map] at k5 l5
        rw [List.take_length] at k5
        refine ⟨cs, S5, e5, t5, ?_, by omega⟩
        have ea2 : (z1.map (·.1))[i]? = some (a' : Int) := by rw [List.getElem?_map]; exact ea
        rw [k5, List.take_add_one, ea2, List.flatMap_append, hP.symm]
        congr 1
        exact (List.append_nil _).symm
    · rintro H3 ⟨cs, S3, e3, t3, k3, l3⟩
      rw [shown_len, ← List.length_map (f := fun z : Int × Addr × List Int => z.1), List.take_length] at k3
      refine ⟨S3 _ _ sL0, ?_⟩
      have S4 : Same H2 (upd H3 d1 (.dK (shownK z1))) := same_unlock hd1a.ed S3
      have hDd := (new_lock nD).2
      refine k1 hone hoth _ D cs ((s1.trans s2).trans S4) (by rw [upd_ne hDd]; exact e3) (fun z hz => sqT_frz (S3 _ _ sL0) (t3 z hz)) ?_
      rw [k3, hk, ← links_seen, ← hd1.val]
      unfold shownD
      rw [List.map_map]
      rfl

theorem ok_both_lacks (T : Txt P K mg a) : FnOk P w K mg base CX0 6 a.f_both_lacks a.fd_both_lacks ["sky", "shown", "shown_other"] (spLacks2 K a.c_Sky) := by
  refine T.F_both_lacks.ok sc_both_lacks (fun vs H Q E h => ?_) (fun cdv A outer s H vs Q E hr h => ?_)
  · obtain ⟨p, d1, d2, n, ks, cam, one, other, z1, z2, rfl, _⟩ := h
    rfl
  · obtain ⟨p, d1, d2, n, ks, cam, one, other, z1, z2, rfl, hne, hK, hsky, hd1, hd2, k⟩ := h
    refine ⟨_, (pss_cons (ps_set (i := 3) sc_both_lacks.nd rfl (.inl rfl) (pe_call (ok_link_table T) (hr.mono (by decide)) (by rfl) T.m_link_table T.F_link_table.kp T.b_link_table .nil pass0 (pa_cons (pv 0) (pa_cons (pv 1) (pa_cons (pv 2) pa_nil)))))
      (pss_cons (ps_par (i := 4) (j := 5) rfl sc_both_lacks.nd rfl rfl (by decide) rfl rfl (pa_cons (pe_call (ok_sure_among T) (hr.mono (by decide)) (by rfl) T.m_sure_among T.F_sure_among.kp T.b_sure_among .nil pass0 (pa_cons (pv 0) (pa_cons (pv 1) pa_nil))) (pa_cons (pe_call (ok_sure_among T) (hr.mono (by decide)) (by rfl) T.m_sure_among T.F_sure_among.kp T.b_sure_among .nil pass0 (pa_cons (pv 0) (pa_cons (pv 2) pa_nil))) pa_nil)) rfl)
      (pss_cons (ps_set (i := 6) sc_both_lacks.nd rfl (.inl rfl) (pe_call (ok_turned_table T) (hr.mono (by decide)) (by rfl) T.m_turned_table T.F_turned_table.kp T.b_turned_table .nil pass0 (pa_cons (pv 3) (pa_cons (pe_callB call_len_seq (by rfl) T.z_len (by decide +kernel) (pa_cons (pe_prop (pv 0) T.cl_Sky T.p_Sky_stars (ok_Sky_stars T) (hr.mono (by decide)) T.b_Sky_stars .nil pass0 rfl) pa_nil)) pa_nil))))
      (pss_one (ps_ret (pe_tupM (pa_cons (pe_op op_sub (pe_callB call_len_seq (by rfl) T.z_len (by decide +kernel) (pa_cons (pv 4) pa_nil)) (pe_call (ok_most T) (hr.mono (by decide)) (by rfl) T.m_most T.F_most.kp T.b_most .nil pass0 (pa_cons (pv 3) (pa_cons (pv 4) pa_nil)))) (pa_cons (pe_op op_sub (pe_callB call_len_seq (by rfl) T.z_len (by decide +kernel) (pa_cons (pv 5) pa_nil)) (pe_call (ok_most T) (hr.mono (by decide)) (by rfl) T.m_most T.F_most.kp T.b_most .nil pass0 (pa_cons (pv 6) (pa_cons (pv 5) pa_nil)))) pa_nil)))))))), ?_⟩
    obtain ⟨⟨h4, h9⟩, hstars, hnd, h20, hcam⟩ := sky_parts hsky
    obtain ⟨r, b, g, l, rfl, c1, c2, c3, c4, c5, c6, c7, c8, c9, c10⟩ := cam_form hcam
    have h20' : ks.length ≤ 20 := by rw [keys_len] at h20; exact h20
    have hok := fun o1 o2 => tblN_ok n [r, b, g, l] (keys ks) o1 o2 (by omega)
    have hz1 : z1.length ≤ 20 := by rw [← shownD_len, hd1.val]; exact Nat.le_trans (seenI_len _ _ _ _ _) h20
    have hz2 : z2.length ≤ 20 := by rw [← shownD_len, hd2.val]; exact Nat.le_trans (seenI_len _ _ _ _ _) h20
    have h31 : ∀ z ∈ z1, z.2.2.length = 3 := shown3 hd1.val
    have h32 : ∀ z ∈ z2, z.2.2.length = 3 := shown3 hd2.val
    refine ⟨.ref p, rfl, .ref d1, rfl, .ref d2, rfl, p, d1, d2, n, ks, _, one, other, z1, z2, rfl, hne, hK, hsky, hd1, hd2, fun H1 t tb s1 hT hk => ?_⟩
    have hK1 := skyS_up s1 hK
    refine ⟨.ref p, rfl, .ref d1, rfl, p, d1, n, _, r, b, g, l, z1, rfl, hK1.1, s1 _ _ hd1.ed, (shD_up s1 hd1).sh, h31, by omega, fun H2 w1 s2 n2 e2 => ?_⟩
    have hK2 := skyS_up s2 hK1
    refine ⟨.ref p, rfl, .ref d2, rfl, p, d2, n, _, r, b, g, l, z2, rfl, hK2.1, s2 _ _ (s1 _ _ hd2.ed), (shD_up (s1.trans s2) hd2).sh, h32, by omega, fun H3 w2 s3 n3 e3 => ?_⟩
    have hK3 := skyS_up s3 hK2
    have eW1 : sureI r b g l (shownD z1) = sureN n [r, b, g, l] one (keys ks) := by rw [hd1.val]; rfl
    have eW2 : sureI r b g l (shownD z2) = sureN n [r, b, g, l] other (keys ks) := by rw [hd2.val]; rfl
    rw [eW1] at e2
    rw [eW2] at e3
    have hT3 := tabAt_up (s2.trans s3) hT
    refine ⟨_, _, rfl, ?_⟩
    obtain ⟨dx, ts, tc, q1, q2, q3⟩ := id hK3.1
    refine ⟨.ref t, rfl, .ref p, rfl, p, dx, _, rfl, q1, p, n, _, _, rfl, hK3.1, fun ts' hts => ⟨ts', _, rfl, .inr hts, ?_⟩⟩
    rw [refs_len]
    refine ⟨t, tb, ks.length, rfl, hT3, by rw [hk]; exact hok _ _, by omega, fun H4 bt tb2 s4 eb hb hk2 => ?_⟩
    have hT2 : TabAt K H4 bt tb2 := ⟨.inl (.inl eb), hb⟩
    have hk2' : keys tb2 = tblN n [r, b, g, l] (keys ks) other one := by rw [hk2, hk, ← keys_len ks]; exact tbl_turned n [r, b, g, l] (keys ks) one other
    have l1 : tb.length = ks.length := by rw [← keys_len tb, hk]; unfold tblN; rw [List.length_map, List.length_range, keys_len]
    have l2 : tb2.length = ks.length := by rw [← keys_len tb2, hk2']; unfold tblN; rw [List.length_map, List.length_range, keys_len]
    have in1 : ∀ x ∈ sureN n [r, b, g, l] one (keys ks), 0 ≤ x ∧ x < (tb.length : Int) := fun x hx => by
      rw [l1, ← keys_len ks]
      exact sureN_in hx
    have in2 : ∀ x ∈ sureN n [r, b, g, l] other (keys ks), 0 ≤ x ∧ x < (tb2.length : Int) := fun x hx => by
      rw [l2, ← keys_len ks]
      exact sureN_in hx
    have e24 := s4 _ _ (s3 _ _ e2)
    have e34 := s4 _ _ e3
    refine ⟨.ref w1, rfl, w1, _, rfl, .inl (.inl (.inl e24)), .ref t, rfl, .ref w1, rfl, t, w1, tb, _, rfl, tabAt_up s4 hT3, by rw [hk]; exact hok _ _, .inl (.inl e24), sureN_nodup _ _ _ _, in1, fun H5 m1 s5 hm1 => ?_⟩
    refine ⟨_, _, rfl, rfl, ?_⟩
    refine ⟨.ref w2, rfl, w2, _, rfl, .inl (.inl (.inl (s5 _ _ e34))), .ref bt, rfl, .ref w2, rfl, bt, w2, tb2, _, rfl, tabAt_up s5 hT2, by rw [hk2']; exact hok _ _, .inl (.inl (s5 _ _ e34)), sureN_nodup _ _ _ _, in2, fun H6 m2 s6 hm2 => ?_⟩
    refine ⟨_, _, rfl, rfl, (by show 2 ≤ sizeLine; decide), fun t7 H7 s7 tt => ?_⟩
    rw [List.length_map, List.length_map] at tt
    rw [hk] at hm1
    rw [hk2'] at hm2
    exact k H7 t7 _ _ ((((((s1.trans s2).trans s3).trans s4).trans s5).trans s6).trans s7) tt hm1 hm2

theorem ok_lack_confuse (T : Txt P K mg a) : FnOk P w K mg base (L2.CX P w) 7 a.f_lack_confuse a.fd_lack_confuse ["sky", "one", "other"] (spLackOf K a.c_Sky a.c_InvalidAttitude fun x _ => x) := by
  refine T.F_lack_confuse.okX sc_lack_confuse (fun vs H Q E h => ?_) (fun cdv A outer s H vs Q E hr h => ?_)
  · obtain ⟨p, q, r, n, ks, cam, one, other, rfl, _⟩ := h
    rfl
  · obtain ⟨p, q, r, n, ks, cam, one, other, rfl, hK, hsky, hq', hr', k1, k2⟩ := h
    refine ⟨_, (pss_cons (ps_asg (pe_call (ok_shown_at T) (hr.mono (by decide)) (by rfl) T.m_shown_at T.F_shown_at.kp T.b_shown_at .nil (passes_call (takes_of rfl rfl rfl rfl) (fun _ _ _ _ h => h)) (pa_cons (pv 0) (pa_cons (pv 1) (pa_cons (pv 2) pa_nil)))) (pg_tup rfl (pgs_cons (pg_name (i := 3) sc_lack_confuse.nd rfl (.inl rfl)) (pgs_cons (pg_name (i := 4) sc_lack_confuse.nd rfl (.inl rfl)) pgs_nil))))
      (pss_one (ps_ret (pe_ix ix_seq (pe_call (ok_both_lacks T) (hr.mono (by decide)) (by rfl) T.m_both_lacks T.F_both_lacks.kp T.b_both_lacks .nil pass0 (pa_cons (pv 0) (pa_cons (pv 3) (pa_cons (pv 4) pa_nil)))) pe_int (fun _ _ => rfl))))), ?_⟩
    refine ⟨.ref p, rfl, .ref q, rfl, .ref r, rfl, p, q, r, n, ks, cam, one, other, rfl, hK, hsky, hq', hr', fun e1 e2 H1 t d1 d2 z1 z2 s1 tt hne hd1 hd2 => ?_, k2⟩
    refine ⟨t, _, rfl, tt, rfl, _, _, rfl, _, _, rfl, rfl, ?_⟩
    have hK1 := skyS_up s1 hK
    refine ⟨.ref p, rfl, .ref d1, rfl, .ref d2, rfl, p, d1, d2, n, ks, cam, one, other, z1, z2, rfl, hne, hK1, hsky, hd1, hd2, fun H2 t2 x y s2 t2t hx hy => ?_⟩
    exact .inr (.inl ⟨t2, _, 0, .int x, rfl, rfl, t2t, rfl, k1 e1 e2 H2 x y (s1.trans s2) hx hy⟩)

theorem ok_unlikeness (T : Txt P K mg a) : FnOk P w K mg base (L2.CX P w) 7 a.f_unlikeness a.fd_unlikeness ["sky", "one", "other"] (spLackOf K a.c_Sky a.c_InvalidAttitude fun x y => max x y) := by
  refine T.F_unlikeness.okX sc_unlikeness (fun vs H Q E h => ?_) (fun cdv A outer s H vs Q E hr h => ?_)
  · obtain ⟨p, q, r, n, ks, cam, one, other, rfl, _⟩ := h
    rfl
  · obtain ⟨p, q, r, n, ks, cam, one, other, rfl, hK, hsky, hq', hr', k1, k2⟩ := h
    have hu1 : (A.deeper (envOfC "unlikeness" (defScope s_unlikeness) s.heap.objs.size a.f_unlikeness cdv)).units + 1 < cLine := by
      have := hr.un
      omega
    refine ⟨_, (pss_cons (ps_asg (pe_call (ok_shown_at T) (hr.mono (by decide)) (by rfl) T.m_shown_at T.F_shown_at.kp T.b_shown_at .nil (passes_call (takes_of rfl rfl rfl rfl) (fun _ _ _ _ h => h)) (pa_cons (pv 0) (pa_cons (pv 1) (pa_cons (pv 2) pa_nil)))) (pg_tup rfl (pgs_cons (pg_name (i := 3) sc_unlikeness.nd rfl (.inl rfl)) (pgs_cons (pg_name (i := 4) sc_unlikeness.nd rfl (.inl rfl)) pgs_nil))))
      (pss_one (ps_ret (pe_callB (cr_maxTup rfl hu1) (by rfl) T.z_max (by decide +kernel) (pa_cons (pe_call (ok_both_lacks T) (hr.mono (by decide)) (by rfl) T.m_both_lacks T.F_both_lacks.kp T.b_both_lacks .nil pass0 (pa_cons (pv 0) (pa_cons (pv 3) (pa_cons (pv 4) pa_nil)))) pa_nil))))), ?_⟩
    refine ⟨.ref p, rfl, .ref q, rfl, .ref r, rfl, p, q, r, n, ks, cam, one, other, rfl, hK, hsky, hq', hr', fun e1 e2 H1 t d1 d2 z1 z2 s1 tt hne hd1 hd2 => ?_, k2⟩
    refine ⟨t, _, rfl, tt, rfl, _, _, rfl, _, _, rfl, rfl, ?_⟩
    have hK1 := skyS_up s1 hK
    refine ⟨.ref p, rfl, .ref d1, rfl, .ref d2, rfl, p, d1, d2, n, ks, cam, one, other, z1, z2, rfl, hne, hK1, hsky, hd1, hd2, fun H2 t2 x y s2 t2t hx hy => ?_⟩
    exact ⟨t2, x, [y], rfl, t2t, k1 e1 e2 H2 x y (s1.trans s2) hx hy⟩

theorem ok_lacking_lot (T : Txt P K mg a) : FnOk P w K mg base (L2.CX P w) 6 a.f_lacking_lot a.fd_lacking_lot ["sky", "one", "other"] (spLeastOf K a.c_Sky a.c_InvalidAttitude) := by
  refine T.F_lacking_lot.okX sc_lacking_lot (fun vs H Q E h => ?_) (fun cdv A outer s H vs Q E hr h => ?_)
  · obtain ⟨p, q, r, n, ks, cam, one, other, rfl, _⟩ := h
    rfl
  · obtain ⟨p, q, r, n, ks, cam, one, other, rfl, hK, hsky, hq', hr', k1, k2⟩ := h
    refine ⟨_, (pss_cons (ps_asg (pe_call (ok_shown_at T) (hr.mono (by decide)) (by rfl) T.m_shown_at T.F_shown_at.kp T.b_shown_at .nil (passes_call (takes_of rfl rfl rfl rfl) (fun _ _ _ _ h => h)) (pa_cons (pv 0) (pa_cons (pv 1) (pa_cons (pv 2) pa_nil)))) (pg_tup rfl (pgs_cons (pg_name (i := 3) sc_lacking_lot.nd rfl (.inl rfl)) (pgs_cons (pg_name (i := 4) sc_lacking_lot.nd rfl (.inl rfl)) pgs_nil))))
      (pss_one (ps_ret (pe_call (ok_least_lot T) (hr.mono (by decide)) (by rfl) T.m_least_lot T.F_least_lot.kp T.b_least_lot .nil pass0 (pa_cons (pe_call (ok_link_table T) (hr.mono (by decide)) (by rfl) T.m_link_table T.F_link_table.kp T.b_link_table .nil pass0 (pa_cons (pv 0) (pa_cons (pv 3) (pa_cons (pv 4) pa_nil)))) (pa_cons (pe_call (ok_sure_among T) (hr.mono (by decide)) (by rfl) T.m_sure_among T.F_sure_among.kp T.b_sure_among .nil pass0 (pa_cons (pv 0) (pa_cons (pv 3) pa_nil))) pa_nil)))))), ?_⟩
    refine ⟨.ref p, rfl, .ref q, rfl, .ref r, rfl, p, q, r, n, ks, cam, one, other, rfl, hK, hsky, hq', hr', fun e1 e2 H1 t d1 d2 z1 z2 s1 tt hne hd1 hd2 => ?_, k2⟩
    refine ⟨t, _, rfl, tt, rfl, _, _, rfl, _, _, rfl, rfl, ?_⟩
    have hK1 := skyS_up s1 hK
    obtain ⟨⟨h4, h9⟩, hstars, hnd, h20, hcam⟩ := sky_parts hsky
    obtain ⟨r_, b, g, l, rfl, c1, c2, c3, c4, c5, c6, c7, c8, c9, c10⟩ := cam_form hcam
    refine ⟨.ref p, rfl, .ref d1, rfl, .ref d2, rfl, p, d1, d2, n, ks, _, one, other, z1, z2, rfl, hne, hK1, hsky, hd1, hd2, fun H2 t2 tb s2 hT hk => ?_⟩
    have hz1 : z1.length ≤ 20 := by rw [← shownD_len, hd1.val]; exact Nat.le_trans (seenI_len _ _ _ _ _) h20
    refine ⟨.ref p, rfl, .ref d1, rfl, p, d1, n, _, r_, b, g, l, z1, rfl, (skyS_up s2 hK1).1, s2 _ _ hd1.ed, (shD_up s2 hd1).sh, shown3 hd1.val, by omega, fun H3 w1 s3 n3 e3 => ?_⟩
    have eW1 : sureI r_ b g l (shownD z1) = sureN n [r_, b, g, l] one (keys ks) := by rw [hd1.val]; rfl
    rw [eW1] at e3
    have l1 : tb.length = ks.length := by rw [← keys_len tb, hk]; unfold tblN; rw [List.length_map, List.length_range, keys_len]
    refine ⟨t2, w1, tb, _, rfl, tabAt_up s3 hT, by rw [hk]; exact tblN_ok _ _ _ _ _ (by omega), .inl (.inl e3), sureN_nodup _ _ _ _, by have := sureN_len n [r_, b, g, l] one (keys ks); omega, fun x hx => by rw [l1, ← keys_len ks]; exact sureN_in hx, fun H4 fl g' F s4 ef hF hL _ => ?_⟩
    rw [hk] at hL
    exact k1 e1 e2 H4 fl g' F (((s1.trans s2).trans s3).trans s4) ef hF hL

theorem ok__couples (T : Txt P K mg a) : FnOk P w K mg base CX0 6 a.f__couples a.fd__couples ["sky", "shown", "shown_other"] (spCoup2 K a.c_Sky) := by
  refine T.F__couples.ok sc__couples (fun vs H Q E h => ?_) (fun cdv A outer s H vs Q E hr h => ?_)
  · obtain ⟨p, d1, d2, n, ks, cam, one, other, z1, z2, rfl, _⟩ := h
    rfl
  · obtain ⟨p, d1, d2, n, ks, cam, one, other, z1, z2, rfl, hne, hK, hsky, hd1, hd2, k⟩ := h
    refine ⟨_, (pss_cons (ps_set (i := 3) sc__couples.nd rfl (.inl rfl) (pe_call (ok_link_table T) (hr.mono (by decide)) (by rfl) T.m_link_table T.F_link_table.kp T.b_link_table .nil pass0 (pa_cons (pv 0) (pa_cons (pv 1) (pa_cons (pv 2) pa_nil)))))
      (pss_one (ps_ret (pe_call (ok_matching T) (hr.mono (by decide)) (by rfl) T.m_matching T.F_matching.kp T.b_matching .nil pass0 (pa_cons (pv 3) (pa_cons (pe_call (ok_sure_among T) (hr.mono (by decide)) (by rfl) T.m_sure_among T.F_sure_among.kp T.b_sure_among .nil pass0 (pa_cons (pv 0) (pa_cons (pv 1) pa_nil))) (pa_cons (pe_call (ok_sure_among T) (hr.mono (by decide)) (by rfl) T.m_sure_among T.F_sure_among.kp T.b_sure_among .nil pass0 (pa_cons (pv 0) (pa_cons (pv 2) pa_nil))) pa_nil))))))), ?_⟩
    obtain ⟨⟨h4, h9⟩, hstars, hnd, h20, hcam⟩ := sky_parts hsky
    obtain ⟨r_, b, g, l, rfl, c1, c2, c3, c4, c5, c6, c7, c8, c9, c10⟩ := cam_form hcam
    refine ⟨.ref p, rfl, .ref d1, rfl, .ref d2, rfl, p, d1, d2, n, ks, _, one, other, z1, z2, rfl, hne, hK, hsky, hd1, hd2, fun H2 t2 tb s2 hT hk => ?_⟩
    have hz1 : z1.length ≤ 20 := by rw [← shownD_len, hd1.val]; exact Nat.le_trans (seenI_len _ _ _ _ _) h20
    have hz2 : z2.length ≤ 20 := by rw [← shownD_len, hd2.val]; exact Nat.le_trans (seenI_len _ _ _ _ _) h20
    refine ⟨.ref t2, rfl, .ref p, rfl, .ref d1, rfl, p, d1, n, _, r_, b, g, l, z1, rfl, (skyS_up s2 hK).1, s2 _ _ hd1.ed, (shD_up s2 hd1).sh, shown3 hd1.val, by omega, fun H3 w1 s3 n3 e3 => ?_⟩
    have eW1 : sureI r_ b g l (shownD z1) = sureN n [r_, b, g, l] one (keys ks) := by rw [hd1.val]; rfl
    rw [eW1] at e3
    have S3 := s2.trans s3
    refine ⟨.ref p, rfl, .ref d2, rfl, p, d2, n, _, r_, b, g, l, z2, rfl, (skyS_up S3 hK).1, S3 _ _ hd2.ed, (shD_up S3 hd2).sh, shown3 hd2.val, by omega, fun H4 w2 s4 n4 e4 => ?_⟩
    have eW2 : sureI r_ b g l (shownD z2) = sureN n [r_, b, g, l] other (keys ks) := by rw [hd2.val]; rfl
    rw [eW2] at e4
    have l1 : tb.length = ks.length := by rw [← keys_len tb, hk]; unfold tblN; rw [List.length_map, List.length_range, keys_len]
    refine ⟨t2, w1, w2, tb, _, _, rfl, tabAt_up (s3.trans s4) hT, by rw [hk]; exact tblN_ok _ _ _ _ _ (by omega), .inl (.inl (s4 _ _ e3)), sureN_nodup _ _ _ _, (fun x hx => by rw [l1, ← keys_len ks]; exact sureN_in hx), .inl (.inl e4), sureN_nodup _ _ _ _, by have := sureN_len n [r_, b, g, l] other (keys ks); omega, fun H5 ll es gg s5 _ el ht hkk hA hM hX hY => ?_⟩
    rw [hk] at hM hX hY
    exact k H5 ll es gg (((s2.trans s3).trans s4).trans s5) el ht hkk ⟨by rw [← hkk]; exact hA, hM, hX, hY⟩

theorem ok_couples (T : Txt P K mg a) : FnOk P w K mg base (L2.CX P w) 7 a.f_couples a.fd_couples ["sky", "one", "other"] (spCouples K a.c_Sky a.c_InvalidAttitude) := by
  refine T.F_couples.okX sc_couples (fun vs H Q E h => ?_) (fun cdv A outer s H vs Q E hr h => ?_)
  · obtain ⟨p, q, r, n, ks, cam, one, other, rfl, _⟩ := h
    rfl
  · obtain ⟨p, q, r, n, ks, cam, one, other, rfl, hK, hsky, hq', hr', k1, k2⟩ := h
    refine ⟨_, (pss_cons (ps_asg (pe_call (ok_shown_at T) (hr.mono (by decide)) (by rfl) T.m_shown_at T.F_shown_at.kp T.b_shown_at .nil (passes_call (takes_of rfl rfl rfl rfl) (fun _ _ _ _ h => h)) (pa_cons (pv 0) (pa_cons (pv 1) (pa_cons (pv 2) pa_nil)))) (pg_tup rfl (pgs_cons (pg_name (i := 3) sc_couples.nd rfl (.inl rfl)) (pgs_cons (pg_name (i := 4) sc_couples.nd rfl (.inl rfl)) pgs_nil))))
      (pss_one (ps_ret (pe_call (ok__couples T) (hr.mono (by decide)) (by rfl) T.m__couples T.F__couples.kp T.b__couples .nil pass0 (pa_cons (pv 0) (pa_cons (pv 3) (pa_cons (pv 4) pa_nil))))))), ?_⟩
    refine ⟨.ref p, rfl, .ref q, rfl, .ref r, rfl, p, q, r, n, ks, cam, one, other, rfl, hK, hsky, hq', hr', fun e1 e2 H1 t d1 d2 z1 z2 s1 tt hne hd1 hd2 => ?_, k2⟩
    refine ⟨t, _, rfl, tt, rfl, _, _, rfl, _, _, rfl, rfl, ?_⟩
    exact ⟨.ref p, rfl, .ref d1, rfl, .ref d2, rfl, p, d1, d2, n, ks, cam, one, other, z1, z2, rfl, hne, skyS_up s1 hK, hsky, hd1, hd2, fun H2 l es g s2 el ht hk hc => k1 e1 e2 H2 l es g (s1.trans s2) el ht hk hc⟩

theorem ok_are_confusable (T : Txt P K mg a) : FnOk P w K mg base (L2.CX P w) 8 a.f_are_confusable a.fd_are_confusable ["sky", "one", "other", "missing", "false"] (spConfusable K a.c_Sky a.c_InvalidAttitude) := by
  refine T.F_are_confusable.okX sc_are_confusable (fun vs H Q E h => ?_) (fun cdv A outer s H vs Q E hr h => ?_)
  · obtain ⟨p, q, r, n, mi, fa, ks, cam, one, other, rfl, _⟩ := h
    rfl
  · obtain ⟨p, q, r, n, mi, fa, ks, cam, one, other, rfl, hK, hsky, hq, hr', k1, k2⟩ := h
    refine ⟨_, (pss_one (ps_ret (pe_cmpR op_le (pe_call (ok_unlikeness T) (hr.mono (by decide)) (by rfl) T.m_unlikeness T.F_unlikeness.kp T.b_unlikeness .nil (passes_call (takes_of rfl rfl rfl rfl) (fun _ _ _ _ h => h)) (pa_cons (pv 0) (pa_cons (pv 1) (pa_cons (pv 2) pa_nil)))) (pe_op op_add (pv 3) (pv 4)) (nomark _)))), ?_⟩
    refine ⟨.ref p, rfl, .ref q, rfl, .ref r, rfl, p, q, r, n, ks, cam, one, other, rfl, hK, hsky, hq, hr', fun e1 e2 H1 x y s1 hx hy => ?_, k2⟩
    refine ⟨.int mi, rfl, .int fa, rfl, _, _, rfl, rfl, _, _, rfl, rfl, ?_⟩
    have := k1 e1 e2 H1 s1
    rw [unlW_eq hx hy] at this
    exact this

theorem ok_common_spot (T : Txt P K mg a) : FnOk P w K mg base CX0 3 a.f_common_spot a.fd_common_spot ["sky", "look", "other_look"] (spComSpot K a.c_Sky) := by
  refine T.F_common_spot.ok sc_common_spot (fun vs H Q E h => ?_) (fun cdv A outer s H vs Q E hr h => ?_)
  · obtain ⟨p, u, v, n, st, r, b, g, l, d, e, rfl, _⟩ := h
    rfl
  · obtain ⟨p, u, v, n, st, r, b, g, l, d, e, rfl, hK, hu, hv, hd, he, k⟩ := h
    refine ⟨_, (pss_one (ps_ret (pe_tupM (pa_cons (pe_callB ((call_max3 rfl)) (by rfl) T.z_max (by decide +kernel) (pa_cons (pe_op op_sub (pe_ix ix_seq (pv 1) pe_int (fun _ _ => rfl)) (pe_prop (pv 0) T.cl_Sky T.p_Sky_blur (ok_Sky_blur T) (hr.mono (by decide)) T.b_Sky_blur .nil pass0 rfl)) (pa_cons (pe_op op_sub (pe_ix ix_seq (pv 2) pe_int (fun _ _ => rfl)) (pe_prop (pv 0) T.cl_Sky T.p_Sky_blur (ok_Sky_blur T) (hr.mono (by decide)) T.b_Sky_blur .nil pass0 rfl)) (pa_cons (pe_un un_neg (pe_prop (pv 0) T.cl_Sky T.p_Sky_reach (ok_Sky_reach T) (hr.mono (by decide)) T.b_Sky_reach .nil pass0 rfl)) pa_nil)))) (pa_cons (pe_callB ((call_max3 rfl)) (by rfl) T.z_max (by decide +kernel) (pa_cons (pe_op op_sub (pe_ix ix_seq (pv 1) pe_int (fun _ _ => rfl)) (pe_prop (pv 0) T.cl_Sky T.p_Sky_blur (ok_Sky_blur T) (hr.mono (by decide)) T.b_Sky_blur .nil pass0 rfl)) (pa_cons (pe_op op_sub (pe_ix ix_seq (pv 2) pe_int (fun _ _ => rfl)) (pe_prop (pv 0) T.cl_Sky T.p_Sky_blur (ok_Sky_blur T) (hr.mono (by decide)) T.b_Sky_blur .nil pass0 rfl)) (pa_cons (pe_un un_neg (pe_prop (pv 0) T.cl_Sky T.p_Sky_reach (ok_Sky_reach T) (hr.mono (by decide)) T.b_Sky_reach .nil pass0 rfl)) pa_nil)))) (pa_cons (pe_callB ((call_max3 rfl)) (by rfl) T.z_max (by decide +kernel) (pa_cons (pe_op op_sub (pe_ix ix_seq (pv 1) pe_int (fun _ _ => rfl)) (pe_prop (pv 0) T.cl_Sky T.p_Sky_glare (ok_Sky_glare T) (hr.mono (by decide)) T.b_Sky_glare .nil pass0 rfl)) (pa_cons (pe_op op_sub (pe_ix ix_seq (pv 2) pe_int (fun _ _ => rfl)) (pe_prop (pv 0) T.cl_Sky T.p_Sky_glare (ok_Sky_glare T) (hr.mono (by decide)) T.b_Sky_glare .nil pass0 rfl)) (pa_cons (pe_prop (pv 0) T.cl_Sky T.p_Sky_limit (ok_Sky_limit T) (hr.mono (by decide)) T.b_Sky_limit .nil pass0 rfl) pa_nil)))) pa_nil)))))), ?_⟩
    obtain ⟨dx, ts, tc, h1, h2, h3⟩ := id hK
    obtain ⟨x, y, c, rfl⟩ := of3 (show ((d.length : Nat) : Int) = 3 by rw [hd]; rfl)
    obtain ⟨x', y', c', rfl⟩ := of3 (show ((e.length : Nat) : Int) = 3 by rw [he]; rfl)
    refine ⟨.ref u, rfl, .inr (.inl ⟨u, _, 0, .int x, rfl, rfl, hu, rfl, .ref p, rfl, p, dx, _, rfl, h1, p, n, _, _, b, rfl, hK, rfl, _, _, rfl, rfl, ?_⟩)⟩
    refine ⟨.ref v, rfl, .inr (.inl ⟨v, _, 0, .int x', rfl, rfl, hv, rfl, .ref p, rfl, p, dx, _, rfl, h1, p, n, _, _, b, rfl, hK, rfl, _, _, rfl, rfl, ?_⟩)⟩
    refine ⟨.ref p, rfl, p, dx, _, rfl, h1, p, n, _, _, r, rfl, hK, rfl, _, rfl, ?_⟩
    refine ⟨_, _, _, rfl, ?_⟩
    refine ⟨.ref u, rfl, .inr (.inl ⟨u, _, 1, .int y, rfl, rfl, hu, rfl, .ref p, rfl, p, dx, _, rfl, h1, p, n, _, _, b, rfl, hK, rfl, _, _, rfl, rfl, ?_⟩)⟩
    refine ⟨.ref v, rfl, .inr (.inl ⟨v, _, 1, .int y', rfl, rfl, hv, rfl, .ref p, rfl, p, dx, _, rfl, h1, p, n, _, _, b, rfl, hK, rfl, _, _, rfl, rfl, ?_⟩)⟩
    refine ⟨.ref p, rfl, p, dx, _, rfl, h1, p, n, _, _, r, rfl, hK, rfl, _, rfl, ?_⟩
    refine ⟨_, _, _, rfl, ?_⟩
    refine ⟨.ref u, rfl, .inr (.inl ⟨u, _, 2, .int c, rfl, rfl, hu, rfl, .ref p, rfl, p, dx, _, rfl, h1, p, n, _, _, g, rfl, hK, rfl, _, _, rfl, rfl, ?_⟩)⟩
    refine ⟨.ref v, rfl, .inr (.inl ⟨v, _, 2, .int c', rfl, rfl, hv, rfl, .ref p, rfl, p, dx, _, rfl, h1, p, n, _, _, g, rfl, hK, rfl, _, _, rfl, rfl, ?_⟩)⟩
    refine ⟨.ref p, rfl, p, dx, _, rfl, h1, p, n, _, _, l, rfl, hK, rfl, ?_⟩
    refine ⟨_, _, _, rfl, ?_⟩
    exact ⟨(by show 3 ≤ sizeLine; decide), fun t H1 s1 t1 => k H1 t s1 t1⟩

theorem ok__own_spots (T : Txt P K mg a) : FnOk P w K mg base CX0 4 a.f__own_spots a.fd__own_spots ["sky", "shown", "coupled", "missing"] (spOwn K a.c_Sky) := by
  refine T.F__own_spots.ok sc__own_spots (fun vs H Q E h => ?_) (fun cdv A outer s H vs Q E hr h => ?_)
  · obtain ⟨p, d, cl, n, k_, ks, cam, at_, L, zs, rfl, _⟩ := h
    rfl
  · obtain ⟨p, d, cl, n, k_, ks, cam, at_, L, zs, rfl, hK, hsky, hp, hd, hcl, k0, k⟩ := h
    have hu1 : (A.deeper (envOfC "_own_spots" (defScope s__own_spots) s.heap.objs.size a.f__own_spots cdv)).units + 1 < cLine := by
      have := hr.un
      omega
    refine ⟨_, (pss_cons (ps_setLc (i := 4) rfl sc__own_spots.nd rfl rfl (sw_true rfl rfl rfl (by decide +kernel)) (g := gName 5) (own := [("number", 5)]) (pi_list (pe_call (ok_sure_among T) (hr.mono (by decide)) (by rfl) T.m_sure_among T.F_sure_among.kp T.b_sure_among .nil pass0 (pa_cons (pv 0) (pa_cons (pv 1) pa_nil)))) (blkOk_by (own := [("number", 5)]) (N := ["sky", "shown", "coupled", "missing", "left_out", "number"]) (sc := defScope s__own_spots) (by decide +kernel)) (fun _ _ _ _ _ => (pg_name (i := 5) sc__own_spots.nd rfl (.inl rfl))) (fun _ _ _ _ _ => (pts_one (pt_cmpR (op_notIn_seqK (K := K)) (pv 5) (pv 2) (by rfl)))) (fun _ _ _ _ _ => (pv 5)))
      (pss_one (ps_ret (pe_lc (g := gName 5) (tt := tYes) (own := [("number", 5)]) rfl sc__own_spots.nd (pi_list (pe_slice sl_listM (pv 4) (po_some (pv 3)) po_none)) (blkOk_by (own := [("number", 5)]) (N := ["sky", "shown", "coupled", "missing", "left_out", "number"]) (sc := defScope s__own_spots) (by decide +kernel)) (fun _ _ _ _ _ => (pg_name (i := 5) sc__own_spots.nd rfl (.inl rfl))) (fun _ _ _ _ _ => pts_nil) (fun _ _ _ _ _ => (pe_dget hu1 (pv 1) (pv 5) (fun _ _ => rfl))))))), ?_⟩
    obtain ⟨⟨h4, h9⟩, hstars, hnd, h20, hcam⟩ := sky_parts hsky
    obtain ⟨r_, b, g, l, rfl, c1, c2, c3, c4, c5, c6, c7, c8, c9, c10⟩ := cam_form hcam
    have hkl := keys_len ks
    have hz1 : zs.length ≤ 20 := by rw [← shownD_len, hd.val]; exact Nat.le_trans (seenI_len _ _ _ _ _) h20
    refine ⟨.ref p, rfl, .ref d, rfl, p, d, n, _, r_, b, g, l, zs, rfl, hK.1, hd.ed, hd.sh, shown3 hd.val, by omega, fun H1 w1 s1 n1 e1 => ?_⟩
    have eW : sureI r_ b g l (shownD zs) = sureN n [r_, b, g, l] at_ (keys ks) := by rw [hd.val]; rfl
    rw [eW] at e1
    generalize hS : sureN n [r_, b, g, l] at_ (keys ks) = S at *
    have hSl : S.length ≤ 20 := by
      have := sureN_len n [r_, b, g, l] at_ (keys ks)
      rw [← hS]
      omega
    refine ⟨w1, rfl, ⟨_, .inl (.inl e1)⟩, fun Di nDi => lc_list (K := K) (a := w1) (xs := S.map V.int) (fun i Hc => Same H1 Hc ∧ Hc Di = some (.lst (((S.take i).filter fun x => !decide (x ∈ L)).map V.int))) ⟨same_new nDi, upd_same⟩ (fun i Hc _ ⟨s', _⟩ => .inl (.inl (s' _ _ e1))) ?_ ?_⟩
    · rintro i v Hc hi ⟨Sc, ec⟩
      obtain ⟨x, hx, rfl⟩ := map_at hi
      have hil := (List.getElem?_eq_some_iff.mp hx).1
      refine ⟨rfl, ?_⟩
      refine ⟨_, rfl, .ref cl, rfl, cl, _, rfl, .inl (Sc.seq (s1.seq hcl)), rfl, ?_, _, rfl, ?_⟩
      · rw [List.all_map]
        exact List.all_eq_true.mpr fun _ _ => rfl
      rw [show (if true then !inV (V.int x) (L.map V.int) else inV (V.int x) (L.map V.int)) = !decide (x ∈ L) from inV_not _ _, List.take_add_one, hx, List.filter_append]
      refine ite2 (fun gg => ?_) (fun gg => ?_)
      · refine ⟨_, rfl, _, ec, sizeN ?_, same_put nDi Sc, ?_⟩
        · rw [List.length_map]
          have := List.length_filter_le (fun x => !decide (x ∈ L)) (S.take i)
          rw [List.length_take] at this
          omega
        · rw [upd_same, map_push]
          show _ = some (HO.lst ((_ ++ [x].filter _).map V.int))
          rw [List.filter_cons_of_pos (by exact gg), List.filter_nil]
      · refine ⟨Sc, ?_⟩
        show _ = some (HO.lst ((_ ++ [x].filter _).map V.int))
        rw [List.filter_cons_of_neg (by exact gg), List.filter_nil, List.append_nil]
        exact ec
    rintro H11 ⟨s11, e11⟩
    rw [List.length_map, List.take_length] at e11
    refine ⟨.ref Di, rfl, _, rfl, _, rfl, Di, _, rfl, .inl (.inl e11), fun Ds H12 s12 n12 e12 => ?_⟩
    generalize hG : (S.filter fun x => !decide (x ∈ L)).drop k_.toNat = G at *
    have e12' : H12 Ds = some (.lst (G.map V.int)) := by
      rw [e12]
      have := cut_from (xs := (S.filter fun x => !decide (x ∈ L)).map V.int) (j := k_.toNat)
      rw [Int.toNat_of_nonneg k0] at this
      rw [this, ← List.map_drop, hG]
    have hGl : G.length ≤ 20 := by
      rw [← hG, List.length_drop]
      have := List.length_filter_le (fun x => !decide (x ∈ L)) S
      omega
    have hGs : ∀ x ∈ G, x ∈ sureN n [r_, b, g, l] at_ (keys ks) := fun x hx => by
      rw [hS]
      rw [← hG] at hx
      exact (List.mem_filter.mp (List.mem_of_mem_drop hx)).1
    refine ⟨Ds, rfl, ⟨_, .inl (.inl e12')⟩, fun Df nDf => lc_list (K := K) (a := Ds) (xs := G.map V.int) (fun i Hc => ∃ fs : Tups, Same H12 Hc ∧ Hc Df = some (.lst (refs fs)) ∧ TupsAt K Hc fs ∧ keys fs = (G.take i).map (dO n [r_, b, g, l] at_ (keys ks)) ∧ fs.length = i) ⟨[], same_new nDf, upd_same, (fun p hp => by cases hp), rfl, rfl⟩ (fun i Hc _ ⟨_, s', _⟩ => .inl (.inl (s' _ _ e12'))) ?_ ?_⟩
    · rintro i v Hc hi ⟨fs, Sc, ec, tc, kf, lf⟩
      obtain ⟨x, hx, rfl⟩ := map_at hi
      have hil := (List.getElem?_eq_some_iff.mp hx).1
      obtain ⟨z, hz, ez, _⟩ := sure_src (hGs x (List.mem_of_getElem? hx))
      obtain ⟨a', ea, _, hd'⟩ := seen_at hz
      have ea' : x = (a' : Int) := ez.symm.trans ea
      have hd1c := shD_up (((s1.trans s11).trans s12).trans Sc) hd
      obtain ⟨qa, hqa, tqa⟩ := (get_shown hd1c.ed hd1c.sh x).2 z.2 (by rw [ea', hd1c.val]; exact (atK_seen0 _ _ _ _ _).trans hd')
      refine ⟨rfl, ?_⟩
      refine ⟨.ref d, rfl, _, rfl, d, _, rfl, hqa, ?_⟩
      refine ⟨_, ec, sizeN (by rw [refs_len]; omega), fs ++ [(qa, z.2)], same_put nDf Sc, by rw [upd_same, ← refs_push], tups_app (tups_put ec tc) (tups_one (sqT_lst ec tqa)), ?_, by rw [List.length_append, lf]; rfl⟩
      rw [keys_push, kf, List.take_add_one, hx, List.map_append]
      show _ ++ [z.2] = _ ++ [dO n [r_, b, g, l] at_ (keys ks) x]
      rw [ea', dO_eq hd']
    rintro H13 ⟨fs, S13, e13, t13, kf, lf⟩
    rw [List.length_map, List.take_length] at kf
    exact k H13 Df fs (((s1.trans s11).trans s12).trans S13) e13 t13 kf

theorem ok_common_sighting (T : Txt P K mg a) : FnOk P w K mg base (L2.CX P w) 7 a.f_common_sighting a.fd_common_sighting ["sky", "one", "other", "missing", "missing_other"] (spComSight K a.c_Sky) := by
  refine T.F_common_sighting.okX sc_common_sighting (fun vs H Q E h => ?_) (fun cdv A outer s H vs Q E hr h => ?_)
  · obtain ⟨p, q, r, n, k1, k2, ks, cam, one, other, rfl, _⟩ := h
    rfl
  · obtain ⟨p, q, r, n, k1, k2, ks, cam, one, other, rfl, hK, hsky, hq, hone, hr', hoth, k10, k20, k⟩ := h
    have hu1 : (A.deeper (envOfC "common_sighting" (defScope s_common_sighting) s.heap.objs.size a.f_common_sighting cdv)).units + 1 < cLine := by
      have := hr.un
      omega
    refine ⟨_, (pss_cons (ps_asg (pe_call (ok_shown_at T) (hr.mono (by decide)) (by rfl) T.m_shown_at T.F_shown_at.kp T.b_shown_at .nil (passes_call (takes_of rfl rfl rfl rfl) (fun _ _ _ _ h => h)) (pa_cons (pv 0) (pa_cons (pv 1) (pa_cons (pv 2) pa_nil)))) (pg_tup rfl (pgs_cons (pg_name (i := 5) sc_common_sighting.nd rfl (.inr rfl)) (pgs_cons (pg_name (i := 6) sc_common_sighting.nd rfl (.inr rfl)) pgs_nil))))
      (C8.pss_cut (ps_set (i := 7) sc_common_sighting.nd rfl (.inl rfl) (pe_call (ok__couples T) (hr.mono (by decide)) (by rfl) T.m__couples T.F__couples.kp T.b__couples .nil pass0 (pa_cons (pv 0) (pa_cons (pv 5) (pa_cons (pv 6) pa_nil)))))
      (C8.pss_cut (ps_setLc (i := 8) rfl sc_common_sighting.nd rfl rfl (sw_true rfl rfl rfl (by decide +kernel)) (g := gTup K 2 (gCons (gName 9) (gCons (gName 10) gNil))) (tt := tYes) (own := [("first", 9), ("second", 10)]) (pi_list (pv 7)) (blkOk_by (own := [("first", 9), ("second", 10)]) (N := ["sky", "one", "other", "missing", "missing_other", "shown", "shown_other", "pairs", "spots", "first", "second", "_"]) (sc := defScope s_common_sighting) (by decide +kernel)) (fun _ _ _ _ _ => (pg_tup rfl (pgs_cons (pg_name (i := 9) sc_common_sighting.nd rfl (.inl rfl)) (pgs_cons (pg_name (i := 10) sc_common_sighting.nd rfl (.inl rfl)) pgs_nil)))) (fun _ _ _ _ _ => pts_nil) (fun _ _ _ _ _ => (pe_call (ok_common_spot T) (hr.mono (by decide)) (by rfl) T.m_common_spot T.F_common_spot.kp T.b_common_spot .nil pass0 (pa_cons (pv 0) (pa_cons (pe_dget hu1 (pv 5) (pv 9) (fun _ _ => rfl)) (pa_cons (pe_dget hu1 (pv 6) (pv 10) (fun _ _ => rfl)) pa_nil))))))
      (C8.pss_cut (ps_expr (pe_bm PySem.F.plainAttrs_list PySem.F.slot_list_extend PySem.F.type_list_extend mt_extend (pv 8) (pa_cons (pe_call (ok__own_spots T) (hr.mono (by decide)) (by rfl) T.m__own_spots T.F__own_spots.kp T.b__own_spots .nil pass0 (pa_cons (pv 0) (pa_cons (pv 5) (pa_cons (pe_lc (g := gTup K 2 (gCons (gName 9) (gCons (gName 11) gNil))) (tt := tYes) (own := [("first", 9), ("_", 11)]) rfl sc_common_sighting.nd (pi_list (pv 7)) (blkOk_by (own := [("first", 9), ("_", 11)]) (N := ["sky", "one", "other", "missing", "missing_other", "shown", "shown_other", "pairs", "spots", "first", "second", "_"]) (sc := defScope s_common_sighting) (by decide +kernel)) (fun _ _ _ _ _ => (pg_tup rfl (pgs_cons (pg_name (i := 9) sc_common_sighting.nd rfl (.inl rfl)) (pgs_cons (pg_name (i := 11) sc_common_sighting.nd rfl (.inl rfl)) pgs_nil)))) (fun _ _ _ _ _ => pts_nil) (fun _ _ _ _ _ => (pv 9))) (pa_cons (pv 3) pa_nil))))) pa_nil)))
      (C8.pss_cut (ps_expr (pe_bm PySem.F.plainAttrs_list PySem.F.slot_list_extend PySem.F.type_list_extend mt_extend (pv 8) (pa_cons (pe_call (ok__own_spots T) (hr.mono (by decide)) (by rfl) T.m__own_spots T.F__own_spots.kp T.b__own_spots .nil pass0 (pa_cons (pv 0) (pa_cons (pv 6) (pa_cons (pe_lc (g := gTup K 2 (gCons (gName 11) (gCons (gName 10) gNil))) (tt := tYes) (own := [("_", 11), ("second", 10)]) rfl sc_common_sighting.nd (pi_list (pv 7)) (blkOk_by (own := [("_", 11), ("second", 10)]) (N := ["sky", "one", "other", "missing", "missing_other", "shown", "shown_other", "pairs", "spots", "first", "second", "_"]) (sc := defScope s_common_sighting) (by decide +kernel)) (fun _ _ _ _ _ => (pg_tup rfl (pgs_cons (pg_name (i := 11) sc_common_sighting.nd rfl (.inl rfl)) (pgs_cons (pg_name (i := 10) sc_common_sighting.nd rfl (.inl rfl)) pgs_nil)))) (fun _ _ _ _ _ => pts_nil) (fun _ _ _ _ _ => (pv 10))) (pa_cons (pv 4) pa_nil))))) pa_nil)))
      (pss_one (ps_ret (pe_callTy call_tuple_of (by rfl) T.z_tuple (by decide +kernel) (pa_cons (pe_callB cr_sortL (by rfl) T.z_sorted (by decide +kernel) (pa_cons (pv 8) pa_nil)) pa_nil))))))))), ?_⟩
    obtain ⟨⟨h4, h9⟩, hstars, hnd, h20, hcam⟩ := sky_parts hsky
    obtain ⟨r_, b, g_, l, rfl, c1, c2, c3, c4, c5, c6, c7, c8, c9, c10⟩ := cam_form hcam
    have hkl := keys_len ks
    refine ⟨.ref p, rfl, .ref q, rfl, .ref r, rfl, p, q, r, n, ks, _, one, other, rfl, hK, hsky, hq, hr', fun _ _ H1 t2 d1 d2 z1 z2 s1 tt2 hne hd1 hd2 => ?_, no_err hone hoth⟩
    refine ⟨t2, _, rfl, tt2, rfl, _, _, rfl, _, _, rfl, rfl, ?_⟩
    refine ⟨fun σ H' => ∃ (ga : Addr) (es : Tups) (g : MM), σ = [some (.ref p), some (.ref q), some (.ref r), some (.int k1), some (.int k2), some (.ref d1), some (.ref d2), some (.ref ga), none, none, none, none] ∧ Same H1 H' ∧ H' ga = some (.lst (refs es)) ∧ TupsAt K H' es ∧ keys es = pairs2 g ∧ CoupI n [r_, b, g_, l] (keys ks) one other g, ?_, ?_⟩
    · exact ⟨.ref p, rfl, .ref d1, rfl, .ref d2, rfl, p, d1, d2, n, ks, _, one, other, z1, z2, rfl, hne, skyS_up s1 hK, hsky, hd1, hd2, fun H2 ga es g s2 eg tg kg hC => ⟨ga, es, g, rfl, s2, eg, tg, kg, hC⟩⟩
    rintro σ4 H4 ⟨ga, es, g, rfl, s4, eg4, tg4, kg, hC⟩
    have S4 := s1.trans s4
    have K4 := skyS_up S4 hK
    have hM := hC.2.1
    have hCf : Conf n r_ b g_ l (keys ks) one other g := ⟨hsky, hone, hoth, hM⟩
    have hgl2 : g.length = es.length := by rw [← keys_len es, kg]; unfold pairs2; rw [List.length_map]
    have hst := hCf.stars (k := 0)
    have hgl3 : g.length ≤ 20 := by omega
    have hd1a := shD_up s4 hd1
    have hd2a := shD_up s4 hd2
    -- spots that fit both
    refine ⟨fun σ H' => ∃ (D : Addr) (cs : Tups), σ = [some (.ref p), some (.ref q), some (.ref r), some (.int k1), some (.int k2), some (.ref d1), some (.ref d2), some (.ref ga), some (.ref D), none, none, none] ∧ H4 D = none ∧ Same H4 H' ∧ H' D = some (.lst (refs cs)) ∧ TupsAt K H' cs ∧ keys cs = misA n [r_, b, g_, l] (keys ks) one other g ∧ cs.length ≤ 20, ?_, ?_⟩
    · refine ⟨.ref ga, rfl, ga, rfl, ⟨_, .inl (.inl eg4)⟩, fun D nD => lc_list (K := K) (a := ga) (xs := refs es) (fun i Hc => ∃ cs : Tups, Same H4 Hc ∧ Hc D = some (.lst (refs cs)) ∧ TupsAt K Hc cs ∧ keys cs = (g.take i).map (fun z => cspot [r_, b, g_, l] (dO n [r_, b, g_, l] one (keys ks) z.1) (dO n [r_, b, g_, l] other (keys ks) z.2)) ∧ cs.length = i) ⟨[], same_new nD, upd_same, (fun p hp => by cases hp), rfl, rfl⟩ (fun i Hc _ ⟨_, sc, _⟩ => .inl (.inl (sc _ _ eg4))) ?_ ?_⟩
      · rintro i v Hc hi ⟨cs, Sc, ec, tc, kc, lc⟩
        obtain ⟨z, hz, rfl⟩ := refs_at hi
        have hil := (List.getElem?_eq_some_iff.mp hz).1
        obtain ⟨x, hx, ezx⟩ := pair_at kg hz
        have tz := sqT_up Sc (tg4 z (List.mem_of_getElem? hz))
        rw [ezx] at tz
        obtain ⟨a', s', ea, es', _, _, d, e, hd, he, _⟩ := edge_at hM (List.mem_of_getElem? hx)
        have hd1c := shD_up Sc hd1a
        have hd2c := shD_up Sc hd2a
        obtain ⟨qa, hqa, tqa⟩ := (get_shown hd1c.ed hd1c.sh x.1).2 d (by rw [ea, hd1c.val]; exact (atK_seen0 _ _ _ _ _).trans hd)
        obtain ⟨qs, hqs, tqs⟩ := (get_shown hd2c.ed hd2c.sh x.2).2 e (by rw [es', hd2c.val]; exact (atK_seen0 _ _ _ _ _).trans he)
        refine ⟨z.1, _, rfl, tz, rfl, _, _, rfl, _, _, rfl, rfl, rfl, ?_⟩
        refine ⟨.ref p, rfl, .ref d1, rfl, _, rfl, d1, _, rfl, hqa, .ref d2, rfl, _, rfl, d2, _, rfl, hqs, p, qa, qs, n, _, r_, b, g_, l, d, e, rfl, (skyS_up Sc K4).1, tqa, tqs, vis3 (sO_vis hone hstars hd), vis3 (sO_vis hoth hstars he), fun Hd t sd td => ?_⟩
        refine ⟨_, sd _ _ ec, sizeN (by rw [refs_len]; omega), cs ++ [(t, cspot [r_, b, g_, l] d e)], same_put nD (Sc.trans sd), by rw [upd_same, ← refs_push], tups_app (tups_put (sd _ _ ec) (tups_up sd tc)) (tups_one (sqT_lst (sd _ _ ec) td)), ?_, by rw [List.length_append, lc]; rfl⟩
        rw [keys_push, kc, List.take_add_one, hx, List.map_append]
        show _ ++ [cspot [r_, b, g_, l] d e] = _ ++ [cspot [r_, b, g_, l] (dO n [r_, b, g_, l] one (keys ks) x.1) (dO n [r_, b, g_, l] other (keys ks) x.2)]
        rw [ea, es', dO_eq hd, dO_eq he]
      rintro H5 ⟨cs, S5, e5, t5, k5, l5⟩
      rw [refs_len] at k5 l5
      rw [← hgl2, List.take_length] at k5
      exact ⟨D, cs, rfl, nD, S5, e5, t5, k5, by omega⟩
    rintro σ5 H5 ⟨D, cs, rfl, nD, S5, e5, t5, k5, l5⟩
    have ownl : ∀ {at_ : List Int} {C : MM} {k : Nat}, (misG (sureN n [r_, b, g_, l] at_ (keys ks)) C k).length ≤ 20 := fun {at_ C k} => by
      have := misG_len2 (k := k) (S := sureN n [r_, b, g_, l] at_ (keys ks)) (C := C)
      have := sureN_len n [r_, b, g_, l] at_ (keys ks)
      omega
    -- those of the first one
    refine ⟨fun σ H' => ∃ cs : Tups, σ = [some (.ref p), some (.ref q), some (.ref r), some (.int k1), some (.int k2), some (.ref d1), some (.ref d2), some (.ref ga), some (.ref D), none, none, none] ∧ Same H4 H' ∧ H' D = some (.lst (refs cs)) ∧ TupsAt K H' cs ∧ keys cs = misA n [r_, b, g_, l] (keys ks) one other g ++ (misG (sureN n [r_, b, g_, l] one (keys ks)) g k1.toNat).map (dO n [r_, b, g_, l] one (keys ks)) ∧ cs.length ≤ 40, ?_, ?_⟩
    · have eg5 := S5 _ _ eg4
      have tg5 := tups_up S5 tg4
      refine ⟨.ref D, rfl, .inl ⟨rfl, _, .inl (.inl e5)⟩, .ref p, rfl, .ref d1, rfl, .ref ga, rfl, ga, rfl, ⟨_, .inl (.inl eg5)⟩, fun Dh nDh => lc_list (K := K) (a := ga) (xs := refs es) (fun i H' => Same H5 H' ∧ H' Dh = some (.lst (((g.take i).map (·.1)).map V.int))) ⟨same_new nDh, upd_same⟩ (fun i H' _ ⟨s', _⟩ => .inl (.inl (s' _ _ eg5))) ?_ ?_⟩
      · rintro i v Hc hi ⟨Sc, ec⟩
        obtain ⟨z, hz, rfl⟩ := refs_at hi
        obtain ⟨x, hx, ezx⟩ := pair_at kg hz
        have hil := (List.getElem?_eq_some_iff.mp hx).1
        have tz := sqT_up Sc (tg5 z (List.mem_of_getElem? hz))
        rw [ezx] at tz
        refine ⟨z.1, _, rfl, tz, rfl, _, _, rfl, _, _, rfl, rfl, rfl, ?_⟩
        refine ⟨_, rfl, _, ec, sizeN (by rw [List.length_map, List.length_map, List.length_take]; omega), same_put nDh Sc, ?_⟩
        rw [upd_same, List.take_add_one, hx, List.map_append, List.map_append]
        rfl

      rintro H6 ⟨s6, e6⟩
      rw [refs_len, ← hgl2, List.take_length] at e6
      have S6 := S5.trans s6
      refine ⟨_, rfl, p, d1, Dh, n, k1, ks, _, one, g.map (·.1), z1, rfl, skyS_up S6 K4, hsky, hone, shD_up S6 hd1a, .inl (.inl e6), k10, fun H7 lo fs s7 e7 t7 k7 => ?_⟩
      have e57 := s7 _ _ (s6 _ _ e5)
      have t57 := tups_up (s6.trans s7) t5
      have lf : fs.length ≤ 20 := by
        rw [← keys_len fs, k7, List.length_map]
        exact ownl (C := g)
      refine ⟨D, lo, _, _, rfl, rfl, e57, e7, by rw [refs_len, refs_len, sizeLine_eq]; omega, ?_⟩
      refine ⟨cs ++ fs, rfl, same_put nD (S6.trans s7), by rw [upd_same]; unfold refs; rw [List.map_append], tups_app (tups_put e57 t57) (tups_put e57 t7), ?_, by rw [List.length_append]; omega⟩
      unfold keys
      rw [List.map_append]
      show keys cs ++ keys fs = _
      rw [k5, k7]
      rfl
    rintro σ8 H8 ⟨cs, rfl, S8, e8, t8, k8, l8⟩
    refine ⟨fun σ H' => ∃ cs : Tups, σ = [some (.ref p), some (.ref q), some (.ref r), some (.int k1), some (.int k2), some (.ref d1), some (.ref d2), some (.ref ga), some (.ref D), none, none, none] ∧ Same H4 H' ∧ H' D = some (.lst (refs cs)) ∧ TupsAt K H' cs ∧ keys cs = confL n [r_, b, g_, l] (keys ks) one other g k1.toNat k2.toNat ∧ cs.length ≤ 60, ?_, ?_⟩
    · have eg8 := S8 _ _ eg4
      have tg8 := tups_up S8 tg4
      refine ⟨.ref D, rfl, .inl ⟨rfl, _, .inl (.inl e8)⟩, .ref p, rfl, .ref d2, rfl, .ref ga, rfl, ga, rfl, ⟨_, .inl (.inl eg8)⟩, fun Dh nDh => lc_list (K := K) (a := ga) (xs := refs es) (fun i H' => Same H8 H' ∧ H' Dh = some (.lst (((g.take i).map (·.2)).map V.int))) ⟨same_new nDh, upd_same⟩ (fun i H' _ ⟨s', _⟩ => .inl (.inl (s' _ _ eg8))) ?_ ?_⟩
      · rintro i v Hc hi ⟨Sc, ec⟩
        obtain ⟨z, hz, rfl⟩ := refs_at hi
        obtain ⟨x, hx, ezx⟩ := pair_at kg hz
        have hil := (List.getElem?_eq_some_iff.mp hx).1
        have tz := sqT_up Sc (tg8 z (List.mem_of_getElem? hz))
        rw [ezx] at tz
        refine ⟨z.1, _, rfl, tz, rfl, _, _, rfl, _, _, rfl, rfl, rfl, ?_⟩
        refine ⟨_, rfl, _, ec, sizeN (by rw [List.length_map, List.length_map, List.length_take]; omega), same_put nDh Sc, ?_⟩
        rw [upd_same, List.take_add_one, hx, List.map_append, List.map_append]
        rfl

      rintro H9 ⟨s9, e9⟩
      rw [refs_len, ← hgl2, List.take_length] at e9
      have S9 := S8.trans s9
      refine ⟨_, rfl, p, d2, Dh, n, k2, ks, _, other, g.map (·.2), z2, rfl, skyS_up S9 K4, hsky, hoth, shD_up S9 hd2a, .inl (.inl e9), k20, fun H7 lo fs s7 e7 t7 k7 => ?_⟩
      have e57 := s7 _ _ (s9 _ _ e8)
      have t57 := tups_up (s9.trans s7) t8
      have hsw : g.map (·.2) = (swp g).map (·.1) := (swp_keys g).symm
      rw [hsw] at k7
      have lf : fs.length ≤ 20 := by
        rw [← keys_len fs, k7, List.length_map]
        exact ownl (C := swp g)
      refine ⟨D, lo, _, _, rfl, rfl, e57, e7, by rw [refs_len, refs_len, sizeLine_eq]; omega, ?_⟩
      refine ⟨cs ++ fs, rfl, same_put nD (S9.trans s7), by rw [upd_same]; unfold refs; rw [List.map_append], tups_app (tups_put e57 t57) (tups_put e57 t7), ?_, by rw [List.length_append]; omega⟩
      unfold keys
      rw [List.map_append]
      show keys cs ++ keys fs = _
      rw [k8, k7]
      rfl
    rintro σ10 H10 ⟨cs, rfl, S10, e10, t10, k11, l10⟩
    refine ⟨.ref D, rfl, D, cs, rfl, .inl (.inl (.inl e10)), t10, fun z hz e => ?_, fun sl ss H15 s15 n15 e15 hp15 ha15 => ?_⟩
    · have h1 : z.2 ∈ keys cs := List.mem_map_of_mem (f := fun z : Addr × List Int => z.2) hz
      rw [k11, e] at h1
      obtain ⟨x, y, c, e', _⟩ := hCf.spots _ h1
      cases e'
    refine ⟨sl, _, rfl, .inl ⟨.inl (.inl e15), fun lt nlt => ?_⟩⟩
    have t15 : TupsAt K H15 ss := fun z hz => sqT_up s15 (t10 z (hp15.mem_iff.mp hz))
    exact k _ g lt ss (S4.trans (S10.trans (s15.trans (same_new nlt)))) hC (.inl (.inl upd_same)) (tups_up (same_new nlt) t15) (by rw [← k11]; exact hp15.map _) ha15

theorem ok_confusing_sighting (T : Txt P K mg a) : FnOk P w K mg base (L2.CX P w) 9 a.f_confusing_sighting a.fd_confusing_sighting ["sky", "one", "other", "missing", "false"] (spConfSight K a.c_Sky a.c_InvalidAttitude) := by
  refine T.F_confusing_sighting.okX sc_confusing_sighting (fun vs H Q E h => ?_) (fun cdv A outer s H vs Q E hr h => ?_)
  · obtain ⟨p, q, r, n, mi, fa, ks, cam, one, other, rfl, _⟩ := h
    rfl
  · obtain ⟨p, q, r, n, mi, fa, ks, cam, one, other, rfl, hK, hsky, hq, hr', m0, k1, k2⟩ := h
    refine ⟨_, (pss_cons (ps_if (pt_not (pt_val (pe_call (ok_are_confusable T) (hr.mono (by decide)) (by rfl) T.m_are_confusable T.F_are_confusable.kp T.b_are_confusable .nil (passes_call (takes_of rfl rfl rfl rfl) (fun _ _ _ _ h => h)) (pa_cons (pv 0) (pa_cons (pv 1) (pa_cons (pv 2) (pa_cons (pv 3) (pa_cons (pv 4) pa_nil)))))))) (pss_one (ps_ret pe_non)) pss_nil)
      (pss_one (ps_ret (pe_call (ok_common_sighting T) (hr.mono (by decide)) (by rfl) T.m_common_sighting T.F_common_sighting.kp T.b_common_sighting .nil (passes_call (takes_of rfl rfl rfl rfl) (fun _ _ _ _ h => h)) (pa_cons (pv 0) (pa_cons (pv 1) (pa_cons (pv 2) (pa_cons (pv 3) (pa_cons (pv 3) pa_nil))))))))), ?_⟩
    refine ⟨.ref p, rfl, .ref q, rfl, .ref r, rfl, .int mi, rfl, .int fa, rfl, p, q, r, n, mi, fa, ks, cam, one, other, rfl, hK, hsky, hq, hr', fun e1 e2 H1 s1 => ?_, k2⟩
    obtain ⟨kn, ks'⟩ := k1 e1 e2
    by_cases hu : unlW n cam (keys ks) one other ≤ mi + fa
    · rw [decide_eq_true hu]
      refine ⟨true, rfl, iteF ?_⟩
      exact ⟨.ref p, rfl, .ref q, rfl, .ref r, rfl, .int mi, rfl, .int mi, rfl, p, q, r, n, mi, mi, ks, cam, one, other, rfl, skyS_up s1 hK, hsky, sqT_up s1 hq, e1, sqT_up s1 hr', e2, m0, m0, fun H2 g t es s2 hC tt ht hp ha => ks' hu H2 g t es (s1.trans s2) hC tt ht hp ha⟩
    · rw [decide_eq_false hu]
      exact ⟨false, rfl, iteT (kn (by omega) H1 s1)⟩

theorem ok_parting_paper (T : Txt P K mg a) : FnOk P w K mg base (L2.CX P w) 7 a.f_parting_paper a.fd_parting_paper ["sky", "one", "other", "missing", "false"] (spPaper K a.c_Sky a.c_InvalidAttitude) := by
  refine T.F_parting_paper.okX sc_parting_paper (fun vs H Q E h => ?_) (fun cdv A outer s H vs Q E hr h => ?_)
  · obtain ⟨p, q, r, n, m, f, ks, cam, one, other, rfl, _⟩ := h
    rfl
  · obtain ⟨p, q, r, n, m, f, ks, cam, one, other, rfl, hK, hsky, hq', hr', k1, k2⟩ := h
    have hu1 : (A.deeper (envOfC "parting_paper" (defScope s_parting_paper) s.heap.objs.size a.f_parting_paper cdv)).units + 1 < cLine := by
      have := hr.un
      omega
    refine ⟨_, (pss_cons (ps_asg (pe_call (ok_shown_at T) (hr.mono (by decide)) (by rfl) T.m_shown_at T.F_shown_at.kp T.b_shown_at .nil (passes_call (takes_of rfl rfl rfl rfl) (fun _ _ _ _ h => h)) (pa_cons (pv 0) (pa_cons (pv 1) (pa_cons (pv 2) pa_nil)))) (pg_tup rfl (pgs_cons (pg_name (i := 5) sc_parting_paper.nd rfl (.inl rfl)) (pgs_cons (pg_name (i := 6) sc_parting_paper.nd rfl (.inl rfl)) pgs_nil))))
      (pss_cons (ps_set (i := 7) sc_parting_paper.nd rfl (.inl rfl) (pe_call (ok_both_lacks T) (hr.mono (by decide)) (by rfl) T.m_both_lacks T.F_both_lacks.kp T.b_both_lacks .nil pass0 (pa_cons (pv 0) (pa_cons (pv 5) (pa_cons (pv 6) pa_nil)))))
      (pss_cons (ps_if (pt_cmpR op_le (pe_callB (cr_maxTup rfl hu1) (by rfl) T.z_max (by decide +kernel) (pa_cons (pv 7) pa_nil)) (pe_op op_add (pv 3) (pv 4)) (nomark _)) (pss_one (ps_ret pe_non)) pss_nil)
      (pss_cons (ps_if (pt_cmpR op_ge (pe_ix ix_seq (pv 7) pe_int (fun _ _ => rfl)) (pe_ix ix_seq (pv 7) pe_int (fun _ _ => rfl)) (nomark _)) (pss_one (ps_ret (pe_tupM (pa_cons pe_str (pa_cons (pe_call (ok_lacking_lot T) (hr.mono (by decide)) (by rfl) T.m_lacking_lot T.F_lacking_lot.kp T.b_lacking_lot .nil (passes_call (takes_of rfl rfl rfl rfl) (fun _ _ _ _ h => h)) (pa_cons (pv 0) (pa_cons (pv 1) (pa_cons (pv 2) pa_nil)))) pa_nil))))) pss_nil)
      (pss_one (ps_ret (pe_tupM (pa_cons pe_str (pa_cons (pe_call (ok_lacking_lot T) (hr.mono (by decide)) (by rfl) T.m_lacking_lot T.F_lacking_lot.kp T.b_lacking_lot .nil (passes_call (takes_of rfl rfl rfl rfl) (fun _ _ _ _ h => h)) (pa_cons (pv 0) (pa_cons (pv 2) (pa_cons (pv 1) pa_nil)))) pa_nil))))))))), ?_⟩
    refine ⟨.ref p, rfl, .ref q, rfl, .ref r, rfl, p, q, r, n, ks, cam, one, other, rfl, hK, hsky, hq', hr', fun e1 e2 H1 t d1 d2 z1 z2 s1 tt hne hd1 hd2 => ?_, k2⟩
    refine ⟨t, _, rfl, tt, rfl, _, _, rfl, _, _, rfl, rfl, ?_⟩
    have hK1 := skyS_up s1 hK
    refine ⟨.ref p, rfl, .ref d1, rfl, .ref d2, rfl, p, d1, d2, n, ks, cam, one, other, z1, z2, rfl, hne, hK1, hsky, hd1, hd2, fun H2 t2 x y s2 t2t hx hy => ?_⟩
    have S2 := s1.trans s2
    obtain ⟨ka, kb, kc⟩ := k1 e1 e2 x y hx hy
    refine ⟨.ref t2, rfl, t2, x, [y], rfl, t2t, _, rfl, _, rfl, _, _, rfl, rfl, _, _, rfl, rfl, _, rfl, ite2 (fun g => ?_) (fun g => ?_)⟩
    · exact ka (of_decide_eq_true g) H2 S2
    have hno : ¬ max x y ≤ m + f := fun z => g (decide_eq_true z)
    refine ⟨.ref t2, rfl, .inr (.inl ⟨t2, _, 0, .int x, rfl, rfl, t2t, rfl, .ref t2, rfl, .inr (.inl ⟨t2, _, 1, .int y, rfl, rfl, t2t, rfl, _, _, rfl, rfl, _, rfl, ite2 (fun g2 => ?_) (fun g2 => ?_)⟩)⟩)⟩
    · have hyx : y ≤ x := of_decide_eq_true g2
      refine ⟨.ref p, rfl, .ref q, rfl, .ref r, rfl, p, q, r, n, ks, cam, one, other, rfl, skyS_up S2 hK, hsky, sqT_up S2 hq', sqT_up S2 hr', fun _ _ H3 fl g' F s3 ef hF hL => ?_, no_err e1 e2⟩
      exact ⟨(by show 2 ≤ sizeLine; decide), fun t4 H4 s4 t4t => kb hno hyx H4 t4 fl g' F ((S2.trans s3).trans s4) t4t (s4 _ _ ef) hF hL⟩
    · have hxy : x < y := by
        have : ¬ y ≤ x := fun z => g2 (decide_eq_true z)
        omega
      refine ⟨.ref p, rfl, .ref r, rfl, .ref q, rfl, p, r, q, n, ks, cam, other, one, rfl, skyS_up S2 hK, hsky, sqT_up S2 hr', sqT_up S2 hq', fun _ _ H3 fl g' F s3 ef hF hL => ?_, no_err e2 e1⟩
      exact ⟨(by show 2 ≤ sizeLine; decide), fun t4 H4 s4 t4t => kc hno hxy H4 t4 fl g' F ((S2.trans s3).trans s4) t4t (s4 _ _ ef) hF hL⟩

theorem ok_check_parting (T : Txt P K mg a) : FnOk P w K mg base (L2.CX P w) 6 a.f_check_parting a.fd_check_parting ["sky", "one", "other", "missing", "false", "paper"] (spCheckP K a.c_Sky a.c_InvalidAttitude) := by
  refine T.F_check_parting.okX sc_check_parting (fun vs H Q E h => ?_) (fun cdv A outer s H vs Q E hr h => ?_)
  · obtain ⟨p, q, r, pp, tl, n, m, f, ks, cam, one, other, L, w, rfl, _⟩ := h
    rfl
  · obtain ⟨p, q, r, pp, tl, n, m, f, ks, cam, one, other, L, w, rfl, hK, hsky, hq', hr', hpp, htl, hL, k1, k2⟩ := h
    refine ⟨_, (pss_cons (ps_asg (pe_call (ok_shown_at T) (hr.mono (by decide)) (by rfl) T.m_shown_at T.F_shown_at.kp T.b_shown_at .nil (passes_call (takes_of rfl rfl rfl rfl) (fun _ _ _ _ h => h)) (pa_cons (pv 0) (pa_cons (pv 1) (pa_cons (pv 2) pa_nil)))) (pg_tup rfl (pgs_cons (pg_name (i := 6) sc_check_parting.nd rfl (.inl rfl)) (pgs_cons (pg_name (i := 7) sc_check_parting.nd rfl (.inl rfl)) pgs_nil))))
      (pss_cons (ps_asg (pv 5) (pg_tup rfl (pgs_cons (pg_name (i := 8) sc_check_parting.nd rfl (.inl rfl)) (pgs_cons (pg_name (i := 9) sc_check_parting.nd rfl (.inl rfl)) pgs_nil))))
      (pss_cons (ps_if (pt_cmpR op_eq (pv 8) pe_str (nomark _)) (pss_one (ps_ret (pe_call (ok_lacks_more T) (hr.mono (by decide)) (by rfl) T.m_lacks_more T.F_lacks_more.kp T.b_lacks_more .nil pass0 (pa_cons (pe_call (ok_link_table T) (hr.mono (by decide)) (by rfl) T.m_link_table T.F_link_table.kp T.b_link_table .nil pass0 (pa_cons (pv 0) (pa_cons (pv 6) (pa_cons (pv 7) pa_nil)))) (pa_cons (pe_call (ok_sure_among T) (hr.mono (by decide)) (by rfl) T.m_sure_among T.F_sure_among.kp T.b_sure_among .nil pass0 (pa_cons (pv 0) (pa_cons (pv 6) pa_nil))) (pa_cons (pv 9) (pa_cons (pe_op op_add (pv 3) (pv 4)) pa_nil))))))) pss_nil)
      (pss_cons (ps_if (pt_cmpR op_eq (pv 8) pe_str (nomark _)) (pss_one (ps_ret (pe_call (ok_lacks_more T) (hr.mono (by decide)) (by rfl) T.m_lacks_more T.F_lacks_more.kp T.b_lacks_more .nil pass0 (pa_cons (pe_call (ok_link_table T) (hr.mono (by decide)) (by rfl) T.m_link_table T.F_link_table.kp T.b_link_table .nil pass0 (pa_cons (pv 0) (pa_cons (pv 7) (pa_cons (pv 6) pa_nil)))) (pa_cons (pe_call (ok_sure_among T) (hr.mono (by decide)) (by rfl) T.m_sure_among T.F_sure_among.kp T.b_sure_among .nil pass0 (pa_cons (pv 0) (pa_cons (pv 7) pa_nil))) (pa_cons (pv 9) (pa_cons (pe_op op_add (pv 3) (pv 4)) pa_nil))))))) pss_nil)
      (pss_one (ps_ret pe_bl)))))), ?_⟩
    refine ⟨.ref p, rfl, .ref q, rfl, .ref r, rfl, p, q, r, n, ks, cam, one, other, rfl, hK, hsky, hq', hr', fun e1 e2 H1 t d1 d2 z1 z2 s1 tt hne hd1 hd2 => ?_, k2⟩
    refine ⟨t, _, rfl, tt, rfl, _, _, rfl, _, _, rfl, rfl, ?_⟩
    refine ⟨.ref pp, rfl, pp, _, rfl, sqT_up s1 hpp, rfl, _, _, rfl, _, _, rfl, rfl, ?_⟩
    obtain ⟨⟨h4, h9⟩, hstars, hnd, h20, hcam⟩ := sky_parts hsky
    obtain ⟨rr, b, g, l, rfl, c1, c2, c3, c4, c5, c6, c7, c8, c9, c10⟩ := cam_form hcam
    have hK1 := skyS_up s1 hK
    have K1 := k1 e1 e2
    have side : ∀ (o1 o2 : List Int) (da db : Addr) (za zb : Shown) (wd : Str), da ≠ db → ShD K H1 da n [rr, b, g, l] o1 (keys ks) za → ShD K H1 db n [rr, b, g, l] o2 (keys ks) zb → za.length ≤ 20 ∧ (∀ z ∈ za, z.2.2.length = 3) ∧ sureI rr b g l (shownD za) = sureN n [rr, b, g, l] o1 (keys ks) := fun o1 o2 da db za zb wd _ ha _ =>
      ⟨by rw [← shownD_len, ha.val]; exact Nat.le_trans (seenI_len _ _ _ _ _) h20, shown3 ha.val, by rw [ha.val]; rfl⟩
    have few := fun o1 o2 => tblN_few n [rr, b, g, l] (keys ks) o1 o2 (by omega)
    have inr : ∀ (o1 o2 : List Int) (tb : Tups), keys tb = tblN n [rr, b, g, l] (keys ks) o1 o2 → ∀ x ∈ sureN n [rr, b, g, l] o1 (keys ks), 0 ≤ x ∧ x < (tb.length : Int) := fun o1 o2 tb hk x hx => by
      have : tb.length = (keys ks).length := by rw [← keys_len tb, hk]; unfold tblN; rw [List.length_map, List.length_range]
      rw [this]
      exact sureN_in hx
    refine ⟨_, rfl, rfl, _, rfl, ite2 (fun g1 => ?_) (fun g1 => ?_)⟩
    · have hw : w = "one" := V.str.inj (of_decide_eq_true g1)
      obtain ⟨a1, a2, a3⟩ := side one other d1 d2 z1 z2 w hne hd1 hd2
      refine ⟨.ref p, rfl, .ref d1, rfl, .ref d2, rfl, p, d1, d2, n, ks, _, one, other, z1, z2, rfl, hne, hK1, hsky, hd1, hd2, fun H2 t2 tb s2 hT hk => ?_⟩
      refine ⟨.ref p, rfl, .ref d1, rfl, p, d1, n, _, rr, b, g, l, z1, rfl, (skyS_up s2 hK1).1, s2 _ _ hd1.ed, (shD_up s2 hd1).sh, a2, by omega, fun H3 w1 s3 n3 e3 => ?_⟩
      rw [a3] at e3
      refine ⟨_, rfl, _, rfl, _, rfl, _, _, rfl, rfl, t2, w1, tl, tb, _, L, m + f, rfl, tabAt_up s3 hT, by rw [hk]; exact few _ _, .inl (.inl e3), inr _ _ tb hk, ((s1.trans s2).trans s3).seq htl, hL, fun H4 bb s4 hb => ?_⟩
      rw [hk] at hb
      refine K1 H4 bb (((s1.trans s2).trans s3).trans s4) (hb.trans ⟨fun h => .inl ⟨hw, h⟩, fun h => ?_⟩)
      rcases h with h | h
      · exact h.2
      · rw [hw] at h
        exact absurd h.1 (by decide)
    · have hw1 : ¬ w = "one" := fun e => g1 (decide_eq_true (congrArg V.str e))
      refine ⟨_, rfl, rfl, _, rfl, ite2 (fun g2 => ?_) (fun g2 => ?_)⟩
      · have hw : w = "other" := V.str.inj (of_decide_eq_true g2)
        obtain ⟨a1, a2, a3⟩ := side other one d2 d1 z2 z1 w (Ne.symm hne) hd2 hd1
        refine ⟨.ref p, rfl, .ref d2, rfl, .ref d1, rfl, p, d2, d1, n, ks, _, other, one, z2, z1, rfl, Ne.symm hne, hK1, hsky, hd2, hd1, fun H2 t2 tb s2 hT hk => ?_⟩
        refine ⟨.ref p, rfl, .ref d2, rfl, p, d2, n, _, rr, b, g, l, z2, rfl, (skyS_up s2 hK1).1, s2 _ _ hd2.ed, (shD_up s2 hd2).sh, a2, by omega, fun H3 w1 s3 n3 e3 => ?_⟩
        rw [a3] at e3
        refine ⟨_, rfl, _, rfl, _, rfl, _, _, rfl, rfl, t2, w1, tl, tb, _, L, m + f, rfl, tabAt_up s3 hT, by rw [hk]; exact few _ _, .inl (.inl e3), inr _ _ tb hk, ((s1.trans s2).trans s3).seq htl, hL, fun H4 bb s4 hb => ?_⟩
        rw [hk] at hb
        refine K1 H4 bb (((s1.trans s2).trans s3).trans s4) (hb.trans ⟨fun h => .inr ⟨hw, h⟩, fun h => ?_⟩)
        rcases h with h | h
        · exact absurd h.1 hw1
        · exact h.2
      · have hw2 : ¬ w = "other" := fun e => g2 (decide_eq_true (congrArg V.str e))
        exact K1 H1 false s1 ⟨(fun h => by cases h), fun h => h.elim (fun h => absurd h.1 hw1) (fun h => absurd h.1 hw2)⟩

theorem ok_confusable_with (T : Txt P K mg a) : FnOk P w K mg base (L2.CX P w) 7 a.f_confusable_with a.fd_confusable_with ["sky", "one", "missing", "false"] (spConfWith K a.c_Sky a.c_InvalidAttitude) := by
  refine T.F_confusable_with.okX sc_confusable_with (fun vs H Q E h => ?_) (fun cdv A outer s H vs Q E hr h => ?_)
  · obtain ⟨p, q, n, mi, fa, ks, cam, one, rfl, _⟩ := h
    rfl
  · obtain ⟨p, q, n, mi, fa, ks, cam, one, rfl, hK, hsky, hq, k1, k2⟩ := h
    have hu1 : (A.deeper (envOfC "confusable_with" (defScope s_confusable_with) s.heap.objs.size a.f_confusable_with cdv)).units + 1 < cLine := by
      have := hr.un
      omega
    refine ⟨_, (pss_cons (ps_expr (pe_call (ok_check_attitude T) (hr.mono (by decide)) (by rfl) T.m_check_attitude T.F_check_attitude.kp T.b_check_attitude .nil (passes_call (takes_of rfl rfl rfl rfl) (fun _ _ _ _ h => h)) (pa_cons (pv 0) (pa_cons (pv 1) pa_nil))))
      (pss_cons (ps_set (i := 4) sc_confusable_with.nd rfl (.inr rfl) (pe_call (ok_appearances T) (hr.mono (by decide)) (by rfl) T.m_appearances T.F_appearances.kp T.b_appearances .nil pass0 (pa_cons (pv 0) (pa_cons (pv 1) pa_nil))))
      (pss_one (ps_ret (pe_lc (g := gName 5) (own := [("other", 5)]) rfl sc_confusable_with.nd (pi_list (pe_call (ok_attitudes T) (hr.mono (by decide)) (by rfl) T.m_attitudes T.F_attitudes.kp T.b_attitudes .nil pass0 (pa_cons (pv 0) pa_nil))) (blkOk_by (own := [("other", 5)]) (N := ["sky", "one", "missing", "false", "shown", "other"]) (sc := defScope s_confusable_with) (by decide +kernel)) (fun _ _ _ _ _ => (pg_name (i := 5) sc_confusable_with.nd rfl (.inl rfl))) (fun _ _ _ _ _ => (pts_one (pt_cmpR op_le (pe_callB ((cr_maxTupK (K := K) rfl hu1)) (by rfl) T.z_max (by decide +kernel) (pa_cons (pe_call (ok_both_lacks T) (hr.mono (by decide)) (by rfl) T.m_both_lacks T.F_both_lacks.kp T.b_both_lacks .nil pass0 (pa_cons (pv 0) (pa_cons (pv 4) (pa_cons (pe_call (ok_appearances T) (hr.mono (by decide)) (by rfl) T.m_appearances T.F_appearances.kp T.b_appearances .nil pass0 (pa_cons (pv 0) (pa_cons (pv 5) pa_nil))) pa_nil)))) pa_nil)) (pe_op op_add (pv 2) (pv 3)) (nomark _)))) (fun _ _ _ _ _ => (pv 5))))))), ?_⟩
    obtain ⟨⟨h4, h9⟩, hstars, hnd, h20, hcam⟩ := sky_parts hsky
    refine ⟨.ref p, rfl, .ref q, rfl, p, q, n, _, cam, one, rfl, hK.1, hq, fun hone => ?_, fun e d H1 s1 h1 => k2 e d H1 s1 h1⟩
    refine ⟨.ref p, rfl, .ref q, rfl, p, q, n, ks, cam, one, rfl, hK, hsky, hq, hone, fun H1 d1 z1 s1 nd1 h1 => ?_⟩
    have K1 := skyS_up s1 hK
    refine ⟨.ref p, rfl, p, n, _, cam, rfl, K1.1, by omega, h9, fun H2 al as s2 n2 e2 t2 k2' => ?_⟩
    have S2 := s1.trans s2
    have K2 := skyS_up s2 K1
    have h1a := shD_up s2 h1
    have hal : as.length ≤ 400 := by
      rw [← keys_len as, k2', attsI_len]
      have h : 4 * n.toNat * n.toNat ≤ 4 * 9 * 9 := Nat.mul_le_mul (by omega) (by omega)
      omega
    refine ⟨al, rfl, ⟨_, .inl (.inl e2)⟩, fun D nD => lc_list (K := K) (a := al) (xs := refs as) (fun i Hc => ∃ cs : Tups, Same H2 Hc ∧ Hc D = some (.lst (refs cs)) ∧ TupsAt K Hc cs ∧ keys cs = ((keys as).take i).filter (fun o => decide (unlW n cam (keys ks) one o ≤ mi + fa)) ∧ cs.length ≤ i) ⟨[], same_new nD, upd_same, (fun p hp => by cases hp), rfl, Nat.le_refl _⟩ (fun i Hc _ ⟨_, s', _⟩ => .inl (.inl (s' _ _ e2))) ?_ ?_⟩
    · rintro i v Hc hi ⟨cs, Sc, ec, tc, kc, lc⟩
      obtain ⟨z, hz, rfl⟩ := refs_at hi
      have hil := (List.getElem?_eq_some_iff.mp hz).1
      have hkz : (keys as)[i]? = some z.2 := by unfold keys; rw [List.getElem?_map, hz]; rfl
      have hzp : isPose n z.2 = true := (atts_pose (by omega)).mp (by rw [← k2']; exact List.mem_of_getElem? hkz)
      have tz := sqT_up Sc (t2 z (List.mem_of_getElem? hz))
      have Kc := skyS_up Sc K2
      refine ⟨rfl, ?_⟩
      refine ⟨.ref p, rfl, .ref d1, rfl, .ref p, rfl, .ref z.1, rfl, p, z.1, n, ks, cam, z.2, rfl, Kc, hsky, tz, hzp, fun H3 d2 z2 s3 nd2 h2 => ?_⟩
      have h1c := shD_up (Sc.trans s3) h1a
      refine ⟨p, d1, d2, n, ks, cam, one, z.2, z1, z2, rfl, (fun e => by rw [← e, (shD_up Sc h1a).ed] at nd2; cases nd2), skyS_up s3 Kc, hsky, h1c, h2, fun H4 t x y s4 tt hx hy => ?_⟩
      have S4 := (Sc.trans s3).trans s4
      have e4 := s4 _ _ (s3 _ _ ec)
      refine ⟨t, x, [y], rfl, tt, .int mi, rfl, .int fa, rfl, _, _, rfl, rfl, _, _, rfl, rfl, _, rfl, ?_⟩
      have eu := unlW_eq hx hy
      rw [List.take_add_one, hkz, List.filter_append]
      show if decide (max x y ≤ mi + fa) = true then _ else _
      rw [← eu]
      refine ite2 (fun gg => ?_) (fun gg => ?_)
      · refine ⟨_, rfl, _, e4, sizeN (by rw [refs_len]; omega), cs ++ [(z.1, z.2)], same_put nD S4, by rw [upd_same, ← refs_push], tups_app (tups_put e4 (tups_up (s3.trans s4) tc)) (tups_one (sqT_lst e4 (sqT_up (s3.trans s4) tz))), ?_, by rw [List.length_append]; show cs.length + 1 ≤ i + 1; omega⟩
        rw [keys_push, kc]
        show _ = _ ++ [z.2].filter _
        rw [List.filter_cons_of_pos (by exact gg), List.filter_nil]
      · refine ⟨cs, S4, e4, tups_up (s3.trans s4) tc, ?_, by omega⟩
        show _ = _ ++ [z.2].filter _
        rw [kc, List.filter_cons_of_neg (by exact gg), List.filter_nil, List.append_nil]
    · rintro H3 ⟨cs, S3, e3, t3, k3, l3⟩
      rw [refs_len, ← keys_len as, List.take_length, k2'] at k3
      exact k1 hone H3 D cs (S2.trans S3) e3 t3 k3

theorem ok__law_row (T : Txt P K mg a) : FnOk P w K mg base CX0 1 a.f__law_row a.fd__law_row ["cell", "many"] (spRow K) := by
  refine T.F__law_row.ok sc__law_row (fun vs H Q E h => ?_) (fun cdv A outer s H vs Q E hr h => ?_)
  · obtain ⟨c, m, rfl, _⟩ := h
    rfl
  · obtain ⟨c, many, rfl, h0, h1, q⟩ := h
    refine ⟨_, (pss_cons (ps_set (i := 2) sc__law_row.nd rfl (.inl rfl) (pe_lst pa_nil))
      (pss_cons (ps_set (i := 3) sc__law_row.nd rfl (.inl rfl) pe_int)
      (C8.pss_cut (ps_if (pt_cmpR op_ge (pe_callB call_abs (by rfl) T.z_abs (by decide +kernel) (pa_cons (pv 0) pa_nil)) (pe_op op_pow pe_int pe_int) (nomark _)) (pss_one (ps_set (i := 3) sc__law_row.nd rfl (.inl rfl) (pe_callB call_abs (by rfl) T.z_abs (by decide +kernel) (pa_cons (pv 0) pa_nil)))) pss_nil)
      (pss_cons (ps_set (i := 4) sc__law_row.nd rfl (.inl rfl) (pe_op op_mod (pe_callTy call_int1 (by rfl) T.z_int (by decide +kernel) (pa_cons (pe_callB call_abs (by rfl) T.z_abs (by decide +kernel) (pa_cons (pv 0) pa_nil)) pa_nil)) pe_int))
      (pss_cons (ps_for PassesOwn.never rfl (pi_range1 (by rfl) T.z_range (pa_cons (pv 1) pa_nil)) (pg_name (i := 5) sc__law_row.nd rfl (.inl rfl)) (pss_cons (ps_set (i := 4) sc__law_row.nd rfl (.inl rfl) (pe_op op_mod (pe_callTy call_int1 (by rfl) T.z_int (by decide +kernel) (pa_cons (pe_op op_add (pe_op op_mul (pe_op op_add (pv 4) pe_int) pe_int) (pe_op op_mul pe_int (pv 5))) pa_nil)) pe_int))
      (pss_one (ps_if (pt_cmpR op_gt (pv 3) pe_int (nomark _)) (pss_cons (ps_expr (pe_bm PySem.F.plainAttrs_list PySem.F.slot_list_append PySem.F.type_list_append mt_append (pv 2) (pa_cons (pe_op op_mod (pe_callTy call_int1 (by rfl) T.z_int (by decide +kernel) (pa_cons (pv 3) pa_nil)) pe_int) pa_nil)))
      (pss_one (ps_set (i := 3) sc__law_row.nd rfl (.inl rfl) (pe_op op_fdiv (pv 3) pe_int)))) (pss_one (ps_expr (pe_bm PySem.F.plainAttrs_list PySem.F.slot_list_append PySem.F.type_list_append mt_append (pv 2) (pa_cons (pe_op op_mod (pe_callTy call_int1 (by rfl) T.z_int (by decide +kernel) (pa_cons (pe_op op_fdiv (pv 4) pe_int) pa_nil)) pe_int) pa_nil))))))))
      (pss_one (ps_ret (pv 2)))))))), ?_⟩
    refine ⟨Nat.zero_le _, fun o no => ?_⟩
    refine ⟨fun σ' H' => ∃ r : Int, σ' = [some (.int c), some (.int many), some (.ref o), some (.int r), none, none] ∧ 0 ≤ r ∧ H' = upd H o (.lst []), ?_, ?_⟩
    · refine ⟨_, rfl, c, rfl, _, _, rfl, rfl, ⟨by decide, by decide, by decide⟩, _, _, rfl, rfl, _, rfl, ite2 (fun hg => ?_) (fun hg => ⟨0, rfl, by decide, rfl⟩)⟩
      exact ⟨_, rfl, c, rfl, _, rfl, by split <;> omega, rfl⟩
    · rintro σ' H' ⟨r, rfl, hr0, rfl⟩
      refine ⟨_, rfl, c, rfl, .inl ⟨_, rfl, _, _, rfl, rfl, (by show (0 : Int) < 2147483647; decide), ?_⟩⟩
      refine ⟨_, rfl, many, rfl, by omega, by omega, for_range (lo := 0) (n := many.toNat) (fun i σ H2 => ∃ (r s : Int) (k : Option V) (ns : List Int), σ = [some (.int c), some (.int many), some (.ref o), some (.int r), some (.int s), k] ∧ 0 ≤ r ∧ Same H H2 ∧ H2 o = some (.lst (ns.map V.int)) ∧ ns.length = i ∧ ∀ n ∈ ns, Num n)
        ⟨r, _, none, [], rfl, hr0, same_new no, upd_same, rfl, fun n hn => by cases hn⟩ ?_ ?_⟩
      · rintro i σ H2 hi ⟨r, s, k, ns, rfl, hr0, s2, eo, el, hN⟩
        refine ⟨_, rfl, _, _, rfl, rfl, _, _, rfl, rfl, .inr (by constructor <;> decide), _, rfl, _, _, rfl, rfl, .inl (by constructor <;> decide), _, _, rfl, rfl, .inl ⟨_, rfl, _, _, rfl, rfl, (by show (0 : Int) < 2147483647; decide), ?_⟩⟩
        have hlen : (ns.map V.int).length < sizeLine := by
          rw [List.length_map]
          exact sizeN (by omega)
        have fin : ∀ (z r' s' : Int), 0 ≤ r' → Num z → ∃ (r s : Int) (k : Option V) (ns' : List Int), [some (V.int c), some (.int many), some (.ref o), some (.int r'), some (.int s'), some (V.int (0 + (i : Nat)))] = [some (V.int c), some (.int many), some (.ref o), some (.int r), some (.int s), k] ∧ 0 ≤ r ∧ Same H (upd H2 o (.lst (ns.map V.int ++ [V.int z]))) ∧ (upd H2 o (.lst (ns.map V.int ++ [V.int z]))) o = some (.lst (ns'.map V.int)) ∧ ns'.length = i + 1 ∧ ∀ n ∈ ns', Num n := fun z r' s' hr' hz => by
          refine ⟨r', s', _, ns ++ [z], rfl, hr', same_put no s2, ?_, ?_, fun n hn => ?_⟩
          · rw [upd_same, List.map_append]
            rfl
          · rw [List.length_append, el]
            rfl
          · rcases List.mem_append.mp hn with hn | hn
            · exact hN n hn
            · rw [List.mem_singleton.mp hn]
              exact hz
        refine ⟨_, rfl, _, _, rfl, rfl, _, rfl, ite2 (fun hg => ?_) (fun hg => ?_)⟩
        · refine ⟨.ref o, rfl, .inl ⟨rfl, _, .inl (.inl eo)⟩, _, rfl, .inl ⟨_, rfl, _, _, rfl, rfl, (by show (0 : Int) < 1009; decide), o, _, _, rfl, rfl, eo, hlen, ?_⟩⟩
          refine ⟨_, rfl, _, _, rfl, rfl, ⟨by decide, by decide⟩, ?_⟩
          exact fin _ _ _ (Int.ediv_nonneg hr0 (by decide)) ⟨Int.emod_nonneg _ (by decide), Int.emod_lt_of_pos _ (by decide)⟩
        · refine ⟨.ref o, rfl, .inl ⟨rfl, _, .inl (.inl eo)⟩, _, rfl, _, _, rfl, rfl, ⟨by decide, by decide⟩, .inl ⟨_, rfl, _, _, rfl, rfl, (by show (0 : Int) < 1009; decide), o, _, _, rfl, rfl, eo, hlen, ?_⟩⟩
          exact fin _ _ _ hr0 ⟨Int.emod_nonneg _ (by decide), Int.emod_lt_of_pos _ (by decide)⟩
      · rintro σ H2 ⟨r, s, k, ns, rfl, hr0, s2, eo, el, hN⟩
        exact ⟨_, rfl, q H2 o ns s2 no eo (by omega) hN⟩

theorem ok__law_numbers (T : Txt P K mg a) : FnOk P w K mg base CX0 2 a.f__law_numbers a.fd__law_numbers ["script", "many"] (spNums K) := by
  refine T.F__law_numbers.ok sc__law_numbers (fun vs H Q E h => ?_) (fun cdv A outer s H vs Q E hr h => ?_)
  · obtain ⟨p, xs, m, rfl, _⟩ := h
    rfl
  · obtain ⟨b, xs, many, rfl, hS, hx, h0, h1, q⟩ := h
    refine ⟨_, (pss_cons (ps_set (i := 2) sc__law_numbers.nd rfl (.inl rfl) (pe_slice sl_list (pv 0) po_none (po_some pe_int)))
      (pss_cons (ps_set (i := 3) sc__law_numbers.nd rfl (.inl rfl) (pe_op op_add pe_int (pe_op op_fdiv (pv 1) (pe_callB (call_max2 rfl) (by rfl) T.z_max (by decide +kernel) (pa_cons pe_int (pa_cons (pe_callB call_len_seq (by rfl) T.z_len (by decide +kernel) (pa_cons (pv 2) pa_nil)) pa_nil))))))
      (pss_cons (ps_set (i := 4) sc__law_numbers.nd rfl (.inl rfl) (pe_lst pa_nil))
      (pss_cons (ps_for PassesOwn.never rfl (pi_list (pv 2)) (pg_name (i := 5) sc__law_numbers.nd rfl (.inl rfl)) (pss_one (ps_for PassesOwn.never rfl (pi_list (pe_call (ok__law_row T) (hr.mono (by decide)) (by rfl) T.m__law_row T.F__law_row.kp T.b__law_row .nil pass0 (pa_cons (pv 5) (pa_cons (pv 3) pa_nil)))) (pg_name (i := 6) sc__law_numbers.nd rfl (.inl rfl)) (pss_one (ps_expr (pe_bm PySem.F.plainAttrs_list PySem.F.slot_list_append PySem.F.type_list_append mt_append (pv 4) (pa_cons (pv 6) pa_nil)))))))
      (pss_cons (ps_while PassesOwn.never (pt_cmpR op_lt (pe_callB call_len_seq (by rfl) T.z_len (by decide +kernel) (pa_cons (pv 4) pa_nil)) (pv 1) (nomark _)) (pss_one (ps_expr (pe_bm PySem.F.plainAttrs_list PySem.F.slot_list_append PySem.F.type_list_append mt_append (pv 4) (pa_cons pe_int pa_nil)))))
      (pss_one (ps_ret (pe_slice sl_list (pv 4) po_none (po_some (pv 1)))))))))), ?_⟩
    refine ⟨.ref b, rfl, 63, rfl, b, xs.map V.int, rfl, hS, fun c nc => ?_⟩
    have ec : cutV (xs.map V.int) none (some 63) = xs.map V.int := by
      rw [show (63 : Int) = ((63 : Nat) : Int) from rfl, cut_to, List.take_of_length_le (by rw [List.length_map]; exact hx)]
    rw [ec]
    have sc1 := same_new (o := .lst (xs.map V.int)) nc
    refine ⟨_, rfl, .ref c, rfl, c, xs.map V.int, rfl, .inl (.inl (.inl upd_same)), _, _, rfl, ?_⟩
    rw [List.length_map]
    generalize hm : (if ((xs.length : Nat) : Int) > 1 then ((xs.length : Nat) : Int) else 1) = mx
    have hm1 : 1 ≤ mx := by rw [← hm]; split <;> omega
    have hm2 : mx ≤ 63 := by rw [← hm]; split <;> omega
    refine ⟨_, _, rfl, rfl, ⟨by omega, by omega⟩, _, _, rfl, rfl, Nat.zero_le _, fun o no => ?_⟩
    have hd0 : 0 ≤ many / mx := Int.ediv_nonneg h0 (by omega)
    have hd1 : many / mx ≤ many := Int.ediv_le_self _ h0
    have noc : o ≠ c := fun e => by rw [e, upd_same] at no; cases no
    have noH : H o = none := by rw [upd_ne noc] at no; exact no
    refine ⟨.ref c, rfl, c, rfl, ⟨xs.map V.int, .inl (.inl (by rw [upd_ne noc.symm]; exact upd_same))⟩, for_list (K := K) (a := c) (xs := xs.map V.int) (fun i σ H2 => ∃ (k5 k6 : Option V) (ns : List Int), σ = [some (.ref b), some (.int many), some (.ref c), some (.int (1 + many / mx)), some (.ref o), k5, k6] ∧ Same H H2 ∧ H2 c = some (.lst (xs.map V.int)) ∧ H2 o = some (.lst (ns.map V.int)) ∧ ns.length = i * (1 + many / mx).toNat ∧ ∀ n ∈ ns, Num n)
      ⟨none, none, [], rfl, sc1.trans (same_new no), by rw [upd_ne noc.symm]; exact upd_same, upd_same, by simp, fun n hn => by cases hn⟩ (fun i σ H2 _ ⟨_, _, _, _, _, e, _⟩ => .inl (.inl e)) ?_ ?_⟩
    · rintro i y σ H2 hi ⟨k5, k6, ns, rfl, s2, ec2, eo, el, hN⟩
      obtain ⟨z, hz, rfl⟩ := map_at hi
      have hil : i < xs.length := (List.getElem?_eq_some_iff.mp hz).1
      refine ⟨_, rfl, _, rfl, z, _, rfl, by omega, by omega, fun H3 p ms s3 np ep em hM => ?_⟩
      have npo : p ≠ o := fun e => by rw [e, eo] at np; cases np
      refine ⟨p, rfl, ⟨_, .inl (.inl ep)⟩, for_list (K := K) (a := p) (xs := ms.map V.int) (fun j σ H4 => ∃ (k6 : Option V) (ns : List Int), σ = [some (.ref b), some (.int many), some (.ref c), some (.int (1 + many / mx)), some (.ref o), some (.int z), k6] ∧ Same H H4 ∧ H4 c = some (.lst (xs.map V.int)) ∧ H4 p = some (.lst (ms.map V.int)) ∧ H4 o = some (.lst (ns.map V.int)) ∧ ns.length = i * (1 + many / mx).toNat + j ∧ ∀ n ∈ ns, Num n)
        ⟨k6, ns, rfl, s2.trans s3, s3 _ _ ec2, ep, s3 _ _ eo, el, hN⟩ (fun i σ H2 _ ⟨_, _, _, _, _, e, _⟩ => .inl (.inl e)) ?_ ?_⟩
      · rintro j y σ H4 hj ⟨k6, ns, rfl, s4, ec4, ep4, eo4, el4, hN4⟩
        obtain ⟨m, hm', rfl⟩ := map_at hj
        have hjl : j < ms.length := (List.getElem?_eq_some_iff.mp hm').1
        have nco : c ≠ o := noc.symm
        have hb1 : i * (1 + many / mx).toNat ≤ 63 * 1901 := Nat.mul_le_mul (by omega) (by omega)
        refine ⟨.ref o, rfl, .inl ⟨rfl, _, .inl (.inl eo4)⟩, _, rfl, o, _, _, rfl, rfl, eo4, ?_, ?_⟩
        · rw [List.length_map]
          exact sizeN (by omega)
        · refine ⟨_, ns ++ [m], rfl, same_put noH s4, by rw [upd_ne nco]; exact ec4, by rw [upd_ne npo]; exact ep4, by rw [upd_same, map_push], ?_, num_push hN4 (hM m (List.mem_of_getElem? hm'))⟩
          rw [List.length_append, el4]
          rfl
      · rintro σ H4 ⟨k6, ns, rfl, s4, ec4, ep4, eo4, el4, hN4⟩
        refine ⟨_, _, ns, rfl, s4, ec4, eo4, ?_, hN4⟩
        rw [el4, List.length_map, Nat.succ_mul]
        omega
    · rintro σ H2 ⟨k5, k6, ns, rfl, s2, ec2, eo, el, hN⟩
      have hb1 : (xs.map V.int).length * (1 + many / mx).toNat ≤ 63 * 1901 := Nat.mul_le_mul (by rw [List.length_map]; omega) (by omega)
      refine while_by (fun σ H3 => ∃ (ns : List Int), σ = [some (.ref b), some (.int many), some (.ref c), some (.int (1 + many / mx)), some (.ref o), k5, k6] ∧ Same H H3 ∧ H3 o = some (.lst (ns.map V.int)) ∧ ns.length ≤ 130000 ∧ ∀ n ∈ ns, Num n)
        (fun σ H3 => match H3 o with | some (.lst l) => many.toNat - l.length | _ => 0) ⟨ns, rfl, s2, eo, by omega, hN⟩ ?_ ?_
      · rintro σ H3 ⟨ns, rfl, s3, eo3, el3, hN3⟩
        refine ⟨.ref o, rfl, o, _, rfl, .inl (.inl (.inl eo3)), _, rfl, _, _, rfl, rfl, _, rfl, ite2 (fun hg => ?_) (fun hg => ?_)⟩
        · have hg' : (((ns.map V.int).length : Nat) : Int) < many := of_decide_eq_true hg
          rw [List.length_map] at hg'
          refine ⟨.ref o, rfl, .inl ⟨rfl, _, .inl (.inl eo3)⟩, o, _, _, rfl, rfl, eo3, ?_, ?_⟩
          · rw [List.length_map]
            exact sizeN (by omega)
          · refine ⟨⟨ns ++ [0], rfl, same_put noH s3, by rw [upd_same, map_push], by rw [List.length_append]; show ns.length + 1 ≤ _; omega, num_push hN3 ⟨by decide, by decide⟩⟩, ?_⟩
            rw [eo3, upd_same]
            show many.toNat - (ns.map V.int ++ [V.int 0]).length < many.toNat - (ns.map V.int).length
            rw [List.length_append, List.length_map]
            show many.toNat - (ns.length + 1) < _
            omega
        · have hg' : ¬ (((ns.map V.int).length : Nat) : Int) < many := fun z => hg (decide_eq_true z)
          rw [List.length_map] at hg'
          refine ⟨.ref o, rfl, _, rfl, many, rfl, o, _, rfl, .inl (.inl eo3), fun p np => ?_⟩
          rw [show many = ((many.toNat : Nat) : Int) by omega, cut_to, ← List.map_take]
          refine q _ p (ns.take many.toNat) (s3.trans (same_new np)) (s3.free np) upd_same ?_ (fun n hn => hN3 n (List.mem_of_mem_take hn))
          rw [List.length_take]
          omega
      · rintro σ H3 Q1 Q2 hQ ⟨v, e1, p, ys, e2, e3, m, e4, i, j, e5, e6, k, e7, e8⟩
        exact ⟨v, e1, p, ys, e2, e3, m, e4, i, j, e5, e6, k, e7, hQ _ _ e8⟩

theorem ok__law_camera (T : Txt P K mg a) : FnOk P w K mg base CX0 1 a.f__law_camera a.fd__law_camera ["numbers", "at", "side"] (spCamL K) := by
  refine T.F__law_camera.ok sc__law_camera (fun vs H Q E h => ?_) (fun cdv A outer s H vs Q E hr h => ?_)
  · obtain ⟨p1, ns, at', n, rfl, _⟩ := h
    rfl
  · obtain ⟨p1, ns, at', n, rfl, hL, ha, hlen, h4, h9, k⟩ := h
    refine ⟨_, (pss_cons (ps_set (i := 3) sc__law_camera.nd rfl (.inl rfl) (pe_lstM pa_nil))
      (pss_cons (ps_for PassesOwn.never rfl (pi_range1 (by rfl) T.z_range (pa_cons pe_int pa_nil)) (pg_name (i := 4) sc__law_camera.nd rfl (.inl rfl)) (pss_one (ps_for PassesOwn.never rfl (pi_range1 (by rfl) T.z_range (pa_cons pe_int pa_nil)) (pg_name (i := 5) sc__law_camera.nd rfl (.inl rfl)) (pss_one (ps_if (PW.pt (pw_and (pt_cmpR op_le (pv 5) (pv 4) (nomark _)) (pw_and1 (pt_cmpR op_le (pe_op op_add (pe_op op_mul pe_int (pe_op op_add (pv 4) (pv 5))) pe_int) (pv 2) (nomark _))))) (pss_one (ps_expr (pe_bm PySem.F.plainAttrs_list PySem.F.slot_list_append PySem.F.type_list_append mt_append (pv 3) (pa_cons (pe_tupM (pa_cons (pv 4) (pa_cons (pv 5) pa_nil))) pa_nil)))) pss_nil)))))
      (pss_cons (ps_set (i := 6) sc__law_camera.nd rfl (.inl rfl) (pe_callB (call_max2 rfl) (by rfl) T.z_max (by decide +kernel) (pa_cons (pe_op op_mod (pe_callTy call_int1 (by rfl) T.z_int (by decide +kernel) (pa_cons (pe_ix ix_seq (pv 0) (pv 1) (fun _ _ => rfl)) pa_nil)) (pe_callB call_len_seq (by rfl) T.z_len (by decide +kernel) (pa_cons (pv 3) pa_nil))) (pa_cons (pe_op op_mod (pe_op op_fdiv (pe_callTy call_int1 (by rfl) T.z_int (by decide +kernel) (pa_cons (pe_ix ix_seq (pv 0) (pv 1) (fun _ _ => rfl)) pa_nil)) pe_int) (pe_callB call_len_seq (by rfl) T.z_len (by decide +kernel) (pa_cons (pv 3) pa_nil))) pa_nil))))
      (pss_cons (ps_asg (pe_ix ix_seq (pv 3) (pv 6) (fun _ _ => rfl)) (pg_tup rfl (pgs_cons (pg_name (i := 4) sc__law_camera.nd rfl (.inl rfl)) (pgs_cons (pg_name (i := 5) sc__law_camera.nd rfl (.inl rfl)) pgs_nil))))
      (pss_one (ps_ret (pe_tupM (pa_cons (pv 4) (pa_cons (pv 5) (pa_cons (pe_ix ix_seq (pe_lstM (pa_cons pe_int (pa_cons pe_int (pa_cons pe_int (pa_cons pe_int pa_nil))))) (pe_op op_mod (pe_callTy call_int1 (by rfl) T.z_int (by decide +kernel) (pa_cons (pe_ix ix_seq (pv 0) (pe_op op_add (pv 1) pe_int) (fun _ _ => rfl)) pa_nil)) pe_int) (fun _ _ => rfl)) (pa_cons (pe_ix ix_seq (pe_lstM (pa_cons pe_int (pa_cons pe_int (pa_cons pe_int (pa_cons pe_int (pa_cons pe_int (pa_cons pe_int pa_nil))))))) (pe_op op_mod (pe_callTy call_int1 (by rfl) T.z_int (by decide +kernel) (pa_cons (pe_ix ix_seq (pv 0) (pe_op op_add (pv 1) pe_int) (fun _ _ => rfl)) pa_nil)) pe_int) (fun _ _ => rfl)) pa_nil))))))))))), ?_⟩
    refine ⟨Nat.zero_le _, fun l H1 s1 nl el => ?_⟩
    -- choices
    refine ⟨5, rfl, by decide, by decide, for_range (lo := 0) (n := 5) (fun i σ H2 => ∃ (z4 z5 : Option V) (ks : Tups), σ = [some (.ref p1), some (.int at'), some (.int n), some (.ref l), z4, z5, none] ∧ Same H H2 ∧ H2 l = some (.lst (refs ks)) ∧ TupsAt K H2 ks ∧ ks.length ≤ 3 * i ∧ (0 < i → 0 < ks.length) ∧ ∀ x ∈ keys ks, isRB n x)
      ⟨_, _, [], rfl, s1, el, (fun p hp => by cases hp), Nat.zero_le _, (fun h => absurd h (Nat.lt_irrefl 0)), fun x hx => by cases hx⟩ ?_ ?_⟩
    · rintro i σ H2 hi ⟨z4, z5, ks, rfl, S2, e2, t2, l2, n2, r2⟩
      refine ⟨3, rfl, by decide, by decide, for_range (lo := 0) (n := 3) (fun j σ H3 => ∃ (z5 : Option V) (ks : Tups), σ = [some (.ref p1), some (.int at'), some (.int n), some (.ref l), some (.int (0 + (i : Nat))), z5, none] ∧ Same H H3 ∧ H3 l = some (.lst (refs ks)) ∧ TupsAt K H3 ks ∧ ks.length ≤ 3 * i + j ∧ (0 < i ∨ 0 < j → 0 < ks.length) ∧ ∀ x ∈ keys ks, isRB n x)
        ⟨_, ks, rfl, S2, e2, t2, by omega, (fun h => n2 (by omega)), r2⟩ ?_ ?_⟩
      · rintro j σ H3 hj ⟨z5, ks, rfl, S3, e3, t3, l3, n3, r3⟩
        repeat (first | refine ⟨_, rfl, ?_⟩ | refine ⟨_, _, rfl, rfl, ?_⟩)
        refine ite2 (fun g1 => ?_) (fun g1 => ?_)
        · repeat (first | refine ⟨_, rfl, ?_⟩ | refine ⟨_, _, rfl, rfl, ?_⟩)
          refine ⟨.inl (by constructor <;> decide), ?_⟩
          repeat (first | refine ⟨_, rfl, ?_⟩ | refine ⟨_, _, rfl, rfl, ?_⟩)
          refine ite2 (fun g2 => ?_) (fun g2 => ?_)
          · have h1 := of_decide_eq_true g1
            have h2 := of_decide_eq_true g2
            refine ⟨.ref l, rfl, .inl ⟨rfl, _, .inl (.inl e3)⟩, _, rfl, _, rfl, (by show 2 ≤ sizeLine; decide), fun q H4 s4 t4 => ?_⟩
            have t4' : SqT K H4 q ([0 + (i : Int), 0 + (j : Int)].map V.int) := t4
            have e4 := s4 _ _ e3
            refine ⟨l, _, _, rfl, rfl, e4, sizeN (by rw [refs_len]; omega), ?_⟩
            refine ⟨_, ks ++ [(q, [0 + (i : Int), 0 + (j : Int)])], rfl, same_put nl (S3.trans s4), by rw [upd_same, ← refs_push], tups_app (tups_put e4 (tups_up s4 t3)) (tups_one (sqT_lst e4 t4')), by rw [List.length_append]; show ks.length + 1 ≤ _; omega, fun _ => by rw [List.length_append]; show 0 < ks.length + 1; omega, fun x hx => ?_⟩
            rw [keys_push] at hx
            rcases List.mem_append.mp hx with hx | hx
            · exact r3 x hx
            · rw [List.mem_singleton.mp hx]
              exact ⟨_, _, rfl, by omega, by omega, by omega, by omega, h1, h2⟩
          · refine ⟨_, ks, rfl, S3, e3, t3, by omega, fun _ => ?_, r3⟩
            by_cases h : 0 < i ∨ 0 < j
            · exact n3 h
            · exfalso
              exact g2 (decide_eq_true (by omega))
        · refine iteF ⟨_, ks, rfl, S3, e3, t3, by omega, fun _ => ?_, r3⟩
          by_cases h : 0 < i ∨ 0 < j
          · exact n3 h
          · exfalso
            exact g1 (decide_eq_true (by omega))
      · rintro σ H3 ⟨z5, ks, rfl, S3, e3, t3, l3, n3, r3⟩
        exact ⟨_, _, ks, rfl, S3, e3, t3, by omega, fun _ => n3 (.inr (by decide)), r3⟩
    rintro σ H2 ⟨z4, z5, ks, rfl, S2, e2, t2, l2, n2, r2⟩
    have npos := n2 (by decide)
    have hL2 := S2.seq hL
    -- place
    repeat (first | refine ⟨_, rfl, ?_⟩ | refine ⟨_, _, rfl, rfl, ?_⟩)
    refine .inl ⟨_, _, _, _, rfl, rfl, hL2, nthI (by omega) (by omega), .inl ⟨_, rfl, ?_⟩⟩
    refine ⟨.ref l, rfl, l, _, rfl, .inl (.inl (.inl e2)), _, _, rfl, rfl, (by rw [refs_len]; omega), ?_⟩
    repeat (first | refine ⟨_, rfl, ?_⟩ | refine ⟨_, _, rfl, rfl, ?_⟩)
    refine .inl ⟨_, _, _, _, rfl, rfl, hL2, nthI (by omega) (by omega), .inl ⟨_, rfl, ?_⟩⟩
    refine ⟨_, _, rfl, rfl, ⟨by decide, by decide⟩, .ref l, rfl, l, _, rfl, .inl (.inl (.inl e2)), _, _, rfl, rfl, (by rw [refs_len]; omega), _, _, rfl, ?_⟩
    rw [refs_len]
    obtain ⟨j, ej, j0, j1⟩ : ∃ j : Int, (if numI ns at' / 7 % ((ks.length : Nat) : Int) > numI ns at' % ((ks.length : Nat) : Int) then numI ns at' / 7 % ((ks.length : Nat) : Int) else numI ns at' % ((ks.length : Nat) : Int)) = j ∧ 0 ≤ j ∧ j < (ks.length : Int) := by
      refine ⟨_, rfl, ?_⟩
      have h1 := Int.emod_nonneg (numI ns at') (show ((ks.length : Nat) : Int) ≠ 0 by omega)
      have h2 := Int.emod_lt_of_pos (numI ns at') (show (0 : Int) < ((ks.length : Nat) : Int) by omega)
      have h3 := Int.emod_nonneg (numI ns at' / 7) (show ((ks.length : Nat) : Int) ≠ 0 by omega)
      have h4 := Int.emod_lt_of_pos (numI ns at' / 7) (show (0 : Int) < ((ks.length : Nat) : Int) by omega)
      split <;> omega
    rw [ej]
    obtain ⟨q, hq, hat⟩ := refs_pick j0 j1
    obtain ⟨r, b, eq, r0, r4, b0, b2, hbr, hrb⟩ := r2 q.2 (List.mem_map_of_mem (f := fun z : Addr × List Int => z.2) (List.mem_of_getElem? hq))
    have tq := t2 q (List.mem_of_getElem? hq)
    rw [eq] at tq
    refine ⟨.ref l, rfl, _, rfl, .inl ⟨l, _, _, _, rfl, rfl, .inl (.inl e2), hat, q.1, _, rfl, tq, rfl, _, _, rfl, _, _, rfl, rfl, ?_⟩⟩
    -- the tuple
    refine ⟨_, rfl, _, rfl, (by show 4 ≤ sizeLine; decide), fun l3 H3 s3 _ e3 => ?_⟩
    have hL3 := s3.seq hL2
    repeat (first | refine ⟨_, rfl, ?_⟩ | refine ⟨_, _, rfl, rfl, ?_⟩)
    refine .inl ⟨_, _, _, _, rfl, rfl, hL3, nthI (by omega) (by omega), .inl ⟨_, rfl, ?_⟩⟩
    refine ⟨_, _, rfl, rfl, (by show (0 : Int) < 4; decide), ?_⟩
    obtain ⟨g, eg, g0, g2⟩ := pickI (zs := [0, 0, 1, 2]) (j := numI ns (at' + 1) % 4) (P := fun z => 0 ≤ z ∧ z ≤ 2) (by decide) (Int.emod_nonneg _ (by decide)) (Int.emod_lt_of_pos _ (by decide))
    refine .inl ⟨l3, _, _, _, rfl, rfl, .inl (.inl e3), eg, (by show 6 ≤ sizeLine; decide), fun l4 H4 s4 _ e4 => ?_⟩
    have hL4 := s4.seq hL3
    repeat (first | refine ⟨_, rfl, ?_⟩ | refine ⟨_, _, rfl, rfl, ?_⟩)
    refine .inl ⟨_, _, _, _, rfl, rfl, hL4, nthI (by omega) (by omega), .inl ⟨_, rfl, ?_⟩⟩
    refine ⟨_, _, rfl, rfl, (by show (0 : Int) < 6; decide), ?_⟩
    obtain ⟨li, eli, i0, i9⟩ := pickI (zs := [1, 1, 2, 3, 5, 9]) (j := numI ns (at' + 2) % 6) (P := fun z => 1 ≤ z ∧ z ≤ 9) (by decide) (Int.emod_nonneg _ (by decide)) (Int.emod_lt_of_pos _ (by decide))
    refine .inl ⟨l4, _, _, _, rfl, rfl, .inl (.inl e4), eli, (by show 4 ≤ sizeLine; decide), fun c H5 s5 tc => ?_⟩
    exact k H5 c [r, b, g, li] (((S2.trans s3).trans s4).trans s5) tc (decide_eq_true (by omega))

theorem ok__law_stars (T : Txt P K mg a) : FnOk P w K mg base CX0 1 a.f__law_stars a.fd__law_stars ["numbers", "at", "side", "many"] (spStarsL K) := by
  refine T.F__law_stars.ok sc__law_stars (fun vs H Q E h => ?_) (fun cdv A outer s H vs Q E hr h => ?_)
  · obtain ⟨p1, ns, at', n, many, rfl, _⟩ := h
    rfl
  · obtain ⟨p1, ns, at', n, many, rfl, hL, hN, ha, hm0, hm1, hlen, h4, h9, k⟩ := h
    have hu65 : (A.deeper (envOfC "_law_stars" (defScope s__law_stars) s.heap.objs.size a.f__law_stars cdv)).units + 65 < cLine := by
      have := hr.un
      omega
    refine ⟨_, (pss_cons (ps_set (i := 4) sc__law_stars.nd rfl (.inl rfl) (pe_lstM pa_nil))
      (pss_cons (ps_set (i := 5) sc__law_stars.nd rfl (.inl rfl) (pe_op op_mod (pe_callTy call_int1 (by rfl) T.z_int (by decide +kernel) (pa_cons (pe_ix ix_seq (pv 0) (pv 1) (fun _ _ => rfl)) pa_nil)) (pe_op op_add (pv 3) pe_int)))
      (C8.pss_cut (ps_if (pt_cmpR op_eq (pe_op op_mod (pe_op op_fdiv (pe_callTy call_int1 (by rfl) T.z_int (by decide +kernel) (pa_cons (pe_ix ix_seq (pv 0) (pv 1) (fun _ _ => rfl)) pa_nil)) pe_int) pe_int) pe_int (nomark _)) (pss_one (ps_set (i := 5) sc__law_stars.nd rfl (.inl rfl) (pv 3))) pss_nil)
      (pss_cons (ps_for PassesOwn.never rfl (pi_range1 (by rfl) T.z_range (pa_cons (pv 5) pa_nil)) (pg_name (i := 6) sc__law_stars.nd rfl (.inl rfl)) (pss_cons (ps_set (i := 7) sc__law_stars.nd rfl (.inl rfl) (pe_op op_add (pe_op op_add (pv 1) pe_int) (pe_op op_mul pe_int (pv 6))))
      (pss_cons (ps_set (i := 8) sc__law_stars.nd rfl (.inl rfl) (pe_op op_add pe_int (pe_op op_mod (pe_callTy call_int1 (by rfl) T.z_int (by decide +kernel) (pa_cons (pe_ix ix_seq (pv 0) (pe_op op_add (pv 7) pe_int) (fun _ _ => rfl)) pa_nil)) pe_int)))
      (C8.pss_cut (ps_if (pt_cmpR op_gt (pe_op op_mod (pe_op op_fdiv (pe_callTy call_int1 (by rfl) T.z_int (by decide +kernel) (pa_cons (pe_ix ix_seq (pv 0) (pv 1) (fun _ _ => rfl)) pa_nil)) (pe_op op_add (pv 3) pe_int)) pe_int) pe_int (nomark _)) (pss_one (ps_set (i := 8) sc__law_stars.nd rfl (.inl rfl) (pe_ix ix_seq (pe_lstM (pa_cons pe_int (pa_cons pe_int (pa_cons pe_int (pa_cons pe_int pa_nil))))) (pe_op op_mod (pe_callTy call_int1 (by rfl) T.z_int (by decide +kernel) (pa_cons (pe_ix ix_seq (pv 0) (pe_op op_add (pv 7) pe_int) (fun _ _ => rfl)) pa_nil)) pe_int) (fun _ _ => rfl)))) pss_nil)
      (pss_cons (ps_set (i := 9) sc__law_stars.nd rfl (.inl rfl) (pe_tupM (pa_cons (pe_op op_mod (pe_callTy call_int1 (by rfl) T.z_int (by decide +kernel) (pa_cons (pe_ix ix_seq (pv 0) (pv 7) (fun _ _ => rfl)) pa_nil)) (pv 2)) (pa_cons (pe_op op_mod (pe_callTy call_int1 (by rfl) T.z_int (by decide +kernel) (pa_cons (pe_ix ix_seq (pv 0) (pe_op op_add (pv 7) pe_int) (fun _ _ => rfl)) pa_nil)) (pv 2)) (pa_cons (pv 8) pa_nil)))))
      (pss_one (ps_if (pt_cmpR (op_notInD hu65) (pv 9) (pv 4) (by rfl)) (pss_one (ps_expr (pe_bm PySem.F.plainAttrs_list PySem.F.slot_list_append PySem.F.type_list_append mt_append (pv 4) (pa_cons (pv 9) pa_nil)))) pss_nil)))))))
      (pss_one (ps_ret (pe_callB (cr_sortM (d := 3) (B := 10) (by decide)) (by rfl) T.z_sorted (by decide +kernel) (pa_cons (pv 4) pa_nil)))))))), ?_⟩
    have hn : 0 < n := by omega
    refine ⟨Nat.zero_le _, fun ls H1 s1 nls els => ?_⟩
    have hL1 := s1.seq hL
    repeat (first | refine ⟨_, rfl, ?_⟩ | refine ⟨_, _, rfl, rfl, ?_⟩)
    refine .inl ⟨_, _, _, _, rfl, rfl, hL1, nthI (by omega) (by omega), .inl ⟨_, rfl, ?_⟩⟩
    refine ⟨_, rfl, _, _, rfl, rfl, _, _, rfl, rfl, (by show (0 : Int) < many + 1; omega), ?_⟩
    have hc : 0 ≤ numI ns at' % (many + 1) ∧ numI ns at' % (many + 1) ≤ many := ⟨Int.emod_nonneg _ (by omega), by have := Int.emod_lt_of_pos (numI ns at') (show (0 : Int) < many + 1 by omega); omega⟩
    refine ⟨fun σ H2 => H2 = H1 ∧ ∃ c : Int, σ = [some (.ref p1), some (.int at'), some (.int n), some (.int many), some (.ref ls), some (.int c), none, none, none, none] ∧ 0 ≤ c ∧ c ≤ many, ?_, ?_⟩
    · repeat (first | refine ⟨_, rfl, ?_⟩ | refine ⟨_, _, rfl, rfl, ?_⟩)
      refine .inl ⟨_, _, _, _, rfl, rfl, hL1, nthI (by omega) (by omega), .inl ⟨_, rfl, ?_⟩⟩
      refine ⟨_, _, rfl, rfl, ⟨by decide, by decide⟩, _, _, rfl, rfl, (by show (0 : Int) < 2; decide), rfl, _, rfl, ite2 (fun g => ?_) (fun g => ⟨rfl, _, rfl, hc.1, hc.2⟩)⟩
      exact ⟨_, rfl, rfl, many, rfl, hm0, Int.le_refl _⟩
    rintro σ H2 ⟨rfl, c, rfl, c0, c1⟩
    refine ⟨_, rfl, c, rfl, by omega, by omega, for_range (lo := 0) (n := c.toNat) (fun i σ H6 => ∃ (z6 z7 z8 z9 : Option V) (ks : Tups), σ = [some (.ref p1), some (.int at'), some (.int n), some (.int many), some (.ref ls), some (.int c), z6, z7, z8, z9] ∧ Same H H6 ∧ H6 ls = some (.lst (refs ks)) ∧ TupsAt K H6 ks ∧ ks.length ≤ i ∧ (keys ks).Nodup ∧ ∀ x ∈ keys ks, isStar n x = true)
      ⟨_, _, _, _, [], rfl, s1, els, (fun p hp => by cases hp), Nat.le_refl _, List.nodup_nil, fun x hx => by cases hx⟩ ?_ ?_⟩
    · rintro i σ H6 hi ⟨z6, z7, z8, z9, ks, rfl, s6, e6, t6, hlen6, hnd, hst⟩
      have hL6 := s6.seq hL
      repeat (first | refine ⟨_, rfl, ?_⟩ | refine ⟨_, _, rfl, rfl, ?_⟩)
      refine ⟨.inl (by constructor <;> decide), ?_⟩
      repeat (first | refine ⟨_, rfl, ?_⟩ | refine ⟨_, _, rfl, rfl, ?_⟩)
      repeat (first | refine ⟨_, rfl, ?_⟩ | refine ⟨_, _, rfl, rfl, ?_⟩)
      refine .inl ⟨_, _, _, _, rfl, rfl, hL6, nthI (by omega) (by omega), .inl ⟨_, rfl, ?_⟩⟩
      refine ⟨_, _, rfl, rfl, (by show (0 : Int) < 9; decide), _, _, rfl, rfl, ?_⟩
      have hl9 : 1 ≤ 1 + numI ns (at' + 1 + 3 * (0 + (i : Int)) + 2) % 9 ∧ 1 + numI ns (at' + 1 + 3 * (0 + (i : Int)) + 2) % 9 ≤ 9 := by omega
      refine ⟨fun σ H7 => ∃ li : Int, σ = [some (.ref p1), some (.int at'), some (.int n), some (.int many), some (.ref ls), some (.int c), some (.int (0 + (i : Int))), some (.int (at' + 1 + 3 * (0 + (i : Int)))), some (.int li), z9] ∧ Same H H7 ∧ H7 ls = some (.lst (refs ks)) ∧ TupsAt K H7 ks ∧ 1 ≤ li ∧ li ≤ 9, ?_, ?_⟩
      · repeat (first | refine ⟨_, rfl, ?_⟩ | refine ⟨_, _, rfl, rfl, ?_⟩)
        refine .inl ⟨_, _, _, _, rfl, rfl, hL6, nthI (by omega) (by omega), .inl ⟨_, rfl, ?_⟩⟩
        refine ⟨_, rfl, _, _, rfl, rfl, _, _, rfl, rfl, ⟨by omega, by omega⟩, _, _, rfl, rfl, (by show (0 : Int) < 3; decide), _, _, rfl, rfl, _, rfl, ite2 (fun g => ?_) (fun g => ⟨_, rfl, s6, e6, t6, hl9.1, hl9.2⟩)⟩
        refine ⟨(by show 4 ≤ sizeLine; decide), fun l3 H7 s7 _ e7 => ?_⟩
        have hL7 := s7.seq hL6
        repeat (first | refine ⟨_, rfl, ?_⟩ | refine ⟨_, _, rfl, rfl, ?_⟩)
        refine .inl ⟨_, _, _, _, rfl, rfl, hL7, nthI (by omega) (by omega), .inl ⟨_, rfl, ?_⟩⟩
        refine ⟨_, _, rfl, rfl, (by show (0 : Int) < 4; decide), ?_⟩
        obtain ⟨li, eli, i0, i9⟩ := pickI (zs := [5, 5, 6, 4]) (j := numI ns (at' + 1 + 3 * (0 + (i : Int)) + 2) % 4) (P := fun z => 1 ≤ z ∧ z ≤ 9) (by decide) (Int.emod_nonneg _ (by decide)) (Int.emod_lt_of_pos _ (by decide))
        exact .inl ⟨l3, _, _, _, rfl, rfl, .inl (.inl e7), eli, li, rfl, s6.trans s7, s7 _ _ e6, tups_up s7 t6, i0, i9⟩
      rintro σ H7 ⟨li, rfl, s7, e7, t7, i0, i9⟩
      have hL7 := s7.seq hL
      repeat (first | refine ⟨_, rfl, ?_⟩ | refine ⟨_, _, rfl, rfl, ?_⟩)
      refine .inl ⟨_, _, _, _, rfl, rfl, hL7, nthI (by omega) (by omega), .inl ⟨_, rfl, ?_⟩⟩
      refine ⟨_, rfl, _, _, rfl, rfl, hn, ?_⟩
      repeat (first | refine ⟨_, rfl, ?_⟩ | refine ⟨_, _, rfl, rfl, ?_⟩)
      refine .inl ⟨_, _, _, _, rfl, rfl, hL7, nthI (by omega) (by omega), .inl ⟨_, rfl, ?_⟩⟩
      refine ⟨_, rfl, _, _, rfl, rfl, hn, _, rfl, (by show 3 ≤ sizeLine; decide), fun pt H8 s8 tt => ?_⟩
      obtain ⟨k3, tt', hk3⟩ : ∃ k3 : List Int, SqT K H8 pt (k3.map V.int) ∧ isStar n k3 = true := ⟨[_, _, _], tt, decide_eq_true ⟨Int.emod_nonneg _ (by omega), Int.emod_lt_of_pos _ hn, Int.emod_nonneg _ (by omega), Int.emod_lt_of_pos _ hn, i0, i9⟩⟩
      clear tt
      have e8 := s8 _ _ e7
      have t8 := tups_up s8 t7
      refine ⟨.ref pt, rfl, .ref ls, rfl, _, _, dp_ti tt', dp_l e8 (dp_tups t8), shaped_of (lay_ti _) (by decide), shaped_of (lay_tups _) (by decide), _, rfl, ?_⟩
      rw [any_tups]
      by_cases hin : k3 ∈ keys ks
      · rw [decide_eq_true hin]
        exact iteF ⟨_, _, _, _, ks, rfl, s7.trans s8, e8, t8, by omega, hnd, hst⟩
      · rw [decide_eq_false hin]
        refine iteT ⟨.ref ls, rfl, .inl ⟨rfl, _, .inl (.inl e8)⟩, .ref pt, rfl, ls, _, _, rfl, rfl, e8, sizeN (by rw [refs_len]; omega), ?_⟩
        refine ⟨_, _, _, _, ks ++ [(pt, k3)], rfl, same_put nls (s7.trans s8), by rw [upd_same, ← refs_push], tups_app (tups_put e8 t8) (tups_one (sqT_lst e8 tt')), by rw [List.length_append]; show ks.length + 1 ≤ _; omega, by rw [keys_push]; exact nodup_push hnd hin, fun x hx => ?_⟩
        rw [keys_push] at hx
        rcases List.mem_append.mp hx with hx | hx
        · exact hst x hx
        · rw [List.mem_singleton.mp hx]
          exact hk3
    · rintro σ H6 ⟨z6, z7, z8, z9, ks, rfl, s6, e6, t6, hlen6, hnd, hst⟩
      refine ⟨.ref ls, rfl, ls, ks, rfl, .inl (.inl e6), t6, by omega, stars_fit (List.all_eq_true.mpr hst) h9, fun l ks' H7 s7 nl el hperm hasc => ?_⟩
      have hpk : (keys ks').Perm (keys ks) := hperm.map _
      exact k H7 l ks' (s6.trans s7) (s6.free nl) el (fun p hp => sqT_up s7 (t6 p (hperm.mem_iff.mp hp))) (fun x hx => hst x (hpk.mem_iff.mp hx)) (hpk.nodup_iff.mpr hnd) (by have := hperm.length_eq; omega) hasc

theorem ok__law_parts (T : Txt P K mg a) : FnOk P w K mg base CX0 2 a.f__law_parts a.fd__law_parts ["numbers", "at", "sides", "many"] (spPartsL K) := by
  refine T.F__law_parts.ok sc__law_parts (fun vs H Q E h => ?_) (fun cdv A outer s H vs Q E hr h => ?_)
  · obtain ⟨p1, sl, ns, sides, at', many, rfl, _⟩ := h
    rfl
  · obtain ⟨p1, sl, ns, sides, at', many, rfl, hL, hN, hsl, hsd, hs0, hs1, ha, hm0, hm1, hlen, k⟩ := h
    refine ⟨_, (pss_cons (ps_set (i := 4) sc__law_parts.nd rfl (.inl rfl) (pe_ix ix_seq (pv 2) (pe_op op_mod (pe_callTy call_int1 (by rfl) T.z_int (by decide +kernel) (pa_cons (pe_ix ix_seq (pv 0) (pv 1) (fun _ _ => rfl)) pa_nil)) (pe_callB call_len_seq (by rfl) T.z_len (by decide +kernel) (pa_cons (pv 2) pa_nil))) (fun _ _ => rfl)))
      (pss_one (ps_ret (pe_tupM (pa_cons (pv 4) (pa_cons (pe_call (ok__law_stars T) (hr.mono (by decide)) (by rfl) T.m__law_stars T.F__law_stars.kp T.b__law_stars .nil pass0 (pa_cons (pv 0) (pa_cons (pe_op op_add (pv 1) pe_int) (pa_cons (pv 4) (pa_cons (pv 3) pa_nil))))) (pa_cons (pe_call (ok__law_camera T) (hr.mono (by decide)) (by rfl) T.m__law_camera T.F__law_camera.kp T.b__law_camera .nil pass0 (pa_cons (pv 0) (pa_cons (pe_op op_add (pv 1) pe_int) (pa_cons (pv 4) pa_nil)))) pa_nil))))))), ?_⟩
    refine ⟨.ref sl, rfl, ?_⟩
    repeat (first | refine ⟨_, rfl, ?_⟩ | refine ⟨_, _, rfl, rfl, ?_⟩)
    refine .inl ⟨_, _, _, _, rfl, rfl, hL, nthI (by omega) (by omega), .inl ⟨_, rfl, ?_⟩⟩
    refine ⟨.ref sl, rfl, sl, _, rfl, .inl hsl, _, _, rfl, rfl, (by rw [List.length_map]; omega), ?_⟩
    rw [List.length_map]
    obtain ⟨n, en, h4, h9⟩ := pickI (zs := sides) (j := numI ns at' % ((sides.length : Nat) : Int)) (P := fun z => 4 ≤ z ∧ z ≤ 9) hsd (Int.emod_nonneg _ (by omega)) (Int.emod_lt_of_pos _ (by omega))
    refine .inl ⟨sl, _, _, _, rfl, rfl, hsl, en, ?_⟩
    repeat (first | refine ⟨_, rfl, ?_⟩ | refine ⟨_, _, rfl, rfl, ?_⟩)
    refine ⟨p1, ns, at' + 4, n, many, rfl, hL, hN, by omega, hm0, hm1, by omega, h4, h9, fun H1 l ks s1 nl el t1 hst hnd hle hasc => ?_⟩
    repeat (first | refine ⟨_, rfl, ?_⟩ | refine ⟨_, _, rfl, rfl, ?_⟩)
    refine ⟨p1, ns, at' + 1, n, rfl, s1.seq hL, by omega, by omega, h4, h9, fun H2 c cam s2 tc hcam => ?_⟩
    refine ⟨(by show 3 ≤ sizeLine; decide), fun t H3 s3 tt => ?_⟩
    have hsky : isSky n (keys ks) cam = true := by
      unfold isSky
      rw [decide_eq_true ⟨h4, h9⟩, List.all_eq_true.mpr hst, decide_eq_true hnd, hcam, show decide ((keys ks).length ≤ 20) = true from decide_eq_true (by rw [keys_len]; omega)]
      rfl
    exact k H3 t n ks cam ((s1.trans s2).trans s3) ⟨l, c, tt, .inl (.inl (s3 _ _ (s2 _ _ el))), tups_up (s2.trans s3) t1, sqT_up s3 tc⟩ hsky hle hasc

theorem ok__law_made (T : Txt P K mg a) : FnOk P w K mg base CX0 5 a.f__law_made a.fd__law_made ["parts"] (spMadeL K a.c_Sky) := by
  refine T.F__law_made.ok sc__law_made (fun vs H Q E h => ?_) (fun cdv A outer s H vs Q E hr h => ?_)
  · obtain ⟨t, n, ks, cam, rfl, _⟩ := h
    rfl
  · obtain ⟨t, n, ks, cam, rfl, ⟨l, c, ht, hl, hk, hc⟩, hsky, hasc, k⟩ := h
    refine ⟨_, (pss_one (ps_ret (pe_make T.M_Sky (ok_Skyx_initx T) (hr.mono (by decide)) (by rfl) T.m_Sky T.b_Skyx_initx .nil passL (pa_cons (pe_ix ix_seq (pv 0) pe_int (fun _ _ => rfl)) (pa_cons (pe_revL (pe_ix ix_seq (pv 0) pe_int (fun _ _ => rfl))) (pa_cons (pe_ix ix_seq (pv 0) pe_int (fun _ _ => rfl)) pa_nil)))))), ?_⟩
    obtain ⟨⟨h4, h9⟩, hstars, hnd, h20, hcam⟩ := sky_parts hsky
    rw [keys_len] at h20
    refine ⟨.ref t, rfl, .inr (.inl ⟨t, _, 0, .int n, rfl, rfl, ht, rfl, ?_⟩)⟩
    refine ⟨.ref t, rfl, .inr (.inl ⟨t, _, 1, .ref l, rfl, rfl, ht, rfl, l, _, rfl, hl, fun q nq => ?_⟩)⟩
    have s1 : Same H (upd H q (.lst (refs ks).reverse)) := same_new nq
    have e1 : (upd H q (.lst (refs ks).reverse)) q = some (.lst (refs ks.reverse)) := by rw [upd_same]; unfold refs; rw [List.map_reverse]
    generalize upd H q (.lst (refs ks).reverse) = H1 at s1 e1 ⊢
    have ht1 := sqT_up s1 ht
    refine ⟨.ref t, rfl, .inr (.inl ⟨t, _, 2, .ref c, rfl, rfl, ht1, rfl, fun x dx nx ndx nex => ?_⟩)⟩
    have s2 := same_make (C := a.c_Sky) nx ndx
    have S2 := s1.trans s2
    have hp : (keys ks.reverse).Perm (keys ks) := (List.reverse_perm ks).map _
    refine ⟨x, dx, n, q, c, ks.reverse, cam, rfl, upd_same, .inl (.inl (s2 _ _ e1)), (fun p hp => sqT_up S2 (hk p (List.mem_reverse.mp hp))), sqT_up S2 hc, by rw [List.length_reverse]; omega, fun _ H4 kq hK hpq hascq kp => ⟨rfl, ?_⟩, fun hbad => by rw [isSky_perm hp, hsky] at hbad; cases hbad⟩
    have S4 : Same H H4 := fun z o e => kp _ _ (S2 _ _ e) (ne_of_none (s1 _ _ e) nx)
    refine k H4 x kq S4 hK (asc_unique hascq hasc ((hpq.map _).trans hp) (fun y hy => stars_fit hstars h9 y (((hpq.map _).trans hp).mem_iff.mp hy)))

theorem ok__law_attitude (T : Txt P K mg a) : FnOk P w K mg base CX0 1 a.f__law_attitude a.fd__law_attitude ["numbers", "at", "side"] (spAttL K) := by
  refine T.F__law_attitude.ok sc__law_attitude (fun vs H Q E h => ?_) (fun cdv A outer s H vs Q E hr h => ?_)
  · obtain ⟨p1, ns, at', n, rfl, _⟩ := h
    rfl
  · obtain ⟨p1, ns, at', n, rfl, hL, ha, hlen, h4, k⟩ := h
    refine ⟨_, (pss_one (ps_ret (pe_tupM (pa_cons (pe_op op_mod (pe_callTy call_int1 (by rfl) T.z_int (by decide +kernel) (pa_cons (pe_ix ix_seq (pv 0) (pv 1) (fun _ _ => rfl)) pa_nil)) (pv 2)) (pa_cons (pe_op op_mod (pe_callTy call_int1 (by rfl) T.z_int (by decide +kernel) (pa_cons (pe_ix ix_seq (pv 0) (pe_op op_add (pv 1) pe_int) (fun _ _ => rfl)) pa_nil)) (pv 2)) (pa_cons (pe_op op_mod (pe_callTy call_int1 (by rfl) T.z_int (by decide +kernel) (pa_cons (pe_ix ix_seq (pv 0) (pe_op op_add (pv 1) pe_int) (fun _ _ => rfl)) pa_nil)) pe_int) pa_nil)))))), ?_⟩
    have hn : 0 < n := by omega
    repeat (first | refine ⟨_, rfl, ?_⟩ | refine ⟨_, _, rfl, rfl, ?_⟩)
    refine .inl ⟨_, _, _, _, rfl, rfl, hL, nthI (by omega) (by omega), .inl ⟨_, rfl, ?_⟩⟩
    refine ⟨_, rfl, _, _, rfl, rfl, hn, ?_⟩
    repeat (first | refine ⟨_, rfl, ?_⟩ | refine ⟨_, _, rfl, rfl, ?_⟩)
    refine .inl ⟨_, _, _, _, rfl, rfl, hL, nthI (by omega) (by omega), .inl ⟨_, rfl, ?_⟩⟩
    refine ⟨_, rfl, _, _, rfl, rfl, hn, ?_⟩
    repeat (first | refine ⟨_, rfl, ?_⟩ | refine ⟨_, _, rfl, rfl, ?_⟩)
    refine .inl ⟨_, _, _, _, rfl, rfl, hL, nthI (by omega) (by omega), .inl ⟨_, rfl, ?_⟩⟩
    refine ⟨_, _, rfl, rfl, (by show (0 : Int) < 4; decide), (by show 3 ≤ sizeLine; decide), fun p H1 s1 t1 => ?_⟩
    exact k H1 p [_, _, _] s1 t1 (decide_eq_true ⟨Int.emod_nonneg _ (by omega), Int.emod_lt_of_pos _ hn, Int.emod_nonneg _ (by omega), Int.emod_lt_of_pos _ hn, by omega, by omega⟩)

theorem ok__law_beside (T : Txt P K mg a) : FnOk P w K mg base CX0 2 a.f__law_beside a.fd__law_beside ["numbers", "at", "side", "one"] (spBeside K) := by
  refine T.F__law_beside.ok sc__law_beside (fun vs H Q E h => ?_) (fun cdv A outer s H vs Q E hr h => ?_)
  · obtain ⟨p1, q, ns, one, at', n, rfl, _⟩ := h
    rfl
  · obtain ⟨p1, q, ns, one, at', n, rfl, hL, hN, ha, hlen, h4, hq, hone, k⟩ := h
    refine ⟨_, (pss_cons (ps_set (i := 4) sc__law_beside.nd rfl (.inl rfl) (pe_call (ok__law_attitude T) (hr.mono (by decide)) (by rfl) T.m__law_attitude T.F__law_attitude.kp T.b__law_attitude .nil pass0 (pa_cons (pv 0) (pa_cons (pv 1) (pa_cons (pv 2) pa_nil)))))
      (C8.pss_cut (ps_if (pt_cmpR op_gt (pe_op op_mod (pe_callTy call_int1 (by rfl) T.z_int (by decide +kernel) (pa_cons (pe_ix ix_seq (pv 0) (pe_op op_add (pv 1) pe_int) (fun _ _ => rfl)) pa_nil)) pe_int) pe_int (nomark _)) (pss_cons (ps_set (i := 5) sc__law_beside.nd rfl (.inl rfl) (pe_ix ix_seq (pe_lstM (pa_cons (pe_ix ix_seq (pv 3) pe_int (fun _ _ => rfl)) (pa_cons (pe_ix ix_seq (pv 4) pe_int (fun _ _ => rfl)) pa_nil))) (pe_op op_mod (pe_op op_fdiv (pe_callTy call_int1 (by rfl) T.z_int (by decide +kernel) (pa_cons (pe_ix ix_seq (pv 0) (pe_op op_add (pv 1) pe_int) (fun _ _ => rfl)) pa_nil)) pe_int) pe_int) (fun _ _ => rfl)))
      (pss_one (ps_set (i := 4) sc__law_beside.nd rfl (.inl rfl) (pe_tupM (pa_cons (pe_op op_mod (pe_callTy call_int1 (by rfl) T.z_int (by decide +kernel) (pa_cons (pe_op op_add (pe_ix ix_seq (pv 3) pe_int (fun _ _ => rfl)) (pe_op op_mod (pe_callTy call_int1 (by rfl) T.z_int (by decide +kernel) (pa_cons (pe_ix ix_seq (pv 0) (pv 1) (fun _ _ => rfl)) pa_nil)) pe_int)) pa_nil)) (pv 2)) (pa_cons (pe_op op_mod (pe_callTy call_int1 (by rfl) T.z_int (by decide +kernel) (pa_cons (pe_op op_add (pe_ix ix_seq (pv 3) pe_int (fun _ _ => rfl)) (pe_op op_mod (pe_callTy call_int1 (by rfl) T.z_int (by decide +kernel) (pa_cons (pe_ix ix_seq (pv 0) (pe_op op_add (pv 1) pe_int) (fun _ _ => rfl)) pa_nil)) pe_int)) pa_nil)) (pv 2)) (pa_cons (pv 5) pa_nil))))))) pss_nil)
      (pss_one (ps_ret (pv 4))))), ?_⟩
    have hn : 0 < n := by omega
    refine ⟨.ref p1, rfl, _, rfl, _, rfl, p1, ns, at', n, rfl, hL, ha, by omega, h4, fun H1 p at_ s1 t1 hp => ?_⟩
    obtain ⟨ox, oy, oq, rfl, o0, o1, o2, o3, o4, o5⟩ := pose_form hone
    obtain ⟨ax, ay, aq, rfl, a0, a1, a2, a3, a4, a5⟩ := pose_form hp
    have hL1 := s1.seq hL
    have hq1 := sqT_up s1 hq
    refine ⟨fun σ H2 => ∃ (z5 : Option V) (pp : Addr) (b_ : List Int), σ = [some (.ref p1), some (.int at'), some (.int n), some (.ref q), some (.ref pp), z5] ∧ Same H H2 ∧ SqT K H2 pp (b_.map V.int) ∧ isPose n b_ = true, ?_, ?_⟩
    · repeat (first | refine ⟨_, rfl, ?_⟩ | refine ⟨_, _, rfl, rfl, ?_⟩)
      refine .inl ⟨_, _, _, _, rfl, rfl, hL1, nthI (by omega) (by omega), .inl ⟨_, rfl, ?_⟩⟩
      refine ⟨_, _, rfl, rfl, (by show (0 : Int) < 3; decide), _, _, rfl, rfl, _, rfl, ite2 (fun g => ?_) (fun g => ⟨_, p, [ax, ay, aq], rfl, s1, t1, hp⟩)⟩
      refine ⟨.ref q, rfl, .inr (.inl ⟨q, _, 2, .int oq, rfl, rfl, hq1, rfl, .ref p, rfl, .inr (.inl ⟨p, _, 2, .int aq, rfl, rfl, t1, rfl, (by show 2 ≤ sizeLine; decide), fun l3 H3 s3 _ e3 => ?_⟩)⟩)⟩
      have hL3 := s3.seq hL1
      repeat (first | refine ⟨_, rfl, ?_⟩ | refine ⟨_, _, rfl, rfl, ?_⟩)
      refine .inl ⟨_, _, _, _, rfl, rfl, hL3, nthI (by omega) (by omega), .inl ⟨_, rfl, ?_⟩⟩
      refine ⟨_, _, rfl, rfl, ⟨by decide, by decide⟩, _, _, rfl, rfl, (by show (0 : Int) < 2; decide), ?_⟩
      obtain ⟨qq, eqq, c0, c3⟩ := pickI (zs := [oq, aq]) (j := numI ns (at' + 3) / 3 % 2) (P := fun z => 0 ≤ z ∧ z ≤ 3) (fun z hz => by
        rcases List.mem_cons.mp hz with rfl | hz
        · exact ⟨o4, o5⟩
        · rw [List.mem_singleton.mp hz]
          exact ⟨a4, a5⟩) (Int.emod_nonneg _ (by decide)) (Int.emod_lt_of_pos _ (by decide))
      refine .inl ⟨l3, _, _, _, rfl, rfl, .inl (.inl e3), eqq, ?_⟩
      have hq3 := sqT_up s3 hq1
      refine ⟨.ref q, rfl, .inr (.inl ⟨q, _, 0, .int ox, rfl, rfl, hq3, rfl, ?_⟩)⟩
      repeat (first | refine ⟨_, rfl, ?_⟩ | refine ⟨_, _, rfl, rfl, ?_⟩)
      refine .inl ⟨_, _, _, _, rfl, rfl, hL3, nthI (by omega) (by omega), .inl ⟨_, rfl, ?_⟩⟩
      refine ⟨_, _, rfl, rfl, (by show (0 : Int) < 3; decide), _, _, rfl, rfl, .inl ⟨_, rfl, _, rfl, _, _, rfl, rfl, hn, ?_⟩⟩
      refine ⟨.ref q, rfl, .inr (.inl ⟨q, _, 1, .int oy, rfl, rfl, hq3, rfl, ?_⟩)⟩
      repeat (first | refine ⟨_, rfl, ?_⟩ | refine ⟨_, _, rfl, rfl, ?_⟩)
      refine .inl ⟨_, _, _, _, rfl, rfl, hL3, nthI (by omega) (by omega), .inl ⟨_, rfl, ?_⟩⟩
      refine ⟨_, _, rfl, rfl, (by show (0 : Int) < 2; decide), _, _, rfl, rfl, .inl ⟨_, rfl, _, rfl, _, _, rfl, rfl, hn, ?_⟩⟩
      refine ⟨_, rfl, (by show 3 ≤ sizeLine; decide), fun p4 H4 s4 t4 => ?_⟩
      exact ⟨_, p4, [_, _, _], rfl, (s1.trans s3).trans s4, t4, decide_eq_true ⟨Int.emod_nonneg _ (by omega), Int.emod_lt_of_pos _ hn, Int.emod_nonneg _ (by omega), Int.emod_lt_of_pos _ hn, c0, c3⟩⟩
    · rintro σ H2 ⟨z5, pp, b_, rfl, S2, t2, h2⟩
      exact ⟨.ref pp, rfl, k H2 pp b_ S2 t2 h2⟩

theorem ok__law_turned (T : Txt P K mg a) : FnOk P w K mg base CX0 1 a.f__law_turned a.fd__law_turned ["quarter", "x", "y"] (spTurnedL K) := by
  refine T.F__law_turned.ok sc__law_turned (fun vs H Q E h => ?_) (fun cdv A outer s H vs Q E hr h => ?_)
  · obtain ⟨q, x, y, rfl, _⟩ := h
    rfl
  · obtain ⟨q, x, y, rfl, q0, q3, k⟩ := h
    refine ⟨_, (pss_cons (ps_for PassesOwn.never rfl (pi_range1 (by rfl) T.z_range (pa_cons (pv 0) pa_nil)) (pg_name (i := 3) sc__law_turned.nd rfl (.inl rfl)) (pss_one (ps_par (i := 1) (j := 2) rfl sc__law_turned.nd rfl rfl (by decide) rfl rfl (pa_cons (pe_op op_sub pe_int (pv 2)) (pa_cons (pv 1) pa_nil)) rfl)))
      (pss_one (ps_ret (pe_tupM (pa_cons (pv 1) (pa_cons (pv 2) pa_nil)))))), ?_⟩
    refine ⟨_, rfl, q, rfl, by omega, by omega, for_range (lo := 0) (n := q.toNat) (fun i σ H2 => ∃ z3 : Option V, σ = [some (.int q), some (.int (turnX i x y)), some (.int (turnY i x y)), z3] ∧ Same H H2) ⟨_, by rw [show turnX ((0 : Nat) : Int) x y = x from rfl, show turnY ((0 : Nat) : Int) x y = y from rfl]; rfl, Same.refl _⟩ ?_ ?_⟩
    · rintro i σ H2 hi ⟨z3, rfl, S2⟩
      repeat (first | refine ⟨_, rfl, ?_⟩ | refine ⟨_, _, rfl, rfl, ?_⟩)
      have e : turnX ((i + 1 : Nat) : Int) x y = 0 - turnY i x y ∧ turnY ((i + 1 : Nat) : Int) x y = turnX i x y := by
        have hi4 : i = 0 ∨ i = 1 ∨ i = 2 := by omega
        rcases hi4 with rfl | rfl | rfl <;> exact ⟨by simp [turnX, turnY], by simp [turnX, turnY]⟩
      rw [e.1, e.2]
      exact ⟨_, _, rfl, some (.int (0 + (i : Int))), rfl, S2⟩
    · rintro σ H2 ⟨z3, rfl, S2⟩
      repeat (first | refine ⟨_, rfl, ?_⟩ | refine ⟨_, _, rfl, rfl, ?_⟩)
      refine ⟨(by show 2 ≤ sizeLine; decide), fun p H3 s3 t3 => ?_⟩
      rw [show ((q.toNat : Nat) : Int) = q by omega] at t3
      exact k H3 p (S2.trans s3) t3

theorem ok__law_offsets (T : Txt P K mg a) : FnOk P w K mg base CX0 2 a.f__law_offsets a.fd__law_offsets ["parts", "attitude"] (spOffs K) := by
  refine T.F__law_offsets.ok sc__law_offsets (fun vs H Q E h => ?_) (fun cdv A outer s H vs Q E hr h => ?_)
  · obtain ⟨pp, pa, n, ks, cam, at_, rfl, _⟩ := h
    rfl
  · obtain ⟨pp, pa, n, ks, cam, at_, rfl, ⟨lk, ck, hpp, hl, ht, hc⟩, hsky, hpa, hpose, k⟩ := h
    have hu1 : (A.deeper (envOfC "_law_offsets" (defScope s__law_offsets) s.heap.objs.size a.f__law_offsets cdv)).units + 1 < cLine := by
      have := hr.un
      omega
    refine ⟨_, (pss_cons (ps_asg (pv 0) (pg_tup rfl (pgs_cons (pg_name (i := 2) sc__law_offsets.nd rfl (.inl rfl)) (pgs_cons (pg_name (i := 3) sc__law_offsets.nd rfl (.inl rfl)) (pgs_cons (pg_name (i := 4) sc__law_offsets.nd rfl (.inl rfl)) pgs_nil)))))
      (pss_cons (ps_set (i := 5) sc__law_offsets.nd rfl (.inl rfl) (pe_op op_add (pe_ix ix_seq (pv 4) pe_int (fun _ _ => rfl)) (pe_ix ix_seq (pv 4) pe_int (fun _ _ => rfl))))
      (pss_cons (ps_set (i := 6) sc__law_offsets.nd rfl (.inl rfl) pe_dnewK)
      (pss_cons (ps_for PassesOwn.never rfl (pi_range2 (by rfl) T.z_range (pa_cons (pe_op op_sub pe_int (pv 5)) (pa_cons (pe_op op_add (pv 5) pe_int) pa_nil))) (pg_name (i := 7) sc__law_offsets.nd rfl (.inl rfl)) (pss_one (ps_for PassesOwn.never rfl (pi_range2 (by rfl) T.z_range (pa_cons (pe_op op_sub pe_int (pv 5)) (pa_cons (pe_op op_add (pv 5) pe_int) pa_nil))) (pg_name (i := 8) sc__law_offsets.nd rfl (.inl rfl)) (pss_cons (ps_asg (pe_call (ok__law_turned T) (hr.mono (by decide)) (by rfl) T.m__law_turned T.F__law_turned.kp T.b__law_turned .nil pass0 (pa_cons (pe_ix ix_seq (pv 1) pe_int (fun _ _ => rfl)) (pa_cons (pv 7) (pa_cons (pv 8) pa_nil)))) (pg_tup rfl (pgs_cons (pg_name (i := 9) sc__law_offsets.nd rfl (.inl rfl)) (pgs_cons (pg_name (i := 10) sc__law_offsets.nd rfl (.inl rfl)) pgs_nil))))
      (pss_cons (ps_set (i := 11) sc__law_offsets.nd rfl (.inl rfl) (pe_tupM (pa_cons (pe_op op_mod (pe_callTy call_int1 (by rfl) T.z_int (by decide +kernel) (pa_cons (pe_op op_add (pe_ix ix_seq (pv 1) pe_int (fun _ _ => rfl)) (pv 9)) pa_nil)) (pv 2)) (pa_cons (pe_op op_mod (pe_callTy call_int1 (by rfl) T.z_int (by decide +kernel) (pa_cons (pe_op op_add (pe_ix ix_seq (pv 1) pe_int (fun _ _ => rfl)) (pv 10)) pa_nil)) (pv 2)) pa_nil))))
      (pss_one (ps_for PassesOwn.never rfl (pi_range1 (by rfl) T.z_range (pa_cons (pe_callB call_len_seq (by rfl) T.z_len (by decide +kernel) (pa_cons (pv 3) pa_nil)) pa_nil)) (pg_name (i := 12) sc__law_offsets.nd rfl (.inl rfl)) (pss_one (ps_if (pt_cmpR (op_eqD hr.units) (pe_slice sl_tupAM (pe_ix ix_seq (pv 3) (pv 12) (fun _ _ => rfl)) po_none (po_some pe_int)) (pv 11) (nomark _)) (pss_one (ps_dput hu1 (pv 6) (pv 12) (pe_tupM (pa_cons (pv 7) (pa_cons (pv 8) pa_nil))) rfl)) pss_nil)))))))))
      (pss_one (ps_ret (pv 6))))))), ?_⟩
    obtain ⟨⟨h4, h9⟩, hstars, hnd, h20, hcam⟩ := sky_parts hsky
    obtain ⟨x, y, q, rfl, x0, x1, y0, y1, q0, q3⟩ := pose_form hpose
    obtain ⟨r, b, g, l, rfl, c1, c2, c3, c4, c5, c6, c7, c8, c9, c10⟩ := cam_form hcam
    rw [keys_len] at h20
    have hn : 0 < n := by omega
    refine ⟨.ref pp, rfl, pp, _, rfl, hpp, rfl, _, _, rfl, _, _, rfl, _, _, rfl, rfl, ?_⟩
    refine ⟨.ref ck, rfl, .inr (.inl ⟨ck, _, 0, .int r, rfl, rfl, hc, rfl, .ref ck, rfl, .inr (.inl ⟨ck, _, 1, .int b, rfl, rfl, hc, rfl, _, _, rfl, rfl, ?_⟩)⟩)⟩
    refine fun d nd => ?_
    have s1 : Same H (upd H d (.dK [])) := same_new nd
    have ed1 : (upd H d (.dK [])) d = some (.dK (shownK [])) := upd_same
    generalize upd H d (.dK []) = H1 at s1 ed1 ⊢
    refine ⟨_, rfl, _, _, rfl, rfl, _, rfl, _, _, rfl, rfl, ?_⟩
    refine ⟨0 - (r + b), r + b + 1, rfl, ⟨by omega, by omega, by omega, by omega⟩, for_range (lo := 0 - (r + b)) (n := (r + b + 1 - (0 - (r + b))).toNat) (fun i σ H2 => ∃ (z7 z8 z9 z10 z11 z12 : Option V) (zs : Shown), σ = [some (.ref pp), some (.ref pa), some (.int n), some (.ref lk), some (.ref ck), some (.int (r + b)), some (.ref d), z7, z8, z9, z10, z11, z12] ∧ Same H H2 ∧ H2 d = some (.dK (shownK zs)) ∧ ShownAt K H2 zs ∧ OffV n [r, b, g, l] [x, y, q] (keys ks) (fun u _ _ => u < 0 - (r + b) + (i : Nat)) zs ∧ zs.length ≤ 180 * i)
      ⟨_, _, _, _, _, _, [], rfl, s1, ed1, (fun z hz => by cases hz), ⟨(fun z hz => by cases hz), fun m k' u v hk e hv => by have := off_some3 (List.all_eq_true.mp hstars k' (List.mem_of_getElem? hk)) e; omega⟩, Nat.zero_le _⟩ ?_ ?_⟩
    · rintro i σ H2 hi ⟨z7, z8, z9, z10, z11, z12, zs, rfl, S2, e2, t2, V2, L2⟩
      have hdx : -(r + b) ≤ 0 - (r + b) + (i : Nat) ∧ 0 - (r + b) + (i : Nat) ≤ r + b := by omega
      have hi9 : i < 9 := by omega
      generalize edx : 0 - (r + b) + ((i : Nat) : Int) = dx at hdx V2 ⊢
      refine ⟨_, rfl, _, _, rfl, rfl, _, rfl, _, _, rfl, rfl, ?_⟩
      refine ⟨0 - (r + b), r + b + 1, rfl, ⟨by omega, by omega, by omega, by omega⟩, for_range (lo := 0 - (r + b)) (n := (r + b + 1 - (0 - (r + b))).toNat) (fun j σ H3 => ∃ (z8 z9 z10 z11 z12 : Option V) (zs : Shown), σ = [some (.ref pp), some (.ref pa), some (.int n), some (.ref lk), some (.ref ck), some (.int (r + b)), some (.ref d), some (.int dx), z8, z9, z10, z11, z12] ∧ Same H H3 ∧ H3 d = some (.dK (shownK zs)) ∧ ShownAt K H3 zs ∧ OffV n [r, b, g, l] [x, y, q] (keys ks) (fun u v _ => u < dx ∨ (u = dx ∧ v < 0 - (r + b) + (j : Nat))) zs ∧ zs.length ≤ 180 * i + 20 * j)
        ⟨_, _, _, _, _, zs, rfl, S2, e2, t2, V2.imp (fun m k' u v hk e => by have := off_some3 (List.all_eq_true.mp hstars k' (List.mem_of_getElem? hk)) e; omega), by omega⟩ ?_ ?_⟩
      · rintro j σ H3 hj ⟨z8, z9, z10, z11, z12, zs, rfl, S3, e3, t3, V3, L3⟩
        have hdy : -(r + b) ≤ 0 - (r + b) + (j : Nat) ∧ 0 - (r + b) + (j : Nat) ≤ r + b := by omega
        have hj9 : j < 9 := by omega
        generalize edy : 0 - (r + b) + ((j : Nat) : Int) = dy at hdy V3 ⊢
        have hpa3 := sqT_up S3 hpa
        refine ⟨.ref pa, rfl, .inr (.inl ⟨pa, _, 2, .int q, rfl, rfl, hpa3, rfl, _, rfl, _, rfl, q, dx, dy, rfl, q0, q3, fun H4 t4 s4 tt4 => ?_⟩)⟩
        refine ⟨t4, _, rfl, tt4, rfl, _, _, rfl, _, _, rfl, rfl, ?_⟩
        have hpa4 := sqT_up s4 hpa3
        refine ⟨.ref pa, rfl, .inr (.inl ⟨pa, _, 0, .int x, rfl, rfl, hpa4, rfl, _, rfl, _, _, rfl, rfl, .inl ⟨_, rfl, _, rfl, _, _, rfl, rfl, hn, ?_⟩⟩)⟩
        refine ⟨.ref pa, rfl, .inr (.inl ⟨pa, _, 1, .int y, rfl, rfl, hpa4, rfl, _, rfl, _, _, rfl, rfl, .inl ⟨_, rfl, _, rfl, _, _, rfl, rfl, hn, (by show 2 ≤ sizeLine; decide), fun ph H5 s5 t5 => ?_⟩⟩)⟩
        have S5 := (S3.trans s4).trans s5
        have e5 := s5 _ _ (s4 _ _ e3)
        have th5 : ShownAt K H5 zs := fun z hz => sqT_up (s4.trans s5) (t3 z hz)
        refine ⟨.ref lk, rfl, lk, _, rfl, .inl (S5.seq hl), _, rfl, by omega, by rw [refs_len]; omega, for_range (lo := 0) (n := (refs ks).length) (fun m σ H6 => ∃ (z12 : Option V) (zs : Shown), σ = [some (.ref pp), some (.ref pa), some (.int n), some (.ref lk), some (.ref ck), some (.int (r + b)), some (.ref d), some (.int dx), some (.int dy), some (.int (turnX q dx dy)), some (.int (turnY q dx dy)), some (.ref ph), z12] ∧ SqT K H6 ph ([(x + turnX q dx dy) % n, (y + turnY q dx dy) % n].map V.int) ∧ Same H H6 ∧ H6 d = some (.dK (shownK zs)) ∧ ShownAt K H6 zs ∧ OffV n [r, b, g, l] [x, y, q] (keys ks) (fun u v m' => u < dx ∨ (u = dx ∧ (v < dy ∨ (v = dy ∧ m' < m)))) zs ∧ zs.length ≤ 180 * i + 20 * j + m)
          ⟨_, zs, rfl, t5, S5, e5, th5, V3.imp (fun m k' u v hk e => by omega), by omega⟩ ?_ ?_⟩
        · rintro m σ H6 hm ⟨z12, zs, rfl, s56, S6, e6, t6, V6, L6⟩
          have hm' : m < ks.length := by rw [refs_len] at hm; exact hm
          have hks : ks[m]? = some ks[m] := List.getElem?_eq_getElem hm'
          have hkm : ks[m] ∈ ks := List.getElem_mem hm'
          have hkey : (keys ks)[m]? = some ks[m].2 := by unfold keys; rw [List.getElem?_map, hks]; rfl
          obtain ⟨sx, sy, bb, e3', f0, f1, f2, f3, _⟩ := star_form (List.all_eq_true.mp hstars ks[m].2 (List.mem_of_getElem? hkey))
          have hat : atI (refs ks) (0 + (m : Nat)) = some (.ref ks[m].1) := by
            rw [Int.zero_add]
            exact atI_nat (by unfold refs; rw [List.getElem?_map, hks]; rfl)
          have hp6 := sqT_up S6 (ht ks[m] hkm)
          rw [e3'] at hp6 hkey
          refine ⟨.ref lk, rfl, _, rfl, .inl ⟨lk, _, _, _, rfl, rfl, S6.seq hl, hat, _, rfl, ks[m].1, _, rfl, hp6, fun p7 H7 s7 t7 => ?_⟩⟩
          have t7' : SqT K H7 p7 ([sx, sy].map V.int) := t7
          refine ⟨.ref ph, rfl, dTI [sx, sy], dTI [(x + turnX q dx dy) % n, (y + turnY q dx dy) % n], dp_ti t7', dp_ti (sqT_up s7 s56), shaped_of (lay_ti _) (by decide), shaped_of (lay_ti _) (by decide), ?_⟩
          rw [eqv_ti]
          have hiff := off_iff (n := n) (r := r) (b := b) (g := g) (l := l) (x := x) (y := y) (q := q) (sx := sx) (sy := sy) (bb := bb) h4 h9 c10 q0 q3 hdx.1 hdx.2 hdy.1 hdy.2
          have heq : ([sx, sy] = [(x + turnX q dx dy) % n, (y + turnY q dx dy) % n]) ↔ offI n [r, b, g, l] [x, y, q] [sx, sy, bb] = some (dx, dy) := by
            rw [← hiff]
            have m1 : ∀ w s : Int, 0 ≤ s → s < n → (s = w % n ↔ (w - s) % n = 0) := fun w s s0 s1 => by
              rw [← Int.emod_emod_of_dvd w (Int.dvd_refl n), Int.emod_emod_of_dvd w (Int.dvd_refl n), Int.sub_emod]
              have w0 := Int.emod_nonneg w (show n ≠ 0 by omega)
              have w1 := Int.emod_lt_of_pos w hn
              rw [Int.emod_eq_of_lt s0 s1]
              constructor
              · rintro e
                rw [← e, Int.sub_self]
                rfl
              · intro e
                obtain ⟨c, ec⟩ := Int.dvd_of_emod_eq_zero e
                have hc0 : c = 0 := by
                  by_cases hc1 : 1 ≤ c
                  · have := Int.mul_le_mul_of_nonneg_left hc1 (show 0 ≤ n by omega)
                    omega
                  · by_cases hc2 : c ≤ -1
                    · have := Int.mul_le_mul_of_nonneg_left hc2 (show 0 ≤ n by omega)
                      omega
                    · omega
                rw [hc0, Int.mul_zero] at ec
                omega
            rw [← m1 _ _ f0 f1, ← m1 _ _ f2 f3]
            simp
          have e7 := s7 _ _ e6
          have t7z : ShownAt K H7 zs := fun z hz => sqT_up s7 (t6 z hz)
          have S7 := S6.trans s7
          refine ⟨_, rfl, ite2 (fun g1 => ?_) (fun g1 => ?_)⟩
          · have eo := heq.mp (of_decide_eq_true g1)
            have fresh : ∀ z ∈ zs, z.1 ≠ 0 + (m : Int) := fun z hz ez => by
              obtain ⟨m2, k2, u, v, h1, h2, h3, _, h5⟩ := V6.from_ z hz
              have em : m2 = m := by omega
              rw [em, hkey] at h2
              rw [← Option.some.inj h2, eo] at h3
              injection h3 with h3
              injection h3 with hu hv
              omega
            refine ⟨_, rfl, _, rfl, (by show 2 ≤ sizeLine; decide), fun p8 H8 s8 t8 => ?_⟩
            have e8 := s8 _ _ e7
            refine ⟨.ref d, rfl, _, rfl, d, _, rfl, DPut.k (k := .inl (0 + (m : Int))) e8 (by rw [shown_len]; exact sizeN (by omega)), ?_⟩
            rw [put_fresh fresh, show shownK zs ++ [(Sum.inl (0 + (m : Int)), V.ref p8)] = shownK (zs ++ [(0 + (m : Int), p8, [dx, dy])]) from shown_push zs (0 + (m : Int), p8, [dx, dy])]
            refine ⟨_, zs ++ [(0 + (m : Int), p8, [dx, dy])], rfl, ?_, same_put nd (S7.trans s8), upd_same, ?_, ⟨fun z hz => ?_, fun m2 k2 u v hk2 ho hv => ?_⟩, by rw [List.length_append]; show zs.length + 1 ≤ _; omega⟩
            · exact sqT_dk e8 (sqT_up (s7.trans s8) s56)
            · intro z hz
              rcases List.mem_append.mp hz with hz | hz
              · exact sqT_dk e8 (sqT_up s8 (t7z z hz))
              · rw [List.mem_singleton.mp hz]
                exact sqT_dk e8 t8
            · rcases List.mem_append.mp hz with hz | hz
              · obtain ⟨m2, k2, u, v, h1, h2, h3, h4', h5⟩ := V6.from_ z hz
                exact ⟨m2, k2, u, v, h1, h2, h3, h4', by omega⟩
              · rw [List.mem_singleton.mp hz]
                exact ⟨m, _, dx, dy, by show 0 + (m : Int) = m; omega, hkey, eo, rfl, by omega⟩
            · by_cases hold : u < dx ∨ (u = dx ∧ (v < dy ∨ (v = dy ∧ m2 < m)))
              · obtain ⟨z, hz, ez⟩ := V6.to m2 k2 u v hk2 ho hold
                exact ⟨z, List.mem_append_left _ hz, ez⟩
              · have em : m2 = m := by omega
                exact ⟨_, List.mem_append_right _ (List.mem_singleton.mpr rfl), by show 0 + (m : Int) = m2; omega⟩
          · refine ⟨_, zs, rfl, sqT_up s7 s56, S7, e7, t7z, ⟨fun z hz => ?_, fun m2 k2 u v hk2 ho hv => ?_⟩, by omega⟩
            · obtain ⟨m2, k2, u, v, h1, h2, h3, h4', h5⟩ := V6.from_ z hz
              exact ⟨m2, k2, u, v, h1, h2, h3, h4', by omega⟩
            · refine V6.to m2 k2 u v hk2 ho ?_
              by_cases em : u = dx ∧ v = dy ∧ m2 = m
              · obtain ⟨rfl, rfl, rfl⟩ := em
                rw [hkey] at hk2
                rw [← Option.some.inj hk2] at ho
                exact absurd (decide_eq_true (heq.mpr ho)) g1
              · omega
        · rintro σ H6 ⟨z12, zs, rfl, s56, S6, e6, t6, V6, L6⟩
          rw [refs_len] at L6
          refine ⟨_, _, _, _, _, zs, rfl, S6, e6, t6, V6.imp (fun m k' u v hk e => ?_), by omega⟩
          have hm : m < (keys ks).length := (List.getElem?_eq_some_iff.mp hk).1
          rw [keys_len] at hm
          rw [refs_len]
          omega
      · rintro σ H3 ⟨z8, z9, z10, z11, z12, zs, rfl, S3, e3, t3, V3, L3⟩
        refine ⟨_, _, _, _, _, _, zs, rfl, S3, e3, t3, V3.imp (fun m k' u v hk e => ?_), by omega⟩
        have := off_some3 (List.all_eq_true.mp hstars k' (List.mem_of_getElem? hk)) e
        omega
    · rintro σ H2 ⟨z7, z8, z9, z10, z11, z12, zs, rfl, S2, e2, t2, V2, L2⟩
      refine ⟨.ref d, rfl, k H2 d zs S2 ⟨e2, t2, fun m k' hk => V2.val (fun u v e => ?_) hk⟩⟩
      have := off_some3 (List.all_eq_true.mp hstars k' (List.mem_of_getElem? hk)) e
      omega

theorem ok__law_seen (T : Txt P K mg a) : FnOk P w K mg base CX0 3 a.f__law_seen a.fd__law_seen ["parts", "attitude"] (spSeenL K) := by
  refine T.F__law_seen.ok sc__law_seen (fun vs H Q E h => ?_) (fun cdv A outer s H vs Q E hr h => ?_)
  · obtain ⟨pp, pa, n, ks, cam, at_, rfl, _⟩ := h
    rfl
  · obtain ⟨pp, pa, n, ks, cam, at_, rfl, hP, hsky, hpa, hpose, k⟩ := h
    have hu1 : (A.deeper (envOfC "_law_seen" (defScope s__law_seen) s.heap.objs.size a.f__law_seen cdv)).units + 1 < cLine := by
      have := hr.un
      omega
    refine ⟨_, (pss_cons (ps_set (i := 2) sc__law_seen.nd rfl (.inl rfl) (pe_call (ok__law_offsets T) (hr.mono (by decide)) (by rfl) T.m__law_offsets T.F__law_offsets.kp T.b__law_offsets .nil pass0 (pa_cons (pv 0) (pa_cons (pv 1) pa_nil))))
      (pss_cons (ps_set (i := 3) sc__law_seen.nd rfl (.inl rfl) pe_dnewK)
      (pss_cons (ps_for PassesOwn.never rfl (pi_range1 (by rfl) T.z_range (pa_cons (pe_callB call_len_seq (by rfl) T.z_len (by decide +kernel) (pa_cons (pe_ix ix_seq (pv 0) pe_int (fun _ _ => rfl)) pa_nil)) pa_nil)) (pg_name (i := 4) sc__law_seen.nd rfl (.inl rfl)) (pss_one (ps_if (PW.pt (pw_and (pt_cmp (pc_din hu1 (pv 4) (pv 2))) (pw_and1 (pt_cmpR op_ge (pe_ix ix_seq (pe_ix ix_seq (pe_ix ix_seq (pv 0) pe_int (fun _ _ => rfl)) (pv 4) (fun _ _ => rfl)) pe_int (fun _ _ => rfl)) (pe_op op_sub (pe_ix ix_seq (pe_ix ix_seq (pv 0) pe_int (fun _ _ => rfl)) pe_int (fun _ _ => rfl)) (pe_ix ix_seq (pe_ix ix_seq (pv 0) pe_int (fun _ _ => rfl)) pe_int (fun _ _ => rfl))) (nomark _))))) (pss_one (ps_dput hu1 (pv 3) (pv 4) (pe_dget hu1 (pv 2) (pv 4) (fun _ _ => rfl)) rfl)) pss_nil)))
      (pss_one (ps_ret (pv 3)))))), ?_⟩
    refine ⟨.ref pp, rfl, .ref pa, rfl, pp, pa, n, ks, cam, at_, rfl, hP, hsky, hpa, hpose, fun H1 d1 zs s1 hO => ?_⟩
    obtain ⟨⟨h4, h9⟩, hstars, hnd, h20, hcam⟩ := sky_parts hsky
    obtain ⟨r, b, g, l, rfl, c1, c2, c3, c4, c5, c6, c7, c8, c9, c10⟩ := cam_form hcam
    rw [keys_len] at h20
    refine fun d nd => ?_
    have s2 : Same H1 (upd H1 d (.dK [])) := same_new nd
    have ed2 : (upd H1 d (.dK [])) d = some (.dK (shownK [])) := upd_same
    generalize upd H1 d (.dK []) = H2 at s2 ed2 ⊢
    obtain ⟨lk, ck, hpp, hl, ht, hc⟩ := parts_up s1 hP
    refine ⟨.ref pp, rfl, .inr (.inl ⟨pp, _, 1, .ref lk, rfl, rfl, sqT_up s2 hpp, rfl, lk, _, rfl, .inl (s2.seq hl), ?_⟩)⟩
    refine ⟨_, rfl, by omega, by rw [refs_len]; omega, for_range (lo := 0) (n := (refs ks).length) (fun i σ H3 => ∃ (z4 : Option V) (ys : Shown), σ = [some (.ref pp), some (.ref pa), some (.ref d1), some (.ref d), z4] ∧ Same H1 H3 ∧ H3 d = some (.dK (shownK ys)) ∧ ShownAt K H3 ys ∧ (∀ z ∈ ys, z.1 < (i : Int)) ∧ (∀ m : Nat, m < i → atK (shownD ys) (m : Int) = (sO n [r, b, g, l] at_ (keys ks) m).map (·.take 2)) ∧ ys.length ≤ i)
      ⟨_, [], rfl, s2, ed2, (fun z hz => by cases hz), (fun z hz => by cases hz), (fun m hm => absurd hm (Nat.not_lt_zero m)), Nat.zero_le _⟩ ?_ ?_⟩
    · rintro i σ H3 hi ⟨z4, ys, rfl, S3, e3, t3, lt3, v3, l3⟩
      have hi' : i < ks.length := by rw [refs_len] at hi; exact hi
      have hks : ks[i]? = some ks[i] := List.getElem?_eq_getElem hi'
      have hkm : ks[i] ∈ ks := List.getElem_mem hi'
      have hkey : (keys ks)[i]? = some ks[i].2 := by unfold keys; rw [List.getElem?_map, hks]; rfl
      obtain ⟨sx, sy, bb, e3', _⟩ := star_form (List.all_eq_true.mp hstars ks[i].2 (List.mem_of_getElem? hkey))
      have hat : atI (refs ks) (0 + (i : Nat)) = some (.ref ks[i].1) := by
        rw [Int.zero_add]
        exact atI_nat (by unfold refs; rw [List.getElem?_map, hks]; rfl)
      have hp3 := sqT_up S3 (ht ks[i] hkm)
      rw [e3'] at hp3 hkey
      have hO3 := offD_up S3 hO
      have hv := hO3.val i _ hkey
      have hs := sO_eq (n := n) (cam := [r, b, g, l]) (at_ := at_) hkey
      rw [seenOne_eq] at hs
      have e0 : (0 + (i : Int)) = (i : Int) := by omega
      have stay : sO n [r, b, g, l] at_ (keys ks) i = none → ∃ (z4 : Option V) (ys' : Shown), [some (V.ref pp), some (.ref pa), some (.ref d1), some (.ref d), some (.int (0 + (i : Int)))] = [some (.ref pp), some (.ref pa), some (.ref d1), some (.ref d), z4] ∧ Same H1 H3 ∧ H3 d = some (.dK (shownK ys')) ∧ ShownAt K H3 ys' ∧ (∀ z ∈ ys', z.1 < ((i + 1 : Nat) : Int)) ∧ (∀ m : Nat, m < i + 1 → atK (shownD ys') (m : Int) = (sO n [r, b, g, l] at_ (keys ks) m).map (·.take 2)) ∧ ys'.length ≤ i + 1 := fun e => by
        refine ⟨_, ys, rfl, S3, e3, t3, (fun z hz => by have := lt3 z hz; omega), fun m hm => ?_, by omega⟩
        by_cases em : m = i
        · rw [em, at_lt lt3 (Int.le_refl _), e]
          rfl
        · exact v3 m (by omega)
      have hget := get_shown hO3.ed hO3.sh (0 + (i : Int))
      rw [e0] at hget
      cases eo : offI n [r, b, g, l] at_ [sx, sy, bb] with
      | none =>
        rw [eo] at hv hs
        refine ⟨_, rfl, .ref d1, rfl, d1, none, rfl, by rw [e0]; exact hget.1 hv, false, rfl, ?_⟩
        exact iteF (stay hs)
      | some p =>
        obtain ⟨u, v⟩ := p
        rw [eo] at hv hs
        obtain ⟨q, hq, tq⟩ := hget.2 [u, v] hv
        refine ⟨_, rfl, .ref d1, rfl, d1, _, rfl, by rw [e0]; exact hq, true, rfl, ?_⟩
        refine iteT ?_
        have hpp3 := sqT_up S3 hpp
        have hc3 := sqT_up S3 hc
        refine ⟨.ref pp, rfl, .inr (.inl ⟨pp, _, 1, .ref lk, rfl, rfl, hpp3, rfl, _, rfl, .inl ⟨lk, _, _, _, rfl, rfl, S3.seq hl, hat, .inr (.inl ⟨ks[i].1, _, 2, .int bb, rfl, rfl, hp3, rfl, ?_⟩)⟩⟩)⟩
        refine ⟨.ref pp, rfl, .inr (.inl ⟨pp, _, 2, .ref ck, rfl, rfl, hpp3, rfl, .inr (.inl ⟨ck, _, 3, .int l, rfl, rfl, hc3, rfl, ?_⟩)⟩)⟩
        refine ⟨.ref pp, rfl, .inr (.inl ⟨pp, _, 2, .ref ck, rfl, rfl, hpp3, rfl, .inr (.inl ⟨ck, _, 2, .int g, rfl, rfl, hc3, rfl, ?_⟩)⟩)⟩
        repeat (first | refine ⟨_, rfl, ?_⟩ | refine ⟨_, _, rfl, rfl, ?_⟩)
        refine ite2 (fun g1 => ?_) (fun g1 => stay (by rw [hs]; exact if_neg fun z => g1 (decide_eq_true z)))
        have hb := of_decide_eq_true g1
        refine ⟨.ref d1, rfl, _, rfl, d1, _, rfl, by rw [e0]; exact hq, .ref d, rfl, _, rfl, d, _, rfl, DPut.k (k := .inl (0 + (i : Int))) e3 (by rw [shown_len]; exact sizeN (by omega)), ?_⟩
        rw [put_fresh (fun z hz => by have := lt3 z hz; omega), show shownK ys ++ [(Sum.inl (0 + (i : Int)), V.ref q)] = shownK (ys ++ [(0 + (i : Int), q, [u, v])]) from shown_push ys (0 + (i : Int), q, [u, v])]
        refine ⟨_, ys ++ [(0 + (i : Int), q, [u, v])], rfl, same_put nd S3, upd_same, fun z hz => ?_, fun z hz => ?_, fun m hm => ?_, by rw [List.length_append]; show ys.length + 1 ≤ _; omega⟩
        · rcases List.mem_append.mp hz with hz | hz
          · exact sqT_dk e3 (t3 z hz)
          · rw [List.mem_singleton.mp hz]
            exact sqT_dk e3 tq
        · rcases List.mem_append.mp hz with hz | hz
          · have := lt3 z hz
            omega
          · rw [List.mem_singleton.mp hz]
            show 0 + (i : Int) < _
            omega
        · rw [at_push]
          by_cases em : m = i
          · rw [em, at_lt lt3 (Int.le_refl _), if_pos (show 0 + (i : Int) = (i : Int) by omega), hs]
            show some [u, v] = (if l - g ≤ bb then some [u, v, bb] else none).map (·.take 2)
            rw [if_pos hb]
            rfl
          · rw [v3 m (by omega), if_neg (show ¬ (0 + (i : Int) = (m : Int)) by omega)]
            cases (sO n [r, b, g, l] at_ (keys ks) m).map (·.take 2) <;> rfl
    · rintro σ H3 ⟨z4, ys, rfl, S3, e3, t3, lt3, v3, l3⟩
      refine ⟨.ref d, rfl, k H3 d ys (s1.trans S3) ⟨e3, t3, fun m hm => v3 m ?_⟩⟩
      rw [refs_len, ← keys_len]
      exact hm

theorem ok__law_common (T : Txt P K mg a) : FnOk P w K mg base CX0 1 a.f__law_common a.fd__law_common ["low", "high", "one", "other", "by"] spCommon := by
  refine T.F__law_common.ok sc__law_common (fun vs H Q E h => ?_) (fun cdv A outer s H vs Q E hr h => ?_)
  · obtain ⟨lo, hi, x, y, by', rfl, _⟩ := h
    rfl
  · obtain ⟨lo, hi, x, y, by', rfl, l0, l1, h0, h1, k⟩ := h
    refine ⟨_, (pss_one (ps_ret (pe_callB (cr_any rfl) (by rfl) T.z_any (by decide +kernel) (pa_cons (pe_lc (g := gName 5) (tt := tYes) (own := [("k", 5)]) rfl sc__law_common.nd (pi_range2 (by rfl) T.z_range (pa_cons (pv 0) (pa_cons (pe_op op_add (pv 1) pe_int) pa_nil))) (blkOk_by (own := [("k", 5)]) (N := ["low", "high", "one", "other", "by", "k"]) (sc := defScope s__law_common) (by decide +kernel)) (fun _ _ _ _ _ => (pg_name (i := 5) sc__law_common.nd rfl (.inl rfl))) (fun _ _ _ _ _ => pts_nil) (fun _ _ _ _ _ => (pe_and (pe_cmpR op_le (pe_callB call_abs (by rfl) T.z_abs (by decide +kernel) (pa_cons (pe_op op_sub (pv 5) (pv 2)) pa_nil)) (pv 4) (nomark _)) (pe_one (pe_cmpR op_le (pe_callB call_abs (by rfl) T.z_abs (by decide +kernel) (pa_cons (pe_op op_sub (pv 5) (pv 3)) pa_nil)) (pv 4) (nomark _)))))) pa_nil)))), ?_⟩
    repeat (first | refine ⟨_, rfl, ?_⟩ | refine ⟨_, _, rfl, rfl, ?_⟩)
    refine ⟨lo, hi + 1, rfl, ⟨by omega, by omega, by omega, by omega⟩, fun D nD => lc_range (lo := lo) (n := (hi + 1 - lo).toNat) (fun i H2 => ∃ bs : List Bool, Same H H2 ∧ H2 D = some (.lst (bs.map V.bl)) ∧ bs.length = i ∧ (bs.any id = true ↔ ∃ k, lo ≤ k ∧ k < lo + (i : Int) ∧ iabs (k - x) ≤ by' ∧ iabs (k - y) ≤ by')) ⟨[], same_new nD, upd_same, rfl, (fun h => by cases h), fun ⟨k, a1, a2, _⟩ => by omega⟩ ?_ ?_⟩
    · rintro i H2 hi' ⟨bs, S2, e2, l2, b2⟩
      refine ⟨rfl, ?_⟩
      have hi2 : i ≤ 3000 := by
        clear b2 l2 e2
        omega
      have ab : ∀ z : Int, (if z < 0 then -z else z) = iabs z := fun z => rfl
      have push : ∀ c : Bool, (c = true ↔ iabs (lo + (i : Int) - x) ≤ by' ∧ iabs (lo + (i : Int) - y) ≤ by') → ∃ acc, H2 D = some (.lst acc) ∧ acc.length < sizeLine ∧ ∃ bs : List Bool, Same H (upd H2 D (.lst (acc ++ [V.bl c]))) ∧ upd H2 D (.lst (acc ++ [V.bl c])) D = some (.lst (bs.map V.bl)) ∧ bs.length = i + 1 ∧ (bs.any id = true ↔ ∃ k, lo ≤ k ∧ k < lo + ((i + 1 : Nat) : Int) ∧ iabs (k - x) ≤ by' ∧ iabs (k - y) ≤ by') := fun c hc => by
        refine ⟨_, e2, sizeN (by rw [List.length_map, l2]; omega), bs ++ [c], same_put nD S2, by rw [upd_same, List.map_append]; rfl, by rw [List.length_append, l2]; rfl, ?_⟩
        rw [List.any_append, Bool.or_eq_true, b2]
        show _ ∨ (c || false) = true ↔ _
        rw [Bool.or_false, hc]
        clear b2 hc l2 hi' hi2
        have step : ∀ z : Int, z < lo + ((i + 1 : Nat) : Int) ↔ z < lo + (i : Int) ∨ z = lo + (i : Int) := fun z => by omega
        constructor
        · rintro (⟨k, a1, a2, a3⟩ | h)
          · exact ⟨k, a1, (step k).mpr (.inl a2), a3⟩
          · exact ⟨lo + i, by omega, (step _).mpr (.inr rfl), h⟩
        · rintro ⟨k, a1, a2, a3⟩
          rcases (step k).mp a2 with h | e
          · exact .inl ⟨k, a1, h, a3⟩
          · exact .inr (e ▸ a3)
      repeat (first | refine ⟨_, rfl, ?_⟩ | refine ⟨_, _, rfl, rfl, ?_⟩)
      refine ite2 (fun g1 => ?_) (fun g1 => push false ⟨(fun z => by cases z), fun z => absurd (decide_eq_true z.1) g1⟩)
      repeat (first | refine ⟨_, rfl, ?_⟩ | refine ⟨_, _, rfl, rfl, ?_⟩)
      refine push _ ?_
      show decide (_ ≤ by') = true ↔ _
      rw [decide_eq_true_iff]
      exact ⟨fun z => ⟨of_decide_eq_true g1, z⟩, fun z => z.2⟩
    · rintro H2 ⟨bs, S2, e2, l2, b2⟩
      refine ⟨D, bs, rfl, .inl (.inl e2), k H2 _ S2 ?_⟩
      rw [b2]
      constructor
      · rintro ⟨k, a1, a2, a3⟩
        exact ⟨k, a1, by omega, a3⟩
      · rintro ⟨k, a1, a2, a3⟩
        exact ⟨k, a1, by omega, a3⟩

theorem ok__law_links (T : Txt P K mg a) : FnOk P w K mg base CX0 4 a.f__law_links a.fd__law_links ["parts", "one", "other"] (spLinksL K) := by
  refine T.F__law_links.ok sc__law_links (fun vs H Q E h => ?_) (fun cdv A outer s H vs Q E hr h => ?_)
  · obtain ⟨pp, pa, pb, n, ks, cam, one, other, rfl, _⟩ := h
    rfl
  · obtain ⟨pp, pa, pb, n, ks, cam, one, other, rfl, hP, hsky, hpa, hone, hpb, hoth, k⟩ := h
    have hu1 : (A.deeper (envOfC "_law_links" (defScope s__law_links) s.heap.objs.size a.f__law_links cdv)).units + 1 < cLine := by
      have := hr.un
      omega
    refine ⟨_, (pss_cons (ps_asg (pe_ix ix_seq (pv 0) pe_int (fun _ _ => rfl)) (pg_tup rfl (pgs_cons (pg_name (i := 3) sc__law_links.nd rfl (.inl rfl)) (pgs_cons (pg_name (i := 4) sc__law_links.nd rfl (.inl rfl)) (pgs_cons (pg_name (i := 5) sc__law_links.nd rfl (.inl rfl)) (pgs_cons (pg_name (i := 6) sc__law_links.nd rfl (.inl rfl)) pgs_nil))))))
      (pss_cons (ps_par (i := 7) (j := 8) rfl sc__law_links.nd rfl rfl (by decide) rfl rfl (pa_cons (pe_call (ok__law_seen T) (hr.mono (by decide)) (by rfl) T.m__law_seen T.F__law_seen.kp T.b__law_seen .nil pass0 (pa_cons (pv 0) (pa_cons (pv 1) pa_nil))) (pa_cons (pe_call (ok__law_seen T) (hr.mono (by decide)) (by rfl) T.m__law_seen T.F__law_seen.kp T.b__law_seen .nil pass0 (pa_cons (pv 0) (pa_cons (pv 2) pa_nil))) pa_nil)) rfl)
      (pss_cons (ps_set (i := 9) sc__law_links.nd rfl (.inl rfl) (pe_lstM pa_nil))
      (pss_cons (ps_for PassesOwn.never rfl (pi_range1 (by rfl) T.z_range (pa_cons (pe_callB call_len_seq (by rfl) T.z_len (by decide +kernel) (pa_cons (pe_ix ix_seq (pv 0) pe_int (fun _ _ => rfl)) pa_nil)) pa_nil)) (pg_name (i := 10) sc__law_links.nd rfl (.inl rfl)) (pss_one (ps_for PassesOwn.never rfl (pi_range1 (by rfl) T.z_range (pa_cons (pe_callB call_len_seq (by rfl) T.z_len (by decide +kernel) (pa_cons (pe_ix ix_seq (pv 0) pe_int (fun _ _ => rfl)) pa_nil)) pa_nil)) (pg_name (i := 11) sc__law_links.nd rfl (.inl rfl)) (pss_one (ps_if (PW.pt (pw_and (pt_cmp (pc_din hu1 (pv 10) (pv 7))) (pw_and (pt_cmp (pc_din hu1 (pv 11) (pv 8))) (pw_and1 (pt_val (pe_call (ok__law_common T) (hr.mono (by decide)) (by rfl) T.m__law_common T.F__law_common.kp T.b__law_common .nil pass0 (pa_cons (pv 6) (pa_cons (pe_op op_add pe_int (pv 5)) (pa_cons (pe_ix ix_seq (pe_ix ix_seq (pe_ix ix_seq (pv 0) pe_int (fun _ _ => rfl)) (pv 10) (fun _ _ => rfl)) pe_int (fun _ _ => rfl)) (pa_cons (pe_ix ix_seq (pe_ix ix_seq (pe_ix ix_seq (pv 0) pe_int (fun _ _ => rfl)) (pv 11) (fun _ _ => rfl)) pe_int (fun _ _ => rfl)) (pa_cons (pv 5) pa_nil))))))))))) (pss_one (ps_if (pt_val (pe_call (ok__law_common T) (hr.mono (by decide)) (by rfl) T.m__law_common T.F__law_common.kp T.b__law_common .nil pass0 (pa_cons (pe_op op_sub pe_int (pv 3)) (pa_cons (pv 3) (pa_cons (pe_ix ix_seq (pe_dget hu1 (pv 7) (pv 10) (fun _ _ => rfl)) pe_int (fun _ _ => rfl)) (pa_cons (pe_ix ix_seq (pe_dget hu1 (pv 8) (pv 11) (fun _ _ => rfl)) pe_int (fun _ _ => rfl)) (pa_cons (pv 4) pa_nil))))))) (pss_one (ps_if (pt_val (pe_call (ok__law_common T) (hr.mono (by decide)) (by rfl) T.m__law_common T.F__law_common.kp T.b__law_common .nil pass0 (pa_cons (pe_op op_sub pe_int (pv 3)) (pa_cons (pv 3) (pa_cons (pe_ix ix_seq (pe_dget hu1 (pv 7) (pv 10) (fun _ _ => rfl)) pe_int (fun _ _ => rfl)) (pa_cons (pe_ix ix_seq (pe_dget hu1 (pv 8) (pv 11) (fun _ _ => rfl)) pe_int (fun _ _ => rfl)) (pa_cons (pv 4) pa_nil))))))) (pss_one (ps_expr (pe_bm PySem.F.plainAttrs_list PySem.F.slot_list_append PySem.F.type_list_append mt_append (pv 9) (pa_cons (pe_tupM (pa_cons (pv 10) (pa_cons (pv 11) pa_nil))) pa_nil)))) pss_nil)) pss_nil)) pss_nil)))))
      (pss_one (ps_ret (pv 9))))))), ?_⟩
    obtain ⟨⟨h4, h9⟩, hstars, hnd, h20, hcam⟩ := sky_parts hsky
    obtain ⟨r, b, g, l, rfl, c1, c2, c3, c4, c5, c6, c7, c8, c9, c10⟩ := cam_form hcam
    have h20' := h20
    rw [keys_len] at h20
    obtain ⟨ox, oy, oq, pone, _⟩ := pose_form hone
    obtain ⟨tx, ty, tq, poth, _⟩ := pose_form hoth
    obtain ⟨lk0, ck0, hpp0, hl0, ht0, hc0⟩ := id hP
    refine ⟨.ref pp, rfl, .inr (.inl ⟨pp, _, 2, .ref ck0, rfl, rfl, hpp0, rfl, ck0, _, rfl, hc0, rfl, _, _, rfl, _, _, rfl, _, _, rfl, _, _, rfl, rfl, ?_⟩)⟩
    refine ⟨.ref pp, rfl, .ref pa, rfl, pp, pa, n, ks, _, one, rfl, hP, hsky, hpa, hone, fun H1 da za s1 hA => ?_⟩
    refine ⟨.ref pp, rfl, .ref pb, rfl, pp, pb, n, ks, _, other, rfl, parts_up s1 hP, hsky, sqT_up s1 hpb, hoth, fun H2 db zb s2 hB => ?_⟩
    refine ⟨_, _, rfl, Nat.zero_le _, fun lf H3 s3 nl el => ?_⟩
    have S3 := (s1.trans s2).trans s3
    obtain ⟨lk, ck, hpp, hl, ht, hc⟩ := parts_up S3 hP
    have hA3 := seenD_up (s2.trans s3) hA
    have hB3 := seenD_up s3 hB
    refine ⟨.ref pp, rfl, .inr (.inl ⟨pp, _, 1, .ref lk, rfl, rfl, hpp, rfl, lk, _, rfl, .inl hl, ?_⟩)⟩
    refine ⟨_, rfl, by omega, by rw [refs_len]; omega, for_range (lo := 0) (n := (refs ks).length) (fun i σ H4 => ∃ (z10 z11 : Option V) (es : Tups), σ = [some (.ref pp), some (.ref pa), some (.ref pb), some (.int r), some (.int b), some (.int g), some (.int l), some (.ref da), some (.ref db), some (.ref lf), z10, z11] ∧ Same H2 H4 ∧ H4 lf = some (.lst (refs es)) ∧ TupsAt K H4 es ∧ keys es = linksTo n [r, b, g, l] (keys ks) one other i ∧ es.length ≤ 20 * i)
      ⟨_, _, [], rfl, s3, el, (fun p hp => by cases hp), rfl, Nat.zero_le _⟩ ?_ ?_⟩
    · rintro i σ H4 hi ⟨z10, z11, es, rfl, S4, e4, t4, k4, l4⟩
      have hi' : i < ks.length := by rw [refs_len] at hi; exact hi
      obtain ⟨lk4, ck4, hpp4, hl4, ht4, hc4⟩ := parts_up ((s1.trans s2).trans S4) hP
      refine ⟨.ref pp, rfl, .inr (.inl ⟨pp, _, 1, .ref lk4, rfl, rfl, hpp4, rfl, lk4, _, rfl, .inl hl4, ?_⟩)⟩
      refine ⟨_, rfl, by omega, by rw [refs_len]; omega, for_range (lo := 0) (n := (refs ks).length) (fun j σ H5 => ∃ (z11 : Option V) (es : Tups), σ = [some (.ref pp), some (.ref pa), some (.ref pb), some (.int r), some (.int b), some (.int g), some (.int l), some (.ref da), some (.ref db), some (.ref lf), some (.int (0 + (i : Nat))), z11] ∧ Same H2 H5 ∧ H5 lf = some (.lst (refs es)) ∧ TupsAt K H5 es ∧ keys es = linksTo n [r, b, g, l] (keys ks) one other i ++ (((List.range j).filter (lkN n [r, b, g, l] (keys ks) one other i)).map fun c : Nat => [(i : Int), (c : Int)]) ∧ es.length ≤ 20 * i + j)
        ⟨_, es, rfl, S4, e4, t4, by rw [k4]; exact (List.append_nil _).symm, by omega⟩ ?_ ?_⟩
      · rintro j σ H5 hj ⟨z11, es, rfl, S5, e5, t5, k5, l5⟩
        have hj' : j < ks.length := by rw [refs_len] at hj; exact hj
        have S5' := (s1.trans s2).trans S5
        obtain ⟨lk5, ck5, hpp5, hl5, ht5, hc5⟩ := parts_up S5' hP
        have hA5 := seenD_up (s2.trans S5) hA
        have hB5 := seenD_up S5 hB
        have hva := hA5.val i (by rw [keys_len]; exact hi')
        have hvb := hB5.val j (by rw [keys_len]; exact hj')
        have hga := get_shown hA5.ed hA5.sh (0 + (i : Int))
        have hgb := get_shown hB5.ed hB5.sh (0 + (j : Int))
        have e0 : (0 + (i : Int)) = (i : Int) := by omega
        have e0' : (0 + (j : Int)) = (j : Int) := by omega
        rw [e0] at hga
        rw [e0'] at hgb
        have hfs : ((List.range (j + 1)).filter (lkN n [r, b, g, l] (keys ks) one other i)).map (fun c : Nat => [(i : Int), (c : Int)]) = ((List.range j).filter (lkN n [r, b, g, l] (keys ks) one other i)).map (fun c : Nat => [(i : Int), (c : Int)]) ++ (if lkN n [r, b, g, l] (keys ks) one other i j then [[(i : Int), (j : Int)]] else []) := by
          rw [List.range_succ, List.filter_append, List.map_append]
          congr 1
          cases z : lkN n [r, b, g, l] (keys ks) one other i j with
          | true => rw [List.filter_cons_of_pos (by exact z)]; rfl
          | false => rw [List.filter_cons_of_neg (by rw [z]; exact Bool.false_ne_true)]; rfl
        have stay : ∀ H6, Same H5 H6 → lkN n [r, b, g, l] (keys ks) one other i j = false → ∃ (z11 : Option V) (es' : Tups), [some (V.ref pp), some (.ref pa), some (.ref pb), some (.int r), some (.int b), some (.int g), some (.int l), some (.ref da), some (.ref db), some (.ref lf), some (.int (0 + (i : Nat))), some (.int (0 + (j : Nat)))] = [some (.ref pp), some (.ref pa), some (.ref pb), some (.int r), some (.int b), some (.int g), some (.int l), some (.ref da), some (.ref db), some (.ref lf), some (.int (0 + (i : Nat))), z11] ∧ Same H2 H6 ∧ H6 lf = some (.lst (refs es')) ∧ TupsAt K H6 es' ∧ keys es' = linksTo n [r, b, g, l] (keys ks) one other i ++ (((List.range (j + 1)).filter (lkN n [r, b, g, l] (keys ks) one other i)).map fun c : Nat => [(i : Int), (c : Int)]) ∧ es'.length ≤ 20 * i + (j + 1) := fun H6 s6 e => by
          rw [e] at hfs
          exact ⟨_, es, rfl, S5.trans s6, s6 _ _ e5, tups_up s6 t5, by rw [hfs, k5]; exact congrArg _ (List.append_nil _).symm, by omega⟩
        cases ea : sO n [r, b, g, l] one (keys ks) i with
        | none =>
          rw [ea] at hva
          refine ⟨_, rfl, .ref da, rfl, da, none, rfl, by rw [e0]; exact hga.1 hva, false, rfl, ?_⟩
          refine iteF ?_
          refine iteF (stay H5 (Same.refl _) ?_)
          unfold lkN
          rw [ea]
        | some d =>
          obtain ⟨u, v, c, rfl, ⟨ax, ay, hka⟩, u0, u1, v0, v1, w0, w1⟩ := sO_parts pone hstars ea
          rw [ea] at hva
          obtain ⟨qa, hqa, tqa⟩ := hga.2 [u, v] hva
          refine ⟨_, rfl, .ref da, rfl, da, _, rfl, by rw [e0]; exact hqa, true, rfl, ?_⟩
          refine iteT ?_
          cases eb : sO n [r, b, g, l] other (keys ks) j with
          | none =>
            rw [eb] at hvb
            refine ⟨_, rfl, .ref db, rfl, db, none, rfl, by rw [e0']; exact hgb.1 hvb, false, rfl, ?_⟩
            refine iteF ?_
            refine iteF (stay H5 (Same.refl _) ?_)
            unfold lkN
            rw [ea, eb]
          | some e =>
            obtain ⟨x, y, c', rfl, ⟨bx, by_, hkb⟩, x0, x1, y0, y1, z0, z1⟩ := sO_parts poth hstars eb
            rw [eb] at hvb
            obtain ⟨qb, hqb, tqb⟩ := hgb.2 [x, y] hvb
            refine ⟨_, rfl, .ref db, rfl, db, _, rfl, by rw [e0']; exact hqb, true, rfl, ?_⟩
            refine iteT ?_
            have elk : lkN n [r, b, g, l] (keys ks) one other i j = (decide (-(2 * b) ≤ u - x) && decide (u - x ≤ 2 * b) && (decide (-(2 * b) ≤ v - y) && decide (v - y ≤ 2 * b)) && (decide (-(2 * g) ≤ c - c') && decide (c - c' ≤ 2 * g))) := by
              unfold lkN
              rw [ea, eb]
              rfl
            obtain ⟨qi, hqi, hqk⟩ := keys_at hka
            obtain ⟨qj, hqj, hqk'⟩ := keys_at hkb
            have hati : atI (refs ks) (0 + (i : Nat)) = some (.ref qi.1) := by
              rw [e0]
              exact atI_nat (by unfold refs; rw [List.getElem?_map, hqi]; rfl)
            have hatj : atI (refs ks) (0 + (j : Nat)) = some (.ref qj.1) := by
              rw [e0']
              exact atI_nat (by unfold refs; rw [List.getElem?_map, hqj]; rfl)
            have tqi := ht5 qi (List.mem_of_getElem? hqi)
            have tqj := ht5 qj (List.mem_of_getElem? hqj)
            rw [hqk] at tqi
            rw [hqk'] at tqj
            -- brightnesses
            refine ⟨_, rfl, _, rfl, _, _, rfl, rfl, ?_⟩
            refine ⟨.ref pp, rfl, .inr (.inl ⟨pp, _, 1, .ref lk5, rfl, rfl, hpp5, rfl, _, rfl, .inl ⟨lk5, _, _, _, rfl, rfl, hl5, hati, .inr (.inl ⟨qi.1, _, 2, .int c, rfl, rfl, tqi, rfl, ?_⟩)⟩⟩)⟩
            refine ⟨.ref pp, rfl, .inr (.inl ⟨pp, _, 1, .ref lk5, rfl, rfl, hpp5, rfl, _, rfl, .inl ⟨lk5, _, _, _, rfl, rfl, hl5, hatj, .inr (.inl ⟨qj.1, _, 2, .int c', rfl, rfl, tqj, rfl, ?_⟩)⟩⟩)⟩
            refine ⟨_, rfl, l, 9 + g, c, c', g, rfl, by omega, by omega, by omega, by omega, fun H6 b1 s6 hb1 => ⟨b1, rfl, ?_⟩⟩
            rw [clamp (by omega) c5 w0 (by omega) z0 (by omega)] at hb1
            refine ite2 (fun g1 => ?_) (fun g1 => stay H6 s6 ?_)
            rotate_left
            · rw [elk]
              by_cases h1 : -(2 * g) ≤ c - c'
              · by_cases h2 : c - c' ≤ 2 * g
                · exact absurd (hb1.mpr ⟨h1, h2⟩) g1
                · rw [decide_eq_false h2, Bool.and_false, Bool.and_false]
              · rw [decide_eq_false h1, Bool.false_and, Bool.and_false]
            have hg1 := hb1.mp g1
            have hA6 := seenD_up s6 hA5
            have hB6 := seenD_up s6 hB5
            have hga6 := (get_shown hA6.ed hA6.sh (0 + (i : Int))).2 [u, v] (by rw [e0]; exact hva)
            have hgb6 := (get_shown hB6.ed hB6.sh (0 + (j : Int))).2 [x, y] (by rw [e0']; exact hvb)
            obtain ⟨qa6, hqa6, tqa6⟩ := hga6
            obtain ⟨qb6, hqb6, tqb6⟩ := hgb6
            -- first parts
            refine ⟨_, rfl, _, _, rfl, rfl, _, rfl, ?_⟩
            refine ⟨.ref da, rfl, _, rfl, da, _, rfl, hqa6, .inr (.inl ⟨qa6, _, 0, .int u, rfl, rfl, tqa6, rfl, ?_⟩)⟩
            refine ⟨.ref db, rfl, _, rfl, db, _, rfl, hqb6, .inr (.inl ⟨qb6, _, 0, .int x, rfl, rfl, tqb6, rfl, ?_⟩)⟩
            refine ⟨_, rfl, 0 - r, r, u, x, b, rfl, by omega, by omega, by omega, by omega, fun H7 b2 s7 hb2 => ⟨b2, rfl, ?_⟩⟩
            rw [clamp (by omega) c3 (by omega) (by omega) (by omega) (by omega)] at hb2
            refine ite2 (fun g2 => ?_) (fun g2 => stay H7 (s6.trans s7) ?_)
            rotate_left
            · rw [elk]
              by_cases h1 : -(2 * b) ≤ u - x
              · by_cases h2 : u - x ≤ 2 * b
                · exact absurd (hb2.mpr ⟨h1, h2⟩) g2
                · rw [decide_eq_false h2, Bool.and_false, Bool.false_and, Bool.false_and]
              · rw [decide_eq_false h1, Bool.false_and, Bool.false_and, Bool.false_and]
            have hg2 := hb2.mp g2
            have hA7 := seenD_up s7 hA6
            have hB7 := seenD_up s7 hB6
            obtain ⟨qa7, hqa7, tqa7⟩ := (get_shown hA7.ed hA7.sh (0 + (i : Int))).2 [u, v] (by rw [e0]; exact hva)
            obtain ⟨qb7, hqb7, tqb7⟩ := (get_shown hB7.ed hB7.sh (0 + (j : Int))).2 [x, y] (by rw [e0']; exact hvb)
            -- second parts
            refine ⟨_, rfl, _, _, rfl, rfl, _, rfl, ?_⟩
            refine ⟨.ref da, rfl, _, rfl, da, _, rfl, hqa7, .inr (.inl ⟨qa7, _, 1, .int v, rfl, rfl, tqa7, rfl, ?_⟩)⟩
            refine ⟨.ref db, rfl, _, rfl, db, _, rfl, hqb7, .inr (.inl ⟨qb7, _, 1, .int y, rfl, rfl, tqb7, rfl, ?_⟩)⟩
            refine ⟨_, rfl, 0 - r, r, v, y, b, rfl, by omega, by omega, by omega, by omega, fun H8 b3 s8 hb3 => ⟨b3, rfl, ?_⟩⟩
            rw [clamp (by omega) c3 (by omega) (by omega) (by omega) (by omega)] at hb3
            have S8 := (s6.trans s7).trans s8
            refine ite2 (fun g3 => ?_) (fun g3 => stay H8 S8 ?_)
            rotate_left
            · rw [elk]
              by_cases h1 : -(2 * b) ≤ v - y
              · by_cases h2 : v - y ≤ 2 * b
                · exact absurd (hb3.mpr ⟨h1, h2⟩) g3
                · rw [decide_eq_false h2, Bool.and_false, Bool.and_false, Bool.false_and]
              · rw [decide_eq_false h1, Bool.false_and, Bool.and_false, Bool.false_and]
            have hg3 := hb3.mp g3
            have eT : lkN n [r, b, g, l] (keys ks) one other i j = true := by
              rw [elk, decide_eq_true hg1.1, decide_eq_true hg1.2, decide_eq_true hg2.1, decide_eq_true hg2.2, decide_eq_true hg3.1, decide_eq_true hg3.2]
              rfl
            rw [eT] at hfs
            have e8 := S8 _ _ e5
            refine ⟨.ref lf, rfl, .inl ⟨rfl, _, .inl (.inl e8)⟩, _, rfl, _, rfl, (by show 2 ≤ sizeLine; decide), fun p9 H9 s9 t9 => ?_⟩
            have e9 := s9 _ _ e8
            have t9' : SqT K H9 p9 ([(i : Int), (j : Int)].map V.int) := by rw [e0, e0'] at t9; exact t9
            refine ⟨lf, _, _, rfl, rfl, e9, sizeN (by rw [refs_len]; omega), ?_⟩
            refine ⟨_, es ++ [(p9, [(i : Int), (j : Int)])], rfl, same_put nl ((S5.trans S8).trans s9), by rw [upd_same, ← refs_push], tups_app (tups_put e9 (tups_up (S8.trans s9) t5)) (tups_one (sqT_lst e9 t9')), ?_, by rw [List.length_append]; show es.length + 1 ≤ _; omega⟩
            rw [keys_push, k5, hfs, List.append_assoc]
            rfl
      · rintro σ H5 ⟨z11, es, rfl, S5, e5, t5, k5, l5⟩
        rw [refs_len] at k5 l5
        refine ⟨_, _, es, rfl, S5, e5, t5, ?_, by omega⟩
        rw [k5, linksTo_succ, keys_len]
    · rintro σ H4 ⟨z10, z11, es, rfl, S4, e4, t4, k4, l4⟩
      rw [refs_len, ← keys_len] at k4
      exact ⟨.ref lf, rfl, k H4 lf es ((s1.trans s2).trans S4) e4 t4 k4⟩

theorem ok__law_called (T : Txt P K mg a) : FnOk P w K mg base (L2.CX P w) 10 a.f__law_called a.fd__law_called ["kind", "made", "one", "other"] (spCalled K a.c_Sky a.c_InvalidAttitude) := by
  refine T.F__law_called.okX sc__law_called (fun vs H Q E h => ?_) (fun cdv A outer s H vs Q E hr h => ?_)
  · obtain ⟨p, q, r, n, kind, ks, cam, one, other, bad, rfl, _⟩ := h
    rfl
  · obtain ⟨p, q, r, n, kind, ks, cam, one, other, bad, rfl, hK, hsky, h6, hq, hr', k0, k9, hB, k⟩ := h
    have hno : isPose n one = true → isPose n other = true → False := fun e1 e2 => by
      rcases hB with ⟨e, _⟩ | ⟨_, e, _⟩
      · rw [e1] at e; cases e
      · rw [e2] at e; cases e
    have te : ∀ (E' : XK) (H2 : Hp), Same H H2 → (∀ (d x : Addr) (H' : Hp), Same H H' → SqT K H' x (bad.map V.int) → H' d = some (.xd [("attitude", .ref x)]) → E' (.ref a.c_InvalidAttitude) (some d) H') → twoErr a.c_InvalidAttitude E' H2 q r n one other := fun E' H2 s2 kk => by
      refine ⟨fun e d H' s h => kk d q H' (s2.trans s) ?_ h, fun e1 e2 d H' s h => kk d r H' (s2.trans s) ?_ h⟩
      · rcases hB with ⟨_, rfl⟩ | ⟨e', _⟩
        · exact sqT_up (s2.trans s) hq
        · rw [e] at e'; cases e'
      · rcases hB with ⟨e', _⟩ | ⟨_, _, rfl, _⟩
        · rw [e1] at e'; cases e'
        · exact sqT_up (s2.trans s) hr'
    refine ⟨_, (C8.pss_cut (ps_if (pt_cmpR op_eq (pv 0) pe_int (nomark _)) (pss_one (ps_expr (pe_call (ok_linked T) (hr.mono (by decide)) (by rfl) T.m_linked T.F_linked.kp T.b_linked .nil (passes_call (takes_of rfl rfl rfl rfl) (fun _ _ _ _ h => h)) (pa_cons (pv 1) (pa_cons (pv 2) (pa_cons (pv 3) pa_nil)))))) pss_nil)
      (C8.pss_cut (ps_if (pt_cmpR op_eq (pv 0) pe_int (nomark _)) (pss_one (ps_expr (pe_call (ok_lack_confuse T) (hr.mono (by decide)) (by rfl) T.m_lack_confuse T.F_lack_confuse.kp T.b_lack_confuse .nil (passes_call (takes_of rfl rfl rfl rfl) (fun _ _ _ _ h => h)) (pa_cons (pv 1) (pa_cons (pv 2) (pa_cons (pv 3) pa_nil)))))) pss_nil)
      (C8.pss_cut (ps_if (pt_cmpR op_eq (pv 0) pe_int (nomark _)) (pss_one (ps_expr (pe_call (ok_unlikeness T) (hr.mono (by decide)) (by rfl) T.m_unlikeness T.F_unlikeness.kp T.b_unlikeness .nil (passes_call (takes_of rfl rfl rfl rfl) (fun _ _ _ _ h => h)) (pa_cons (pv 1) (pa_cons (pv 2) (pa_cons (pv 3) pa_nil)))))) pss_nil)
      (C8.pss_cut (ps_if (pt_cmpR op_eq (pv 0) pe_int (nomark _)) (pss_one (ps_expr (pe_call (ok_lacking_lot T) (hr.mono (by decide)) (by rfl) T.m_lacking_lot T.F_lacking_lot.kp T.b_lacking_lot .nil (passes_call (takes_of rfl rfl rfl rfl) (fun _ _ _ _ h => h)) (pa_cons (pv 1) (pa_cons (pv 2) (pa_cons (pv 3) pa_nil)))))) pss_nil)
      (C8.pss_cut (ps_if (pt_cmpR op_eq (pv 0) pe_int (nomark _)) (pss_one (ps_expr (pe_call (ok_couples T) (hr.mono (by decide)) (by rfl) T.m_couples T.F_couples.kp T.b_couples .nil (passes_call (takes_of rfl rfl rfl rfl) (fun _ _ _ _ h => h)) (pa_cons (pv 1) (pa_cons (pv 2) (pa_cons (pv 3) pa_nil)))))) pss_nil)
      (C8.pss_cut (ps_if (pt_cmpR op_eq (pv 0) pe_int (nomark _)) (pss_one (ps_expr (pe_call (ok_are_confusable T) (hr.mono (by decide)) (by rfl) T.m_are_confusable T.F_are_confusable.kp T.b_are_confusable .nil (passes_call (takes_of rfl rfl rfl rfl) (fun _ _ _ _ h => h)) (pa_cons (pv 1) (pa_cons (pv 2) (pa_cons (pv 3) (pa_cons pe_int (pa_cons pe_int pa_nil)))))))) pss_nil)
      (C8.pss_cut (ps_if (pt_cmpR op_eq (pv 0) pe_int (nomark _)) (pss_one (ps_expr (pe_call (ok_confusing_sighting T) (hr.mono (by decide)) (by rfl) T.m_confusing_sighting T.F_confusing_sighting.kp T.b_confusing_sighting .nil (passes_call (takes_of rfl rfl rfl rfl) (fun _ _ _ _ h => h)) (pa_cons (pv 1) (pa_cons (pv 2) (pa_cons (pv 3) (pa_cons pe_int (pa_cons pe_int pa_nil)))))))) pss_nil)
      (C8.pss_cut (ps_if (pt_cmpR op_eq (pv 0) pe_int (nomark _)) (pss_one (ps_expr (pe_call (ok_parting_paper T) (hr.mono (by decide)) (by rfl) T.m_parting_paper T.F_parting_paper.kp T.b_parting_paper .nil (passes_call (takes_of rfl rfl rfl rfl) (fun _ _ _ _ h => h)) (pa_cons (pv 1) (pa_cons (pv 2) (pa_cons (pv 3) (pa_cons pe_int (pa_cons pe_int pa_nil)))))))) pss_nil)
      (C8.pss_cut (ps_if (pt_cmpR op_eq (pv 0) pe_int (nomark _)) (pss_one (ps_expr (pe_call (ok_check_parting T) (hr.mono (by decide)) (by rfl) T.m_check_parting T.F_check_parting.kp T.b_check_parting .nil (passes_call (takes_of rfl rfl rfl rfl) (fun _ _ _ _ h => h)) (pa_cons (pv 1) (pa_cons (pv 2) (pa_cons (pv 3) (pa_cons pe_int (pa_cons pe_int (pa_cons (pe_tupM (pa_cons pe_str (pa_cons (pe_lstM pa_nil) pa_nil))) pa_nil))))))))) pss_nil)
      (pss_one (ps_if (pt_cmpR op_eq (pv 0) pe_int (nomark _)) (pss_one (ps_expr (pe_call (ok_confusable_with T) (hr.mono (by decide)) (by rfl) T.m_confusable_with T.F_confusable_with.kp T.b_confusable_with .nil (passes_call (takes_of rfl rfl rfl rfl) (fun _ _ _ _ h => h)) (pa_cons (pv 1) (pa_cons (pv 2) (pa_cons pe_int (pa_cons pe_int pa_nil))))))) pss_nil))))))))))), ?_⟩
    refine ⟨fun σ H' => σ = [some (.int kind), some (.ref p), some (.ref q), some (.ref r)] ∧ H = H' ∧ (0 : Int) < kind, ?_, ?_⟩
    · refine ⟨.int kind, rfl, rfl, _, rfl, ite2 (fun hg => ?_) (fun hg => ?_)⟩
      · exact ⟨.ref p, rfl, .ref q, rfl, .ref r, rfl, p, q, r, n, ks, cam, one, other, rfl, hK, hsky, hq, hr', fun e1 e2 => (hno e1 e2).elim, te _ H (fun _ _ e => e) fun d x H' s h1 h2 => k d x H' s h1 h2⟩
      · exact ⟨rfl, rfl, by have := kind_ne hg; omega⟩
    rintro σ0 H0 ⟨rfl, rfl, g0⟩
    refine ⟨fun σ H' => σ = [some (.int kind), some (.ref p), some (.ref q), some (.ref r)] ∧ H = H' ∧ (1 : Int) < kind, ?_, ?_⟩
    · refine ⟨.int kind, rfl, rfl, _, rfl, ite2 (fun hg => ?_) (fun hg => ?_)⟩
      · exact ⟨.ref p, rfl, .ref q, rfl, .ref r, rfl, p, q, r, n, ks, cam, one, other, rfl, hK, hsky, hq, hr', fun e1 e2 => (hno e1 e2).elim, te _ H (fun _ _ e => e) fun d x H' s h1 h2 => k d x H' s h1 h2⟩
      · exact ⟨rfl, rfl, by have := kind_ne hg; omega⟩
    rintro σ1 H1 ⟨rfl, rfl, g1⟩
    refine ⟨fun σ H' => σ = [some (.int kind), some (.ref p), some (.ref q), some (.ref r)] ∧ H = H' ∧ (2 : Int) < kind, ?_, ?_⟩
    · refine ⟨.int kind, rfl, rfl, _, rfl, ite2 (fun hg => ?_) (fun hg => ?_)⟩
      · exact ⟨.ref p, rfl, .ref q, rfl, .ref r, rfl, p, q, r, n, ks, cam, one, other, rfl, hK, hsky, hq, hr', fun e1 e2 => (hno e1 e2).elim, te _ H (fun _ _ e => e) fun d x H' s h1 h2 => k d x H' s h1 h2⟩
      · exact ⟨rfl, rfl, by have := kind_ne hg; omega⟩
    rintro σ2 H2 ⟨rfl, rfl, g2⟩
    refine ⟨fun σ H' => σ = [some (.int kind), some (.ref p), some (.ref q), some (.ref r)] ∧ H = H' ∧ (3 : Int) < kind, ?_, ?_⟩
    · refine ⟨.int kind, rfl, rfl, _, rfl, ite2 (fun hg => ?_) (fun hg => ?_)⟩
      · exact ⟨.ref p, rfl, .ref q, rfl, .ref r, rfl, p, q, r, n, ks, cam, one, other, rfl, hK, hsky, hq, hr', fun e1 e2 => (hno e1 e2).elim, te _ H (fun _ _ e => e) fun d x H' s h1 h2 => k d x H' s h1 h2⟩
      · exact ⟨rfl, rfl, by have := kind_ne hg; omega⟩
    rintro σ3 H3 ⟨rfl, rfl, g3⟩
    refine ⟨fun σ H' => σ = [some (.int kind), some (.ref p), some (.ref q), some (.ref r)] ∧ H = H' ∧ (4 : Int) < kind, ?_, ?_⟩
    · refine ⟨.int kind, rfl, rfl, _, rfl, ite2 (fun hg => ?_) (fun hg => ?_)⟩
      · exact ⟨.ref p, rfl, .ref q, rfl, .ref r, rfl, p, q, r, n, ks, cam, one, other, rfl, hK, hsky, hq, hr', fun e1 e2 => (hno e1 e2).elim, te _ H (fun _ _ e => e) fun d x H' s h1 h2 => k d x H' s h1 h2⟩
      · exact ⟨rfl, rfl, by have := kind_ne hg; omega⟩
    rintro σ4 H4 ⟨rfl, rfl, g4⟩
    refine ⟨fun σ H' => σ = [some (.int kind), some (.ref p), some (.ref q), some (.ref r)] ∧ H = H' ∧ (5 : Int) < kind, ?_, ?_⟩
    · refine ⟨.int kind, rfl, rfl, _, rfl, ite2 (fun hg => ?_) (fun hg => ?_)⟩
      · exact ⟨.ref p, rfl, .ref q, rfl, .ref r, rfl, p, q, r, n, 1, 1, ks, cam, one, other, rfl, hK, hsky, hq, hr', fun e1 e2 => (hno e1 e2).elim, te _ H (fun _ _ e => e) fun d x H' s h1 h2 => k d x H' s h1 h2⟩
      · exact ⟨rfl, rfl, by have := kind_ne hg; omega⟩
    rintro σ5 H5 ⟨rfl, rfl, g5⟩
    refine ⟨fun σ H' => σ = [some (.int kind), some (.ref p), some (.ref q), some (.ref r)] ∧ H = H' ∧ (6 : Int) < kind, ?_, ?_⟩
    · refine ⟨.int kind, rfl, rfl, _, rfl, ite2 (fun hg => ?_) (fun hg => ?_)⟩
      · exact ⟨.ref p, rfl, .ref q, rfl, .ref r, rfl, p, q, r, n, 1, 1, ks, cam, one, other, rfl, hK, hsky, hq, hr', by decide, fun e1 e2 => (hno e1 e2).elim, te _ H (fun _ _ e => e) fun d x H' s h1 h2 => k d x H' s h1 h2⟩
      · exact ⟨rfl, rfl, by have := kind_ne hg; omega⟩
    rintro σ6 H6 ⟨rfl, rfl, g6⟩
    refine ⟨fun σ H' => σ = [some (.int kind), some (.ref p), some (.ref q), some (.ref r)] ∧ H = H' ∧ (7 : Int) < kind, ?_, ?_⟩
    · refine ⟨.int kind, rfl, rfl, _, rfl, ite2 (fun hg => ?_) (fun hg => ?_)⟩
      · exact ⟨.ref p, rfl, .ref q, rfl, .ref r, rfl, p, q, r, n, 1, 1, ks, cam, one, other, rfl, hK, hsky, hq, hr', fun e1 e2 => (hno e1 e2).elim, te _ H (fun _ _ e => e) fun d x H' s h1 h2 => k d x H' s h1 h2⟩
      · exact ⟨rfl, rfl, by have := kind_ne hg; omega⟩
    rintro σ7 H7 ⟨rfl, rfl, g7⟩
    refine ⟨fun σ H' => σ = [some (.int kind), some (.ref p), some (.ref q), some (.ref r)] ∧ H = H' ∧ (8 : Int) < kind, ?_, ?_⟩
    · refine ⟨.int kind, rfl, rfl, _, rfl, ite2 (fun hg => ?_) (fun hg => ?_)⟩
      · refine ⟨.ref p, rfl, .ref q, rfl, .ref r, rfl, (by show 0 ≤ sizeLine; decide), fun el H1 s1 _ e1 => ?_⟩
        refine ⟨(by show 2 ≤ sizeLine; decide), fun pp H2 s2 t2 => ?_⟩
        have S2 := s1.trans s2
        exact ⟨p, q, r, pp, el, n, 1, 1, ks, cam, one, other, [], "both", rfl, skyS_up S2 hK, hsky, sqT_up S2 hq, sqT_up S2 hr', t2, .inl (.inl (s2 _ _ e1)), by decide, fun e1 e2 => (hno e1 e2).elim, te _ H2 S2 fun d x H' s h1 h2 => k d x H' s h1 h2⟩
      · exact ⟨rfl, rfl, by have := kind_ne hg; omega⟩
    rintro σ8 H8 ⟨rfl, rfl, g8⟩
    refine ⟨.int kind, rfl, rfl, _, rfl, ite2 (fun hg => ?_) (fun hg => ?_)⟩
    · have h9 := kind_eq hg
      refine ⟨.ref p, rfl, .ref q, rfl, p, q, n, 1, 1, ks, cam, one, rfl, hK, hsky, hq, fun e1 => ?_, fun e d H' s h => ?_⟩
      · exfalso
        rcases hB with ⟨e, _⟩ | ⟨_, _, _, e⟩
        · rw [e1] at e; cases e
        · omega
      · rcases hB with ⟨_, rfl⟩ | ⟨e', _⟩
        · exact k d q H' s (sqT_up s hq) h
        · rw [e] at e'; cases e'
    · have := kind_ne hg
      omega

theorem ok__law_refused (T : Txt P K mg a) : FnOk P w K mg base CX0 11 a.f__law_refused a.fd__law_refused ["kind", "made", "one", "other", "bad"] (spRefused K a.c_Sky) := by
  refine T.F__law_refused.ok sc__law_refused (fun vs H Q E h => ?_) (fun cdv A outer s H vs Q E hr h => ?_)
  · obtain ⟨p, q, r, bl, n, kind, ks, cam, one, other, bad, rfl, _⟩ := h
    rfl
  · obtain ⟨p, q, r, bl, n, kind, ks, cam, one, other, bad, rfl, hK, hsky, h6, hq, hr', hbl, k0, k9, hB, k⟩ := h
    have hu64 : (A.deeper (envOfC "_law_refused" (defScope s__law_refused) s.heap.objs.size a.f__law_refused cdv)).units + 64 < cLine := by
      have := hr.un
      omega
    refine ⟨_, (C8.pss_cut (ps_try_one (i := 5) (tb := fun W => (tDrop (tCallS (spCalled K a.c_Sky a.c_InvalidAttitude) (WE W) (tCons (tVar 0) (tCons (tVar 1) (tCons (tVar 2) (tCons (tVar 3) tNil))))))) (ts := (fun ea cls d => (tRet (tAndV (tOp (rEqD K) (tErrFld a.c_InvalidAttitude "attitude" ea cls d (tVar 5)) (tVar 4)) (tCB (rErrIsi a.c_InvalidAttitude a.c_SkyError ea cls d) (tCons (tVar 5) (tCons (tC (.ref a.c_SkyError)) tNil))))))) (Wout := fun _ _ _ _ => False) rfl rfl sc__law_refused.nd rfl rfl ⟨rfl, by decide, Or.inl T.S_InvalidAttitude.gC⟩ takes0 (fun W pn xe tk _ => (pss_one (ps_expr (pe_callS (ok__law_called T) (hr.mono (by decide)) (by rfl) T.m__law_called T.F__law_called.kp T.b__law_called (fun σ => passAt tk σ) (by exact (pa_cons (pv 0) (pa_cons (pv 1) (pa_cons (pv 2) (pa_cons (pv 3) pa_nil))))))))) (fun ea oe cls d pn hz hf => (pss_one (ps_ret (pe_and (pe_cmpR (op_eqDK (K := K) hu64) (by exact (pe_errFld T.S_InvalidAttitude hz hf (pv 5))) (pv 4) (nomark _)) (pe_one (pe_callB ((call_errIsi T.X_InvalidAttitude (under_at T.under (by simp)).1 hz hf)) (by rfl) T.z_isinstance (by decide +kernel) (pa_cons (pv 5) (pa_cons (pe_glob (v := .ref a.c_SkyError) rfl T.g_SkyError rfl) pa_nil)))))))))
      (pss_one (ps_ret pe_bl))), ?_⟩
    refine ⟨fun _ _ => False, ?_, fun _ _ h => h.elim⟩
    refine ⟨.int kind, rfl, .ref p, rfl, .ref q, rfl, .ref r, rfl, p, q, r, n, kind, ks, cam, one, other, bad, rfl, hK, hsky, h6, hq, hr', k0, k9, hB, fun d x H1 s1 hx h1 => ?_⟩
    refine ⟨true, T.S_InvalidAttitude.te, fun _ ea na => ?_, fun y => Bool.noConfusion y⟩
    refine ⟨_, rfl, rfl, rfl, d, _, rfl, h1, ?_⟩
    refine ⟨.ref bl, rfl, _, _, dp_ti hx, dp_ti (sqT_up s1 hbl), shaped_of (lay_ti _) (by decide), shaped_of (lay_ti _) (by decide), _, rfl, ?_⟩
    rw [eqv_ti, decide_eq_true rfl]
    refine iteT ?_
    exact ⟨.ref ea, rfl, rfl, rfl, ⟨d, _, _, rfl, h1⟩, k H1 s1⟩

theorem ok_law (T : Txt P K mg a) : SwG.FnG P w K mg base CX0 12 a.f_law a.fd_law ["script"] (spLaw K) := by
  refine SwG.okG T.F_law sc_law (fun vs H Q E h => ?_) (fun cdv A outer s H vs Q E hq hr h => ?_)
  · obtain ⟨b, xs, rfl, _⟩ := h
    rfl
  · obtain ⟨b, xs, rfl, hS, hx, k⟩ := h
    have hu64 : (A.deeper (envOfC "law" (defScope s_law) s.heap.objs.size a.f_law cdv)).units + 64 < cLine := by
      have := hr.un
      omega
    refine ⟨_, (pss_cons (ps_set (i := 1) sc_law.nd rfl (.inl rfl) (pe_call (ok__law_numbers T) (hr.mono (by decide)) (by rfl) T.m__law_numbers T.F__law_numbers.kp T.b__law_numbers .nil pass0 (pa_cons (pv 0) (pa_cons pe_int pa_nil))))
      (pss_cons (ps_set (i := 2) sc_law.nd rfl (.inl rfl) (pe_call (ok__law_parts T) (hr.mono (by decide)) (by rfl) T.m__law_parts T.F__law_parts.kp T.b__law_parts .nil pass0 (pa_cons (pv 1) (pa_cons pe_int (pa_cons (pe_lstM (pa_cons pe_int (pa_cons pe_int (pa_cons pe_int (pa_cons pe_int pa_nil))))) (pa_cons pe_int pa_nil))))))
      (pss_cons (ps_set (i := 3) sc_law.nd rfl (.inl rfl) (pe_call (ok__law_attitude T) (hr.mono (by decide)) (by rfl) T.m__law_attitude T.F__law_attitude.kp T.b__law_attitude .nil pass0 (pa_cons (pv 1) (pa_cons pe_int (pa_cons (pe_ix ix_seq (pv 2) pe_int (fun _ _ => rfl)) pa_nil)))))
      (pss_cons (ps_set (i := 4) sc_law.nd rfl (.inl rfl) (pe_call (ok__law_beside T) (hr.mono (by decide)) (by rfl) T.m__law_beside T.F__law_beside.kp T.b__law_beside .nil pass0 (pa_cons (pv 1) (pa_cons pe_int (pa_cons (pe_ix ix_seq (pv 2) pe_int (fun _ _ => rfl)) (pa_cons (pv 3) pa_nil))))))
      (pss_cons (ps_set (i := 5) sc_law.nd rfl (.inl rfl) (pe_call (ok__law_made T) (hr.mono (by decide)) (by rfl) T.m__law_made T.F__law_made.kp T.b__law_made .nil pass0 (pa_cons (pv 2) pa_nil)))
      (C8.pss_cut (ps_set (i := 6) sc_law.nd rfl (.inl rfl) (pe_call (ok__law_links T) (hr.mono (by decide)) (by rfl) T.m__law_links T.F__law_links.kp T.b__law_links .nil pass0 (pa_cons (pv 2) (pa_cons (pv 3) (pa_cons (pv 4) pa_nil)))))
      (C8.pss_cut (ps_if (pt_cmpR op_ne (pe_callB (SwG.cr_repr hq hu64) (by rfl) T.z_repr (by decide +kernel) (pa_cons (pe_call (ok_linked T) (hr.mono (by decide)) (by rfl) T.m_linked T.F_linked.kp T.b_linked .nil passL (pa_cons (pv 5) (pa_cons (pv 3) (pa_cons (pv 4) pa_nil)))) pa_nil)) (pe_callB (SwG.cr_repr hq hu64) (by rfl) T.z_repr (by decide +kernel) (pa_cons (pv 6) pa_nil)) (nomark _)) (pss_one (ps_ret pe_bl)) pss_nil)
      (C8.pss_cut (ps_if (pt_cmpR op_ne (pe_callB (SwG.cr_repr hq hu64) (by rfl) T.z_repr (by decide +kernel) (pa_cons (pe_call (ok_linked T) (hr.mono (by decide)) (by rfl) T.m_linked T.F_linked.kp T.b_linked .nil passL (pa_cons (pv 5) (pa_cons (pv 4) (pa_cons (pv 3) pa_nil)))) pa_nil)) (pe_callB (SwG.cr_repr hq hu64) (by rfl) T.z_repr (by decide +kernel) (pa_cons (pe_callB cr_sortL (by rfl) T.z_sorted (by decide +kernel) (pa_cons (pe_lc (g := gTup K 2 (gCons (gName 9) (gCons (gName 10) gNil))) (tt := tYes) (own := [("first", 9), ("second", 10)]) rfl sc_law.nd (pi_list (pv 6)) (blkOk_by (own := [("first", 9), ("second", 10)]) (N := ["script", "numbers", "parts", "one", "other", "made", "due", "bad", "kind", "first", "second"]) (sc := defScope s_law) (by decide +kernel)) (fun _ _ _ _ _ => (pg_tup rfl (pgs_cons (pg_name (i := 9) sc_law.nd rfl (.inl rfl)) (pgs_cons (pg_name (i := 10) sc_law.nd rfl (.inl rfl)) pgs_nil)))) (fun _ _ _ _ _ => pts_nil) (fun _ _ _ _ _ => (pe_tup (pa_cons (pv 10) (pa_cons (pv 9) pa_nil))))) pa_nil)) pa_nil)) (nomark _)) (pss_one (ps_ret pe_bl)) pss_nil)
      (C8.pss_cut (ps_set (i := 7) sc_law.nd rfl (.inl rfl) (pe_ix ix_seq (pe_lstM (pa_cons (pe_tupM (pa_cons (pe_ix ix_seq (pv 2) pe_int (fun _ _ => rfl)) (pa_cons pe_int (pa_cons pe_int pa_nil)))) (pa_cons (pe_tupM (pa_cons pe_int (pa_cons pe_int (pa_cons pe_int pa_nil)))) (pa_cons (pe_tupM (pa_cons pe_int (pa_cons (pe_un un_neg pe_int) (pa_cons pe_int pa_nil)))) (pa_cons (pe_tupM (pa_cons (pe_un un_neg pe_int) (pa_cons pe_int (pa_cons pe_int pa_nil)))) pa_nil))))) (pe_op op_mod (pe_callTy call_int1 (by rfl) T.z_int (by decide +kernel) (pa_cons (pe_ix ix_seq (pv 1) pe_int (fun _ _ => rfl)) pa_nil)) pe_int) (fun _ _ => rfl)))
      (pss_cons (ps_for PassesOwn.never rfl (pi_range1 (by rfl) T.z_range (pa_cons pe_int pa_nil)) (pg_name (i := 8) sc_law.nd rfl (.inl rfl)) (pss_cons (ps_if (PW.pt (pw_or (pt_not (pt_val (pe_call (ok__law_refused T) (hr.mono (by decide)) (by rfl) T.m__law_refused T.F__law_refused.kp T.b__law_refused .nil pass0 (pa_cons (pv 8) (pa_cons (pv 5) (pa_cons (pv 7) (pa_cons (pe_tupM (pa_cons pe_int (pa_cons pe_int (pa_cons pe_int pa_nil)))) (pa_cons (pv 7) pa_nil)))))))) (pw_or1 (pt_not (pt_val (pe_call (ok__law_refused T) (hr.mono (by decide)) (by rfl) T.m__law_refused T.F__law_refused.kp T.b__law_refused .nil pass0 (pa_cons (pv 8) (pa_cons (pv 5) (pa_cons (pv 7) (pa_cons (pv 3) (pa_cons (pv 7) pa_nil))))))))))) (pss_one (ps_ret pe_bl)) pss_nil)
      (pss_one (ps_if (PW.pt (pw_and (pt_cmpR op_lt (pv 8) pe_int (nomark _)) (pw_and1 (pt_not (pt_val (pe_call (ok__law_refused T) (hr.mono (by decide)) (by rfl) T.m__law_refused T.F__law_refused.kp T.b__law_refused .nil pass0 (pa_cons (pv 8) (pa_cons (pv 5) (pa_cons (pv 3) (pa_cons (pv 7) (pa_cons (pv 7) pa_nil))))))))))) (pss_one (ps_ret pe_bl)) pss_nil))))
      (pss_one (ps_ret (pe_cmpR op_eq (pe_callB (SwG.cr_repr hq hu64) (by rfl) T.z_repr (by decide +kernel) (pa_cons (pe_call (ok_linked T) (hr.mono (by decide)) (by rfl) T.m_linked T.F_linked.kp T.b_linked .nil passL (pa_cons (pv 5) (pa_cons (pv 3) (pa_cons (pv 4) pa_nil)))) pa_nil)) (pe_callB (SwG.cr_repr hq hu64) (by rfl) T.z_repr (by decide +kernel) (pa_cons (pv 6) pa_nil)) (nomark _)))))))))))))), ?_⟩
    refine ⟨.ref b, rfl, b, xs, 50, rfl, hS, hx, by decide, by decide, fun H1 p1 ns s1 np1 e1 hlen hN => ?_⟩
    have hL1 : SqL K H1 p1 (ns.map V.int) := .inl (.inl e1)
    refine ⟨.ref p1, rfl, (by show 4 ≤ sizeLine; decide), fun l2 H2 s2 _ e2 => ?_⟩
    have hL2 := s2.seq hL1
    refine ⟨p1, l2, ns, [4, 5, 6, 5], 0, 6, rfl, hL2, hN, .inl (.inl e2), by decide, by decide, by decide, by decide, by decide, by decide, by omega, fun H3 t n ks cam s3 hP hsky hk6 hasc => ?_⟩
    obtain ⟨⟨h4, h9⟩, hstars, hnd, h20, hcam⟩ := sky_parts hsky
    have hkl := keys_len ks
    have hk6' : ks.length ≤ 6 := by omega
    have hL3 := s3.seq hL2
    obtain ⟨lk, ck, hpp, hl, ht, hc⟩ := id hP
    refine ⟨.ref p1, rfl, .ref t, rfl, .inr (.inl ⟨t, _, 0, .int n, rfl, rfl, hpp, rfl, p1, ns, 25, n, rfl, hL3, by decide, by omega, h4, fun H4 q one s4 tq hone => ?_⟩)⟩
    have hP4 := parts_up s4 hP
    have hL4 := s4.seq hL3
    refine ⟨.ref p1, rfl, .ref t, rfl, .inr (.inl ⟨t, _, 0, .int n, rfl, rfl, sqT_up s4 hpp, rfl, .ref q, rfl, p1, q, ns, one, 28, n, rfl, hL4, hN, by decide, by omega, h4, tq, hone, fun H5 r other s5 tr hoth => ?_⟩)⟩
    have hP5 := parts_up s5 hP4
    have hL5 := s5.seq hL4
    have tq5 := sqT_up s5 tq
    refine ⟨.ref t, rfl, t, n, ks, _, rfl, hP5, hsky, hasc, fun H6 p kq s6 hK hkq => ?_⟩
    have hskq : isSky n (keys kq) cam = true := by rw [hkq]; exact hsky
    have hkql : kq.length ≤ 6 := by rw [← keys_len kq, hkq]; omega
    have hP6 := parts_up s6 hP5
    have hL6 := s6.seq hL5
    have tq6 := sqT_up s6 tq5
    have tr6 := sqT_up s6 tr
    have hshw := fun o1 o2 => shw_links (n := n) (cam := cam) (kk := keys ks) (one := o1) (other := o2) (by omega)
    -- what is due
    refine ⟨fun σ H' => ∃ (el : Addr) (es : Tups), σ = [some (.ref b), some (.ref p1), some (.ref t), some (.ref q), some (.ref r), some (.ref p), some (.ref el), none, none, none, none] ∧ Same H6 H' ∧ H' el = some (.lst (refs es)) ∧ TupsAt K H' es ∧ keys es = linksN n cam (keys ks) one other, ?_, ?_⟩
    · exact ⟨.ref t, rfl, .ref q, rfl, .ref r, rfl, t, q, r, n, ks, cam, one, other, rfl, hP6, hsky, tq6, hone, tr6, hoth, fun H7 el es s7 ee het hke => ⟨el, es, rfl, s7, ee, het, hke⟩⟩
    rintro σ7 H7 ⟨el, es, rfl, s7, ee, het, hke⟩
    have hkG : keys es = pairs2 (linksP n cam (keys ks) one other) := hke.trans (linksP_eq _ _ _ _ _)
    have hesl : es.length ≤ 400 := by
      rw [← keys_len, hke]
      exact linksN_len _ _ _ _ _ (by rw [keys_len]; omega)
    have hGl : (linksP n cam (keys ks) one other).length = es.length := by
      rw [← keys_len es, hkG]
      unfold pairs2
      rw [List.length_map]
    -- told
    refine ⟨fun σ H' => σ = [some (.ref b), some (.ref p1), some (.ref t), some (.ref q), some (.ref r), some (.ref p), some (.ref el), none, none, none, none] ∧ Same H7 H', ?_, ?_⟩
    · refine ⟨.ref p, rfl, .ref q, rfl, .ref r, rfl, p, q, r, n, kq, cam, one, other, rfl, skyS_up s7 hK, hskq, sqT_up s7 tq6, sqT_up s7 tr6, fun _ _ H8 l fs s8 e8 t8 k8 => ?_, no_err hone hoth⟩
      rw [hkq] at k8
      refine ⟨_, _, rfl, dp_l e8 (dp_tups t8), by rw [k8]; exact hshw one other, ?_⟩
      refine ⟨.ref el, rfl, _, _, rfl, dp_l (s8 _ _ ee) (dp_tups (tups_up s8 het)), by rw [hke]; exact hshw one other, ?_⟩
      rw [k8, hke]
      exact SwG.ne_str ⟨false, rfl, iteF ⟨rfl, s8⟩⟩
    rintro σ8 H8 ⟨rfl, s8⟩
    have S8 := s7.trans s8
    refine ⟨fun σ H' => σ = [some (.ref b), some (.ref p1), some (.ref t), some (.ref q), some (.ref r), some (.ref p), some (.ref el), none, none, none, none] ∧ Same H8 H', ?_, ?_⟩
    · refine ⟨.ref p, rfl, .ref r, rfl, .ref q, rfl, p, r, q, n, kq, cam, other, one, rfl, skyS_up S8 hK, hskq, sqT_up S8 tr6, sqT_up S8 tq6, fun _ _ H9 l fs s9 e9 t9 k9 => ?_, no_err hoth hone⟩
      rw [hkq] at k9
      refine ⟨_, _, rfl, dp_l e9 (dp_tups t9), by rw [k9]; exact hshw other one, ?_⟩
      have ee9 := s9 _ _ (s8 _ _ ee)
      have het9 := tups_up (s8.trans s9) het
      refine ⟨.ref el, rfl, el, rfl, ⟨_, .inl (.inl ee9)⟩, fun Db nDb => lc_list (K := K) (a := el) (xs := refs es) (fun i Hc => ∃ bs : Tups, Same H9 Hc ∧ Hc Db = some (.lst (refs bs)) ∧ TupsAt K Hc bs ∧ keys bs = pairs2 (swp ((linksP n cam (keys ks) one other).take i)) ∧ bs.length = i) ⟨[], same_new nDb, upd_same, (fun p hp => by cases hp), rfl, rfl⟩ (fun i Hc _ ⟨_, sc, _⟩ => .inl (.inl (sc _ _ ee9))) ?_ ?_⟩
      · rintro i v Hc hi ⟨bs, Sc, ec, tc, kc, lc⟩
        obtain ⟨z, hz, rfl⟩ := refs_at hi
        have hil := (List.getElem?_eq_some_iff.mp hz).1
        obtain ⟨x, hx, ezx⟩ := pair_at hkG hz
        have tz := sqT_up Sc (het9 z (List.mem_of_getElem? hz))
        rw [ezx] at tz
        refine ⟨z.1, _, rfl, tz, rfl, _, _, rfl, _, _, rfl, rfl, rfl, ?_⟩
        refine ⟨_, rfl, _, rfl, (by show 2 ≤ sizeLine; decide), fun pn hn => ?_⟩
        have sd : Same Hc (upd Hc pn (.tup [.int x.2, .int x.1])) := same_new hn
        have td : SqT K (upd Hc pn (.tup [.int x.2, .int x.1])) pn ([x.2, x.1].map V.int) := .inl (.inl upd_same)
        generalize upd Hc pn (.tup [.int x.2, .int x.1]) = Hd at sd td ⊢
        refine ⟨_, sd _ _ ec, sizeN (by rw [refs_len]; omega), bs ++ [(pn, [x.2, x.1])], same_put nDb (Sc.trans sd), by rw [upd_same, ← refs_push], tups_app (tups_put (sd _ _ ec) (tups_up sd tc)) (tups_one (sqT_lst (sd _ _ ec) td)), ?_, by rw [List.length_append, lc]; rfl⟩
        rw [keys_push, kc, List.take_add_one, hx]
        unfold swp pairs2
        rw [List.map_append, List.map_append]
        rfl
      rintro Hb ⟨bs, sb, eb, htb, kb, lb⟩
      rw [refs_len] at kb lb
      rw [← hGl, List.take_length] at kb
      refine ⟨Db, bs, rfl, .inl (.inl (.inl eb)), htb, fun z hz e => ?_, fun sl ss Hs sS nS eS hpS haS => ?_⟩
      · have h1 : z.2 ∈ keys bs := List.mem_map_of_mem (f := fun z : Addr × List Int => z.2) hz
        rw [kb, e] at h1
        unfold pairs2 at h1
        obtain ⟨x, _, e'⟩ := List.mem_map.mp h1
        cases e'
      have ekk : keys ss = linksN n cam (keys ks) other one := by
        refine ascL_unique haS (links_asc _ _ _ _ _) ?_
        refine List.Perm.trans (show (keys ss).Perm (keys bs) from hpS.map _) ?_
        rw [kb]
        exact (links_perm n cam (keys ks) one other).symm
      have tS : TupsAt K Hs ss := fun z hz => sqT_up sS (htb z (hpS.mem_iff.mp hz))
      refine ⟨_, _, rfl, dp_l eS (dp_tups tS), by rw [ekk]; exact hshw other one, ?_⟩
      rw [k9, ekk]
      exact SwG.ne_str ⟨false, rfl, iteF ⟨rfl, (s9.trans sb).trans sS⟩⟩
    rintro σ9 H9 ⟨rfl, s9⟩
    have S9 := S8.trans s9
    have ee9 := s9 _ _ (s8 _ _ ee)
    have het9 := tups_up (s8.trans s9) het
    have hL9 := S9.seq hL6
    -- none of the sky's attitudes
    refine ⟨fun σ H' => ∃ (bl : Addr) (bad : List Int), σ = [some (.ref b), some (.ref p1), some (.ref t), some (.ref q), some (.ref r), some (.ref p), some (.ref el), some (.ref bl), none, none, none] ∧ Same H9 H' ∧ SqT K H' bl (bad.map V.int) ∧ isPose n bad = false, ?_, ?_⟩
    · obtain ⟨lk9, ck9, hpp9, _⟩ := parts_up S9 hP6
      refine ⟨.ref t, rfl, .inr (.inl ⟨t, _, 0, .int n, rfl, rfl, hpp9, rfl, (by show 3 ≤ sizeLine; decide), fun b0 Ha sa ta => ?_⟩)⟩
      refine ⟨(by show 3 ≤ sizeLine; decide), fun b1 Hb sb tb => ?_⟩
      refine ⟨_, rfl, (by show 3 ≤ sizeLine; decide), fun b2 Hc sc tc => ?_⟩
      refine ⟨_, rfl, (by show 3 ≤ sizeLine; decide), fun b3 Hd sd td => ?_⟩
      refine ⟨(by show 4 ≤ sizeLine; decide), fun lb He se _ eb => ?_⟩
      have sae := (((sa.trans sb).trans sc).trans sd).trans se
      have hLe := sae.seq hL9
      repeat (first | refine ⟨_, rfl, ?_⟩ | refine ⟨_, _, rfl, rfl, ?_⟩)
      refine .inl ⟨_, _, _, _, rfl, rfl, hLe, nthI (by omega) (by omega), .inl ⟨_, rfl, ?_⟩⟩
      refine ⟨_, _, rfl, rfl, (by show (0 : Int) < 4; decide), ?_⟩
      have hj : numI ns 32 % 4 = 0 ∨ numI ns 32 % 4 = 1 ∨ numI ns 32 % 4 = 2 ∨ numI ns 32 % 4 = 3 := by omega
      rcases hj with hj | hj | hj | hj
      · exact .inl ⟨lb, _, _, .ref b0, rfl, rfl, .inl (.inl eb), (by rw [hj]; rfl), b0, [n, 0, 0], rfl, sae, sqT_up (((sb.trans sc).trans sd).trans se) ta, decide_eq_false (by omega)⟩
      · exact .inl ⟨lb, _, _, .ref b1, rfl, rfl, .inl (.inl eb), (by rw [hj]; rfl), b1, [0, 0, 4], rfl, sae, sqT_up ((sc.trans sd).trans se) tb, decide_eq_false (by omega)⟩
      · exact .inl ⟨lb, _, _, .ref b2, rfl, rfl, .inl (.inl eb), (by rw [hj]; rfl), b2, [0, -1, 1], rfl, sae, sqT_up (sd.trans se) tc, decide_eq_false (by omega)⟩
      · exact .inl ⟨lb, _, _, .ref b3, rfl, rfl, .inl (.inl eb), (by rw [hj]; rfl), b3, [-1, 0, 3], rfl, sae, sqT_up se td, (by unfold isPose; simp)⟩
    rintro σ10 H10 ⟨bl, bad, rfl, s10, tbl, hbad⟩
    have S10 := S9.trans s10
    refine ⟨10, rfl, by decide, by decide, for_range (lo := 0) (n := 10) (fun i σ H' => ∃ z8 : Option V, σ = [some (.ref b), some (.ref p1), some (.ref t), some (.ref q), some (.ref r), some (.ref p), some (.ref el), some (.ref bl), z8, none, none] ∧ Same H10 H') ⟨_, rfl, fun _ _ e => e⟩ ?_ ?_⟩
    · rintro i σ H11 hi ⟨z8, rfl, s11⟩
      have S11 := S10.trans s11
      refine ⟨.int (0 + (i : Int)), rfl, .ref p, rfl, .ref bl, rfl, (by show 3 ≤ sizeLine; decide), fun t5 H12 s12 t12 => ?_⟩
      have S12 := S11.trans s12
      refine ⟨.ref bl, rfl, p, bl, t5, bl, n, 0 + (i : Int), kq, cam, bad, [0, 0, 5], bad, rfl, skyS_up S12 hK, hskq, hkql, sqT_up (s11.trans s12) tbl, t12, sqT_up (s11.trans s12) tbl, by omega, by omega, .inl ⟨hbad, rfl⟩, fun H13 s13 => ⟨true, rfl, iteF ?_⟩⟩
      have S13 := S12.trans s13
      have tbl13 := sqT_up ((s11.trans s12).trans s13) tbl
      refine ⟨.int (0 + (i : Int)), rfl, .ref p, rfl, .ref bl, rfl, .ref q, rfl, .ref bl, rfl, p, bl, q, bl, n, 0 + (i : Int), kq, cam, bad, one, bad, rfl, skyS_up S13 hK, hskq, hkql, tbl13, sqT_up S13 tq6, tbl13, by omega, by omega, .inl ⟨hbad, rfl⟩, fun H14 s14 => ⟨true, rfl, iteF ?_⟩⟩
      have S14 := S13.trans s14
      have tbl14 := sqT_up s14 tbl13
      have s1014 := ((s11.trans s12).trans s13).trans s14
      refine ⟨.int (0 + (i : Int)), rfl, _, _, rfl, rfl, _, rfl, ite2 (fun hg => ?_) (fun _ => iteF ⟨_, rfl, s1014⟩)⟩
      have hk9 := of_decide_eq_true hg
      refine ⟨.int (0 + (i : Int)), rfl, .ref p, rfl, .ref q, rfl, .ref bl, rfl, .ref bl, rfl, p, q, bl, bl, n, 0 + (i : Int), kq, cam, one, bad, bad, rfl, skyS_up S14 hK, hskq, hkql, sqT_up S14 tq6, tbl14, tbl14, by omega, by omega, .inr ⟨hone, hbad, rfl, hk9⟩, fun H15 s15 => ⟨true, rfl, iteF ⟨_, rfl, s1014.trans s15⟩⟩⟩
    · rintro σ H11 ⟨z8, rfl, s11⟩
      have S11 := S10.trans s11
      refine ⟨.ref p, rfl, .ref q, rfl, .ref r, rfl, p, q, r, n, kq, cam, one, other, rfl, skyS_up S11 hK, hskq, sqT_up S11 tq6, sqT_up S11 tr6, fun _ _ H12 l fs s12 e12 t12 k12 => ?_, no_err hone hoth⟩
      rw [hkq] at k12
      have s912 := (s10.trans s11).trans s12
      refine ⟨_, _, rfl, dp_l e12 (dp_tups t12), by rw [k12]; exact hshw one other, ?_⟩
      refine ⟨.ref el, rfl, _, _, rfl, dp_l (s912 _ _ ee9) (dp_tups (tups_up s912 het9)), by rw [hke]; exact hshw one other, ?_⟩
      rw [k12, hke]
      exact SwG.eq_str (k _)

end
/-! ### what the top has written -/
set_option maxHeartbeats 8000000 in
theorem all_mk {w : World} {K : PySem.W.Frag} {h : Heap} {mg : Str → Option Value} {fa f1 f2 f3 f4 f5 f6 f7 f8 f9 f10 f11 f12 f13 f14 f15 f16 f17 f18 f19 f20 f21 f22 f23 f24 f25 f26 f27 f28 f29 f30 f31 f32 f33 f34 f35 f36 f37 f38 f39 f40 f41 f42 f43 f44 f45 f46 f47 f48 f49 f50 f51 f52 f53 f54 f55 f56 f57 f58 f59 f60 f61 f62 f63 f64 f65 f66 s1 g8 g9 g10 g11 g12 g13 e1 ei1 eN1 ecd1 ecc1 q1 q2 : Addr} (X : K.In h) (G : h.Ns mainGlobals mg) (hfa : mg "law" = some (.ref fa))
    {od1 an1 od2 an2 od3 an3 od4 an4 od5 an5 od6 an6 od7 an7 od8 an8 od9 an9 od10 an10 od11 an11 od12 an12 od13 an13 od14 an14 od15 an15 od16 an16 od17 an17 od18 an18 od19 an19 od20 an20 od21 an21 od22 an22 od23 an23 od24 an24 od25 an25 od26 an26 od27 an27 od28 an28 od29 an29 od30 an30 od31 an31 od32 an32 od33 an33 od34 an34 od35 an35 od36 an36 od37 an37 od38 an38 od39 an39 od40 an40 od41 an41 od42 an42 od43 an43 od44 an44 od45 an45 od46 an46 od47 an47 od48 an48 od49 an49 od50 an50 od51 an51 od52 an52 od53 an53 od54 an54 od55 an55 od56 an56 od57 an57 od58 an58 od59 an59 od60 an60 od61 an61 od62 an62 od63 an63 od64 an64 od65 an65 od66 an66 edd1 eod1 ean1 ecdd1 ecld1 : Option Addr} {sl1 sl2 sl3 sl4 sl5 sl6 sl7 sl8 sl9 sl10 sl11 sl12 sl13 sl14 sl15 sl16 sl17 sl18 sl19 sl20 sl21 sl22 sl23 sl24 sl25 sl26 sl27 sl28 sl29 sl30 sl31 sl32 sl33 sl34 sl35 sl36 sl37 sl38 sl39 sl40 sl41 sl42 sl43 sl44 sl45 sl46 sl47 sl48 sl49 sl50 sl51 sl52 sl53 sl54 sl55 sl56 sl57 sl58 sl59 sl60 sl61 sl62 sl63 sl64 sl65 sl66 eosl1 eccs1 ecsl1 : Array (Option Value)} {oc1 kV1 dc1 pm1 cd1 ct1 oc2 kV2 dc2 pm2 cd2 ct2 oc3 kV3 dc3 pm3 cd3 ct3 oc4 kV4 dc4 pm4 cd4 ct4 oc5 kV5 dc5 pm5 cd5 ct5 oc6 kV6 dc6 pm6 cd6 ct6 oc7 kV7 dc7 pm7 cd7 ct7 oc8 kV8 dc8 pm8 cd8 ct8 oc9 kV9 dc9 pm9 cd9 ct9 oc10 kV10 dc10 pm10 cd10 ct10 oc11 kV11 dc11 pm11 cd11 ct11 oc12 kV12 dc12 pm12 cd12 ct12 oc13 kV13 dc13 pm13 cd13 ct13 oc14 kV14 dc14 pm14 cd14 ct14 oc15 kV15 dc15 pm15 cd15 ct15 oc16 kV16 dc16 pm16 cd16 ct16 oc17 kV17 dc17 pm17 cd17 ct17 oc18 kV18 dc18 pm18 cd18 ct18 oc19 kV19 dc19 pm19 cd19 ct19 oc20 kV20 dc20 pm20 cd20 ct20 oc21 kV21 dc21 pm21 cd21 ct21 oc22 kV22 dc22 pm22 cd22 ct22 oc23 kV23 dc23 pm23 cd23 ct23 oc24 kV24 dc24 pm24 cd24 ct24 oc25 kV25 dc25 pm25 cd25 ct25 oc26 kV26 dc26 pm26 cd26 ct26 oc27 kV27 dc27 pm27 cd27 ct27 oc28 kV28 dc28 pm28 cd28 ct28 oc29 kV29 dc29 pm29 cd29 ct29 oc30 kV30 dc30 pm30 cd30 ct30 oc31 kV31 dc31 pm31 cd31 ct31 oc32 kV32 dc32 pm32 cd32 ct32 oc33 kV33 dc33 pm33 cd33 ct33 oc34 kV34 dc34 pm34 cd34 ct34 oc35 kV35 dc35 pm35 cd35 ct35 oc36 kV36 dc36 pm36 cd36 ct36 oc37 kV37 dc37 pm37 cd37 ct37 oc38 kV38 dc38 pm38 cd38 ct38 oc39 kV39 dc39 pm39 cd39 ct39 oc40 kV40 dc40 pm40 cd40 ct40 oc41 kV41 dc41 pm41 cd41 ct41 oc42 kV42 dc42 pm42 cd42 ct42 oc43 kV43 dc43 pm43 cd43 ct43 oc44 kV44 dc44 pm44 cd44 ct44 oc45 kV45 dc45 pm45 cd45 ct45 oc46 kV46 dc46 pm46 cd46 ct46 oc47 kV47 dc47 pm47 cd47 ct47 oc48 kV48 dc48 pm48 cd48 ct48 oc49 kV49 dc49 pm49 cd49 ct49 oc50 kV50 dc50 pm50 cd50 ct50 oc51 kV51 dc51 pm51 cd51 ct51 oc52 kV52 dc52 pm52 cd52 ct52 oc53 kV53 dc53 pm53 cd53 ct53 oc54 kV54 dc54 pm54 cd54 ct54 oc55 kV55 dc55 pm55 cd55 ct55 oc56 kV56 dc56 pm56 cd56 ct56 oc57 kV57 dc57 pm57 cd57 ct57 oc58 kV58 dc58 pm58 cd58 ct58 oc59 kV59 dc59 pm59 cd59 ct59 oc60 kV60 dc60 pm60 cd60 ct60 oc61 kV61 dc61 pm61 cd61 ct61 oc62 kV62 dc62 pm62 cd62 ct62 oc63 kV63 dc63 pm63 cd63 ct63 oc64 kV64 dc64 pm64 cd64 ct64 oc65 kV65 dc65 pm65 cd65 ct65 oc66 kV66 dc66 pm66 cd66 ct66 eoc1 edc1 epm1 ect1 eccl1 ecl1 : Value} {rs8 rs9 rs10 rs11 rs12 rs13 : List Value} {enm1 eq1 efl1 : Str} {ebs1 esub1 ebm1 : List Value} {eab1 : Bool} {eco1 : Option Bool} {ek1_0 ek1_1 ek1_2 ek1_3 ek1_4 : Option Value} {esn1 : List Str} {evs1 : Array Value} {etf1 : Tok} {ut0 ut1 : Tok}
    (a1 : PySem.W.nsIn K mainGlobals "quarter_turned" = some (some (.ref f1)))
    (l1 : K.lookup f1 = some ⟨oc1, od1, .func (PySem.W.fnOf "quarter_turned" "quarter_turned" (defArgs s_quarter_turned) (defBody s_quarter_turned) (defScope s_quarter_turned) .none kV1 dc1 pm1 an1 cd1 ct1), sl1⟩)
    (c1 : PySem.W.codeIn K cd1 "quarter_turned" = true)
    (k1 : PySem.W.keepIn K (.ref f1) = true)
    (a2 : PySem.W.nsIn K mainGlobals "is_pose" = some (some (.ref f2)))
    (l2 : K.lookup f2 = some ⟨oc2, od2, .func (PySem.W.fnOf "is_pose" "is_pose" (defArgs s_is_pose) (defBody s_is_pose) (defScope s_is_pose) .none kV2 dc2 pm2 an2 cd2 ct2), sl2⟩)
    (c2 : PySem.W.codeIn K cd2 "is_pose" = true)
    (k2 : PySem.W.keepIn K (.ref f2) = true)
    (a3 : PySem.W.nsIn K mainGlobals "is_side" = some (some (.ref f3)))
    (l3 : K.lookup f3 = some ⟨oc3, od3, .func (PySem.W.fnOf "is_side" "is_side" (defArgs s_is_side) (defBody s_is_side) (defScope s_is_side) .none kV3 dc3 pm3 an3 cd3 ct3), sl3⟩)
    (c3 : PySem.W.codeIn K cd3 "is_side" = true)
    (k3 : PySem.W.keepIn K (.ref f3) = true)
    (a4 : PySem.W.nsIn K mainGlobals "is_star" = some (some (.ref f4)))
    (l4 : K.lookup f4 = some ⟨oc4, od4, .func (PySem.W.fnOf "is_star" "is_star" (defArgs s_is_star) (defBody s_is_star) (defScope s_is_star) .none kV4 dc4 pm4 an4 cd4 ct4), sl4⟩)
    (c4 : PySem.W.codeIn K cd4 "is_star" = true)
    (k4 : PySem.W.keepIn K (.ref f4) = true)
    (a5 : PySem.W.nsIn K mainGlobals "is_camera" = some (some (.ref f5)))
    (l5 : K.lookup f5 = some ⟨oc5, od5, .func (PySem.W.fnOf "is_camera" "is_camera" (defArgs s_is_camera) (defBody s_is_camera) (defScope s_is_camera) .none kV5 dc5 pm5 an5 cd5 ct5), sl5⟩)
    (c5 : PySem.W.codeIn K cd5 "is_camera" = true)
    (k5 : PySem.W.keepIn K (.ref f5) = true)
    (a6 : PySem.W.nsIn K mainGlobals "_check_sky" = some (some (.ref f6)))
    (l6 : K.lookup f6 = some ⟨oc6, od6, .func (PySem.W.fnOf "_check_sky" "_check_sky" (defArgs s__check_sky) (defBody s__check_sky) (defScope s__check_sky) .none kV6 dc6 pm6 an6 cd6 ct6), sl6⟩)
    (c6 : PySem.W.codeIn K cd6 "_check_sky" = true)
    (k6 : PySem.W.keepIn K (.ref f6) = true)
    (l7 : K.lookup f7 = some ⟨oc7, od7, .func (PySem.W.fnOf "__init__" "Sky.__init__" (defArgs s_Skyx_initx) (defBody s_Skyx_initx) (defScope s_Skyx_initx) .none kV7 dc7 pm7 an7 cd7 ct7), sl7⟩)
    (c7 : PySem.W.codeIn K cd7 "Sky.__init__" = true)
    (k7 : PySem.W.keepIn K (.ref f7) = true)
    (l8 : K.lookup f8 = some ⟨oc8, od8, .func (PySem.W.fnOf "side" "Sky.side" (defArgs s_Sky_side) (defBody s_Sky_side) (defScope s_Sky_side) .none kV8 dc8 pm8 an8 cd8 ct8), sl8⟩)
    (c8 : PySem.W.codeIn K cd8 "Sky.side" = true)
    (k8 : PySem.W.keepIn K (.ref f8) = true)
    (l9 : K.lookup f9 = some ⟨oc9, od9, .func (PySem.W.fnOf "stars" "Sky.stars" (defArgs s_Sky_stars) (defBody s_Sky_stars) (defScope s_Sky_stars) .none kV9 dc9 pm9 an9 cd9 ct9), sl9⟩)
    (c9 : PySem.W.codeIn K cd9 "Sky.stars" = true)
    (k9 : PySem.W.keepIn K (.ref f9) = true)
    (l10 : K.lookup f10 = some ⟨oc10, od10, .func (PySem.W.fnOf "reach" "Sky.reach" (defArgs s_Sky_reach) (defBody s_Sky_reach) (defScope s_Sky_reach) .none kV10 dc10 pm10 an10 cd10 ct10), sl10⟩)
    (c10 : PySem.W.codeIn K cd10 "Sky.reach" = true)
    (k10 : PySem.W.keepIn K (.ref f10) = true)
    (l11 : K.lookup f11 = some ⟨oc11, od11, .func (PySem.W.fnOf "blur" "Sky.blur" (defArgs s_Sky_blur) (defBody s_Sky_blur) (defScope s_Sky_blur) .none kV11 dc11 pm11 an11 cd11 ct11), sl11⟩)
    (c11 : PySem.W.codeIn K cd11 "Sky.blur" = true)
    (k11 : PySem.W.keepIn K (.ref f11) = true)
    (l12 : K.lookup f12 = some ⟨oc12, od12, .func (PySem.W.fnOf "glare" "Sky.glare" (defArgs s_Sky_glare) (defBody s_Sky_glare) (defScope s_Sky_glare) .none kV12 dc12 pm12 an12 cd12 ct12), sl12⟩)
    (c12 : PySem.W.codeIn K cd12 "Sky.glare" = true)
    (k12 : PySem.W.keepIn K (.ref f12) = true)
    (l13 : K.lookup f13 = some ⟨oc13, od13, .func (PySem.W.fnOf "limit" "Sky.limit" (defArgs s_Sky_limit) (defBody s_Sky_limit) (defScope s_Sky_limit) .none kV13 dc13 pm13 an13 cd13 ct13), sl13⟩)
    (c13 : PySem.W.codeIn K cd13 "Sky.limit" = true)
    (k13 : PySem.W.keepIn K (.ref f13) = true)
    (a14 : PySem.W.nsIn K mainGlobals "attitudes" = some (some (.ref f14)))
    (l14 : K.lookup f14 = some ⟨oc14, od14, .func (PySem.W.fnOf "attitudes" "attitudes" (defArgs s_attitudes) (defBody s_attitudes) (defScope s_attitudes) .none kV14 dc14 pm14 an14 cd14 ct14), sl14⟩)
    (c14 : PySem.W.codeIn K cd14 "attitudes" = true)
    (k14 : PySem.W.keepIn K (.ref f14) = true)
    (a15 : PySem.W.nsIn K mainGlobals "check_attitude" = some (some (.ref f15)))
    (l15 : K.lookup f15 = some ⟨oc15, od15, .func (PySem.W.fnOf "check_attitude" "check_attitude" (defArgs s_check_attitude) (defBody s_check_attitude) (defScope s_check_attitude) .none kV15 dc15 pm15 an15 cd15 ct15), sl15⟩)
    (c15 : PySem.W.codeIn K cd15 "check_attitude" = true)
    (k15 : PySem.W.keepIn K (.ref f15) = true)
    (a16 : PySem.W.nsIn K mainGlobals "check_two" = some (some (.ref f16)))
    (l16 : K.lookup f16 = some ⟨oc16, od16, .func (PySem.W.fnOf "check_two" "check_two" (defArgs s_check_two) (defBody s_check_two) (defScope s_check_two) .none kV16 dc16 pm16 an16 cd16 ct16), sl16⟩)
    (c16 : PySem.W.codeIn K cd16 "check_two" = true)
    (k16 : PySem.W.keepIn K (.ref f16) = true)
    (a17 : PySem.W.nsIn K mainGlobals "_offset_of" = some (some (.ref f17)))
    (l17 : K.lookup f17 = some ⟨oc17, od17, .func (PySem.W.fnOf "_offset_of" "_offset_of" (defArgs s__offset_of) (defBody s__offset_of) (defScope s__offset_of) .none kV17 dc17 pm17 an17 cd17 ct17), sl17⟩)
    (c17 : PySem.W.codeIn K cd17 "_offset_of" = true)
    (k17 : PySem.W.keepIn K (.ref f17) = true)
    (a18 : PySem.W.nsIn K mainGlobals "_nearest" = some (some (.ref f18)))
    (l18 : K.lookup f18 = some ⟨oc18, od18, .func (PySem.W.fnOf "_nearest" "_nearest" (defArgs s__nearest) (defBody s__nearest) (defScope s__nearest) .none kV18 dc18 pm18 an18 cd18 ct18), sl18⟩)
    (c18 : PySem.W.codeIn K cd18 "_nearest" = true)
    (k18 : PySem.W.keepIn K (.ref f18) = true)
    (a19 : PySem.W.nsIn K mainGlobals "appearances" = some (some (.ref f19)))
    (l19 : K.lookup f19 = some ⟨oc19, od19, .func (PySem.W.fnOf "appearances" "appearances" (defArgs s_appearances) (defBody s_appearances) (defScope s_appearances) .none kV19 dc19 pm19 an19 cd19 ct19), sl19⟩)
    (c19 : PySem.W.codeIn K cd19 "appearances" = true)
    (k19 : PySem.W.keepIn K (.ref f19) = true)
    (a20 : PySem.W.nsIn K mainGlobals "sure_among" = some (some (.ref f20)))
    (l20 : K.lookup f20 = some ⟨oc20, od20, .func (PySem.W.fnOf "sure_among" "sure_among" (defArgs s_sure_among) (defBody s_sure_among) (defScope s_sure_among) .none kV20 dc20 pm20 an20 cd20 ct20), sl20⟩)
    (c20 : PySem.W.codeIn K cd20 "sure_among" = true)
    (k20 : PySem.W.keepIn K (.ref f20) = true)
    (a21 : PySem.W.nsIn K mainGlobals "most" = some (some (.ref f21)))
    (l21 : K.lookup f21 = some ⟨oc21, od21, .func (PySem.W.fnOf "most" "most" (defArgs s_most) (defBody s_most) (defScope s_most) .none kV21 dc21 pm21 an21 cd21 ct21), sl21⟩)
    (c21 : PySem.W.codeIn K cd21 "most" = true)
    (k21 : PySem.W.keepIn K (.ref f21) = true)
    (a22 : PySem.W.nsIn K mainGlobals "matching" = some (some (.ref f22)))
    (l22 : K.lookup f22 = some ⟨oc22, od22, .func (PySem.W.fnOf "matching" "matching" (defArgs s_matching) (defBody s_matching) (defScope s_matching) .none kV22 dc22 pm22 an22 cd22 ct22), sl22⟩)
    (c22 : PySem.W.codeIn K cd22 "matching" = true)
    (k22 : PySem.W.keepIn K (.ref f22) = true)
    (a23 : PySem.W.nsIn K mainGlobals "_mates_of" = some (some (.ref f23)))
    (l23 : K.lookup f23 = some ⟨oc23, od23, .func (PySem.W.fnOf "_mates_of" "_mates_of" (defArgs s__mates_of) (defBody s__mates_of) (defScope s__mates_of) .none kV23 dc23 pm23 an23 cd23 ct23), sl23⟩)
    (c23 : PySem.W.codeIn K cd23 "_mates_of" = true)
    (k23 : PySem.W.keepIn K (.ref f23) = true)
    (a24 : PySem.W.nsIn K mainGlobals "_rows_by_column" = some (some (.ref f24)))
    (l24 : K.lookup f24 = some ⟨oc24, od24, .func (PySem.W.fnOf "_rows_by_column" "_rows_by_column" (defArgs s__rows_by_column) (defBody s__rows_by_column) (defScope s__rows_by_column) .none kV24 dc24 pm24 an24 cd24 ct24), sl24⟩)
    (c24 : PySem.W.codeIn K cd24 "_rows_by_column" = true)
    (k24 : PySem.W.keepIn K (.ref f24) = true)
    (a25 : PySem.W.nsIn K mainGlobals "_with_more" = some (some (.ref f25)))
    (l25 : K.lookup f25 = some ⟨oc25, od25, .func (PySem.W.fnOf "_with_more" "_with_more" (defArgs s__with_more) (defBody s__with_more) (defScope s__with_more) .none kV25 dc25 pm25 an25 cd25 ct25), sl25⟩)
    (c25 : PySem.W.codeIn K cd25 "_with_more" = true)
    (k25 : PySem.W.keepIn K (.ref f25) = true)
    (a26 : PySem.W.nsIn K mainGlobals "_steps_to_more" = some (some (.ref f26)))
    (l26 : K.lookup f26 = some ⟨oc26, od26, .func (PySem.W.fnOf "_steps_to_more" "_steps_to_more" (defArgs s__steps_to_more) (defBody s__steps_to_more) (defScope s__steps_to_more) .none kV26 dc26 pm26 an26 cd26 ct26), sl26⟩)
    (c26 : PySem.W.codeIn K cd26 "_steps_to_more" = true)
    (k26 : PySem.W.keepIn K (.ref f26) = true)
    (a27 : PySem.W.nsIn K mainGlobals "_traced" = some (some (.ref f27)))
    (l27 : K.lookup f27 = some ⟨oc27, od27, .func (PySem.W.fnOf "_traced" "_traced" (defArgs s__traced) (defBody s__traced) (defScope s__traced) .none kV27 dc27 pm27 an27 cd27 ct27), sl27⟩)
    (c27 : PySem.W.codeIn K cd27 "_traced" = true)
    (k27 : PySem.W.keepIn K (.ref f27) = true)
    (a28 : PySem.W.nsIn K mainGlobals "is_ascending" = some (some (.ref f28)))
    (l28 : K.lookup f28 = some ⟨oc28, od28, .func (PySem.W.fnOf "is_ascending" "is_ascending" (defArgs s_is_ascending) (defBody s_is_ascending) (defScope s_is_ascending) .none kV28 dc28 pm28 an28 cd28 ct28), sl28⟩)
    (c28 : PySem.W.codeIn K cd28 "is_ascending" = true)
    (k28 : PySem.W.keepIn K (.ref f28) = true)
    (a29 : PySem.W.nsIn K mainGlobals "partners" = some (some (.ref f29)))
    (l29 : K.lookup f29 = some ⟨oc29, od29, .func (PySem.W.fnOf "partners" "partners" (defArgs s_partners) (defBody s_partners) (defScope s_partners) .none kV29 dc29 pm29 an29 cd29 ct29), sl29⟩)
    (c29 : PySem.W.codeIn K cd29 "partners" = true)
    (k29 : PySem.W.keepIn K (.ref f29) = true)
    (a30 : PySem.W.nsIn K mainGlobals "lack_matching" = some (some (.ref f30)))
    (l30 : K.lookup f30 = some ⟨oc30, od30, .func (PySem.W.fnOf "lack" "lack" (defArgs s_lack_matching) (defBody s_lack_matching) (defScope s_lack_matching) .none kV30 dc30 pm30 an30 cd30 ct30), sl30⟩)
    (c30 : PySem.W.codeIn K cd30 "lack" = true)
    (k30 : PySem.W.keepIn K (.ref f30) = true)
    (a31 : PySem.W.nsIn K mainGlobals "lacks_more" = some (some (.ref f31)))
    (l31 : K.lookup f31 = some ⟨oc31, od31, .func (PySem.W.fnOf "lacks_more" "lacks_more" (defArgs s_lacks_more) (defBody s_lacks_more) (defScope s_lacks_more) .none kV31 dc31 pm31 an31 cd31 ct31), sl31⟩)
    (c31 : PySem.W.codeIn K cd31 "lacks_more" = true)
    (k31 : PySem.W.keepIn K (.ref f31) = true)
    (a32 : PySem.W.nsIn K mainGlobals "least_lot" = some (some (.ref f32)))
    (l32 : K.lookup f32 = some ⟨oc32, od32, .func (PySem.W.fnOf "least_lot" "least_lot" (defArgs s_least_lot) (defBody s_least_lot) (defScope s_least_lot) .none kV32 dc32 pm32 an32 cd32 ct32), sl32⟩)
    (c32 : PySem.W.codeIn K cd32 "least_lot" = true)
    (k32 : PySem.W.keepIn K (.ref f32) = true)
    (a33 : PySem.W.nsIn K mainGlobals "turned_table" = some (some (.ref f33)))
    (l33 : K.lookup f33 = some ⟨oc33, od33, .func (PySem.W.fnOf "turned_table" "turned_table" (defArgs s_turned_table) (defBody s_turned_table) (defScope s_turned_table) .none kV33 dc33 pm33 an33 cd33 ct33), sl33⟩)
    (c33 : PySem.W.codeIn K cd33 "turned_table" = true)
    (k33 : PySem.W.keepIn K (.ref f33) = true)
    (a34 : PySem.W.nsIn K mainGlobals "linked" = some (some (.ref f34)))
    (l34 : K.lookup f34 = some ⟨oc34, od34, .func (PySem.W.fnOf "linked" "linked" (defArgs s_linked) (defBody s_linked) (defScope s_linked) .none kV34 dc34 pm34 an34 cd34 ct34), sl34⟩)
    (c34 : PySem.W.codeIn K cd34 "linked" = true)
    (k34 : PySem.W.keepIn K (.ref f34) = true)
    (a35 : PySem.W.nsIn K mainGlobals "shown_at" = some (some (.ref f35)))
    (l35 : K.lookup f35 = some ⟨oc35, od35, .func (PySem.W.fnOf "shown_at" "shown_at" (defArgs s_shown_at) (defBody s_shown_at) (defScope s_shown_at) .none kV35 dc35 pm35 an35 cd35 ct35), sl35⟩)
    (c35 : PySem.W.codeIn K cd35 "shown_at" = true)
    (k35 : PySem.W.keepIn K (.ref f35) = true)
    (a36 : PySem.W.nsIn K mainGlobals "link_table" = some (some (.ref f36)))
    (l36 : K.lookup f36 = some ⟨oc36, od36, .func (PySem.W.fnOf "link_table" "link_table" (defArgs s_link_table) (defBody s_link_table) (defScope s_link_table) .none kV36 dc36 pm36 an36 cd36 ct36), sl36⟩)
    (c36 : PySem.W.codeIn K cd36 "link_table" = true)
    (k36 : PySem.W.keepIn K (.ref f36) = true)
    (a37 : PySem.W.nsIn K mainGlobals "lack_confuse" = some (some (.ref f37)))
    (l37 : K.lookup f37 = some ⟨oc37, od37, .func (PySem.W.fnOf "lack" "lack" (defArgs s_lack_confuse) (defBody s_lack_confuse) (defScope s_lack_confuse) .none kV37 dc37 pm37 an37 cd37 ct37), sl37⟩)
    (c37 : PySem.W.codeIn K cd37 "lack" = true)
    (k37 : PySem.W.keepIn K (.ref f37) = true)
    (a38 : PySem.W.nsIn K mainGlobals "unlikeness" = some (some (.ref f38)))
    (l38 : K.lookup f38 = some ⟨oc38, od38, .func (PySem.W.fnOf "unlikeness" "unlikeness" (defArgs s_unlikeness) (defBody s_unlikeness) (defScope s_unlikeness) .none kV38 dc38 pm38 an38 cd38 ct38), sl38⟩)
    (c38 : PySem.W.codeIn K cd38 "unlikeness" = true)
    (k38 : PySem.W.keepIn K (.ref f38) = true)
    (a39 : PySem.W.nsIn K mainGlobals "both_lacks" = some (some (.ref f39)))
    (l39 : K.lookup f39 = some ⟨oc39, od39, .func (PySem.W.fnOf "both_lacks" "both_lacks" (defArgs s_both_lacks) (defBody s_both_lacks) (defScope s_both_lacks) .none kV39 dc39 pm39 an39 cd39 ct39), sl39⟩)
    (c39 : PySem.W.codeIn K cd39 "both_lacks" = true)
    (k39 : PySem.W.keepIn K (.ref f39) = true)
    (a40 : PySem.W.nsIn K mainGlobals "lacking_lot" = some (some (.ref f40)))
    (l40 : K.lookup f40 = some ⟨oc40, od40, .func (PySem.W.fnOf "lacking_lot" "lacking_lot" (defArgs s_lacking_lot) (defBody s_lacking_lot) (defScope s_lacking_lot) .none kV40 dc40 pm40 an40 cd40 ct40), sl40⟩)
    (c40 : PySem.W.codeIn K cd40 "lacking_lot" = true)
    (k40 : PySem.W.keepIn K (.ref f40) = true)
    (a41 : PySem.W.nsIn K mainGlobals "couples" = some (some (.ref f41)))
    (l41 : K.lookup f41 = some ⟨oc41, od41, .func (PySem.W.fnOf "couples" "couples" (defArgs s_couples) (defBody s_couples) (defScope s_couples) .none kV41 dc41 pm41 an41 cd41 ct41), sl41⟩)
    (c41 : PySem.W.codeIn K cd41 "couples" = true)
    (k41 : PySem.W.keepIn K (.ref f41) = true)
    (a42 : PySem.W.nsIn K mainGlobals "_couples" = some (some (.ref f42)))
    (l42 : K.lookup f42 = some ⟨oc42, od42, .func (PySem.W.fnOf "_couples" "_couples" (defArgs s__couples) (defBody s__couples) (defScope s__couples) .none kV42 dc42 pm42 an42 cd42 ct42), sl42⟩)
    (c42 : PySem.W.codeIn K cd42 "_couples" = true)
    (k42 : PySem.W.keepIn K (.ref f42) = true)
    (a43 : PySem.W.nsIn K mainGlobals "are_confusable" = some (some (.ref f43)))
    (l43 : K.lookup f43 = some ⟨oc43, od43, .func (PySem.W.fnOf "are_confusable" "are_confusable" (defArgs s_are_confusable) (defBody s_are_confusable) (defScope s_are_confusable) .none kV43 dc43 pm43 an43 cd43 ct43), sl43⟩)
    (c43 : PySem.W.codeIn K cd43 "are_confusable" = true)
    (k43 : PySem.W.keepIn K (.ref f43) = true)
    (a44 : PySem.W.nsIn K mainGlobals "confusing_sighting" = some (some (.ref f44)))
    (l44 : K.lookup f44 = some ⟨oc44, od44, .func (PySem.W.fnOf "confusing_sighting" "confusing_sighting" (defArgs s_confusing_sighting) (defBody s_confusing_sighting) (defScope s_confusing_sighting) .none kV44 dc44 pm44 an44 cd44 ct44), sl44⟩)
    (c44 : PySem.W.codeIn K cd44 "confusing_sighting" = true)
    (k44 : PySem.W.keepIn K (.ref f44) = true)
    (a45 : PySem.W.nsIn K mainGlobals "common_sighting" = some (some (.ref f45)))
    (l45 : K.lookup f45 = some ⟨oc45, od45, .func (PySem.W.fnOf "common_sighting" "common_sighting" (defArgs s_common_sighting) (defBody s_common_sighting) (defScope s_common_sighting) .none kV45 dc45 pm45 an45 cd45 ct45), sl45⟩)
    (c45 : PySem.W.codeIn K cd45 "common_sighting" = true)
    (k45 : PySem.W.keepIn K (.ref f45) = true)
    (a46 : PySem.W.nsIn K mainGlobals "common_spot" = some (some (.ref f46)))
    (l46 : K.lookup f46 = some ⟨oc46, od46, .func (PySem.W.fnOf "common_spot" "common_spot" (defArgs s_common_spot) (defBody s_common_spot) (defScope s_common_spot) .none kV46 dc46 pm46 an46 cd46 ct46), sl46⟩)
    (c46 : PySem.W.codeIn K cd46 "common_spot" = true)
    (k46 : PySem.W.keepIn K (.ref f46) = true)
    (a47 : PySem.W.nsIn K mainGlobals "_own_spots" = some (some (.ref f47)))
    (l47 : K.lookup f47 = some ⟨oc47, od47, .func (PySem.W.fnOf "_own_spots" "_own_spots" (defArgs s__own_spots) (defBody s__own_spots) (defScope s__own_spots) .none kV47 dc47 pm47 an47 cd47 ct47), sl47⟩)
    (c47 : PySem.W.codeIn K cd47 "_own_spots" = true)
    (k47 : PySem.W.keepIn K (.ref f47) = true)
    (a48 : PySem.W.nsIn K mainGlobals "parting_paper" = some (some (.ref f48)))
    (l48 : K.lookup f48 = some ⟨oc48, od48, .func (PySem.W.fnOf "parting_paper" "parting_paper" (defArgs s_parting_paper) (defBody s_parting_paper) (defScope s_parting_paper) .none kV48 dc48 pm48 an48 cd48 ct48), sl48⟩)
    (c48 : PySem.W.codeIn K cd48 "parting_paper" = true)
    (k48 : PySem.W.keepIn K (.ref f48) = true)
    (a49 : PySem.W.nsIn K mainGlobals "check_parting" = some (some (.ref f49)))
    (l49 : K.lookup f49 = some ⟨oc49, od49, .func (PySem.W.fnOf "check_parting" "check_parting" (defArgs s_check_parting) (defBody s_check_parting) (defScope s_check_parting) .none kV49 dc49 pm49 an49 cd49 ct49), sl49⟩)
    (c49 : PySem.W.codeIn K cd49 "check_parting" = true)
    (k49 : PySem.W.keepIn K (.ref f49) = true)
    (a50 : PySem.W.nsIn K mainGlobals "confusable_with" = some (some (.ref f50)))
    (l50 : K.lookup f50 = some ⟨oc50, od50, .func (PySem.W.fnOf "confusable_with" "confusable_with" (defArgs s_confusable_with) (defBody s_confusable_with) (defScope s_confusable_with) .none kV50 dc50 pm50 an50 cd50 ct50), sl50⟩)
    (c50 : PySem.W.codeIn K cd50 "confusable_with" = true)
    (k50 : PySem.W.keepIn K (.ref f50) = true)
    (a51 : PySem.W.nsIn K mainGlobals "_law_row" = some (some (.ref f51)))
    (l51 : K.lookup f51 = some ⟨oc51, od51, .func (PySem.W.fnOf "_law_row" "_law_row" (defArgs s__law_row) (defBody s__law_row) (defScope s__law_row) .none kV51 dc51 pm51 an51 cd51 ct51), sl51⟩)
    (c51 : PySem.W.codeIn K cd51 "_law_row" = true)
    (k51 : PySem.W.keepIn K (.ref f51) = true)
    (a52 : PySem.W.nsIn K mainGlobals "_law_numbers" = some (some (.ref f52)))
    (l52 : K.lookup f52 = some ⟨oc52, od52, .func (PySem.W.fnOf "_law_numbers" "_law_numbers" (defArgs s__law_numbers) (defBody s__law_numbers) (defScope s__law_numbers) .none kV52 dc52 pm52 an52 cd52 ct52), sl52⟩)
    (c52 : PySem.W.codeIn K cd52 "_law_numbers" = true)
    (k52 : PySem.W.keepIn K (.ref f52) = true)
    (a53 : PySem.W.nsIn K mainGlobals "_law_camera" = some (some (.ref f53)))
    (l53 : K.lookup f53 = some ⟨oc53, od53, .func (PySem.W.fnOf "_law_camera" "_law_camera" (defArgs s__law_camera) (defBody s__law_camera) (defScope s__law_camera) .none kV53 dc53 pm53 an53 cd53 ct53), sl53⟩)
    (c53 : PySem.W.codeIn K cd53 "_law_camera" = true)
    (k53 : PySem.W.keepIn K (.ref f53) = true)
    (a54 : PySem.W.nsIn K mainGlobals "_law_stars" = some (some (.ref f54)))
    (l54 : K.lookup f54 = some ⟨oc54, od54, .func (PySem.W.fnOf "_law_stars" "_law_stars" (defArgs s__law_stars) (defBody s__law_stars) (defScope s__law_stars) .none kV54 dc54 pm54 an54 cd54 ct54), sl54⟩)
    (c54 : PySem.W.codeIn K cd54 "_law_stars" = true)
    (k54 : PySem.W.keepIn K (.ref f54) = true)
    (a55 : PySem.W.nsIn K mainGlobals "_law_parts" = some (some (.ref f55)))
    (l55 : K.lookup f55 = some ⟨oc55, od55, .func (PySem.W.fnOf "_law_parts" "_law_parts" (defArgs s__law_parts) (defBody s__law_parts) (defScope s__law_parts) .none kV55 dc55 pm55 an55 cd55 ct55), sl55⟩)
    (c55 : PySem.W.codeIn K cd55 "_law_parts" = true)
    (k55 : PySem.W.keepIn K (.ref f55) = true)
    (a56 : PySem.W.nsIn K mainGlobals "_law_made" = some (some (.ref f56)))
    (l56 : K.lookup f56 = some ⟨oc56, od56, .func (PySem.W.fnOf "_law_made" "_law_made" (defArgs s__law_made) (defBody s__law_made) (defScope s__law_made) .none kV56 dc56 pm56 an56 cd56 ct56), sl56⟩)
    (c56 : PySem.W.codeIn K cd56 "_law_made" = true)
    (k56 : PySem.W.keepIn K (.ref f56) = true)
    (a57 : PySem.W.nsIn K mainGlobals "_law_attitude" = some (some (.ref f57)))
    (l57 : K.lookup f57 = some ⟨oc57, od57, .func (PySem.W.fnOf "_law_attitude" "_law_attitude" (defArgs s__law_attitude) (defBody s__law_attitude) (defScope s__law_attitude) .none kV57 dc57 pm57 an57 cd57 ct57), sl57⟩)
    (c57 : PySem.W.codeIn K cd57 "_law_attitude" = true)
    (k57 : PySem.W.keepIn K (.ref f57) = true)
    (a58 : PySem.W.nsIn K mainGlobals "_law_beside" = some (some (.ref f58)))
    (l58 : K.lookup f58 = some ⟨oc58, od58, .func (PySem.W.fnOf "_law_beside" "_law_beside" (defArgs s__law_beside) (defBody s__law_beside) (defScope s__law_beside) .none kV58 dc58 pm58 an58 cd58 ct58), sl58⟩)
    (c58 : PySem.W.codeIn K cd58 "_law_beside" = true)
    (k58 : PySem.W.keepIn K (.ref f58) = true)
    (a59 : PySem.W.nsIn K mainGlobals "_law_turned" = some (some (.ref f59)))
    (l59 : K.lookup f59 = some ⟨oc59, od59, .func (PySem.W.fnOf "_law_turned" "_law_turned" (defArgs s__law_turned) (defBody s__law_turned) (defScope s__law_turned) .none kV59 dc59 pm59 an59 cd59 ct59), sl59⟩)
    (c59 : PySem.W.codeIn K cd59 "_law_turned" = true)
    (k59 : PySem.W.keepIn K (.ref f59) = true)
    (a60 : PySem.W.nsIn K mainGlobals "_law_offsets" = some (some (.ref f60)))
    (l60 : K.lookup f60 = some ⟨oc60, od60, .func (PySem.W.fnOf "_law_offsets" "_law_offsets" (defArgs s__law_offsets) (defBody s__law_offsets) (defScope s__law_offsets) .none kV60 dc60 pm60 an60 cd60 ct60), sl60⟩)
    (c60 : PySem.W.codeIn K cd60 "_law_offsets" = true)
    (k60 : PySem.W.keepIn K (.ref f60) = true)
    (a61 : PySem.W.nsIn K mainGlobals "_law_seen" = some (some (.ref f61)))
    (l61 : K.lookup f61 = some ⟨oc61, od61, .func (PySem.W.fnOf "_law_seen" "_law_seen" (defArgs s__law_seen) (defBody s__law_seen) (defScope s__law_seen) .none kV61 dc61 pm61 an61 cd61 ct61), sl61⟩)
    (c61 : PySem.W.codeIn K cd61 "_law_seen" = true)
    (k61 : PySem.W.keepIn K (.ref f61) = true)
    (a62 : PySem.W.nsIn K mainGlobals "_law_common" = some (some (.ref f62)))
    (l62 : K.lookup f62 = some ⟨oc62, od62, .func (PySem.W.fnOf "_law_common" "_law_common" (defArgs s__law_common) (defBody s__law_common) (defScope s__law_common) .none kV62 dc62 pm62 an62 cd62 ct62), sl62⟩)
    (c62 : PySem.W.codeIn K cd62 "_law_common" = true)
    (k62 : PySem.W.keepIn K (.ref f62) = true)
    (a63 : PySem.W.nsIn K mainGlobals "_law_links" = some (some (.ref f63)))
    (l63 : K.lookup f63 = some ⟨oc63, od63, .func (PySem.W.fnOf "_law_links" "_law_links" (defArgs s__law_links) (defBody s__law_links) (defScope s__law_links) .none kV63 dc63 pm63 an63 cd63 ct63), sl63⟩)
    (c63 : PySem.W.codeIn K cd63 "_law_links" = true)
    (k63 : PySem.W.keepIn K (.ref f63) = true)
    (a64 : PySem.W.nsIn K mainGlobals "_law_called" = some (some (.ref f64)))
    (l64 : K.lookup f64 = some ⟨oc64, od64, .func (PySem.W.fnOf "_law_called" "_law_called" (defArgs s__law_called) (defBody s__law_called) (defScope s__law_called) .none kV64 dc64 pm64 an64 cd64 ct64), sl64⟩)
    (c64 : PySem.W.codeIn K cd64 "_law_called" = true)
    (k64 : PySem.W.keepIn K (.ref f64) = true)
    (a65 : PySem.W.nsIn K mainGlobals "_law_refused" = some (some (.ref f65)))
    (l65 : K.lookup f65 = some ⟨oc65, od65, .func (PySem.W.fnOf "_law_refused" "_law_refused" (defArgs s__law_refused) (defBody s__law_refused) (defScope s__law_refused) .none kV65 dc65 pm65 an65 cd65 ct65), sl65⟩)
    (c65 : PySem.W.codeIn K cd65 "_law_refused" = true)
    (k65 : PySem.W.keepIn K (.ref f65) = true)
    (a66 : PySem.W.nsIn K mainGlobals "law" = some (some (.ref f66)))
    (l66 : K.lookup f66 = some ⟨oc66, od66, .func (PySem.W.fnOf "law" "law" (defArgs s_law) (defBody s_law) (defScope s_law) .none kV66 dc66 pm66 an66 cd66 ct66), sl66⟩)
    (c66 : PySem.W.codeIn K cd66 "law" = true)
    (k66 : PySem.W.keepIn K (.ref f66) = true)
    (sa1 : PySem.W.nsIn K mainGlobals "Sky" = some (some (.ref s1)))
    (sp1 : PySem.W.plainGet K s1 Str.empty = true)
    (sh1 : PySem.W.hasDictIn K s1 = true)
    (so1 : PySem.W.plainOver K s1 = true)
    (ss1 : PySem.W.findIn K (.ref s1) "__setattr__" = some (some (.builtin "object.__setattr__")))
    (sm1 : PySem.W.makesIn K s1 = true)
    (sk1 : PySem.W.keepIn K (.ref s1) = true)
    (si1 : PySem.W.findIn K (.ref s1) "__init__" = some (some (.ref f7)))
    (sf1 : PySem.W.isFn K (.ref f7) = true)
    (sn1_0 : PySem.W.findIn K (.ref s1) "_side" = some none)
    (sn1_1 : PySem.W.findIn K (.ref s1) "_stars" = some none)
    (sn1_2 : PySem.W.findIn K (.ref s1) "_camera" = some none)
    (pa8 : PySem.W.findIn K (.ref s1) "side" = some (some (.ref g8)))
    (pg8 : PySem.W.specialIn K (.ref g8) "__get__" = some (some (.builtin "property.__get__")))
    (pt8 : PySem.W.takesIn K (.ref g8) = some true)
    (pr8 : PySem.W.recIn K g8 "property" = some (.ref f8 :: rs8))
    (pa9 : PySem.W.findIn K (.ref s1) "stars" = some (some (.ref g9)))
    (pg9 : PySem.W.specialIn K (.ref g9) "__get__" = some (some (.builtin "property.__get__")))
    (pt9 : PySem.W.takesIn K (.ref g9) = some true)
    (pr9 : PySem.W.recIn K g9 "property" = some (.ref f9 :: rs9))
    (pa10 : PySem.W.findIn K (.ref s1) "reach" = some (some (.ref g10)))
    (pg10 : PySem.W.specialIn K (.ref g10) "__get__" = some (some (.builtin "property.__get__")))
    (pt10 : PySem.W.takesIn K (.ref g10) = some true)
    (pr10 : PySem.W.recIn K g10 "property" = some (.ref f10 :: rs10))
    (pa11 : PySem.W.findIn K (.ref s1) "blur" = some (some (.ref g11)))
    (pg11 : PySem.W.specialIn K (.ref g11) "__get__" = some (some (.builtin "property.__get__")))
    (pt11 : PySem.W.takesIn K (.ref g11) = some true)
    (pr11 : PySem.W.recIn K g11 "property" = some (.ref f11 :: rs11))
    (pa12 : PySem.W.findIn K (.ref s1) "glare" = some (some (.ref g12)))
    (pg12 : PySem.W.specialIn K (.ref g12) "__get__" = some (some (.builtin "property.__get__")))
    (pt12 : PySem.W.takesIn K (.ref g12) = some true)
    (pr12 : PySem.W.recIn K g12 "property" = some (.ref f12 :: rs12))
    (pa13 : PySem.W.findIn K (.ref s1) "limit" = some (some (.ref g13)))
    (pg13 : PySem.W.specialIn K (.ref g13) "__get__" = some (some (.builtin "property.__get__")))
    (pt13 : PySem.W.takesIn K (.ref g13) = some true)
    (pr13 : PySem.W.recIn K g13 "property" = some (.ref f13 :: rs13))
    (ea1 : PySem.W.nsIn K mainGlobals "InvalidAttitude" = some (some (.ref e1)))
    (ex1 : K.lookup e1 = some (excClassObj enm1 eq1 e1 eN1 ebs1 ebm1 true esn1 esub1 eab1 eco1 edd1 ek1_0 ek1_1 ek1_2 ek1_3 ek1_4 "ValueError.__new__"))
    (er1 : PySem.HandSPX.refsVE ebm1 = true)
    (esa1 : PySem.W.findIn K (.ref e1) "__setattr__" = some (some (.builtin "object.__setattr__")))
    (ega1 : PySem.W.findIn K (.ref e1) "__getattribute__" = some (some (.builtin "BaseException.__getattribute__")))
    (egg1 : PySem.W.findIn K (.ref e1) "__getattr__" = some none)
    (enf1 : PySem.W.findIn K (.ref e1) "attitude" = some none)
    (eic1 : PySem.W.findIn K (.ref e1) "__init__" = some (some (.ref ei1)))
    (etc1 : PySem.W.typeIn K (.ref ei1) = some (.type "function"))
    (ekc1 : PySem.W.keepIn K (.ref e1) = true)
    (exc1 : PySem.W.subIn K (.ref e1) (.type "BaseException") = some true)
    (eve1 : PySem.W.subIn K (.ref e1) (.type "ValueError") = some true)
    (ety1 : PySem.W.typeIn K (.ref e1) = some (.type "type"))
    (ehd1 : PySem.W.hasDictIn K e1 = true)
    (ecl_1 : PySem.W.isClsIn K e1 = true)
    (ess1 : PySem.W.subIn K (.ref e1) (.ref e1) = some true)
    (eal1 : PySem.W.ks_superIn K e1 e1 "__init__" = some (some (.builtin "ValueError.__init__")))
    (ems1 : PySem.W.mroIn K e1 (.ref e1) = some true)
    (elf1 : K.lookup ei1 = some ⟨eoc1, eod1, .func (PySem.W.ksFn "__init__" "InvalidAttitude.__init__" (PySem.SwX.iA "attitude" ⟨11, 17, 11, 21⟩ ⟨11, 23, 11, 31⟩) (PySem.SwX.iB "no attitude of the sky" "attitude" 0 ⟨12, 8, 12, 13⟩ ⟨12, 8, 12, 15⟩ ⟨12, 8, 12, 24⟩ ⟨12, 25, 12, 49⟩ ⟨12, 8, 12, 50⟩ ⟨12, 8, 12, 50⟩ ⟨13, 8, 13, 12⟩ ⟨13, 8, 13, 21⟩ ⟨13, 24, 13, 32⟩ ⟨13, 8, 13, 32⟩) (PySem.SwX.iS "attitude") .none .none edc1 epm1 ean1 (.ref ecd1) ect1 ecc1), eosl1⟩)
    (ecI1 : PySem.W.codeIn K (.ref ecd1) "InvalidAttitude.__init__" = true)
    (ecL1 : K.lookup ecd1 = some ⟨eccl1, ecdd1, .fields evs1, eccs1⟩)
    (ecV1 : evs1[2]? = some (.str efl1 etf1))
    (ecF1 : ((PySem.Challenge.pw_starward_k23_linked_stars.main.file : Str) == efl1) = true)
    (ecC1 : K.lookup ecc1 = some ⟨ecl1, ecld1, .cell (some (.ref e1)), ecsl1⟩)
    (eopq : PySem.W.nsIn K cStatics "thirdparty.any" = some none)
    (esup : PySem.W.nsIn K mainGlobals "super" = some none)
    (qa1 : PySem.W.nsIn K mainGlobals "SkyError" = some (some (.ref q1)))
    (qa2 : PySem.W.nsIn K mainGlobals "InvalidSky" = some (some (.ref q2)))
    (qx2 : PySem.W.excIn K q2 [.type "ValueError", .type "Exception", .type "BaseException", .type "object"] "ValueError.__new__" = true)
    (qk2 : PySem.W.keepIn K (.ref q2) = true)
    (qs2 : PySem.W.subIn K (.ref q2) (.type "BaseException") = some true)
    (qt2 : PySem.W.typeIn K (.ref q2) = some (.type "type"))
    (xhn : PySem.W.specialIn K (.builtin "object.__class__") "__get__" = some (some (.builtin "getset_descriptor.__get__")))
    (xht : PySem.W.takesIn K (.builtin "object.__class__") = some true)
    (xg0 : PySem.W.findIn K (.ref e1) "__getattribute__" = some (some (.builtin "BaseException.__getattribute__")))
    (xk0 : PySem.W.findIn K (.ref e1) "__getattr__" = some none)
    (xs0 : PySem.W.subIn K (.ref e1) (.type "BaseException") = some true)
    (xd0 : PySem.W.hasDictIn K e1 = true)
    (xa0 : PySem.W.findIn K (.ref e1) "__class__" = some (some (.builtin "object.__class__")))
    (xm0 : PySem.W.mroIn K e1 (.type "object") = some true)
    (xi0 : PySem.W.isClsIn K e1 = true)
    (kinds : kindsB K [e1] = true)
    (under : underB K [e1] q1 = true)
    (napart : decide [e1].Nodup = true)
    (uc0 : PySem.W.nsIn K mainGlobals "MOST_STARS" = some (some (.int 20 ut0)))
    (uc1 : PySem.W.nsIn K mainGlobals "BRIGHTEST" = some (some (.int 9 ut1)))
    (z0 : PySem.W.nsIn K mainGlobals "len" = some none)
    (z1 : PySem.W.nsIn K mainGlobals "abs" = some none)
    (z2 : PySem.W.nsIn K mainGlobals "int" = some none)
    (z3 : PySem.W.nsIn K mainGlobals "max" = some none)
    (z4 : PySem.W.nsIn K mainGlobals "range" = some none)
    (z5 : PySem.W.nsIn K mainGlobals "tuple" = some none)
    (z6 : PySem.W.nsIn K mainGlobals "all" = some none)
    (z7 : PySem.W.nsIn K mainGlobals "any" = some none)
    (z8 : PySem.W.nsIn K mainGlobals "isinstance" = some none)
    (z9 : PySem.W.nsIn K mainGlobals "sorted" = some none)
    (z10 : PySem.W.nsIn K mainGlobals "repr" = some none)
    (z11 : PySem.W.nsIn K mainGlobals "set" = some none)
    (z12 : PySem.W.nsIn K mainGlobals "enumerate" = some none)
    (z13 : PySem.W.nsIn K mainGlobals "zip" = some none) :
    ∃ fd : FuncData, (∀ (s : Shared) (v : Value), BindsTo s fd ⟨[v], []⟩ [("script", v)]) ∧ ∀ base : Heap, K.In base → base.Ns mainGlobals mg → SwG.FnG PySem.Challenge.pw_starward_k23_linked_stars w K mg base CX0 12 fa fd ["script"] (spLaw K) := by
  have e := hfa.symm.trans (PySem.W.mg_of X G a66)
  cases e
  have F1 := fun_mk (st := s_quarter_turned) l1 c1 k1
  have F2 := fun_mk (st := s_is_pose) l2 c2 k2
  have F3 := fun_mk (st := s_is_side) l3 c3 k3
  have F4 := fun_mk (st := s_is_star) l4 c4 k4
  have F5 := fun_mk (st := s_is_camera) l5 c5 k5
  have F6 := fun_mk (st := s__check_sky) l6 c6 k6
  have F7 := fun_mk (st := s_Skyx_initx) l7 c7 k7
  have F8 := fun_mk (st := s_Sky_side) l8 c8 k8
  have F9 := fun_mk (st := s_Sky_stars) l9 c9 k9
  have F10 := fun_mk (st := s_Sky_reach) l10 c10 k10
  have F11 := fun_mk (st := s_Sky_blur) l11 c11 k11
  have F12 := fun_mk (st := s_Sky_glare) l12 c12 k12
  have F13 := fun_mk (st := s_Sky_limit) l13 c13 k13
  have F14 := fun_mk (st := s_attitudes) l14 c14 k14
  have F15 := fun_mk (st := s_check_attitude) l15 c15 k15
  have F16 := fun_mk (st := s_check_two) l16 c16 k16
  have F17 := fun_mk (st := s__offset_of) l17 c17 k17
  have F18 := fun_mk (st := s__nearest) l18 c18 k18
  have F19 := fun_mk (st := s_appearances) l19 c19 k19
  have F20 := fun_mk (st := s_sure_among) l20 c20 k20
  have F21 := fun_mk (st := s_most) l21 c21 k21
  have F22 := fun_mk (st := s_matching) l22 c22 k22
  have F23 := fun_mk (st := s__mates_of) l23 c23 k23
  have F24 := fun_mk (st := s__rows_by_column) l24 c24 k24
  have F25 := fun_mk (st := s__with_more) l25 c25 k25
  have F26 := fun_mk (st := s__steps_to_more) l26 c26 k26
  have F27 := fun_mk (st := s__traced) l27 c27 k27
  have F28 := fun_mk (st := s_is_ascending) l28 c28 k28
  have F29 := fun_mk (st := s_partners) l29 c29 k29
  have F30 := fun_mk (st := s_lack_matching) l30 c30 k30
  have F31 := fun_mk (st := s_lacks_more) l31 c31 k31
  have F32 := fun_mk (st := s_least_lot) l32 c32 k32
  have F33 := fun_mk (st := s_turned_table) l33 c33 k33
  have F34 := fun_mk (st := s_linked) l34 c34 k34
  have F35 := fun_mk (st := s_shown_at) l35 c35 k35
  have F36 := fun_mk (st := s_link_table) l36 c36 k36
  have F37 := fun_mk (st := s_lack_confuse) l37 c37 k37
  have F38 := fun_mk (st := s_unlikeness) l38 c38 k38
  have F39 := fun_mk (st := s_both_lacks) l39 c39 k39
  have F40 := fun_mk (st := s_lacking_lot) l40 c40 k40
  have F41 := fun_mk (st := s_couples) l41 c41 k41
  have F42 := fun_mk (st := s__couples) l42 c42 k42
  have F43 := fun_mk (st := s_are_confusable) l43 c43 k43
  have F44 := fun_mk (st := s_confusing_sighting) l44 c44 k44
  have F45 := fun_mk (st := s_common_sighting) l45 c45 k45
  have F46 := fun_mk (st := s_common_spot) l46 c46 k46
  have F47 := fun_mk (st := s__own_spots) l47 c47 k47
  have F48 := fun_mk (st := s_parting_paper) l48 c48 k48
  have F49 := fun_mk (st := s_check_parting) l49 c49 k49
  have F50 := fun_mk (st := s_confusable_with) l50 c50 k50
  have F51 := fun_mk (st := s__law_row) l51 c51 k51
  have F52 := fun_mk (st := s__law_numbers) l52 c52 k52
  have F53 := fun_mk (st := s__law_camera) l53 c53 k53
  have F54 := fun_mk (st := s__law_stars) l54 c54 k54
  have F55 := fun_mk (st := s__law_parts) l55 c55 k55
  have F56 := fun_mk (st := s__law_made) l56 c56 k56
  have F57 := fun_mk (st := s__law_attitude) l57 c57 k57
  have F58 := fun_mk (st := s__law_beside) l58 c58 k58
  have F59 := fun_mk (st := s__law_turned) l59 c59 k59
  have F60 := fun_mk (st := s__law_offsets) l60 c60 k60
  have F61 := fun_mk (st := s__law_seen) l61 c61 k61
  have F62 := fun_mk (st := s__law_common) l62 c62 k62
  have F63 := fun_mk (st := s__law_links) l63 c63 k63
  have F64 := fun_mk (st := s__law_called) l64 c64 k64
  have F65 := fun_mk (st := s__law_refused) l65 c65 k65
  have F66 := fun_mk (st := s_law) l66 c66 k66
  have T : Txt PySem.Challenge.pw_starward_k23_linked_stars K mg { f_quarter_turned := f1, fd_quarter_turned := PySem.W.fnOf "quarter_turned" "quarter_turned" (defArgs s_quarter_turned) (defBody s_quarter_turned) (defScope s_quarter_turned) .none kV1 dc1 pm1 an1 cd1 ct1, f_is_pose := f2, fd_is_pose := PySem.W.fnOf "is_pose" "is_pose" (defArgs s_is_pose) (defBody s_is_pose) (defScope s_is_pose) .none kV2 dc2 pm2 an2 cd2 ct2, f_is_side := f3, fd_is_side := PySem.W.fnOf "is_side" "is_side" (defArgs s_is_side) (defBody s_is_side) (defScope s_is_side) .none kV3 dc3 pm3 an3 cd3 ct3, f_is_star := f4, fd_is_star := PySem.W.fnOf "is_star" "is_star" (defArgs s_is_star) (defBody s_is_star) (defScope s_is_star) .none kV4 dc4 pm4 an4 cd4 ct4, f_is_camera := f5, fd_is_camera := PySem.W.fnOf "is_camera" "is_camera" (defArgs s_is_camera) (defBody s_is_camera) (defScope s_is_camera) .none kV5 dc5 pm5 an5 cd5 ct5, f__check_sky := f6, fd__check_sky := PySem.W.fnOf "_check_sky" "_check_sky" (defArgs s__check_sky) (defBody s__check_sky) (defScope s__check_sky) .none kV6 dc6 pm6 an6 cd6 ct6, f_Skyx_initx := f7, fd_Skyx_initx := PySem.W.fnOf "__init__" "Sky.__init__" (defArgs s_Skyx_initx) (defBody s_Skyx_initx) (defScope s_Skyx_initx) .none kV7 dc7 pm7 an7 cd7 ct7, f_Sky_side := f8, fd_Sky_side := PySem.W.fnOf "side" "Sky.side" (defArgs s_Sky_side) (defBody s_Sky_side) (defScope s_Sky_side) .none kV8 dc8 pm8 an8 cd8 ct8, f_Sky_stars := f9, fd_Sky_stars := PySem.W.fnOf "stars" "Sky.stars" (defArgs s_Sky_stars) (defBody s_Sky_stars) (defScope s_Sky_stars) .none kV9 dc9 pm9 an9 cd9 ct9, f_Sky_reach := f10, fd_Sky_reach := PySem.W.fnOf "reach" "Sky.reach" (defArgs s_Sky_reach) (defBody s_Sky_reach) (defScope s_Sky_reach) .none kV10 dc10 pm10 an10 cd10 ct10, f_Sky_blur := f11, fd_Sky_blur := PySem.W.fnOf "blur" "Sky.blur" (defArgs s_Sky_blur) (defBody s_Sky_blur) (defScope s_Sky_blur) .none kV11 dc11 pm11 an11 cd11 ct11, f_Sky_glare := f12, fd_Sky_glare := PySem.W.fnOf "glare" "Sky.glare" (defArgs s_Sky_glare) (defBody s_Sky_glare) (defScope s_Sky_glare) .none kV12 dc12 pm12 an12 cd12 ct12, f_Sky_limit := f13, fd_Sky_limit := PySem.W.fnOf "limit" "Sky.limit" (defArgs s_Sky_limit) (defBody s_Sky_limit) (defScope s_Sky_limit) .none kV13 dc13 pm13 an13 cd13 ct13, f_attitudes := f14, fd_attitudes := PySem.W.fnOf "attitudes" "attitudes" (defArgs s_attitudes) (defBody s_attitudes) (defScope s_attitudes) .none kV14 dc14 pm14 an14 cd14 ct14, f_check_attitude := f15, fd_check_attitude := PySem.W.fnOf "check_attitude" "check_attitude" (defArgs s_check_attitude) (defBody s_check_attitude) (defScope s_check_attitude) .none kV15 dc15 pm15 an15 cd15 ct15, f_check_two := f16, fd_check_two := PySem.W.fnOf "check_two" "check_two" (defArgs s_check_two) (defBody s_check_two) (defScope s_check_two) .none kV16 dc16 pm16 an16 cd16 ct16, f__offset_of := f17, fd__offset_of := PySem.W.fnOf "_offset_of" "_offset_of" (defArgs s__offset_of) (defBody s__offset_of) (defScope s__offset_of) .none kV17 dc17 pm17 an17 cd17 ct17, f__nearest := f18, fd__nearest := PySem.W.fnOf "_nearest" "_nearest" (defArgs s__nearest) (defBody s__nearest) (defScope s__nearest) .none kV18 dc18 pm18 an18 cd18 ct18, f_appearances := f19, fd_appearances := PySem.W.fnOf "appearances" "appearances" (defArgs s_appearances) (defBody s_appearances) (defScope s_appearances) .none kV19 dc19 pm19 an19 cd19 ct19, f_sure_among := f20, fd_sure_among := PySem.W.fnOf "sure_among" "sure_among" (defArgs s_sure_among) (defBody s_sure_among) (defScope s_sure_among) .none kV20 dc20 pm20 an20 cd20 ct20, f_most := f21, fd_most := PySem.W.fnOf "most" "most" (defArgs s_most) (defBody s_most) (defScope s_most) .none kV21 dc21 pm21 an21 cd21 ct21, f_matching := f22, fd_matching := PySem.W.fnOf "matching" "matching" (defArgs s_matching) (defBody s_matching) (defScope s_matching) .none kV22 dc22 pm22 an22 cd22 ct22, f__mates_of := f23, fd__mates_of := PySem.W.fnOf "_mates_of" "_mates_of" (defArgs s__mates_of) (defBody s__mates_of) (defScope s__mates_of) .none kV23 dc23 pm23 an23 cd23 ct23, f__rows_by_column := f24, fd__rows_by_column := PySem.W.fnOf "_rows_by_column" "_rows_by_column" (defArgs s__rows_by_column) (defBody s__rows_by_column) (defScope s__rows_by_column) .none kV24 dc24 pm24 an24 cd24 ct24, f__with_more := f25, fd__with_more := PySem.W.fnOf "_with_more" "_with_more" (defArgs s__with_more) (defBody s__with_more) (defScope s__with_more) .none kV25 dc25 pm25 an25 cd25 ct25, f__steps_to_more := f26, fd__steps_to_more := PySem.W.fnOf "_steps_to_more" "_steps_to_more" (defArgs s__steps_to_more) (defBody s__steps_to_more) (defScope s__steps_to_more) .none kV26 dc26 pm26 an26 cd26 ct26, f__traced := f27, fd__traced := PySem.W.fnOf "_traced" "_traced" (defArgs s__traced) (defBody s__traced) (defScope s__traced) .none kV27 dc27 pm27 an27 cd27 ct27, f_is_ascending := f28, fd_is_ascending := PySem.W.fnOf "is_ascending" "is_ascending" (defArgs s_is_ascending) (defBody s_is_ascending) (defScope s_is_ascending) .none kV28 dc28 pm28 an28 cd28 ct28, f_partners := f29, fd_partners := PySem.W.fnOf "partners" "partners" (defArgs s_partners) (defBody s_partners) (defScope s_partners) .none kV29 dc29 pm29 an29 cd29 ct29, f_lack_matching := f30, fd_lack_matching := PySem.W.fnOf "lack" "lack" (defArgs s_lack_matching) (defBody s_lack_matching) (defScope s_lack_matching) .none kV30 dc30 pm30 an30 cd30 ct30, f_lacks_more := f31, fd_lacks_more := PySem.W.fnOf "lacks_more" "lacks_more" (defArgs s_lacks_more) (defBody s_lacks_more) (defScope s_lacks_more) .none kV31 dc31 pm31 an31 cd31 ct31, f_least_lot := f32, fd_least_lot := PySem.W.fnOf "least_lot" "least_lot" (defArgs s_least_lot) (defBody s_least_lot) (defScope s_least_lot) .none kV32 dc32 pm32 an32 cd32 ct32, f_turned_table := f33, fd_turned_table := PySem.W.fnOf "turned_table" "turned_table" (defArgs s_turned_table) (defBody s_turned_table) (defScope s_turned_table) .none kV33 dc33 pm33 an33 cd33 ct33, f_linked := f34, fd_linked := PySem.W.fnOf "linked" "linked" (defArgs s_linked) (defBody s_linked) (defScope s_linked) .none kV34 dc34 pm34 an34 cd34 ct34, f_shown_at := f35, fd_shown_at := PySem.W.fnOf "shown_at" "shown_at" (defArgs s_shown_at) (defBody s_shown_at) (defScope s_shown_at) .none kV35 dc35 pm35 an35 cd35 ct35, f_link_table := f36, fd_link_table := PySem.W.fnOf "link_table" "link_table" (defArgs s_link_table) (defBody s_link_table) (defScope s_link_table) .none kV36 dc36 pm36 an36 cd36 ct36, f_lack_confuse := f37, fd_lack_confuse := PySem.W.fnOf "lack" "lack" (defArgs s_lack_confuse) (defBody s_lack_confuse) (defScope s_lack_confuse) .none kV37 dc37 pm37 an37 cd37 ct37, f_unlikeness := f38, fd_unlikeness := PySem.W.fnOf "unlikeness" "unlikeness" (defArgs s_unlikeness) (defBody s_unlikeness) (defScope s_unlikeness) .none kV38 dc38 pm38 an38 cd38 ct38, f_both_lacks := f39, fd_both_lacks := PySem.W.fnOf "both_lacks" "both_lacks" (defArgs s_both_lacks) (defBody s_both_lacks) (defScope s_both_lacks) .none kV39 dc39 pm39 an39 cd39 ct39, f_lacking_lot := f40, fd_lacking_lot := PySem.W.fnOf "lacking_lot" "lacking_lot" (defArgs s_lacking_lot) (defBody s_lacking_lot) (defScope s_lacking_lot) .none kV40 dc40 pm40 an40 cd40 ct40, f_couples := f41, fd_couples := PySem.W.fnOf "couples" "couples" (defArgs s_couples) (defBody s_couples) (defScope s_couples) .none kV41 dc41 pm41 an41 cd41 ct41, f__couples := f42, fd__couples := PySem.W.fnOf "_couples" "_couples" (defArgs s__couples) (defBody s__couples) (defScope s__couples) .none kV42 dc42 pm42 an42 cd42 ct42, f_are_confusable := f43, fd_are_confusable := PySem.W.fnOf "are_confusable" "are_confusable" (defArgs s_are_confusable) (defBody s_are_confusable) (defScope s_are_confusable) .none kV43 dc43 pm43 an43 cd43 ct43, f_confusing_sighting := f44, fd_confusing_sighting := PySem.W.fnOf "confusing_sighting" "confusing_sighting" (defArgs s_confusing_sighting) (defBody s_confusing_sighting) (defScope s_confusing_sighting) .none kV44 dc44 pm44 an44 cd44 ct44, f_common_sighting := f45, fd_common_sighting := PySem.W.fnOf "common_sighting" "common_sighting" (defArgs s_common_sighting) (defBody s_common_sighting) (defScope s_common_sighting) .none kV45 dc45 pm45 an45 cd45 ct45, f_common_spot := f46, fd_common_spot := PySem.W.fnOf "common_spot" "common_spot" (defArgs s_common_spot) (defBody s_common_spot) (defScope s_common_spot) .none kV46 dc46 pm46 an46 cd46 ct46, f__own_spots := f47, fd__own_spots := PySem.W.fnOf "_own_spots" "_own_spots" (defArgs s__own_spots) (defBody s__own_spots) (defScope s__own_spots) .none kV47 dc47 pm47 an47 cd47 ct47, f_parting_paper := f48, fd_parting_paper := PySem.W.fnOf "parting_paper" "parting_paper" (defArgs s_parting_paper) (defBody s_parting_paper) (defScope s_parting_paper) .none kV48 dc48 pm48 an48 cd48 ct48, f_check_parting := f49, fd_check_parting := PySem.W.fnOf "check_parting" "check_parting" (defArgs s_check_parting) (defBody s_check_parting) (defScope s_check_parting) .none kV49 dc49 pm49 an49 cd49 ct49, f_confusable_with := f50, fd_confusable_with := PySem.W.fnOf "confusable_with" "confusable_with" (defArgs s_confusable_with) (defBody s_confusable_with) (defScope s_confusable_with) .none kV50 dc50 pm50 an50 cd50 ct50, f__law_row := f51, fd__law_row := PySem.W.fnOf "_law_row" "_law_row" (defArgs s__law_row) (defBody s__law_row) (defScope s__law_row) .none kV51 dc51 pm51 an51 cd51 ct51, f__law_numbers := f52, fd__law_numbers := PySem.W.fnOf "_law_numbers" "_law_numbers" (defArgs s__law_numbers) (defBody s__law_numbers) (defScope s__law_numbers) .none kV52 dc52 pm52 an52 cd52 ct52, f__law_camera := f53, fd__law_camera := PySem.W.fnOf "_law_camera" "_law_camera" (defArgs s__law_camera) (defBody s__law_camera) (defScope s__law_camera) .none kV53 dc53 pm53 an53 cd53 ct53, f__law_stars := f54, fd__law_stars := PySem.W.fnOf "_law_stars" "_law_stars" (defArgs s__law_stars) (defBody s__law_stars) (defScope s__law_stars) .none kV54 dc54 pm54 an54 cd54 ct54, f__law_parts := f55, fd__law_parts := PySem.W.fnOf "_law_parts" "_law_parts" (defArgs s__law_parts) (defBody s__law_parts) (defScope s__law_parts) .none kV55 dc55 pm55 an55 cd55 ct55, f__law_made := f56, fd__law_made := PySem.W.fnOf "_law_made" "_law_made" (defArgs s__law_made) (defBody s__law_made) (defScope s__law_made) .none kV56 dc56 pm56 an56 cd56 ct56, f__law_attitude := f57, fd__law_attitude := PySem.W.fnOf "_law_attitude" "_law_attitude" (defArgs s__law_attitude) (defBody s__law_attitude) (defScope s__law_attitude) .none kV57 dc57 pm57 an57 cd57 ct57, f__law_beside := f58, fd__law_beside := PySem.W.fnOf "_law_beside" "_law_beside" (defArgs s__law_beside) (defBody s__law_beside) (defScope s__law_beside) .none kV58 dc58 pm58 an58 cd58 ct58, f__law_turned := f59, fd__law_turned := PySem.W.fnOf "_law_turned" "_law_turned" (defArgs s__law_turned) (defBody s__law_turned) (defScope s__law_turned) .none kV59 dc59 pm59 an59 cd59 ct59, f__law_offsets := f60, fd__law_offsets := PySem.W.fnOf "_law_offsets" "_law_offsets" (defArgs s__law_offsets) (defBody s__law_offsets) (defScope s__law_offsets) .none kV60 dc60 pm60 an60 cd60 ct60, f__law_seen := f61, fd__law_seen := PySem.W.fnOf "_law_seen" "_law_seen" (defArgs s__law_seen) (defBody s__law_seen) (defScope s__law_seen) .none kV61 dc61 pm61 an61 cd61 ct61, f__law_common := f62, fd__law_common := PySem.W.fnOf "_law_common" "_law_common" (defArgs s__law_common) (defBody s__law_common) (defScope s__law_common) .none kV62 dc62 pm62 an62 cd62 ct62, f__law_links := f63, fd__law_links := PySem.W.fnOf "_law_links" "_law_links" (defArgs s__law_links) (defBody s__law_links) (defScope s__law_links) .none kV63 dc63 pm63 an63 cd63 ct63, f__law_called := f64, fd__law_called := PySem.W.fnOf "_law_called" "_law_called" (defArgs s__law_called) (defBody s__law_called) (defScope s__law_called) .none kV64 dc64 pm64 an64 cd64 ct64, f__law_refused := f65, fd__law_refused := PySem.W.fnOf "_law_refused" "_law_refused" (defArgs s__law_refused) (defBody s__law_refused) (defScope s__law_refused) .none kV65 dc65 pm65 an65 cd65 ct65, f_law := fa, fd_law := PySem.W.fnOf "law" "law" (defArgs s_law) (defBody s_law) (defScope s_law) .none kV66 dc66 pm66 an66 cd66 ct66, c_Sky := s1, g_Sky_side := g8, g_Sky_stars := g9, g_Sky_reach := g10, g_Sky_blur := g11, g_Sky_glare := g12, g_Sky_limit := g13, c_InvalidAttitude := e1, i_InvalidAttitude := ei1, c_SkyError := q1, c_InvalidSky := q2, u_MOST_STARS := .int 20 ut0, u_BRIGHTEST := .int 9 ut1 } := {
    F_quarter_turned := F1,
    b_quarter_turned := F1.binds (ps := ["quarters", "pair"]) fun _ _ _ _ _ _ us hl => match us, hl with | [_, _], _ => rfl,
    m_quarter_turned := PySem.W.mg_of X G a1,
    F_is_pose := F2,
    b_is_pose := F2.binds (ps := ["side", "told"]) fun _ _ _ _ _ _ us hl => match us, hl with | [_, _], _ => rfl,
    m_is_pose := PySem.W.mg_of X G a2,
    F_is_side := F3,
    b_is_side := F3.binds (ps := ["side"]) fun _ _ _ _ _ _ us hl => match us, hl with | [_], _ => rfl,
    m_is_side := PySem.W.mg_of X G a3,
    F_is_star := F4,
    b_is_star := F4.binds (ps := ["side", "star"]) fun _ _ _ _ _ _ us hl => match us, hl with | [_, _], _ => rfl,
    m_is_star := PySem.W.mg_of X G a4,
    F_is_camera := F5,
    b_is_camera := F5.binds (ps := ["side", "camera"]) fun _ _ _ _ _ _ us hl => match us, hl with | [_, _], _ => rfl,
    m_is_camera := PySem.W.mg_of X G a5,
    F__check_sky := F6,
    b__check_sky := F6.binds (ps := ["side", "stars", "camera"]) fun _ _ _ _ _ _ us hl => match us, hl with | [_, _, _], _ => rfl,
    m__check_sky := PySem.W.mg_of X G a6,
    F_Skyx_initx := F7,
    b_Skyx_initx := F7.binds (ps := ["self", "side", "stars", "camera"]) fun _ _ _ _ _ _ us hl => match us, hl with | [_, _, _, _], _ => rfl,
    F_Sky_side := F8,
    b_Sky_side := F8.binds (ps := ["self"]) fun _ _ _ _ _ _ us hl => match us, hl with | [_], _ => rfl,
    F_Sky_stars := F9,
    b_Sky_stars := F9.binds (ps := ["self"]) fun _ _ _ _ _ _ us hl => match us, hl with | [_], _ => rfl,
    F_Sky_reach := F10,
    b_Sky_reach := F10.binds (ps := ["self"]) fun _ _ _ _ _ _ us hl => match us, hl with | [_], _ => rfl,
    F_Sky_blur := F11,
    b_Sky_blur := F11.binds (ps := ["self"]) fun _ _ _ _ _ _ us hl => match us, hl with | [_], _ => rfl,
    F_Sky_glare := F12,
    b_Sky_glare := F12.binds (ps := ["self"]) fun _ _ _ _ _ _ us hl => match us, hl with | [_], _ => rfl,
    F_Sky_limit := F13,
    b_Sky_limit := F13.binds (ps := ["self"]) fun _ _ _ _ _ _ us hl => match us, hl with | [_], _ => rfl,
    F_attitudes := F14,
    b_attitudes := F14.binds (ps := ["sky"]) fun _ _ _ _ _ _ us hl => match us, hl with | [_], _ => rfl,
    m_attitudes := PySem.W.mg_of X G a14,
    F_check_attitude := F15,
    b_check_attitude := F15.binds (ps := ["sky", "attitude"]) fun _ _ _ _ _ _ us hl => match us, hl with | [_, _], _ => rfl,
    m_check_attitude := PySem.W.mg_of X G a15,
    F_check_two := F16,
    b_check_two := F16.binds (ps := ["sky", "one", "other"]) fun _ _ _ _ _ _ us hl => match us, hl with | [_, _, _], _ => rfl,
    m_check_two := PySem.W.mg_of X G a16,
    F__offset_of := F17,
    b__offset_of := F17.binds (ps := ["sky", "attitude", "star"]) fun _ _ _ _ _ _ us hl => match us, hl with | [_, _, _], _ => rfl,
    m__offset_of := PySem.W.mg_of X G a17,
    F__nearest := F18,
    b__nearest := F18.binds (ps := ["side", "part"]) fun _ _ _ _ _ _ us hl => match us, hl with | [_, _], _ => rfl,
    m__nearest := PySem.W.mg_of X G a18,
    F_appearances := F19,
    b_appearances := F19.binds (ps := ["sky", "attitude"]) fun _ _ _ _ _ _ us hl => match us, hl with | [_, _], _ => rfl,
    m_appearances := PySem.W.mg_of X G a19,
    F_sure_among := F20,
    b_sure_among := F20.binds (ps := ["sky", "shown"]) fun _ _ _ _ _ _ us hl => match us, hl with | [_, _], _ => rfl,
    m_sure_among := PySem.W.mg_of X G a20,
    F_most := F21,
    b_most := F21.binds (ps := ["table", "rows"]) fun _ _ _ _ _ _ us hl => match us, hl with | [_, _], _ => rfl,
    m_most := PySem.W.mg_of X G a21,
    F_matching := F22,
    b_matching := F22.binds (ps := ["table", "rows", "columns"]) fun _ _ _ _ _ _ us hl => match us, hl with | [_, _, _], _ => rfl,
    m_matching := PySem.W.mg_of X G a22,
    F__mates_of := F23,
    b__mates_of := F23.binds (ps := ["table", "rows"]) fun _ _ _ _ _ _ us hl => match us, hl with | [_, _], _ => rfl,
    m__mates_of := PySem.W.mg_of X G a23,
    F__rows_by_column := F24,
    b__rows_by_column := F24.binds (ps := ["table"]) fun _ _ _ _ _ _ us hl => match us, hl with | [_], _ => rfl,
    m__rows_by_column := PySem.W.mg_of X G a24,
    F__with_more := F25,
    b__with_more := F25.binds (ps := ["partners_of", "wanted", "mates"]) fun _ _ _ _ _ _ us hl => match us, hl with | [_, _, _], _ => rfl,
    m__with_more := PySem.W.mg_of X G a25,
    F__steps_to_more := F26,
    b__steps_to_more := F26.binds (ps := ["partners_of", "mates", "owners", "stays", "start"]) fun _ _ _ _ _ _ us hl => match us, hl with | [_, _, _, _, _], _ => rfl,
    m__steps_to_more := PySem.W.mg_of X G a26,
    F__traced := F27,
    b__traced := F27.binds (ps := ["mates", "takers", "last"]) fun _ _ _ _ _ _ us hl => match us, hl with | [_, _, _], _ => rfl,
    m__traced := PySem.W.mg_of X G a27,
    F_is_ascending := F28,
    b_is_ascending := F28.binds (ps := ["numbers"]) fun _ _ _ _ _ _ us hl => match us, hl with | [_], _ => rfl,
    m_is_ascending := PySem.W.mg_of X G a28,
    F_partners := F29,
    b_partners := F29.binds (ps := ["table", "rows"]) fun _ _ _ _ _ _ us hl => match us, hl with | [_, _], _ => rfl,
    m_partners := PySem.W.mg_of X G a29,
    F_lack_matching := F30,
    b_lack_matching := F30.binds (ps := ["table", "rows"]) fun _ _ _ _ _ _ us hl => match us, hl with | [_, _], _ => rfl,
    m_lack_matching := PySem.W.mg_of X G a30,
    F_lacks_more := F31,
    b_lacks_more := F31.binds (ps := ["table", "rows", "told", "bound"]) fun _ _ _ _ _ _ us hl => match us, hl with | [_, _, _, _], _ => rfl,
    m_lacks_more := PySem.W.mg_of X G a31,
    F_least_lot := F32,
    b_least_lot := F32.binds (ps := ["table", "rows"]) fun _ _ _ _ _ _ us hl => match us, hl with | [_, _], _ => rfl,
    m_least_lot := PySem.W.mg_of X G a32,
    F_turned_table := F33,
    b_turned_table := F33.binds (ps := ["table", "many"]) fun _ _ _ _ _ _ us hl => match us, hl with | [_, _], _ => rfl,
    m_turned_table := PySem.W.mg_of X G a33,
    F_linked := F34,
    b_linked := F34.binds (ps := ["sky", "one", "other"]) fun _ _ _ _ _ _ us hl => match us, hl with | [_, _, _], _ => rfl,
    m_linked := PySem.W.mg_of X G a34,
    F_shown_at := F35,
    b_shown_at := F35.binds (ps := ["sky", "one", "other"]) fun _ _ _ _ _ _ us hl => match us, hl with | [_, _, _], _ => rfl,
    m_shown_at := PySem.W.mg_of X G a35,
    F_link_table := F36,
    b_link_table := F36.binds (ps := ["sky", "shown", "shown_other"]) fun _ _ _ _ _ _ us hl => match us, hl with | [_, _, _], _ => rfl,
    m_link_table := PySem.W.mg_of X G a36,
    F_lack_confuse := F37,
    b_lack_confuse := F37.binds (ps := ["sky", "one", "other"]) fun _ _ _ _ _ _ us hl => match us, hl with | [_, _, _], _ => rfl,
    m_lack_confuse := PySem.W.mg_of X G a37,
    F_unlikeness := F38,
    b_unlikeness := F38.binds (ps := ["sky", "one", "other"]) fun _ _ _ _ _ _ us hl => match us, hl with | [_, _, _], _ => rfl,
    m_unlikeness := PySem.W.mg_of X G a38,
    F_both_lacks := F39,
    b_both_lacks := F39.binds (ps := ["sky", "shown", "shown_other"]) fun _ _ _ _ _ _ us hl => match us, hl with | [_, _, _], _ => rfl,
    m_both_lacks := PySem.W.mg_of X G a39,
    F_lacking_lot := F40,
    b_lacking_lot := F40.binds (ps := ["sky", "one", "other"]) fun _ _ _ _ _ _ us hl => match us, hl with | [_, _, _], _ => rfl,
    m_lacking_lot := PySem.W.mg_of X G a40,
    F_couples := F41,
    b_couples := F41.binds (ps := ["sky", "one", "other"]) fun _ _ _ _ _ _ us hl => match us, hl with | [_, _, _], _ => rfl,
    m_couples := PySem.W.mg_of X G a41,
    F__couples := F42,
    b__couples := F42.binds (ps := ["sky", "shown", "shown_other"]) fun _ _ _ _ _ _ us hl => match us, hl with | [_, _, _], _ => rfl,
    m__couples := PySem.W.mg_of X G a42,
    F_are_confusable := F43,
    b_are_confusable := F43.binds (ps := ["sky", "one", "other", "missing", "false"]) fun _ _ _ _ _ _ us hl => match us, hl with | [_, _, _, _, _], _ => rfl,
    m_are_confusable := PySem.W.mg_of X G a43,
    F_confusing_sighting := F44,
    b_confusing_sighting := F44.binds (ps := ["sky", "one", "other", "missing", "false"]) fun _ _ _ _ _ _ us hl => match us, hl with | [_, _, _, _, _], _ => rfl,
    m_confusing_sighting := PySem.W.mg_of X G a44,
    F_common_sighting := F45,
    b_common_sighting := F45.binds (ps := ["sky", "one", "other", "missing", "missing_other"]) fun _ _ _ _ _ _ us hl => match us, hl with | [_, _, _, _, _], _ => rfl,
    m_common_sighting := PySem.W.mg_of X G a45,
    F_common_spot := F46,
    b_common_spot := F46.binds (ps := ["sky", "look", "other_look"]) fun _ _ _ _ _ _ us hl => match us, hl with | [_, _, _], _ => rfl,
    m_common_spot := PySem.W.mg_of X G a46,
    F__own_spots := F47,
    b__own_spots := F47.binds (ps := ["sky", "shown", "coupled", "missing"]) fun _ _ _ _ _ _ us hl => match us, hl with | [_, _, _, _], _ => rfl,
    m__own_spots := PySem.W.mg_of X G a47,
    F_parting_paper := F48,
    b_parting_paper := F48.binds (ps := ["sky", "one", "other", "missing", "false"]) fun _ _ _ _ _ _ us hl => match us, hl with | [_, _, _, _, _], _ => rfl,
    m_parting_paper := PySem.W.mg_of X G a48,
    F_check_parting := F49,
    b_check_parting := F49.binds (ps := ["sky", "one", "other", "missing", "false", "paper"]) fun _ _ _ _ _ _ us hl => match us, hl with | [_, _, _, _, _, _], _ => rfl,
    m_check_parting := PySem.W.mg_of X G a49,
    F_confusable_with := F50,
    b_confusable_with := F50.binds (ps := ["sky", "one", "missing", "false"]) fun _ _ _ _ _ _ us hl => match us, hl with | [_, _, _, _], _ => rfl,
    m_confusable_with := PySem.W.mg_of X G a50,
    F__law_row := F51,
    b__law_row := F51.binds (ps := ["cell", "many"]) fun _ _ _ _ _ _ us hl => match us, hl with | [_, _], _ => rfl,
    m__law_row := PySem.W.mg_of X G a51,
    F__law_numbers := F52,
    b__law_numbers := F52.binds (ps := ["script", "many"]) fun _ _ _ _ _ _ us hl => match us, hl with | [_, _], _ => rfl,
    m__law_numbers := PySem.W.mg_of X G a52,
    F__law_camera := F53,
    b__law_camera := F53.binds (ps := ["numbers", "at", "side"]) fun _ _ _ _ _ _ us hl => match us, hl with | [_, _, _], _ => rfl,
    m__law_camera := PySem.W.mg_of X G a53,
    F__law_stars := F54,
    b__law_stars := F54.binds (ps := ["numbers", "at", "side", "many"]) fun _ _ _ _ _ _ us hl => match us, hl with | [_, _, _, _], _ => rfl,
    m__law_stars := PySem.W.mg_of X G a54,
    F__law_parts := F55,
    b__law_parts := F55.binds (ps := ["numbers", "at", "sides", "many"]) fun _ _ _ _ _ _ us hl => match us, hl with | [_, _, _, _], _ => rfl,
    m__law_parts := PySem.W.mg_of X G a55,
    F__law_made := F56,
    b__law_made := F56.binds (ps := ["parts"]) fun _ _ _ _ _ _ us hl => match us, hl with | [_], _ => rfl,
    m__law_made := PySem.W.mg_of X G a56,
    F__law_attitude := F57,
    b__law_attitude := F57.binds (ps := ["numbers", "at", "side"]) fun _ _ _ _ _ _ us hl => match us, hl with | [_, _, _], _ => rfl,
    m__law_attitude := PySem.W.mg_of X G a57,
    F__law_beside := F58,
    b__law_beside := F58.binds (ps := ["numbers", "at", "side", "one"]) fun _ _ _ _ _ _ us hl => match us, hl with | [_, _, _, _], _ => rfl,
    m__law_beside := PySem.W.mg_of X G a58,
    F__law_turned := F59,
    b__law_turned := F59.binds (ps := ["quarter", "x", "y"]) fun _ _ _ _ _ _ us hl => match us, hl with | [_, _, _], _ => rfl,
    m__law_turned := PySem.W.mg_of X G a59,
    F__law_offsets := F60,
    b__law_offsets := F60.binds (ps := ["parts", "attitude"]) fun _ _ _ _ _ _ us hl => match us, hl with | [_, _], _ => rfl,
    m__law_offsets := PySem.W.mg_of X G a60,
    F__law_seen := F61,
    b__law_seen := F61.binds (ps := ["parts", "attitude"]) fun _ _ _ _ _ _ us hl => match us, hl with | [_, _], _ => rfl,
    m__law_seen := PySem.W.mg_of X G a61,
    F__law_common := F62,
    b__law_common := F62.binds (ps := ["low", "high", "one", "other", "by"]) fun _ _ _ _ _ _ us hl => match us, hl with | [_, _, _, _, _], _ => rfl,
    m__law_common := PySem.W.mg_of X G a62,
    F__law_links := F63,
    b__law_links := F63.binds (ps := ["parts", "one", "other"]) fun _ _ _ _ _ _ us hl => match us, hl with | [_, _, _], _ => rfl,
    m__law_links := PySem.W.mg_of X G a63,
    F__law_called := F64,
    b__law_called := F64.binds (ps := ["kind", "made", "one", "other"]) fun _ _ _ _ _ _ us hl => match us, hl with | [_, _, _, _], _ => rfl,
    m__law_called := PySem.W.mg_of X G a64,
    F__law_refused := F65,
    b__law_refused := F65.binds (ps := ["kind", "made", "one", "other", "bad"]) fun _ _ _ _ _ _ us hl => match us, hl with | [_, _, _, _, _], _ => rfl,
    m__law_refused := PySem.W.mg_of X G a65,
    F_law := F66,
    cl_Sky := ⟨sp1, sh1, so1, ss1⟩,
    m_Sky := PySem.W.mg_of X G sa1,
    M_Sky := ⟨sm1, si1, sf1, sk1⟩,
    n_Sky__side := sn1_0,
    n_Sky__stars := sn1_1,
    n_Sky__camera := sn1_2,
    p_Sky_side := ⟨pa8, pg8, pt8, ⟨_, pr8⟩⟩,
    p_Sky_stars := ⟨pa9, pg9, pt9, ⟨_, pr9⟩⟩,
    p_Sky_reach := ⟨pa10, pg10, pt10, ⟨_, pr10⟩⟩,
    p_Sky_blur := ⟨pa11, pg11, pt11, ⟨_, pr11⟩⟩,
    p_Sky_glare := ⟨pa12, pg12, pt12, ⟨_, pr12⟩⟩,
    p_Sky_limit := ⟨pa13, pg13, pt13, ⟨_, pr13⟩⟩,
    S_InvalidAttitude := { gC := PySem.W.mg_of X G ea1, cls := ⟨_, _, _, _, _, _, _, _, _, _, _, _, _, _, _, ex1, er1⟩, sa := esa1, ga := ega1, gg := egg1, noF := enf1, iC := eic1, tC := etc1, kC := ekc1, exC := exc1, veC := eve1, tyC := ety1, hdC := ehd1, te := exm_of exc1 ecl_1 ety1 ess1, al := eal1, self_ := ems1, opq := eopq, nsS := PySem.W.mg_none_of X G esup, okf := by decide +kernel, okc := by decide +kernel, oks := by decide +kernel, okv := by decide +kernel, okd := by decide +kernel, fn := ⟨_, _, _, _, _, _, _, _, _, _, _, _, _, _, _, _, _, _, _, _, _, _, _, _, elf1, ecI1, ⟨_, _, _, _, _, _, ecL1, ecV1, ecF1⟩, ⟨_, _, _, ecC1⟩, fun _ _ => rfl, ⟨_, fun _ => rfl⟩⟩, top := by decide +kernel },
    E_InvalidSky := ⟨PySem.W.mg_of X G qa2, qx2, qk2, qs2, qt2⟩,
    g_SkyError := PySem.W.mg_of X G qa1,
    g_InvalidSky := PySem.W.mg_of X G qa2,
    X_InvalidAttitude := ⟨⟨xg0, xk0, xs0, xd0, xa0, xhn, xht, xm0⟩, xi0⟩,
    kinds := kinds,
    under := under,
    apart := napart,
    m_MOST_STARS := PySem.W.mg_of X G uc0,
    v_MOST_STARS := ⟨_, rfl⟩,
    m_BRIGHTEST := PySem.W.mg_of X G uc1,
    v_BRIGHTEST := ⟨_, rfl⟩,
    z_len := PySem.W.mg_none_of X G z0,
    z_abs := PySem.W.mg_none_of X G z1,
    z_int := PySem.W.mg_none_of X G z2,
    z_max := PySem.W.mg_none_of X G z3,
    z_range := PySem.W.mg_none_of X G z4,
    z_tuple := PySem.W.mg_none_of X G z5,
    z_all := PySem.W.mg_none_of X G z6,
    z_any := PySem.W.mg_none_of X G z7,
    z_isinstance := PySem.W.mg_none_of X G z8,
    z_sorted := PySem.W.mg_none_of X G z9,
    z_repr := PySem.W.mg_none_of X G z10,
    z_set := PySem.W.mg_none_of X G z11,
    z_enumerate := PySem.W.mg_none_of X G z12,
    z_zip := PySem.W.mg_none_of X G z13 }
  exact ⟨_, fun s v => .of_eq rfl, fun base _ _ => ok_law T⟩
end SwT
open PySem PySem.W PyProof.Rows
set_option maxRecDepth 100000 in
set_option maxHeartbeats 0 in
theorem PySem.Challenge.cw_starward_k23_linked_stars_holds : PySem.Challenge.rw_starward_k23_linked_stars.Holds := by
  w_on; o_law; k_head; (case hw => w_witness2)
  k_fill
  refine SwG.walk_ofG (l := PySem.Challenge.rw_starward_k23_linked_stars) (n := 63) (k := 12) (x := "script") (sp := fun w => Sw.spLaw _) rfl (by decide) rfl ⟨rfl, by decide, by decide⟩ (fun w h Y => PySem.W.kIn_of Y) ?F (fun _ _ a ns hl _ hS => ⟨a, ns, rfl, hS, hl, fun _ => rfl⟩)
  case F =>
    intro w mg fa h KX G hmg
    refine' SwT.all_mk KX G hmg ?a1 ?l1 ?c1 ?k1 ?a2 ?l2 ?c2 ?k2 ?a3 ?l3 ?c3 ?k3 ?a4 ?l4 ?c4 ?k4 ?a5 ?l5 ?c5 ?k5 ?a6 ?l6 ?c6 ?k6 ?l7 ?c7 ?k7 ?l8 ?c8 ?k8 ?l9 ?c9 ?k9 ?l10 ?c10 ?k10 ?l11 ?c11 ?k11 ?l12 ?c12 ?k12 ?l13 ?c13 ?k13 ?a14 ?l14 ?c14 ?k14 ?a15 ?l15 ?c15 ?k15 ?a16 ?l16 ?c16 ?k16 ?a17 ?l17 ?c17 ?k17 ?a18 ?l18 ?c18 ?k18 ?a19 ?l19 ?c19 ?k19 ?a20 ?l20 ?c20 ?k20 ?a21 ?l21 ?c21 ?k21 ?a22 ?l22 ?c22 ?k22 ?a23 ?l23 ?c23 ?k23 ?a24 ?l24 ?c24 ?k24 ?a25 ?l25 ?c25 ?k25 ?a26 ?l26 ?c26 ?k26 ?a27 ?l27 ?c27 ?k27 ?a28 ?l28 ?c28 ?k28 ?a29 ?l29 ?c29 ?k29 ?a30 ?l30 ?c30 ?k30 ?a31 ?l31 ?c31 ?k31 ?a32 ?l32 ?c32 ?k32 ?a33 ?l33 ?c33 ?k33 ?a34 ?l34 ?c34 ?k34 ?a35 ?l35 ?c35 ?k35 ?a36 ?l36 ?c36 ?k36 ?a37 ?l37 ?c37 ?k37 ?a38 ?l38 ?c38 ?k38 ?a39 ?l39 ?c39 ?k39 ?a40 ?l40 ?c40 ?k40 ?a41 ?l41 ?c41 ?k41 ?a42 ?l42 ?c42 ?k42 ?a43 ?l43 ?c43 ?k43 ?a44 ?l44 ?c44 ?k44 ?a45 ?l45 ?c45 ?k45 ?a46 ?l46 ?c46 ?k46 ?a47 ?l47 ?c47 ?k47 ?a48 ?l48 ?c48 ?k48 ?a49 ?l49 ?c49 ?k49 ?a50 ?l50 ?c50 ?k50 ?a51 ?l51 ?c51 ?k51 ?a52 ?l52 ?c52 ?k52 ?a53 ?l53 ?c53 ?k53 ?a54 ?l54 ?c54 ?k54 ?a55 ?l55 ?c55 ?k55 ?a56 ?l56 ?c56 ?k56 ?a57 ?l57 ?c57 ?k57 ?a58 ?l58 ?c58 ?k58 ?a59 ?l59 ?c59 ?k59 ?a60 ?l60 ?c60 ?k60 ?a61 ?l61 ?c61 ?k61 ?a62 ?l62 ?c62 ?k62 ?a63 ?l63 ?c63 ?k63 ?a64 ?l64 ?c64 ?k64 ?a65 ?l65 ?c65 ?k65 ?a66 ?l66 ?c66 ?k66 ?sa1 ?sp1 ?sh1 ?so1 ?ss1 ?sm1 ?sk1 ?si1 ?sf1 ?sn1_0 ?sn1_1 ?sn1_2 ?pa8 ?pg8 ?pt8 ?pr8 ?pa9 ?pg9 ?pt9 ?pr9 ?pa10 ?pg10 ?pt10 ?pr10 ?pa11 ?pg11 ?pt11 ?pr11 ?pa12 ?pg12 ?pt12 ?pr12 ?pa13 ?pg13 ?pt13 ?pr13 ?ea1 ?ex1 ?er1 ?esa1 ?ega1 ?egg1 ?enf1 ?eic1 ?etc1 ?ekc1 ?exc1 ?eve1 ?ety1 ?ehd1 ?ecl_1 ?ess1 ?eal1 ?ems1 ?elf1 ?ecI1 ?ecL1 ?ecV1 ?ecF1 ?ecC1 ?eopq ?esup ?qa1 ?qa2 ?qx2 ?qk2 ?qs2 ?qt2 ?xhn ?xht ?xg0 ?xk0 ?xs0 ?xd0 ?xa0 ?xm0 ?xi0 ?kinds ?under ?napart ?uc0 ?uc1 ?z0 ?z1 ?z2 ?z3 ?z4 ?z5 ?z6 ?z7 ?z8 ?z9 ?z10 ?z11 ?z12 ?z13
    (case a1 => k_is)
    (case a2 => k_is)
    (case a3 => k_is)
    (case a4 => k_is)
    (case a5 => k_is)
    (case a6 => k_is)
    (case a14 => k_is)
    (case a15 => k_is)
    (case a16 => k_is)
    (case a17 => k_is)
    (case a18 => k_is)
    (case a19 => k_is)
    (case a20 => k_is)
    (case a21 => k_is)
    (case a22 => k_is)
    (case a23 => k_is)
    (case a24 => k_is)
    (case a25 => k_is)
    (case a26 => k_is)
    (case a27 => k_is)
    (case a28 => k_is)
    (case a29 => k_is)
    (case a30 => k_is)
    (case a31 => k_is)
    (case a32 => k_is)
    (case a33 => k_is)
    (case a34 => k_is)
    (case a35 => k_is)
    (case a36 => k_is)
    (case a37 => k_is)
    (case a38 => k_is)
    (case a39 => k_is)
    (case a40 => k_is)
    (case a41 => k_is)
    (case a42 => k_is)
    (case a43 => k_is)
    (case a44 => k_is)
    (case a45 => k_is)
    (case a46 => k_is)
    (case a47 => k_is)
    (case a48 => k_is)
    (case a49 => k_is)
    (case a50 => k_is)
    (case a51 => k_is)
    (case a52 => k_is)
    (case a53 => k_is)
    (case a54 => k_is)
    (case a55 => k_is)
    (case a56 => k_is)
    (case a57 => k_is)
    (case a58 => k_is)
    (case a59 => k_is)
    (case a60 => k_is)
    (case a61 => k_is)
    (case a62 => k_is)
    (case a63 => k_is)
    (case a64 => k_is)
    (case a65 => k_is)
    (case a66 => k_is)
    (case sa1 => k_is)
    (case pa8 => k_is)
    (case pa9 => k_is)
    (case pa10 => k_is)
    (case pa11 => k_is)
    (case pa12 => k_is)
    (case pa13 => k_is)
    (case ea1 => k_is)
    (case qa1 => k_is)
    (case qa2 => k_is)
    (case uc0 => k_is)
    (case uc1 => k_is)
    (case si1 => k_is)
    (case pr8 => k_is)
    (case pr9 => k_is)
    (case pr10 => k_is)
    (case pr11 => k_is)
    (case pr12 => k_is)
    (case pr13 => k_is)
    (case eic1 => k_is)
    (case elf1 => k_is)
    (case l1 => k_is)
    (case c1 => k_is)
    (case k1 => k_is)
    (case l2 => k_is)
    (case c2 => k_is)
    (case k2 => k_is)
    (case l3 => k_is)
    (case c3 => k_is)
    (case k3 => k_is)
    (case l4 => k_is)
    (case c4 => k_is)
    (case k4 => k_is)
    (case l5 => k_is)
    (case c5 => k_is)
    (case k5 => k_is)
    (case l6 => k_is)
    (case c6 => k_is)
    (case k6 => k_is)
    (case l7 => k_is)
    (case c7 => k_is)
    (case k7 => k_is)
    (case l8 => k_is)
    (case c8 => k_is)
    (case k8 => k_is)
    (case l9 => k_is)
    (case c9 => k_is)
    (case k9 => k_is)
    (case l10 => k_is)
    (case c10 => k_is)
    (case k10 => k_is)
    (case l11 => k_is)
    (case c11 => k_is)
    (case k11 => k_is)
    (case l12 => k_is)
    (case c12 => k_is)
    (case k12 => k_is)
    (case l13 => k_is)
    (case c13 => k_is)
    (case k13 => k_is)
    (case l14 => k_is)
    (case c14 => k_is)
    (case k14 => k_is)
    (case l15 => k_is)
    (case c15 => k_is)
    (case k15 => k_is)
    (case l16 => k_is)
    (case c16 => k_is)
    (case k16 => k_is)
    (case l17 => k_is)
    (case c17 => k_is)
    (case k17 => k_is)
    (case l18 => k_is)
    (case c18 => k_is)
    (case k18 => k_is)
    (case l19 => k_is)
    (case c19 => k_is)
    (case k19 => k_is)
    (case l20 => k_is)
    (case c20 => k_is)
    (case k20 => k_is)
    (case l21 => k_is)
    (case c21 => k_is)
    (case k21 => k_is)
    (case l22 => k_is)
    (case c22 => k_is)
    (case k22 => k_is)
    (case l23 => k_is)
    (case c23 => k_is)
    (case k23 => k_is)
    (case l24 => k_is)
    (case c24 => k_is)
    (case k24 => k_is)
    (case l25 => k_is)
    (case c25 => k_is)
    (case k25 => k_is)
    (case l26 => k_is)
    (case c26 => k_is)
    (case k26 => k_is)
    (case l27 => k_is)
    (case c27 => k_is)
    (case k27 => k_is)
    (case l28 => k_is)
    (case c28 => k_is)
    (case k28 => k_is)
    (case l29 => k_is)
    (case c29 => k_is)
    (case k29 => k_is)
    (case l30 => k_is)
    (case c30 => k_is)
    (case k30 => k_is)
    (case l31 => k_is)
    (case c31 => k_is)
    (case k31 => k_is)
    (case l32 => k_is)
    (case c32 => k_is)
    (case k32 => k_is)
    (case l33 => k_is)
    (case c33 => k_is)
    (case k33 => k_is)
    (case l34 => k_is)
    (case c34 => k_is)
    (case k34 => k_is)
    (case l35 => k_is)
    (case c35 => k_is)
    (case k35 => k_is)
    (case l36 => k_is)
    (case c36 => k_is)
    (case k36 => k_is)
    (case l37 => k_is)
    (case c37 => k_is)
    (case k37 => k_is)
    (case l38 => k_is)
    (case c38 => k_is)
    (case k38 => k_is)
    (case l39 => k_is)
    (case c39 => k_is)
    (case k39 => k_is)
    (case l40 => k_is)
    (case c40 => k_is)
    (case k40 => k_is)
    (case l41 => k_is)
    (case c41 => k_is)
    (case k41 => k_is)
    (case l42 => k_is)
    (case c42 => k_is)
    (case k42 => k_is)
    (case l43 => k_is)
    (case c43 => k_is)
    (case k43 => k_is)
    (case l44 => k_is)
    (case c44 => k_is)
    (case k44 => k_is)
    (case l45 => k_is)
    (case c45 => k_is)
    (case k45 => k_is)
    (case l46 => k_is)
    (case c46 => k_is)
    (case k46 => k_is)
    (case l47 => k_is)
    (case c47 => k_is)
    (case k47 => k_is)
    (case l48 => k_is)
    (case c48 => k_is)
    (case k48 => k_is)
    (case l49 => k_is)
    (case c49 => k_is)
    (case k49 => k_is)
    (case l50 => k_is)
    (case c50 => k_is)
    (case k50 => k_is)
    (case l51 => k_is)
    (case c51 => k_is)
    (case k51 => k_is)
    (case l52 => k_is)
    (case c52 => k_is)
    (case k52 => k_is)
    (case l53 => k_is)
    (case c53 => k_is)
    (case k53 => k_is)
    (case l54 => k_is)
    (case c54 => k_is)
    (case k54 => k_is)
    (case l55 => k_is)
    (case c55 => k_is)
    (case k55 => k_is)
    (case l56 => k_is)
    (case c56 => k_is)
    (case k56 => k_is)
    (case l57 => k_is)
    (case c57 => k_is)
    (case k57 => k_is)
    (case l58 => k_is)
    (case c58 => k_is)
    (case k58 => k_is)
    (case l59 => k_is)
    (case c59 => k_is)
    (case k59 => k_is)
    (case l60 => k_is)
    (case c60 => k_is)
    (case k60 => k_is)
    (case l61 => k_is)
    (case c61 => k_is)
    (case k61 => k_is)
    (case l62 => k_is)
    (case c62 => k_is)
    (case k62 => k_is)
    (case l63 => k_is)
    (case c63 => k_is)
    (case k63 => k_is)
    (case l64 => k_is)
    (case c64 => k_is)
    (case k64 => k_is)
    (case l65 => k_is)
    (case c65 => k_is)
    (case k65 => k_is)
    (case l66 => k_is)
    (case c66 => k_is)
    (case k66 => k_is)
    (case sp1 => k_is)
    (case sh1 => k_is)
    (case so1 => k_is)
    (case ss1 => k_is)
    (case sm1 => k_is)
    (case sk1 => k_is)
    (case sf1 => k_is)
    (case sn1_0 => k_is)
    (case sn1_1 => k_is)
    (case sn1_2 => k_is)
    (case pg8 => k_is)
    (case pt8 => k_is)
    (case pg9 => k_is)
    (case pt9 => k_is)
    (case pg10 => k_is)
    (case pt10 => k_is)
    (case pg11 => k_is)
    (case pt11 => k_is)
    (case pg12 => k_is)
    (case pt12 => k_is)
    (case pg13 => k_is)
    (case pt13 => k_is)
    (case ex1 => k_is)
    (case er1 => decide +kernel)
    (case esa1 => k_is)
    (case ega1 => k_is)
    (case egg1 => k_is)
    (case enf1 => k_is)
    (case etc1 => k_is)
    (case ekc1 => k_is)
    (case exc1 => k_is)
    (case eve1 => k_is)
    (case ety1 => k_is)
    (case ehd1 => k_is)
    (case ecl_1 => k_is)
    (case ess1 => first | rfl | k_is)
    (case eal1 => first | k_is | ks_is)
    (case ems1 => k_is)
    (case ecI1 => k_is)
    (case ecL1 => k_is)
    (case ecV1 => rfl)
    (case ecF1 => decide +kernel)
    (case ecC1 => k_is)
    (case eopq => k_is)
    (case esup => k_is)
    (case qx2 => k_exc)
    (case qk2 => k_is)
    (case qs2 => k_is)
    (case qt2 => k_is)
    (case xhn => k_is)
    (case xht => k_is)
    (case xg0 => k_is)
    (case xk0 => k_is)
    (case xs0 => k_is)
    (case xd0 => k_is)
    (case xa0 => k_is)
    (case xm0 => k_is)
    (case xi0 => k_is)
    (case kinds => first | k_is | rfl | decide +kernel)
    (case under => first | k_is | rfl | decide +kernel)
    (case napart => decide +kernel)
    (case z0 => k_is)
    (case z1 => k_is)
    (case z2 => k_is)
    (case z3 => k_is)
    (case z4 => k_is)
    (case z5 => k_is)
    (case z6 => k_is)
    (case z7 => k_is)
    (case z8 => k_is)
    (case z9 => k_is)
    (case z10 => k_is)
    (case z11 => k_is)
    (case z12 => k_is)
    (case z13 => k_is)
#print axioms PySem.Challenge.cw_starward_k23_linked_stars_holds

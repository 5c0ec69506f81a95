import PyProof.Rows.All
import Wide.All
import OpenK.AllK
import Wide.FinOn
import KE.KExcSuper
import HandS.ForMost
import HandS.ForExc
import HandS.Property
import HandS.Codes
import HandS.TryMany
import HandS.Strs
import HandS.Deep
import HandS.IsInst
import HandS.TupSets
import HandS.Flt
import HandS.TryOnly
import HandS.TupAny
import HandS.Style
import HandS.Iter
import HandS.ForMost
import HandS.Walk
import HandS.ExcValue
import HandS.ExcInit
import HandS.Dict
import HandS.Conv
import HandS.Call
import HandS.Exc
import HandS.ExcOwn
import PyProof.TupleOfSeq
import KE.KSortTupG
import PySem.Challenge.RW_starward_k03_spots_that_fit
set_option Elab.async false
set_option linter.all false
set_option maxRecDepth 100000
set_option maxHeartbeats 4000000
set_option Elab.async false
set_option linter.all false
set_option maxRecDepth 100000
set_option maxHeartbeats 4000000
/-! An error class of the program over ValueError, at any depth, whose making says super's making of a text and keeps one field. -/
namespace PySem
namespace SwX
open PySem.W PySem.Calls PyProof.Rows PySem.HandSPX
def iA (fld : Str) (p1 p2 : Pos) : Arguments := { posonlyargs := [], args := [{ arg := "self", annotation := none, pos := p1 }, { arg := fld, annotation := none, pos := p2 }], vararg := none, kwonlyargs := [], kw_defaults := [], kwarg := none, defaults := [] }
def iB (txt fld : Str) (kx : Nat) (q1 q2 q3 q4 q5 q6 r1 r2 r3 r4 : Pos) : List Stmt :=
  [.Expr (.Call (.Attribute (.Call (.Name "super" q1) [] [] q2) "__init__" q3) [.Constant (.str txt) kx q4] [] q5) q6, .Assign [.Attribute (.Name "self" r1) fld r2] (.Name fld r3) r4]
def iS (fld : Str) : Scope := { kind := .function, names := [(PySem.Str.ofString "self", .local), (fld, .local), (PySem.Str.ofString "__class__", .free), (PySem.Str.ofString "super", .globalImplicit)], isGenerator := false, isCoroutine := false, more := [] }
/-- the call of super's making, read step by step -/
def SupEv (txt : Str) (kx : Nat) (q1 q2 q3 q4 q5 : Pos) : Prop := ∃ pl : Env → Sem Bool, ∀ env : Env, eval (.Call (.Attribute (.Call (.Name "super" q1) [] [] q2) "__init__" q3) [.Constant (.str txt) kx q4] [] q5) env = (do
    let ov ← attributeBase (.Call (.Name "super" q1) [] [] q2) "__init__" env (eval (.Call (.Name "super" q1) [] [] q2) env)
    standAt q3.atName
    let (f, first) ← holding [ov] (getMethod ov "__init__" (pl env))
    callWith q5 f first (backTo q5 (starEach [.Constant (.str txt) kx q4] env)) [])
example : SupEv "no attitude" 0 ⟨27, 8, 27, 13⟩ ⟨27, 8, 27, 15⟩ ⟨27, 8, 27, 24⟩ ⟨27, 25, 27, 49⟩ ⟨27, 8, 27, 50⟩ := ⟨_, fun _ => rfl⟩
structure SErr (P : Program) (K : Frag) (mg : Str → Option Value) (x fld : Str) (C fI : Addr) : Prop where
  gC : mg x = some (.ref C)
  cls : ∃ nm q N bs bm sn sub ab col dd k0 k1 k2 k3 k5, K.lookup C = some (excClassObj nm q C N bs bm true sn sub ab col dd k0 k1 k2 k3 k5 "ValueError.__new__") ∧ refsVE bm = true
  sa : findIn K (.ref C) "__setattr__" = some (some (.builtin "object.__setattr__"))
  ga : findIn K (.ref C) "__getattribute__" = some (some (.builtin "BaseException.__getattribute__"))
  gg : findIn K (.ref C) "__getattr__" = some none
  noF : findIn K (.ref C) fld = some none
  iC : findIn K (.ref C) "__init__" = some (some (.ref fI))
  tC : typeIn K (.ref fI) = some (.type "function")
  kC : keepIn K (.ref C) = true
  exC : subIn K (.ref C) (.type "BaseException") = some true
  veC : subIn K (.ref C) (.type "ValueError") = some true
  tyC : typeIn K (.ref C) = some (.type "type")
  hdC : hasDictIn K C = true
  te : exmOne K (.ref C) (.ref C) = some true
  al : ks_superIn K C C "__init__" = some (some (.builtin "ValueError.__init__"))
  self_ : mroIn K C (.ref C) = some true
  opq : nsIn K cStatics "thirdparty.any" = some none
  nsS : mg "super" = none
  okf : (fld == ("self" : Str)) = false
  okc : (("__class__" : Str) == fld) = false
  oks : (("super" : Str) == fld) = false
  okv : (("self" : Str) == fld) = false
  okd : (fld == ("__debug__" : Str)) = false
  fn : ∃ (oc : Value) (od : Option Addr) (doc pm : Value) (an : Option Addr) (cda cc : Addr) (ct : Value) (qual txt : Str) (kx : Nat) (osl : Array (Option Value)) (p1 p2 q1 q2 q3 q4 q5 q6 r1 r2 r3 r4 : Pos),
    K.lookup fI = some ⟨oc, od, .func (ksFn "__init__" qual (iA fld p1 p2) (iB txt fld kx q1 q2 q3 q4 q5 q6 r1 r2 r3 r4) (iS fld) .none .none doc pm an (.ref cda) ct cc), osl⟩ ∧ codeIn K (.ref cda) qual = true ∧
    (∃ ccl cdd vs ccs file tf, K.lookup cda = some ⟨ccl, cdd, .fields vs, ccs⟩ ∧ vs[2]? = some (.str file tf) ∧ ((P.main.file : Str) == file) = true) ∧
    (∃ cl cld csl, K.lookup cc = some ⟨cl, cld, .cell (some (.ref C)), csl⟩) ∧
    (∀ (x : Addr) (v : Value), bindArgs (ksFn "__init__" qual (iA fld p1 p2) (iB txt fld kx q1 q2 q3 q4 q5 q6 r1 r2 r3 r4) (iS fld) .none .none doc pm an (.ref cda) ct cc) ⟨[.ref x, v], []⟩ = pure [(("self" : Str), Value.ref x), (fld, v)]) ∧ SupEv txt kx q1 q2 q3 q4 q5
  top : (P.main.scope.names.lookup ("super" : Str)).isSome = false
theorem one_size (v : Value) : [v].length ≤ sizeLine := by
  rw [sizeLine_eq]
  exact (by decide : 1 ≤ 16777216)
/-- what the making leaves of a fresh exception at x -/
structure InitEnd (h h' : Heap) (x C dx t1 : Addr) (fld : Str) (v : Value) : Prop where
  keep : ∀ b o, b ≠ x → h.get? b = some o → h'.get? b = some o
  obj : h'.get? x = some { cls := .ref C, dict := some dx, data := .fields #[.ref t1, .none, .none, .none, .bool false, .none] }
  dbig : h.objs.size ≤ dx
  dne : dx ≠ x
  ns : h'.Ns1 dx (fun y => if y = fld then some v else none)
structure OwnMade (h h' : Heap) (e C d : Addr) (fld : Str) (v : Value) : Prop where
  keep : ∀ b o, h.get? b = some o → h'.get? b = some o
  new : h.objs.size ≤ e
  obj : ∃ t1 : Addr, h'.get? e = some ({ cls := .ref C, dict := some d, data := .fields #[.ref t1, .none, .none, .none, .bool false, .none] } : Obj)
  dbig : h.objs.size ≤ d
  dne : d ≠ e
  ns : h'.Ns1 d (fun y => if y = fld then some v else none)
section
variable {prog : Program} {w : World} {A : Around} {E : Value → Shared → Prop} {R : Result → Shared → Prop} {s : Shared} {K : Frag} {mg mb : Str → Option Value} {C fI : Addr} {xn fld : Str}
theorem sup_init (T : SErr prog K mg xn fld C fI) {x t0 : Addr} {v : Value} (X : K.In s.heap) (hlim : s.heap.NoLimit) (hg : s.heap.Ns mainGlobals mg) (hb : s.heap.Ns builtinsNs mb) (hbs : mb "super" = bootBuiltins "super")
    (hx : s.heap.get? x = some (excO C t0)) (hnx : K.lookup x = none) (hroom : A.depth < recursionLimit)
    (hq : ∀ h' tk dx t1, InitEnd s.heap h' x C dx t1 fld v → R (.ok (.ret .none)) { s with heap := h', toks := tk }) :
    codeAny (model prog w) A (.call (.ref fI) ⟨[.ref x, v], []⟩) R s := by
  obtain ⟨oc, od, doc, pm, an, cda, cc, ct, qual, txt, kx, osl, p1, p2, q1, q2, q3, q4, q5, q6, r1, r2, r3, r4, ho, hcd, ⟨ccl, cdd, vs, ccs, file, tf, hcode, hvs, hfile⟩, ⟨cl, cld, csl, hcell⟩, hbnd, ⟨pl, hev⟩⟩ := T.fn
  obtain ⟨nm, q, N, bs, bm, sn, sub, ab, col, dd, k0, k1, k2, k3, k5, hC, hbm⟩ := T.cls
  have hcl : clsIn K C = some { name := nm, bases := bs, mro := .ref C :: bm, ns := N, qualname := q, hasDict := true, slotNames := sn, subclasses := sub, abstract := ab, collection := col, hasDel := false } := by unfold clsIn; rw [hC] <;> rfl
  have hf1 : fld ≠ "self" := by simpa using T.okf
  have hlk : (iS fld).names.lookup fld = some .local := by
    show (List.lookup fld [(PySem.Str.ofString "self", NameKind.local), (fld, .local), (PySem.Str.ofString "__class__", .free), (PySem.Str.ofString "super", .globalImplicit)]) = some .local
    rw [List.lookup_cons]
    rw [show (fld == PySem.Str.ofString "self") = false from T.okf]
    simp
  have hkS : (iS fld).names.lookup ("super" : Str) = some .globalImplicit := by
    show (List.lookup ("super" : Str) [(PySem.Str.ofString "self", NameKind.local), (fld, .local), (PySem.Str.ofString "__class__", .free), (PySem.Str.ofString "super", .globalImplicit)]) = some .globalImplicit
    rw [List.lookup_cons, show (("super" : Str) == PySem.Str.ofString "self") = false by decide +kernel]
    simp only
    rw [List.lookup_cons, T.oks]
    rfl
  have hkC : (iS fld).names.lookup ("__class__" : Str) = some .free := by
    show (List.lookup ("__class__" : Str) [(PySem.Str.ofString "self", NameKind.local), (fld, .local), (PySem.Str.ofString "__class__", .free), (PySem.Str.ofString "super", .globalImplicit)]) = some .free
    rw [List.lookup_cons, show (("__class__" : Str) == PySem.Str.ofString "self") = false by decide +kernel]
    simp only
    rw [List.lookup_cons, T.okc]
    rfl
  have hself : List.lookup ("self" : Str) [(("self" : Str), Value.ref x), (fld, v)].reverse = some (Value.ref x) := by
    show List.lookup ("self" : Str) [(fld, v), (("self" : Str), Value.ref x)] = some (Value.ref x)
    rw [List.lookup_cons, T.okv]
    rfl
  have hfld : List.lookup fld [(("self" : Str), Value.ref x), (fld, v)].reverse = some v := by
    show List.lookup fld [(fld, v), (("self" : Str), Value.ref x)] = some v
    rw [List.lookup_cons, show (fld == fld) = true by simp]
  refine ks_codeAny_call_defAt (fd := ksFn "__init__" qual (iA fld p1 p2) (iB txt fld kx q1 q2 q3 q4 q5 q6 r1 r2 r3 r4) (iS fld) .none .none doc pm an (.ref cda) ct cc) (body := iB txt fld kx q1 q2 q3 q4 q5 q6 r1 r2 r3 r4) (binds := [(("self" : Str), Value.ref x), (fld, v)]) hroom (X _ _ ho) rfl hlim (codeRec_of X hcd) rfl
    (BindsTo.of_eq (hbnd x v)) ?_ ?_ (fun h₁ hn hk₁ => ?_) rfl rfl rfl
  · intro y hy
    simp only [iS, List.mem_cons, List.not_mem_nil, or_false] at hy
    rcases hy with rfl | rfl | rfl | rfl <;> simp
  · intro y hy
    rcases List.mem_cons.mp hy with rfl | hy
    · rfl
    rcases List.mem_cons.mp hy with rfl | hy
    · exact hlk
    · cases hy
  · have X₁ : K.In h₁ := X.keeps hk₁
    have hx₁ := hk₁ _ _ hx
    have hL : s.heap.objs.size ≠ x := Nat.ne_of_gt (Heap.lt_size hx)
    obtain ⟨hp, g, d, t, os⟩ := s
    obtain ⟨oD, hD1, hD2⟩ : ∃ oD, h₁.get? C = some oD ∧ oD.data = .cls { name := nm, bases := bs, mro := .ref C :: bm, ns := N, qualname := q, hasDict := true, slotNames := sn, subclasses := sub, abstract := ab, collection := col, hasDel := false } := ⟨_, X₁ _ _ hC, rfl⟩
    have xC : x ≠ C := fun z => by
      rw [z, X₁ _ _ hC] at hx₁
      cases hx₁
    refine ks_wpAt_execs_cons (ks_wpAt_Expr_any (ks_wpAt_MethodCall ?_ (hev _)))
    refine ks_wpAt_super_base (oc := ⟨ccl, cdd, .fields vs, ccs⟩) hkS hkC rfl rfl (X₁ _ _ ho) rfl rfl rfl (X₁ _ _ hcode) rfl hvs hfile T.top ?_
    refine ks_loadName_global rfl hkS (loadGlobal_builtin (hg.keeps hk₁) T.nsS (hb.keeps hk₁) (hbs.trans (by decide +kernel)) ⟨rfl, ?_⟩)
    refine wpAny_loadName_free rfl hkC rfl ⟨_, X₁ _ _ hcell, rfl⟩ ?_
    refine wpAny_loadName_local rfl rfl hn (v := .ref x) hself ?_
    refine ks_wpAny_isType_cls hD1 hD2 ⟨rfl, ?_⟩
    refine ks_wpAny_call_super hD1 hD2 hx₁ rfl (fun c e => by cases e) (looks_mroIn X₁ T.self_) (fun h2 e2 k2 => ?_)
    have X2 : K.In h2 := X₁.keeps k2
    have hx2 := k2 _ _ hx₁
    have I2 : InstAt h2 x (excO C t0) C none := ⟨hx2, rfl, rfl, trivial⟩
    refine kxs_getMethod kxs_ValueError e2 (looks_opaque X2 T.opq) (l₀ := .ref C :: bm) (fun A Q E s k q => wpAny_bind ((looks_clsIn X2 hcl) A _ E s k (wpAny_pure q))) rfl X2 ?_ (I2.type.andThen (looks_subIn X2 T.veC)) xC rfl ?_
    · have z := T.al
      unfold ks_superIn at z
      rw [hcl] at z
      exact z
    -- the wrapper is called with the text
    have hu0 : (h2.push (kxs_mw "ValueError.__init__" x)).get? h2.objs.size = some (kxs_mw "ValueError.__init__" x) := Heap.get?_push_at rfl rfl
    have k3 : ∀ b o, h2.get? b = some o → (h2.push (kxs_mw "ValueError.__init__" x)).get? b = some o := fun b o e => Heap.get?_push_of_some _ e
    refine kxs_callWith (i := "ValueError.__init__") (x := x) (by rfl) ?_
    refine evalArgs_plain ?_
    refine Calls.spliced_cons ?_
    show wpAny _ _ (eval (.Constant (.str txt) kx q4) _) _ _ _
    refine Calls.Constant_str ?_
    refine Calls.spliced_nil ⟨hu0, ?_⟩
    refine wpAny_call (codeAny_of_tree ?_)
    show wpAny _ _ (callAny (.ref h2.objs.size) ⟨[Value.str txt _], []⟩) _ _ _
    simp only [callAny]
    refine wpAny_bind (wpAny_load hu0 ?_)
    simp only [kxs_mw, show (Value.type "method-wrapper" == Value.type "method" || Value.type "method-wrapper" == Value.type "builtin_function_or_method" || Value.type "method-wrapper" == Value.type "method-wrapper") = true by decide, if_true]
    refine KFB.if_so (by decide) ?_
    refine wpAny_bind (check_bound_init F.excBase_ValueError.toExcCallFacts (k3 _ _ (X2 _ _ hC)) (k3 _ _ hx2) rfl ?_)
    refine wpAny_bind (wpAny_pure (wpAny_pure ?_))
    refine ⟨plainId_quiet F.excBase_ValueError.init.plain _, codeAny_builtin F.excBase_ValueError.initEntry ?_⟩
    refine exc_init_tree (cls := .ref C) (t0 := t0) (dv := none) (c2 := .none) (c3 := .none) (b4 := .bool false) (k3 _ _ hx2) (one_size _) (fun h4 k4 e4 t4 => ?_)
    -- self.fld = fld
    show wpAt _ _ _ (execs _ _) _ _ _
    have up : ∀ b o, b ≠ x → h₁.get? b = some o → h4.get? b = some o := fun b o hb e => k4 b o hb (k3 _ _ (k2 _ _ e))
    have X4 : K.In h4 := fun b o e => up b o (fun z => by rw [z, hnx] at e; cases e) (X₁ _ _ e)
    have hn4 : h4.Ns hp.objs.size (fun y => List.lookup y [(("self" : Str), Value.ref x), (fld, v)].reverse) := hn.at (fun o e => up _ o hL e)
    refine ks_wpAt_execs_cons (ks_wpAt_Assign_Attr (wpAt_of_wpAny (wpAny_Name (wpAny_loadName_local rfl hlk hn4 hfld (wpAny_Name (wpAny_loadName_local rfl rfl hn4 hself ?_) rfl)) ?_)))
    · refine set_plain X4 (ox := excO C _) (od := none) ⟨e4, rfl, rfl, trivial⟩ T.sa ?_
      refine exc_osa X4 e4 hcl (show refsVE (.ref C :: bm) = true from hbm) rfl T.noF (fun h5 tk5 dx k5 dn dne hx5 hn5 => ?_)
      show wpAt _ _ _ (execs _ _) _ _ _
      have z : hp.objs.size < h4.objs.size := hn4.lt
      exact wpAt_of_wpAny (wpAny_execs_nil (hq h5 tk5 dx _ ⟨fun b o hb e => k5 b o hb (up b o hb (hk₁ b o e)), hx5, Nat.le_of_lt (Nat.lt_of_lt_of_le z dn), dne, hn5⟩))
    · exact T.okd
theorem sup_made (T : SErr prog K mg xn fld C fI) {v : Value} (X : K.In s.heap) (hlim : s.heap.NoLimit) (hg : s.heap.Ns mainGlobals mg) (hb : s.heap.Ns builtinsNs mb) (hbs : mb "super" = bootBuiltins "super") (hroom : A.depth + 1 < recursionLimit)
    (hq : ∀ h' tk e d, OwnMade s.heap h' e C d fld v → R (.ok (.ret (.ref e))) { s with heap := h', toks := tk }) :
    codeAny (model prog w) A (.call (.ref C) ⟨[v], []⟩) R s := by
  obtain ⟨nm, q, N, bs, bm, sn, sub, ab, col, dd, k0, k1, k2, k3, k5, hC, hbm⟩ := T.cls
  obtain ⟨hp, g, dr, tk, os⟩ := s
  have k : ∀ b o, hp.get? b = some o → ((hp.push (kdv_tup [v])).push (excO C hp.objs.size)).get? b = some o := fun b o e => Heap.get?_push_of_some _ (Heap.get?_push_of_some _ e)
  have hget : ((hp.push (kdv_tup [v])).push (excO C hp.objs.size)).get? (hp.objs.size + 1) = some (excO C hp.objs.size) := by heap_get
  have hnx : K.lookup (hp.objs.size + 1) = none := by
    cases e : K.lookup (hp.objs.size + 1) with
    | none => rfl
    | some o =>
      have z : hp.get? (hp.objs.size + 1) = some o := X _ _ e
      exact absurd (Nat.lt_of_succ_lt (Heap.lt_size z)) (Nat.lt_irrefl _)
  refine call_own F.excBase_ValueError (fun Y => refsVE_contains Y bm hbm) (X _ _ hC) (looks_findIn X T.iC) (fun self => bind_fn X self T.tC) (one_size v) ?_
  refine sup_init (s := ⟨(hp.push (kdv_tup [v])).push (excO C hp.objs.size), g, dr, tk, os⟩) T (X.keeps k) (hlim.keeps k) (hg.keeps k) (hb.keeps k) hbs hget hnx ?_ fun h' tk' dx t1 ⟨k', hx, dn, dne, hns⟩ => ?_
  · show A.depth + 1 < recursionLimit
    exact hroom
  · have old : ∀ b o, hp.get? b = some o → h'.get? b = some o := fun b o e => k' b o (Nat.ne_of_lt (Nat.lt_succ_of_lt (Heap.lt_size e))) (k b o e)
    have z : hp.objs.size + 1 + 1 ≤ dx := by
      first
        | (simpa only [Heap.size_push] using dn)
        | exact dn
        | (have q := dn; rw [Heap.size_push, Heap.size_push] at q; exact q)
    exact ⟨rfl, hq h' tk' (hp.objs.size + 1) dx ⟨old, Nat.le_succ _, ⟨_, hx⟩, Nat.le_trans (Nat.le_trans (Nat.le_succ _) (Nat.le_succ _)) z, dne, hns⟩⟩

end
end SwX
end PySem
namespace L2
open PySem PySem.Spec PyProof.Rows
theorem relO_one {f g : Str} {v : V} {u : Value} (r : RelV v u) : RelO (List.lookup g [(f, v)]) (if g = f then some u else none) := by
  by_cases hw : g = f
  · subst hw
    rw [if_pos rfl, show List.lookup g [(g, v)] = some v by simp [List.lookup]]
    exact r
  · rw [if_neg hw, show List.lookup g [(f, v)] = none by
      have qw : (g == f) = false := by simpa using hw
      simp [List.lookup, qw]]
    trivial
section
variable {X : Cx} {C fI : Addr} {xn fld : Str}
/-- X(e), X such a class: its own dict d, new, keeps the field -/
def tMkS (C : Addr) (fld : Str) (ta : TA) : St → Hp → XK → Prop := fun σ H Q => ta σ H fun vs H1 => ∃ v, vs = [v] ∧ ∀ d, H1 d = none → Q (.ref C) (some d) (upd H1 d (.xd [(fld, v)]))
theorem pmk_sup {a : Expr} {ta : TA} {p pos : Pos} {k : Nat} (T : PySem.SwX.SErr X.prog X.K X.mg xn fld C fI) (hr : Room k X.A) (ha : PA X [a] ta) (hg : Gl X xn := by rfl) (hdb : (xn == ("__debug__" : Str)) = false := by decide)
    (he : starEach (a :: []) X.env = (false, eval a X.env) :: starEach [] X.env := by rfl) (hpl : (backTo pos (starEach [] X.env)).any (·.1) = false := by rfl) :
    PMk X (.Call (.Name xn p) [a] [] pos) (tMkS C fld ta) := by
  intro pins s σ H Q I h
  refine wpAny_Call_Name_kw (ld_glob I hg T.gC ?_ hdb)
  refine PySem.W.callWith_K (h₀ := X.base) I.ok.mod.kin T.kC (thn (ha.run pos pins s σ H _ I h) fun us s1 hh => ?_) he hpl
  obtain ⟨vs, H1, I1, r1, v, ev, q1⟩ := hh
  subst ev
  refine ⟨I1.kIn, ?_⟩
  cases r1 with
  | cons rv rn =>
    rename_i v' us'
    cases rn
    show wpAny _ _ (call (.ref C) [v']) _ _ _
    have hlim := I1.nolimit
    obtain ⟨mb, hb1, hb2⟩ := I1.mod.blt
    have hgl := I1.mod.glob.keeps I1.bk
    have hbl := hb1.keeps I1.bk
    have hkin := I1.kIn
    obtain ⟨hp, g, dr, tk, os⟩ := s1
    refine wpAny_call (PySem.SwX.sup_made T hkin hlim hgl hbl (hb2 _ (by decide)) (by have := hr.dp; omega) fun h' tk' e d M => ?_)
    show MkP X pins σ Q (.ref e) ⟨h', g, dr, tk', os⟩
    obtain ⟨t1, hoe⟩ := M.obj
    have hns := M.ns
    obtain ⟨G', g1, g2⟩ := restrict h' fun b => decide (b ≠ e)
    have gk : ∀ b, b ≠ e → G'.get? b = h'.get? b := fun b hb => g1 b (decide_eq_true hb)
    have ge : G'.get? e = none := g2 e (by simp)
    have old : ∀ b o, hp.get? b = some o → G'.get? b = some o := fun b o q => (gk b (Nat.ne_of_lt (Nat.lt_of_lt_of_le (Heap.lt_size q) M.new))).trans (M.keep b o q)
    have ob : ObjOk X.prog X.w (upd H1 d (.xd [(fld, v)])) G' d (.xd [(fld, v)]) :=
      ⟨_, hns.at (fun o q => (gk d M.dne).trans q), fun f => relO_one rv⟩
    have J : Inv X pins σ (upd H1 d (.xd [(fld, v)])) ⟨G', g, dr, tk', os⟩ := I1.laid (t' := tk') old M.dbig ob
    refine ⟨e, _, _, ⟨G', g, dr, tk', os⟩, _, .ref C, some d, rfl, J, fun b o q => ?_, ge, hoe, ⟨rfl, rfl⟩, rfl, rfl, ?_, rfl, I1.bare, raises_own T.exC T.tyC, q1 d (I1.hok.fresh M.dbig)⟩
    · by_cases hb : b = e
      · have q' : G'.get? b = some o := q
        rw [hb, ge] at q'; cases q'
      · exact (gk b hb).symm.trans q
    · rw [upd_ne (Ne.symm M.dne)]
      exact I1.hok.fresh M.new
/-- raise X(e) -/
def tRaiseS (C : Addr) (fld : Str) (W : WX) (ta : TA) : TS := fun _ σ H => tMkS C fld ta σ H fun cls d H' => W cls d σ H'
theorem ps_raiseS {a : Expr} {ta : TA} {W : WX} {p pos pos2 : Pos} {k : Nat} (hc : X.calm = true) (T : PySem.SwX.SErr X.prog X.K X.mg xn fld C fI) (hr : Room k X.A) (tk : Takes X W) (ha : PA X [a] ta) (hg : Gl X xn := by rfl) (hdb : (xn == ("__debug__" : Str)) = false := by decide)
    (he : starEach (a :: []) X.env = (false, eval a X.env) :: starEach [] X.env := by rfl) (hpl : (backTo pos (starEach [] X.env)).any (·.1) = false := by rfl) :
    PS X (.Raise (some (.Call (.Name xn p) [a] [] pos)) none pos2) (tRaiseS C fld W ta) := ps_raise hc tk (pmk_sup T hr ha hg hdb he hpl)
/-- n.fld, n the exception that the suite holds (at a; its class cls, its dict d) -/
def tErrFld (C : Addr) (fld : Str) (a : Addr) (cls : Value) (d : Option Addr) (te : TE) : TE := fun σ H Q => te σ H fun x H1 => x = .ref a ∧ cls = .ref C ∧ ∃ (dd : Addr) (v : V), d = some dd ∧ H1 dd = some (.xd [(fld, v)]) ∧ Q v H1
theorem pe_errFld {a : Addr} {oe : Obj} {cls : Value} {d : Option Addr} {pn : List (Addr × Obj)} {e : Expr} {te : TE} {pos : Pos} (T : PySem.SwX.SErr X.prog X.K X.mg xn fld C fI) (hz : Zc cls d oe) (hf : ∃ vs, oe.data = .fields vs) (he : PE (X.suite a ((a, oe) :: pn)) e te)
    (hb : attributeBase e fld X.env (eval e X.env) = eval e X.env := by rfl) :
    PE (X.suite a ((a, oe) :: pn)) (.Attribute e fld pos) (tErrFld C fld a cls d te) := by
  refine ⟨fun pins s σ H Q I h => ?_⟩
  refine attr_of hb (thn (he.run pins s σ H _ I h) fun u s1 hh => ?_)
  obtain ⟨x, H1, I1, rx, ex, ec, dd, v, ed, ea, q⟩ := hh
  subst ex
  obtain rfl : u = Value.ref a := rx
  subst ec
  subst ed
  obtain ⟨ha, _⟩ := I1.pin (a, oe) (List.mem_append_left _ List.mem_cons_self)
  obtain ⟨vs, hd⟩ := hf
  have hx : ObjOk X.prog X.w H1 s1.heap dd (.xd [(fld, v)]) := I1.hok dd _ ea
  obtain ⟨mA, hns, hr⟩ := hx
  obtain ⟨od, ho, hl⟩ := lookIn_ns hns
  have l : List.lookup fld [(fld, v)] = some v := by simp [List.lookup]
  obtain ⟨u, hu, ru⟩ := RelO.some_of (v := v) (o := mA fld) (by rw [← l]; exact hr fld)
  have J : PySem.W.InstAt s1.heap a oe C (some od) := ⟨ha, hz.1, by unfold PySem.W.notCls; rw [hd] <;> rfl, by rw [hz.2]; exact ho⟩
  exact HandSPX.exc_get I1.kIn J T.ga T.gg T.exC (PySem.W.findObj_own T.hdC T.noF rfl (by rw [hl, hu])) (handed_of ru) ⟨v, H1, I1.tok _, ru, q⟩
end
end L2
set_option Elab.async false
set_option linter.all false
set_option maxRecDepth 100000
set_option maxHeartbeats 4000000
/-! try with several clauses that all hand the error to one name. -/
namespace L2
open PySem PySem.Spec PyProof.Rows
/-- what follows a suite: the name is gone again -/
def noName (i : Nat) (D : Ends) : Ends := { nx := fun σ' H' => D.nx (σ'.set i none) H', rt := D.rt, bk := fun σ' H' => D.bk (σ'.set i none) H', ct := fun σ' H' => D.ct (σ'.set i none) H' }
abbrev ClauseT := Value × Bool × (Addr → Value → Option Addr → TS)
def wEach (K : PySem.W.Frag) (i : Nat) (Wout : WX) (D : Ends) : List ClauseT → WX
  | [] => Wout
  | (c, true, ts) :: r => fun cls d σ H => ∃ b, PySem.W.exmOne K cls c = some b ∧ (b = true → ∀ a, H a = none → ts a cls d (noName i D) (σ.set i (some (.ref a))) H) ∧ (b = false → wEach K i Wout D r cls d σ H)
  | (c, false, ts) :: r => fun cls d σ H => ∃ b, PySem.W.exmOne K cls c = some b ∧ (b = true → ∀ a, H a = none → ts a cls d D σ H) ∧ (b = false → wEach K i Wout D r cls d σ H)
inductive Clauses (X : Cx) (n : Str) : List ExceptHandler → List ClauseT → Prop
  | nil : Clauses X n [] []
  | cons {x : Str} {c : Value} {ts : Addr → Value → Option Addr → TS} {b₀ : Stmt} {suite : List Stmt} {np pos' : Pos} {hds : List ExceptHandler} {l : List ClauseT} (hc : Names X x c)
      (hsu : ∀ (a : Addr) (oe : Obj) (cls : Value) (d : Option Addr) (pn : List (Addr × Obj)), Zc cls d oe → (∃ vs, oe.data = .fields vs) → PSs (X.suite a ((a, oe) :: pn)) (b₀ :: suite) (ts a cls d)) (r : Clauses X n hds l) :
      Clauses X n (.ExceptHandler (some (.Name x np)) (some n) (b₀ :: suite) pos' :: hds) ((c, true, ts) :: l)
  | bare {x : Str} {c : Value} {ts : Addr → Value → Option Addr → TS} {b₀ : Stmt} {suite : List Stmt} {np pos' : Pos} {hds : List ExceptHandler} {l : List ClauseT} (hc : Names X x c)
      (hsu : ∀ (a : Addr) (oe : Obj) (cls : Value) (d : Option Addr) (pn : List (Addr × Obj)), Zc cls d oe → (∃ vs, oe.data = .fields vs) → PSs (X.suite a ((a, oe) :: pn)) (b₀ :: suite) (ts a cls d)) (r : Clauses X n hds l) :
      Clauses X n (.ExceptHandler (some (.Name x np)) none (b₀ :: suite) pos' :: hds) ((c, false, ts) :: l)
section
variable {X : Cx} {n : Str} {i : Nat} {body : List Stmt} {h₀ : ExceptHandler} {hds : List ExceptHandler} {l : List ClauseT} {pos : Pos} {tb : WX → TS} {Wout : WX}
/-- the clauses, one after the other, at an error that was met -/
theorem each_ok (hN : X.N.Nodup) (hi : X.N[i]? = some n) (hln : X.env.kindOf n = some .local) (hf : X.env.frame = some X.env.locals) (hs : X.stack = X.env :: X.outer) (tk : Takes X Wout) (ok : X.Ok)
    {a : Addr} {B : Heap} {cls : Value} {d : Option Addr} {pins : List (Addr × Obj)} {σ' : St} {H' : Hp} {D : Ends} {sI s' : Shared} {h3 : Heap} (J : Inv X pins σ' H' sI) (nb : ∀ b o, sI.heap.get? b = some o → b ∉ frs X.stack → B.get? b = some o)
    (up : sI.heap.UpToSlots s'.heap) (up3 : s'.heap.UpToSlots h3) (na : H' a = none) (os : s'.os = sI.os) (ag : AllBare s'.gens)
    (fl3 : HandSPX.FlyingZ B (X.env :: X.outer) a (Zc cls d) h3) (nL : a ≠ X.env.locals) (nF : a ∉ X.fs) : ∀ {hs' : List ExceptHandler} {l' : List ClauseT}, Clauses X n hs' l' → wEach X.K i Wout D l' cls d σ' H' →
      wpAny (model X.prog X.w) X.A (handleBy (.ref a) X.env hs') (SP X pins D) X.xe { s' with heap := h3 } := by
  have J3 : Inv X pins σ' H' { s' with heap := h3 } := J.landed nb fl3.1 (up.trans up3) os ag
  obtain ⟨oe3, vs3, he3, hz3, hd3⟩ := fl3.there
  have S3 := J3.suite he3 hd3 na nL nF
  intro hs' l' hk
  induction hk with
  | nil =>
    intro w
    apply wpAny_handleBy_nil
    obtain ⟨k1, k2, k3, oe, vs, T, oT, ts', he, hz, hd, h1, hr⟩ := id fl3
    unfold PySem.passOn
    apply wpAny_bind
    refine wpAny_field he hd h1 ?_
    rw [if_neg (show ¬ ((Value.ref T == Value.none) = true) from by simp)]
    have fin : wpAny (model X.prog X.w) X.A (setFlight (.ref a) X.env.frame) (fun _ s4 => wpAny (model X.prog X.w) X.A (throw (.ref a) : Sem Flow) (SP X pins D) X.xe s4) X.xe { s' with heap := h3 } := by
      rw [hf]
      refine HandSPX.setFlight_upZ fl3 fun h4 hh4 up4 => wpAny_throw (tk _ _ ?_)
      refine ⟨a, B, sI, pins, σ', H', cls, d, rfl, J, nb, (up.trans up3).trans up4, .inr (.inr ?_), na, os, ag, w⟩
      rw [hs]
      exact hh4
    first
      | exact wpAny_bind (wpAny_pure (wpAny_bind fin))
      | exact wpAny_bind fin
  | @cons x c ts b₀ suite np pos' hds2 l2 hc hsu r ih =>
    rintro ⟨b, hb1, hyes, hno⟩
    refine wpAny_handleBy_cons (codeAny_handlers_test ?_) (by intro q; cases q)
    have LT : PySem.W.Looks (model X.prog X.w) h3 (typeOf (.ref a)) cls := fun A Q E s k q => wpAny_typeOf_ref (k _ _ he3) (by rw [hz3.1]; exact q)
    have LM := PySem.W.exm_one (M := model X.prog X.w) (J3.kIn) LT hb1
    have test : ∀ {Q : Value → Shared → Prop} {E : Value → Shared → Prop}, Q c { s' with heap := h3 } → wpAny (model X.prog X.w) (X.A.mark (some (.ref a))) (eval (.Name x np) X.env) Q E { s' with heap := h3 } := by
      intro Q E q
      obtain ⟨hg, hdbg, hm | ⟨hm, hv, hnn⟩⟩ := hc
      · exact ld_glob (X := X.suite a ((a, oe3) :: (X.pn ++ pins))) S3 hg hm q hdbg
      · exact ld_blt (X := X.suite a ((a, oe3) :: (X.pn ++ pins))) S3 hg hm hv q hnn hdbg
    refine test (LM.here ?_)
    cases b with
    | false =>
      show wpAny _ X.A (handleBy (.ref a) X.env hds2) _ _ _
      exact ih (hno rfl)
    | true =>
      apply codeAny_handlers_suite_as
      refine HandSPX.lands_againZ fl3 fun h4 fl4 up4 => ?_
      have J4 : Inv X pins σ' H' { s' with heap := h4 } := J.landed nb fl4.1 ((up.trans up3).trans up4) os ag
      obtain ⟨oe4, vs4, he4, hz4, hd4⟩ := fl4.there
      have S4 := J4.suite he4 hd4 na nL nF
      refine store_ok (X := X.suite a ((a, oe4) :: (X.pn ++ pins))) (v := .ref a) S4 hN hi (.inl hln) rfl (fun s5 S5 => ?_) (.inr hln)
      have run := (hsu a oe4 cls d (X.pn ++ pins) hz4 ⟨_, hd4⟩).run [] s5 _ H' _ S5 (hyes rfl a na)
      refine wpAny_mono run (fun f s6 hsp => ?_) (fun _ _ z => z.elim)
      have gone : ∀ {σ6 : St} {H6 : Hp} {Q : Shared → Prop}, Inv (X.suite a ((a, oe4) :: (X.pn ++ pins))) [] σ6 H6 s6 → (∀ s7, Inv X pins (σ6.set i none) H6 s7 → Q s7) →
          wpAny (model X.prog X.w) X.A (do bindName X.env n .none; unbindBehindTheSuite X.env n pos') (fun _ s7 => Q s7) X.xe s6 := fun S6 hq => gone_ok (S6.unsuite ok) hN hi hln hq
      cases f with
      | ret u =>
        obtain ⟨v6, σ6, H6, S6, r6, q6⟩ := hsp
        exact gone S6 fun s7 J7 => ⟨_, _, _, J7, r6, q6⟩
      | next =>
        obtain ⟨σ6, H6, S6, q6⟩ := hsp
        exact gone S6 fun s7 J7 => ⟨_, _, J7, q6⟩
      | brk =>
        obtain ⟨σ6, H6, S6, q6⟩ := hsp
        exact gone S6 fun s7 J7 => ⟨_, _, J7, q6⟩
      | cont =>
        obtain ⟨σ6, H6, S6, q6⟩ := hsp
        exact gone S6 fun s7 J7 => ⟨_, _, J7, q6⟩
  | @bare x c ts b₀ suite np pos' hds2 l2 hc hsu r ih =>
    rintro ⟨b, hb1, hyes, hno⟩
    refine wpAny_handleBy_cons (codeAny_handlers_test ?_) (by intro q; cases q)
    have LT : PySem.W.Looks (model X.prog X.w) h3 (typeOf (.ref a)) cls := fun A Q E s k q => wpAny_typeOf_ref (k _ _ he3) (by rw [hz3.1]; exact q)
    have LM := PySem.W.exm_one (M := model X.prog X.w) (J3.kIn) LT hb1
    have test : ∀ {Q : Value → Shared → Prop} {E : Value → Shared → Prop}, Q c { s' with heap := h3 } → wpAny (model X.prog X.w) (X.A.mark (some (.ref a))) (eval (.Name x np) X.env) Q E { s' with heap := h3 } := by
      intro Q E q
      obtain ⟨hg, hdbg, hm | ⟨hm, hv, hnn⟩⟩ := hc
      · exact ld_glob (X := X.suite a ((a, oe3) :: (X.pn ++ pins))) S3 hg hm q hdbg
      · exact ld_blt (X := X.suite a ((a, oe3) :: (X.pn ++ pins))) S3 hg hm hv q hnn hdbg
    refine test (LM.here ?_)
    cases b with
    | false =>
      show wpAny _ X.A (handleBy (.ref a) X.env hds2) _ _ _
      exact ih (hno rfl)
    | true =>
      apply codeAny_handlers_suite
      refine HandSPX.lands_againZ fl3 fun h4 fl4 up4 => ?_
      have J4 : Inv X pins σ' H' { s' with heap := h4 } := J.landed nb fl4.1 ((up.trans up3).trans up4) os ag
      obtain ⟨oe4, vs4, he4, hz4, hd4⟩ := fl4.there
      have S4 := J4.suite he4 hd4 na nL nF
      have run := (hsu a oe4 cls d (X.pn ++ pins) hz4 ⟨_, hd4⟩).run [] _ _ H' _ S4 (hyes rfl a na)
      refine wpAny_mono run (fun f s6 hsp => ?_) (fun _ _ z => z.elim)
      cases f with
      | ret u =>
        obtain ⟨v6, σ6, H6, S6, r6, q6⟩ := hsp
        exact ⟨_, _, _, S6.unsuite ok, r6, q6⟩
      | next =>
        obtain ⟨σ6, H6, S6, q6⟩ := hsp
        exact ⟨_, _, S6.unsuite ok, q6⟩
      | brk =>
        obtain ⟨σ6, H6, S6, q6⟩ := hsp
        exact ⟨_, _, S6.unsuite ok, q6⟩
      | cont =>
        obtain ⟨σ6, H6, S6, q6⟩ := hsp
        exact ⟨_, _, S6.unsuite ok, q6⟩
/-- the reading of such a try, and of one with a single clause -/
def tTryEach (K : PySem.W.Frag) (i : Nat) (l : List ClauseT) (Wout : WX) (tb : WX → TS) : TS := fun D σ H => tb (wEach K i Wout D l) D σ H
def tTryAs (K : PySem.W.Frag) (c : Value) (i : Nat) (ts : Addr → Value → Option Addr → TS) (Wout : WX) (tb : WX → TS) : TS := fun D σ H => tb (wAs K c i ts Wout D) D σ H
theorem ps_try_one {x : Str} {c : Value} {b₀ : Stmt} {suite : List Stmt} {np pos' : Pos} {ts : Addr → Value → Option Addr → TS} (hs : X.stack = X.env :: X.outer) (hf : X.env.frame = some X.env.locals) (hN : X.N.Nodup) (hi : X.N[i]? = some n) (hln : X.env.kindOf n = some .local) (hc : Names X x c) (tk : Takes X Wout)
    (hb : ∀ (W : WX) (pn : List (Addr × Obj)) (xe : Value → Shared → Prop), Takes (X.tr pn xe) W → PassesOwn (model X.prog X.w) X.A X.env xe → PSs (X.tr pn xe) body (tb W))
    (hsu : ∀ (a : Addr) (oe : Obj) (cls : Value) (d : Option Addr) (pn : List (Addr × Obj)), Zc cls d oe → (∃ vs, oe.data = .fields vs) → PSs (X.suite a ((a, oe) :: pn)) (b₀ :: suite) (ts a cls d)) :
    PS X (.Try body [.ExceptHandler (some (.Name x np)) (some n) (b₀ :: suite) pos'] [] [] pos) (tTryAs X.K c i ts Wout tb) := ps_try_as hs hf hN hi hln hc tk hb hsu
theorem ps_try_each (hs : X.stack = X.env :: X.outer) (hf : X.env.frame = some X.env.locals) (hN : X.N.Nodup) (hi : X.N[i]? = some n) (hln : X.env.kindOf n = some .local) (tk : Takes X Wout)
    (hb : ∀ (W : WX) (pn : List (Addr × Obj)) (xe : Value → Shared → Prop), Takes (X.tr pn xe) W → PassesOwn (model X.prog X.w) X.A X.env xe → PSs (X.tr pn xe) body (tb W))
    (hh : Clauses X n (h₀ :: hds) l) : PS X (.Try body (h₀ :: hds) [] [] pos) (tTryEach X.K i l Wout tb) := by
  constructor
  intro pins s σ H D I h
  have ok := I.ok
  have hfr : X.A.frames = some (X.env :: X.outer) := by rw [ok.frames, hs]
  apply wpAny_Try_except
  have run := (hb (wEach X.K i Wout D l) (X.pn ++ pins) (fun e s₁ => wpAny (model X.prog X.w) X.A (noteFrame e X.env) (fun _ s₂ => wpAny (model X.prog X.w) X.A (setFlight e none) (fun _ s₃ =>
    wpAny (model X.prog X.w) X.A (handleBy e X.env (h₀ :: hds)) (SP X pins D) X.xe s₃) X.xe s₂) X.xe s₁) (fun u s' xx => ?_) PassesOwn.looking).run [] s σ H D (I.toTry _) h
  · refine wpAny_mono run (fun f s1 hsp => ?_) (fun e s1 he => he)
    cases f with
    | ret u =>
      obtain ⟨v, σ', H', J', r, q⟩ := hsp
      exact ⟨v, σ', H', J'.ofTry ok, r, q⟩
    | next =>
      obtain ⟨σ', H', J', q⟩ := hsp
      exact wpAny_execs_nil ⟨σ', H', J'.ofTry ok, q⟩
    | brk =>
      obtain ⟨σ', H', J', q⟩ := hsp
      exact ⟨σ', H', J'.ofTry ok, q⟩
    | cont =>
      obtain ⟨σ', H', J', q⟩ := hsp
      exact ⟨σ', H', J'.ofTry ok, q⟩
  · obtain ⟨a, B, sI, pins', σ', H', cls, d, rfl, J', nb, up, sky, na, os, ag, w⟩ := xx
    have J : Inv X pins σ' H' sI := J'.ofTry ok
    have sky' : Sky B (X.env :: X.outer) a (Zc cls d) X.env.locals s'.heap := by rw [← hs]; exact sky
    show wpAny (model X.prog X.w) X.A (noteFrame (.ref a) X.env) _ _ _
    refine Sky.land Zc.steady hfr hf sky' fun h3 fl3 up3 => ?_
    obtain ⟨oe3, vs3, he3, hz3, hd3⟩ := fl3.there
    have nfr : a ∉ frs (X.env :: X.outer) := fun hm => by
      obtain ⟨_, o', e', hnf⟩ := Heap.FunFrames.mem fl3.2.2.1 hm
      rw [he3] at e'
      cases e'
      exact hnf _ hd3
    have nL : a ≠ X.env.locals := fun z => nfr (List.mem_filterMap.mpr ⟨X.env, List.mem_cons_self, by rw [hf, z]⟩)
    have nF : a ∉ X.fs := fun hm => by
      obtain ⟨e, he, q⟩ := List.mem_filterMap.mp hm
      exact nfr (List.mem_filterMap.mpr ⟨e, List.mem_cons_of_mem _ he, q⟩)
    exact each_ok hN hi hln hf hs tk ok J nb up up3 na os ag fl3 nL nF hh w
end
end L2
set_option Elab.async false
set_option linter.all false
set_option maxRecDepth 100000
set_option maxHeartbeats 4000000
/-! What every text here shares: heaps that only grow, data that stay, the drawn numbers. -/
namespace Sw
open PySem PySem.Spec PyProof.Rows L2
theorem same_new {H : Hp} {p : Addr} {o : HO} (h : H p = none) : Same H (upd H p o) := fun b x e => by
  rw [upd_ne (ne_of_none e h)]
  exact e
theorem sqT_up {K : PySem.W.Frag} {H H' : Hp} {a : Addr} {xs : List V} (s : Same H H') (h : SqT K H a xs) : SqT K H' a xs := by
  rcases h with (h | ⟨o, h⟩) | h
  · exact .inl (.inl (s _ _ h))
  · exact .inl (.inr ⟨o, s _ _ h⟩)
  · exact .inr h
mutual
theorem dp_up {K : PySem.W.Frag} {H H' : Hp} (s : Same H H') : ∀ {v : V} {d : PyData}, Dp K H v d → Dp K H' v d
  | _, _, .non => .non
  | _, _, .bl b => .bl b
  | _, _, .int i => .int i
  | _, _, .str x => .str x
  | _, _, .lst q r => .lst (s.seq q) (dpAll_up s r)
  | _, _, .tup q r => .tup (sqT_up s q) (dpAll_up s r)
theorem dpAll_up {K : PySem.W.Frag} {H H' : Hp} (s : Same H H') : ∀ {vs : List V} {ds : List PyData}, DpAll K H vs ds → DpAll K H' vs ds
  | _, _, .nil => .nil
  | _, _, .cons q r => .cons (dp_up s q) (dpAll_up s r)
end
/-- a new tuple, told by what stays true -/
theorem tup_new {K : PySem.W.Frag} {H : Hp} {xs : List V} {Q : V → Hp → Prop} (h : ∀ (p : Addr) (H' : Hp), Same H H' → SqT K H' p xs → Q (.ref p) H') : ∀ p, H p = none → Q (.ref p) (upd H p (.tup xs)) :=
  fun p hp => h p _ (same_new hp) (.inl (.inl upd_same))
theorem lst_new {K : PySem.W.Frag} {H : Hp} {xs : List V} {Q : V → Hp → Prop} (h : ∀ (p : Addr) (H' : Hp), H p = none → Same H H' → H' p = some (.lst xs) → SqL K H' p xs → Q (.ref p) H') : ∀ p, H p = none → Q (.ref p) (upd H p (.lst xs)) :=
  fun p hp => h p _ hp (same_new hp) upd_same (.inl (.inl upd_same))
/-- one list of ours changed: all that stood before it was made stands -/
theorem same_put {H H1 : Hp} {p : Addr} {o : HO} (h0 : H p = none) (s : Same H H1) : Same H (upd H1 p o) := fun b x e => by
  rw [upd_ne (ne_of_none e h0)]
  exact s b x e
def Num (n : Int) : Prop := 0 ≤ n ∧ n < 1009
theorem sizeN {n : Nat} (h : n ≤ 200000) : n < sizeLine := Nat.lt_of_le_of_lt h (by decide)
theorem map_at {ns : List Int} {i : Nat} {x : V} (h : (ns.map V.int)[i]? = some x) : ∃ z, ns[i]? = some z ∧ x = V.int z := by
  rw [List.getElem?_map] at h
  cases e : ns[i]? with
  | none => rw [e] at h; cases h
  | some z => rw [e] at h; exact ⟨z, rfl, (Option.some.inj h).symm⟩
/-- law's row: a list of so many drawn numbers -/
def spRow (K : PySem.W.Frag) : Sp := fun vs H Q _ => ∃ c many : Int, vs = [.int c, .int many] ∧ 0 ≤ many ∧ many ≤ 2000 ∧
  ∀ (H' : Hp) (p : Addr) (ns : List Int), Same H H' → H p = none → H' p = some (.lst (ns.map V.int)) → (ns.length : Int) = many → (∀ n ∈ ns, Num n) → Q (.ref p) H'
def spNums (K : PySem.W.Frag) : Sp := fun vs H Q _ => ∃ (a : Addr) (xs : List Int) (many : Int), vs = [.ref a, .int many] ∧ SqL K H a (xs.map V.int) ∧ xs.length ≤ 63 ∧ 0 ≤ many ∧ many ≤ 1900 ∧
  ∀ (H' : Hp) (p : Addr) (ns : List Int), Same H H' → H p = none → H' p = some (.lst (ns.map V.int)) → (ns.length : Int) = many → (∀ n ∈ ns, Num n) → Q (.ref p) H'
end Sw
namespace Sw
open PySem PySem.Spec PyProof.Rows L2
/-- an error class over ValueError that keeps nothing of its own -/
structure PlainErr (K : PySem.W.Frag) (mg : Str → Option Value) (x : Str) (C : Addr) : Prop where
  g : mg x = some (.ref C)
  x : PySem.W.excIn K C [.type "ValueError", .type "Exception", .type "BaseException", .type "object"] "ValueError.__new__" = true
  k : PySem.W.keepIn K (.ref C) = true
  b : PySem.W.subIn K (.ref C) (.type "BaseException") = some true
  t : PySem.W.typeIn K (.ref C) = some (.type "type")
def spLaw (K : PySem.W.Frag) : Sp := fun vs H Q _ => ∃ (a : Addr) (ns : List Int), vs = [.ref a] ∧ SqL K H a (ns.map V.int) ∧ ns.length ≤ 63 ∧ ∀ H', Q (.bl true) H'
end Sw
namespace Sw
open PySem PySem.Spec PyProof.Rows L2
theorem cut_to {xs : List V} {j : Nat} : cutV xs none (some (j : Int)) = xs.take j := by
  unfold cutV
  rw [HT.sIx_none, HT.sIx_nat]
  show (xs.drop 0).take (min j xs.length - 0) = xs.take j
  rw [List.drop_zero, Nat.sub_zero]
  by_cases h : j ≤ xs.length
  · rw [Nat.min_eq_left h]
  · rw [Nat.min_eq_right (by omega), List.take_length, List.take_of_length_le (by omega)]
theorem cut_from {xs : List V} {j : Nat} : cutV xs (some (j : Int)) none = xs.drop j := by
  unfold cutV
  rw [HT.sIx_none, HT.sIx_nat]
  by_cases h : j ≤ xs.length
  · rw [Nat.min_eq_left h, ← List.length_drop, List.take_length]
  · rw [Nat.min_eq_right (by omega), List.drop_length, List.drop_of_length_le (by omega)]
    simp
theorem num_push {ns : List Int} {z : Int} (h : ∀ n ∈ ns, Num n) (hz : Num z) : ∀ n ∈ ns ++ [z], Num n := fun n hn => by
  rcases List.mem_append.mp hn with hn | hn
  · exact h n hn
  · rw [List.mem_singleton.mp hn]
    exact hz
theorem map_push (ns : List Int) (z : Int) : ns.map V.int ++ [V.int z] = (ns ++ [z]).map V.int := by
  rw [List.map_append]
  rfl
end Sw
namespace Sw
open PySem PySem.Spec PyProof.Rows L2
/-- an except clause that names a class at S asks whether the error's class lies under it -/
theorem exm_of {K : PySem.W.Frag} {D S : Addr} {b : Bool} (h1 : PySem.W.subIn K (.ref S) (.type "BaseException") = some true) (h2 : PySem.W.isClsIn K S = true) (h3 : PySem.W.typeIn K (.ref S) = some (.type "type")) (h4 : PySem.W.subIn K (.ref D) (.ref S) = some b) :
    PySem.W.exmOne K (.ref D) (.ref S) = some b := by
  have e1 : (PySem.W.subIn K (.ref S) (.type "BaseException") == some true) = true := by rw [h1] <;> rfl
  have e2 : ((PySem.W.clsIn K S).isSome && PySem.W.typeIn K (.ref S) == some (.type "type")) = true := by
    rw [show (PySem.W.clsIn K S).isSome = true from h2, h3] <;> rfl
  show (if (PySem.W.subIn K (.ref S) (.type "BaseException") == some true) = true then (if ((PySem.W.clsIn K S).isSome && PySem.W.typeIn K (.ref S) == some (.type "type")) = true then PySem.W.subIn K (.ref D) (.ref S) else none) else none) = some b
  rw [if_pos e1, if_pos e2]
  exact h4
end Sw
namespace Sw
open PySem PySem.Spec PyProof.Rows L2
theorem int_ne {i j : Int} (h : (!decide (V.int i = V.int j)) = true) : i ≠ j := fun e => by
  rw [e, decide_eq_true rfl] at h
  cases h
theorem int_eq {i j : Int} (h : ¬ (!decide (V.int i = V.int j)) = true) : i = j := by
  by_cases e : V.int i = V.int j
  · exact V.int.inj e
  · rw [decide_eq_false e] at h
    exact absurd rfl h
theorem of3 {α : Type} {l : List α} (h : ((l.length : Nat) : Int) = 3) : ∃ x y z, l = [x, y, z] := by
  match l, h with
  | [x, y, z], _ => exact ⟨x, y, z, rfl⟩
  | [], h => exact absurd h (by simp)
  | [_], h => exact absurd h (by simp)
  | [_, _], h => exact absurd h (by simp)
  | _ :: _ :: _ :: _ :: l, h => simp at h; omega
theorem of4 {α : Type} {l : List α} (h : ((l.length : Nat) : Int) = 4) : ∃ x y z u, l = [x, y, z, u] := by
  match l, h with
  | [x, y, z, u], _ => exact ⟨x, y, z, u, rfl⟩
  | [], h => exact absurd h (by simp)
  | [_], h => exact absurd h (by simp)
  | [_, _], h => exact absurd h (by simp)
  | [_, _, _], h => exact absurd h (by simp)
  | _ :: _ :: _ :: _ :: _ :: l, h => simp at h; omega
end Sw
namespace Sw
open PySem PySem.Spec PyProof.Rows L2
/-! ### the same rules, told by what stays true -/
def nTup (K : PySem.W.Frag) (H : Hp) (xs : List V) (Q : VK) : Prop := ∀ (p : Addr) (H2 : Hp), Same H H2 → SqT K H2 p xs → Q (.ref p) H2
def nLst (H : Hp) (xs : List V) (Q : VK) : Prop := ∀ (p : Addr) (H2 : Hp), Same H H2 → H p = none → H2 p = some (.lst xs) → Q (.ref p) H2
theorem nTup.at {K : PySem.W.Frag} {H : Hp} {xs : List V} {Q : VK} (h : nTup K H xs Q) (p : Addr) (n : H p = none) : Q (.ref p) (upd H p (.tup xs)) := h p _ (same_new n) (.inl (.inl upd_same))
theorem nLst.at {H : Hp} {xs : List V} {Q : VK} (h : nLst H xs Q) (p : Addr) (n : H p = none) : Q (.ref p) (upd H p (.lst xs)) := h p _ (same_new n) n upd_same
def tTupM (K : PySem.W.Frag) (t : TA) : TE := fun σ H Q => t σ H fun xs H1 => xs.length ≤ sizeLine ∧ nTup K H1 xs Q
def tLstM (t : TA) : TE := fun σ H Q => t σ H fun xs H1 => xs.length ≤ sizeLine ∧ nLst H1 xs Q
section
variable {X : Cx} {es : List Expr} {t : TA} {pos : Pos}
theorem pe_tupM {x1} (h : PA X es t) : PE X (.Tuple es x1 pos) (tTupM X.K t) := by
  constructor
  intro pins s σ H Q I hq
  apply wpAny_Tuple_spliced
  refine thn (h.run pos pins s σ H _ I hq) ?_
  rintro us s1 ⟨xs, H1, I1, r, z, q⟩
  refine ⟨r.length ▸ z, ?_⟩
  have hf : H1 s1.heap.objs.size = none := I1.hok.fresh (Nat.le_refl _)
  have J := I1.laid (t' := s1.toks) (a := s1.heap.objs.size) (o := .tup xs) (fun b u e => Heap.get?_push_of_some { cls := .type "tuple", data := .seq us.toArray } e) (Nat.le_refl _) ⟨z, us, r, ⟨_, Heap.get?_push_size _ rfl, rfl, _, rfl⟩⟩
  exact ⟨.ref _, _, J, rfl, q.at _ hf⟩
theorem pe_lstM (h : PA X es t) : PE X (.List es pos) (tLstM t) := by
  constructor
  intro pins s σ H Q I hq
  apply wpAny_List_spliced
  refine thn (h.run pos pins s σ H _ I hq) ?_
  rintro us s1 ⟨xs, H1, I1, r, z, q⟩
  refine ⟨r.length ▸ z, ?_⟩
  have hf : H1 s1.heap.objs.size = none := I1.hok.fresh (Nat.le_refl _)
  have J := I1.laid (t' := s1.toks) (a := s1.heap.objs.size) (o := .lst xs) (fun b u e => Heap.get?_push_of_some { cls := .type "list", data := .seq us.toArray } e) (Nat.le_refl _) ⟨z, us, 0, r, Heap.get?_push_size _ rfl⟩
  exact ⟨.ref _, _, J, rfl, q.at _ hf⟩
/-- t[lo:hi], not the whole of t -/
def rSlTM (K : PySem.W.Frag) : V → Option Int → Option Int → Hp → VK → Prop := fun x lo hi H Q => ∃ a xs, x = .ref a ∧ SqT K H a xs ∧ ¬ (HT.sIx xs.length 0 lo = 0 ∧ HT.sIx xs.length xs.length hi = xs.length) ∧ nTup K H (cutV xs lo hi) Q
theorem sl_tupM : SlR X (rSlTM X.K) := fun pins s σ H x v vl vu lo hi sl Q I rx hs pl pu ⟨b, xs, e, h1, h2, q⟩ => sl_tup pins s σ H x v vl vu lo hi sl Q I rx hs pl pu ⟨b, xs, e, h1, h2, q.at⟩
def rSlLM (K : PySem.W.Frag) : V → Option Int → Option Int → Hp → VK → Prop := fun x lo hi H Q => ∃ a xs, x = .ref a ∧ SqL K H a xs ∧ nLst H (cutV xs lo hi) Q
theorem sl_listM : SlR X (rSlLM X.K) := fun pins s σ H x v vl vu lo hi sl Q I rx hs pl pu ⟨b, xs, e, h1, q⟩ => sl_list pins s σ H x v vl vu lo hi sl Q I rx hs pl pu ⟨b, xs, e, h1, q.at⟩
def rCatTM (K : PySem.W.Frag) : R2 := fun x y H Q => ∃ a b xs ys, x = .ref a ∧ y = .ref b ∧ SqT K H a xs ∧ SqT K H b ys ∧ xs ≠ [] ∧ ys ≠ [] ∧ xs.length + ys.length ≤ sizeLine ∧ nTup K H (xs ++ ys) Q
theorem op_catTM : OpR X (binaryOp .Add) (rCatTM X.K) := fun pins s σ H x y v u Q I rx ry ⟨c, b, xs, ys, e1, e2, h1, h2, h3, h4, h5, q⟩ => op_catT pins s σ H x y v u Q I rx ry ⟨c, b, xs, ys, e1, e2, h1, h2, h3, h5, fun z => absurd z h4, fun _ => q.at⟩
def rCatM : R2 := fun x y H Q => ∃ l b xs zs, x = .ref l ∧ y = .ref b ∧ H l = some (.lst xs) ∧ H b = some (.lst zs) ∧ xs.length + zs.length ≤ sizeLine ∧ nLst H (xs ++ zs) Q
theorem op_catM : OpR X (binaryOp .Add) rCatM := fun pins s σ H x y v u Q I rx ry ⟨c, b, xs, ys, e1, e2, h1, h2, h3, q⟩ => op_cat pins s σ H x y v u Q I rx ry ⟨c, b, xs, ys, e1, e2, h1, h2, h3, q.at⟩
def rRepM : R2 := fun x y H Q => ∃ l k xs, x = .ref l ∧ y = .int k ∧ H l = some (.lst xs) ∧ -(2 ^ 63) ≤ k ∧ k < 2 ^ 63 ∧ xs.length * k.toNat ≤ sizeLine ∧ nLst H (List.replicate k.toNat xs).flatten Q
theorem op_repM : OpR X (binaryOp .Mult) rRepM := fun pins s σ H x y v u Q I rx ry ⟨c, k, xs, e1, e2, h1, h2, h3, h4, q⟩ => op_rep pins s σ H x y v u Q I rx ry ⟨c, k, xs, e1, e2, h1, h2, h3, h4, q.at⟩
end
end Sw
namespace Sw
open PySem PySem.Spec PyProof.Rows L2
/-- an instance is changed: lists and tuples stand -/
theorem sqL_ins {K : PySem.W.Frag} {H : Hp} {x C dx p : Addr} {fs : List (Str × V)} {o : HO} {xs : List V} (hx : H x = some (.ins C dx fs)) (h : SqL K H p xs) : SqL K (upd H x o) p xs := by
  rcases h with (h | ⟨u, h⟩) | h
  · exact .inl (.inl (by rw [upd_ne (fun z => by rw [z, hx] at h; cases h)]; exact h))
  · exact .inl (.inr ⟨u, by rw [upd_ne (fun z => by rw [z, hx] at h; cases h)]; exact h⟩)
  · exact .inr h
theorem sqT_ins {K : PySem.W.Frag} {H : Hp} {x C dx p : Addr} {fs : List (Str × V)} {o : HO} {xs : List V} (hx : H x = some (.ins C dx fs)) (h : SqT K H p xs) : SqT K (upd H x o) p xs := by
  rcases h with (h | ⟨u, h⟩) | h
  · exact .inl (.inl (by rw [upd_ne (fun z => by rw [z, hx] at h; cases h)]; exact h))
  · exact .inl (.inr ⟨u, by rw [upd_ne (fun z => by rw [z, hx] at h; cases h)]; exact h⟩)
  · exact .inr h
end Sw
namespace Sw
open PySem PySem.Spec PyProof.Rows L2
/-! ### data, and == of data -/
def dTI (ns : List Int) : PyData := .tuple (ns.map .int)
theorem dpAll_ints {K : PySem.W.Frag} {H : Hp} : ∀ ns : List Int, DpAll K H (ns.map V.int) (ns.map PyData.int)
  | [] => .nil
  | _ :: r => .cons (.int _) (dpAll_ints r)
theorem dp_ti {K : PySem.W.Frag} {H : Hp} {p : Addr} {ns : List Int} (h : SqT K H p (ns.map V.int)) : Dp K H (.ref p) (dTI ns) := .tup h (dpAll_ints ns)
theorem dp_t {K : PySem.W.Frag} {H : Hp} {p : Addr} {xs : List V} {ds : List PyData} (h : SqT K H p xs) (r : DpAll K H xs ds) : Dp K H (.ref p) (.tuple ds) := .tup h r
theorem dp_l {K : PySem.W.Frag} {H : Hp} {p : Addr} {xs : List V} {ds : List PyData} (h : H p = some (.lst xs)) (r : DpAll K H xs ds) : Dp K H (.ref p) (.list ds) := .lst (.inl (.inl h)) r
/-- data that can be compared, of a depth -/
def Lay (k : Nat) (d : PyData) : Prop := d.canLay0 = true ∧ d.depth ≤ k
theorem lay_int (k : Nat) (i : Int) : Lay k (.int i) := ⟨rfl, Nat.zero_le _⟩
theorem lay_non (k : Nat) : Lay k .none := ⟨rfl, Nat.zero_le _⟩
theorem lay_bool (k : Nat) (b : Bool) : Lay k (.bool b) := ⟨rfl, Nat.zero_le _⟩
theorem lay_all {k : Nat} : ∀ {ds : List PyData}, (∀ d ∈ ds, Lay k d) → PyData.canLayAll0 ds = true ∧ PyData.depthAll ds ≤ k
  | [], _ => ⟨rfl, Nat.zero_le _⟩
  | d :: r, h => by
    obtain ⟨a1, a2⟩ := h d List.mem_cons_self
    obtain ⟨b1, b2⟩ := lay_all (ds := r) fun x hx => h x (List.mem_cons_of_mem _ hx)
    refine ⟨?_, ?_⟩
    · show (d.canLay0 && PyData.canLayAll0 r) = true
      rw [a1, b1]
      rfl
    · show max d.depth (PyData.depthAll r) ≤ k
      omega
theorem lay_tuple {k : Nat} {ds : List PyData} (h : ∀ d ∈ ds, Lay k d) : Lay (k + 1) (.tuple ds) := by
  obtain ⟨a, b⟩ := lay_all h
  exact ⟨a, Nat.succ_le_succ b⟩
theorem lay_list {k : Nat} {ds : List PyData} (h : ∀ d ∈ ds, Lay k d) : Lay (k + 1) (.list ds) := by
  obtain ⟨a, b⟩ := lay_all h
  exact ⟨a, Nat.succ_le_succ b⟩
theorem lay_up {j k : Nat} {d : PyData} (h : Lay j d) (l : j ≤ k) : Lay k d := ⟨h.1, Nat.le_trans h.2 l⟩
theorem lay_ti (ns : List Int) : Lay 1 (dTI ns) := lay_tuple fun d hd => by
  obtain ⟨i, _, rfl⟩ := List.mem_map.mp hd
  exact lay_int 0 i
theorem lay_2 {k : Nat} {d e : PyData} (h1 : Lay k d) (h2 : Lay k e) : ∀ x ∈ [d, e], Lay k x := fun x hx => by
  rcases List.mem_cons.mp hx with rfl | hx
  · exact h1
  · rw [List.mem_singleton.mp hx]
    exact h2
theorem shaped_of {k : Nat} {d : PyData} (h : Lay k d) (hk : k ≤ 64) : SeqAt.shaped d = true := by
  unfold SeqAt.shaped
  rw [h.1, decide_eq_true (Nat.le_trans h.2 hk)]
  rfl
theorem ne_same {K : PySem.W.Frag} {k : Nat} {x y : V} {d : PyData} {H : Hp} {Q : VK} (l : Lay k d) (hk : k ≤ 64) (hx : Dp K H x d) (hy : Dp K H y d) (q : Q (.bl false) H) : rNeD K x y H Q :=
  ⟨d, d, hx, hy, shaped_of l hk, shaped_of l hk, by rw [SeqAt.eqv_refl d l.1]; exact q⟩
theorem eq_same {K : PySem.W.Frag} {k : Nat} {x y : V} {d : PyData} {H : Hp} {Q : VK} (l : Lay k d) (hk : k ≤ 64) (hx : Dp K H x d) (hy : Dp K H y d) (q : Q (.bl true) H) : rEqD K x y H Q :=
  ⟨d, d, hx, hy, shaped_of l hk, shaped_of l hk, by rw [SeqAt.eqv_refl d l.1]; exact q⟩
/-! ### a, b = e where e is a tuple or a list -/
def gSeq (K : PySem.W.Frag) (n : Nat) (t : TGs) : TG := fun v σ H Q => ∃ a xs, v = .ref a ∧ (SqT K H a xs ∨ SqL K H a xs) ∧ xs.length = n ∧ t xs σ H Q
theorem pg_seq {X : Cx} {es : List Expr} {k : Nat} {t : TGs} {n : Nat} {pos : Pos} (hc : X.calm = true) (h : PGs X es t)
    (hn : (assignEach es X.env).length = n := by rfl) (hst : (assignEach es X.env).findIdx? (·.1) = none := by rfl) : PG X (.Tuple es k pos) (gSeq X.K n t) := by
  constructor
  rintro pins s σ H v u Q I r ⟨b, xs, e, hq | hq, hl, w⟩
  · exact (pg_tup hc h hn hst).run pins s σ H v u Q I r ⟨b, xs, e, hq, hl, w⟩
  · exact (pg_lst hc h hn hst).run pins s σ H v u Q I r ⟨b, xs, e, hq, hl, w⟩
theorem emod_step (z d n : Int) : (z % n + d + n) % n = (z + d) % n := by
  rw [Int.add_emod_right, Int.emod_add_emod]
end Sw
namespace Sw
open PySem PySem.Spec PyProof.Rows L2
def numI (ns : List Int) (j : Int) : Int := ns.getD j.toNat 0
theorem nthI {ns : List Int} {j : Int} (h0 : 0 ≤ j) (h1 : j < (ns.length : Int)) : atI (ns.map V.int) j = some (.int (numI ns j)) := by
  obtain ⟨k, rfl⟩ := Int.eq_ofNat_of_zero_le h0
  refine atI_nat ?_
  have hk : k < ns.length := by omega
  rw [List.getElem?_map, List.getElem?_eq_getElem hk]
  show some (V.int ns[k]) = some (V.int (ns.getD k 0))
  rw [List.getD_eq_getElem?_getD, List.getElem?_eq_getElem hk]
  rfl
theorem num_at {ns : List Int} (h : ∀ n ∈ ns, Num n) (j : Int) : Num (numI ns j) := by
  unfold numI
  rw [List.getD_eq_getElem?_getD]
  cases e : ns[j.toNat]? with
  | none => exact ⟨by decide, by decide⟩
  | some z => exact h z (List.mem_of_getElem? e)
theorem iteD {c A B : Prop} [Decidable c] (hc : c) (h : A) : if decide c = true then A else B := by
  rw [if_pos (decide_eq_true hc)]
  exact h
end Sw
namespace Sw
open PySem PySem.Spec PyProof.Rows L2
/-! ### data without lists stand where a list is changed -/
theorem sqT_lst {K : PySem.W.Frag} {H : Hp} {l p : Addr} {xs ys : List V} {o : HO} (hl : H l = some (.lst xs)) (h : SqT K H p ys) : SqT K (upd H l o) p ys := by
  rcases h with (h | ⟨u, h⟩) | h
  · exact .inl (.inl (by rw [upd_ne (fun z => by rw [z, hl] at h; cases h)]; exact h))
  · exact .inl (.inr ⟨u, by rw [upd_ne (fun z => by rw [z, hl] at h; cases h)]; exact h⟩)
  · exact .inr h
mutual
def noL : PyData → Bool
  | .tuple ds => noLs ds
  | .list _ => false
  | .dict _ => false
  | _ => true
def noLs : List PyData → Bool
  | [] => true
  | d :: r => noL d && noLs r
end
mutual
theorem dp_put {K : PySem.W.Frag} {H : Hp} {l : Addr} {xs : List V} {o : HO} (hl : H l = some (.lst xs)) : ∀ {v : V} {d : PyData}, noL d = true → Dp K H v d → Dp K (upd H l o) v d
  | _, _, _, .non => .non
  | _, _, _, .bl b => .bl b
  | _, _, _, .int i => .int i
  | _, _, _, .str x => .str x
  | _, _, n, .lst q r => nomatch n
  | _, _, n, .tup q r => .tup (sqT_lst hl q) (dpAll_put hl n r)
theorem dpAll_put {K : PySem.W.Frag} {H : Hp} {l : Addr} {xs : List V} {o : HO} (hl : H l = some (.lst xs)) : ∀ {vs : List V} {ds : List PyData}, noLs ds = true → DpAll K H vs ds → DpAll K (upd H l o) vs ds
  | _, _, _, .nil => .nil
  | _, _, n, .cons q r => .cons (dp_put hl (Bool.and_eq_true_iff.mp n).1 q) (dpAll_put hl (Bool.and_eq_true_iff.mp n).2 r)
end
theorem noLs_ints : ∀ ns : List Int, noLs (ns.map PyData.int) = true
  | [] => rfl
  | _ :: r => by
    show (noL (.int _) && noLs (r.map PyData.int)) = true
    rw [noLs_ints r]
    rfl
theorem noL_ti (ns : List Int) : noL (dTI ns) = true := noLs_ints ns
theorem dpAll_push {K : PySem.W.Frag} {H : Hp} {v : V} {d : PyData} : ∀ {vs : List V} {ds : List PyData}, DpAll K H vs ds → Dp K H v d → DpAll K H (vs ++ [v]) (ds ++ [d])
  | _, _, .nil, h => .cons h .nil
  | _, _, .cons q r, h => .cons q (dpAll_push r h)
theorem dpAll_len {K : PySem.W.Frag} {H : Hp} : ∀ {vs : List V} {ds : List PyData}, DpAll K H vs ds → vs.length = ds.length
  | _, _, .nil => rfl
  | _, _, .cons _ r => congrArg (· + 1) (dpAll_len r)
theorem dpAll_get {K : PySem.W.Frag} {H : Hp} : ∀ {vs : List V} {ds : List PyData} {i : Nat} {v : V}, DpAll K H vs ds → vs[i]? = some v → ∃ d, ds[i]? = some d ∧ Dp K H v d
  | _, _, 0, _, .cons q _, h => ⟨_, rfl, Option.some.inj h ▸ q⟩
  | _, _, i + 1, _, .cons _ r, h => dpAll_get (i := i) r h
theorem dp_ti_inv {K : PySem.W.Frag} {H : Hp} {v : V} {ns : List Int} (h : Dp K H v (dTI ns)) : ∃ p, v = .ref p ∧ SqT K H p (ns.map V.int) := by
  cases h with
  | @tup p xs ds q r =>
    refine ⟨p, rfl, ?_⟩
    have e : ∀ {xs : List V} {ns : List Int}, DpAll K H xs (ns.map PyData.int) → xs = ns.map V.int := by
      intro xs ns
      induction ns generalizing xs with
      | nil => intro h; cases h; rfl
      | cons n r ih =>
        intro h
        cases h with
        | cons h1 h2 =>
          cases h1
          rw [ih h2]
          rfl
    rw [← e r]
    exact q
/-- so many different numbers below a bound: not more than the bound -/
theorem nodup_below : ∀ (k : Nat) (l : List Nat), l.Nodup → (∀ x ∈ l, x < k) → l.length ≤ k
  | 0, l, _, h => by
    cases l with
    | nil => exact Nat.le_refl _
    | cons x r => exact absurd (h x List.mem_cons_self) (Nat.not_lt_zero _)
  | k + 1, l, hn, h => by
    have hn2 : (l.erase k).Nodup := hn.erase k
    have ih := nodup_below k (l.erase k) hn2 fun x hx => by
      have h1 := h x (List.mem_of_mem_erase hx)
      have h2 : x ≠ k := fun e => by
        subst e
        exact (List.Nodup.not_mem_erase hn) hx
      omega
    have e := List.length_erase (a := k) (l := l)
    by_cases hm : k ∈ l
    · rw [if_pos hm] at e
      omega
    · rw [if_neg hm] at e
      omega
end Sw
set_option Elab.async false
set_option linter.all false
set_option maxRecDepth 100000
set_option maxHeartbeats 4000000
/-! Skies, attitudes, commands, motions: what each def tells, as plain functions of integers, and its promise. -/
namespace Sw
open PySem PySem.Spec PyProof.Rows L2
def turnX (q x y : Int) : Int := if q % 4 = 1 then -y else if q % 4 = 2 then -x else if q % 4 = 3 then y else x
def turnY (q x y : Int) : Int := if q % 4 = 1 then x else if q % 4 = 2 then -y else if q % 4 = 3 then -x else y
def isPose (n : Int) : List Int → Bool
  | [x, y, q] => decide (0 ≤ x ∧ x < n ∧ 0 ≤ y ∧ y < n ∧ 0 ≤ q ∧ q ≤ 3)
  | _ => false
def isCmd (n : Int) : List Int → Bool
  | [x, y, q] => decide (-n < x ∧ x < n ∧ -n < y ∧ y < n ∧ 0 ≤ q ∧ q ≤ 3)
  | _ => false
def isCam (n : Int) : List Int → Bool
  | [r, b, g, l] => decide (0 ≤ r ∧ r ≤ 4 ∧ 0 ≤ b ∧ b ≤ 2 ∧ 0 ≤ g ∧ g ≤ 2 ∧ 1 ≤ l ∧ l ≤ 9 ∧ b ≤ r ∧ 2 * (r + b) + 1 ≤ n)
  | _ => false
def isStar (n : Int) : List Int → Bool
  | [x, y, b] => decide (0 ≤ x ∧ x < n ∧ 0 ≤ y ∧ y < n ∧ 1 ≤ b ∧ b ≤ 9)
  | _ => false
def comp (n : Int) : List Int → List Int → List Int
  | [a, b, c], [d, e, g] => [(turnX g a b + d) % n, (turnY g a b + e) % n, (c + g) % 4]
  | _, _ => []
def inv (n : Int) : List Int → List Int
  | [a, b, c] => [turnX (2 - c) a b % n, turnY (2 - c) a b % n, (4 - c) % 4]
  | _ => []
def near (n part : Int) : Int := (part + n / 2) % n - n / 2
theorem pose_form {n : Int} {ns : List Int} (h : isPose n ns = true) : ∃ x y q, ns = [x, y, q] ∧ 0 ≤ x ∧ x < n ∧ 0 ≤ y ∧ y < n ∧ 0 ≤ q ∧ q ≤ 3 := by
  match ns, h with
  | [x, y, q], h =>
    have z := of_decide_eq_true h
    exact ⟨x, y, q, rfl, z⟩
theorem cmd_form {n : Int} {ns : List Int} (h : isCmd n ns = true) : ∃ x y q, ns = [x, y, q] ∧ -n < x ∧ x < n ∧ -n < y ∧ y < n ∧ 0 ≤ q ∧ q ≤ 3 := by
  match ns, h with
  | [x, y, q], h =>
    have z := of_decide_eq_true h
    exact ⟨x, y, q, rfl, z⟩
/-- the attributes of a sky, in the order in which they are stored -/
def skyF (n : Int) (ts tc : Addr) : List (Str × V) := putF "_camera" (.ref tc) (putF "_stars" (.ref ts) (putF "_side" (.int n) []))
theorem skyF_side (n : Int) (ts tc : Addr) : (skyF n ts tc).lookup ("_side" : Str) = some (.int n) := by
  unfold skyF
  rw [lookup_putF, if_neg (by decide +kernel), lookup_putF, if_neg (by decide +kernel), lookup_putF, if_pos rfl]
theorem skyF_stars (n : Int) (ts tc : Addr) : (skyF n ts tc).lookup ("_stars" : Str) = some (.ref ts) := by
  unfold skyF
  rw [lookup_putF, if_neg (by decide +kernel), lookup_putF, if_pos rfl]
theorem skyF_camera (n : Int) (ts tc : Addr) : (skyF n ts tc).lookup ("_camera" : Str) = some (.ref tc) := by
  unfold skyF
  rw [lookup_putF, if_pos rfl]
theorem skyF_two (n : Int) (ts : Addr) : (putF "_stars" (V.ref ts) (putF "_side" (.int n) [])).length < 1000 := by
  show (if ("_side" : Str) = "_stars" then _ else _ : List (Str × V)).length < 1000
  rw [if_neg (by decide +kernel)]
  show 2 < 1000
  decide
/-- a sky stands at p -/
def SkyAt (K : PySem.W.Frag) (C : Addr) (H : Hp) (p : Addr) (n : Int) (st : List V) (cam : List Int) : Prop :=
  ∃ dx ts tc, H p = some (.ins C dx (skyF n ts tc)) ∧ SqT K H ts st ∧ SqT K H tc (cam.map V.int)
theorem sky_up {K : PySem.W.Frag} {C : Addr} {H H' : Hp} {p : Addr} {n : Int} {st : List V} {cam : List Int} (s : Same H H') : SkyAt K C H p n st cam → SkyAt K C H' p n st cam := fun ⟨dx, ts, tc, h1, h2, h3⟩ =>
  ⟨dx, ts, tc, s _ _ h1, sqT_up s h2, sqT_up s h3⟩
def spTurn (K : PySem.W.Frag) : Sp := fun vs H Q _ => ∃ (q x y : Int) (p : Addr), vs = [.int q, .ref p] ∧ SqT K H p [.int x, .int y] ∧
  ∀ (H' : Hp) (p' : Addr), Same H H' → SqT K H' p' [.int (turnX q x y), .int (turnY q x y)] → Q (.ref p') H'
def spIs (K : PySem.W.Frag) (ok : Int → List Int → Bool) : Sp := fun vs H Q _ => ∃ (n : Int) (p : Addr) (ns : List Int), vs = [.int n, .ref p] ∧ SqT K H p (ns.map V.int) ∧ Q (.bl (ok n ns)) H
def spComp (K : PySem.W.Frag) : Sp := fun vs H Q _ => ∃ (n a b c d e g : Int) (p q : Addr), vs = [.int n, .ref p, .ref q] ∧ 0 < n ∧ SqT K H p [.int a, .int b, .int c] ∧ SqT K H q [.int d, .int e, .int g] ∧
  ∀ (H' : Hp) (p' : Addr), Same H H' → SqT K H' p' ((comp n [a, b, c] [d, e, g]).map V.int) → Q (.ref p') H'
def spInv (K : PySem.W.Frag) : Sp := fun vs H Q _ => ∃ (n a b c : Int) (p : Addr), vs = [.int n, .ref p] ∧ 0 < n ∧ SqT K H p [.int a, .int b, .int c] ∧
  ∀ (H' : Hp) (p' : Addr), Same H H' → SqT K H' p' ((inv n [a, b, c]).map V.int) → Q (.ref p') H'
def spSide : Sp := fun vs H Q _ => ∃ n : Int, vs = [.int n] ∧ Q (.bl (decide (4 ≤ n ∧ n ≤ 9))) H
def spNear : Sp := fun vs H Q _ => ∃ n k : Int, vs = [.int n, .int k] ∧ 0 < n ∧ Q (.int (near n k)) H
/-- a sky is made of no stars, all else as the rules ask -/
def spCheck0 (K : PySem.W.Frag) : Sp := fun vs H Q _ => ∃ (n : Int) (p c : Addr) (cam : List Int), vs = [.int n, .ref p, .ref c] ∧ SqL K H p [] ∧ SqT K H c (cam.map V.int) ∧ 4 ≤ n ∧ n ≤ 9 ∧ isCam n cam = true ∧ ∀ H', Same H H' → Q .non H'
def spInit0 (K : PySem.W.Frag) (C : Addr) : Sp := fun vs H Q _ => ∃ (x dx : Addr) (n : Int) (p c : Addr) (cam : List Int), vs = [.ref x, .int n, .ref p, .ref c] ∧ H x = some (.ins C dx []) ∧ SqL K H p [] ∧ SqT K H c (cam.map V.int) ∧ 4 ≤ n ∧ n ≤ 9 ∧ isCam n cam = true ∧
  ∀ H', SkyAt K C H' x n [] cam → (∀ b o, H b = some o → b ≠ x → H' b = some o) → Q .non H'
/-- a property of a sky that is an attribute -/
def spProp (K : PySem.W.Frag) (C : Addr) (f : Int → List V → List Int → V → Hp → Prop) : Sp := fun vs H Q _ => ∃ (p : Addr) (n : Int) (st : List V) (cam : List Int), vs = [.ref p] ∧ SkyAt K C H p n st cam ∧ ∀ v, f n st cam v H → Q v H
def spOfSide (K : PySem.W.Frag) (C : Addr) : Sp := fun vs H Q _ => ∃ (p : Addr) (n : Int) (st : List V) (cam : List Int), vs = [.ref p] ∧ SkyAt K C H p n st cam ∧ Q (.int n) H
/-- a tuple is asked of a sky: nothing comes back, or the error with the tuple -/
def spAsk (K : PySem.W.Frag) (C D : Addr) (fld : Str) (ok : Int → List Int → Bool) : Sp := fun vs H Q E => ∃ (p q : Addr) (n : Int) (st : List V) (cam ns : List Int), vs = [.ref p, .ref q] ∧ SkyAt K C H p n st cam ∧ SqT K H q (ns.map V.int) ∧
  (ok n ns = true → Q .non H) ∧ (ok n ns = false → ∀ (d : Addr) (H' : Hp), Same H H' → H' d = some (.xd [(fld, .ref q)]) → E (.ref D) (some d) H')
def spAsk2 (K : PySem.W.Frag) (C D : Addr) : Sp := fun vs H Q E => ∃ (p q r : Addr) (n : Int) (st : List V) (cam ns ms : List Int), vs = [.ref p, .ref q, .ref r] ∧ SkyAt K C H p n st cam ∧ SqT K H q (ns.map V.int) ∧ SqT K H r (ms.map V.int) ∧
  (isPose n ns = true → isPose n ms = true → Q .non H) ∧ (isPose n ns = false → ∀ (d : Addr) (H' : Hp), Same H H' → H' d = some (.xd [("attitude", .ref q)]) → E (.ref D) (some d) H') ∧
  (isPose n ns = true → isPose n ms = false → ∀ (d : Addr) (H' : Hp), Same H H' → H' d = some (.xd [("attitude", .ref r)]) → E (.ref D) (some d) H')
/-- an attitude, and a tuple of another kind done to it -/
def spDone (K : PySem.W.Frag) (C D F : Addr) (fld : Str) (ok : Int → List Int → Bool) (f : Int → List Int → List Int → List Int) : Sp := fun vs H Q E => ∃ (p q r : Addr) (n : Int) (st : List V) (cam ns ms : List Int), vs = [.ref p, .ref q, .ref r] ∧ SkyAt K C H p n st cam ∧ 0 < n ∧ SqT K H q (ns.map V.int) ∧ SqT K H r (ms.map V.int) ∧
  (isPose n ns = true → ok n ms = true → ∀ (H' : Hp) (p' : Addr), Same H H' → SqT K H' p' ((f n ns ms).map V.int) → Q (.ref p') H') ∧
  (isPose n ns = false → ∀ (d : Addr) (H' : Hp), Same H H' → H' d = some (.xd [("attitude", .ref q)]) → E (.ref D) (some d) H') ∧
  (isPose n ns = true → ok n ms = false → ∀ (d : Addr) (H' : Hp), Same H H' → H' d = some (.xd [(fld, .ref r)]) → E (.ref F) (some d) H')
def spBack (K : PySem.W.Frag) (C F : Addr) (fld : Str) (ok : Int → List Int → Bool) : Sp := fun vs H Q E => ∃ (p q : Addr) (n : Int) (st : List V) (cam ns : List Int), vs = [.ref p, .ref q] ∧ SkyAt K C H p n st cam ∧ 0 < n ∧ SqT K H q (ns.map V.int) ∧
  (ok n ns = true → ∀ (H' : Hp) (p' : Addr), Same H H' → SqT K H' p' ((inv n ns).map V.int) → Q (.ref p') H') ∧
  (ok n ns = false → ∀ (d : Addr) (H' : Hp), Same H H' → H' d = some (.xd [(fld, .ref q)]) → E (.ref F) (some d) H')
def iabs (x : Int) : Int := if x < 0 then -x else x
def imax (x y : Int) : Int := if y > x then y else x
/-- how far two attitudes are apart, none for unlike quarters -/
def apartI (n : Int) : List Int → List Int → Option Int
  | [a, b, c], [d, e, g] => if c = g then some (imax (iabs (near n (a - d))) (iabs (near n (b - e)))) else none
  | _, _ => none
def optV : Option Int → V
  | some i => .int i
  | none => .non
def farI (n s : Int) (a b : List Int) : Bool := match apartI n a b with
  | some k => decide (s < k)
  | none => true
def spApart (K : PySem.W.Frag) (C D : Addr) : Sp := fun vs H Q E => ∃ (p q r : Addr) (n : Int) (st : List V) (cam ns ms : List Int), vs = [.ref p, .ref q, .ref r] ∧ SkyAt K C H p n st cam ∧ 0 < n ∧ SqT K H q (ns.map V.int) ∧ SqT K H r (ms.map V.int) ∧
  (isPose n ns = true → isPose n ms = true → Q (optV (apartI n ns ms)) H) ∧ (isPose n ns = false → ∀ (d : Addr) (H' : Hp), Same H H' → H' d = some (.xd [("attitude", .ref q)]) → E (.ref D) (some d) H') ∧
  (isPose n ns = true → isPose n ms = false → ∀ (d : Addr) (H' : Hp), Same H H' → H' d = some (.xd [("attitude", .ref r)]) → E (.ref D) (some d) H')
def spFar (K : PySem.W.Frag) (C D : Addr) : Sp := fun vs H Q E => ∃ (p q r : Addr) (n s : Int) (st : List V) (cam ns ms : List Int), vs = [.ref p, .ref q, .ref r, .int s] ∧ SkyAt K C H p n st cam ∧ 0 < n ∧ SqT K H q (ns.map V.int) ∧ SqT K H r (ms.map V.int) ∧
  (isPose n ns = true → isPose n ms = true → Q (.bl (farI n s ns ms)) H) ∧ (isPose n ns = false → ∀ (d : Addr) (H' : Hp), Same H H' → H' d = some (.xd [("attitude", .ref q)]) → E (.ref D) (some d) H') ∧
  (isPose n ns = true → isPose n ms = false → ∀ (d : Addr) (H' : Hp), Same H H' → H' d = some (.xd [("attitude", .ref r)]) → E (.ref D) (some d) H')
end Sw
namespace Sw
open PySem PySem.Spec PyProof.Rows L2
theorem pose_len {n : Int} {ns : List Int} (h : ((ns.length : Nat) : Int) ≠ 3) : isPose n ns = false := by
  match ns, h with
  | [], _ => rfl
  | [_], _ => rfl
  | [_, _], _ => rfl
  | [_, _, _], h => exact absurd (by simp) h
  | _ :: _ :: _ :: _ :: _, _ => rfl
theorem cmd_len {n : Int} {ns : List Int} (h : ((ns.length : Nat) : Int) ≠ 3) : isCmd n ns = false := by
  match ns, h with
  | [], _ => rfl
  | [_], _ => rfl
  | [_, _], _ => rfl
  | [_, _, _], h => exact absurd (by simp) h
  | _ :: _ :: _ :: _ :: _, _ => rfl
theorem star_len {n : Int} {ns : List Int} (h : ((ns.length : Nat) : Int) ≠ 3) : isStar n ns = false := by
  match ns, h with
  | [], _ => rfl
  | [_], _ => rfl
  | [_, _], _ => rfl
  | [_, _, _], h => exact absurd (by simp) h
  | _ :: _ :: _ :: _ :: _, _ => rfl
theorem cam_len {n : Int} {ns : List Int} (h : ((ns.length : Nat) : Int) ≠ 4) : isCam n ns = false := by
  match ns, h with
  | [], _ => rfl
  | [_], _ => rfl
  | [_, _], _ => rfl
  | [_, _, _], _ => rfl
  | [_, _, _, _], h => exact absurd (by simp) h
  | _ :: _ :: _ :: _ :: _ :: _, _ => rfl
end Sw
namespace Sw
open PySem PySem.Spec PyProof.Rows L2
/-! ### what the law about commands reckons by itself -/
def spLTurn (K : PySem.W.Frag) : Sp := fun vs H Q _ => ∃ (q x y : Int) (p : Addr), vs = [.int q, .ref p] ∧ (SqT K H p [.int x, .int y] ∨ SqL K H p [.int x, .int y]) ∧ 0 ≤ q ∧ q ≤ 3 ∧
  ∀ (H' : Hp) (p' : Addr), Same H H' → SqT K H' p' [.int (turnX q x y), .int (turnY q x y)] → Q (.ref p') H'
def spWalked (K : PySem.W.Frag) : Sp := fun vs H Q _ => ∃ (n x y q i j l : Int) (p r : Addr), vs = [.int n, .ref p, .ref r] ∧ SqT K H p [.int x, .int y, .int q] ∧ SqT K H r [.int i, .int j, .int l] ∧ isPose n [x, y, q] = true ∧ 0 ≤ l ∧ l ≤ 3 ∧ -100 ≤ i ∧ i ≤ 100 ∧ -100 ≤ j ∧ j ≤ 100 ∧
  ∀ (H' : Hp) (p' : Addr), Same H H' → SqT K H' p' ((comp n [i, j, l] [x, y, q]).map V.int) → Q (.ref p') H'
def toldC (n : Int) (ns ms : List Int) : Int × List Int := if isPose n ns then (if isCmd n ms then (0, comp n ms ns) else (2, ms)) else (1, ns)
def spToldC (K : PySem.W.Frag) (C : Addr) : Sp := fun vs H Q _ => ∃ (p q r : Addr) (n : Int) (st : List V) (cam ns ms : List Int), vs = [.ref p, .ref q, .ref r] ∧ SkyAt K C H p n st cam ∧ 0 < n ∧ SqT K H q (ns.map V.int) ∧ SqT K H r (ms.map V.int) ∧
  ∀ (H' : Hp) (t b : Addr), Same H H' → SqT K H' t [.int (toldC n ns ms).1, .ref b] → SqT K H' b ((toldC n ns ms).2.map V.int) → Q (.ref t) H'
def backC (n : Int) (ns : List Int) : Int × List Int := if isCmd n ns then (0, inv n ns) else (2, ns)
def spBackC (K : PySem.W.Frag) (C : Addr) : Sp := fun vs H Q _ => ∃ (p q : Addr) (n : Int) (st : List V) (cam ns : List Int), vs = [.ref p, .ref q] ∧ SkyAt K C H p n st cam ∧ 0 < n ∧ SqT K H q (ns.map V.int) ∧
  ∀ (H' : Hp) (t b : Addr), Same H H' → SqT K H' t [.int (backC n ns).1, .ref b] → SqT K H' b ((backC n ns).2.map V.int) → Q (.ref t) H'
def orTI (ok : Bool) (ns : List Int) : PyData := if ok then .none else dTI ns
def spChecksC (K : PySem.W.Frag) (C : Addr) : Sp := fun vs H Q _ => ∃ (p q r : Addr) (n : Int) (st : List V) (cam ns ms : List Int), vs = [.ref p, .ref q, .ref r] ∧ SkyAt K C H p n st cam ∧ SqT K H q (ns.map V.int) ∧ SqT K H r (ms.map V.int) ∧
  ∀ (H' : Hp) (l : Addr) (x y : V), Same H H' → H' l = some (.lst [x, y]) → Dp K H' x (orTI (isPose n ns) ns) → Dp K H' y (orTI (isCmd n ms) ms) → Q (.ref l) H'
end Sw
namespace Sw
open PySem PySem.Spec PyProof.Rows L2
def chkV (ok : Bool) (q : Addr) : V := if ok then .non else .ref q
theorem chk_dp {K : PySem.W.Frag} {H : Hp} {q : Addr} {ns : List Int} (ok : Bool) (h : SqT K H q (ns.map V.int)) : Dp K H (chkV ok q) (orTI ok ns) := by
  cases ok with
  | true => exact .non
  | false => exact dp_ti h
theorem turnX_zero (q : Int) : turnX q 0 0 = 0 := by unfold turnX; split <;> (try split) <;> (try split) <;> rfl
theorem turnY_zero (q : Int) : turnY q 0 0 = 0 := by unfold turnY; split <;> (try split) <;> (try split) <;> rfl
theorem turnX_add (q a b c d : Int) : turnX q (a + c) (b + d) = turnX q a b + turnX q c d := by unfold turnX; split <;> (try split) <;> (try split) <;> omega
theorem turnY_add (q a b c d : Int) : turnY q (a + c) (b + d) = turnY q a b + turnY q c d := by unfold turnY; split <;> (try split) <;> (try split) <;> omega
end Sw
namespace Sw
open PySem PySem.Spec PyProof.Rows L2
theorem quarter_cases {q : Int} (h0 : 0 ≤ q) (h3 : q ≤ 3) : q = 0 ∨ q = 1 ∨ q = 2 ∨ q = 3 := by omega
theorem side_cases {n : Int} (h0 : 4 ≤ n) (h3 : n ≤ 9) : n = 4 ∨ n = 5 ∨ n = 6 ∨ n = 7 ∨ n = 8 ∨ n = 9 := by omega
theorem tX0 (x y : Int) : turnX 0 x y = x := rfl
theorem tX1 (x y : Int) : turnX 1 x y = -y := rfl
theorem tX2 (x y : Int) : turnX 2 x y = -x := rfl
theorem tX3 (x y : Int) : turnX 3 x y = y := rfl
theorem tY0 (x y : Int) : turnY 0 x y = y := rfl
theorem tY1 (x y : Int) : turnY 1 x y = x := rfl
theorem tY2 (x y : Int) : turnY 2 x y = -y := rfl
theorem tY3 (x y : Int) : turnY 3 x y = -x := rfl
theorem tXm (q x y : Int) : turnX q x y = turnX (q % 4) x y := by unfold turnX; rw [Int.emod_emod_of_dvd q (Int.dvd_refl 4)]
theorem tYm (q x y : Int) : turnY q x y = turnY (q % 4) x y := by unfold turnY; rw [Int.emod_emod_of_dvd q (Int.dvd_refl 4)]
theorem undo1 {n u v z x : Int} (h : (u % n + (v + x) % n) % n = z) (e : u + v = 0) (h0 : 0 ≤ x) (h1 : x < n) : z = x := by
  rw [← h, ← Int.add_emod, ← Int.add_assoc, e, Int.zero_add]
  exact Int.emod_eq_of_lt h0 h1
theorem neg_emod' (a n : Int) : (-(a % n)) % n = (-a) % n := by
  rw [← Int.emod_emod_of_dvd (-a) (Int.dvd_refl n)]
  conv => rhs; rw [← Int.mul_ediv_add_emod a n]
  rw [Int.neg_add, ← Int.mul_neg, Int.emod_emod_of_dvd _ (Int.dvd_refl n), Int.add_comm, Int.add_mul_emod_self_left]
theorem back_ok {n x y q i j l : Int} (hp : isPose n [x, y, q] = true) (l0 : 0 ≤ l) (l3 : l ≤ 3) : comp n (inv n [i, j, l]) (comp n [i, j, l] [x, y, q]) = [x, y, q] := by
  have h := of_decide_eq_true hp
  have key : ∀ u v w : Int, (w = u % n ∨ w = -(-u % n)) → u + v = 0 → ∀ z, 0 ≤ z → z < n → (w + (v + z) % n) % n = z := fun u v w hw e z z0 z1 => by
    have e1 : w % n = u % n := by
      rcases hw with rfl | rfl
      · exact Int.emod_emod_of_dvd u (Int.dvd_refl n)
      · rw [neg_emod', Int.neg_neg]
    rw [Int.add_emod, e1, Int.emod_emod_of_dvd _ (Int.dvd_refl n), ← Int.add_emod, ← Int.add_assoc, e, Int.zero_add]
    exact Int.emod_eq_of_lt z0 z1
  show [(turnX ((l + q) % 4) (turnX (2 - l) i j % n) (turnY (2 - l) i j % n) + (turnX q i j + x) % n) % n, (turnY ((l + q) % 4) (turnX (2 - l) i j % n) (turnY (2 - l) i j % n) + (turnY q i j + y) % n) % n, ((4 - l) % 4 + (l + q) % 4) % 4] = [x, y, q]
  have hq : ((4 - l) % 4 + (l + q) % 4) % 4 = q := by omega
  rw [hq]
  have X : (turnX ((l + q) % 4) (turnX (2 - l) i j % n) (turnY (2 - l) i j % n) + (turnX q i j + x) % n) % n = x := by
    refine key (-(turnX q i j)) _ _ ?_ (by omega) x h.1 h.2.1
    rcases quarter_cases l0 l3 with rfl | rfl | rfl | rfl <;> rcases quarter_cases h.2.2.2.2.1 h.2.2.2.2.2 with rfl | rfl | rfl | rfl <;> simp [turnX, turnY]
  have Y : (turnY ((l + q) % 4) (turnX (2 - l) i j % n) (turnY (2 - l) i j % n) + (turnY q i j + y) % n) % n = y := by
    refine key (-(turnY q i j)) _ _ ?_ (by omega) y h.2.2.1 h.2.2.2.1
    rcases quarter_cases l0 l3 with rfl | rfl | rfl | rfl <;> rcases quarter_cases h.2.2.2.2.1 h.2.2.2.2.2 with rfl | rfl | rfl | rfl <;> simp [turnX, turnY]
  rw [X, Y]
theorem comp_pose {n i j l x y q : Int} (hn : 0 < n) : isPose n (comp n [i, j, l] [x, y, q]) = true := by
  refine decide_eq_true ⟨Int.emod_nonneg _ (by omega), Int.emod_lt_of_pos _ hn, Int.emod_nonneg _ (by omega), Int.emod_lt_of_pos _ hn, by omega, by omega⟩
theorem inv_cmd {n i j l : Int} (hn : 0 < n) : isCmd n (inv n [i, j, l]) = true := by
  have a0 := Int.emod_nonneg (turnX (2 - l) i j) (show n ≠ 0 by omega)
  have a1 := Int.emod_lt_of_pos (turnX (2 - l) i j) hn
  have b0 := Int.emod_nonneg (turnY (2 - l) i j) (show n ≠ 0 by omega)
  have b1 := Int.emod_lt_of_pos (turnY (2 - l) i j) hn
  exact decide_eq_true ⟨by omega, a1, by omega, b1, by omega, by omega⟩
theorem turn_mod8 (q x y : Int) : turnX ((q + 8) % 4) x y = turnX q x y ∧ turnY ((q + 8) % 4) x y = turnY q x y := by
  rw [tXm q, tYm q, show (q + 8) % 4 = q % 4 by omega]
  exact ⟨rfl, rfl⟩
end Sw
namespace Sw
theorem poseF {n x y q : Int} (h : ¬ (0 ≤ x ∧ x < n ∧ 0 ≤ y ∧ y < n ∧ 0 ≤ q ∧ q ≤ 3)) : isPose n [x, y, q] = false := decide_eq_false h
theorem cmdF {n x y q : Int} (h : ¬ (-n < x ∧ x < n ∧ -n < y ∧ y < n ∧ 0 ≤ q ∧ q ≤ 3)) : isCmd n [x, y, q] = false := decide_eq_false h
theorem poseT {n x y q : Int} (h : 0 ≤ x ∧ x < n ∧ 0 ≤ y ∧ y < n ∧ 0 ≤ q ∧ q ≤ 3) : isPose n [x, y, q] = true := decide_eq_true h
end Sw
set_option Elab.async false
set_option linter.all false
set_option maxRecDepth 100000
set_option maxHeartbeats 4000000
/-! Lists of tuples of integers: stars and spots. -/
namespace Sw
open PySem PySem.Spec PyProof.Rows L2
abbrev Tups := List (Addr × List Int)
def refs (ks : Tups) : List V := ks.map fun p => V.ref p.1
def keys (ks : Tups) : List (List Int) := ks.map (·.2)
def TupsAt (K : PySem.W.Frag) (H : Hp) (ks : Tups) : Prop := ∀ p ∈ ks, SqT K H p.1 (p.2.map V.int)
theorem tups_up {K : PySem.W.Frag} {H H' : Hp} {ks : Tups} (s : Same H H') (h : TupsAt K H ks) : TupsAt K H' ks := fun p hp => sqT_up s (h p hp)
theorem refs_len (ks : Tups) : (refs ks).length = ks.length := List.length_map ..
theorem keys_len (ks : Tups) : (keys ks).length = ks.length := List.length_map ..
theorem dp_tups {K : PySem.W.Frag} {H : Hp} : ∀ {ks : Tups}, TupsAt K H ks → DpAll K H (refs ks) ((keys ks).map dTI)
  | [], _ => .nil
  | p :: r, h => .cons (dp_ti (h p List.mem_cons_self)) (dp_tups fun q hq => h q (List.mem_cons_of_mem _ hq))
/-- len of a set of such -/
def rLenT (P : Program) (w : World) : List V → Hp → VK → Prop := fun xs H Q => ∃ (b : Addr) (L : Tups), xs = [.ref b] ∧ H b = some (SetTO P w b L) ∧ ((keys L).Nodup → Q (.int L.length) H)
theorem cr_lenT {X : Cx} : CallR X (.builtin "len") (rLenT X.prog X.w) := by
  intro pins s σ H xs us Q I hv ⟨b, L, ex, hb, q⟩
  subst ex
  cases hv with
  | cons r1 r2 =>
    cases r2
    rename_i u1
    obtain rfl : u1 = Value.ref b := r1
    have z : ObjOk X.prog X.w H s.heap b (SetTO X.prog X.w b L) := I.hok b _ hb
    obtain ⟨⟨⟨es, ep, t, ⟨o, g1, g2, g3⟩, h1, h2, h3, _, _, h4, h5⟩⟩, _⟩ := z
    have hsz : es.size = L.length := by
      rw [← Array.length_toList, h1]
      exact List.length_map ..
    have hdm : t.dummies.size = 0 := by rw [h2.dm]; rfl
    have hps : t.place.size = L.length := by rw [h2.sz, List.length_map]
    have hf : t.fits es.size = true := by
      unfold PySem.SetTable.fits
      rw [Bool.and_eq_true]
      refine ⟨by rw [hps, hsz]; exact beq_self_eq_true _, decide_eq_true ?_⟩
      unfold PySem.SetTable.fill
      omega
    refine call_len_set g1 g2 g3 hf (by rw [hsz]; omega) ?_
    rw [hsz]
    exact ⟨.int L.length, H, (I.tok _).tok _, ⟨_, rfl⟩, q h3⟩
theorem len_le_of_sub {α : Type} [DecidableEq α] : ∀ {l m : List α}, l.Nodup → (∀ x ∈ l, x ∈ m) → l.length ≤ m.length
  | [], _, _, _ => Nat.zero_le _
  | x :: r, m, hn, hs => by
    have hn' := List.nodup_cons.mp hn
    have hx : x ∈ m := hs x List.mem_cons_self
    have := len_le_of_sub (l := r) (m := m.erase x) hn'.2 fun y hy => (List.mem_erase_of_ne (fun e => hn'.1 (by rw [← e]; exact hy))).mpr (hs y (List.mem_cons_of_mem _ hy))
    rw [List.length_erase_of_mem hx] at this
    have := List.length_pos_of_mem hx
    simp only [List.length_cons]
    omega
theorem shorter {α : Type} [DecidableEq α] : ∀ {l : List α}, ¬ l.Nodup → ∃ m : List α, m.length < l.length ∧ ∀ x ∈ l, x ∈ m
  | [], h => absurd List.nodup_nil h
  | x :: r, h => by
    by_cases hx : x ∈ r
    · exact ⟨r, by simp, fun y hy => by
        rcases List.mem_cons.mp hy with rfl | hy
        · exact hx
        · exact hy⟩
    · obtain ⟨m, h1, h2⟩ := shorter (l := r) fun hr => h (List.nodup_cons.mpr ⟨hx, hr⟩)
      exact ⟨x :: m, by simpa using h1, fun y hy => by
        rcases List.mem_cons.mp hy with rfl | hy
        · exact List.mem_cons_self
        · exact List.mem_cons_of_mem _ (h2 y hy)⟩
theorem set_len {ks L : Tups} (h1 : ∀ p ∈ L, p ∈ ks) (h2 : ∀ p ∈ ks, p.2 ∈ L.map (·.2)) (hn : (keys L).Nodup) : (L.length < ks.length) ↔ ¬ (keys ks).Nodup := by
  have s1 : ∀ x ∈ keys L, x ∈ keys ks := fun x hx => by
    obtain ⟨p, hp, rfl⟩ := List.mem_map.mp hx
    exact List.mem_map_of_mem (h1 p hp)
  have s2 : ∀ x ∈ keys ks, x ∈ keys L := fun x hx => by
    obtain ⟨p, hp, rfl⟩ := List.mem_map.mp hx
    exact h2 p hp
  constructor
  · intro hl hk
    have := len_le_of_sub hk s2
    rw [keys_len, keys_len] at this
    omega
  · intro hk
    obtain ⟨m, hm, hs⟩ := shorter hk
    have := len_le_of_sub hn fun x hx => hs x (s1 x hx)
    rw [keys_len] at this hm
    omega
theorem perm_map_inv {α β : Type} {f : α → β} {l m : List β} (h : l.Perm m) : ∀ {ks : List α}, m = ks.map f → ∃ ks' : List α, ks'.Perm ks ∧ l = ks'.map f := by
  induction h with
  | nil =>
    intro ks e
    refine ⟨[], ?_, rfl⟩
    rw [show ks = [] by simpa using e.symm]
  | cons x _ ih =>
    intro ks e
    cases ks with
    | nil => cases e
    | cons k r =>
      rw [List.map_cons] at e
      injection e with e1 e2
      obtain ⟨r', h1, h2⟩ := ih e2
      exact ⟨k :: r', .cons _ h1, by rw [e1, h2]; rfl⟩
  | swap x y _ =>
    intro ks e
    match ks, e with
    | a :: b :: r, e =>
      rw [List.map_cons, List.map_cons] at e
      injection e with e1 e2
      injection e2 with e2 e3
      exact ⟨b :: a :: r, .swap .., by rw [e1, e2, e3]; rfl⟩
  | trans _ _ ih1 ih2 =>
    intro ks e
    obtain ⟨k1, h1, e1⟩ := ih2 e
    obtain ⟨k2, h2, e2⟩ := ih1 e1
    exact ⟨k2, h2.trans h1, e2⟩
theorem code_inj {B : Int} : ∀ {a b : List Int}, a.length = b.length → TS.Bd B a → TS.Bd B b → TS.code B a = TS.code B b → a = b
  | [], [], _, _, _, _ => rfl
  | d :: r, e :: q, hl, ha, hb, hc => by
    have hl' : r.length = q.length := by simpa using hl
    by_cases h1 : d < e
    · have := TS.code_lt hl' ha.tail hb.tail h1
      omega
    by_cases h2 : e < d
    · have := TS.code_lt hl'.symm hb.tail ha.tail h2
      omega
    obtain rfl : d = e := by omega
    have z1 := mt (TS.code_same (B := B) (d := d) hl').mpr (by omega)
    have z2 := mt (TS.code_same (B := B) (d := d) hl'.symm).mpr (by omega)
    rw [code_inj hl' ha.tail hb.tail (by omega)]
/-- tuples in their order -/
def Asc (B : Int) (l : List (List Int)) : Prop := l.Pairwise fun a b => TS.code B a ≤ TS.code B b
def Fit (d : Nat) (B : Int) (l : List (List Int)) : Prop := ∀ a ∈ l, a.length = d ∧ TS.Bd B a
theorem asc_unique {d : Nat} {B : Int} {l m : List (List Int)} (hl : Asc B l) (hm : Asc B m) (hp : l.Perm m) (hf : Fit d B l) : l = m :=
  List.Perm.eq_of_pairwise (le := fun a b => TS.code B a ≤ TS.code B b) (fun a b ha hb h1 h2 => by
    obtain ⟨a1, a2⟩ := hf a ha
    obtain ⟨b1, b2⟩ := hf b (hp.mem_iff.mpr hb)
    exact code_inj (a1.trans b1.symm) a2 b2 (by omega)) hl hm hp
/-- sorted(l), l a list of tuples of d integers from 0 to below B -/
def rSortM (K : PySem.W.Frag) (d : Nat) (B : Int) : List V → Hp → VK → Prop := fun vs H Q => ∃ (b : Addr) (ks : Tups), vs = [.ref b] ∧ SqL K H b (refs ks) ∧ TupsAt K H ks ∧ ks.length < 64 ∧ Fit d B (keys ks) ∧
  ∀ (p : Addr) (ks' : Tups) (H' : Hp), Same H H' → H p = none → H' p = some (.lst (refs ks')) → ks'.Perm ks → Asc B (keys ks') → Q (.ref p) H'
theorem tupI_unique {X : Cx} {pins : List (Addr × Obj)} {σ : L2.St} {H : Hp} {s : Shared} (I : Inv X pins σ H s) {p : Addr} {a b : List Int} (h1 : SqT X.K H p (a.map V.int)) (h2 : SqT X.K H p (b.map V.int)) : a = b := by
  have e := I.tuple_inj h1 h2
  have inj : ∀ {a b : List Int}, a.map V.int = b.map V.int → a = b := by
    intro a
    induction a with
    | nil => intro b h; cases b with
      | nil => rfl
      | cons _ _ => cases h
    | cons x r ih =>
      intro b h
      cases b with
      | nil => cases h
      | cons y q =>
        rw [List.map_cons, List.map_cons] at h
        injection h with h1 h2
        rw [V.int.inj h1, ih h2]
  exact inj e
theorem cr_sortM {X : Cx} {d : Nat} {B : Int} (hd : 1 ≤ d) : CallR X (.builtin "sorted") (rSortM X.K d B) := by
  intro pins s σ H xs us Q I hv ⟨b, ks, ex, hb, ht, hl, hf, q⟩
  refine cr_sortT (d := d) (B := B) hd pins s σ H xs us Q I hv ⟨b, refs ks, ex, hb, by rw [refs_len]; exact hl, fun x hx => ?_, fun ys p hp hw np => ?_⟩
  · obtain ⟨k, hk, rfl⟩ := List.mem_map.mp hx
    obtain ⟨z1, z2⟩ := hf k.2 (List.mem_map_of_mem hk)
    exact ⟨k.2, ⟨k.1, rfl, ht k hk⟩, z1, z2⟩
  · obtain ⟨ks', h1, rfl⟩ := perm_map_inv (f := fun p : Addr × List Int => V.ref p.1) hp (ks := ks) rfl
    refine q p ks' _ (same_new np) np upd_same h1 ?_
    have hw' := List.pairwise_map.mp hw
    refine List.pairwise_map.mpr ?_
    have mem : ∀ k ∈ ks', TupI X.K H (V.ref k.1) k.2 := fun k hk => ⟨k.1, rfl, ht k (h1.mem_iff.mp hk)⟩
    exact hw'.imp_of_mem fun {x y} hx hy z => z _ _ (mem x hx) (mem y hy)
/-! what a sky may be -/
def isSky (n : Int) (kk : List (List Int)) (cam : List Int) : Bool := decide (4 ≤ n ∧ n ≤ 9) && kk.all (isStar n) && decide kk.Nodup && decide (kk.length ≤ 20) && isCam n cam
theorem star_fit {n : Int} {a : List Int} (h : isStar n a = true) (h9 : n ≤ 9) : a.length = 3 ∧ TS.Bd 10 a := by
  match a, h with
  | [x, y, b], h =>
    have z := of_decide_eq_true h
    refine ⟨rfl, fun m hm => ?_⟩
    simp only [List.mem_cons, List.not_mem_nil, or_false] at hm
    rcases hm with rfl | rfl | rfl <;> omega
theorem stars_fit {n : Int} {l : List (List Int)} (h : l.all (isStar n) = true) (h9 : n ≤ 9) : Fit 3 10 l := fun a ha => star_fit (List.all_eq_true.mp h a ha) h9
theorem sky_parts {n : Int} {kk : List (List Int)} {cam : List Int} (h : isSky n kk cam = true) : (4 ≤ n ∧ n ≤ 9) ∧ kk.all (isStar n) = true ∧ kk.Nodup ∧ kk.length ≤ 20 ∧ isCam n cam = true := by
  unfold isSky at h
  simp only [Bool.and_eq_true, decide_eq_true_eq] at h
  obtain ⟨⟨⟨⟨h1, h2⟩, h3⟩, h4⟩, h5⟩ := h
  exact ⟨h1, h2, h3, h4, h5⟩
theorem isSky_perm {n : Int} {kk mm : List (List Int)} {cam : List Int} (h : kk.Perm mm) : isSky n kk cam = isSky n mm cam := by
  unfold isSky
  rw [h.length_eq, show kk.all (isStar n) = mm.all (isStar n) from Bool.eq_iff_iff.mpr (by rw [List.all_eq_true, List.all_eq_true]; exact ⟨fun z x hx => z x (h.mem_iff.mpr hx), fun z x hx => z x (h.mem_iff.mp hx)⟩), show decide kk.Nodup = decide mm.Nodup from decide_eq_decide.mpr h.nodup_iff]
/-- the checks of a sky -/
def spCheck (K : PySem.W.Frag) (D : Addr) : Sp := fun vs H Q E => ∃ (n : Int) (l c : Addr) (ks : Tups) (cam : List Int), vs = [.int n, .ref l, .ref c] ∧ SqL K H l (refs ks) ∧ TupsAt K H ks ∧ SqT K H c (cam.map V.int) ∧ ks.length < 64 ∧
  (isSky n (keys ks) cam = true → ∀ H', Same H H' → Q .non H') ∧ (isSky n (keys ks) cam = false → ∀ H', Same H H' → E (.ref D) none H')
def SkyS (K : PySem.W.Frag) (C : Addr) (H : Hp) (p : Addr) (n : Int) (ks : Tups) (cam : List Int) : Prop := SkyAt K C H p n (refs ks) cam ∧ TupsAt K H ks
theorem skyS_up {K : PySem.W.Frag} {C : Addr} {H H' : Hp} {p : Addr} {n : Int} {ks : Tups} {cam : List Int} (s : Same H H') (h : SkyS K C H p n ks cam) : SkyS K C H' p n ks cam := ⟨sky_up s h.1, tups_up s h.2⟩
def spInit (K : PySem.W.Frag) (C D : Addr) : Sp := fun vs H Q E => ∃ (x dx : Addr) (n : Int) (l c : Addr) (ks : Tups) (cam : List Int), vs = [.ref x, .int n, .ref l, .ref c] ∧ H x = some (.ins C dx []) ∧ SqL K H l (refs ks) ∧ TupsAt K H ks ∧ SqT K H c (cam.map V.int) ∧ ks.length < 64 ∧
  (isSky n (keys ks) cam = true → ∀ (H' : Hp) (ks' : Tups), SkyS K C H' x n ks' cam → ks'.Perm ks → Asc 10 (keys ks') → (∀ b o, H b = some o → b ≠ x → H' b = some o) → Q .non H') ∧
  (isSky n (keys ks) cam = false → ∀ H', Same H H' → E (.ref D) none H')
end Sw
namespace L2
open PySem PySem.Spec PyProof.Rows
def tTryOnly (K : PySem.W.Frag) (c : Value) (ts : Addr → Value → Option Addr → TS) (Wout : WX) (tb : WX → TS) : TS := fun D σ H => tb (wOnly K c ts Wout D) D σ H
theorem ps_try_only1 {X : Cx} {x : Str} {c : Value} {body suite : List Stmt} {b₀ : Stmt} {np pos pos' : Pos} {tb : WX → TS} {ts : Addr → Value → Option Addr → TS} {Wout : WX} (hs : X.stack = X.env :: X.outer) (hf : X.env.frame = some X.env.locals) (hc : Names X x c) (tk : Takes X Wout)
    (hb : ∀ (W : WX) (pn : List (Addr × Obj)) (xe : Value → Shared → Prop), Takes (X.tr pn xe) W → PassesOwn (model X.prog X.w) X.A X.env xe → PSs (X.tr pn xe) body (tb W))
    (hsu : ∀ (a : Addr) (oe : Obj) (cls : Value) (d : Option Addr) (pn : List (Addr × Obj)), Zc cls d oe → (∃ vs, oe.data = .fields vs) → PSs (X.suite a ((a, oe) :: pn)) (b₀ :: suite) (ts a cls d)) :
    PS X (.Try body [.ExceptHandler (some (.Name x np)) none (b₀ :: suite) pos'] [] [] pos) (tTryOnly X.K c ts Wout tb) := ps_try_only hs hf hc tk hb hsu
end L2
namespace Sw
open PySem PySem.Spec PyProof.Rows L2
theorem iteD2 {c A B : Prop} [Decidable c] (hc : c) (h : A) : if decide c = true then A else B := by
  rw [if_pos (decide_eq_true hc)]
  exact h
theorem iteD3 {c A B : Prop} [Decidable c] (hc : ¬ c) (h : B) : if decide c = true then A else B := by
  rw [if_neg (by rw [decide_eq_false hc]; decide)]
  exact h
end Sw
namespace Sw
open PySem PySem.Spec PyProof.Rows L2
theorem pickI {zs : List Int} {j : Int} {P : Int → Prop} (h : ∀ z ∈ zs, P z) (h0 : 0 ≤ j) (h1 : j < (zs.length : Int)) : ∃ z, atI (zs.map V.int) j = some (.int z) ∧ P z := by
  refine ⟨_, nthI h0 h1, ?_⟩
  unfold numI
  rw [List.getD_eq_getElem?_getD, List.getElem?_eq_getElem (by omega)]
  exact h _ (List.getElem_mem _)
/-- the drawn parts of a sky -/
def spParts (K : PySem.W.Frag) : Sp := fun vs H Q _ => ∃ (p1 : Addr) (ns : List Int) (at' most : Int), vs = [.ref p1, .int at', .int most] ∧ SqL K H p1 (ns.map V.int) ∧ (∀ n ∈ ns, Num n) ∧ 0 ≤ at' ∧ 0 ≤ most ∧ most ≤ 20 ∧ at' + 6 + 3 * most ≤ (ns.length : Int) ∧
  ∀ (H' : Hp) (t l c : Addr) (n : Int) (ks : Tups) (cam : List Int), Same H H' → SqT K H' t [.int n, .ref l, .ref c] → H l = none → H' l = some (.lst (refs ks)) → TupsAt K H' ks → SqT K H' c (cam.map V.int) →
    isSky n (keys ks) cam = true → (ks.length : Int) ≤ most → Asc 10 (keys ks) → Q (.ref t) H'
end Sw
namespace Sw
open PySem PySem.Spec PyProof.Rows L2
theorem min2I (a b : Int) : nuMin2 (.int a) (.int b) = some (.int (if b < a then b else a)) := by
  show some (if decide (b < a) = true then V.int b else V.int a) = _
  by_cases h : b < a
  · rw [decide_eq_true h, if_pos h]
    rfl
  · rw [decide_eq_false h, if_neg h]
    rfl
def rMin3I : List V → Hp → VK → Prop := fun xs H Q => ∃ a b c : Int, xs = [.int a, .int b, .int c] ∧ ∀ m : Int, m ≤ a → m ≤ b → m ≤ c → (m = a ∨ m = b ∨ m = c) → Q (.int m) H
theorem call_min3I {X : Cx} (hc : X.calm = true) : CallR X (.builtin "min") rMin3I := fun pins s σ H xs us Q I hv ⟨a, b, c, e, q⟩ => by
  refine call_min3Nu hc pins s σ H xs us Q I hv ⟨.int a, .int b, .int c, .int (if c < (if b < a then b else a) then c else (if b < a then b else a)), e, ?_, q _ ?_ ?_ ?_ ?_⟩
  · show (nuMin2 (.int a) (.int b)).bind (fun m => nuMin2 m (.int c)) = _
    rw [min2I]
    exact min2I _ _
  all_goals (repeat' split) <;> omega
end Sw
namespace Sw
open PySem PySem.Spec PyProof.Rows L2
theorem eqvAll_ints : ∀ a b : List Int, PyData.eqvAll (a.map .int) (b.map .int) = decide (a = b)
  | [], [] => rfl
  | [], _ :: _ => rfl
  | _ :: _, [] => rfl
  | x :: r, y :: q => by
    show ((x == y) && PyData.eqvAll (r.map .int) (q.map .int)) = _
    rw [eqvAll_ints r q]
    by_cases h : x = y <;> by_cases h2 : r = q <;> simp [h, h2]
theorem eqv_ti (a b : List Int) : PyData.eqv (dTI a) (dTI b) = decide (a = b) := eqvAll_ints a b
theorem any_tups (kk : List (List Int)) (k : List Int) : ((kk.map dTI).any fun z => PyData.eqv z (dTI k)) = decide (k ∈ kk) := by
  induction kk with
  | nil => rfl
  | cons q r ih =>
    rw [List.map_cons, List.any_cons, ih, eqv_ti]
    by_cases h : q = k
    · subst h
      simp
    · rw [decide_eq_false h, Bool.false_or]
      by_cases hm : k ∈ r
      · rw [decide_eq_true hm, decide_eq_true (List.mem_cons_of_mem _ hm)]
      · rw [decide_eq_false hm, decide_eq_false (fun z => (List.mem_cons.mp z).elim (fun e => h e.symm) hm)]
theorem lay_tups (kk : List (List Int)) : Lay 2 (.list (kk.map dTI)) := lay_list fun d hd => by
  obtain ⟨p, _, rfl⟩ := List.mem_map.mp hd
  exact lay_ti _
theorem refs_push (ks : Tups) (p : Addr × List Int) : refs ks ++ [V.ref p.1] = refs (ks ++ [p]) := by
  unfold refs
  rw [List.map_append]
  rfl
theorem keys_push (ks : Tups) (p : Addr × List Int) : keys (ks ++ [p]) = keys ks ++ [p.2] := by
  unfold keys
  rw [List.map_append]
  rfl
theorem tups_put {K : PySem.W.Frag} {H : Hp} {l : Addr} {xs : List V} {o : HO} {ks : Tups} (hl : H l = some (.lst xs)) (h : TupsAt K H ks) : TupsAt K (upd H l o) ks := fun p hp => sqT_lst hl (h p hp)
theorem nodup_push {α : Type} {l : List α} {x : α} (h : l.Nodup) (hx : x ∉ l) : (l ++ [x]).Nodup := by
  rw [List.nodup_append]
  refine ⟨h, by simp, fun a ha b hb => ?_⟩
  rw [List.mem_singleton.mp hb]
  intro e
  exact hx (e ▸ ha)
end Sw
namespace Sw
open PySem PySem.Spec PyProof.Rows L2
def spOfStars (K : PySem.W.Frag) (C : Addr) : Sp := fun vs H Q _ => ∃ (p : Addr) (n : Int) (st : List V) (cam : List Int), vs = [.ref p] ∧ SkyAt K C H p n st cam ∧ ∀ ts, SqT K H ts st → Q (.ref ts) H
def spOfCamera (K : PySem.W.Frag) (C : Addr) : Sp := fun vs H Q _ => ∃ (p : Addr) (n : Int) (st : List V) (cam : List Int), vs = [.ref p] ∧ SkyAt K C H p n st cam ∧ ∀ tc, SqT K H tc (cam.map V.int) → Q (.ref tc) H
def spOfPart (K : PySem.W.Frag) (C : Addr) (i : Nat) : Sp := fun vs H Q _ => ∃ (p : Addr) (n : Int) (st : List V) (cam : List Int) (z : Int), vs = [.ref p] ∧ SkyAt K C H p n st cam ∧ cam[i]? = some z ∧ Q (.int z) H
theorem cam_form {n : Int} {cam : List Int} (h : isCam n cam = true) : ∃ r b g l, cam = [r, b, g, l] ∧ 0 ≤ r ∧ r ≤ 4 ∧ 0 ≤ b ∧ b ≤ 2 ∧ 0 ≤ g ∧ g ≤ 2 ∧ 1 ≤ l ∧ l ≤ 9 ∧ b ≤ r ∧ 2 * (r + b) + 1 ≤ n := by
  match cam, h with
  | [r, b, g, l], h => exact ⟨r, b, g, l, rfl, of_decide_eq_true h⟩
/-- a sky is tried: none, or what it tells -/
def skyD (n : Int) (kk : List (List Int)) (cam : List Int) : PyData := .tuple [.int n, .tuple (kk.map dTI), dTI cam, dTI cam]
def spToldS (K : PySem.W.Frag) : Sp := fun vs H Q _ => ∃ (n : Int) (l c : Addr) (ks : Tups) (cam : List Int), vs = [.int n, .ref l, .ref c] ∧ SqL K H l (refs ks) ∧ TupsAt K H ks ∧ SqT K H c (cam.map V.int) ∧ ks.length < 64 ∧
  (isSky n (keys ks) cam = false → ∀ H', Same H H' → Q .non H') ∧
  (isSky n (keys ks) cam = true → ∀ (H' : Hp) (t : Addr) (ks' : Tups), Same H H' → ks'.Perm ks → Asc 10 (keys ks') → Dp K H' (.ref t) (skyD n (keys ks') cam) → Q (.ref t) H')
def spIsSky (K : PySem.W.Frag) : Sp := fun vs H Q _ => ∃ (n : Int) (l c : Addr) (ks : Tups) (cam : List Int), vs = [.int n, .ref l, .ref c] ∧ SqL K H l (refs ks) ∧ TupsAt K H ks ∧ SqT K H c (cam.map V.int) ∧ ks.length < 64 ∧
  ∀ H', Same H H' → Q (.bl (isSky n (keys ks) cam)) H'
def spBroken (K : PySem.W.Frag) : Sp := fun vs H Q _ => ∃ (n : Int) (l c p1 : Addr) (at' : Int) (ks : Tups) (cam ns : List Int), vs = [.int n, .ref l, .ref c, .ref p1, .int at'] ∧ H l = some (.lst (refs ks)) ∧ TupsAt K H ks ∧ SqT K H c (cam.map V.int) ∧ ks.length ≤ 6 ∧ isCam n cam = true ∧
  SqL K H p1 (ns.map V.int) ∧ (∀ z ∈ ns, Num z) ∧ 0 ≤ at' ∧ at' + 1 < (ns.length : Int) ∧
  ∀ (H' : Hp) (t l' c' : Addr) (n' : Int) (ks' : Tups) (cam' : List Int), Same H H' → SqT K H' t [.int n', .ref l', .ref c'] → SqL K H' l' (refs ks') → TupsAt K H' ks' → SqT K H' c' (cam'.map V.int) → ks'.length < 64 → Q (.ref t) H'
theorem dp_tup_tups {K : PySem.W.Frag} {H : Hp} {t : Addr} {ks : Tups} (h : SqT K H t (refs ks)) (ht : TupsAt K H ks) : Dp K H (.ref t) (.tuple ((keys ks).map dTI)) := dp_t h (dp_tups ht)
end Sw
namespace Sw
open PySem PySem.Spec PyProof.Rows L2
def rCatAM (K : PySem.W.Frag) : R2 := fun x y H Q => ∃ a b xs ys, x = .ref a ∧ y = .ref b ∧ SqT K H a xs ∧ SqT K H b ys ∧ xs.length + ys.length ≤ sizeLine ∧ nTup K H (xs ++ ys) Q
theorem op_catAM {X : Cx} : OpR X (binaryOp .Add) (rCatAM X.K) := fun pins s σ H x y v u Q I rx ry ⟨c, b, xs, ys, e1, e2, h1, h2, h5, q⟩ =>
  op_catA pins s σ H x y v u Q I rx ry ⟨c, b, xs, ys, e1, e2, h1, h2, h5, fun z => q b H (Same.refl _) (by rw [z]; exact h2), fun _ z => q c H (Same.refl _) (by rw [z, List.append_nil]; exact h1), fun _ _ p np => q.at p np⟩
end Sw
namespace Sw
open PySem PySem.Spec PyProof.Rows L2
def rSlAM (K : PySem.W.Frag) : V → Option Int → Option Int → Hp → VK → Prop := fun x lo hi H Q => ∃ a xs, x = .ref a ∧ SqT K H a xs ∧ nTup K H (cutV xs lo hi) Q
theorem sl_tupAM {X : Cx} : SlR X (rSlAM X.K) := fun pins s σ H x v vl vu lo hi sl Q I rx hs pl pu ⟨b, xs, e, h1, q⟩ =>
  sl_tupA pins s σ H x v vl vu lo hi sl Q I rx hs pl pu ⟨b, xs, e, h1, fun z => q b H (Same.refl _) (by
    unfold cutV
    rw [z.1, z.2, Nat.sub_zero, List.drop_zero, List.take_length]
    exact h1), fun _ p np => q.at p np⟩
theorem cut_ints (zs : List Int) (lo hi : Option Int) : ∃ ys : List Int, cutV (zs.map V.int) lo hi = ys.map V.int ∧ ys.length ≤ zs.length := by
  unfold cutV
  rw [← List.map_drop, ← List.map_take]
  refine ⟨_, rfl, ?_⟩
  rw [List.length_take, List.length_drop]
  omega
theorem sizeL {n : Nat} (h : n ≤ 200000) : n ≤ sizeLine := Nat.le_of_lt (sizeN h)
theorem ints_app (a b : List Int) : a.map V.int ++ b.map V.int = (a ++ b).map V.int := List.map_append.symm
theorem cut_refs (ks : Tups) (lo hi : Option Int) : ∃ ks2 : Tups, cutV (refs ks) lo hi = refs ks2 ∧ (∀ p ∈ ks2, p ∈ ks) ∧ ks2.length ≤ ks.length := by
  unfold cutV refs
  rw [← List.map_drop, ← List.map_take]
  refine ⟨_, rfl, fun p hp => List.mem_of_mem_drop (List.mem_of_mem_take hp), ?_⟩
  rw [List.length_take, List.length_drop]
  omega
theorem refs_app (a b : Tups) : refs a ++ refs b = refs (a ++ b) := List.map_append.symm
theorem tups_app {K : PySem.W.Frag} {H : Hp} {a b : Tups} (h1 : TupsAt K H a) (h2 : TupsAt K H b) : TupsAt K H (a ++ b) := fun p hp => (List.mem_append.mp hp).elim (h1 p) (h2 p)
theorem tups_one {K : PySem.W.Frag} {H : Hp} {p : Addr} {k : List Int} (h : SqT K H p (k.map V.int)) : TupsAt K H [(p, k)] := fun q hq => by
  rw [List.mem_singleton.mp hq]
  exact h
end Sw
namespace Sw
open PySem PySem.Spec PyProof.Rows L2
theorem tyx_tup {K : PySem.W.Frag} {H : Hp} {p : Addr} {xs : List V} (h : SqT K H p xs) : TyX K H (.ref p) (.type "tuple") := by
  rcases h with (h | ⟨o, h⟩) | ⟨o, its, n, h1, h2, _⟩
  · exact .base (.tup h)
  · exact .fTuple h
  · exact .kTuple h1 h2
end Sw
namespace Sw
open PySem PySem.Spec PyProof.Rows L2
theorem lay_tupt (kk : List (List Int)) : Lay 2 (.tuple (kk.map dTI)) := lay_tuple fun d hd => by
  obtain ⟨p, _, rfl⟩ := List.mem_map.mp hd
  exact lay_ti _
theorem lay_sky (n : Int) (kk : List (List Int)) (cam : List Int) : Lay 3 (skyD n kk cam) := lay_tuple fun d hd => by
  simp only [List.mem_cons, List.not_mem_nil, or_false] at hd
  rcases hd with rfl | rfl | rfl | rfl
  · exact lay_int _ _
  · exact lay_tupt kk
  · exact lay_up (lay_ti _) (by decide)
  · exact lay_up (lay_ti _) (by decide)
end Sw
namespace Sw
open PySem PySem.Spec PyProof.Rows L2
/-! ### what is seen from where -/
def keyAt (kk : List (List Int)) (j : Int) : Option (List Int) := if 0 ≤ j then kk[j.toNat]? else none
def spStarAt (K : PySem.W.Frag) (C D : Addr) : Sp := fun vs H Q E => ∃ (p : Addr) (n : Int) (ks : Tups) (cam : List Int) (j : Int), vs = [.ref p, .int j] ∧ SkyS K C H p n ks cam ∧ ks.length ≤ 20 ∧
  (∀ q, 0 ≤ j → ks[j.toNat]? = some q → Q (.ref q.1) H) ∧ ((j < 0 ∨ (ks.length : Int) ≤ j) → ∀ (d : Addr) (H' : Hp), Same H H' → H' d = some (.xd [("number", .int j)]) → E (.ref D) (some d) H')
/-- the offset of a star at an attitude, none if it is not in reach -/
def offI (n : Int) : List Int → List Int → List Int → Option (Int × Int)
  | [r, b, _, _], [x, y, q], [sx, sy, _] =>
    let u := turnX (4 - q) (near n (sx - x)) (near n (sy - y))
    let v := turnY (4 - q) (near n (sx - x)) (near n (sy - y))
    if iabs u > r + b ∨ iabs v > r + b then none else some (u, v)
  | _, _, _ => none
def spOffOf (K : PySem.W.Frag) (C : Addr) : Sp := fun vs H Q _ => ∃ (p : Addr) (n : Int) (st : List V) (r b g l x y q sx sy bb : Int) (pa ps : Addr), vs = [.ref p, .ref pa, .ref ps] ∧ SkyAt K C H p n st [r, b, g, l] ∧ 0 < n ∧ SqT K H pa [.int x, .int y, .int q] ∧ SqT K H ps [.int sx, .int sy, .int bb] ∧
  (offI n [r, b, g, l] [x, y, q] [sx, sy, bb] = none → ∀ H', Same H H' → Q .non H') ∧
  (∀ u v, offI n [r, b, g, l] [x, y, q] [sx, sy, bb] = some (u, v) → ∀ (H' : Hp) (t : Addr), Same H H' → SqT K H' t [.int u, .int v] → Q (.ref t) H')
end Sw
namespace Sw
open PySem PySem.Spec PyProof.Rows L2
/-- offset of a star by its number, with its errors -/
def spOffset (K : PySem.W.Frag) (C D F : Addr) : Sp := fun vs H Q E => ∃ (p pa : Addr) (n : Int) (ks : Tups) (cam at_ : List Int) (j : Int), vs = [.ref p, .ref pa, .int j] ∧ SkyS K C H p n ks cam ∧ isSky n (keys ks) cam = true ∧ SqT K H pa (at_.map V.int) ∧
  (isPose n at_ = false → ∀ (d : Addr) (H' : Hp), Same H H' → H' d = some (.xd [("attitude", .ref pa)]) → E (.ref D) (some d) H') ∧
  (isPose n at_ = true → (j < 0 ∨ (ks.length : Int) ≤ j) → ∀ (d : Addr) (H' : Hp), Same H H' → H' d = some (.xd [("number", .int j)]) → E (.ref F) (some d) H') ∧
  (isPose n at_ = true → ∀ k : List Int, 0 ≤ j → (keys ks)[j.toNat]? = some k →
    (offI n cam at_ k = none → ∀ H', Same H H' → Q .non H') ∧ (∀ u v, offI n cam at_ k = some (u, v) → ∀ (H' : Hp) (t : Addr), Same H H' → SqT K H' t [.int u, .int v] → Q (.ref t) H'))
theorem star_form {n : Int} {k : List Int} (h : isStar n k = true) : ∃ x y b, k = [x, y, b] ∧ 0 ≤ x ∧ x < n ∧ 0 ≤ y ∧ y < n ∧ 1 ≤ b ∧ b ≤ 9 := by
  match k, h with
  | [x, y, b], h => exact ⟨x, y, b, rfl, of_decide_eq_true h⟩
end Sw
set_option Elab.async false
set_option linter.all false
set_option maxRecDepth 100000
set_option maxHeartbeats 4000000
/-! enumerate over a tuple. -/
namespace PySem
namespace SwN
theorem stop_raise {α : Type} {M : Model} {A : Around} {E : Value → Shared → Prop} {s : Shared} {Q : α → Shared → Prop} (hA : A.handled = none)
   (q : ∀ (h' : Heap) (e : Addr), (∀ b o, s.heap.get? b = some o → h'.get? b = some o) → (∃ o, h'.get? e = some o ∧ o.cls = Value.type "StopIteration") → E (.ref e) { s with heap := h' }) :
   wpAny M A (do let e ← newExc (.type "StopIteration") []; raiseNew e : Sem α) Q E s := by
  refine wpAny_bind (wpAny_bind ?_)
  refine wpAny_newTuple ?_ (Nat.zero_le _)
  refine wpAny_bind ?_
  show wpAny _ _ (pure _) _ _ _
  refine wpAny_pure ?_
  refine wpAny_newObj_type ?_ ?_
  · refine wpAny_raiseNew_none hA (q _ _ (fun b o e => Heap.get?_push_of_some _ (Heap.get?_push_of_some _ e)) ⟨_, Heap.get?_push_size _ rfl, rfl⟩)
  · have e : ownMembersOf (Value.type "StopIteration") [] = #[] := rfl
    unfold sizeOk
    rw [e]
    show 6 ≤ sizeLine + 2
    rw [sizeLine_eq]
    decide
variable {prog : Program} {w : World} {A : Around} {E : Value → Shared → Prop} {s : Shared} {it t : Addr} {i : Nat} {items : Array Value} {x : Value}
theorem map_fields {o : Obj} {vs : Array Value} (h : o.data = Data.fields vs) (g : Array Value → Array Value) : (o.mapFields g).isFreed = false ∧ (o.mapFields g).cls = o.cls ∧ (o.mapFields g).data = Data.fields (g vs) := by
  obtain ⟨c, d, dt, sl⟩ := o
  have h' : dt = Data.fields vs := h
  subst h'
  exact ⟨rfl, rfl, rfl⟩
theorem tup_item {Q : PySem.Fin → Shared → Prop} (hi : s.heap.IsTupleIter it t i) (ht : s.heap.IsTuple t items) (hx : items[i]? = some x)
   (q : ∀ h' : Heap, h'.IsTupleIter it t (i + 1) → Heap.SameBut it s.heap h' → Q (.done (.ret x)) { s with heap := h' }) : wpAny (model prog w) A (Builtin.«tuple_iterator.__next__» { pos := [Value.ref it] }) Q E s := by
  obtain ⟨o, h1, h2, h3⟩ := hi
  obtain ⟨ot, g1, g2, n, g3⟩ := ht
  refine wpAny_bind ?_
  show wpAny _ _ (pure (Value.ref it, [])) _ _ _
  refine wpAny_pure ?_
  refine wpAny_bind (wpAny_field h1 h3 rfl ?_)
  show wpAny _ _ (if (Value.ref t == Value.none) = true then _ else _) _ _ _
  rw [if_neg (show ¬ ((Value.ref t == Value.none) = true) from by simp)]
  refine wpAny_bind (wpAny_field h1 h3 rfl ?_)
  refine wpAny_bind (wpAny_seqItems g1 g3 ?_)
  show wpAny _ _ (match items[(i : Int).toNat]? with | some x => _ | none => _) _ _ _
  rw [Int.toNat_natCast, hx]
  refine wpAny_bind (wpAny_setField h1 h3 (by show 1 < 2; omega) ?_)
  refine wpAny_pure ?_
  have m := map_fields h3 fun z => z.setIfInBounds 1 (rawInt (i + 1))
  exact q _ ⟨_, Heap.get?_update_self _ h1 m.1, m.2.1.trans h2, m.2.2⟩ ⟨Heap.size_update _ _ _, fun b hb => Heap.get?_update_ne _ _ _ _ hb⟩
theorem tup_end {Q : PySem.Fin → Shared → Prop} (hA : A.handled = none) (hi : s.heap.IsTupleIter it t i) (ht : s.heap.IsTuple t items) (hx : items[i]? = none)
   (q : ∀ (h' : Heap) (e : Addr), Heap.ExtBut it s.heap h' → (∃ o, h'.get? e = some o ∧ o.cls = Value.type "StopIteration") → E (.ref e) { s with heap := h' }) : wpAny (model prog w) A (Builtin.«tuple_iterator.__next__» { pos := [Value.ref it] }) Q E s := by
  obtain ⟨o, h1, h2, h3⟩ := hi
  obtain ⟨ot, g1, g2, n, g3⟩ := ht
  refine wpAny_bind ?_
  show wpAny _ _ (pure (Value.ref it, [])) _ _ _
  refine wpAny_pure ?_
  refine wpAny_bind (wpAny_field h1 h3 rfl ?_)
  show wpAny _ _ (if (Value.ref t == Value.none) = true then _ else _) _ _ _
  rw [if_neg (show ¬ ((Value.ref t == Value.none) = true) from by simp)]
  refine wpAny_bind (wpAny_field h1 h3 rfl ?_)
  refine wpAny_bind (wpAny_seqItems g1 g3 ?_)
  show wpAny _ _ (match items[(i : Int).toNat]? with | some x => _ | none => _) _ _ _
  rw [Int.toNat_natCast, hx]
  refine wpAny_bind (wpAny_rule ?_)
  refine wpAny_bind (wpAny_setField h1 h3 (by show 0 < 2; omega) ?_)
  refine stop_raise hA fun h' e k ne => q h' e (fun b o hb e' => k b o ?_) ne
  exact (Heap.get?_update_ne _ _ _ _ hb).trans e'
theorem next_item {Q : Value → Shared → Prop} (hi : s.heap.IsTupleIter it t i) (ht : s.heap.IsTuple t items) (hx : items[i]? = some x)
    (q : ∀ h' : Heap, h'.IsTupleIter it t (i + 1) → Heap.SameBut it s.heap h' → Q x { s with heap := h' }) : wpAny (model prog w) A (Builtin.SmallTypes.nextOf (.ref it)) Q E s := by
  have hT : s.TypeIs (.ref it) "tuple_iterator" := by
    obtain ⟨o, h1, h2, _⟩ := hi
    exact ⟨o, h1, h2⟩
  refine wpAny_bind (wpAny_callSpecial?_slotG hT PyProof.Rows.slot_tupleiter_next.toG ?_)
  refine call_meets (S := fun A R s => s.heap.IsTupleIter it t i ∧ s.heap.IsTuple t items ∧ ∀ h' : Heap, h'.IsTupleIter it t (i + 1) → Heap.SameBut it s.heap h' → R (.ok (.ret x)) { s with heap := h' })
    PyProof.Rows.slot_tupleiter_next hT PyProof.Rows.entry_tupleiter_next (PyProof.Rows.args_tupleiter_next _) ?_ ⟨hi, ht, fun h' a b => ?_⟩
  · intro prog w A R s ⟨a, b, c⟩
    exact tup_item a b hx c
  · exact wpAny_pure (q h' a b)
theorem next_end {Q : Value → Shared → Prop} (hA : A.handled = none) (hi : s.heap.IsTupleIter it t i) (ht : s.heap.IsTuple t items) (hx : items[i]? = none)
    (q : ∀ (h' : Heap) (e : Addr), Heap.ExtBut it s.heap h' → (∃ o, h'.get? e = some o ∧ o.cls = Value.type "StopIteration") → E (.ref e) { s with heap := h' }) : wpAny (model prog w) A (Builtin.SmallTypes.nextOf (.ref it)) Q E s := by
  have hT : s.TypeIs (.ref it) "tuple_iterator" := by
    obtain ⟨o, h1, h2, _⟩ := hi
    exact ⟨o, h1, h2⟩
  refine wpAny_bind (wpAny_callSpecial?_slotG hT PyProof.Rows.slot_tupleiter_next.toG ?_)
  refine call_meets (S := fun A R s => A.handled = none ∧ s.heap.IsTupleIter it t i ∧ s.heap.IsTuple t items ∧ ∀ (h' : Heap) (e : Addr), Heap.ExtBut it s.heap h' → (∃ o, h'.get? e = some o ∧ o.cls = Value.type "StopIteration") → R (.error (.ref e)) { s with heap := h' })
    PyProof.Rows.slot_tupleiter_next hT PyProof.Rows.entry_tupleiter_next (PyProof.Rows.args_tupleiter_next _) ?_ ⟨hA, hi, ht, fun h' e a b => ?_⟩
  · intro prog w A R s ⟨hA, a, b, c⟩
    exact tup_end hA a b hx c
  · exact q h' e a b
theorem draws_tuple (hA : A.handled = none) (hne : t ≠ it) (items : Array Value) : Draws prog w A it [it, t] items.size (fun i v => items[i]? = some v) fun i h => h.IsTupleIter it t i ∧ h.IsTuple t items where
  live := fun i h ⟨⟨o, h1, _⟩, _⟩ => ⟨o, h1⟩
  frame := fun i h h' ⟨⟨o, h1, h2⟩, ot, g1, g2⟩ k => ⟨⟨o, k it (by simp) o h1, h2⟩, ot, k t (by simp) ot g1, g2⟩
  item := fun i s Q E hi ⟨a, b⟩ q => next_item a b (Array.getElem?_eq_getElem hi) fun h' c d => q _ h' _ (Array.getElem?_eq_getElem hi) ⟨c, by
    obtain ⟨ot, g1, g2⟩ := b
    exact ⟨ot, (d.2 t hne).trans g1, g2⟩⟩ d
  done := fun s Q E ⟨a, b⟩ q => next_end hA a b (Array.getElem?_eq_none (Nat.le_refl _)) q
theorem new_cls (a : Value) : Builtin.SmallTypes.newClass "enumerate" { pos := [Value.type "enumerate", a] } = pure (Value.type "enumerate", [a]) := by
  unfold Builtin.SmallTypes.newClass
  simp only [sub_enumerate]
  rfl
theorem bool_app {α : Type} {M : Model} {A : Around} {E : Value → Shared → Prop} {s : Shared} {Q : α → Shared → Prop} {F : Bool → Sem α} (h : ∀ b, wpAny M A (F b) Q E s) (b : Bool) : wpAny M A (F b) Q E s := h b
theorem en {prog : Program} {w : World} {A : Around} {E : Value → Shared → Prop} {s : Shared} {t : Addr} {items : Array Value} {Q : PySem.Fin → Shared → Prop} (ht : s.heap.IsTuple t items)
   (q : Q (.done (.ret (.ref (s.heap.push { cls := Value.type "tuple_iterator", data := Data.fields #[Value.ref t, Value.int 0 0] }).objs.size))) { s with heap := (s.heap.push { cls := Value.type "tuple_iterator", data := Data.fields #[Value.ref t, Value.int 0 0] }).push { cls := Value.type "enumerate", data := Data.fields #[Value.none, Value.bool false, Value.ref s.heap.objs.size, rawInt 0, Value.none, Value.none] } }) :
   wpAny (model prog w) A (Builtin.«enumerate.__new__» { pos := [Value.type "enumerate", Value.ref t] }) Q E s := by
  refine wpAny_bind ?_
  rw [new_cls]
  refine wpAny_pure ?_
  show wpAny _ _ (ite ((Value.type "enumerate" == Value.type "enumerate") = true) (Bind.bind (Builtin.SmallTypes.calledThroughType (Value.type "enumerate")) _) _) _ _ _
  rw [if_pos (by decide)]
  refine wpAny_bind ?_
  refine wpAny_bind (wpAny_stack_any fun st => wpAny_pure ?_)
  have fin : wpAny (model prog w) A (do
      let z ← pyIter (Value.ref t)
      let r ← Builtin.SmallTypes.newRecord (Value.type "enumerate") (Builtin.SmallTypes.ownedTupleFields ++ [z, rawInt 0, Value.none, Value.none])
      ret r) Q E s := by
    refine wpAny_bind (wpAny_pyIter_tuple ht ?_)
    refine wpAny_bind ?_
    show wpAny _ _ (newObj (Value.type "enumerate") (Data.fields #[Value.none, Value.bool false, Value.ref s.heap.objs.size, rawInt 0, Value.none, Value.none])) _ _ _
    refine wpAny_newObj_type ?_ ?_
    · exact wpAny_pure q
    · show 6 ≤ sizeLine + 2
      rw [sizeLine_eq]
      decide
  show wpAny _ _ (ite _ (Bind.bind _ _) (Bind.bind _ _)) _ _ _
  have leaf : ∀ {y : Sem (Value × Option Value)} {k : Value × Option Value → Sem PySem.Fin}, y = pure (Value.ref t, none) → wpAny (model prog w) A (k (Value.ref t, none)) Q E s → wpAny (model prog w) A (y >>= k) Q E s := fun e h => by
    rw [e]
    exact wpAny_bind (wpAny_pure h)
  split <;> split <;> exact leaf rfl fin
theorem call_enum {prog : Program} {w : World} {A : Around} {E : Value → Shared → Prop} {s : Shared} {t : Addr} {items : Array Value} {Q : Value → Shared → Prop} (ht : s.heap.IsTuple t items)
    (q : ∀ h' : Heap, IsEnum h' (s.heap.objs.size + 1) s.heap.objs.size 0 Value.none → h'.IsTupleIter s.heap.objs.size t 0 → h'.objs.size = s.heap.objs.size + 2 → (∀ b o, s.heap.get? b = some o → h'.get? b = some o) → Q (.ref (s.heap.objs.size + 1)) { s with heap := h' }) :
    wpAny (model prog w) A (call (.type "enumerate") [.ref t]) Q E s := by
  refine callType_new (S := fun A R s => s.heap.IsTuple t items ∧ R (.ok (.ret (.ref (s.heap.push { cls := Value.type "tuple_iterator", data := Data.fields #[Value.ref t, Value.int 0 0] }).objs.size))) { s with heap := (s.heap.push { cls := Value.type "tuple_iterator", data := Data.fields #[Value.ref t, Value.int 0 0] }).push { cls := Value.type "enumerate", data := Data.fields #[Value.none, Value.bool false, Value.ref s.heap.objs.size, rawInt 0, Value.none, Value.none] } })
    F.called_enumerate (by decide) (F.typeCall_enumerate_1 _) (F.newCall_enumerate_1 _) (fun obj => F.args_object_init_2 _ _) F.entry_enumerate_new ?_ ?_
  · intro prog w A R s ⟨a, b⟩
    exact en a b
  · have e1 : (s.heap.push { cls := Value.type "tuple_iterator", data := Data.fields #[Value.ref t, Value.int 0 0] }).objs.size = s.heap.objs.size + 1 := Heap.size_push ..
    refine ⟨ht, ⟨_, Heap.get?_push_size _ rfl, rfl⟩, ?_⟩
    have z := q ((s.heap.push { cls := Value.type "tuple_iterator", data := Data.fields #[Value.ref t, Value.int 0 0] }).push { cls := Value.type "enumerate", data := Data.fields #[Value.none, Value.bool false, Value.ref s.heap.objs.size, rawInt 0, Value.none, Value.none] })
      (by
        show Heap.get? _ _ = _
        rw [← e1]
        exact Heap.get?_push_size _ rfl)
      ⟨_, Heap.get?_push_of_some _ (Heap.get?_push_size _ rfl), rfl, rfl⟩ (by rw [Heap.size_push, e1]) (fun b o e => Heap.get?_push_of_some _ (Heap.get?_push_of_some _ e))
    rw [← e1] at z
    exact z
end SwN
end PySem
namespace PySem
namespace SwN
theorem end_enum {prog : Program} {w : World} {A : Around} {E : Value → Shared → Prop} {s : Shared} {e it t : Addr} {i : Nat} {old : Value} {items : Array Value} {Q : Option Value → Shared → Prop} (hA : A.in1.handled = none) (he : IsEnum s.heap e it (i : Int) old) (hi : s.heap.IsTupleIter it t i) (ht : s.heap.IsTuple t items) (hl : items.size ≤ i)
    (hei : e ≠ it) (hte : t ≠ e) (hti : t ≠ it)
    (q : ∀ (h' : Heap) (tk : Nat), (∀ b o, b ≠ e → b ≠ it → s.heap.get? b = some o → h'.get? b = some o) → Q none { s with heap := h', toks := tk }) : wpAny (model prog w) A (pyNext (.ref e)) Q E s := by
  have D : Draws prog w A.in1 it [it, t] i (fun _ _ => True) (fun j h => j = i ∧ h.IsTupleIter it t i ∧ h.IsTuple t items) :=
    { live := fun j h ⟨_, ⟨o, h1, _⟩, _⟩ => ⟨o, h1⟩
      frame := fun j h h' ⟨hj, ⟨o, h1, h2⟩, ot, g1, g2⟩ k => ⟨hj, ⟨o, k it (by simp) o h1, h2⟩, ot, k t (by simp) ot g1, g2⟩
      item := fun j s Q E hj ⟨hj', _⟩ _ => absurd hj' (Nat.ne_of_lt hj)
      done := fun s Q E ⟨_, a, b⟩ q => next_end hA a b (Array.getElem?_eq_none hl) q }
  have wt := WalksT.enumerateD D e hei (by simp [hei, Ne.symm hte]) (by simp)
  refine wt.done s Q E ⟨⟨old, he⟩, rfl, hi, ht⟩ fun h' tk kp => q h' tk fun b o b1 b2 z => kp b o (by simp [b1, b2]) z
end SwN
end PySem
namespace PySem
namespace SwN
theorem self_enum {prog : Program} {w : World} {A : Around} {E : Value → Shared → Prop} {s : Shared} {e it : Addr} {i : Int} {old : Value} {Q : Value → Shared → Prop} (h : IsEnum s.heap e it i old) (q : Q (.ref e) s) : wpAny (model prog w) A (pyIter (.ref e)) Q E s := by
  have hT : s.TypeIs (.ref e) "enumerate" := ⟨_, h, rfl⟩
  refine wpAny_pyIter_slot hT F.slot_enumerate_iter ?_
  refine call_meets (S := fun A R s => R (.ok (.ret (.ref e))) s) F.slot_enumerate_iter hT F.entry_enumerate_iter (F.args_enumerate_iter_1 _) ?_ ?_
  · intro prog w A R s hR
    refine wpAny_bind ?_
    show wpAny _ _ (pure (Value.ref e, [])) _ _ _
    exact wpAny_pure (wpAny_pure hR)
  · exact ⟨"enumerate", _, hT, F.slot_enumerate_next.lookup, q⟩
end SwN
end PySem
namespace L2
open PySem PySem.Spec PyProof.Rows
/-- the turns of enumerate(t), t a tuple -/
def Itet (K : PySem.W.Frag) (a : Addr) : It where
  go := fun i H => ∃ xs x, SqT K H a xs ∧ xs[i]? = some x
  yld := fun i H v H' => ∃ T x, v = V.ref T ∧ H T = none ∧ H' = upd H T (.tup [.int i, x]) ∧ ∀ xs, SqT K H a xs → xs[i]? = some x
  stop := fun i H => ∃ xs, SqT K H a xs ∧ xs.length ≤ i
def iEnumT (K : PySem.W.Frag) (ta : TE) : TI := fun σ H R => ta σ H fun v H1 => ∃ a xs, v = .ref a ∧ SqT K H1 a xs ∧ R (Itet K a) H1
theorem vals_len {xs : List V} {us : List Value} (h : Vals xs us) : xs.length = us.length := by
  induction h with
  | nil => rfl
  | cons _ _ ih => rw [List.length_cons, List.length_cons, ih]
theorem turn_enumT {P : Program} {w : World} {K : PySem.W.Frag} {elts : List Expr} {k : Nat} {pos : Pos} {e it t : Addr} (hei : e ≠ it) (hte : t ≠ e) (hti : t ≠ it) :
    Turn P w K (.Tuple elts k pos) (Itet K t) [e, it] e (fun i h => (∃ old, IsEnum h e it (i : Int) old) ∧ h.IsTupleIter it t i) where
  mem := by simp
  obj := fun i h ⟨⟨old, h1⟩, o, g1, g2, g3⟩ b hb => by
    simp only [List.mem_cons, List.not_mem_nil, or_false] at hb
    rcases hb with rfl | rfl
    · exact ⟨_, h1, fun v z => by cases z⟩
    · exact ⟨o, g1, fun v z => by rw [g3] at z; cases z⟩
  keep := fun i h h' ⟨⟨old, h1⟩, o, g1, g2⟩ q => ⟨⟨old, q e (by simp) _ h1⟩, o, q it (by simp) o g1, g2⟩
  self := fun A i s Q E ⟨⟨old, h1⟩, h2⟩ q => PySem.SwN.self_enum h1 q
  item := by
    intro X hp hw hK hc i pins s σ H E I fok ⟨⟨old, he⟩, hi⟩ ⟨xs, x, hq, hx⟩
    subst hp hw hK
    have hA : X.A.in1.handled = none := I.ok.hd hc
    obtain ⟨its, hv, htup, hsz⟩ := I.tuple hq
    obtain ⟨u, hu, ru⟩ := Vals.get hv hx
    have wt := WalksT.enumerateD (PySem.SwN.draws_tuple (prog := X.prog) (w := X.w) hA hti its.toArray) e hei (by simp [hei, Ne.symm hte]) (by simp)
    have hin : i < its.toArray.size := by
      rw [List.size_toArray, ← vals_len hv]
      exact (List.getElem?_eq_some_iff.mp hx).1
    refine wt.item i s _ E hin ⟨⟨old, he⟩, hi, htup⟩ fun T vals h1 tk pt hT tupT mid kp => ⟨.ref T, rfl, wt.go elts k pos i T _ _ E mid fun h2 st kp2 => ?_⟩
    obtain ⟨tt, y, hy, rfl⟩ := pt
    have hyu : y = u := by
      have z : its.toArray[i]? = some u := by rw [List.getElem?_toArray]; exact hu
      rw [z] at hy
      exact (Option.some.inj hy).symm
    subst hyu
    have hTe : T ≠ e ∧ T ≠ it := ⟨mid.2.2.1, mid.2.2.2⟩
    have kp12 : ∀ b o, b ≠ e → b ≠ it → s.heap.get? b = some o → h2.get? b = some o := fun b o b1 b2 q => kp2 b o (by simp [b1, b2]) (kp b o (by simp [b1, b2]) q)
    obtain ⟨oT, t1, t2, nn, t3⟩ := tupT
    have tT : h2.get? T = some oT := kp2 T oT (by simp [hTe.1, hTe.2]) t1
    have sT : s.heap.get? T = none := by
      cases z : s.heap.get? T with
      | none => rfl
      | some o => exact absurd (Heap.lt_size z) (Nat.not_lt.mpr hT)
    obtain ⟨f1, f2, f3, f4, f5, f6⟩ := fok e (by simp)
    obtain ⟨g1, g2, g3, g4, g5, g6⟩ := fok it (by simp)
    obtain ⟨m1, a1, a2⟩ := restrict s.heap fun b => decide (b ≠ e)
    obtain ⟨m2, b1, b2⟩ := restrict h2 fun b => decide (b ≠ T)
    have I1 : Inv X pins σ H ⟨m1, s.gens, s.drawn, s.toks, s.os⟩ := I.turned (it := e) (t' := s.toks) (fun b o hb q => (a1 b (decide_eq_true hb)).trans q) f1 f2 f4 f5 f6
    have I2 : Inv X pins σ H ⟨m2, s.gens, s.drawn, tk, s.os⟩ := Inv.turned (s := ⟨m1, s.gens, s.drawn, s.toks, s.os⟩) (it := it) (t' := tk) I1 (fun b o hb q => by
      have q' : m1.get? b = some o := q
      have be : b ≠ e := fun z => by
        rw [z, a2 e (by simp)] at q'
        cases q'
      have q2 : s.heap.get? b = some o := (a1 b (decide_eq_true be)).symm.trans q'
      have bT : b ≠ T := fun z => by rw [z, sT] at q2; cases q2
      exact (b1 b (decide_eq_true bT)).trans (kp12 b o be hb q2)) g1 g2 g4 g5 g6
    have HT : H T = none := I.hok.fresh hT
    have tup : SqT X.K (upd H T (.tup [.int i, x])) T [.int i, x] := .inl (.inl upd_same)
    have I3 : Inv X pins σ (upd H T (.tup [.int i, x])) ⟨h2, s.gens, s.drawn, tk, s.os⟩ := Inv.laidN (s := ⟨m2, s.gens, s.drawn, tk, s.os⟩) (t' := tk) I2 (fun b o q => by
      have q' : m2.get? b = some o := q
      have bT : b ≠ T := fun z => by
        rw [z, b2 T (by simp)] at q'
        cases q'
      exact (b1 b (decide_eq_true bT)).symm.trans q') (b2 T (by simp)) HT ⟨(by show 2 ≤ sizeLine; decide), [_, _], .cons ⟨_, rfl⟩ (.cons ru .nil), ⟨oT, tT, t2, nn, t3⟩⟩
    refine ⟨.ref T, _, I3, rfl, ⟨T, x, rfl, HT, rfl, fun ys hys => ?_⟩, ⟨st.1, st.2.1⟩, fun b hb => ?_⟩
    · rw [I.tuple_inj hys hq]
      exact hx
    · simp only [List.mem_cons, List.not_mem_nil, or_false] at hb
      rcases hb with rfl | rfl
      · rw [upd_ne (Ne.symm hTe.1)]
        exact f1
      · rw [upd_ne (Ne.symm hTe.2)]
        exact g1
  done := by
    intro X hp hw hK hc i pins s σ H E I fok ⟨⟨old, he⟩, hi⟩ ⟨xs, hq, hl⟩
    subst hp hw hK
    have hA : X.A.in1.handled = none := I.ok.hd hc
    obtain ⟨its, hv, htup, hsz⟩ := I.tuple hq
    have wt := WalksT.enumerateD (PySem.SwN.draws_tuple (prog := X.prog) (w := X.w) hA hti its.toArray) e hei (by simp [hei, Ne.symm hte]) (by simp)
    obtain ⟨f1, f2, f3, f4, f5, f6⟩ := fok e (by simp)
    obtain ⟨g1, g2, g3, g4, g5, g6⟩ := fok it (by simp)
    have hle : its.toArray.size ≤ i := by
      rw [List.size_toArray, ← vals_len hv]
      exact hl
    refine PySem.SwN.end_enum hA he hi htup hle hei hte hti fun h2 tk kp12 => ⟨rfl, ?_⟩
    obtain ⟨m1, a1, a2⟩ := restrict s.heap fun b => decide (b ≠ e)
    have I1 : Inv X pins σ H ⟨m1, s.gens, s.drawn, s.toks, s.os⟩ := I.turned (it := e) (t' := s.toks) (fun b o hb q => (a1 b (decide_eq_true hb)).trans q) f1 f2 f4 f5 f6
    exact Inv.turned (s := ⟨m1, s.gens, s.drawn, s.toks, s.os⟩) (it := it) (t' := tk) I1 (fun b o hb q => by
      have q' : m1.get? b = some o := q
      have be : b ≠ e := fun z => by
        rw [z, a2 e (by simp)] at q'
        cases q'
      exact kp12 b o be hb ((a1 b (decide_eq_true be)).symm.trans q')) g1 g2 g4 g5 g6
/-- for i, x in enumerate(t), t a tuple -/
theorem pi_enumT {X : Cx} {e : Expr} {te : TE} {p pos tpos : Pos} {elts : List Expr} {kk : Nat} (hg : Gl X "enumerate") (hm : X.mg "enumerate" = none) (he : PE X e te)
    (hs : starEach [e] X.env = [(false, eval e X.env)] := by rfl) : PI X (.Tuple elts kk tpos) (.Call (.Name "enumerate" p) [e] [] pos) (iEnumT X.K te) := by
  refine ⟨fun pins s σ H R I h => ?_⟩
  refine wpAny_Call_Name_kw (ld_blt I hg hm (u := .type "enumerate") (by decide +kernel) ?_)
  rw [hs]
  show wpAny _ _ (callWith pos (Value.type "enumerate") [] [(false, _)] []) _ _ _
  refine callWith_type1 ?_
  show wpAny _ _ (eval e X.env) _ _ _
  refine thn (he.run pins s σ H _ I h) fun u s1 hh => ?_
  obtain ⟨v, H1, I1, rv, a, xs, ev, hq, hR⟩ := hh
  subst ev
  obtain rfl : u = Value.ref a := rv
  obtain ⟨its, hv, htup, _⟩ := I1.tuple hq
  refine PySem.SwN.call_enum htup fun h' h1 h2 h3 k => ?_
  have n1 : H1 s1.heap.objs.size = none := I1.hok.fresh (Nat.le_refl _)
  have n2 : H1 (s1.heap.objs.size + 1) = none := I1.hok.fresh (Nat.le_succ _)
  have F1 : FpOk X pins H1 s1.heap.objs.size := I1.fpOk (Nat.le_refl _) n1
  have F2 : FpOk X pins H1 (s1.heap.objs.size + 1) := I1.fpOk (Nat.le_succ _) n2
  obtain ⟨f1, f2, f3, f4, f5, f6⟩ := id F1
  have J : Inv X pins σ H1 { s1 with heap := h' } := I1.turned (it := s1.heap.objs.size) (t' := s1.toks) (fun b o _ q => k b o q) f1 f2 f4 f5 f6
  refine PySem.SwN.self_enum h1 ?_
  obtain ⟨oT, t1, _⟩ := htup
  have la : a < s1.heap.objs.size := Heap.lt_size t1
  refine ⟨s1.heap.objs.size + 1, [s1.heap.objs.size + 1, s1.heap.objs.size], _, Itet X.K a, H1, rfl, J, turn_enumT (Nat.succ_ne_self _) (Nat.ne_of_lt (Nat.lt_succ_of_lt la)) (Nat.ne_of_lt la), ⟨⟨_, h1⟩, h2⟩, fun b hb => ?_, hR⟩
  simp only [List.mem_cons, List.not_mem_nil, or_false] at hb
  rcases hb with rfl | rfl
  · exact F2
  · exact F1
end L2
set_option Elab.async false
set_option linter.all false
set_option maxRecDepth 100000
set_option maxHeartbeats 4000000
/-! What can be seen from where. -/
namespace L2
open PySem PySem.Spec PyProof.Rows
theorem walk_enumT {K : PySem.W.Frag} {a : Addr} {xs : List V} : Walk (Itet K a) xs.length (fun H => SqT K H a xs) (YPair (fun i => some (.int i)) (fun i => xs[i]?)) where
  goes := fun i H hi h => ⟨xs, xs[i], h, List.getElem?_eq_getElem hi⟩
  stops := fun H h => ⟨xs, h, Nat.le_refl _⟩
  yields := fun i H x H' hi h ⟨T, y, e1, e2, e3, e4⟩ => ⟨T, .int i, y, e1, e2, e3, rfl, e4 xs h⟩
end L2
namespace Sw
open PySem PySem.Spec PyProof.Rows L2
def seenOne (n : Int) (cam at_ k : List Int) : Option (List Int) :=
  match offI n cam at_ k, cam, k with
  | some (u, v), [_, _, g, l], [_, _, b] => if l - g ≤ b then some [u, v, b] else none
  | _, _, _ => none
/-- the stars that can be seen, by number, with offset and brightness -/
def seenI (n : Int) (cam at_ : List Int) : Nat → List (List Int) → List (Int × List Int)
  | _, [] => []
  | j, k :: r => (match seenOne n cam at_ k with | some d => [((j : Int), d)] | none => []) ++ seenI n cam at_ (j + 1) r
theorem seenI_push (n : Int) (cam at_ : List Int) : ∀ (l : List (List Int)) (j : Nat) (k : List Int), seenI n cam at_ j (l ++ [k]) = seenI n cam at_ j l ++ (match seenOne n cam at_ k with | some d => [(((j + l.length : Nat) : Int), d)] | none => [])
  | [], j, k => by
    show (match seenOne n cam at_ k with | some d => [((j : Int), d)] | none => []) ++ [] = [] ++ _
    rw [List.append_nil, List.nil_append]
    rfl
  | x :: r, j, k => by
    show (match seenOne n cam at_ x with | some d => [((j : Int), d)] | none => []) ++ seenI n cam at_ (j + 1) (r ++ [k]) = ((match seenOne n cam at_ x with | some d => [((j : Int), d)] | none => []) ++ seenI n cam at_ (j + 1) r) ++ _
    rw [seenI_push n cam at_ r (j + 1) k, List.append_assoc, show j + 1 + r.length = j + (x :: r).length by simp only [List.length_cons]; omega]
theorem seenI_lt (n : Int) (cam at_ : List Int) : ∀ (l : List (List Int)) (j : Nat), ∀ z ∈ seenI n cam at_ j l, z.1 < ((j + l.length : Nat) : Int)
  | [], j, z, h => by cases h
  | x :: r, j, z, h => by
    rcases List.mem_append.mp h with h | h
    · cases e : seenOne n cam at_ x with
      | none => rw [e] at h; cases h
      | some d =>
        rw [e] at h
        rw [List.mem_singleton.mp h]
        simp only [List.length_cons]
        omega
    · have := seenI_lt n cam at_ r (j + 1) z h
      simp only [List.length_cons]
      omega
abbrev Shown := List (Int × Addr × List Int)
def shownK (zs : Shown) : List (Key × V) := zs.map fun z => (Sum.inl z.1, V.ref z.2.1)
def shownD (zs : Shown) : List (Int × List Int) := zs.map fun z => (z.1, z.2.2)
def ShownAt (K : PySem.W.Frag) (H : Hp) (zs : Shown) : Prop := ∀ z ∈ zs, SqT K H z.2.1 (z.2.2.map V.int)
theorem put_new {v : V} {j : Int} {zs : Shown} (h : ∀ z ∈ zs, z.1 < j) : putK (shownK zs) (.inl j) v = shownK zs ++ [(.inl j, v)] := by
  unfold putK
  rw [if_neg]
  intro q
  obtain ⟨y, hy, e⟩ := List.any_eq_true.mp q
  obtain ⟨z, hz, rfl⟩ := List.mem_map.mp hy
  have e' : (Sum.inl z.1 : Key) = Sum.inl j := of_decide_eq_true e
  injection e' with e'
  have := h z hz
  omega
/-- dict of what can be seen -/
def spApp (K : PySem.W.Frag) (C : Addr) : Sp := fun vs H Q _ => ∃ (p pa : Addr) (n : Int) (ks : Tups) (cam at_ : List Int), vs = [.ref p, .ref pa] ∧ SkyS K C H p n ks cam ∧ isSky n (keys ks) cam = true ∧ SqT K H pa (at_.map V.int) ∧ isPose n at_ = true ∧
  ∀ (H' : Hp) (d : Addr) (zs : Shown), Same H H' → H' d = some (.dK (shownK zs)) → ShownAt K H' zs → shownD zs = seenI n cam at_ 0 (keys ks) → Q (.ref d) H'
end Sw
namespace Sw
open PySem PySem.Spec PyProof.Rows L2
theorem none_back {H H' : Hp} {p : Addr} (s : Same H H') (n : H' p = none) : H p = none := by
  cases e : H p with
  | none => rfl
  | some o => rw [s _ _ e] at n; cases n
theorem sqT_dk {K : PySem.W.Frag} {H : Hp} {d p : Addr} {kvs : List (Key × V)} {o : HO} {ys : List V} (hl : H d = some (.dK kvs)) (h : SqT K H p ys) : SqT K (upd H d o) p ys := by
  rcases h with (h | ⟨u, h⟩) | h
  · exact .inl (.inl (by rw [upd_ne (fun z => by rw [z, hl] at h; cases h)]; exact h))
  · exact .inl (.inr ⟨u, by rw [upd_ne (fun z => by rw [z, hl] at h; cases h)]; exact h⟩)
  · exact .inr h
theorem shown_len (zs : Shown) : (shownK zs).length = zs.length := List.length_map ..
theorem shownD_len (zs : Shown) : (shownD zs).length = zs.length := List.length_map ..
theorem seenI_len (n : Int) (cam at_ : List Int) : ∀ (l : List (List Int)) (j : Nat), (seenI n cam at_ j l).length ≤ l.length
  | [], _ => Nat.le_refl _
  | k :: r, j => by
    show ((match seenOne n cam at_ k with | some d => [((j : Int), d)] | none => []) ++ seenI n cam at_ (j + 1) r).length ≤ _
    have := seenI_len n cam at_ r (j + 1)
    rw [List.length_append]
    cases seenOne n cam at_ k with
    | none => simp only [List.length_nil, List.length_cons]; omega
    | some d => simp only [List.length_cons, List.length_nil]; omega
end Sw
namespace Sw
open PySem PySem.Spec PyProof.Rows L2
def isSure (r b g l : Int) : List Int → Bool
  | [u, v, c] => decide (iabs u ≤ r - b) && decide (iabs v ≤ r - b) && decide (l + g ≤ c)
  | _ => false
def sureI (r b g l : Int) (ds : List (Int × List Int)) : List Int := (ds.filter fun z => isSure r b g l z.2).map (·.1)
def spSure (K : PySem.W.Frag) (C : Addr) : Sp := fun vs H Q _ => ∃ (p d : Addr) (n : Int) (st : List V) (r b g l : Int) (zs : Shown), vs = [.ref p, .ref d] ∧ SkyAt K C H p n st [r, b, g, l] ∧ H d = some (.dK (shownK zs)) ∧ ShownAt K H zs ∧ (∀ z ∈ zs, z.2.2.length = 3) ∧ zs.length ≤ 64 ∧
  ∀ (H' : Hp) (D : Addr), Same H H' → H D = none → H' D = some (.lst ((sureI r b g l (shownD zs)).map V.int)) → Q (.ref D) H'
end Sw
namespace Sw
open PySem PySem.Spec PyProof.Rows L2
def sureC (cam : List Int) (ds : List (Int × List Int)) : List Int :=
  match cam with
  | [r, b, g, l] => sureI r b g l ds
  | _ => []
theorem seenOne_three {n : Int} {cam at_ k d : List Int} (h : seenOne n cam at_ k = some d) : d.length = 3 := by
  unfold seenOne at h
  split at h
  · split at h
    · cases h
      rfl
    · cases h
  · cases h
theorem seenI_three (n : Int) (cam at_ : List Int) : ∀ (l : List (List Int)) (j : Nat), ∀ z ∈ seenI n cam at_ j l, z.2.length = 3
  | [], j, z, h => by cases h
  | x :: r, j, z, h => by
    rcases List.mem_append.mp h with h | h
    · cases e : seenOne n cam at_ x with
      | none => rw [e] at h; cases h
      | some d =>
        rw [e] at h
        rw [List.mem_singleton.mp h]
        exact seenOne_three e
    · exact seenI_three n cam at_ r (j + 1) z h
def seenN (n : Int) (cam at_ : List Int) (kk : List (List Int)) : List Int := (seenI n cam at_ 0 kk).map (·.1)
def sureN (n : Int) (cam at_ : List Int) (kk : List (List Int)) : List Int := sureC cam (seenI n cam at_ 0 kk)
/-- numbers of stars, told at an attitude, with its error -/
def spNumsOf (K : PySem.W.Frag) (C D : Addr) (f : Int → List Int → List Int → List (List Int) → List Int) : Sp := fun vs H Q E => ∃ (p pa : Addr) (n : Int) (ks : Tups) (cam at_ : List Int), vs = [.ref p, .ref pa] ∧ SkyS K C H p n ks cam ∧ isSky n (keys ks) cam = true ∧ SqT K H pa (at_.map V.int) ∧
  (isPose n at_ = false → ∀ (d : Addr) (H' : Hp), Same H H' → H' d = some (.xd [("attitude", .ref pa)]) → E (.ref D) (some d) H') ∧
  (isPose n at_ = true → ∀ (H' : Hp) (l : Addr), Same H H' → H l = none → H' l = some (.lst ((f n cam at_ (keys ks)).map V.int)) → Q (.ref l) H')
end Sw
namespace Sw
open PySem PySem.Spec PyProof.Rows L2
theorem near_iff {n z t room : Int} (h4 : 4 ≤ n) (h9 : n ≤ 9) (hr : 2 * room + 1 ≤ n) (t0 : -room ≤ t) (t1 : t ≤ room) : (t - z) % n = 0 ↔ near n z = t := by
  unfold near
  rcases side_cases h4 h9 with rfl | rfl | rfl | rfl | rfl | rfl <;> omega
theorem turn_back {q a b : Int} (q0 : 0 ≤ q) (q3 : q ≤ 3) : turnX (4 - q) (turnX q a b) (turnY q a b) = a ∧ turnY (4 - q) (turnX q a b) (turnY q a b) = b := by
  rcases quarter_cases q0 q3 with rfl | rfl | rfl | rfl
  · exact ⟨rfl, rfl⟩
  · exact ⟨show a = a from rfl, show - -b = b by omega⟩
  · exact ⟨show - -a = a by omega, show - -b = b by omega⟩
  · exact ⟨show - -a = a by omega, show b = b from rfl⟩
theorem turn_back2 {q a b : Int} (q0 : 0 ≤ q) (q3 : q ≤ 3) : turnX q (turnX (4 - q) a b) (turnY (4 - q) a b) = a ∧ turnY q (turnX (4 - q) a b) (turnY (4 - q) a b) = b := by
  rcases quarter_cases q0 q3 with rfl | rfl | rfl | rfl
  · exact ⟨rfl, rfl⟩
  · exact ⟨show - -a = a by omega, show b = b from rfl⟩
  · exact ⟨show - -a = a by omega, show - -b = b by omega⟩
  · exact ⟨show a = a from rfl, show - -b = b by omega⟩
theorem turn_bd {q a b room : Int} (q0 : 0 ≤ q) (q3 : q ≤ 3) (a0 : -room ≤ a) (a1 : a ≤ room) (b0 : -room ≤ b) (b1 : b ≤ room) : (-room ≤ turnX q a b ∧ turnX q a b ≤ room) ∧ (-room ≤ turnY q a b ∧ turnY q a b ≤ room) := by
  rcases quarter_cases q0 q3 with rfl | rfl | rfl | rfl
  · exact ⟨⟨a0, a1⟩, b0, b1⟩
  · exact ⟨⟨show -room ≤ -b by omega, show -b ≤ room by omega⟩, a0, a1⟩
  · exact ⟨⟨show -room ≤ -a by omega, show -a ≤ room by omega⟩, show -room ≤ -b by omega, show -b ≤ room by omega⟩
  · exact ⟨⟨b0, b1⟩, show -room ≤ -a by omega, show -a ≤ room by omega⟩
theorem off_some {n r b g l x y q sx sy bb u v : Int} (h : offI n [r, b, g, l] [x, y, q] [sx, sy, bb] = some (u, v)) : (-(r + b) ≤ u ∧ u ≤ r + b) ∧ (-(r + b) ≤ v ∧ v ≤ r + b) := by
  unfold offI at h
  simp only at h
  split at h
  · cases h
  · rename_i hh
    cases h
    unfold iabs at hh
    constructor <;> constructor <;> (repeat' split at hh) <;> omega
theorem off_iff {n r b g l x y q sx sy bb dx dy : Int} (h4 : 4 ≤ n) (h9 : n ≤ 9) (hr : 2 * (r + b) + 1 ≤ n) (q0 : 0 ≤ q) (q3 : q ≤ 3) (a0 : -(r + b) ≤ dx) (a1 : dx ≤ r + b) (b0 : -(r + b) ≤ dy) (b1 : dy ≤ r + b) :
    ((x + turnX q dx dy - sx) % n = 0 ∧ (y + turnY q dx dy - sy) % n = 0) ↔ offI n [r, b, g, l] [x, y, q] [sx, sy, bb] = some (dx, dy) := by
  obtain ⟨⟨c0, c1⟩, d0, d1⟩ := turn_bd q0 q3 a0 a1 b0 b1
  rw [show x + turnX q dx dy - sx = turnX q dx dy - (sx - x) by omega, show y + turnY q dx dy - sy = turnY q dx dy - (sy - y) by omega, near_iff h4 h9 hr c0 c1, near_iff h4 h9 hr d0 d1]
  constructor
  · rintro ⟨e1, e2⟩
    unfold offI
    simp only
    rw [e1, e2, (turn_back q0 q3).1, (turn_back q0 q3).2, if_neg]
    unfold iabs
    intro z
    (repeat' split at z) <;> omega
  · intro h
    unfold offI at h
    simp only at h
    split at h
    · cases h
    · have h' := Option.some.inj h
      injection h' with e1 e2
      rw [← e1, ← e2]
      exact ⟨(turn_back2 q0 q3).1.symm, (turn_back2 q0 q3).2.symm⟩
end Sw
namespace Sw
open PySem PySem.Spec PyProof.Rows L2
def PartsAt (K : PySem.W.Frag) (H : Hp) (t : Addr) (n : Int) (ks : Tups) (cam : List Int) : Prop := ∃ l c : Addr, SqT K H t [.int n, .ref l, .ref c] ∧ SqL K H l (refs ks) ∧ TupsAt K H ks ∧ SqT K H c (cam.map V.int)
theorem parts_up {K : PySem.W.Frag} {H H' : Hp} {t : Addr} {n : Int} {ks : Tups} {cam : List Int} (s : Same H H') (h : PartsAt K H t n ks cam) : PartsAt K H' t n ks cam := by
  obtain ⟨l, c, h1, h2, h3, h4⟩ := h
  exact ⟨l, c, sqT_up s h1, s.seq h2, tups_up s h3, sqT_up s h4⟩
/-- the law's own way to an offset -/
def spLOff (K : PySem.W.Frag) : Sp := fun vs H Q _ => ∃ (pp pa ps : Addr) (n : Int) (ks : Tups) (r b g l x y q sx sy bb : Int), vs = [.ref pp, .ref pa, .ref ps] ∧ PartsAt K H pp n ks [r, b, g, l] ∧ 4 ≤ n ∧ n ≤ 9 ∧ isCam n [r, b, g, l] = true ∧ SqT K H pa [.int x, .int y, .int q] ∧ 0 ≤ q ∧ q ≤ 3 ∧ SqT K H ps [.int sx, .int sy, .int bb] ∧
  (offI n [r, b, g, l] [x, y, q] [sx, sy, bb] = none → ∀ H', Same H H' → Q .non H') ∧
  (∀ u v, offI n [r, b, g, l] [x, y, q] [sx, sy, bb] = some (u, v) → ∀ (H' : Hp) (t : Addr), Same H H' → SqT K H' t [.int u, .int v] → Q (.ref t) H')
end Sw
namespace Sw
open PySem PySem.Spec PyProof.Rows L2
/-- is a star within so much, and bright enough -/
def inOne (n : Int) (cam at_ : List Int) (room least : Int) (k : List Int) : Bool :=
  match offI n cam at_ k, k with
  | some (u, v), [_, _, b] => decide (iabs u ≤ room) && decide (iabs v ≤ room) && decide (least ≤ b)
  | _, _ => false
def inI (n : Int) (cam at_ : List Int) (room least : Int) : Nat → List (List Int) → List Int
  | _, [] => []
  | j, k :: r => (if inOne n cam at_ room least k then [(j : Int)] else []) ++ inI n cam at_ room least (j + 1) r
theorem inI_push (n : Int) (cam at_ : List Int) (room least : Int) : ∀ (l : List (List Int)) (j : Nat) (k : List Int), inI n cam at_ room least j (l ++ [k]) = inI n cam at_ room least j l ++ (if inOne n cam at_ room least k then [((j + l.length : Nat) : Int)] else [])
  | [], j, k => by
    show (if inOne n cam at_ room least k then [(j : Int)] else []) ++ [] = [] ++ _
    rw [List.append_nil, List.nil_append]
    rfl
  | x :: r, j, k => by
    show (if inOne n cam at_ room least x then [(j : Int)] else []) ++ inI n cam at_ room least (j + 1) (r ++ [k]) = ((if inOne n cam at_ room least x then [(j : Int)] else []) ++ inI n cam at_ room least (j + 1) r) ++ _
    rw [inI_push n cam at_ room least r (j + 1) k, List.append_assoc, show j + 1 + r.length = j + (x :: r).length by simp only [List.length_cons]; omega]
def spInside (K : PySem.W.Frag) : Sp := fun vs H Q _ => ∃ (pp pa : Addr) (n : Int) (ks : Tups) (cam at_ : List Int) (room least : Int), vs = [.ref pp, .ref pa, .int room, .int least] ∧ PartsAt K H pp n ks cam ∧ isSky n (keys ks) cam = true ∧ SqT K H pa (at_.map V.int) ∧ isPose n at_ = true ∧
  ∀ (H' : Hp) (l : Addr), Same H H' → H' l = some (.lst ((inI n cam at_ room least 0 (keys ks)).map V.int)) → Q (.ref l) H'
end Sw
namespace Sw
open PySem PySem.Spec PyProof.Rows L2
theorem inI_len (n : Int) (cam at_ : List Int) (room least : Int) : ∀ (l : List (List Int)) (j : Nat), (inI n cam at_ room least j l).length ≤ l.length
  | [], _ => Nat.le_refl _
  | k :: r, j => by
    show ((if inOne n cam at_ room least k then [(j : Int)] else []) ++ inI n cam at_ room least (j + 1) r).length ≤ _
    have := inI_len n cam at_ room least r (j + 1)
    rw [List.length_append]
    split <;> simp only [List.length_cons, List.length_nil] <;> omega
end Sw
namespace Sw
open PySem PySem.Spec PyProof.Rows L2
def offD : Option (Int × Int) → PyData
  | some (u, v) => dTI [u, v]
  | none => .none
def toldE (n : Int) (cam at_ : List Int) (kk : List (List Int)) (j : Int) : PyData :=
  if isPose n at_ then (if j < 0 ∨ (kk.length : Int) ≤ j then .tuple [.int 2, .int j] else .tuple [.int 0, offD (offI n cam at_ (kk.getD j.toNat []))]) else .tuple [.int 1, dTI at_]
def spToldE (K : PySem.W.Frag) (C : Addr) : Sp := fun vs H Q _ => ∃ (p pa : Addr) (n : Int) (ks : Tups) (cam at_ : List Int) (j : Int), vs = [.ref p, .ref pa, .int j] ∧ SkyS K C H p n ks cam ∧ isSky n (keys ks) cam = true ∧ SqT K H pa (at_.map V.int) ∧
  ∀ (H' : Hp) (t : Addr), Same H H' → Dp K H' (.ref t) (toldE n cam at_ (keys ks) j) → Q (.ref t) H'
end Sw
set_option Elab.async false
set_option linter.all false
set_option maxRecDepth 100000
set_option maxHeartbeats 4000000
/-! A local name that holds one of two defs which may raise, called within a try. -/
namespace L2
open PySem PySem.Spec PyProof.Rows
def tCallVS (i : Nat) (f1 f2 : Addr) (sp1 sp2 : Sp) (E : St → XK) (t : TA) : TE := fun σ H Q =>
  (σ[i]? = some (some (V.ref f1)) ∧ t σ H fun vs H1 => sp1 vs H1 Q (E σ)) ∨ (σ[i]? = some (some (V.ref f2)) ∧ t σ H fun vs H1 => sp2 vs H1 Q (E σ))
section
variable {X : Cx} {CX : CXT} {i k1 k2 : Nat} {f1 f2 : Addr} {fd1 fd2 : FuncData} {ps1 ps2 : List Str} {sp1 sp2 : Sp} {E : St → XK} {x : Str} {p pos : Pos} {e : Expr} {es : List Expr} {t : TA}
theorem pe_callVS (F1 : FnOk X.prog X.w X.K X.mg X.base CX k1 f1 fd1 ps1 sp1) (F2 : FnOk X.prog X.w X.K X.mg X.base CX k2 f2 fd2 ps2 sp2) (hr1 : Room k1 X.A) (hr2 : Room k2 X.A)
    (kp1 : PySem.W.keepIn X.K (.ref f1) = true) (kp2 : PySem.W.keepIn X.K (.ref f2) = true) (b1 : Binds X.K fd1 ps1 []) (b2 : Binds X.K fd2 ps2 []) (hx : ∀ σ, PassesAt CX X σ (E σ))
    (hN : X.N[i]? = some x) (hv : Vis X.env.scope x) (ha : PA X (e :: es) t)
    (hd : (x == ("__debug__" : Str)) = false := by decide) (hcd : (x == ("__classdict__" : Str)) = false := by decide)
    (he : starEach (e :: es) X.env = (false, eval e X.env) :: starEach es X.env := by rfl) (hpl : (backTo pos (starEach es X.env)).any (·.1) = false := by rfl) :
    PE X (.Call (.Name x p) (e :: es) [] pos) (tCallVS i f1 f2 sp1 sp2 E t) := by
  refine ⟨fun pins s σ H Q I h => ?_⟩
  have go : ∀ {k : Nat} {f : Addr} {fd : FuncData} {ps : List Str} {sp : Sp}, FnOk X.prog X.w X.K X.mg X.base CX k f fd ps sp → Room k X.A → PySem.W.keepIn X.K (.ref f) = true → Binds X.K fd ps [] → σ[i]? = some (some (.ref f)) → (t σ H fun vs H1 => sp vs H1 Q (E σ)) → wpAny (model X.prog X.w) X.A (eval (.Call (.Name x p) (e :: es) [] pos) X.env) (EP X pins σ Q) X.xe s := fun {k f fd ps sp} F hr kp b hs ht => by
    refine wpAny_Call_Name_kw (thn ((pe_var (pos := p) hN hv hd hcd).run pins s σ H (fun v H1 => v = .ref f ∧ H1 = H) I ⟨.ref f, hs, rfl, rfl⟩) fun u s1 ⟨v, H1, I1, r1, q1⟩ => ?_)
    obtain ⟨rfl, rfl⟩ := q1
    cases r1
    refine PySem.W.callWith_K (h₀ := X.base) I.ok.mod.kin kp (thn (ha.run pos pins s1 σ _ _ I1 ht) fun us s2 ⟨vs, H2, I2, r, q⟩ => ⟨I2.kIn, ?_⟩) he hpl
    exact run_fnS F hr b (hx σ) I2 r q
  rcases h with ⟨h1, h2⟩ | ⟨h1, h2⟩
  · exact go F1 hr1 kp1 b1 h1 h2
  · exact go F2 hr2 kp2 b2 h1 h2
end
end L2
namespace Sw
open PySem PySem.Spec PyProof.Rows L2
def dLI (ns : List Int) : PyData := .list (ns.map .int)
theorem dp_li {K : PySem.W.Frag} {H : Hp} {p : Addr} {ns : List Int} (h : H p = some (.lst (ns.map V.int))) : Dp K H (.ref p) (dLI ns) := dp_l h (dpAll_ints ns)
theorem lay_li (ns : List Int) : Lay 1 (dLI ns) := lay_list fun d hd => by
  obtain ⟨i, _, rfl⟩ := List.mem_map.mp hd
  exact lay_int 0 i
def oneD (n : Int) (at_ : List Int) (l : List Int) : PyData := if isPose n at_ then dLI l else dTI at_
theorem lay_one (n : Int) (at_ l : List Int) : Lay 1 (oneD n at_ l) := by
  unfold oneD
  split
  · exact lay_li l
  · exact lay_ti at_
def listsD (n : Int) (cam at_ : List Int) (kk : List (List Int)) : List PyData := [oneD n at_ ((seenI n cam at_ 0 kk).map (·.1)), oneD n at_ (sureC cam (seenI n cam at_ 0 kk))]
/-- both lists, each with its error in its place -/
def spLists (K : PySem.W.Frag) (C : Addr) : Sp := fun vs H Q _ => ∃ (p pa : Addr) (n : Int) (ks : Tups) (cam at_ : List Int), vs = [.ref p, .ref pa] ∧ SkyS K C H p n ks cam ∧ isSky n (keys ks) cam = true ∧ SqT K H pa (at_.map V.int) ∧
  ∀ (H' : Hp) (l : Addr), Same H H' → Dp K H' (.ref l) (.list (listsD n cam at_ (keys ks))) → Q (.ref l) H'
/-! data that stand whatever the list at l becomes -/
def Off (K : PySem.W.Frag) (H : Hp) (l : Addr) (v : V) (d : PyData) : Prop := ∀ o, Dp K (upd H l o) v d
def OffAll (K : PySem.W.Frag) (H : Hp) (l : Addr) (vs : List V) (ds : List PyData) : Prop := ∀ o, DpAll K (upd H l o) vs ds
theorem same_off {H H' : Hp} {l : Addr} {o : HO} (h : ∀ q x, q ≠ l → H q = some x → H' q = some x) : Same (upd H l o) (upd H' l o) := fun q x e => by
  by_cases hq : q = l
  · subst hq
    rw [upd_same] at e ⊢
    exact e
  · rw [upd_ne hq] at e ⊢
    exact h q x hq e
theorem offAll_up {K : PySem.W.Frag} {H H' : Hp} {l : Addr} {vs : List V} {ds : List PyData} (h : ∀ q x, q ≠ l → H q = some x → H' q = some x) (d : OffAll K H l vs ds) : OffAll K H' l vs ds := fun o => dpAll_up (same_off h) (d o)
theorem offAll_push {K : PySem.W.Frag} {H : Hp} {l : Addr} {v : V} {d : PyData} {vs : List V} {ds : List PyData} (h1 : OffAll K H l vs ds) (h2 : Off K H l v d) : OffAll K H l (vs ++ [v]) (ds ++ [d]) := fun o => dpAll_push (h1 o) (h2 o)
theorem offAll_at {K : PySem.W.Frag} {H : Hp} {l : Addr} {o : HO} {vs : List V} {ds : List PyData} (hl : H l = some o) (h : OffAll K H l vs ds) : DpAll K H vs ds := dpAll_up (fun q x e => by
  by_cases hq : q = l
  · subst hq
    rw [upd_same] at e
    rw [hl]
    exact e
  · rw [upd_ne hq] at e
    exact e) (h o)
theorem off_ti {K : PySem.W.Frag} {H : Hp} {l p : Addr} {xs : List V} {ns : List Int} (hl : H l = some (.lst xs)) (h : SqT K H p (ns.map V.int)) : Off K H l (.ref p) (dTI ns) := fun _ => dp_ti (sqT_lst hl h)
theorem off_li {K : PySem.W.Frag} {H : Hp} {l p : Addr} {ns : List Int} (hne : p ≠ l) (h : H p = some (.lst (ns.map V.int))) : Off K H l (.ref p) (dLI ns) := fun _ => dp_li (by rw [upd_ne hne]; exact h)
/-! what is seen and sure, by the law's own way -/
theorem iabs_le {x r : Int} : iabs x ≤ r ↔ -r ≤ x ∧ x ≤ r := by
  unfold iabs
  split <;> omega
theorem seenI_in {n r b g l x y q : Int} (room least : Int) (hroom : room = r + b) (hleast : least = l - g) : ∀ (kk : List (List Int)) (j : Nat), kk.all (isStar n) = true →
    (seenI n [r, b, g, l] [x, y, q] j kk).map (·.1) = inI n [r, b, g, l] [x, y, q] room least j kk
  | [], _, _ => rfl
  | k :: t, j, h => by
    rw [List.all_cons, Bool.and_eq_true] at h
    obtain ⟨sx, sy, bb, rfl, _⟩ := star_form h.1
    show (((match seenOne n [r, b, g, l] [x, y, q] [sx, sy, bb] with | some d => [((j : Int), d)] | none => []) ++ seenI n [r, b, g, l] [x, y, q] (j + 1) t).map (·.1)) = (if inOne n [r, b, g, l] [x, y, q] room least [sx, sy, bb] then [(j : Int)] else []) ++ inI n [r, b, g, l] [x, y, q] room least (j + 1) t
    rw [List.map_append, seenI_in room least hroom hleast t (j + 1) h.2]
    congr 1
    cases e : offI n [r, b, g, l] [x, y, q] [sx, sy, bb] with
    | none => unfold seenOne inOne; rw [e]; rfl
    | some z =>
      obtain ⟨u, v⟩ := z
      have bd := off_some e
      have e1 : seenOne n [r, b, g, l] [x, y, q] [sx, sy, bb] = if l - g ≤ bb then some [u, v, bb] else none := by unfold seenOne; rw [e]
      have e2 : inOne n [r, b, g, l] [x, y, q] room least [sx, sy, bb] = decide (l - g ≤ bb) := by
        unfold inOne
        rw [e]
        show (decide (iabs u ≤ room) && decide (iabs v ≤ room) && decide (least ≤ bb)) = _
        rw [hroom, hleast, decide_eq_true (iabs_le.mpr bd.1), decide_eq_true (iabs_le.mpr bd.2)]
        rfl
      rw [e1, e2]
      by_cases hc : l - g ≤ bb
      · rw [if_pos hc, if_pos (decide_eq_true hc)]
        rfl
      · rw [if_neg hc, if_neg (by rw [decide_eq_false hc]; decide)]
        rfl
theorem sureI_app (r b g l : Int) (a c : List (Int × List Int)) : sureI r b g l (a ++ c) = sureI r b g l a ++ sureI r b g l c := by
  unfold sureI
  rw [List.filter_append, List.map_append]
theorem sureI_in {n r b g l x y q : Int} (hg : 0 ≤ g) (hb : 0 ≤ b) : ∀ (kk : List (List Int)) (j : Nat), kk.all (isStar n) = true →
    sureI r b g l (seenI n [r, b, g, l] [x, y, q] j kk) = inI n [r, b, g, l] [x, y, q] (r - b) (l + g) j kk
  | [], _, _ => rfl
  | k :: t, j, h => by
    rw [List.all_cons, Bool.and_eq_true] at h
    obtain ⟨sx, sy, bb, rfl, _⟩ := star_form h.1
    show sureI r b g l ((match seenOne n [r, b, g, l] [x, y, q] [sx, sy, bb] with | some d => [((j : Int), d)] | none => []) ++ seenI n [r, b, g, l] [x, y, q] (j + 1) t) = (if inOne n [r, b, g, l] [x, y, q] (r - b) (l + g) [sx, sy, bb] then [(j : Int)] else []) ++ inI n [r, b, g, l] [x, y, q] (r - b) (l + g) (j + 1) t
    rw [sureI_app, sureI_in hg hb t (j + 1) h.2]
    congr 1
    cases e : offI n [r, b, g, l] [x, y, q] [sx, sy, bb] with
    | none => unfold seenOne inOne; rw [e]; rfl
    | some z =>
      obtain ⟨u, v⟩ := z
      have e1 : seenOne n [r, b, g, l] [x, y, q] [sx, sy, bb] = if l - g ≤ bb then some [u, v, bb] else none := by unfold seenOne; rw [e]
      have e2 : inOne n [r, b, g, l] [x, y, q] (r - b) (l + g) [sx, sy, bb] = isSure r b g l [u, v, bb] := by
        unfold inOne
        rw [e]
        rfl
      rw [e1, e2]
      by_cases hc : l - g ≤ bb
      · rw [if_pos hc]
        show (([((j : Int), [u, v, bb])].filter fun z => isSure r b g l z.2).map (·.1)) = _
        rw [List.filter_cons]
        cases hs : isSure r b g l [u, v, bb] with
        | true => rfl
        | false => rfl
      · rw [if_neg hc]
        have : isSure r b g l [u, v, bb] = false := by
          show (decide (iabs u ≤ r - b) && decide (iabs v ≤ r - b) && decide (l + g ≤ bb)) = false
          rw [decide_eq_false (show ¬ l + g ≤ bb by omega), Bool.and_false]
        rw [this]
        rfl
end Sw
namespace Sw
open PySem PySem.Spec PyProof.Rows L2
theorem lay_offD (o : Option (Int × Int)) : Lay 1 (offD o) := by
  match o with
  | some (u, v) => exact lay_ti [u, v]
  | none => exact lay_non 1
theorem lay_pair {k : Nat} (i : Int) {d : PyData} (h : Lay k d) : Lay (k + 1) (.tuple [.int i, d]) := lay_tuple (lay_2 (lay_int _ _) h)
/-- a sky is made: what stood stands -/
theorem same_make {H : Hp} {x dx C : Addr} (nx : H x = none) (ndx : H dx = none) : Same H (upd (upd H dx (.own x)) x (.ins C dx [])) := fun q o e => by
  rw [upd_ne (ne_of_none e nx), upd_ne (ne_of_none e ndx)]
  exact e
end Sw
set_option Elab.async false
set_option linter.all false
set_option maxRecDepth 100000
set_option maxHeartbeats 4000000
/-! sorted(x), x a list or a tuple of tuples of integers of any size. -/
namespace Sw
open PySem PySem.Spec PyProof.Rows PyProof.Rows.G L2
/-- one tuple is below another one -/
def ltI : List Int → List Int → Bool
  | [], [] => false
  | [], _ :: _ => true
  | _ :: _, [] => false
  | x :: r, y :: q => decide (x < y) || (decide (x = y) && ltI r q)
theorem ltI_key : ∀ a b : List Int, (listOrd itemOrd).blt (a.map Sum.inl) (b.map Sum.inl) = ltI a b
  | [], [] => rfl
  | [], _ :: _ => rfl
  | _ :: _, [] => rfl
  | x :: r, y :: q => by
    show lexLt itemOrd (Sum.inl x :: r.map Sum.inl) (Sum.inl y :: q.map Sum.inl) = (decide (x < y) || (decide (x = y) && ltI r q))
    have ih : lexLt itemOrd (r.map Sum.inl) (q.map Sum.inl) = ltI r q := ltI_key r q
    by_cases h : x = y
    · subst h
      rw [lex_self, ih, decide_eq_true (rfl : x = x), decide_eq_false (Int.lt_irrefl x), Bool.false_or, Bool.true_and]
    · rw [lex_diff (fun e => h (Sum.inl.inj e)), decide_eq_false h, Bool.false_and, Bool.or_false]
      rfl
theorem ltI_total : ∀ a b : List Int, ltI a b = false → ltI b a = false → a = b
  | [], [], _, _ => rfl
  | [], _ :: _, h, _ => nomatch h
  | _ :: _, [], _, h => nomatch h
  | x :: r, y :: q, h1, h2 => by
    have h1' : (decide (x < y) || (decide (x = y) && ltI r q)) = false := h1
    have h2' : (decide (y < x) || (decide (y = x) && ltI q r)) = false := h2
    rw [Bool.or_eq_false_iff] at h1' h2'
    have a1 := of_decide_eq_false h1'.1
    have a2 := of_decide_eq_false h2'.1
    obtain rfl : x = y := by omega
    have b1 := h1'.2
    have b2 := h2'.2
    rw [decide_eq_true (rfl : x = x), Bool.true_and] at b1 b2
    rw [ltI_total r q b1 b2]
/-- tuples in their order, of any lengths -/
def AscL (l : List (List Int)) : Prop := l.Pairwise fun a b => ltI b a = false
theorem ascL_unique {l m : List (List Int)} (hl : AscL l) (hm : AscL m) (hp : l.Perm m) : l = m :=
  List.Perm.eq_of_pairwise (le := fun a b => ltI b a = false) (fun a b _ _ h1 h2 => (ltI_total b a h1 h2).symm) hl hm hp
/-- what a sorting tells of its values -/
theorem key_of {h : Heap} {v : Value} {ns : List Int} (x : TS.TupInts h v ns) : tupKeyC h (fun _ => false) v = some (ns.map Sum.inl) := by
  obtain ⟨t, its, rfl, ⟨o, h1, h2, n, h3⟩, hi⟩ := x
  have e : ∀ {vs : List Value} {ns : List Int} (i : Nat), IntsAre vs ns → tupItems (fun _ => false) i vs = some (ns.map Sum.inl) := by
    intro vs ns i q
    induction q generalizing i with
    | nil => rfl
    | cons k tk q ih =>
      show ((tupItems (fun _ => false) (i + 1) _).map (Sum.inl k :: ·)) = _
      rw [ih (i + 1)]
      rfl
  unfold tupKeyC isTupObj tupKey
  simp only [h1, h2, h3]
  exact e 0 hi
theorem tups_first {h : Heap} : ∀ {vs : List Value}, (∀ v ∈ vs, ∃ k ns, TS.TupInts h v (k :: ns)) → ∃ fs, TupsOf h (fun _ => false) vs fs
  | [], _ => ⟨[], .nil⟩
  | v :: r, q => by
    obtain ⟨fs, hf⟩ := tups_first fun x hx => q x (List.mem_cons_of_mem _ hx)
    obtain ⟨k, ns, t, its, e, ⟨o, h1, h2, n, h3⟩, hi⟩ := q v List.mem_cons_self
    cases hh : its.toList with
    | nil => rw [hh] at hi; cases hi
    | cons f w =>
      rw [hh] at hi
      cases hi with
      | cons _ tk _ => exact ⟨.int k tk :: fs, .cons ⟨t, o, its, n, e, h1, h2, h3, by rw [← Array.getElem?_toList, hh]; rfl, fun _ => ⟨k, tk, rfl⟩, fun z => nomatch z⟩ hf⟩
section
variable {prog : Program} {w : World} {A : Around} {E : Value → Shared → Prop} {s : Shared}
theorem sorted_any {l : Addr} {T : String} {o : Obj} {vs : List Value} {n : Nat} {key : Value → List Int} {Q : Value → Shared → Prop} (hT : T = "list" ∨ T = "tuple") (ho : s.heap.get? l = some o) (hc : o.cls = .type T) (hd : o.data = .seq vs.toArray n)
    (hk : ∀ v ∈ vs, TS.TupInts s.heap v (key v) ∧ key v ≠ []) (hL : vs.length ≤ sizeLine)
    (h : ∀ (out : Array Value) (h2 : Heap) (p : Addr), (∀ b x, s.heap.get? b = some x → h2.get? b = some x) → s.heap.get? p = none → (∃ ep, h2.get? p = some (seqObj "list" out ep)) → out.toList.Perm vs → out.toList.Pairwise (fun u v => ltI (key v) (key u) = false) → Q (.ref p) { s with heap := h2 }) :
    wpAny (model prog w) A (call (.builtin "sorted") [.ref l]) Q E s := by
  refine Calls.call_function_entry PyProof.Rows.kind_sorted PyProof.Rows.plain_sorted PyProof.Rows.entry_sorted (PyProof.Rows.args_sorted1 (.ref l)) ?_
  unfold Builtin.«sorted»
  refine wpAny_bind (m := checkCount "sorted" 1 1 _) ((wpAny_pure (wpAny_bind (wpAny_collect_seq (T := T) l hT ho hc hd (fun h1 k1 => ?_) (by rw [List.size_toArray]; exact hL)))))
  refine wpAny_bind (wpAny_newList ?go (by simpa using hL))
  show wpAny (model prog w) A.in1 _ _ E { s with heap := h1.push (seqObj "list" vs.toArray 0) }
  have hoL : (h1.push (seqObj "list" vs.toArray 0)).get? h1.objs.size = some (seqObj "list" vs.toArray 0) := Heap.get?_push_size _ rfl
  have keep : ∀ b x, s.heap.get? b = some x → (h1.push (seqObj "list" vs.toArray 0)).get? b = some x := fun b x e => Heap.get?_push_of_some _ (k1 b x e)
  have hnew : s.heap.get? h1.objs.size = none := by
    cases e : s.heap.get? h1.objs.size with
    | none => rfl
    | some x => exact absurd (Heap.lt_size (k1 _ _ e)) (Nat.lt_irrefl _)
  have hT2 : ∀ v ∈ vs, TS.TupInts (h1.push (seqObj "list" vs.toArray 0)) v (key v) := fun v hv => (hk v hv).1.keeps fun b x e _ => keep b x e
  obtain ⟨fs, hf⟩ := tups_first (h := h1.push (seqObj "list" vs.toArray 0)) (vs := vs) fun v hv => by
    have z := hT2 v hv
    cases e : key v with
    | nil => exact absurd e (hk v hv).2
    | cons k ns => exact ⟨k, ns, by rw [e] at z; exact z⟩
  refine wpAny_bind (wpAny_holding (wpAny_call_entry PyProof.Rows.slot_list_sort ⟨_, hoL, rfl⟩ PyProof.Rows.entry_list_sort (G.list_sort_tups (shape := fun _ => false) hoL hf (fun v hv => ⟨_, key_of (hT2 v hv)⟩) hL (fun st' a1 a2 a3 => ⟨_, rfl, ?_⟩)) (PyProof.Rows.args_list_sort (.ref h1.objs.size))))
  obtain ⟨ep, hep⟩ : ∃ ep, (sortedHeap (h1.push (seqObj "list" vs.toArray 0)) h1.objs.size vs ((arrOf st').map (·.2))).get? h1.objs.size = some (seqObj "list" ((arrOf st').map (·.2)) ep) := sortedHeap_at hoL
  have hp : (arrOf st').toList.Perm (vs.zip vs) := by rw [← pairsOf_toList]; exact Array.perm_iff_toList_perm.mp a1
  have hm : ∀ p ∈ (arrOf st').toList, p.1 = p.2 ∧ p.1 ∈ vs := fun p hp' => mem_zip_self (hp.mem_iff.mp hp')
  refine wpAny_pure ⟨_, rfl, h ((arrOf st').map (·.2)) _ _ (fun b x e => ?_) hnew ⟨ep, hep⟩ ?_ ?_⟩
  · have hb : b < h1.objs.size := Heap.lt_size (k1 b x e)
    rw [sortedHeap_old (Nat.ne_of_lt hb) (by rw [size_push']; exact Nat.lt_succ_of_lt hb)]
    exact keep b x e
  · rw [Array.toList_map]
    have z := hp.map Prod.snd
    rw [List.map_snd_zip (Nat.le_refl _)] at z
    exact z
  · rw [Array.toList_map, List.pairwise_map, List.pairwise_iff_getElem]
    intro i j hi hj hij
    have sz : (arrOf st').size = (pairsOf vs).size := a1.size_eq
    have z := a2 i j (Nat.le_of_lt hij) (by rw [← sz, ← Array.length_toList]; exact hj)
    have kk : ∀ (i : Nat) (hi : i < (arrOf st').toList.length), KK (tupKindC (h1.push (seqObj "list" vs.toArray 0)) fun _ => false) (arrOf st') i = (key ((arrOf st').toList[i]).2).map Sum.inl := fun i hi => by
      obtain ⟨e1, e2⟩ := hm _ (List.getElem_mem hi)
      unfold KK
      have e3 : (arrOf st')[i]? = some ((arrOf st').toList[i]) := by rw [← Array.getElem?_toList, List.getElem?_eq_getElem hi]
      rw [e3]
      show (tupKeyC _ _ _).getD _ = _
      rw [key_of (hT2 _ e2), ← e1]
      rfl
    rw [kk i hi, kk j hj] at z
    rw [← ltI_key]
    exact z
end
/-- sorted(x), told by keys -/
def rSortL (K : PySem.W.Frag) : List V → Hp → VK → Prop := fun vs H Q => ∃ (b : Addr) (ks : Tups), vs = [.ref b] ∧ (SqL K H b (refs ks) ∨ SqT K H b (refs ks)) ∧ TupsAt K H ks ∧ (∀ p ∈ ks, p.2 ≠ []) ∧
  ∀ (p : Addr) (ks' : Tups) (H' : Hp), Same H H' → H p = none → H' p = some (.lst (refs ks')) → ks'.Perm ks → AscL (keys ks') → Q (.ref p) H'
theorem cr_sortL {X : Cx} : CallR X (.builtin "sorted") (rSortL X.K) := by
  intro pins s σ H xs us Q I hv ⟨b, ks, ex, hb, ht, hne, q⟩
  subst ex
  rw [Vals.ref1 hv]
  obtain ⟨its, rv, hz, T, o, n, hT, ho, hc, hd⟩ : ∃ its : List Value, Vals (refs ks) its ∧ (refs ks).length ≤ sizeLine ∧ ∃ (T : String) (o : Obj) (n : Nat), (T = "list" ∨ T = "tuple") ∧ s.heap.get? b = some o ∧ o.cls = .type T ∧ o.data = .seq its.toArray n := by
    rcases hb with hb | hb
    · obtain ⟨its, rv, hl, hz⟩ := I.list hb
      obtain ⟨o, ho, hc, n, hd⟩ := hl.isList
      exact ⟨its, rv, hz, "list", o, n, .inl rfl, ho, hc, hd⟩
    · obtain ⟨its, rv, ⟨o, ho, hc, n, hd⟩, hz⟩ := I.tuple hb
      exact ⟨its, rv, hz, "tuple", o, n, .inr rfl, ho, hc, hd⟩
  obtain ⟨e1, e2⟩ := bkV_refs rv fun x m => by
    obtain ⟨p, _, rfl⟩ := List.mem_map.mp m
    exact ⟨_, rfl⟩
  -- a value's integers
  have hkey : ∀ v ∈ its, ∃ p ∈ ks, v = .ref p.1 := fun v hv => by
    obtain ⟨t, rfl⟩ := e2 v hv
    have hm : V.ref t ∈ refs ks := by
      rw [e1]
      exact List.mem_map.mpr ⟨_, hv, rfl⟩
    obtain ⟨p, hp, e⟩ := List.mem_map.mp hm
    injection e with e
    exact ⟨p, hp, by rw [e]⟩
  have hraw : ∀ p ∈ ks, TS.TupInts s.heap (.ref p.1) p.2 := fun p hp => tupI_raw I (ht p hp)
  refine sorted_any (key := TS.intsOf s.heap) hT ho hc hd (fun v hv => ?_) (by rw [← rv.length]; exact hz) fun out h2 p keep np hep h1 hw => ?_
  · obtain ⟨p, hp, rfl⟩ := hkey v hv
    have z := hraw p hp
    rw [z.ints]
    exact ⟨z, hne p hp⟩
  · obtain ⟨ep, hep⟩ := hep
    have hperm : (out.toList.map bkV).Perm (refs ks) := by
      rw [e1]
      exact h1.map bkV
    obtain ⟨ks', p1, p2⟩ := perm_map_inv (f := fun p : Addr × List Int => V.ref p.1) hperm (ks := ks) rfl
    have h3 : ∀ u ∈ out.toList, ∃ a, u = Value.ref a := fun u hu => e2 u (h1.mem_iff.mp hu)
    have hlen : (refs ks').length ≤ sizeLine := by rw [refs_len, p1.length_eq, ← refs_len]; exact hz
    have hvals : Vals (refs ks') out.toList := by
      have z := bkV_vals h3
      rw [p2] at z
      exact z
    have J := I.laidN (t' := s.toks) (a := p) (o := .lst (refs ks')) keep np (I.hok.gone np) ⟨hlen, out.toList, ep, hvals, hep⟩
    refine ⟨.ref p, _, J, rfl, q p ks' _ (same_new (I.hok.gone np)) (I.hok.gone np) upd_same p1 ?_⟩
    refine List.pairwise_map.mpr ?_
    have eo : out.toList = ks'.map fun p => Value.ref p.1 := by
      have z : ∀ {ks : Tups} {us : List Value}, Vals (refs ks) us → us = ks.map fun p => Value.ref p.1 := by
        intro ks
        induction ks with
        | nil => intro us z; cases z; rfl
        | cons x r ih =>
          intro us z
          cases z with
          | cons z1 z2 =>
            rw [ih z2]
            cases z1
            rfl
      exact z hvals
    rw [eo, List.pairwise_map] at hw
    exact hw.imp_of_mem fun {x y} hx hy z => by
      have zx := (hraw x (p1.mem_iff.mp hx)).ints
      have zy := (hraw y (p1.mem_iff.mp hy)).ints
      rw [zx, zy] at z
      exact z
end Sw
set_option Elab.async false
set_option linter.all false
set_option maxRecDepth 100000
set_option maxHeartbeats 4000000
/-! Spots, what fits, sightings. -/
namespace Sw
open PySem PySem.Spec PyProof.Rows L2
def isSpot : List Int → List Int → Bool
  | [r, _, g, l], [x, y, b] => decide (iabs x ≤ r ∧ iabs y ≤ r ∧ l ≤ b ∧ b ≤ 9 + g)
  | _, _ => false
theorem spot_len {r bl g l : Int} {sp : List Int} (h : ((sp.length : Nat) : Int) ≠ 3) : isSpot [r, bl, g, l] sp = false := by
  match sp, h with
  | [], _ => rfl
  | [_], _ => rfl
  | [_, _], _ => rfl
  | [_, _, _], h => exact absurd (by simp) h
  | _ :: _ :: _ :: _ :: _, _ => rfl
theorem spot_form {cam sp : List Int} (h : isSpot cam sp = true) : ∃ x y b, sp = [x, y, b] := by
  match cam, sp, h with
  | [r, _, g, l], [x, y, b], _ => exact ⟨x, y, b, rfl⟩
def nearC (bl g : Int) : List Int → List Int → Bool
  | [x, y, b], [u, v, c] => decide (iabs (x - u) ≤ bl ∧ iabs (y - v) ≤ bl ∧ iabs (b - c) ≤ g)
  | _, _ => false
/-- does a spot fit a star -/
def fitsI (n : Int) (cam at_ k sp : List Int) : Bool :=
  match offI n cam at_ k, cam, k with
  | some (u, v), [_, bl, g, _], [_, _, b] => nearC bl g [u, v, b] sp
  | _, _, _ => false
instance (l : List (List Int)) : Decidable (AscL l) := inferInstanceAs (Decidable (List.Pairwise _ _))
/-- is a row of tuples a sighting -/
def isSight (cam : List Int) (kk : List (List Int)) : Bool := kk.all (isSpot cam) && decide (AscL kk) && decide (kk.length ≤ 60)
def spIsSpot (K : PySem.W.Frag) (C : Addr) : Sp := fun vs H Q _ => ∃ (p ps : Addr) (n : Int) (st : List V) (r b g l : Int) (sp : List Int), vs = [.ref p, .ref ps] ∧ SkyAt K C H p n st [r, b, g, l] ∧ SqT K H ps (sp.map V.int) ∧ Q (.bl (isSpot [r, b, g, l] sp)) H
def spLSpot (K : PySem.W.Frag) : Sp := fun vs H Q _ => ∃ (pp ps : Addr) (n : Int) (ks : Tups) (r b g l : Int) (sp : List Int), vs = [.ref pp, .ref ps] ∧ PartsAt K H pp n ks [r, b, g, l] ∧ SqT K H ps (sp.map V.int) ∧ Q (.bl (isSpot [r, b, g, l] sp)) H
def spNear3 (K : PySem.W.Frag) : Sp := fun vs H Q _ => ∃ (p q : Addr) (x y c u v d b g : Int), vs = [.ref p, .ref q, .int b, .int g] ∧ SqT K H p [.int x, .int y, .int c] ∧ SqT K H q [.int u, .int v, .int d] ∧ Q (.bl (nearC b g [x, y, c] [u, v, d])) H
def spSight (K : PySem.W.Frag) (C D : Addr) : Sp := fun vs H Q E => ∃ (p ps : Addr) (n : Int) (st : List V) (r b g l : Int) (ks : Tups), vs = [.ref p, .ref ps] ∧ SkyAt K C H p n st [r, b, g, l] ∧ SqT K H ps (refs ks) ∧ TupsAt K H ks ∧
  (isSight [r, b, g, l] (keys ks) = true → ∀ H', Same H H' → Q .non H') ∧ (isSight [r, b, g, l] (keys ks) = false → ∀ H', Same H H' → E (.ref D) none H')
def spTaken (K : PySem.W.Frag) (C : Addr) : Sp := fun vs H Q _ => ∃ (p ps : Addr) (n : Int) (st : List V) (r b g l : Int) (ks : Tups), vs = [.ref p, .ref ps] ∧ SkyAt K C H p n st [r, b, g, l] ∧ SqT K H ps (refs ks) ∧ TupsAt K H ks ∧
  ∀ H', Same H H' → Q (.bl (isSight [r, b, g, l] (keys ks))) H'
def spFits (K : PySem.W.Frag) (C D F S : Addr) : Sp := fun vs H Q E => ∃ (p pa ps : Addr) (n : Int) (ks : Tups) (cam at_ sp : List Int) (j : Int), vs = [.ref p, .ref pa, .int j, .ref ps] ∧ SkyS K C H p n ks cam ∧ isSky n (keys ks) cam = true ∧ SqT K H pa (at_.map V.int) ∧ SqT K H ps (sp.map V.int) ∧
  (isPose n at_ = false → ∀ (d : Addr) (H' : Hp), Same H H' → H' d = some (.xd [("attitude", .ref pa)]) → E (.ref D) (some d) H') ∧
  (isPose n at_ = true → (j < 0 ∨ (ks.length : Int) ≤ j) → ∀ (d : Addr) (H' : Hp), Same H H' → H' d = some (.xd [("number", .int j)]) → E (.ref F) (some d) H') ∧
  (isPose n at_ = true → ∀ k : List Int, 0 ≤ j → (keys ks)[j.toNat]? = some k → (isSpot cam sp = false → ∀ H', Same H H' → E (.ref S) none H') ∧ (isSpot cam sp = true → ∀ H', Same H H' → Q (.bl (fitsI n cam at_ k sp)) H'))
def spLFits (K : PySem.W.Frag) : Sp := fun vs H Q _ => ∃ (pp pa ps pt : Addr) (n : Int) (ks : Tups) (r b g l x y q sx sy bb u v c : Int), vs = [.ref pp, .ref pa, .ref ps, .ref pt] ∧ PartsAt K H pp n ks [r, b, g, l] ∧ 4 ≤ n ∧ n ≤ 9 ∧ isCam n [r, b, g, l] = true ∧ SqT K H pa [.int x, .int y, .int q] ∧ 0 ≤ q ∧ q ≤ 3 ∧ SqT K H ps [.int sx, .int sy, .int bb] ∧ SqT K H pt [.int u, .int v, .int c] ∧
  ∀ H', Same H H' → Q (.bl (fitsI n [r, b, g, l] [x, y, q] [sx, sy, bb] [u, v, c])) H'
def toldF (n : Int) (cam at_ : List Int) (kk : List (List Int)) (j : Int) (sp : List Int) : PyData :=
  if isPose n at_ then (if j < 0 ∨ (kk.length : Int) ≤ j then .tuple [.int 2, .int j] else if isSpot cam sp then .tuple [.int 0, .bool (fitsI n cam at_ (kk.getD j.toNat []) sp)] else .tuple [.int 3, .none]) else .tuple [.int 1, dTI at_]
def spToldF (K : PySem.W.Frag) (C : Addr) : Sp := fun vs H Q _ => ∃ (p pa ps : Addr) (n : Int) (ks : Tups) (cam at_ sp : List Int) (j : Int), vs = [.ref p, .ref pa, .int j, .ref ps] ∧ SkyS K C H p n ks cam ∧ isSky n (keys ks) cam = true ∧ SqT K H pa (at_.map V.int) ∧ SqT K H ps (sp.map V.int) ∧
  ∀ (H' : Hp) (t : Addr), Same H H' → Dp K H' (.ref t) (toldF n cam at_ (keys ks) j sp) → Q (.ref t) H'
/-- a drawn spot -/
def spLDraw (K : PySem.W.Frag) : Sp := fun vs H Q _ => ∃ (pp pa p1 : Addr) (n : Int) (ks : Tups) (r b g l x y q at' : Int) (ns : List Int), vs = [.ref pp, .ref pa, .ref p1, .int at'] ∧ PartsAt K H pp n ks [r, b, g, l] ∧ isSky n (keys ks) [r, b, g, l] = true ∧ SqT K H pa [.int x, .int y, .int q] ∧ 0 ≤ q ∧ q ≤ 3 ∧
  SqL K H p1 (ns.map V.int) ∧ 0 ≤ at' ∧ at' + 4 < (ns.length : Int) ∧ ∀ (H' : Hp) (t : Addr) (u v c : Int), Same H H' → SqT K H' t [.int u, .int v, .int c] → Q (.ref t) H'
theorem eqvAll_tups : ∀ a b : List (List Int), PyData.eqvAll (a.map dTI) (b.map dTI) = decide (a = b)
  | [], [] => rfl
  | [], _ :: _ => rfl
  | _ :: _, [] => rfl
  | x :: r, y :: q => by
    show (PyData.eqv (dTI x) (dTI y) && PyData.eqvAll (r.map dTI) (q.map dTI)) = _
    rw [eqvAll_tups r q, eqv_ti]
    by_cases h : x = y <;> by_cases h2 : r = q <;> simp [h, h2]
/-- two lists of such are compared -/
theorem ne_tups {K : PySem.W.Frag} {x y : V} {a b : List (List Int)} {H : Hp} {Q : VK} (hx : Dp K H x (.list (a.map dTI))) (hy : Dp K H y (.list (b.map dTI))) (q : Q (.bl (!decide (a = b))) H) : rNeD K x y H Q :=
  ⟨_, _, hx, hy, shaped_of (lay_tups a) (by decide), shaped_of (lay_tups b) (by decide), by rw [show PyData.eqv (.list (a.map dTI)) (.list (b.map dTI)) = decide (a = b) from eqvAll_tups a b]; exact q⟩
theorem eq_tups {K : PySem.W.Frag} {x y : V} {a b : List (List Int)} {H : Hp} {Q : VK} (hx : Dp K H x (.list (a.map dTI))) (hy : Dp K H y (.list (b.map dTI))) (q : Q (.bl (decide (a = b))) H) : rEqD K x y H Q :=
  ⟨_, _, hx, hy, shaped_of (lay_tups a) (by decide), shaped_of (lay_tups b) (by decide), by rw [show PyData.eqv (.list (a.map dTI)) (.list (b.map dTI)) = decide (a = b) from eqvAll_tups a b]; exact q⟩
/-- a list is its own sorting just if it ascends -/
theorem sorted_same {ks ks' : Tups} (hp : ks'.Perm ks) (ha : AscL (keys ks')) : decide (keys ks = keys ks') = decide (AscL (keys ks)) := by
  by_cases h : AscL (keys ks)
  · rw [decide_eq_true h, decide_eq_true (ascL_unique h ha (hp.map _).symm)]
  · rw [decide_eq_false h, decide_eq_false (fun e => h (by rw [e]; exact ha))]
end Sw
namespace Sw
open PySem PySem.Spec PyProof.Rows L2
theorem refs_rep (m : Nat) (k : Tups) : (List.replicate m (refs k)).flatten = refs (List.replicate m k).flatten := by
  unfold refs
  rw [List.map_flatten, List.map_replicate]
theorem mem_rep {m : Nat} {k : Tups} {p : Addr × List Int} (h : p ∈ (List.replicate m k).flatten) : p ∈ k := by
  obtain ⟨l, hl, hp⟩ := List.mem_flatten.mp h
  rw [(List.mem_replicate.mp hl).2] at hp
  exact hp
theorem rep_len (m : Nat) (k : Tups) : (List.replicate m k).flatten.length = m * k.length := by
  rw [List.length_flatten, List.map_replicate, List.sum_replicate_nat]
/-- a row of the law: a tuple of tuples, none of them empty -/
def RowAt (K : PySem.W.Frag) (H : Hp) (y : V) : Prop := ∃ (t : Addr) (kr : Tups), y = .ref t ∧ SqT K H t (refs kr) ∧ TupsAt K H kr ∧ (∀ p ∈ kr, p.2 ≠ []) ∧ kr.length ≤ 4000
theorem rowAt_up {K : PySem.W.Frag} {H H' : Hp} {y : V} (s : Same H H') : RowAt K H y → RowAt K H' y := fun ⟨t, kr, e, h1, h2, h3, h4⟩ => ⟨t, kr, e, sqT_up s h1, tups_up s h2, h3, h4⟩
theorem isSight_cut {cam : List Int} {kk : List (List Int)} (h : kk.length ≤ 60) : isSight cam kk = ((kk.map (isSpot cam)).all id && decide (AscL kk)) := by
  unfold isSight
  rw [decide_eq_true h, Bool.and_true, List.all_map]
  rfl
end Sw
namespace SwT
open PySem PySem.Spec PyProof.Rows L2 Sw
/-! ### the text by places -/
def topS (i : Nat) : Stmt := PySem.Challenge.pw_starward_k03_spots_that_fit.main.body.getD i (.Pass ⟨0, 0, 0, 0⟩)
abbrev s_quarter_turned : Stmt := topS 8
theorem sc_quarter_turned : FnScope ["quarters", "pair", "x", "y", "count"] ["quarters", "pair"] (defScope s_quarter_turned) := ⟨rfl, rfl, rfl, by decide +kernel, rfl, by decide +kernel, by decide +kernel⟩
abbrev s_is_pose : Stmt := topS 9
theorem sc_is_pose : FnScope ["side", "told", "x", "y", "quarter"] ["side", "told"] (defScope s_is_pose) := ⟨rfl, rfl, rfl, by decide +kernel, rfl, by decide +kernel, by decide +kernel⟩
abbrev s_is_side : Stmt := topS 14
theorem sc_is_side : FnScope ["side"] ["side"] (defScope s_is_side) := ⟨rfl, rfl, rfl, by decide +kernel, rfl, by decide +kernel, by decide +kernel⟩
abbrev s_is_star : Stmt := topS 15
theorem sc_is_star : FnScope ["side", "star", "x", "y", "brightness"] ["side", "star"] (defScope s_is_star) := ⟨rfl, rfl, rfl, by decide +kernel, rfl, by decide +kernel, by decide +kernel⟩
abbrev s_is_camera : Stmt := topS 16
theorem sc_is_camera : FnScope ["side", "camera", "reach", "blur", "glare", "limit"] ["side", "camera"] (defScope s_is_camera) := ⟨rfl, rfl, rfl, by decide +kernel, rfl, by decide +kernel, by decide +kernel⟩
abbrev s__check_sky : Stmt := topS 17
theorem sc__check_sky : FnScope ["side", "stars", "camera", "star"] ["side", "stars", "camera"] (defScope s__check_sky) := ⟨rfl, rfl, rfl, by decide +kernel, rfl, by decide +kernel, by decide +kernel⟩
abbrev s_Skyx_initx : Stmt := inClass (topS 18) 0
theorem sc_Skyx_initx : FnScope ["self", "side", "stars", "camera"] ["self", "side", "stars", "camera"] (defScope s_Skyx_initx) := ⟨rfl, rfl, rfl, by decide +kernel, rfl, by decide +kernel, by decide +kernel⟩
abbrev s_Sky_side : Stmt := inClass (topS 18) 1
theorem sc_Sky_side : FnScope ["self"] ["self"] (defScope s_Sky_side) := ⟨rfl, rfl, rfl, by decide +kernel, rfl, by decide +kernel, by decide +kernel⟩
abbrev s_Sky_reach : Stmt := inClass (topS 18) 4
theorem sc_Sky_reach : FnScope ["self"] ["self"] (defScope s_Sky_reach) := ⟨rfl, rfl, rfl, by decide +kernel, rfl, by decide +kernel, by decide +kernel⟩
abbrev s_Sky_blur : Stmt := inClass (topS 18) 5
theorem sc_Sky_blur : FnScope ["self"] ["self"] (defScope s_Sky_blur) := ⟨rfl, rfl, rfl, by decide +kernel, rfl, by decide +kernel, by decide +kernel⟩
abbrev s_Sky_glare : Stmt := inClass (topS 18) 6
theorem sc_Sky_glare : FnScope ["self"] ["self"] (defScope s_Sky_glare) := ⟨rfl, rfl, rfl, by decide +kernel, rfl, by decide +kernel, by decide +kernel⟩
abbrev s_Sky_limit : Stmt := inClass (topS 18) 7
theorem sc_Sky_limit : FnScope ["self"] ["self"] (defScope s_Sky_limit) := ⟨rfl, rfl, rfl, by decide +kernel, rfl, by decide +kernel, by decide +kernel⟩
abbrev s_Sky_star_at : Stmt := inClass (topS 18) 8
theorem sc_Sky_star_at : FnScope ["self", "number"] ["self", "number"] (defScope s_Sky_star_at) := ⟨rfl, rfl, rfl, by decide +kernel, rfl, by decide +kernel, by decide +kernel⟩
abbrev s_is_spot : Stmt := topS 19
theorem sc_is_spot : FnScope ["sky", "spot", "dx", "dy", "brightness"] ["sky", "spot"] (defScope s_is_spot) := ⟨rfl, rfl, rfl, by decide +kernel, rfl, by decide +kernel, by decide +kernel⟩
abbrev s_check_sighting : Stmt := topS 20
theorem sc_check_sighting : FnScope ["sky", "sighting", "spot"] ["sky", "sighting"] (defScope s_check_sighting) := ⟨rfl, rfl, rfl, by decide +kernel, rfl, by decide +kernel, by decide +kernel⟩
abbrev s_check_attitude : Stmt := topS 22
theorem sc_check_attitude : FnScope ["sky", "attitude"] ["sky", "attitude"] (defScope s_check_attitude) := ⟨rfl, rfl, rfl, by decide +kernel, rfl, by decide +kernel, by decide +kernel⟩
abbrev s__offset_of : Stmt := topS 23
theorem sc__offset_of : FnScope ["sky", "attitude", "star", "aside", "dx", "dy", "bound"] ["sky", "attitude", "star"] (defScope s__offset_of) := ⟨rfl, rfl, rfl, by decide +kernel, rfl, by decide +kernel, by decide +kernel⟩
abbrev s__nearest : Stmt := topS 24
theorem sc__nearest : FnScope ["side", "part", "half"] ["side", "part"] (defScope s__nearest) := ⟨rfl, rfl, rfl, by decide +kernel, rfl, by decide +kernel, by decide +kernel⟩
abbrev s_are_near : Stmt := topS 25
theorem sc_are_near : FnScope ["one", "other", "blur", "glare"] ["one", "other", "blur", "glare"] (defScope s_are_near) := ⟨rfl, rfl, rfl, by decide +kernel, rfl, by decide +kernel, by decide +kernel⟩
abbrev s_fits : Stmt := topS 26
theorem sc_fits : FnScope ["sky", "attitude", "number", "spot", "star", "aside"] ["sky", "attitude", "number", "spot"] (defScope s_fits) := ⟨rfl, rfl, rfl, by decide +kernel, rfl, by decide +kernel, by decide +kernel⟩
abbrev s__law_row : Stmt := topS 28
theorem sc__law_row : FnScope ["cell", "many", "row", "rest", "state", "k"] ["cell", "many"] (defScope s__law_row) := ⟨rfl, rfl, rfl, by decide +kernel, rfl, by decide +kernel, by decide +kernel⟩
abbrev s__law_numbers : Stmt := topS 29
theorem sc__law_numbers : FnScope ["script", "many", "cells", "each", "numbers", "cell", "number"] ["script", "many"] (defScope s__law_numbers) := ⟨rfl, rfl, rfl, by decide +kernel, rfl, by decide +kernel, by decide +kernel⟩
abbrev s__law_parts : Stmt := topS 30
theorem sc__law_parts : FnScope ["numbers", "at", "most", "side", "half", "reach", "blur", "camera", "stars", "k", "place", "star"] ["numbers", "at", "most"] (defScope s__law_parts) := ⟨rfl, rfl, rfl, by decide +kernel, rfl, by decide +kernel, by decide +kernel⟩
abbrev s__law_turn : Stmt := topS 31
theorem sc__law_turn : FnScope ["quarter", "pair", "x", "y"] ["quarter", "pair"] (defScope s__law_turn) := ⟨rfl, rfl, rfl, by decide +kernel, rfl, by decide +kernel, by decide +kernel⟩
abbrev s__law_offset : Stmt := topS 32
theorem sc__law_offset : FnScope ["parts", "attitude", "star", "side", "stars", "camera", "room", "dx", "dy", "x", "y"] ["parts", "attitude", "star"] (defScope s__law_offset) := ⟨rfl, rfl, rfl, by decide +kernel, rfl, by decide +kernel, by decide +kernel⟩
abbrev s__law_is_spot : Stmt := topS 33
theorem sc__law_is_spot : FnScope ["parts", "spot", "reach", "blur", "glare", "limit"] ["parts", "spot"] (defScope s__law_is_spot) := ⟨rfl, rfl, rfl, by decide +kernel, rfl, by decide +kernel, by decide +kernel⟩
abbrev s__law_fits : Stmt := topS 34
theorem sc__law_fits : FnScope ["parts", "attitude", "star", "spot", "place", "near"] ["parts", "attitude", "star", "spot"] (defScope s__law_fits) := ⟨rfl, rfl, rfl, by decide +kernel, rfl, by decide +kernel, by decide +kernel⟩
abbrev s__law_told : Stmt := topS 35
theorem sc__law_told : FnScope ["sky", "attitude", "number", "spot", "error"] ["sky", "attitude", "number", "spot"] (defScope s__law_told) := ⟨rfl, rfl, rfl, by decide +kernel, rfl, by decide +kernel, by decide +kernel⟩
abbrev s__law_is_taken : Stmt := topS 36
theorem sc__law_is_taken : FnScope ["sky", "sighting"] ["sky", "sighting"] (defScope s__law_is_taken) := ⟨rfl, rfl, rfl, by decide +kernel, rfl, by decide +kernel, by decide +kernel⟩
abbrev s__law_spot : Stmt := topS 37
theorem sc__law_spot : FnScope ["parts", "attitude", "numbers", "at", "spot", "star", "place"] ["parts", "attitude", "numbers", "at"] (defScope s__law_spot) := ⟨rfl, rfl, rfl, by decide +kernel, rfl, by decide +kernel, by decide +kernel⟩
abbrev s_law : Stmt := topS 38
theorem sc_law : FnScope ["script", "numbers", "parts", "side", "stars", "camera", "sky", "attitude", "spots", "spot", "told", "number", "due", "good", "doubled", "rows", "row", "odd", "far", "k"] ["script"] (defScope s_law) := ⟨rfl, rfl, rfl, by decide +kernel, rfl, by decide +kernel, by decide +kernel⟩
/-- where the top has put each of them -/
structure Ad where
  f_quarter_turned : Addr
  fd_quarter_turned : FuncData
  f_is_pose : Addr
  fd_is_pose : FuncData
  f_is_side : Addr
  fd_is_side : FuncData
  f_is_star : Addr
  fd_is_star : FuncData
  f_is_camera : Addr
  fd_is_camera : FuncData
  f__check_sky : Addr
  fd__check_sky : FuncData
  f_Skyx_initx : Addr
  fd_Skyx_initx : FuncData
  f_Sky_side : Addr
  fd_Sky_side : FuncData
  f_Sky_reach : Addr
  fd_Sky_reach : FuncData
  f_Sky_blur : Addr
  fd_Sky_blur : FuncData
  f_Sky_glare : Addr
  fd_Sky_glare : FuncData
  f_Sky_limit : Addr
  fd_Sky_limit : FuncData
  f_Sky_star_at : Addr
  fd_Sky_star_at : FuncData
  f_is_spot : Addr
  fd_is_spot : FuncData
  f_check_sighting : Addr
  fd_check_sighting : FuncData
  f_check_attitude : Addr
  fd_check_attitude : FuncData
  f__offset_of : Addr
  fd__offset_of : FuncData
  f__nearest : Addr
  fd__nearest : FuncData
  f_are_near : Addr
  fd_are_near : FuncData
  f_fits : Addr
  fd_fits : FuncData
  f__law_row : Addr
  fd__law_row : FuncData
  f__law_numbers : Addr
  fd__law_numbers : FuncData
  f__law_parts : Addr
  fd__law_parts : FuncData
  f__law_turn : Addr
  fd__law_turn : FuncData
  f__law_offset : Addr
  fd__law_offset : FuncData
  f__law_is_spot : Addr
  fd__law_is_spot : FuncData
  f__law_fits : Addr
  fd__law_fits : FuncData
  f__law_told : Addr
  fd__law_told : FuncData
  f__law_is_taken : Addr
  fd__law_is_taken : FuncData
  f__law_spot : Addr
  fd__law_spot : FuncData
  f_law : Addr
  fd_law : FuncData
  c_InvalidAttitude : Addr
  i_InvalidAttitude : Addr
  c_UnknownStar : Addr
  i_UnknownStar : Addr
  c_InvalidSky : Addr
  c_InvalidSighting : Addr
  c_Sky : Addr
  g_Sky_side : Addr
  g_Sky_reach : Addr
  g_Sky_blur : Addr
  g_Sky_glare : Addr
  g_Sky_limit : Addr
  u_MOST_STARS : Value
  u_MOST_SPOTS : Value
  u_BRIGHTEST : Value
/-- what the top has written -/
structure Txt (P : Program) (K : PySem.W.Frag) (mg : Str → Option Value) (a : Ad) : Prop where
  F_quarter_turned : Fun K "quarter_turned" "quarter_turned" s_quarter_turned a.f_quarter_turned a.fd_quarter_turned
  b_quarter_turned : Binds K a.fd_quarter_turned ["quarters", "pair"] []
  m_quarter_turned : mg "quarter_turned" = some (.ref a.f_quarter_turned)
  F_is_pose : Fun K "is_pose" "is_pose" s_is_pose a.f_is_pose a.fd_is_pose
  b_is_pose : Binds K a.fd_is_pose ["side", "told"] []
  m_is_pose : mg "is_pose" = some (.ref a.f_is_pose)
  F_is_side : Fun K "is_side" "is_side" s_is_side a.f_is_side a.fd_is_side
  b_is_side : Binds K a.fd_is_side ["side"] []
  m_is_side : mg "is_side" = some (.ref a.f_is_side)
  F_is_star : Fun K "is_star" "is_star" s_is_star a.f_is_star a.fd_is_star
  b_is_star : Binds K a.fd_is_star ["side", "star"] []
  m_is_star : mg "is_star" = some (.ref a.f_is_star)
  F_is_camera : Fun K "is_camera" "is_camera" s_is_camera a.f_is_camera a.fd_is_camera
  b_is_camera : Binds K a.fd_is_camera ["side", "camera"] []
  m_is_camera : mg "is_camera" = some (.ref a.f_is_camera)
  F__check_sky : Fun K "_check_sky" "_check_sky" s__check_sky a.f__check_sky a.fd__check_sky
  b__check_sky : Binds K a.fd__check_sky ["side", "stars", "camera"] []
  m__check_sky : mg "_check_sky" = some (.ref a.f__check_sky)
  F_Skyx_initx : Fun K "__init__" "Sky.__init__" s_Skyx_initx a.f_Skyx_initx a.fd_Skyx_initx
  b_Skyx_initx : Binds K a.fd_Skyx_initx ["self", "side", "stars", "camera"] []
  F_Sky_side : Fun K "side" "Sky.side" s_Sky_side a.f_Sky_side a.fd_Sky_side
  b_Sky_side : Binds K a.fd_Sky_side ["self"] []
  p_Sky_side : PropOf K a.c_Sky "side" a.g_Sky_side a.f_Sky_side
  F_Sky_reach : Fun K "reach" "Sky.reach" s_Sky_reach a.f_Sky_reach a.fd_Sky_reach
  b_Sky_reach : Binds K a.fd_Sky_reach ["self"] []
  p_Sky_reach : PropOf K a.c_Sky "reach" a.g_Sky_reach a.f_Sky_reach
  F_Sky_blur : Fun K "blur" "Sky.blur" s_Sky_blur a.f_Sky_blur a.fd_Sky_blur
  b_Sky_blur : Binds K a.fd_Sky_blur ["self"] []
  p_Sky_blur : PropOf K a.c_Sky "blur" a.g_Sky_blur a.f_Sky_blur
  F_Sky_glare : Fun K "glare" "Sky.glare" s_Sky_glare a.f_Sky_glare a.fd_Sky_glare
  b_Sky_glare : Binds K a.fd_Sky_glare ["self"] []
  p_Sky_glare : PropOf K a.c_Sky "glare" a.g_Sky_glare a.f_Sky_glare
  F_Sky_limit : Fun K "limit" "Sky.limit" s_Sky_limit a.f_Sky_limit a.fd_Sky_limit
  b_Sky_limit : Binds K a.fd_Sky_limit ["self"] []
  p_Sky_limit : PropOf K a.c_Sky "limit" a.g_Sky_limit a.f_Sky_limit
  F_Sky_star_at : Fun K "star_at" "Sky.star_at" s_Sky_star_at a.f_Sky_star_at a.fd_Sky_star_at
  b_Sky_star_at : Binds K a.fd_Sky_star_at ["self", "number"] []
  t_Sky_star_at : Meth K a.c_Sky "star_at" a.f_Sky_star_at
  F_is_spot : Fun K "is_spot" "is_spot" s_is_spot a.f_is_spot a.fd_is_spot
  b_is_spot : Binds K a.fd_is_spot ["sky", "spot"] []
  m_is_spot : mg "is_spot" = some (.ref a.f_is_spot)
  F_check_sighting : Fun K "check_sighting" "check_sighting" s_check_sighting a.f_check_sighting a.fd_check_sighting
  b_check_sighting : Binds K a.fd_check_sighting ["sky", "sighting"] []
  m_check_sighting : mg "check_sighting" = some (.ref a.f_check_sighting)
  F_check_attitude : Fun K "check_attitude" "check_attitude" s_check_attitude a.f_check_attitude a.fd_check_attitude
  b_check_attitude : Binds K a.fd_check_attitude ["sky", "attitude"] []
  m_check_attitude : mg "check_attitude" = some (.ref a.f_check_attitude)
  F__offset_of : Fun K "_offset_of" "_offset_of" s__offset_of a.f__offset_of a.fd__offset_of
  b__offset_of : Binds K a.fd__offset_of ["sky", "attitude", "star"] []
  m__offset_of : mg "_offset_of" = some (.ref a.f__offset_of)
  F__nearest : Fun K "_nearest" "_nearest" s__nearest a.f__nearest a.fd__nearest
  b__nearest : Binds K a.fd__nearest ["side", "part"] []
  m__nearest : mg "_nearest" = some (.ref a.f__nearest)
  F_are_near : Fun K "are_near" "are_near" s_are_near a.f_are_near a.fd_are_near
  b_are_near : Binds K a.fd_are_near ["one", "other", "blur", "glare"] []
  m_are_near : mg "are_near" = some (.ref a.f_are_near)
  F_fits : Fun K "fits" "fits" s_fits a.f_fits a.fd_fits
  b_fits : Binds K a.fd_fits ["sky", "attitude", "number", "spot"] []
  m_fits : mg "fits" = some (.ref a.f_fits)
  F__law_row : Fun K "_law_row" "_law_row" s__law_row a.f__law_row a.fd__law_row
  b__law_row : Binds K a.fd__law_row ["cell", "many"] []
  m__law_row : mg "_law_row" = some (.ref a.f__law_row)
  F__law_numbers : Fun K "_law_numbers" "_law_numbers" s__law_numbers a.f__law_numbers a.fd__law_numbers
  b__law_numbers : Binds K a.fd__law_numbers ["script", "many"] []
  m__law_numbers : mg "_law_numbers" = some (.ref a.f__law_numbers)
  F__law_parts : Fun K "_law_parts" "_law_parts" s__law_parts a.f__law_parts a.fd__law_parts
  b__law_parts : Binds K a.fd__law_parts ["numbers", "at", "most"] []
  m__law_parts : mg "_law_parts" = some (.ref a.f__law_parts)
  F__law_turn : Fun K "_law_turn" "_law_turn" s__law_turn a.f__law_turn a.fd__law_turn
  b__law_turn : Binds K a.fd__law_turn ["quarter", "pair"] []
  m__law_turn : mg "_law_turn" = some (.ref a.f__law_turn)
  F__law_offset : Fun K "_law_offset" "_law_offset" s__law_offset a.f__law_offset a.fd__law_offset
  b__law_offset : Binds K a.fd__law_offset ["parts", "attitude", "star"] []
  m__law_offset : mg "_law_offset" = some (.ref a.f__law_offset)
  F__law_is_spot : Fun K "_law_is_spot" "_law_is_spot" s__law_is_spot a.f__law_is_spot a.fd__law_is_spot
  b__law_is_spot : Binds K a.fd__law_is_spot ["parts", "spot"] []
  m__law_is_spot : mg "_law_is_spot" = some (.ref a.f__law_is_spot)
  F__law_fits : Fun K "_law_fits" "_law_fits" s__law_fits a.f__law_fits a.fd__law_fits
  b__law_fits : Binds K a.fd__law_fits ["parts", "attitude", "star", "spot"] []
  m__law_fits : mg "_law_fits" = some (.ref a.f__law_fits)
  F__law_told : Fun K "_law_told" "_law_told" s__law_told a.f__law_told a.fd__law_told
  b__law_told : Binds K a.fd__law_told ["sky", "attitude", "number", "spot"] []
  m__law_told : mg "_law_told" = some (.ref a.f__law_told)
  F__law_is_taken : Fun K "_law_is_taken" "_law_is_taken" s__law_is_taken a.f__law_is_taken a.fd__law_is_taken
  b__law_is_taken : Binds K a.fd__law_is_taken ["sky", "sighting"] []
  m__law_is_taken : mg "_law_is_taken" = some (.ref a.f__law_is_taken)
  F__law_spot : Fun K "_law_spot" "_law_spot" s__law_spot a.f__law_spot a.fd__law_spot
  b__law_spot : Binds K a.fd__law_spot ["parts", "attitude", "numbers", "at"] []
  m__law_spot : mg "_law_spot" = some (.ref a.f__law_spot)
  F_law : Fun K "law" "law" s_law a.f_law a.fd_law
  cl_Sky : Cls K a.c_Sky
  m_Sky : mg "Sky" = some (.ref a.c_Sky)
  M_Sky : Mk K a.c_Sky a.f_Skyx_initx
  n_Sky__side : NoAttr K a.c_Sky "_side"
  n_Sky__stars : NoAttr K a.c_Sky "_stars"
  n_Sky__camera : NoAttr K a.c_Sky "_camera"
  S_InvalidAttitude : PySem.SwX.SErr P K mg "InvalidAttitude" "attitude" a.c_InvalidAttitude a.i_InvalidAttitude
  S_UnknownStar : PySem.SwX.SErr P K mg "UnknownStar" "number" a.c_UnknownStar a.i_UnknownStar
  E_InvalidSky : PlainErr K mg "InvalidSky" a.c_InvalidSky
  E_InvalidSighting : PlainErr K mg "InvalidSighting" a.c_InvalidSighting
  E_InvalidSighting_te : PySem.W.exmOne K (.ref a.c_InvalidSighting) (.ref a.c_InvalidSighting) = some true
  x_UnknownStar_InvalidAttitude : PySem.W.exmOne K (.ref a.c_UnknownStar) (.ref a.c_InvalidAttitude) = some false
  x_InvalidSighting_InvalidAttitude : PySem.W.exmOne K (.ref a.c_InvalidSighting) (.ref a.c_InvalidAttitude) = some false
  x_InvalidSighting_UnknownStar : PySem.W.exmOne K (.ref a.c_InvalidSighting) (.ref a.c_UnknownStar) = some false
  m_MOST_STARS : mg "MOST_STARS" = some a.u_MOST_STARS
  v_MOST_STARS : ∃ t, a.u_MOST_STARS = .int 20 t
  m_MOST_SPOTS : mg "MOST_SPOTS" = some a.u_MOST_SPOTS
  v_MOST_SPOTS : ∃ t, a.u_MOST_SPOTS = .int 60 t
  m_BRIGHTEST : mg "BRIGHTEST" = some a.u_BRIGHTEST
  v_BRIGHTEST : ∃ t, a.u_BRIGHTEST = .int 9 t
  z_len : mg "len" = none
  z_abs : mg "abs" = none
  z_int : mg "int" = none
  z_max : mg "max" = none
  z_min : mg "min" = none
  z_range : mg "range" = none
  z_list : mg "list" = none
  z_tuple : mg "tuple" = none
  z_all : mg "all" = none
  z_isinstance : mg "isinstance" = none
  z_sorted : mg "sorted" = none
  z_set : mg "set" = none
  z_bool : mg "bool" = none
section
variable {P : Program} {w : World} {K : PySem.W.Frag} {mg : Str → Option Value} {base : Heap} {a : Ad}
theorem ok_quarter_turned (T : Txt P K mg a) : FnOk P w K mg base CX0 1 a.f_quarter_turned a.fd_quarter_turned ["quarters", "pair"] (spTurn K) := by
  refine T.F_quarter_turned.ok sc_quarter_turned (fun vs H Q E h => ?_) (fun cdv A outer s H vs Q E hr h => ?_)
  · obtain ⟨q, x, y, p, rfl, _⟩ := h
    rfl
  · obtain ⟨q, x, y, p, rfl, hS, k⟩ := h
    refine ⟨_, (pss_cons (ps_asg (pv 1) (pg_tup rfl (pgs_cons (pg_name (i := 2) sc_quarter_turned.nd rfl (.inl rfl)) (pgs_cons (pg_name (i := 3) sc_quarter_turned.nd rfl (.inl rfl)) pgs_nil))))
      (pss_cons (ps_set (i := 4) sc_quarter_turned.nd rfl (.inl rfl) (pe_op op_mod (pv 0) pe_int))
      (pss_cons (ps_if (pt_cmpR op_eq (pv 4) pe_int (nomark _)) (pss_one (ps_ret (pe_tupM (pa_cons (pe_un un_neg (pv 3)) (pa_cons (pv 2) pa_nil))))) pss_nil)
      (pss_cons (ps_if (pt_cmpR op_eq (pv 4) pe_int (nomark _)) (pss_one (ps_ret (pe_tupM (pa_cons (pe_un un_neg (pv 2)) (pa_cons (pe_un un_neg (pv 3)) pa_nil))))) pss_nil)
      (pss_cons (ps_if (pt_cmpR op_eq (pv 4) pe_int (nomark _)) (pss_one (ps_ret (pe_tupM (pa_cons (pv 3) (pa_cons (pe_un un_neg (pv 2)) pa_nil))))) pss_nil)
      (pss_one (ps_ret (pe_tupM (pa_cons (pv 2) (pa_cons (pv 3) pa_nil)))))))))), ?_⟩
    refine ⟨.ref p, rfl, p, _, rfl, hS, rfl, _, _, rfl, _, _, rfl, rfl, ?_⟩
    refine ⟨_, rfl, _, _, rfl, rfl, (by show (0 : Int) < 4; decide), ?_⟩
    refine ⟨_, rfl, rfl, _, rfl, ite2 (fun hg => ?_) (fun hg => ?_)⟩
    · have e : q % 4 = 1 := V.int.inj (of_decide_eq_true hg)
      refine ⟨_, rfl, _, rfl, _, rfl, (by show 2 ≤ sizeLine; decide), fun p' H' s1 t1 => k H' p' s1 ?_⟩
      unfold turnX turnY
      rw [if_pos e, if_pos e]
      exact t1
    have n1 : ¬ q % 4 = 1 := fun z => hg (decide_eq_true (congrArg V.int z))
    refine ⟨_, rfl, rfl, _, rfl, ite2 (fun hg => ?_) (fun hg => ?_)⟩
    · have e : q % 4 = 2 := V.int.inj (of_decide_eq_true hg)
      refine ⟨_, rfl, _, rfl, _, rfl, _, rfl, (by show 2 ≤ sizeLine; decide), fun p' H' s1 t1 => k H' p' s1 ?_⟩
      unfold turnX turnY
      rw [if_neg n1, if_neg n1, if_pos e, if_pos e]
      exact t1
    have n2 : ¬ q % 4 = 2 := fun z => hg (decide_eq_true (congrArg V.int z))
    refine ⟨_, rfl, rfl, _, rfl, ite2 (fun hg => ?_) (fun hg => ?_)⟩
    · have e : q % 4 = 3 := V.int.inj (of_decide_eq_true hg)
      refine ⟨_, rfl, _, rfl, _, rfl, (by show 2 ≤ sizeLine; decide), fun p' H' s1 t1 => k H' p' s1 ?_⟩
      unfold turnX turnY
      rw [if_neg n1, if_neg n1, if_neg n2, if_neg n2, if_pos e, if_pos e]
      exact t1
    have n3 : ¬ q % 4 = 3 := fun z => hg (decide_eq_true (congrArg V.int z))
    refine ⟨_, rfl, _, rfl, (by show 2 ≤ sizeLine; decide), fun p' H' s1 t1 => k H' p' s1 ?_⟩
    unfold turnX turnY
    rw [if_neg n1, if_neg n1, if_neg n2, if_neg n2, if_neg n3, if_neg n3]
    exact t1

theorem ok_is_pose (T : Txt P K mg a) : FnOk P w K mg base CX0 1 a.f_is_pose a.fd_is_pose ["side", "told"] (spIs K isPose) := by
  refine T.F_is_pose.ok sc_is_pose (fun vs H Q E h => ?_) (fun cdv A outer s H vs Q E hr h => ?_)
  · obtain ⟨n, p, ns, rfl, _⟩ := h
    rfl
  · obtain ⟨n, p, ns, rfl, hS, k⟩ := h
    refine ⟨_, (pss_cons (ps_if (pt_cmpR op_ne (pe_callB call_len_seq (by rfl) T.z_len (by decide +kernel) (pa_cons (pv 1) pa_nil)) pe_int (nomark _)) (pss_one (ps_ret pe_bl)) pss_nil)
      (pss_cons (ps_asg (pv 1) (pg_tup rfl (pgs_cons (pg_name (i := 2) sc_is_pose.nd rfl (.inl rfl)) (pgs_cons (pg_name (i := 3) sc_is_pose.nd rfl (.inl rfl)) (pgs_cons (pg_name (i := 4) sc_is_pose.nd rfl (.inl rfl)) pgs_nil)))))
      (pss_one (ps_ret (pe_and (pe_chain op_le op_lt pe_int (pv 2) (pv 0)) (pe_and (pe_chain op_le op_lt pe_int (pv 3) (pv 0)) (pe_one (pe_chain op_le op_le pe_int (pv 4) pe_int)))))))), ?_⟩
    refine ⟨.ref p, rfl, p, _, rfl, .inr hS, rfl, _, rfl, ite2 (fun hg => ?_) (fun hg => ?_)⟩
    · have e : isPose n ns = false := pose_len (by have z := int_ne hg; rw [List.length_map] at z; exact z)
      exact e ▸ k
    · obtain ⟨x, y, q, rfl⟩ := of3 (by have z := int_eq hg; rw [List.length_map] at z; exact z)
      refine ⟨.ref p, rfl, p, _, rfl, hS, rfl, _, _, rfl, _, _, rfl, _, _, rfl, rfl, ?_⟩
      have fin : ∀ b : Bool, isPose n [x, y, q] = b → Q (.bl b) H := fun b e => e ▸ k
      have no : ∀ {c : Prop} [Decidable c], ¬ (decide c = true) → ¬ c := fun h z => h (decide_eq_true z)
      have F : (¬ (0 ≤ x ∧ x < n ∧ 0 ≤ y ∧ y < n ∧ 0 ≤ q ∧ q ≤ 3)) → Q (.bl false) H := fun z => fin _ (decide_eq_false z)
      refine ⟨_, rfl, _, _, rfl, rfl, _, rfl, ite2 (fun h1 => ?_) (fun h1 => ⟨_, rfl, iteF (F fun z => h1 (decide_eq_true z.1))⟩)⟩
      refine ⟨_, rfl, _, _, rfl, rfl, _, rfl, ite2 (fun h2 => ?_) (fun h2 => F fun z => h2 (decide_eq_true z.2.1))⟩
      refine ⟨_, rfl, _, _, rfl, rfl, _, rfl, ite2 (fun h3 => ?_) (fun h3 => ⟨_, rfl, iteF (F fun z => h3 (decide_eq_true z.2.2.1))⟩)⟩
      refine ⟨_, rfl, _, _, rfl, rfl, _, rfl, ite2 (fun h4 => ?_) (fun h4 => F fun z => h4 (decide_eq_true z.2.2.2.1))⟩
      refine ⟨_, rfl, _, _, rfl, rfl, _, rfl, ite2 (fun h5 => ?_) (fun h5 => F fun z => h5 (decide_eq_true z.2.2.2.2.1))⟩
      refine ⟨_, _, rfl, rfl, ?_⟩
      refine fin _ ?_
      show decide _ = decide _
      have a1 := of_decide_eq_true h1
      have a2 := of_decide_eq_true h2
      have a3 := of_decide_eq_true h3
      have a4 := of_decide_eq_true h4
      have a5 := of_decide_eq_true h5
      by_cases z : q ≤ 3
      · rw [decide_eq_true z, decide_eq_true ⟨a1, a2, a3, a4, a5, z⟩]
      · rw [decide_eq_false z, decide_eq_false (fun w => z w.2.2.2.2.2)]

theorem ok_is_side (T : Txt P K mg a) : FnOk P w K mg base CX0 1 a.f_is_side a.fd_is_side ["side"] spSide := by
  refine T.F_is_side.ok sc_is_side (fun vs H Q E h => ?_) (fun cdv A outer s H vs Q E hr h => ?_)
  · obtain ⟨n, rfl, _⟩ := h
    rfl
  · obtain ⟨n, rfl, k⟩ := h
    refine ⟨_, (pss_one (ps_ret (pe_chain op_le op_le pe_int (pv 0) pe_int))), ?_⟩
    refine ⟨_, rfl, _, _, rfl, rfl, _, rfl, ite2 (fun h1 => ⟨_, _, rfl, rfl, ?_⟩) (fun h1 => ?_)⟩
    · have a1 : 4 ≤ n := of_decide_eq_true h1
      show Q (.bl (decide (n ≤ 9))) H
      by_cases z : n ≤ 9
      · rw [decide_eq_true z]
        rw [decide_eq_true ⟨a1, z⟩] at k
        exact k
      · rw [decide_eq_false z]
        rw [decide_eq_false (fun y => z y.2)] at k
        exact k
    · rw [decide_eq_false (fun y => h1 (decide_eq_true y.1))] at k
      exact k

theorem ok_is_star (T : Txt P K mg a) : FnOk P w K mg base CX0 1 a.f_is_star a.fd_is_star ["side", "star"] (spIs K isStar) := by
  refine T.F_is_star.ok sc_is_star (fun vs H Q E h => ?_) (fun cdv A outer s H vs Q E hr h => ?_)
  · obtain ⟨n, p, ns, rfl, _⟩ := h
    rfl
  · obtain ⟨n, p, ns, rfl, hS, k⟩ := h
    refine ⟨_, (pss_cons (ps_if (pt_cmpR op_ne (pe_callB call_len_seq (by rfl) T.z_len (by decide +kernel) (pa_cons (pv 1) pa_nil)) pe_int (nomark _)) (pss_one (ps_ret pe_bl)) pss_nil)
      (pss_cons (ps_asg (pv 1) (pg_tup rfl (pgs_cons (pg_name (i := 2) sc_is_star.nd rfl (.inl rfl)) (pgs_cons (pg_name (i := 3) sc_is_star.nd rfl (.inl rfl)) (pgs_cons (pg_name (i := 4) sc_is_star.nd rfl (.inl rfl)) pgs_nil)))))
      (pss_one (ps_ret (pe_and (pe_chain op_le op_lt pe_int (pv 2) (pv 0)) (pe_and (pe_chain op_le op_lt pe_int (pv 3) (pv 0)) (pe_one (pe_chain op_le op_le pe_int (pv 4) (pe_glob (v := .int 9) rfl T.m_BRIGHTEST T.v_BRIGHTEST))))))))), ?_⟩
    refine ⟨.ref p, rfl, p, _, rfl, .inr hS, rfl, _, rfl, ite2 (fun hg => ?_) (fun hg => ?_)⟩
    · have e : isStar n ns = false := star_len (by have z := int_ne hg; rw [List.length_map] at z; exact z)
      exact e ▸ k
    · obtain ⟨x, y, q, rfl⟩ := of3 (by have z := int_eq hg; rw [List.length_map] at z; exact z)
      refine ⟨.ref p, rfl, p, _, rfl, hS, rfl, _, _, rfl, _, _, rfl, _, _, rfl, rfl, ?_⟩
      have fin : ∀ b : Bool, isStar n [x, y, q] = b → Q (.bl b) H := fun b e => e ▸ k
      have no : ∀ {c : Prop} [Decidable c], ¬ (decide c = true) → ¬ c := fun h z => h (decide_eq_true z)
      have F : (¬ (0 ≤ x ∧ x < n ∧ 0 ≤ y ∧ y < n ∧ 1 ≤ q ∧ q ≤ 9)) → Q (.bl false) H := fun z => fin _ (decide_eq_false z)
      refine ⟨_, rfl, _, _, rfl, rfl, _, rfl, ite2 (fun h1 => ?_) (fun h1 => ⟨_, rfl, iteF (F fun z => h1 (decide_eq_true z.1))⟩)⟩
      refine ⟨_, rfl, _, _, rfl, rfl, _, rfl, ite2 (fun h2 => ?_) (fun h2 => F fun z => h2 (decide_eq_true z.2.1))⟩
      refine ⟨_, rfl, _, _, rfl, rfl, _, rfl, ite2 (fun h3 => ?_) (fun h3 => ⟨_, rfl, iteF (F fun z => h3 (decide_eq_true z.2.2.1))⟩)⟩
      refine ⟨_, rfl, _, _, rfl, rfl, _, rfl, ite2 (fun h4 => ?_) (fun h4 => F fun z => h4 (decide_eq_true z.2.2.2.1))⟩
      refine ⟨_, rfl, _, _, rfl, rfl, _, rfl, ite2 (fun h5 => ?_) (fun h5 => F fun z => h5 (decide_eq_true z.2.2.2.2.1))⟩
      refine ⟨_, _, rfl, rfl, ?_⟩
      refine fin _ ?_
      show decide _ = decide _
      have a1 := of_decide_eq_true h1
      have a2 := of_decide_eq_true h2
      have a3 := of_decide_eq_true h3
      have a4 := of_decide_eq_true h4
      have a5 := of_decide_eq_true h5
      by_cases z : q ≤ 9
      · rw [decide_eq_true z, decide_eq_true ⟨a1, a2, a3, a4, a5, z⟩]
      · rw [decide_eq_false z, decide_eq_false (fun w => z w.2.2.2.2.2)]

theorem ok_is_camera (T : Txt P K mg a) : FnOk P w K mg base CX0 1 a.f_is_camera a.fd_is_camera ["side", "camera"] (spIs K isCam) := by
  refine T.F_is_camera.ok sc_is_camera (fun vs H Q E h => ?_) (fun cdv A outer s H vs Q E hr h => ?_)
  · obtain ⟨n, p, ns, rfl, _⟩ := h
    rfl
  · obtain ⟨n, p, ns, rfl, hS, k⟩ := h
    refine ⟨_, (pss_cons (ps_if (pt_cmpR op_ne (pe_callB call_len_seq (by rfl) T.z_len (by decide +kernel) (pa_cons (pv 1) pa_nil)) pe_int (nomark _)) (pss_one (ps_ret pe_bl)) pss_nil)
      (pss_cons (ps_asg (pv 1) (pg_tup rfl (pgs_cons (pg_name (i := 2) sc_is_camera.nd rfl (.inl rfl)) (pgs_cons (pg_name (i := 3) sc_is_camera.nd rfl (.inl rfl)) (pgs_cons (pg_name (i := 4) sc_is_camera.nd rfl (.inl rfl)) (pgs_cons (pg_name (i := 5) sc_is_camera.nd rfl (.inl rfl)) pgs_nil))))))
      (pss_cons (ps_if (pt_not (PW.pt (pw_and (pt_chain op_le op_le pe_int (pv 2) pe_int) (pw_and (pt_chain op_le op_le pe_int (pv 3) pe_int) (pw_and (pt_chain op_le op_le pe_int (pv 4) pe_int) (pw_and1 (pt_chain op_le op_le pe_int (pv 5) (pe_glob (v := .int 9) rfl T.m_BRIGHTEST T.v_BRIGHTEST)))))))) (pss_one (ps_ret pe_bl)) pss_nil)
      (pss_one (ps_ret (pe_and (pe_cmpR op_le (pv 3) (pv 2) (nomark _)) (pe_one (pe_cmpR op_le (pe_op op_add (pe_op op_mul pe_int (pe_op op_add (pv 2) (pv 3))) pe_int) (pv 0) (nomark _))))))))), ?_⟩
    refine ⟨.ref p, rfl, p, _, rfl, .inr hS, rfl, _, rfl, ite2 (fun hg => ?_) (fun hg => ?_)⟩
    · have e : isCam n ns = false := cam_len (by have z := int_ne hg; rw [List.length_map] at z; exact z)
      exact e ▸ k
    · obtain ⟨r, b, g, l, rfl⟩ := of4 (by have z := int_eq hg; rw [List.length_map] at z; exact z)
      refine ⟨.ref p, rfl, p, _, rfl, hS, rfl, _, _, rfl, _, _, rfl, _, _, rfl, _, _, rfl, rfl, ?_⟩
      have F : ¬ (0 ≤ r ∧ r ≤ 4 ∧ 0 ≤ b ∧ b ≤ 2 ∧ 0 ≤ g ∧ g ≤ 2 ∧ 1 ≤ l ∧ l ≤ 9 ∧ b ≤ r ∧ 2 * (r + b) + 1 ≤ n) → Q (.bl false) H := fun z => (show isCam n [r, b, g, l] = false from decide_eq_false z) ▸ k
      refine ⟨_, rfl, _, _, rfl, rfl, _, rfl, ite2 (fun h1 => ⟨_, _, rfl, rfl, _, rfl, ?_⟩) (fun h1 => ⟨_, rfl, iteF (iteT (F fun z => h1 (decide_eq_true z.1)))⟩)⟩
      refine ite2 (fun h2 => ?_) (fun h2 => iteT (F fun z => h2 (decide_eq_true z.2.1)))
      refine ⟨_, rfl, _, _, rfl, rfl, _, rfl, ite2 (fun h3 => ⟨_, _, rfl, rfl, _, rfl, ?_⟩) (fun h3 => ⟨_, rfl, iteF (iteT (F fun z => h3 (decide_eq_true z.2.2.1)))⟩)⟩
      refine ite2 (fun h4 => ?_) (fun h4 => iteT (F fun z => h4 (decide_eq_true z.2.2.2.1)))
      refine ⟨_, rfl, _, _, rfl, rfl, _, rfl, ite2 (fun h5 => ⟨_, _, rfl, rfl, _, rfl, ?_⟩) (fun h5 => ⟨_, rfl, iteF (iteT (F fun z => h5 (decide_eq_true z.2.2.2.2.1)))⟩)⟩
      refine ite2 (fun h6 => ?_) (fun h6 => iteT (F fun z => h6 (decide_eq_true z.2.2.2.2.2.1)))
      refine ⟨_, rfl, _, _, rfl, rfl, _, rfl, ite2 (fun h7 => ⟨_, _, rfl, rfl, _, rfl, ?_⟩) (fun h7 => ⟨_, rfl, iteT (F fun z => h7 (decide_eq_true z.2.2.2.2.2.2.1))⟩)⟩
      refine ite2 (fun hz => F fun z => ?_) (fun hz => ?_)
      · rw [decide_eq_true z.2.2.2.2.2.2.2.1] at hz
        cases hz
      have h8 : l ≤ 9 := by
        by_cases z : l ≤ 9
        · exact z
        · exact absurd (by rw [decide_eq_false z]; rfl) hz
      refine ⟨_, rfl, _, rfl, _, _, rfl, rfl, _, rfl, ite2 (fun h9 => ?_) (fun h9 => F fun z => h9 (decide_eq_true z.2.2.2.2.2.2.2.2.1))⟩
      refine ⟨_, rfl, _, rfl, _, _, rfl, rfl, _, _, rfl, rfl, .inl (by constructor <;> decide), _, _, rfl, rfl, _, rfl, _, _, rfl, rfl, ?_⟩
      have a1 := of_decide_eq_true h1
      have a2 := of_decide_eq_true h2
      have a3 := of_decide_eq_true h3
      have a4 := of_decide_eq_true h4
      have a5 := of_decide_eq_true h5
      have a6 := of_decide_eq_true h6
      have a7 := of_decide_eq_true h7
      have a9 := of_decide_eq_true h9
      show Q (.bl (decide (2 * (r + b) + 1 ≤ n))) H
      by_cases z : 2 * (r + b) + 1 ≤ n
      · rw [decide_eq_true z]
        exact (show isCam n [r, b, g, l] = true from decide_eq_true ⟨a1, a2, a3, a4, a5, a6, a7, h8, a9, z⟩) ▸ k
      · rw [decide_eq_false z]
        exact F fun y => z y.2.2.2.2.2.2.2.2.2

theorem ok__check_sky (T : Txt P K mg a) : FnOk P w K mg base (L2.CX P w) 2 a.f__check_sky a.fd__check_sky ["side", "stars", "camera"] (spCheck K a.c_InvalidSky) := by
  refine T.F__check_sky.okX sc__check_sky (fun vs H Q E h => ?_) (fun cdv A outer s H vs Q E hr h => ?_)
  · obtain ⟨n, l, c, ks, cam, rfl, _⟩ := h
    rfl
  · obtain ⟨n, l, c, ks, cam, rfl, hl, ht, hc, hk, k1, k2⟩ := h
    refine ⟨_, (pss_cons (ps_if (pt_not (pt_val (pe_call (ok_is_side T) (hr.mono (by decide)) (by rfl) T.m_is_side T.F_is_side.kp T.b_is_side .nil pass0 (pa_cons (pv 0) pa_nil)))) (pss_one (ps_raise rfl (takes_of rfl rfl rfl rfl) (pmk_own PySem.F.excBase_ValueError T.E_InvalidSky.x T.E_InvalidSky.g T.E_InvalidSky.k (raises_own T.E_InvalidSky.b T.E_InvalidSky.t) rfl))) pss_nil)
      (pss_cons (ps_for (passes_of rfl) rfl (pi_list (pv 1)) (pg_name (i := 3) sc__check_sky.nd rfl (.inl rfl)) (pss_one (ps_if (pt_not (pt_val (pe_call (ok_is_star T) (hr.mono (by decide)) (by rfl) T.m_is_star T.F_is_star.kp T.b_is_star .nil pass0 (pa_cons (pv 0) (pa_cons (pv 3) pa_nil))))) (pss_one (ps_raise rfl (takes_of rfl rfl rfl rfl) (pmk_own PySem.F.excBase_ValueError T.E_InvalidSky.x T.E_InvalidSky.g T.E_InvalidSky.k (raises_own T.E_InvalidSky.b T.E_InvalidSky.t) rfl))) pss_nil)))
      (pss_cons (ps_if (pt_cmpR op_lt (pe_callB cr_lenT (by rfl) T.z_len (by decide +kernel) (pa_cons (pe_callTy (cr_setOfT rfl hr.units) (by rfl) T.z_set (by decide +kernel) (pa_cons (pv 1) pa_nil)) pa_nil)) (pe_callB call_len_seq (by rfl) T.z_len (by decide +kernel) (pa_cons (pv 1) pa_nil)) (nomark _)) (pss_one (ps_raise rfl (takes_of rfl rfl rfl rfl) (pmk_own PySem.F.excBase_ValueError T.E_InvalidSky.x T.E_InvalidSky.g T.E_InvalidSky.k (raises_own T.E_InvalidSky.b T.E_InvalidSky.t) rfl))) pss_nil)
      (pss_cons (ps_if (pt_cmpR op_gt (pe_callB call_len_seq (by rfl) T.z_len (by decide +kernel) (pa_cons (pv 1) pa_nil)) (pe_glob (v := .int 20) rfl T.m_MOST_STARS T.v_MOST_STARS) (nomark _)) (pss_one (ps_raise rfl (takes_of rfl rfl rfl rfl) (pmk_own PySem.F.excBase_ValueError T.E_InvalidSky.x T.E_InvalidSky.g T.E_InvalidSky.k (raises_own T.E_InvalidSky.b T.E_InvalidSky.t) rfl))) pss_nil)
      (pss_one (ps_if (pt_not (pt_val (pe_call (ok_is_camera T) (hr.mono (by decide)) (by rfl) T.m_is_camera T.F_is_camera.kp T.b_is_camera .nil pass0 (pa_cons (pv 0) (pa_cons (pv 2) pa_nil))))) (pss_one (ps_raise rfl (takes_of rfl rfl rfl rfl) (pmk_own PySem.F.excBase_ValueError T.E_InvalidSky.x T.E_InvalidSky.g T.E_InvalidSky.k (raises_own T.E_InvalidSky.b T.E_InvalidSky.t) rfl))) pss_nil)))))), ?_⟩
    refine ⟨_, rfl, n, rfl, _, rfl, ?_⟩
    by_cases hn : 4 ≤ n ∧ n ≤ 9
    rotate_left
    · have bad : isSky n (keys ks) cam = false := by unfold isSky; rw [decide_eq_false hn]; rfl
      rw [decide_eq_false hn]
      exact iteT (k2 bad _ (Same.refl _))
    rw [decide_eq_true hn]
    refine iteF ?_
    refine ⟨.ref l, rfl, l, rfl, ⟨_, hl⟩, for_list (K := K) (a := l) (xs := refs ks) (fun i σ H2 => ∃ z : Option V, σ = [some (.int n), some (.ref l), some (.ref c), z] ∧ H2 = H ∧ ∀ p ∈ ks.take i, isStar n p.2 = true) ⟨_, rfl, rfl, fun p hp => by cases hp⟩ (fun i σ H2 _ ⟨_, _, e, _⟩ => by rw [e]; exact hl) ?_ ?_⟩
    · rintro i y σ H2 hi ⟨z, rfl, rfl, hs⟩
      obtain ⟨p, hp, rfl⟩ : ∃ p, ks[i]? = some p ∧ y = V.ref p.1 := by
        unfold refs at hi
        rw [List.getElem?_map] at hi
        cases e : ks[i]? with
        | none => rw [e] at hi; cases hi
        | some p => rw [e] at hi; exact ⟨p, rfl, (Option.some.inj hi).symm⟩
      refine ⟨_, rfl, .ref p.1, rfl, n, p.1, p.2, rfl, ht p (List.mem_of_getElem? hp), _, rfl, ?_⟩
      cases e : isStar n p.2 with
      | true =>
        refine iteF ⟨_, rfl, rfl, fun q hq => ?_⟩
        rw [List.take_add_one, hp] at hq
        rcases List.mem_append.mp hq with hq | hq
        · exact hs q hq
        · simp at hq
          rw [hq]
          exact e
      | false =>
        have bad : isSky n (keys ks) cam = false := by
          have z : (keys ks).all (isStar n) = false := by
            rw [List.all_eq_false]
            exact ⟨p.2, List.mem_map_of_mem (List.mem_of_getElem? hp), by rw [e]; simp⟩
          unfold isSky
          rw [z, Bool.and_false]
          rfl
        exact iteT (k2 bad _ (Same.refl _))
    · rintro σ H2 ⟨z, rfl, rfl, hs⟩
      have hall : (keys ks).all (isStar n) = true := List.all_eq_true.mpr fun x hx => by
        obtain ⟨p, hp, rfl⟩ := List.mem_map.mp hx
        exact hs p (by rw [List.take_of_length_le (by rw [refs_len]; exact Nat.le_refl _)]; exact hp)
      refine ⟨.ref l, rfl, l, ks, rfl, hl, ht, hk, fun b L nb h1 h2 => ⟨b, L, rfl, upd_same, fun hnd => ?_⟩⟩
      have s3 : Same H2 (upd H2 b (SetTO P w b L)) := same_new nb
      refine ⟨.ref l, rfl, l, _, rfl, .inl (s3.seq hl), _, _, rfl, rfl, _, rfl, ?_⟩
      have sl := set_len h1 h2 hnd
      by_cases hd : (keys ks).Nodup
      rotate_left
      · have bad : isSky n (keys ks) cam = false := by
          unfold isSky
          rw [decide_eq_false hd, Bool.and_false]
          rfl
        have g : ((L.length : Nat) : Int) < (((refs ks).length : Nat) : Int) := by
          rw [refs_len]
          have := sl.mpr hd
          omega
        exact iteD2 g (k2 bad _ s3)
      have g : ¬ ((L.length : Nat) : Int) < (((refs ks).length : Nat) : Int) := by
        rw [refs_len]
        intro z
        exact sl.mp (by omega) hd
      refine iteD3 g ?_
      refine ⟨.ref l, rfl, l, _, rfl, .inl (s3.seq hl), _, _, rfl, rfl, _, rfl, ?_⟩
      by_cases h20 : ks.length ≤ 20
      rotate_left
      · have bad : isSky n (keys ks) cam = false := by
          unfold isSky
          rw [show decide ((keys ks).length ≤ 20) = false from decide_eq_false (by rw [keys_len]; exact h20), Bool.and_false]
          rfl
        exact iteD2 (by rw [refs_len]; omega) (k2 bad _ s3)
      refine iteD3 (by rw [refs_len]; omega) ?_
      refine ⟨_, rfl, .ref c, rfl, n, c, cam, rfl, sqT_up s3 hc, _, rfl, ?_⟩
      have e : isSky n (keys ks) cam = isCam n cam := by
        unfold isSky
        rw [decide_eq_true hn, hall, decide_eq_true hd, show decide ((keys ks).length ≤ 20) = true from decide_eq_true (by rw [keys_len]; exact h20)]
        rfl
      cases ec : isCam n cam with
      | true => exact iteF (k1 (e.trans ec) _ s3)
      | false => exact iteT (k2 (e.trans ec) _ s3)

theorem ok_Skyx_initx (T : Txt P K mg a) : FnOk P w K mg base (L2.CX P w) 3 a.f_Skyx_initx a.fd_Skyx_initx ["self", "side", "stars", "camera"] (spInit K a.c_Sky a.c_InvalidSky) := by
  refine T.F_Skyx_initx.okX sc_Skyx_initx (fun vs H Q E h => ?_) (fun cdv A outer s H vs Q E hr h => ?_)
  · obtain ⟨x, dx, n, p, c, ks, cam, rfl, _⟩ := h
    rfl
  · obtain ⟨x, dx, n, p, c, ks, cam, rfl, hx, hp, ht, hc, hk, k, kE⟩ := h
    refine ⟨_, (pss_cons (ps_expr (pe_call (ok__check_sky T) (hr.mono (by decide)) (by rfl) T.m__check_sky T.F__check_sky.kp T.b__check_sky .nil (passes_call (takes_of rfl rfl rfl rfl) (fun _ _ _ _ h => h)) (pa_cons (pv 1) (pa_cons (pv 2) (pa_cons (pv 3) pa_nil)))))
      (pss_cons (ps_fld (pv 0) (pv 1) rfl)
      (pss_cons (ps_fld (pv 0) (pe_callTy call_tuple_of (by rfl) T.z_tuple (by decide +kernel) (pa_cons (pe_callB (cr_sortM (d := 3) (B := 10) (by decide)) (by rfl) T.z_sorted (by decide +kernel) (pa_cons (pv 2) pa_nil)) pa_nil)) rfl)
      (pss_one (ps_fld (pv 0) (pv 3) rfl))))), ?_⟩
    refine ⟨_, rfl, .ref p, rfl, .ref c, rfl, n, p, c, ks, cam, rfl, hp, ht, hc, hk, fun hsky H1 s1 => ?_, fun hbad H1 s1 => kE hbad _ s1⟩
    obtain ⟨⟨h4, h9⟩, hstars, hnd, h20, hcam⟩ := sky_parts hsky
    refine ⟨_, rfl, .ref x, rfl, x, a.c_Sky, dx, [], rfl, s1 _ _ hx, T.cl_Sky, T.n_Sky__side, (by show 0 < 1000; decide), ?_⟩
    -- self._stars = tuple(sorted(stars))
    have hx1 := s1 _ _ hx
    generalize e2 : upd H1 x (.ins a.c_Sky dx (putF "_side" (.int n) [])) = H2
    have hx2 : H2 x = some (.ins a.c_Sky dx (putF "_side" (.int n) [])) := by rw [← e2]; exact upd_same
    have hp2 : SqL K H2 p (refs ks) := by rw [← e2]; exact sqL_ins hx1 (s1.seq hp)
    have hc2 : SqT K H2 c (cam.map V.int) := by rw [← e2]; exact sqT_ins hx1 (sqT_up s1 hc)
    have ht2 : TupsAt K H2 ks := fun q hq => by rw [← e2]; exact sqT_ins hx1 (sqT_up s1 (ht q hq))
    refine ⟨.ref p, rfl, p, ks, rfl, hp2, ht2, hk, stars_fit hstars h9, fun l ks' H3 s3 nl el hperm hasc => ?_⟩
    refine ⟨l, _, rfl, .inl ⟨.inl (.inl el), fun t nt => ?_⟩⟩
    have s4 : Same H2 (upd H3 t (.tup (refs ks'))) := s3.trans (same_new nt)
    generalize e4 : upd H3 t (.tup (refs ks')) = H4 at s4 ⊢
    have ht4 : SqT K H4 t (refs ks') := by rw [← e4]; exact .inl (.inl upd_same)
    have hx4 := s4 _ _ hx2
    refine ⟨.ref x, rfl, x, a.c_Sky, dx, _, rfl, hx4, T.cl_Sky, T.n_Sky__stars, (by show 1 < 1000; decide), ?_⟩
    -- self._camera = camera
    generalize e5 : upd H4 x (.ins a.c_Sky dx (putF "_stars" (.ref t) (putF "_side" (.int n) []))) = H5
    have hx5 : H5 x = some (.ins a.c_Sky dx (putF "_stars" (.ref t) (putF "_side" (.int n) []))) := by rw [← e5]; exact upd_same
    have ht5 : SqT K H5 t (refs ks') := by rw [← e5]; exact sqT_ins hx4 ht4
    have hc5 : SqT K H5 c (cam.map V.int) := by rw [← e5]; exact sqT_ins hx4 (sqT_up s4 hc2)
    have hk5 : TupsAt K H5 ks := fun q hq => by rw [← e5]; exact sqT_ins hx4 (sqT_up s4 (ht2 q hq))
    refine ⟨_, rfl, .ref x, rfl, x, a.c_Sky, dx, _, rfl, hx5, T.cl_Sky, T.n_Sky__camera, skyF_two n t, ?_⟩
    refine k hsky _ ks' ⟨⟨dx, t, c, upd_same, sqT_ins hx5 ht5, sqT_ins hx5 hc5⟩, fun q hq => sqT_ins hx5 (hk5 q (hperm.mem_iff.mp hq))⟩ hperm hasc (fun b o hb hn => ?_)
    rw [upd_ne hn, ← e5, upd_ne hn]
    refine s4 _ _ ?_
    rw [← e2, upd_ne hn]
    exact s1 _ _ hb

theorem ok_Sky_side (T : Txt P K mg a) : FnOk P w K mg base CX0 1 a.f_Sky_side a.fd_Sky_side ["self"] (spOfSide K a.c_Sky) := by
  refine T.F_Sky_side.ok sc_Sky_side (fun vs H Q E h => ?_) (fun cdv A outer s H vs Q E hr h => ?_)
  · obtain ⟨p, n, st, cam, rfl, _⟩ := h
    rfl
  · obtain ⟨p, n, st, cam, rfl, ⟨dx, ts, tc, h1, _⟩, k⟩ := h
    refine ⟨_, (pss_one (ps_ret (pe_fld (pv 0) rfl))), ?_⟩
    exact ⟨.ref p, rfl, p, a.c_Sky, dx, _, _, rfl, h1, T.cl_Sky, T.n_Sky__side, skyF_side n ts tc, k⟩

theorem ok_Sky_reach (T : Txt P K mg a) : FnOk P w K mg base CX0 1 a.f_Sky_reach a.fd_Sky_reach ["self"] (spOfPart K a.c_Sky 0) := by
  refine T.F_Sky_reach.ok sc_Sky_reach (fun vs H Q E h => ?_) (fun cdv A outer s H vs Q E hr h => ?_)
  · obtain ⟨p, n, st, cam, z, rfl, _⟩ := h
    rfl
  · obtain ⟨p, n, st, cam, z, rfl, ⟨dx, ts, tc, h1, h2, h3⟩, hz, k⟩ := h
    refine ⟨_, (pss_one (ps_ret (pe_ix ix_seq (pe_fld (pv 0) rfl) pe_int (fun _ _ => rfl)))), ?_⟩
    exact ⟨.ref p, rfl, p, a.c_Sky, dx, _, _, rfl, h1, T.cl_Sky, T.n_Sky__camera, skyF_camera n ts tc, .inr (.inl ⟨tc, _, _, _, rfl, rfl, h3, atI_nat (by rw [List.getElem?_map, hz]; rfl), k⟩)⟩

theorem ok_Sky_blur (T : Txt P K mg a) : FnOk P w K mg base CX0 1 a.f_Sky_blur a.fd_Sky_blur ["self"] (spOfPart K a.c_Sky 1) := by
  refine T.F_Sky_blur.ok sc_Sky_blur (fun vs H Q E h => ?_) (fun cdv A outer s H vs Q E hr h => ?_)
  · obtain ⟨p, n, st, cam, z, rfl, _⟩ := h
    rfl
  · obtain ⟨p, n, st, cam, z, rfl, ⟨dx, ts, tc, h1, h2, h3⟩, hz, k⟩ := h
    refine ⟨_, (pss_one (ps_ret (pe_ix ix_seq (pe_fld (pv 0) rfl) pe_int (fun _ _ => rfl)))), ?_⟩
    exact ⟨.ref p, rfl, p, a.c_Sky, dx, _, _, rfl, h1, T.cl_Sky, T.n_Sky__camera, skyF_camera n ts tc, .inr (.inl ⟨tc, _, _, _, rfl, rfl, h3, atI_nat (by rw [List.getElem?_map, hz]; rfl), k⟩)⟩

theorem ok_Sky_glare (T : Txt P K mg a) : FnOk P w K mg base CX0 1 a.f_Sky_glare a.fd_Sky_glare ["self"] (spOfPart K a.c_Sky 2) := by
  refine T.F_Sky_glare.ok sc_Sky_glare (fun vs H Q E h => ?_) (fun cdv A outer s H vs Q E hr h => ?_)
  · obtain ⟨p, n, st, cam, z, rfl, _⟩ := h
    rfl
  · obtain ⟨p, n, st, cam, z, rfl, ⟨dx, ts, tc, h1, h2, h3⟩, hz, k⟩ := h
    refine ⟨_, (pss_one (ps_ret (pe_ix ix_seq (pe_fld (pv 0) rfl) pe_int (fun _ _ => rfl)))), ?_⟩
    exact ⟨.ref p, rfl, p, a.c_Sky, dx, _, _, rfl, h1, T.cl_Sky, T.n_Sky__camera, skyF_camera n ts tc, .inr (.inl ⟨tc, _, _, _, rfl, rfl, h3, atI_nat (by rw [List.getElem?_map, hz]; rfl), k⟩)⟩

theorem ok_Sky_limit (T : Txt P K mg a) : FnOk P w K mg base CX0 1 a.f_Sky_limit a.fd_Sky_limit ["self"] (spOfPart K a.c_Sky 3) := by
  refine T.F_Sky_limit.ok sc_Sky_limit (fun vs H Q E h => ?_) (fun cdv A outer s H vs Q E hr h => ?_)
  · obtain ⟨p, n, st, cam, z, rfl, _⟩ := h
    rfl
  · obtain ⟨p, n, st, cam, z, rfl, ⟨dx, ts, tc, h1, h2, h3⟩, hz, k⟩ := h
    refine ⟨_, (pss_one (ps_ret (pe_ix ix_seq (pe_fld (pv 0) rfl) pe_int (fun _ _ => rfl)))), ?_⟩
    exact ⟨.ref p, rfl, p, a.c_Sky, dx, _, _, rfl, h1, T.cl_Sky, T.n_Sky__camera, skyF_camera n ts tc, .inr (.inl ⟨tc, _, _, _, rfl, rfl, h3, atI_nat (by rw [List.getElem?_map, hz]; rfl), k⟩)⟩

theorem ok_Sky_star_at (T : Txt P K mg a) : FnOk P w K mg base (L2.CX P w) 2 a.f_Sky_star_at a.fd_Sky_star_at ["self", "number"] (spStarAt K a.c_Sky a.c_UnknownStar) := by
  refine T.F_Sky_star_at.okX sc_Sky_star_at (fun vs H Q E h => ?_) (fun cdv A outer s H vs Q E hr h => ?_)
  · obtain ⟨p, n, ks, cam, j, rfl, _⟩ := h
    rfl
  · obtain ⟨p, n, ks, cam, j, rfl, ⟨⟨dx, ts, tc, h1, h2, h3⟩, ht⟩, h20, k1, k2⟩ := h
    refine ⟨_, (pss_cons (ps_if (pt_not (pt_chain op_le op_lt pe_int (pv 1) (pe_callB call_len_seq (by rfl) T.z_len (by decide +kernel) (pa_cons (pe_fld (pv 0) rfl) pa_nil)))) (pss_one (ps_raiseS rfl T.S_UnknownStar hr (takes_of rfl rfl rfl rfl) (by exact (pa_cons (pv 1) pa_nil)))) pss_nil)
      (pss_one (ps_ret (pe_ix ix_seq (pe_fld (pv 0) rfl) (pv 1) (fun _ _ => rfl))))), ?_⟩
    have bad : ∀ (hj : j < 0 ∨ (ks.length : Int) ≤ j) (d : Addr), H d = none → E (.ref a.c_UnknownStar) (some d) (upd H d (.xd [("number", .int j)])) := fun hj d hd => k2 hj d _ (same_new hd) upd_same
    refine ⟨_, rfl, _, _, rfl, rfl, _, rfl, ite2 (fun g1 => ?_) (fun g1 => ?_)⟩
    · have j0 := of_decide_eq_true g1
      refine ⟨.ref p, rfl, p, a.c_Sky, dx, _, _, rfl, h1, T.cl_Sky, T.n_Sky__stars, skyF_stars n ts tc, ts, _, rfl, .inr h2, _, _, rfl, rfl, _, rfl, ite2 (fun g2 => ?_) (fun g2 => ?_)⟩
      · refine ⟨_, rfl, _, rfl, fun d hd => bad (.inr ?_) d hd⟩
        by_cases z : j < (((refs ks).length : Nat) : Int)
        · rw [decide_eq_true z] at g2
          cases g2
        · rw [refs_len] at z
          omega
      · have hj : j < (((refs ks).length : Nat) : Int) := by
          by_cases z : j < (((refs ks).length : Nat) : Int)
          · exact z
          · exact absurd (by rw [decide_eq_false z]; rfl) g2
        rw [refs_len] at hj
        obtain ⟨m, rfl⟩ := Int.eq_ofNat_of_zero_le j0
        have hm : m < ks.length := by omega
        refine ⟨.ref p, rfl, p, a.c_Sky, dx, _, _, rfl, h1, T.cl_Sky, T.n_Sky__stars, skyF_stars n ts tc, _, rfl, .inr (.inl ⟨ts, _, _, .ref ks[m].1, rfl, rfl, h2, atI_nat (by unfold refs; rw [List.getElem?_map, List.getElem?_eq_getElem hm]; rfl), ?_⟩)⟩
        exact k1 ks[m] j0 (List.getElem?_eq_getElem hm)
    · exact ⟨_, rfl, iteT ⟨_, rfl, _, rfl, fun d hd => bad (.inl (by
        by_cases z : 0 ≤ j
        · exact absurd (decide_eq_true z) g1
        · omega)) d hd⟩⟩

theorem ok_is_spot (T : Txt P K mg a) : FnOk P w K mg base CX0 3 a.f_is_spot a.fd_is_spot ["sky", "spot"] (spIsSpot K a.c_Sky) := by
  refine T.F_is_spot.ok sc_is_spot (fun vs H Q E h => ?_) (fun cdv A outer s H vs Q E hr h => ?_)
  · obtain ⟨p, ps, n, st, r, b, g, l, sp, rfl, _⟩ := h
    rfl
  · obtain ⟨p, ps, n, st, r, b, g, l, sp, rfl, hK, hS, k⟩ := h
    refine ⟨_, (pss_cons (ps_if (pt_cmpR op_ne (pe_callB call_len_seq (by rfl) T.z_len (by decide +kernel) (pa_cons (pv 1) pa_nil)) pe_int (nomark _)) (pss_one (ps_ret pe_bl)) pss_nil)
      (pss_cons (ps_asg (pv 1) (pg_tup rfl (pgs_cons (pg_name (i := 2) sc_is_spot.nd rfl (.inl rfl)) (pgs_cons (pg_name (i := 3) sc_is_spot.nd rfl (.inl rfl)) (pgs_cons (pg_name (i := 4) sc_is_spot.nd rfl (.inl rfl)) pgs_nil)))))
      (pss_one (ps_ret (pe_and (pe_cmpR op_le (pe_callB call_abs (by rfl) T.z_abs (by decide +kernel) (pa_cons (pv 2) pa_nil)) (pe_prop (pv 0) T.cl_Sky T.p_Sky_reach (ok_Sky_reach T) (hr.mono (by decide)) T.b_Sky_reach .nil pass0 rfl) (nomark _)) (pe_and (pe_cmpR op_le (pe_callB call_abs (by rfl) T.z_abs (by decide +kernel) (pa_cons (pv 3) pa_nil)) (pe_prop (pv 0) T.cl_Sky T.p_Sky_reach (ok_Sky_reach T) (hr.mono (by decide)) T.b_Sky_reach .nil pass0 rfl) (nomark _)) (pe_one (pe_chain op_le op_le (pe_prop (pv 0) T.cl_Sky T.p_Sky_limit (ok_Sky_limit T) (hr.mono (by decide)) T.b_Sky_limit .nil pass0 rfl) (pv 4) (pe_op op_add (pe_glob (v := .int 9) rfl T.m_BRIGHTEST T.v_BRIGHTEST) (pe_prop (pv 0) T.cl_Sky T.p_Sky_glare (ok_Sky_glare T) (hr.mono (by decide)) T.b_Sky_glare .nil pass0 rfl)))))))))), ?_⟩
    obtain ⟨dx, ts, tc, h1, h2, h3⟩ := id hK
    refine ⟨.ref ps, rfl, ps, _, rfl, .inr hS, rfl, _, rfl, ite2 (fun hg => ?_) (fun hg => ?_)⟩
    · have e : isSpot [r, b, g, l] sp = false := spot_len (by have z := int_ne hg; rw [List.length_map] at z; exact z)
      exact e ▸ k
    · obtain ⟨x, y, c, rfl⟩ := of3 (by have z := int_eq hg; rw [List.length_map] at z; exact z)
      refine ⟨.ref ps, rfl, ps, _, rfl, hS, rfl, _, _, rfl, _, _, rfl, _, _, rfl, rfl, ?_⟩
      have fin : ∀ b' : Bool, isSpot [r, b, g, l] [x, y, c] = b' → Q (.bl b') H := fun b' e => e ▸ k
      have F : (¬ (iabs x ≤ r ∧ iabs y ≤ r ∧ l ≤ c ∧ c ≤ 9 + g)) → Q (.bl false) H := fun z => fin _ (decide_eq_false z)
      refine ⟨_, rfl, _, rfl, .ref p, rfl, p, dx, _, rfl, h1, p, n, _, _, r, rfl, hK, rfl, _, _, rfl, rfl, _, rfl, ite2 (fun g1 => ?_) (fun g1 => F fun z => g1 (decide_eq_true z.1))⟩
      refine ⟨_, rfl, _, rfl, .ref p, rfl, p, dx, _, rfl, h1, p, n, _, _, r, rfl, hK, rfl, _, _, rfl, rfl, _, rfl, ite2 (fun g2 => ?_) (fun g2 => F fun z => g2 (decide_eq_true z.2.1))⟩
      refine ⟨.ref p, rfl, p, dx, _, rfl, h1, p, n, _, _, l, rfl, hK, rfl, _, rfl, _, _, rfl, rfl, _, rfl, ite2 (fun g3 => ?_) (fun g3 => F fun z => g3 (decide_eq_true z.2.2.1))⟩
      refine ⟨.ref p, rfl, p, dx, _, rfl, h1, p, n, _, _, g, rfl, hK, rfl, _, _, rfl, rfl, _, _, rfl, rfl, fin _ ?_⟩
      show decide _ = decide _
      have a1 : iabs x ≤ r := of_decide_eq_true g1
      have a2 : iabs y ≤ r := of_decide_eq_true g2
      have a3 := of_decide_eq_true g3
      by_cases z : c ≤ 9 + g
      · rw [decide_eq_true z, decide_eq_true ⟨a1, a2, a3, z⟩]
      · rw [decide_eq_false z, decide_eq_false (fun w => z w.2.2.2)]

theorem ok_check_sighting (T : Txt P K mg a) : FnOk P w K mg base (L2.CX P w) 4 a.f_check_sighting a.fd_check_sighting ["sky", "sighting"] (spSight K a.c_Sky a.c_InvalidSighting) := by
  refine T.F_check_sighting.okX sc_check_sighting (fun vs H Q E h => ?_) (fun cdv A outer s H vs Q E hr h => ?_)
  · obtain ⟨p, ps, n, st, r, b, g, l, ks, rfl, _⟩ := h
    rfl
  · obtain ⟨p, ps, n, st, r, b, g, l, ks, rfl, hK, hS, ht, k1, k2⟩ := h
    refine ⟨_, (pss_cons (ps_for (passes_of rfl) rfl (pi_tup (pv 1)) (pg_name (i := 2) sc_check_sighting.nd rfl (.inl rfl)) (pss_one (ps_if (pt_not (pt_val (pe_call (ok_is_spot T) (hr.mono (by decide)) (by rfl) T.m_is_spot T.F_is_spot.kp T.b_is_spot .nil pass0 (pa_cons (pv 0) (pa_cons (pv 2) pa_nil))))) (pss_one (ps_raise rfl (takes_of rfl rfl rfl rfl) (pmk_own PySem.F.excBase_ValueError T.E_InvalidSighting.x T.E_InvalidSighting.g T.E_InvalidSighting.k (raises_own T.E_InvalidSighting.b T.E_InvalidSighting.t) rfl))) pss_nil)))
      (pss_cons (ps_if (pt_cmpR (op_neD hr.units) (pe_callTy call_list_of (by rfl) T.z_list (by decide +kernel) (pa_cons (pv 1) pa_nil)) (pe_callB cr_sortL (by rfl) T.z_sorted (by decide +kernel) (pa_cons (pv 1) pa_nil)) (nomark _)) (pss_one (ps_raise rfl (takes_of rfl rfl rfl rfl) (pmk_own PySem.F.excBase_ValueError T.E_InvalidSighting.x T.E_InvalidSighting.g T.E_InvalidSighting.k (raises_own T.E_InvalidSighting.b T.E_InvalidSighting.t) rfl))) pss_nil)
      (pss_one (ps_if (pt_cmpR op_gt (pe_callB call_len_seq (by rfl) T.z_len (by decide +kernel) (pa_cons (pv 1) pa_nil)) (pe_glob (v := .int 60) rfl T.m_MOST_SPOTS T.v_MOST_SPOTS) (nomark _)) (pss_one (ps_raise rfl (takes_of rfl rfl rfl rfl) (pmk_own PySem.F.excBase_ValueError T.E_InvalidSighting.x T.E_InvalidSighting.g T.E_InvalidSighting.k (raises_own T.E_InvalidSighting.b T.E_InvalidSighting.t) rfl))) pss_nil)))), ?_⟩
    refine ⟨.ref ps, rfl, ps, rfl, ⟨_, hS⟩, for_tup (K := K) (a := ps) (xs := refs ks) (fun i σ H2 => ∃ z : Option V, σ = [some (.ref p), some (.ref ps), z] ∧ H2 = H ∧ ∀ q ∈ ks.take i, isSpot [r, b, g, l] q.2 = true) ⟨_, rfl, rfl, fun q hq => by cases hq⟩ (fun i σ H2 _ ⟨_, _, e, _⟩ => by rw [e]; exact hS) ?_ ?_⟩
    · rintro i y σ H2 hi ⟨z, rfl, rfl, hs⟩
      obtain ⟨q, hq, rfl⟩ : ∃ q, ks[i]? = some q ∧ y = V.ref q.1 := by
        unfold refs at hi
        rw [List.getElem?_map] at hi
        cases e : ks[i]? with
        | none => rw [e] at hi; cases hi
        | some q => rw [e] at hi; exact ⟨q, rfl, (Option.some.inj hi).symm⟩
      refine ⟨.ref p, rfl, .ref q.1, rfl, p, q.1, n, st, r, b, g, l, q.2, rfl, hK, ht q (List.mem_of_getElem? hq), _, rfl, ?_⟩
      cases e : isSpot [r, b, g, l] q.2 with
      | true =>
        refine iteF ⟨_, rfl, rfl, fun q' hq' => ?_⟩
        rw [List.take_add_one, hq] at hq'
        rcases List.mem_append.mp hq' with hq' | hq'
        · exact hs q' hq'
        · simp at hq'
          rw [hq']
          exact e
      | false =>
        refine iteT (k2 ?_ _ (Same.refl _))
        have z : (keys ks).all (isSpot [r, b, g, l]) = false := by
          rw [List.all_eq_false]
          exact ⟨q.2, List.mem_map_of_mem (List.mem_of_getElem? hq), by rw [e]; simp⟩
        unfold isSight
        rw [z]
        rfl
    · rintro σ H2 ⟨z, rfl, rfl, hs⟩
      rw [List.take_of_length_le (by rw [refs_len]; exact Nat.le_refl _)] at hs
      have hall : (keys ks).all (isSpot [r, b, g, l]) = true := List.all_eq_true.mpr fun x hx => by
        obtain ⟨q, hq, rfl⟩ := List.mem_map.mp hx
        exact hs q hq
      refine ⟨.ref ps, rfl, ps, _, rfl, .inr hS, fun lh nlh => ?_⟩
      have s3 : Same H2 (upd H2 lh (.lst (refs ks))) := same_new nlh
      have elh : (upd H2 lh (.lst (refs ks))) lh = some (.lst (refs ks)) := upd_same
      generalize upd H2 lh (.lst (refs ks)) = H3 at s3 elh ⊢
      refine ⟨.ref ps, rfl, ps, ks, rfl, .inr (sqT_up s3 hS), tups_up s3 ht, fun q hq e => ?_, fun l4 ks4 H4 s4 n4 e4 hp4 ha4 => ?_⟩
      · obtain ⟨x, y, c, e'⟩ := spot_form (hs q hq)
        rw [e'] at e
        cases e
      have t4 : TupsAt K H4 ks4 := fun q hq => sqT_up (s3.trans s4) (ht q (hp4.mem_iff.mp hq))
      refine ne_tups (dp_l (s4 _ _ elh) (dp_tups (tups_up (s3.trans s4) ht))) (dp_l e4 (dp_tups t4)) ⟨_, rfl, ?_⟩
      rw [sorted_same hp4 ha4]
      have S4 := s3.trans s4
      by_cases hasc : AscL (keys ks)
      rotate_left
      · rw [decide_eq_false hasc]
        refine iteT (k2 ?_ _ S4)
        unfold isSight
        rw [decide_eq_false hasc, Bool.and_false]
        rfl
      rw [decide_eq_true hasc]
      refine iteF ?_
      refine ⟨.ref ps, rfl, ps, _, rfl, .inr (sqT_up S4 hS), _, _, rfl, rfl, _, rfl, ?_⟩
      have eS : isSight [r, b, g, l] (keys ks) = decide ((keys ks).length ≤ 60) := by
        unfold isSight
        rw [hall, decide_eq_true hasc]
        rfl
      by_cases h60 : ks.length ≤ 60
      · exact iteD3 (by rw [refs_len]; omega) (k1 (by rw [eS]; exact decide_eq_true (by rw [keys_len]; exact h60)) _ S4)
      · exact iteD2 (by rw [refs_len]; omega) (k2 (by rw [eS]; exact decide_eq_false (by rw [keys_len]; exact h60)) _ S4)

theorem ok_check_attitude (T : Txt P K mg a) : FnOk P w K mg base (L2.CX P w) 3 a.f_check_attitude a.fd_check_attitude ["sky", "attitude"] (spAsk K a.c_Sky a.c_InvalidAttitude "attitude" isPose) := by
  refine T.F_check_attitude.okX sc_check_attitude (fun vs H Q E h => ?_) (fun cdv A outer s H vs Q E hr h => ?_)
  · obtain ⟨p, q, n, st, cam, ns, rfl, _⟩ := h
    rfl
  · obtain ⟨p, q, n, st, cam, ns, rfl, hK, hq, k1, k2⟩ := h
    refine ⟨_, (pss_one (ps_if (pt_not (pt_val (pe_call (ok_is_pose T) (hr.mono (by decide)) (by rfl) T.m_is_pose T.F_is_pose.kp T.b_is_pose .nil pass0 (pa_cons (pe_prop (pv 0) T.cl_Sky T.p_Sky_side (ok_Sky_side T) (hr.mono (by decide)) T.b_Sky_side .nil pass0 rfl) (pa_cons (pv 1) pa_nil))))) (pss_one (ps_raiseS rfl T.S_InvalidAttitude hr (takes_of rfl rfl rfl rfl) (by exact (pa_cons (pv 1) pa_nil)))) pss_nil)), ?_⟩
    obtain ⟨dx, ts, tc, h1, _⟩ := id hK
    refine ⟨.ref p, rfl, p, dx, _, rfl, h1, p, n, st, cam, rfl, hK, ?_⟩
    refine ⟨_, rfl, n, q, ns, rfl, hq, _, rfl, ?_⟩
    cases e : isPose n ns with
    | true => exact iteF (k1 e)
    | false => exact iteT ⟨_, rfl, _, rfl, fun d hd => k2 e d _ (same_new hd) upd_same⟩

theorem ok__nearest (T : Txt P K mg a) : FnOk P w K mg base CX0 1 a.f__nearest a.fd__nearest ["side", "part"] spNear := by
  refine T.F__nearest.ok sc__nearest (fun vs H Q E h => ?_) (fun cdv A outer s H vs Q E hr h => ?_)
  · obtain ⟨n, i, rfl, _⟩ := h
    rfl
  · obtain ⟨n, i, rfl, hn, k⟩ := h
    refine ⟨_, (pss_cons (ps_set (i := 2) sc__nearest.nd rfl (.inl rfl) (pe_op op_fdiv (pv 0) pe_int))
      (pss_one (ps_ret (pe_op op_sub (pe_op op_mod (pe_op op_add (pv 1) (pv 2)) (pv 0)) (pv 2))))), ?_⟩
    exact ⟨_, rfl, _, _, rfl, rfl, ⟨by decide, by decide⟩, _, rfl, _, rfl, _, _, rfl, rfl, _, rfl, _, _, rfl, rfl, hn, _, rfl, _, _, rfl, rfl, k⟩

theorem ok__offset_of (T : Txt P K mg a) : FnOk P w K mg base CX0 3 a.f__offset_of a.fd__offset_of ["sky", "attitude", "star"] (spOffOf K a.c_Sky) := by
  refine T.F__offset_of.ok sc__offset_of (fun vs H Q E h => ?_) (fun cdv A outer s H vs Q E hr h => ?_)
  · obtain ⟨p, n, st, r, b, g, l, x, y, q, sx, sy, bb, pa, ps, rfl, _⟩ := h
    rfl
  · obtain ⟨p, n, st, r, b, g, l, x, y, q, sx, sy, bb, pa, ps, rfl, hK, hn, hpa, hps, k1, k2⟩ := h
    refine ⟨_, (pss_cons (ps_set (i := 3) sc__offset_of.nd rfl (.inl rfl) (pe_tupM (pa_cons (pe_call (ok__nearest T) (hr.mono (by decide)) (by rfl) T.m__nearest T.F__nearest.kp T.b__nearest .nil pass0 (pa_cons (pe_prop (pv 0) T.cl_Sky T.p_Sky_side (ok_Sky_side T) (hr.mono (by decide)) T.b_Sky_side .nil pass0 rfl) (pa_cons (pe_op op_sub (pe_ix ix_seq (pv 2) pe_int (fun _ _ => rfl)) (pe_ix ix_seq (pv 1) pe_int (fun _ _ => rfl))) pa_nil))) (pa_cons (pe_call (ok__nearest T) (hr.mono (by decide)) (by rfl) T.m__nearest T.F__nearest.kp T.b__nearest .nil pass0 (pa_cons (pe_prop (pv 0) T.cl_Sky T.p_Sky_side (ok_Sky_side T) (hr.mono (by decide)) T.b_Sky_side .nil pass0 rfl) (pa_cons (pe_op op_sub (pe_ix ix_seq (pv 2) pe_int (fun _ _ => rfl)) (pe_ix ix_seq (pv 1) pe_int (fun _ _ => rfl))) pa_nil))) pa_nil))))
      (pss_cons (ps_asg (pe_call (ok_quarter_turned T) (hr.mono (by decide)) (by rfl) T.m_quarter_turned T.F_quarter_turned.kp T.b_quarter_turned .nil pass0 (pa_cons (pe_op op_sub pe_int (pe_ix ix_seq (pv 1) pe_int (fun _ _ => rfl))) (pa_cons (pv 3) pa_nil))) (pg_tup rfl (pgs_cons (pg_name (i := 4) sc__offset_of.nd rfl (.inl rfl)) (pgs_cons (pg_name (i := 5) sc__offset_of.nd rfl (.inl rfl)) pgs_nil))))
      (pss_cons (ps_set (i := 6) sc__offset_of.nd rfl (.inl rfl) (pe_op op_add (pe_prop (pv 0) T.cl_Sky T.p_Sky_reach (ok_Sky_reach T) (hr.mono (by decide)) T.b_Sky_reach .nil pass0 rfl) (pe_prop (pv 0) T.cl_Sky T.p_Sky_blur (ok_Sky_blur T) (hr.mono (by decide)) T.b_Sky_blur .nil pass0 rfl)))
      (pss_cons (ps_if (PW.pt (pw_or (pt_cmpR op_gt (pe_callB call_abs (by rfl) T.z_abs (by decide +kernel) (pa_cons (pv 4) pa_nil)) (pv 6) (nomark _)) (pw_or1 (pt_cmpR op_gt (pe_callB call_abs (by rfl) T.z_abs (by decide +kernel) (pa_cons (pv 5) pa_nil)) (pv 6) (nomark _))))) (pss_one (ps_ret pe_non)) pss_nil)
      (pss_one (ps_ret (pe_tupM (pa_cons (pv 4) (pa_cons (pv 5) pa_nil))))))))), ?_⟩
    obtain ⟨dx, ts, tc, h1, h2, h3⟩ := id hK
    refine ⟨.ref p, rfl, p, dx, _, rfl, h1, p, n, st, _, rfl, hK, ?_⟩
    refine ⟨.ref ps, rfl, .inr (.inl ⟨ps, _, 0, .int sx, rfl, rfl, hps, rfl, .ref pa, rfl, .inr (.inl ⟨pa, _, 0, .int x, rfl, rfl, hpa, rfl, _, _, rfl, rfl, n, sx - x, rfl, hn, ?_⟩)⟩)⟩
    refine ⟨.ref p, rfl, p, dx, _, rfl, h1, p, n, st, _, rfl, hK, ?_⟩
    refine ⟨.ref ps, rfl, .inr (.inl ⟨ps, _, 1, .int sy, rfl, rfl, hps, rfl, .ref pa, rfl, .inr (.inl ⟨pa, _, 1, .int y, rfl, rfl, hpa, rfl, _, _, rfl, rfl, n, sy - y, rfl, hn, ?_⟩)⟩)⟩
    refine ⟨(by show 2 ≤ sizeLine; decide), fun p1 H1 s1 t1 => ?_⟩
    refine ⟨.ref pa, rfl, .inr (.inl ⟨pa, _, 2, .int q, rfl, rfl, sqT_up s1 hpa, rfl, _, _, rfl, rfl, .ref p1, rfl, ?_⟩)⟩
    refine ⟨4 - q, near n (sx - x), near n (sy - y), p1, rfl, t1, fun H2 p2 s2 t2 => ?_⟩
    refine ⟨p2, _, rfl, t2, rfl, _, _, rfl, _, _, rfl, rfl, ?_⟩
    have S := s1.trans s2
    have hK2 := sky_up S hK
    have h12 := S _ _ h1
    refine ⟨.ref p, rfl, p, dx, _, rfl, h12, p, n, st, _, r, rfl, hK2, rfl, ?_⟩
    refine ⟨.ref p, rfl, p, dx, _, rfl, h12, p, n, st, _, b, rfl, hK2, rfl, ?_⟩
    refine ⟨_, _, rfl, rfl, ?_⟩
    refine ⟨_, rfl, _, rfl, _, rfl, _, _, rfl, rfl, _, rfl, ite2 (fun g1 => ?_) (fun g1 => ?_)⟩
    · have z1 : r + b < iabs (turnX (4 - q) (near n (sx - x)) (near n (sy - y))) := of_decide_eq_true g1
      exact iteT (k1 (if_pos (.inl z1)) _ S)
    refine ⟨_, rfl, _, rfl, _, rfl, _, _, rfl, rfl, _, rfl, ite2 (fun g2 => ?_) (fun g2 => ?_)⟩
    · have z2 : r + b < iabs (turnY (4 - q) (near n (sx - x)) (near n (sy - y))) := of_decide_eq_true g2
      exact k1 (if_pos (.inr z2)) _ S
    · have z1 : ¬ r + b < iabs (turnX (4 - q) (near n (sx - x)) (near n (sy - y))) := fun z => g1 (decide_eq_true z)
      have z2 : ¬ r + b < iabs (turnY (4 - q) (near n (sx - x)) (near n (sy - y))) := fun z => g2 (decide_eq_true z)
      exact ⟨_, rfl, _, rfl, (by show 2 ≤ sizeLine; decide), fun t H3 s3 tt => k2 _ _ (if_neg (fun z => z.elim z1 z2)) _ t (S.trans s3) tt⟩

theorem ok_are_near (T : Txt P K mg a) : FnOk P w K mg base CX0 1 a.f_are_near a.fd_are_near ["one", "other", "blur", "glare"] (spNear3 K) := by
  refine T.F_are_near.ok sc_are_near (fun vs H Q E h => ?_) (fun cdv A outer s H vs Q E hr h => ?_)
  · obtain ⟨p, q, x, y, c, u, v, d, b, g, rfl, _⟩ := h
    rfl
  · obtain ⟨p, q, x, y, c, u, v, d, b, g, rfl, hp, hq, k⟩ := h
    refine ⟨_, (pss_one (ps_ret (pe_and (pe_cmpR op_le (pe_callB call_abs (by rfl) T.z_abs (by decide +kernel) (pa_cons (pe_op op_sub (pe_ix ix_seq (pv 0) pe_int (fun _ _ => rfl)) (pe_ix ix_seq (pv 1) pe_int (fun _ _ => rfl))) pa_nil)) (pv 2) (nomark _)) (pe_and (pe_cmpR op_le (pe_callB call_abs (by rfl) T.z_abs (by decide +kernel) (pa_cons (pe_op op_sub (pe_ix ix_seq (pv 0) pe_int (fun _ _ => rfl)) (pe_ix ix_seq (pv 1) pe_int (fun _ _ => rfl))) pa_nil)) (pv 2) (nomark _)) (pe_one (pe_cmpR op_le (pe_callB call_abs (by rfl) T.z_abs (by decide +kernel) (pa_cons (pe_op op_sub (pe_ix ix_seq (pv 0) pe_int (fun _ _ => rfl)) (pe_ix ix_seq (pv 1) pe_int (fun _ _ => rfl))) pa_nil)) (pv 3) (nomark _))))))), ?_⟩
    have fin : ∀ b' : Bool, nearC b g [x, y, c] [u, v, d] = b' → Q (.bl b') H := fun b' e => e ▸ k
    have F : (¬ (iabs (x - u) ≤ b ∧ iabs (y - v) ≤ b ∧ iabs (c - d) ≤ g)) → Q (.bl false) H := fun z => fin _ (decide_eq_false z)
    refine ⟨.ref p, rfl, .inr (.inl ⟨p, _, 0, .int x, rfl, rfl, hp, rfl, .ref q, rfl, .inr (.inl ⟨q, _, 0, .int u, rfl, rfl, hq, rfl, _, _, rfl, rfl, _, rfl, _, rfl, _, _, rfl, rfl, _, rfl, ite2 (fun g1 => ?_) (fun g1 => F fun z => g1 (decide_eq_true z.1))⟩)⟩)⟩
    refine ⟨.ref p, rfl, .inr (.inl ⟨p, _, 1, .int y, rfl, rfl, hp, rfl, .ref q, rfl, .inr (.inl ⟨q, _, 1, .int v, rfl, rfl, hq, rfl, _, _, rfl, rfl, _, rfl, _, rfl, _, _, rfl, rfl, _, rfl, ite2 (fun g2 => ?_) (fun g2 => F fun z => g2 (decide_eq_true z.2.1))⟩)⟩)⟩
    refine ⟨.ref p, rfl, .inr (.inl ⟨p, _, 2, .int c, rfl, rfl, hp, rfl, .ref q, rfl, .inr (.inl ⟨q, _, 2, .int d, rfl, rfl, hq, rfl, _, _, rfl, rfl, _, rfl, _, rfl, _, _, rfl, rfl, fin _ ?_⟩)⟩)⟩
    show decide _ = decide (iabs (c - d) ≤ g)
    have a1 : iabs (x - u) ≤ b := of_decide_eq_true g1
    have a2 : iabs (y - v) ≤ b := of_decide_eq_true g2
    by_cases z : iabs (c - d) ≤ g
    · rw [decide_eq_true z, decide_eq_true ⟨a1, a2, z⟩]
    · rw [decide_eq_false z, decide_eq_false (fun w => z w.2.2)]

theorem ok_fits (T : Txt P K mg a) : FnOk P w K mg base (L2.CX P w) 4 a.f_fits a.fd_fits ["sky", "attitude", "number", "spot"] (spFits K a.c_Sky a.c_InvalidAttitude a.c_UnknownStar a.c_InvalidSighting) := by
  refine T.F_fits.okX sc_fits (fun vs H Q E h => ?_) (fun cdv A outer s H vs Q E hr h => ?_)
  · obtain ⟨p, pa, ps, n, ks, cam, at_, sp, j, rfl, _⟩ := h
    rfl
  · obtain ⟨p, pa, ps, n, ks, cam, at_, sp, j, rfl, hK, hsky, hpa, hps, k1, k2, k3⟩ := h
    refine ⟨_, (pss_cons (ps_expr (pe_call (ok_check_attitude T) (hr.mono (by decide)) (by rfl) T.m_check_attitude T.F_check_attitude.kp T.b_check_attitude .nil (passes_call (takes_of rfl rfl rfl rfl) (fun _ _ _ _ h => h)) (pa_cons (pv 0) (pa_cons (pv 1) pa_nil))))
      (pss_cons (ps_set (i := 4) sc_fits.nd rfl (.inl rfl) (pe_meth (pv 0) T.cl_Sky T.t_Sky_star_at (ok_Sky_star_at T) (hr.mono (by decide)) T.b_Sky_star_at .nil (passes_call (takes_of rfl rfl rfl rfl) (fun _ _ _ _ h => h)) (pa_cons (pv 2) pa_nil)))
      (pss_cons (ps_if (pt_not (pt_val (pe_call (ok_is_spot T) (hr.mono (by decide)) (by rfl) T.m_is_spot T.F_is_spot.kp T.b_is_spot .nil pass0 (pa_cons (pv 0) (pa_cons (pv 3) pa_nil))))) (pss_one (ps_raise rfl (takes_of rfl rfl rfl rfl) (pmk_own PySem.F.excBase_ValueError T.E_InvalidSighting.x T.E_InvalidSighting.g T.E_InvalidSighting.k (raises_own T.E_InvalidSighting.b T.E_InvalidSighting.t) rfl))) pss_nil)
      (pss_cons (ps_set (i := 5) sc_fits.nd rfl (.inl rfl) (pe_call (ok__offset_of T) (hr.mono (by decide)) (by rfl) T.m__offset_of T.F__offset_of.kp T.b__offset_of .nil pass0 (pa_cons (pv 0) (pa_cons (pv 1) (pa_cons (pv 4) pa_nil)))))
      (pss_one (ps_ret (pe_and (pe_cmpR op_notN (pv 5) pe_non (nomark _)) (pe_one (pe_call (ok_are_near T) (hr.mono (by decide)) (by rfl) T.m_are_near T.F_are_near.kp T.b_are_near .nil pass0 (pa_cons (pe_tupM (pa_cons (pe_ix ix_seq (pv 5) pe_int (fun _ _ => rfl)) (pa_cons (pe_ix ix_seq (pv 5) pe_int (fun _ _ => rfl)) (pa_cons (pe_ix ix_seq (pv 4) pe_int (fun _ _ => rfl)) pa_nil)))) (pa_cons (pv 3) (pa_cons (pe_prop (pv 0) T.cl_Sky T.p_Sky_blur (ok_Sky_blur T) (hr.mono (by decide)) T.b_Sky_blur .nil pass0 rfl) (pa_cons (pe_prop (pv 0) T.cl_Sky T.p_Sky_glare (ok_Sky_glare T) (hr.mono (by decide)) T.b_Sky_glare .nil pass0 rfl) pa_nil))))))))))))), ?_⟩
    obtain ⟨⟨h4, h9⟩, hstars, hnd, h20, hcam⟩ := sky_parts hsky
    refine ⟨.ref p, rfl, .ref pa, rfl, p, pa, n, _, _, at_, rfl, hK.1, hpa, fun e => ?_, fun e d H' s1 h1 => k1 e d H' s1 h1⟩
    obtain ⟨dx, ts, tc, h1, h2, h3⟩ := id hK.1
    refine ⟨.ref p, rfl, p, dx, _, rfl, h1, rfl, _, rfl, p, n, ks, cam, j, rfl, hK, by rw [keys_len] at h20; exact h20, fun q j0 hq => ?_, fun hj d H' s1 h1 => k2 e hj d H' s1 h1⟩
    have hkey : (keys ks)[j.toNat]? = some q.2 := by unfold keys; rw [List.getElem?_map, hq]; rfl
    obtain ⟨z1, z2⟩ := k3 e q.2 j0 hkey
    obtain ⟨x, y, qq, rfl, _⟩ := pose_form e
    obtain ⟨r, b, g, l, rfl, _⟩ := cam_form hcam
    obtain ⟨sx, sy, bb, e3, _⟩ := star_form (List.all_eq_true.mp hstars q.2 (List.mem_of_getElem? hkey))
    have hq2 := hK.2 q (List.mem_of_getElem? hq)
    rw [e3] at z2 hq2
    refine ⟨.ref p, rfl, .ref ps, rfl, p, ps, n, _, r, b, g, l, sp, rfl, hK.1, hps, _, rfl, ?_⟩
    cases es : isSpot [r, b, g, l] sp with
    | false => exact iteT (z1 es H (Same.refl _))
    | true =>
      refine iteF ?_
      obtain ⟨u', v', c', rfl⟩ := spot_form es
      refine ⟨.ref p, rfl, .ref pa, rfl, .ref q.1, rfl, p, n, _, r, b, g, l, x, y, qq, sx, sy, bb, pa, q.1, rfl, hK.1, by omega, hpa, hq2, fun eo H' s1 => ?_, fun u v eo H' t s1 tt => ?_⟩
      · have z := z2 es H' s1
        rw [show fitsI n [r, b, g, l] [x, y, qq] [sx, sy, bb] [u', v', c'] = false by unfold fitsI; rw [eo]] at z
        exact ⟨_, rfl, rfl, _, rfl, iteF z⟩
      · refine ⟨_, rfl, rfl, _, rfl, iteT ?_⟩
        refine ⟨.ref t, rfl, .inr (.inl ⟨t, _, 0, .int u, rfl, rfl, tt, rfl, .ref t, rfl, .inr (.inl ⟨t, _, 1, .int v, rfl, rfl, tt, rfl, .ref q.1, rfl, .inr (.inl ⟨q.1, _, 2, .int bb, rfl, rfl, sqT_up s1 hq2, rfl, (by show 3 ≤ sizeLine; decide), fun t3 H2 s2 tt3 => ?_⟩)⟩)⟩)⟩
        have S2 := s1.trans s2
        have hK2 := sky_up S2 hK.1
        refine ⟨.ref ps, rfl, .ref p, rfl, p, dx, _, rfl, S2 _ _ h1, p, n, _, _, b, rfl, hK2, rfl, .ref p, rfl, p, dx, _, rfl, S2 _ _ h1, p, n, _, _, g, rfl, hK2, rfl, ?_⟩
        have z := z2 es H2 S2
        rw [show fitsI n [r, b, g, l] [x, y, qq] [sx, sy, bb] [u', v', c'] = nearC b g [u, v, bb] [u', v', c'] by unfold fitsI; rw [eo]] at z
        exact ⟨t3, ps, u, v, bb, u', v', c', b, g, rfl, tt3, sqT_up S2 hps, z⟩

theorem ok__law_row (T : Txt P K mg a) : FnOk P w K mg base CX0 1 a.f__law_row a.fd__law_row ["cell", "many"] (spRow K) := by
  refine T.F__law_row.ok sc__law_row (fun vs H Q E h => ?_) (fun cdv A outer s H vs Q E hr h => ?_)
  · obtain ⟨c, m, rfl, _⟩ := h
    rfl
  · obtain ⟨c, many, rfl, h0, h1, q⟩ := h
    refine ⟨_, (pss_cons (ps_set (i := 2) sc__law_row.nd rfl (.inl rfl) (pe_lst pa_nil))
      (pss_cons (ps_set (i := 3) sc__law_row.nd rfl (.inl rfl) pe_int)
      (C8.pss_cut (ps_if (pt_cmpR op_ge (pe_callB call_abs (by rfl) T.z_abs (by decide +kernel) (pa_cons (pv 0) pa_nil)) (pe_op op_pow pe_int pe_int) (nomark _)) (pss_one (ps_set (i := 3) sc__law_row.nd rfl (.inl rfl) (pe_callB call_abs (by rfl) T.z_abs (by decide +kernel) (pa_cons (pv 0) pa_nil)))) pss_nil)
      (pss_cons (ps_set (i := 4) sc__law_row.nd rfl (.inl rfl) (pe_op op_mod (pe_callTy call_int1 (by rfl) T.z_int (by decide +kernel) (pa_cons (pe_callB call_abs (by rfl) T.z_abs (by decide +kernel) (pa_cons (pv 0) pa_nil)) pa_nil)) pe_int))
      (pss_cons (ps_for PassesOwn.never rfl (pi_range1 (by rfl) T.z_range (pa_cons (pv 1) pa_nil)) (pg_name (i := 5) sc__law_row.nd rfl (.inl rfl)) (pss_cons (ps_set (i := 4) sc__law_row.nd rfl (.inl rfl) (pe_op op_mod (pe_callTy call_int1 (by rfl) T.z_int (by decide +kernel) (pa_cons (pe_op op_add (pe_op op_mul (pe_op op_add (pv 4) pe_int) pe_int) (pe_op op_mul pe_int (pv 5))) pa_nil)) pe_int))
      (pss_one (ps_if (pt_cmpR op_gt (pv 3) pe_int (nomark _)) (pss_cons (ps_expr (pe_bm PySem.F.plainAttrs_list PySem.F.slot_list_append PySem.F.type_list_append mt_append (pv 2) (pa_cons (pe_op op_mod (pe_callTy call_int1 (by rfl) T.z_int (by decide +kernel) (pa_cons (pv 3) pa_nil)) pe_int) pa_nil)))
      (pss_one (ps_set (i := 3) sc__law_row.nd rfl (.inl rfl) (pe_op op_fdiv (pv 3) pe_int)))) (pss_one (ps_expr (pe_bm PySem.F.plainAttrs_list PySem.F.slot_list_append PySem.F.type_list_append mt_append (pv 2) (pa_cons (pe_op op_mod (pe_callTy call_int1 (by rfl) T.z_int (by decide +kernel) (pa_cons (pe_op op_fdiv (pv 4) pe_int) pa_nil)) pe_int) pa_nil))))))))
      (pss_one (ps_ret (pv 2)))))))), ?_⟩
    refine ⟨Nat.zero_le _, fun o no => ?_⟩
    refine ⟨fun σ' H' => ∃ r : Int, σ' = [some (.int c), some (.int many), some (.ref o), some (.int r), none, none] ∧ 0 ≤ r ∧ H' = upd H o (.lst []), ?_, ?_⟩
    · refine ⟨_, rfl, c, rfl, _, _, rfl, rfl, ⟨by decide, by decide, by decide⟩, _, _, rfl, rfl, _, rfl, ite2 (fun hg => ?_) (fun hg => ⟨0, rfl, by decide, rfl⟩)⟩
      exact ⟨_, rfl, c, rfl, _, rfl, by split <;> omega, rfl⟩
    · rintro σ' H' ⟨r, rfl, hr0, rfl⟩
      refine ⟨_, rfl, c, rfl, .inl ⟨_, rfl, _, _, rfl, rfl, (by show (0 : Int) < 2147483647; decide), ?_⟩⟩
      refine ⟨_, rfl, many, rfl, by omega, by omega, for_range (lo := 0) (n := many.toNat) (fun i σ H2 => ∃ (r s : Int) (k : Option V) (ns : List Int), σ = [some (.int c), some (.int many), some (.ref o), some (.int r), some (.int s), k] ∧ 0 ≤ r ∧ Same H H2 ∧ H2 o = some (.lst (ns.map V.int)) ∧ ns.length = i ∧ ∀ n ∈ ns, Num n)
        ⟨r, _, none, [], rfl, hr0, same_new no, upd_same, rfl, fun n hn => by cases hn⟩ ?_ ?_⟩
      · rintro i σ H2 hi ⟨r, s, k, ns, rfl, hr0, s2, eo, el, hN⟩
        refine ⟨_, rfl, _, _, rfl, rfl, _, _, rfl, rfl, .inr (by constructor <;> decide), _, rfl, _, _, rfl, rfl, .inl (by constructor <;> decide), _, _, rfl, rfl, .inl ⟨_, rfl, _, _, rfl, rfl, (by show (0 : Int) < 2147483647; decide), ?_⟩⟩
        have hlen : (ns.map V.int).length < sizeLine := by
          rw [List.length_map]
          exact sizeN (by omega)
        have fin : ∀ (z r' s' : Int), 0 ≤ r' → Num z → ∃ (r s : Int) (k : Option V) (ns' : List Int), [some (V.int c), some (.int many), some (.ref o), some (.int r'), some (.int s'), some (V.int (0 + (i : Nat)))] = [some (V.int c), some (.int many), some (.ref o), some (.int r), some (.int s), k] ∧ 0 ≤ r ∧ Same H (upd H2 o (.lst (ns.map V.int ++ [V.int z]))) ∧ (upd H2 o (.lst (ns.map V.int ++ [V.int z]))) o = some (.lst (ns'.map V.int)) ∧ ns'.length = i + 1 ∧ ∀ n ∈ ns', Num n := fun z r' s' hr' hz => by
          refine ⟨r', s', _, ns ++ [z], rfl, hr', same_put no s2, ?_, ?_, fun n hn => ?_⟩
          · rw [upd_same, List.map_append]
            rfl
          · rw [List.length_append, el]
            rfl
          · rcases List.mem_append.mp hn with hn | hn
            · exact hN n hn
            · rw [List.mem_singleton.mp hn]
              exact hz
        refine ⟨_, rfl, _, _, rfl, rfl, _, rfl, ite2 (fun hg => ?_) (fun hg => ?_)⟩
        · refine ⟨.ref o, rfl, .inl ⟨rfl, _, .inl (.inl eo)⟩, _, rfl, .inl ⟨_, rfl, _, _, rfl, rfl, (by show (0 : Int) < 1009; decide), o, _, _, rfl, rfl, eo, hlen, ?_⟩⟩
          refine ⟨_, rfl, _, _, rfl, rfl, ⟨by decide, by decide⟩, ?_⟩
          exact fin _ _ _ (Int.ediv_nonneg hr0 (by decide)) ⟨Int.emod_nonneg _ (by decide), Int.emod_lt_of_pos _ (by decide)⟩
        · refine ⟨.ref o, rfl, .inl ⟨rfl, _, .inl (.inl eo)⟩, _, rfl, _, _, rfl, rfl, ⟨by decide, by decide⟩, .inl ⟨_, rfl, _, _, rfl, rfl, (by show (0 : Int) < 1009; decide), o, _, _, rfl, rfl, eo, hlen, ?_⟩⟩
          exact fin _ _ _ hr0 ⟨Int.emod_nonneg _ (by decide), Int.emod_lt_of_pos _ (by decide)⟩
      · rintro σ H2 ⟨r, s, k, ns, rfl, hr0, s2, eo, el, hN⟩
        exact ⟨_, rfl, q H2 o ns s2 no eo (by omega) hN⟩

theorem ok__law_numbers (T : Txt P K mg a) : FnOk P w K mg base CX0 2 a.f__law_numbers a.fd__law_numbers ["script", "many"] (spNums K) := by
  refine T.F__law_numbers.ok sc__law_numbers (fun vs H Q E h => ?_) (fun cdv A outer s H vs Q E hr h => ?_)
  · obtain ⟨p, xs, m, rfl, _⟩ := h
    rfl
  · obtain ⟨b, xs, many, rfl, hS, hx, h0, h1, q⟩ := h
    refine ⟨_, (pss_cons (ps_set (i := 2) sc__law_numbers.nd rfl (.inl rfl) (pe_slice sl_list (pv 0) po_none (po_some pe_int)))
      (pss_cons (ps_set (i := 3) sc__law_numbers.nd rfl (.inl rfl) (pe_op op_add pe_int (pe_op op_fdiv (pv 1) (pe_callB (call_max2 rfl) (by rfl) T.z_max (by decide +kernel) (pa_cons pe_int (pa_cons (pe_callB call_len_seq (by rfl) T.z_len (by decide +kernel) (pa_cons (pv 2) pa_nil)) pa_nil))))))
      (pss_cons (ps_set (i := 4) sc__law_numbers.nd rfl (.inl rfl) (pe_lst pa_nil))
      (pss_cons (ps_for PassesOwn.never rfl (pi_list (pv 2)) (pg_name (i := 5) sc__law_numbers.nd rfl (.inl rfl)) (pss_one (ps_for PassesOwn.never rfl (pi_list (pe_call (ok__law_row T) (hr.mono (by decide)) (by rfl) T.m__law_row T.F__law_row.kp T.b__law_row .nil pass0 (pa_cons (pv 5) (pa_cons (pv 3) pa_nil)))) (pg_name (i := 6) sc__law_numbers.nd rfl (.inl rfl)) (pss_one (ps_expr (pe_bm PySem.F.plainAttrs_list PySem.F.slot_list_append PySem.F.type_list_append mt_append (pv 4) (pa_cons (pv 6) pa_nil)))))))
      (pss_cons (ps_while PassesOwn.never (pt_cmpR op_lt (pe_callB call_len_seq (by rfl) T.z_len (by decide +kernel) (pa_cons (pv 4) pa_nil)) (pv 1) (nomark _)) (pss_one (ps_expr (pe_bm PySem.F.plainAttrs_list PySem.F.slot_list_append PySem.F.type_list_append mt_append (pv 4) (pa_cons pe_int pa_nil)))))
      (pss_one (ps_ret (pe_slice sl_list (pv 4) po_none (po_some (pv 1)))))))))), ?_⟩
    refine ⟨.ref b, rfl, 63, rfl, b, xs.map V.int, rfl, hS, fun c nc => ?_⟩
    have ec : cutV (xs.map V.int) none (some 63) = xs.map V.int := by
      rw [show (63 : Int) = ((63 : Nat) : Int) from rfl, cut_to, List.take_of_length_le (by rw [List.length_map]; exact hx)]
    rw [ec]
    have sc1 := same_new (o := .lst (xs.map V.int)) nc
    refine ⟨_, rfl, .ref c, rfl, c, xs.map V.int, rfl, .inl (.inl (.inl upd_same)), _, _, rfl, ?_⟩
    rw [List.length_map]
    generalize hm : (if ((xs.length : Nat) : Int) > 1 then ((xs.length : Nat) : Int) else 1) = mx
    have hm1 : 1 ≤ mx := by rw [← hm]; split <;> omega
    have hm2 : mx ≤ 63 := by rw [← hm]; split <;> omega
    refine ⟨_, _, rfl, rfl, ⟨by omega, by omega⟩, _, _, rfl, rfl, Nat.zero_le _, fun o no => ?_⟩
    have hd0 : 0 ≤ many / mx := Int.ediv_nonneg h0 (by omega)
    have hd1 : many / mx ≤ many := Int.ediv_le_self _ h0
    have noc : o ≠ c := fun e => by rw [e, upd_same] at no; cases no
    have noH : H o = none := by rw [upd_ne noc] at no; exact no
    refine ⟨.ref c, rfl, c, rfl, ⟨xs.map V.int, .inl (.inl (by rw [upd_ne noc.symm]; exact upd_same))⟩, for_list (K := K) (a := c) (xs := xs.map V.int) (fun i σ H2 => ∃ (k5 k6 : Option V) (ns : List Int), σ = [some (.ref b), some (.int many), some (.ref c), some (.int (1 + many / mx)), some (.ref o), k5, k6] ∧ Same H H2 ∧ H2 c = some (.lst (xs.map V.int)) ∧ H2 o = some (.lst (ns.map V.int)) ∧ ns.length = i * (1 + many / mx).toNat ∧ ∀ n ∈ ns, Num n)
      ⟨none, none, [], rfl, sc1.trans (same_new no), by rw [upd_ne noc.symm]; exact upd_same, upd_same, by simp, fun n hn => by cases hn⟩ (fun i σ H2 _ ⟨_, _, _, _, _, e, _⟩ => .inl (.inl e)) ?_ ?_⟩
    · rintro i y σ H2 hi ⟨k5, k6, ns, rfl, s2, ec2, eo, el, hN⟩
      obtain ⟨z, hz, rfl⟩ := map_at hi
      have hil : i < xs.length := (List.getElem?_eq_some_iff.mp hz).1
      refine ⟨_, rfl, _, rfl, z, _, rfl, by omega, by omega, fun H3 p ms s3 np ep em hM => ?_⟩
      have npo : p ≠ o := fun e => by rw [e, eo] at np; cases np
      refine ⟨p, rfl, ⟨_, .inl (.inl ep)⟩, for_list (K := K) (a := p) (xs := ms.map V.int) (fun j σ H4 => ∃ (k6 : Option V) (ns : List Int), σ = [some (.ref b), some (.int many), some (.ref c), some (.int (1 + many / mx)), some (.ref o), some (.int z), k6] ∧ Same H H4 ∧ H4 c = some (.lst (xs.map V.int)) ∧ H4 p = some (.lst (ms.map V.int)) ∧ H4 o = some (.lst (ns.map V.int)) ∧ ns.length = i * (1 + many / mx).toNat + j ∧ ∀ n ∈ ns, Num n)
        ⟨k6, ns, rfl, s2.trans s3, s3 _ _ ec2, ep, s3 _ _ eo, el, hN⟩ (fun i σ H2 _ ⟨_, _, _, _, _, e, _⟩ => .inl (.inl e)) ?_ ?_⟩
      · rintro j y σ H4 hj ⟨k6, ns, rfl, s4, ec4, ep4, eo4, el4, hN4⟩
        obtain ⟨m, hm', rfl⟩ := map_at hj
        have hjl : j < ms.length := (List.getElem?_eq_some_iff.mp hm').1
        have nco : c ≠ o := noc.symm
        have hb1 : i * (1 + many / mx).toNat ≤ 63 * 1901 := Nat.mul_le_mul (by omega) (by omega)
        refine ⟨.ref o, rfl, .inl ⟨rfl, _, .inl (.inl eo4)⟩, _, rfl, o, _, _, rfl, rfl, eo4, ?_, ?_⟩
        · rw [List.length_map]
          exact sizeN (by omega)
        · refine ⟨_, ns ++ [m], rfl, same_put noH s4, by rw [upd_ne nco]; exact ec4, by rw [upd_ne npo]; exact ep4, by rw [upd_same, map_push], ?_, num_push hN4 (hM m (List.mem_of_getElem? hm'))⟩
          rw [List.length_append, el4]
          rfl
      · rintro σ H4 ⟨k6, ns, rfl, s4, ec4, ep4, eo4, el4, hN4⟩
        refine ⟨_, _, ns, rfl, s4, ec4, eo4, ?_, hN4⟩
        rw [el4, List.length_map, Nat.succ_mul]
        omega
    · rintro σ H2 ⟨k5, k6, ns, rfl, s2, ec2, eo, el, hN⟩
      have hb1 : (xs.map V.int).length * (1 + many / mx).toNat ≤ 63 * 1901 := Nat.mul_le_mul (by rw [List.length_map]; omega) (by omega)
      refine while_by (fun σ H3 => ∃ (ns : List Int), σ = [some (.ref b), some (.int many), some (.ref c), some (.int (1 + many / mx)), some (.ref o), k5, k6] ∧ Same H H3 ∧ H3 o = some (.lst (ns.map V.int)) ∧ ns.length ≤ 130000 ∧ ∀ n ∈ ns, Num n)
        (fun σ H3 => match H3 o with | some (.lst l) => many.toNat - l.length | _ => 0) ⟨ns, rfl, s2, eo, by omega, hN⟩ ?_ ?_
      · rintro σ H3 ⟨ns, rfl, s3, eo3, el3, hN3⟩
        refine ⟨.ref o, rfl, o, _, rfl, .inl (.inl (.inl eo3)), _, rfl, _, _, rfl, rfl, _, rfl, ite2 (fun hg => ?_) (fun hg => ?_)⟩
        · have hg' : (((ns.map V.int).length : Nat) : Int) < many := of_decide_eq_true hg
          rw [List.length_map] at hg'
          refine ⟨.ref o, rfl, .inl ⟨rfl, _, .inl (.inl eo3)⟩, o, _, _, rfl, rfl, eo3, ?_, ?_⟩
          · rw [List.length_map]
            exact sizeN (by omega)
          · refine ⟨⟨ns ++ [0], rfl, same_put noH s3, by rw [upd_same, map_push], by rw [List.length_append]; show ns.length + 1 ≤ _; omega, num_push hN3 ⟨by decide, by decide⟩⟩, ?_⟩
            rw [eo3, upd_same]
            show many.toNat - (ns.map V.int ++ [V.int 0]).length < many.toNat - (ns.map V.int).length
            rw [List.length_append, List.length_map]
            show many.toNat - (ns.length + 1) < _
            omega
        · have hg' : ¬ (((ns.map V.int).length : Nat) : Int) < many := fun z => hg (decide_eq_true z)
          rw [List.length_map] at hg'
          refine ⟨.ref o, rfl, _, rfl, many, rfl, o, _, rfl, .inl (.inl eo3), fun p np => ?_⟩
          rw [show many = ((many.toNat : Nat) : Int) by omega, cut_to, ← List.map_take]
          refine q _ p (ns.take many.toNat) (s3.trans (same_new np)) (s3.free np) upd_same ?_ (fun n hn => hN3 n (List.mem_of_mem_take hn))
          rw [List.length_take]
          omega
      · rintro σ H3 Q1 Q2 hQ ⟨v, e1, p, ys, e2, e3, m, e4, i, j, e5, e6, k, e7, e8⟩
        exact ⟨v, e1, p, ys, e2, e3, m, e4, i, j, e5, e6, k, e7, hQ _ _ e8⟩

theorem ok__law_parts (T : Txt P K mg a) : FnOk P w K mg base CX0 1 a.f__law_parts a.fd__law_parts ["numbers", "at", "most"] (spParts K) := by
  refine T.F__law_parts.ok sc__law_parts (fun vs H Q E h => ?_) (fun cdv A outer s H vs Q E hr h => ?_)
  · obtain ⟨p1, ns, at', most, rfl, _⟩ := h
    rfl
  · obtain ⟨p1, ns, at', most, rfl, hL, hN, ha, hm0, hm1, hlen, k⟩ := h
    have hu65 : (A.deeper (envOfC "_law_parts" (defScope s__law_parts) s.heap.objs.size a.f__law_parts cdv)).units + 65 < cLine := by
      have := hr.un
      omega
    refine ⟨_, (pss_cons (ps_set (i := 3) sc__law_parts.nd rfl (.inl rfl) (pe_ix ix_seq (pe_lstM (pa_cons pe_int (pa_cons pe_int (pa_cons pe_int (pa_cons pe_int (pa_cons pe_int (pa_cons pe_int pa_nil))))))) (pe_op op_mod (pe_callTy call_int1 (by rfl) T.z_int (by decide +kernel) (pa_cons (pe_ix ix_seq (pv 0) (pv 1) (fun _ _ => rfl)) pa_nil)) pe_int) (fun _ _ => rfl)))
      (pss_cons (ps_set (i := 4) sc__law_parts.nd rfl (.inl rfl) (pe_op op_fdiv (pe_op op_sub (pv 3) pe_int) pe_int))
      (pss_cons (ps_set (i := 5) sc__law_parts.nd rfl (.inl rfl) (pe_callB (call_min2 rfl) (by rfl) T.z_min (by decide +kernel) (pa_cons (pv 4) (pa_cons (pe_ix ix_seq (pe_lstM (pa_cons pe_int (pa_cons pe_int (pa_cons pe_int (pa_cons pe_int (pa_cons pe_int pa_nil)))))) (pe_op op_mod (pe_callTy call_int1 (by rfl) T.z_int (by decide +kernel) (pa_cons (pe_ix ix_seq (pv 0) (pe_op op_add (pv 1) pe_int) (fun _ _ => rfl)) pa_nil)) pe_int) (fun _ _ => rfl)) pa_nil))))
      (pss_cons (ps_set (i := 6) sc__law_parts.nd rfl (.inl rfl) (pe_op op_mod (pe_callTy call_int1 (by rfl) T.z_int (by decide +kernel) (pa_cons (pe_ix ix_seq (pv 0) (pe_op op_add (pv 1) pe_int) (fun _ _ => rfl)) pa_nil)) (pe_op op_add pe_int (pe_callB (call_min3I rfl) (by rfl) T.z_min (by decide +kernel) (pa_cons pe_int (pa_cons (pv 5) (pa_cons (pe_op op_sub (pv 4) (pv 5)) pa_nil)))))))
      (pss_cons (ps_set (i := 7) sc__law_parts.nd rfl (.inl rfl) (pe_tupM (pa_cons (pv 5) (pa_cons (pv 6) (pa_cons (pe_op op_mod (pe_callTy call_int1 (by rfl) T.z_int (by decide +kernel) (pa_cons (pe_ix ix_seq (pv 0) (pe_op op_add (pv 1) pe_int) (fun _ _ => rfl)) pa_nil)) pe_int) (pa_cons (pe_ix ix_seq (pe_lstM (pa_cons pe_int (pa_cons pe_int (pa_cons pe_int (pa_cons pe_int (pa_cons pe_int pa_nil)))))) (pe_op op_mod (pe_callTy call_int1 (by rfl) T.z_int (by decide +kernel) (pa_cons (pe_ix ix_seq (pv 0) (pe_op op_add (pv 1) pe_int) (fun _ _ => rfl)) pa_nil)) pe_int) (fun _ _ => rfl)) pa_nil))))))
      (pss_cons (ps_set (i := 8) sc__law_parts.nd rfl (.inl rfl) (pe_lstM pa_nil))
      (pss_cons (ps_for PassesOwn.never rfl (pi_range1 (by rfl) T.z_range (pa_cons (pe_op op_mod (pe_callTy call_int1 (by rfl) T.z_int (by decide +kernel) (pa_cons (pe_ix ix_seq (pv 0) (pe_op op_add (pv 1) pe_int) (fun _ _ => rfl)) pa_nil)) (pe_op op_add (pv 2) pe_int)) pa_nil)) (pg_name (i := 9) sc__law_parts.nd rfl (.inl rfl)) (pss_cons (ps_set (i := 10) sc__law_parts.nd rfl (.inl rfl) (pe_op op_add (pe_op op_add (pv 1) pe_int) (pe_op op_mul pe_int (pv 9))))
      (pss_cons (ps_set (i := 11) sc__law_parts.nd rfl (.inl rfl) (pe_tupM (pa_cons (pe_op op_mod (pe_callTy call_int1 (by rfl) T.z_int (by decide +kernel) (pa_cons (pe_ix ix_seq (pv 0) (pv 10) (fun _ _ => rfl)) pa_nil)) (pv 3)) (pa_cons (pe_op op_mod (pe_callTy call_int1 (by rfl) T.z_int (by decide +kernel) (pa_cons (pe_ix ix_seq (pv 0) (pe_op op_add (pv 10) pe_int) (fun _ _ => rfl)) pa_nil)) (pv 3)) (pa_cons (pe_op op_add pe_int (pe_op op_mod (pe_callTy call_int1 (by rfl) T.z_int (by decide +kernel) (pa_cons (pe_ix ix_seq (pv 0) (pe_op op_add (pv 10) pe_int) (fun _ _ => rfl)) pa_nil)) pe_int)) pa_nil)))))
      (pss_one (ps_if (pt_cmpR (op_notInD hu65) (pv 11) (pv 8) (by rfl)) (pss_one (ps_expr (pe_bm PySem.F.plainAttrs_list PySem.F.slot_list_append PySem.F.type_list_append mt_append (pv 8) (pa_cons (pv 11) pa_nil)))) pss_nil)))))
      (pss_one (ps_ret (pe_tupM (pa_cons (pv 3) (pa_cons (pe_callB (cr_sortM (d := 3) (B := 10) (by decide)) (by rfl) T.z_sorted (by decide +kernel) (pa_cons (pv 8) pa_nil)) (pa_cons (pv 7) pa_nil))))))))))))), ?_⟩
    -- side
    refine ⟨(by show 6 ≤ sizeLine; decide), fun l1 H1 s1 _ el1 => ?_⟩
    have hL1 := s1.seq hL
    refine ⟨.ref p1, rfl, _, rfl, .inl ⟨p1, _, _, _, rfl, rfl, hL1, nthI (by omega) (by omega), .inl ⟨_, rfl, _, _, rfl, rfl, (by show (0 : Int) < 6; decide), ?_⟩⟩⟩
    obtain ⟨n, en, hn⟩ := pickI (zs := [5, 4, 6, 7, 8, 9]) (j := numI ns at' % 6) (P := fun z => 4 ≤ z ∧ z ≤ 9) (by decide) (Int.emod_nonneg _ (by decide)) (Int.emod_lt_of_pos _ (by decide))
    refine .inl ⟨l1, _, _, _, rfl, rfl, .inl (.inl el1), en, ?_⟩
    have hn0 : 0 < n := by omega
    -- half
    refine ⟨_, rfl, _, _, rfl, rfl, _, _, rfl, rfl, ⟨by decide, by decide⟩, ?_⟩
    -- reach
    refine ⟨_, rfl, (by show 5 ≤ sizeLine; decide), fun l2 H2 s2 _ el2 => ?_⟩
    have hL2 := s2.seq hL1
    refine ⟨.ref p1, rfl, _, rfl, _, _, rfl, rfl, .inl ⟨p1, _, _, _, rfl, rfl, hL2, nthI (by omega) (by omega), .inl ⟨_, rfl, _, _, rfl, rfl, (by show (0 : Int) < 5; decide), ?_⟩⟩⟩
    obtain ⟨r0, er, hr0⟩ := pickI (zs := [1, 2, 0, 3, 4]) (j := numI ns (at' + 1) % 5) (P := fun z => 0 ≤ z ∧ z ≤ 4) (by decide) (Int.emod_nonneg _ (by decide)) (Int.emod_lt_of_pos _ (by decide))
    refine .inl ⟨l2, _, _, _, rfl, rfl, .inl (.inl el2), er, _, _, rfl, ?_⟩
    obtain ⟨r, hr', r1, r2, r3⟩ : ∃ r, (if r0 < (n - 1) / 2 then r0 else (n - 1) / 2) = r ∧ 0 ≤ r ∧ r ≤ 4 ∧ r ≤ (n - 1) / 2 := by
      refine ⟨_, rfl, ?_⟩
      split <;> omega
    rw [hr']
    -- blur
    refine ⟨.ref p1, rfl, _, rfl, _, _, rfl, rfl, .inl ⟨p1, _, _, _, rfl, rfl, hL2, nthI (by omega) (by omega), .inl ⟨_, rfl, ?_⟩⟩⟩
    refine ⟨_, rfl, _, rfl, _, rfl, _, _, rfl, rfl, _, _, _, rfl, fun m m1 m2 m3 hm => ?_⟩
    have hmp : 0 ≤ m := by omega
    refine ⟨_, _, rfl, rfl, _, _, rfl, rfl, (by show (0 : Int) < 1 + m; omega), ?_⟩
    have hb : 0 ≤ numI ns (at' + 2) % (1 + m) ∧ numI ns (at' + 2) % (1 + m) ≤ m := ⟨Int.emod_nonneg _ (by omega), by have := Int.emod_lt_of_pos (numI ns (at' + 2)) (show (0 : Int) < 1 + m by omega); omega⟩
    -- camera
    refine ⟨_, rfl, _, rfl, .ref p1, rfl, _, rfl, _, _, rfl, rfl, .inl ⟨p1, _, _, _, rfl, rfl, hL2, nthI (by omega) (by omega), .inl ⟨_, rfl, _, _, rfl, rfl, (by show (0 : Int) < 3; decide), ?_⟩⟩⟩
    refine ⟨(by show 5 ≤ sizeLine; decide), fun l3 H3 s3 _ el3 => ?_⟩
    have hL3 := s3.seq hL2
    refine ⟨.ref p1, rfl, _, rfl, _, _, rfl, rfl, .inl ⟨p1, _, _, _, rfl, rfl, hL3, nthI (by omega) (by omega), .inl ⟨_, rfl, _, _, rfl, rfl, (by show (0 : Int) < 5; decide), ?_⟩⟩⟩
    obtain ⟨li, eli, hli⟩ := pickI (zs := [1, 2, 3, 5, 9]) (j := numI ns (at' + 4) % 5) (P := fun z => 1 ≤ z ∧ z ≤ 9) (by decide) (Int.emod_nonneg _ (by decide)) (Int.emod_lt_of_pos _ (by decide))
    refine .inl ⟨l3, _, _, _, rfl, rfl, .inl (.inl el3), eli, (by show 4 ≤ sizeLine; decide), fun pc H4 s4 tc => ?_⟩
    have hgl : 0 ≤ numI ns (at' + 3) % 3 ∧ numI ns (at' + 3) % 3 ≤ 2 := by omega
    have tc' : SqT K H4 pc ([r, numI ns (at' + 2) % (1 + m), numI ns (at' + 3) % 3, li].map V.int) := tc
    have hcam : isCam n [r, numI ns (at' + 2) % (1 + m), numI ns (at' + 3) % 3, li] = true := decide_eq_true (by omega)
    generalize [r, numI ns (at' + 2) % (1 + m), numI ns (at' + 3) % 3, li] = cam at tc' hcam
    clear tc
    have hL4 := s4.seq hL3
    have S4 : Same H H4 := ((s1.trans s2).trans s3).trans s4
    -- stars
    refine ⟨Nat.zero_le _, fun ls H5 s5 nls els => ?_⟩
    refine ⟨.ref p1, rfl, _, rfl, _, _, rfl, rfl, .inl ⟨p1, _, _, _, rfl, rfl, s5.seq hL4, nthI (by omega) (by omega), .inl ⟨_, rfl, _, rfl, _, _, rfl, rfl, _, _, rfl, rfl, (by show (0 : Int) < most + 1; omega), ?_⟩⟩⟩
    have hm' : 0 ≤ numI ns (at' + 5) % (most + 1) ∧ numI ns (at' + 5) % (most + 1) ≤ most := ⟨Int.emod_nonneg _ (by omega), by have := Int.emod_lt_of_pos (numI ns (at' + 5)) (show (0 : Int) < most + 1 by omega); omega⟩
    refine ⟨_, rfl, (by show -2 ^ 62 ≤ numI ns (at' + 5) % (most + 1); omega), (by show numI ns (at' + 5) % (most + 1) < _; omega), for_range (lo := 0) (n := (numI ns (at' + 5) % (most + 1)).toNat) (fun i σ H6 => ∃ (z9 z10 z11 : Option V) (ks : Tups), σ = [some (.ref p1), some (.int at'), some (.int most), some (.int n), some (.int ((n - 1) / 2)), some (.int r), some (.int (numI ns (at' + 2) % (1 + m))), some (.ref pc), some (.ref ls), z9, z10, z11] ∧ Same H4 H6 ∧ H6 ls = some (.lst (refs ks)) ∧ TupsAt K H6 ks ∧ ks.length ≤ i ∧ (keys ks).Nodup ∧ ∀ x ∈ keys ks, isStar n x = true)
      ⟨none, none, none, [], rfl, s5, els, (fun p hp => by cases hp), Nat.le_refl _, List.nodup_nil, fun x hx => by cases hx⟩ ?_ ?_⟩
    · rintro i σ H6 hi ⟨z9, z10, z11, ks, rfl, s6, e6, t6, hlen6, hnd, hst⟩
      have hL6 := s6.seq hL4
      refine ⟨_, rfl, _, _, rfl, rfl, _, rfl, _, _, rfl, rfl, .inl (by constructor <;> decide), _, _, rfl, rfl, ?_⟩
      refine ⟨.ref p1, rfl, _, rfl, .inl ⟨p1, _, _, _, rfl, rfl, hL6, nthI (by omega) (by omega), .inl ⟨_, rfl, _, rfl, _, _, rfl, rfl, hn0, ?_⟩⟩⟩
      refine ⟨.ref p1, rfl, _, rfl, _, _, rfl, rfl, .inl ⟨p1, _, _, _, rfl, rfl, hL6, nthI (by omega) (by omega), .inl ⟨_, rfl, _, rfl, _, _, rfl, rfl, hn0, ?_⟩⟩⟩
      refine ⟨.ref p1, rfl, _, rfl, _, _, rfl, rfl, .inl ⟨p1, _, _, _, rfl, rfl, hL6, nthI (by omega) (by omega), .inl ⟨_, rfl, _, _, rfl, rfl, (by show (0 : Int) < 9; decide), _, _, rfl, rfl, ?_⟩⟩⟩
      refine ⟨(by show 3 ≤ sizeLine; decide), fun pt H7 s7 tt => ?_⟩
      obtain ⟨k3, tt', hk3⟩ : ∃ k3 : List Int, SqT K H7 pt (k3.map V.int) ∧ isStar n k3 = true := ⟨[_, _, _], tt, decide_eq_true ⟨Int.emod_nonneg _ (by omega), Int.emod_lt_of_pos _ hn0, Int.emod_nonneg _ (by omega), Int.emod_lt_of_pos _ hn0, by omega, by omega⟩⟩
      clear tt
      have e7 := s7 _ _ e6
      have t7 := tups_up s7 t6
      refine ⟨.ref pt, rfl, .ref ls, rfl, _, _, dp_ti tt', dp_l e7 (dp_tups t7), shaped_of (lay_ti _) (by decide), shaped_of (lay_tups _) (by decide), _, rfl, ?_⟩
      rw [any_tups]
      by_cases hin : k3 ∈ keys ks
      · rw [decide_eq_true hin]
        exact iteF ⟨_, _, _, ks, rfl, s6.trans s7, e7, t7, by omega, hnd, hst⟩
      · rw [decide_eq_false hin]
        have hlt : (refs ks).length < sizeLine := by
          rw [refs_len]
          exact sizeN (by omega)
        refine iteT ⟨.ref ls, rfl, .inl ⟨rfl, _, .inl (.inl e7)⟩, .ref pt, rfl, ls, _, _, rfl, rfl, e7, hlt, ?_⟩
        refine ⟨_, _, _, ks ++ [(pt, k3)], rfl, ?_, by rw [upd_same, ← refs_push], ?_, by rw [List.length_append]; show ks.length + 1 ≤ _; omega, by rw [keys_push]; exact nodup_push hnd hin, fun x hx => ?_⟩
        · have nH : H4 ls = none := nls
          exact same_put nH (s6.trans s7)
        · intro p hp
          rcases List.mem_append.mp hp with hp | hp
          · exact tups_put e7 t7 p hp
          · rw [List.mem_singleton.mp hp]
            exact sqT_lst e7 tt'
        · rw [keys_push] at hx
          rcases List.mem_append.mp hx with hx | hx
          · exact hst x hx
          · rw [List.mem_singleton.mp hx]
            exact hk3
    · rintro σ H6 ⟨z9, z10, z11, ks, rfl, s6, e6, t6, hlen6, hnd, hst⟩
      have hall : (keys ks).all (isStar n) = true := List.all_eq_true.mpr hst
      refine ⟨_, rfl, .ref ls, rfl, ls, ks, rfl, .inl (.inl e6), t6, by omega, stars_fit hall hn.2, fun l ks' H7 s7 nl el hperm hasc => ?_⟩
      refine ⟨.ref pc, rfl, (by show 3 ≤ sizeLine; decide), fun t H8 s8 tt => ?_⟩
      have S8 : Same H4 H8 := (s6.trans s7).trans s8
      have hsky : isSky n (keys ks') cam = true := by
        rw [isSky_perm (kk := keys ks') (mm := keys ks) (hperm.map _)]
        unfold isSky
        rw [decide_eq_true hn, hall, decide_eq_true hnd, hcam, show decide ((keys ks).length ≤ 20) = true from decide_eq_true (by rw [keys_len]; omega)]
        rfl
      exact k H8 t l pc n ks' cam (S4.trans S8) tt ((S4.trans (s6)).free nl) (s8 _ _ el) (fun p hp => sqT_up (s7.trans s8) (t6 p (hperm.mem_iff.mp hp))) (sqT_up S8 tc') hsky (by have := hperm.length_eq; omega) hasc

theorem ok__law_turn (T : Txt P K mg a) : FnOk P w K mg base CX0 1 a.f__law_turn a.fd__law_turn ["quarter", "pair"] (spLTurn K) := by
  refine T.F__law_turn.ok sc__law_turn (fun vs H Q E h => ?_) (fun cdv A outer s H vs Q E hr h => ?_)
  · obtain ⟨q, x, y, p, rfl, _⟩ := h
    rfl
  · obtain ⟨q, x, y, p, rfl, hS, h0, h3, k⟩ := h
    refine ⟨_, (pss_cons (ps_asg (pv 1) (pg_seq rfl (pgs_cons (pg_name (i := 2) sc__law_turn.nd rfl (.inl rfl)) (pgs_cons (pg_name (i := 3) sc__law_turn.nd rfl (.inl rfl)) pgs_nil))))
      (pss_one (ps_ret (pe_ix ix_seq (pe_lstM (pa_cons (pe_tupM (pa_cons (pv 2) (pa_cons (pv 3) pa_nil))) (pa_cons (pe_tupM (pa_cons (pe_un un_neg (pv 3)) (pa_cons (pv 2) pa_nil))) (pa_cons (pe_tupM (pa_cons (pe_un un_neg (pv 2)) (pa_cons (pe_un un_neg (pv 3)) pa_nil))) (pa_cons (pe_tupM (pa_cons (pv 3) (pa_cons (pe_un un_neg (pv 2)) pa_nil))) pa_nil))))) (pv 0) (fun _ _ => rfl))))), ?_⟩
    refine ⟨.ref p, rfl, p, _, hS.elim (fun z => ⟨rfl, .inl z, rfl, ?_⟩) (fun z => ⟨rfl, .inr z, rfl, ?_⟩)⟩
    all_goals
      refine ⟨_, _, rfl, _, _, rfl, rfl, ?_⟩
      refine ⟨_, rfl, _, rfl, (by show 2 ≤ sizeLine; decide), fun p1 H1 s1 t1 => ?_⟩
      refine ⟨_, rfl, _, rfl, _, rfl, (by show 2 ≤ sizeLine; decide), fun p2 H2 s2 t2 => ?_⟩
      refine ⟨_, rfl, _, rfl, _, rfl, _, rfl, (by show 2 ≤ sizeLine; decide), fun p3 H3 s3 t3 => ?_⟩
      refine ⟨_, rfl, _, rfl, _, rfl, (by show 2 ≤ sizeLine; decide), fun p4 H4 s4 t4 => ?_⟩
      refine ⟨(by show 4 ≤ sizeLine; decide), fun l H5 s5 nl el => ⟨_, rfl, .inl ?_⟩⟩
      have hq : q = 0 ∨ q = 1 ∨ q = 2 ∨ q = 3 := by omega
      have S1 : Same H1 H5 := s2.trans (s3.trans (s4.trans s5))
      rcases hq with rfl | rfl | rfl | rfl
      · exact ⟨l, _, 0, .ref p1, rfl, rfl, .inl (.inl el), rfl, k H5 p1 (s1.trans S1) (sqT_up S1 t1)⟩
      · exact ⟨l, _, 1, .ref p2, rfl, rfl, .inl (.inl el), rfl, k H5 p2 (s1.trans S1) (sqT_up (s3.trans (s4.trans s5)) t2)⟩
      · exact ⟨l, _, 2, .ref p3, rfl, rfl, .inl (.inl el), rfl, k H5 p3 (s1.trans S1) (sqT_up (s4.trans s5) t3)⟩
      · exact ⟨l, _, 3, .ref p4, rfl, rfl, .inl (.inl el), rfl, k H5 p4 (s1.trans S1) (sqT_up s5 t4)⟩

theorem ok__law_offset (T : Txt P K mg a) : FnOk P w K mg base CX0 2 a.f__law_offset a.fd__law_offset ["parts", "attitude", "star"] (spLOff K) := by
  refine T.F__law_offset.ok sc__law_offset (fun vs H Q E h => ?_) (fun cdv A outer s H vs Q E hr h => ?_)
  · obtain ⟨pp, pa, ps, n, ks, r, b, g, l, x, y, q, sx, sy, bb, rfl, _⟩ := h
    rfl
  · obtain ⟨pp, pa, ps, n, ks, r, b, g, l, x, y, q, sx, sy, bb, rfl, ⟨lk, ck, hpp, hl, ht, hc⟩, h4, h9, hcam, hpa, q0, q3, hps, k1, k2⟩ := h
    refine ⟨_, (pss_cons (ps_asg (pv 0) (pg_tup rfl (pgs_cons (pg_name (i := 3) sc__law_offset.nd rfl (.inl rfl)) (pgs_cons (pg_name (i := 4) sc__law_offset.nd rfl (.inl rfl)) (pgs_cons (pg_name (i := 5) sc__law_offset.nd rfl (.inl rfl)) pgs_nil)))))
      (pss_cons (ps_set (i := 6) sc__law_offset.nd rfl (.inl rfl) (pe_op op_add (pe_ix ix_seq (pv 5) pe_int (fun _ _ => rfl)) (pe_ix ix_seq (pv 5) pe_int (fun _ _ => rfl))))
      (pss_cons (ps_for PassesOwn.never rfl (pi_range2 (by rfl) T.z_range (pa_cons (pe_un un_neg (pv 6)) (pa_cons (pe_op op_add (pv 6) pe_int) pa_nil))) (pg_name (i := 7) sc__law_offset.nd rfl (.inl rfl)) (pss_one (ps_for PassesOwn.never rfl (pi_range2 (by rfl) T.z_range (pa_cons (pe_un un_neg (pv 6)) (pa_cons (pe_op op_add (pv 6) pe_int) pa_nil))) (pg_name (i := 8) sc__law_offset.nd rfl (.inl rfl)) (pss_cons (ps_asg (pe_call (ok__law_turn T) (hr.mono (by decide)) (by rfl) T.m__law_turn T.F__law_turn.kp T.b__law_turn .nil pass0 (pa_cons (pe_ix ix_seq (pv 1) pe_int (fun _ _ => rfl)) (pa_cons (pe_tupM (pa_cons (pv 7) (pa_cons (pv 8) pa_nil))) pa_nil))) (pg_tup rfl (pgs_cons (pg_name (i := 9) sc__law_offset.nd rfl (.inl rfl)) (pgs_cons (pg_name (i := 10) sc__law_offset.nd rfl (.inl rfl)) pgs_nil))))
      (pss_one (ps_if (PW.pt (pw_and (pt_cmpR op_eq (pe_op op_mod (pe_callTy call_int1 (by rfl) T.z_int (by decide +kernel) (pa_cons (pe_op op_sub (pe_op op_add (pe_ix ix_seq (pv 1) pe_int (fun _ _ => rfl)) (pv 9)) (pe_ix ix_seq (pv 2) pe_int (fun _ _ => rfl))) pa_nil)) (pv 3)) pe_int (nomark _)) (pw_and1 (pt_cmpR op_eq (pe_op op_mod (pe_callTy call_int1 (by rfl) T.z_int (by decide +kernel) (pa_cons (pe_op op_sub (pe_op op_add (pe_ix ix_seq (pv 1) pe_int (fun _ _ => rfl)) (pv 10)) (pe_ix ix_seq (pv 2) pe_int (fun _ _ => rfl))) pa_nil)) (pv 3)) pe_int (nomark _))))) (pss_one (ps_ret (pe_tupM (pa_cons (pv 7) (pa_cons (pv 8) pa_nil))))) pss_nil))))))
      (pss_one (ps_ret pe_non))))), ?_⟩
    obtain ⟨c1, c2, c3, c4, c5, c6, c7, c8, c9, c10⟩ : 0 ≤ r ∧ r ≤ 4 ∧ 0 ≤ b ∧ b ≤ 2 ∧ 0 ≤ g ∧ g ≤ 2 ∧ 1 ≤ l ∧ l ≤ 9 ∧ b ≤ r ∧ 2 * (r + b) + 1 ≤ n := of_decide_eq_true hcam
    have hn : 0 < n := by omega
    refine ⟨.ref pp, rfl, pp, _, rfl, hpp, rfl, _, _, rfl, _, _, rfl, _, _, rfl, rfl, ?_⟩
    refine ⟨.ref ck, rfl, .inr (.inl ⟨ck, _, 0, .int r, rfl, rfl, hc, rfl, .ref ck, rfl, .inr (.inl ⟨ck, _, 1, .int b, rfl, rfl, hc, rfl, _, _, rfl, rfl, ?_⟩)⟩)⟩
    -- what was tried does not fit
    have I1 : ∀ dx dy : Int, -(r + b) ≤ dx → dx ≤ r + b → -(r + b) ≤ dy → dy ≤ r + b → ((x + turnX q dx dy - sx) % n = 0 ∧ (y + turnY q dx dy - sy) % n = 0) → offI n [r, b, g, l] [x, y, q] [sx, sy, bb] = some (dx, dy) := fun dx dy a0 a1 b0 b1 h => (off_iff h4 h9 c10 q0 q3 a0 a1 b0 b1).mp h
    have I2 : ∀ dx dy : Int, -(r + b) ≤ dx → dx ≤ r + b → -(r + b) ≤ dy → dy ≤ r + b → ¬ ((x + turnX q dx dy - sx) % n = 0 ∧ (y + turnY q dx dy - sy) % n = 0) → offI n [r, b, g, l] [x, y, q] [sx, sy, bb] ≠ some (dx, dy) := fun dx dy a0 a1 b0 b1 h z => h ((off_iff h4 h9 c10 q0 q3 a0 a1 b0 b1).mpr z)
    refine ⟨_, rfl, _, rfl, _, rfl, _, _, rfl, rfl, ?_⟩
    have fin : ∀ (H1 : Hp), Same H H1 → (∀ u v, offI n [r, b, g, l] [x, y, q] [sx, sy, bb] = some (u, v) → False) → Q .non H1 := fun H1 s1 no => by
      cases e : offI n [r, b, g, l] [x, y, q] [sx, sy, bb] with
      | none => exact k1 e H1 s1
      | some z => exact (no z.1 z.2 e).elim
    refine ⟨-(r + b), r + b + 1, rfl, ⟨by omega, by omega, by omega, by omega⟩, for_range (lo := -(r + b)) (n := (r + b + 1 - -(r + b)).toNat) (fun i σ H1 => ∃ z7 z8 z9 z10 : Option V, σ = [some (.ref pp), some (.ref pa), some (.ref ps), some (.int n), some (.ref lk), some (.ref ck), some (.int (r + b)), z7, z8, z9, z10] ∧ Same H H1 ∧ ∀ u v, offI n [r, b, g, l] [x, y, q] [sx, sy, bb] = some (u, v) → -(r + b) + (i : Nat) ≤ u)
      ⟨_, _, _, _, rfl, Same.refl _, fun u v e => by have := off_some e; omega⟩ ?_ ?_⟩
    · rintro i σ H1 hi ⟨z7, z8, z9, z10, rfl, S1, inv1⟩
      have hdx : -(r + b) ≤ -(r + b) + (i : Nat) ∧ -(r + b) + (i : Nat) ≤ r + b := by omega
      generalize edx : -(r + b) + ((i : Nat) : Int) = dx at hdx inv1 ⊢
      refine ⟨_, rfl, _, rfl, _, rfl, _, _, rfl, rfl, ?_⟩
      refine ⟨-(r + b), r + b + 1, rfl, ⟨by omega, by omega, by omega, by omega⟩, for_range (lo := -(r + b)) (n := (r + b + 1 - -(r + b)).toNat) (fun j σ H2 => ∃ z8 z9 z10 : Option V, σ = [some (.ref pp), some (.ref pa), some (.ref ps), some (.int n), some (.ref lk), some (.ref ck), some (.int (r + b)), some (.int dx), z8, z9, z10] ∧ Same H H2 ∧ ∀ u v, offI n [r, b, g, l] [x, y, q] [sx, sy, bb] = some (u, v) → dx < u ∨ (u = dx ∧ -(r + b) + (j : Nat) ≤ v))
        ⟨_, _, _, rfl, S1, fun u v e => by have := off_some e; have := inv1 u v e; omega⟩ ?_ ?_⟩
      · rintro j σ H2 hj ⟨z8, z9, z10, rfl, S2, inv2⟩
        have hdy : -(r + b) ≤ -(r + b) + (j : Nat) ∧ -(r + b) + (j : Nat) ≤ r + b := by omega
        generalize edy : -(r + b) + ((j : Nat) : Int) = dy at hdy inv2 ⊢
        have go : ∀ (H6 : Hp) (y9 y10 : Option V), Same H H6 → ¬ ((x + turnX q dx dy - sx) % n = 0 ∧ (y + turnY q dx dy - sy) % n = 0) → ∃ z8 z9 z10 : Option V, [some (.ref pp), some (.ref pa), some (.ref ps), some (.int n), some (.ref lk), some (.ref ck), some (.int (r + b)), some (.int dx), some (.int dy), y9, y10] = [some (.ref pp), some (.ref pa), some (.ref ps), some (.int n), some (.ref lk), some (.ref ck), some (.int (r + b)), some (.int dx), z8, z9, z10] ∧ Same H H6 ∧ ∀ u v, offI n [r, b, g, l] [x, y, q] [sx, sy, bb] = some (u, v) → dx < u ∨ (u = dx ∧ -(r + b) + ((j + 1 : Nat) : Int) ≤ v) := fun H6 y9 y10 S6 hno => ⟨_, _, _, rfl, S6, fun u v e => by
          have ne := I2 dx dy hdx.1 hdx.2 hdy.1 hdy.2 hno
          rcases inv2 u v e with h | ⟨h, h'⟩
          · exact .inl h
          · refine .inr ⟨h, ?_⟩
            by_cases z : v = dy
            · rw [h, z] at e
              exact absurd e ne
            · omega⟩
        refine ⟨.ref pa, rfl, .inr (.inl ⟨pa, _, 2, .int q, rfl, rfl, sqT_up S2 hpa, rfl, _, rfl, _, rfl, (by show 2 ≤ sizeLine; decide), fun t1 H3 s3 tt => ?_⟩)⟩
        refine ⟨q, dx, dy, t1, rfl, .inl tt, q0, q3, fun H4 t2 s4 tt2 => ?_⟩
        refine ⟨t2, _, rfl, tt2, rfl, _, _, rfl, _, _, rfl, rfl, ?_⟩
        have S4 := (S2.trans s3).trans s4
        have hpa4 := sqT_up S4 hpa
        have hps4 := sqT_up S4 hps
        refine ⟨.ref pa, rfl, .inr (.inl ⟨pa, _, 0, .int x, rfl, rfl, hpa4, rfl, _, rfl, _, _, rfl, rfl, .ref ps, rfl, .inr (.inl ⟨ps, _, 0, .int sx, rfl, rfl, hps4, rfl, _, _, rfl, rfl, .inl ⟨_, rfl, _, rfl, _, _, rfl, rfl, hn, rfl, _, rfl, ite2 (fun g1 => ?_) (fun g1 => ?_)⟩⟩)⟩)⟩
        · refine ⟨.ref pa, rfl, .inr (.inl ⟨pa, _, 1, .int y, rfl, rfl, hpa4, rfl, _, rfl, _, _, rfl, rfl, .ref ps, rfl, .inr (.inl ⟨ps, _, 1, .int sy, rfl, rfl, hps4, rfl, _, _, rfl, rfl, .inl ⟨_, rfl, _, rfl, _, _, rfl, rfl, hn, rfl, _, rfl, ite2 (fun g2 => ?_) (fun g2 => ?_)⟩⟩)⟩)⟩
          · have e1 : (x + turnX q dx dy - sx) % n = 0 := V.int.inj (of_decide_eq_true g1)
            have e2 : (y + turnY q dx dy - sy) % n = 0 := V.int.inj (of_decide_eq_true g2)
            exact ⟨_, rfl, _, rfl, (by show 2 ≤ sizeLine; decide), fun t5 H5 s5 tt5 => k2 dx dy (I1 dx dy hdx.1 hdx.2 hdy.1 hdy.2 ⟨e1, e2⟩) H5 t5 (S4.trans s5) tt5⟩
          · exact go H4 _ _ S4 (fun z => g2 (decide_eq_true (congrArg V.int z.2)))
        · exact go H4 _ _ S4 (fun z => g1 (decide_eq_true (congrArg V.int z.1)))
      · rintro σ H2 ⟨z8, z9, z10, rfl, S2, inv2⟩
        refine ⟨_, _, _, _, rfl, S2, fun u v e => ?_⟩
        have h1 := off_some e
        have h2 := inv2 u v e
        omega
    · rintro σ H1 ⟨z7, z8, z9, z10, rfl, S1, inv1⟩
      refine fin H1 S1 fun u v e => ?_
      have h1 := off_some e
      have h2 := inv1 u v e
      omega

theorem ok__law_is_spot (T : Txt P K mg a) : FnOk P w K mg base CX0 1 a.f__law_is_spot a.fd__law_is_spot ["parts", "spot"] (spLSpot K) := by
  refine T.F__law_is_spot.ok sc__law_is_spot (fun vs H Q E h => ?_) (fun cdv A outer s H vs Q E hr h => ?_)
  · obtain ⟨pp, ps, n, ks, r, b, g, l, sp, rfl, _⟩ := h
    rfl
  · obtain ⟨pp, ps, n, ks, r, b, g, l, sp, rfl, ⟨lk, ck, hpp, hl, ht, hc⟩, hS, k⟩ := h
    refine ⟨_, (pss_cons (ps_asg (pe_ix ix_seq (pv 0) pe_int (fun _ _ => rfl)) (pg_tup rfl (pgs_cons (pg_name (i := 2) sc__law_is_spot.nd rfl (.inl rfl)) (pgs_cons (pg_name (i := 3) sc__law_is_spot.nd rfl (.inl rfl)) (pgs_cons (pg_name (i := 4) sc__law_is_spot.nd rfl (.inl rfl)) (pgs_cons (pg_name (i := 5) sc__law_is_spot.nd rfl (.inl rfl)) pgs_nil))))))
      (pss_one (ps_ret (pe_and (pe_cmpR op_eq (pe_callB call_len_seq (by rfl) T.z_len (by decide +kernel) (pa_cons (pv 1) pa_nil)) pe_int (nomark _)) (pe_and (pe_cmpR op_le (pe_callB call_abs (by rfl) T.z_abs (by decide +kernel) (pa_cons (pe_ix ix_seq (pv 1) pe_int (fun _ _ => rfl)) pa_nil)) (pv 2) (nomark _)) (pe_and (pe_cmpR op_le (pe_callB call_abs (by rfl) T.z_abs (by decide +kernel) (pa_cons (pe_ix ix_seq (pv 1) pe_int (fun _ _ => rfl)) pa_nil)) (pv 2) (nomark _)) (pe_one (pe_chain op_le op_le (pv 5) (pe_ix ix_seq (pv 1) pe_int (fun _ _ => rfl)) (pe_op op_add pe_int (pv 4)))))))))), ?_⟩
    refine ⟨.ref pp, rfl, .inr (.inl ⟨pp, _, 2, .ref ck, rfl, rfl, hpp, rfl, ck, _, rfl, hc, rfl, _, _, rfl, _, _, rfl, _, _, rfl, _, _, rfl, rfl, ?_⟩)⟩
    refine ⟨.ref ps, rfl, ps, _, rfl, .inr hS, rfl, _, rfl, ite2 (fun hg => ?_) (fun hg => ?_)⟩
    rotate_left
    · have e : isSpot [r, b, g, l] sp = false := spot_len (fun z => hg (by rw [List.length_map]; exact decide_eq_true (congrArg V.int z)))
      exact e ▸ k
    · obtain ⟨x, y, c, rfl⟩ := of3 (by have z := V.int.inj (of_decide_eq_true hg); rw [List.length_map] at z; exact z)
      have fin : ∀ b' : Bool, isSpot [r, b, g, l] [x, y, c] = b' → Q (.bl b') H := fun b' e => e ▸ k
      have F : (¬ (iabs x ≤ r ∧ iabs y ≤ r ∧ l ≤ c ∧ c ≤ 9 + g)) → Q (.bl false) H := fun z => fin _ (decide_eq_false z)
      refine ⟨.ref ps, rfl, .inr (.inl ⟨ps, _, 0, .int x, rfl, rfl, hS, rfl, x, rfl, _, rfl, _, _, rfl, rfl, _, rfl, ite2 (fun g1 => ?_) (fun g1 => F fun z => g1 (decide_eq_true z.1))⟩)⟩
      refine ⟨.ref ps, rfl, .inr (.inl ⟨ps, _, 1, .int y, rfl, rfl, hS, rfl, y, rfl, _, rfl, _, _, rfl, rfl, _, rfl, ite2 (fun g2 => ?_) (fun g2 => F fun z => g2 (decide_eq_true z.2.1))⟩)⟩
      refine ⟨_, rfl, .ref ps, rfl, .inr (.inl ⟨ps, _, 2, .int c, rfl, rfl, hS, rfl, _, _, rfl, rfl, _, rfl, ite2 (fun g3 => ?_) (fun g3 => F fun z => g3 (decide_eq_true z.2.2.1))⟩)⟩
      refine ⟨_, rfl, _, _, rfl, rfl, _, _, rfl, rfl, fin _ ?_⟩
      show decide _ = decide _
      have a1 : iabs x ≤ r := of_decide_eq_true g1
      have a2 : iabs y ≤ r := of_decide_eq_true g2
      have a3 := of_decide_eq_true g3
      by_cases z : c ≤ 9 + g
      · rw [decide_eq_true z, decide_eq_true ⟨a1, a2, a3, z⟩]
      · rw [decide_eq_false z, decide_eq_false (fun w => z w.2.2.2)]

theorem ok__law_fits (T : Txt P K mg a) : FnOk P w K mg base CX0 3 a.f__law_fits a.fd__law_fits ["parts", "attitude", "star", "spot"] (spLFits K) := by
  refine T.F__law_fits.ok sc__law_fits (fun vs H Q E h => ?_) (fun cdv A outer s H vs Q E hr h => ?_)
  · obtain ⟨pp, pa, ps, pt, n, ks, r, b, g, l, x, y, q, sx, sy, bb, u, v, c, rfl, _⟩ := h
    rfl
  · obtain ⟨pp, pa, ps, pt, n, ks, r, b, g, l, x, y, q, sx, sy, bb, u, v, c, rfl, hP, h4, h9, hcam, hpa, q0, q3, hps, hpt, k⟩ := h
    refine ⟨_, (pss_cons (ps_set (i := 4) sc__law_fits.nd rfl (.inl rfl) (pe_call (ok__law_offset T) (hr.mono (by decide)) (by rfl) T.m__law_offset T.F__law_offset.kp T.b__law_offset .nil pass0 (pa_cons (pv 0) (pa_cons (pv 1) (pa_cons (pv 2) pa_nil)))))
      (pss_cons (ps_if (pt_cmpR op_isN (pv 4) pe_non (nomark _)) (pss_one (ps_ret pe_bl)) pss_nil)
      (pss_cons (ps_set (i := 5) sc__law_fits.nd rfl (.inl rfl) (pe_and (pe_cmpR op_le (pe_callB call_abs (by rfl) T.z_abs (by decide +kernel) (pa_cons (pe_op op_sub (pe_ix ix_seq (pv 4) pe_int (fun _ _ => rfl)) (pe_ix ix_seq (pv 3) pe_int (fun _ _ => rfl))) pa_nil)) (pe_ix ix_seq (pe_ix ix_seq (pv 0) pe_int (fun _ _ => rfl)) pe_int (fun _ _ => rfl)) (nomark _)) (pe_one (pe_cmpR op_le (pe_callB call_abs (by rfl) T.z_abs (by decide +kernel) (pa_cons (pe_op op_sub (pe_ix ix_seq (pv 4) pe_int (fun _ _ => rfl)) (pe_ix ix_seq (pv 3) pe_int (fun _ _ => rfl))) pa_nil)) (pe_ix ix_seq (pe_ix ix_seq (pv 0) pe_int (fun _ _ => rfl)) pe_int (fun _ _ => rfl)) (nomark _)))))
      (pss_one (ps_ret (pe_and (pv 5) (pe_one (pe_cmpR op_le (pe_callB call_abs (by rfl) T.z_abs (by decide +kernel) (pa_cons (pe_op op_sub (pe_ix ix_seq (pv 2) pe_int (fun _ _ => rfl)) (pe_ix ix_seq (pv 3) pe_int (fun _ _ => rfl))) pa_nil)) (pe_ix ix_seq (pe_ix ix_seq (pv 0) pe_int (fun _ _ => rfl)) pe_int (fun _ _ => rfl)) (nomark _))))))))), ?_⟩
    refine ⟨.ref pp, rfl, .ref pa, rfl, .ref ps, rfl, pp, pa, ps, n, ks, r, b, g, l, x, y, q, sx, sy, bb, rfl, hP, h4, h9, hcam, hpa, q0, q3, hps, fun eo H1 s1 => ?_, fun u' v' eo H1 t s1 tt => ?_⟩
    · have z := k H1 s1
      rw [show fitsI n [r, b, g, l] [x, y, q] [sx, sy, bb] [u, v, c] = false by unfold fitsI; rw [eo]] at z
      exact ⟨_, rfl, rfl, _, rfl, iteT z⟩
    · have z := k H1 s1
      rw [show fitsI n [r, b, g, l] [x, y, q] [sx, sy, bb] [u, v, c] = nearC b g [u', v', bb] [u, v, c] by unfold fitsI; rw [eo]] at z
      obtain ⟨lk, ck, hpp, hl, ht, hc⟩ := parts_up s1 hP
      have hpt1 := sqT_up s1 hpt
      have hps1 := sqT_up s1 hps
      have fin : ∀ b' : Bool, nearC b g [u', v', bb] [u, v, c] = b' → Q (.bl b') H1 := fun b' e => e ▸ z
      have F : (¬ (iabs (u' - u) ≤ b ∧ iabs (v' - v) ≤ b ∧ iabs (bb - c) ≤ g)) → Q (.bl false) H1 := fun z => fin _ (decide_eq_false z)
      refine ⟨_, rfl, rfl, _, rfl, iteF ?_⟩
      refine ⟨.ref t, rfl, .inr (.inl ⟨t, _, 0, .int u', rfl, rfl, tt, rfl, .ref pt, rfl, .inr (.inl ⟨pt, _, 0, .int u, rfl, rfl, hpt1, rfl, _, _, rfl, rfl, _, rfl, .ref pp, rfl, .inr (.inl ⟨pp, _, 2, .ref ck, rfl, rfl, hpp, rfl, .inr (.inl ⟨ck, _, 1, .int b, rfl, rfl, hc, rfl, _, _, rfl, rfl, _, rfl, ite2 (fun g1 => ?_) (fun g1 => ?_)⟩)⟩)⟩)⟩)⟩
      rotate_left
      · exact ⟨_, rfl, _, rfl, iteF (F fun z => g1 (decide_eq_true z.1))⟩
      refine ⟨.ref t, rfl, .inr (.inl ⟨t, _, 1, .int v', rfl, rfl, tt, rfl, .ref pt, rfl, .inr (.inl ⟨pt, _, 1, .int v, rfl, rfl, hpt1, rfl, _, _, rfl, rfl, _, rfl, .ref pp, rfl, .inr (.inl ⟨pp, _, 2, .ref ck, rfl, rfl, hpp, rfl, .inr (.inl ⟨ck, _, 1, .int b, rfl, rfl, hc, rfl, _, _, rfl, rfl, _, rfl, _, rfl, ite2 (fun g2 => ?_) (fun g2 => F fun z => g2 (decide_eq_true z.2.1))⟩)⟩)⟩)⟩)⟩
      refine ⟨.ref ps, rfl, .inr (.inl ⟨ps, _, 2, .int bb, rfl, rfl, hps1, rfl, .ref pt, rfl, .inr (.inl ⟨pt, _, 2, .int c, rfl, rfl, hpt1, rfl, _, _, rfl, rfl, _, rfl, .ref pp, rfl, .inr (.inl ⟨pp, _, 2, .ref ck, rfl, rfl, hpp, rfl, .inr (.inl ⟨ck, _, 2, .int g, rfl, rfl, hc, rfl, _, _, rfl, rfl, fin _ ?_⟩)⟩)⟩)⟩)⟩
      show decide _ = decide (iabs (bb - c) ≤ g)
      have a1 : iabs (u' - u) ≤ b := of_decide_eq_true g1
      have a2 : iabs (v' - v) ≤ b := of_decide_eq_true g2
      by_cases z : iabs (bb - c) ≤ g
      · rw [decide_eq_true z, decide_eq_true ⟨a1, a2, z⟩]
      · rw [decide_eq_false z, decide_eq_false (fun w => z w.2.2)]

theorem ok__law_told (T : Txt P K mg a) : FnOk P w K mg base CX0 5 a.f__law_told a.fd__law_told ["sky", "attitude", "number", "spot"] (spToldF K a.c_Sky) := by
  refine T.F__law_told.ok sc__law_told (fun vs H Q E h => ?_) (fun cdv A outer s H vs Q E hr h => ?_)
  · obtain ⟨p, pa, ps, n, ks, cam, at_, sp, j, rfl, _⟩ := h
    rfl
  · obtain ⟨p, pa, ps, n, ks, cam, at_, sp, j, rfl, hK, hsky, hpa, hps, k⟩ := h
    refine ⟨_, (pss_one (ps_try_each (i := 4) (n := "error") (tb := fun W => (tRet (tTupM K (tCons (tC (.int 0)) (tCons (tCallS (spFits K a.c_Sky a.c_InvalidAttitude a.c_UnknownStar a.c_InvalidSighting) (WE W) (tCons (tVar 0) (tCons (tVar 1) (tCons (tVar 2) (tCons (tVar 3) tNil))))) tNil))))) (l := [(Value.ref a.c_InvalidAttitude, true, (fun ea cls d => (tRet (tTupM K (tCons (tC (.int 1)) (tCons (tErrFld a.c_InvalidAttitude "attitude" ea cls d (tVar 4)) tNil)))))), (Value.ref a.c_UnknownStar, true, (fun ea cls d => (tRet (tTupM K (tCons (tC (.int 2)) (tCons (tErrFld a.c_UnknownStar "number" ea cls d (tVar 4)) tNil)))))), (Value.ref a.c_InvalidSighting, false, (fun ea cls d => (tRet (tTupM K (tCons (tC (.int 3)) (tCons (tC .non) tNil))))))]) (Wout := fun _ _ _ _ => False) rfl rfl sc__law_told.nd rfl rfl takes0 (fun W pn xe tk _ => (pss_one (ps_ret (pe_tupM (pa_cons pe_int (pa_cons (pe_callS (ok_fits T) (hr.mono (by decide)) (by rfl) T.m_fits T.F_fits.kp T.b_fits (fun σ => passAt tk σ) (by exact (pa_cons (pv 0) (pa_cons (pv 1) (pa_cons (pv 2) (pa_cons (pv 3) pa_nil)))))) pa_nil)))))) (.cons ⟨rfl, by decide, Or.inl T.S_InvalidAttitude.gC⟩ (fun ea oe cls d pn hz hf => (pss_one (ps_ret (pe_tupM (pa_cons pe_int (pa_cons (by exact (pe_errFld T.S_InvalidAttitude hz hf (pv 4))) pa_nil)))))) (.cons ⟨rfl, by decide, Or.inl T.S_UnknownStar.gC⟩ (fun ea oe cls d pn hz hf => (pss_one (ps_ret (pe_tupM (pa_cons pe_int (pa_cons (by exact (pe_errFld T.S_UnknownStar hz hf (pv 4))) pa_nil)))))) (.bare ⟨rfl, by decide, Or.inl T.E_InvalidSighting.g⟩ (fun ea oe cls d pn hz hf => (pss_one (ps_ret (pe_tupM (pa_cons pe_int (pa_cons pe_non pa_nil)))))) .nil))))), ?_⟩
    refine ⟨.ref p, rfl, .ref pa, rfl, _, rfl, .ref ps, rfl, p, pa, ps, n, ks, cam, at_, sp, j, rfl, hK, hsky, hpa, hps, fun e1 d H1 s1 h1 => ?_, fun e1 ej d H1 s1 h1 => ?_, fun e1 kx j0 hk => ⟨fun es H1 s1 => ?_, fun es H1 s1 => ?_⟩⟩
    · have z : toldF n cam at_ (keys ks) j sp = .tuple [.int 1, dTI at_] := by unfold toldF; rw [e1]; rfl
      rw [z] at k
      refine ⟨true, T.S_InvalidAttitude.te, fun _ ea na => ?_, fun y => Bool.noConfusion y⟩
      refine ⟨_, rfl, rfl, rfl, d, _, rfl, h1, (by show 2 ≤ sizeLine; decide), fun t H2 s2 t2 => ?_⟩
      exact k H2 t (s1.trans s2) (dp_t t2 (.cons (.int _) (.cons (dp_ti (sqT_up (s1.trans s2) hpa)) .nil)))
    · have z : toldF n cam at_ (keys ks) j sp = .tuple [.int 2, .int j] := by unfold toldF; rw [e1, if_pos rfl, if_pos (show j < 0 ∨ ((keys ks).length : Int) ≤ j by rw [keys_len]; exact ej)]
      rw [z] at k
      refine ⟨false, T.x_UnknownStar_InvalidAttitude, fun y => Bool.noConfusion y, fun _ => ?_⟩
      refine ⟨true, T.S_UnknownStar.te, fun _ ea na => ?_, fun y => Bool.noConfusion y⟩
      refine ⟨_, rfl, rfl, rfl, d, _, rfl, h1, (by show 2 ≤ sizeLine; decide), fun t H2 s2 t2 => ?_⟩
      exact k H2 t (s1.trans s2) (dp_t t2 (.cons (.int _) (.cons (.int _) .nil)))
    · have hl := (List.getElem?_eq_some_iff.mp hk).1
      have z : toldF n cam at_ (keys ks) j sp = .tuple [.int 3, .none] := by
        unfold toldF
        rw [e1, if_pos rfl, if_neg (by omega), es]
        rfl
      rw [z] at k
      refine ⟨false, T.x_InvalidSighting_InvalidAttitude, fun y => Bool.noConfusion y, fun _ => ?_⟩
      refine ⟨false, T.x_InvalidSighting_UnknownStar, fun y => Bool.noConfusion y, fun _ => ?_⟩
      refine ⟨true, T.E_InvalidSighting_te, fun _ ea na => ?_, fun y => Bool.noConfusion y⟩
      refine ⟨(by show 2 ≤ sizeLine; decide), fun t H2 s2 t2 => ?_⟩
      exact k H2 t (s1.trans s2) (dp_t t2 (.cons (.int _) (.cons .non .nil)))
    · have hl := (List.getElem?_eq_some_iff.mp hk).1
      have z : toldF n cam at_ (keys ks) j sp = .tuple [.int 0, .bool (fitsI n cam at_ kx sp)] := by
        unfold toldF
        rw [e1, if_pos rfl, if_neg (by omega), es, if_pos rfl, List.getD_eq_getElem?_getD, hk]
        rfl
      rw [z] at k
      refine ⟨(by show 2 ≤ sizeLine; decide), fun t H2 s2 t2 => ?_⟩
      exact k H2 t (s1.trans s2) (dp_t t2 (.cons (.int _) (.cons (.bl _) .nil)))

theorem ok__law_is_taken (T : Txt P K mg a) : FnOk P w K mg base CX0 5 a.f__law_is_taken a.fd__law_is_taken ["sky", "sighting"] (spTaken K a.c_Sky) := by
  refine T.F__law_is_taken.ok sc__law_is_taken (fun vs H Q E h => ?_) (fun cdv A outer s H vs Q E hr h => ?_)
  · obtain ⟨p, ps, n, st, r, b, g, l, ks, rfl, _⟩ := h
    rfl
  · obtain ⟨p, ps, n, st, r, b, g, l, ks, rfl, hK, hS, ht, k⟩ := h
    refine ⟨_, (C8.pss_cut (ps_try_only1 (tb := fun W => (tDrop (tCallS (spSight K a.c_Sky a.c_InvalidSighting) (WE W) (tCons (tVar 0) (tCons (tVar 1) tNil))))) (ts := (fun ea cls d => (tRet (tC (.bl false))))) (Wout := fun _ _ _ _ => False) rfl rfl ⟨rfl, by decide, Or.inl T.E_InvalidSighting.g⟩ takes0 (fun W pn xe tk _ => (pss_one (ps_expr (pe_callS (ok_check_sighting T) (hr.mono (by decide)) (by rfl) T.m_check_sighting T.F_check_sighting.kp T.b_check_sighting (fun σ => passAt tk σ) (by exact (pa_cons (pv 0) (pa_cons (pv 1) pa_nil))))))) (fun ea oe cls d pn hz hf => (pss_one (ps_ret pe_bl))))
      (pss_one (ps_ret pe_bl))), ?_⟩
    refine ⟨fun σ H1 => isSight [r, b, g, l] (keys ks) = true ∧ Same H H1 ∧ σ = [some (.ref p), some (.ref ps)], ?_, ?_⟩
    · refine ⟨.ref p, rfl, .ref ps, rfl, p, ps, n, st, r, b, g, l, ks, rfl, hK, hS, ht, fun e H1 s1 => ⟨e, s1, rfl⟩, fun e H1 s1 => ⟨true, T.E_InvalidSighting_te, fun _ ea na => ?_, fun y => Bool.noConfusion y⟩⟩
      have z := k H1 s1
      rw [e] at z
      exact z
    · rintro σ H1 ⟨e, s1, rfl⟩
      have z := k H1 s1
      rw [e] at z
      exact z

theorem ok__law_spot (T : Txt P K mg a) : FnOk P w K mg base CX0 3 a.f__law_spot a.fd__law_spot ["parts", "attitude", "numbers", "at"] (spLDraw K) := by
  refine T.F__law_spot.ok sc__law_spot (fun vs H Q E h => ?_) (fun cdv A outer s H vs Q E hr h => ?_)
  · obtain ⟨pp, pa, p1, n, ks, r, b, g, l, x, y, q, at', ns, rfl, _⟩ := h
    rfl
  · obtain ⟨pp, pa, p1, n, ks, r, b, g, l, x, y, q, at', ns, rfl, hP, hsky, hpa, q0, q3, hL, a0, a1, k⟩ := h
    refine ⟨_, (pss_cons (ps_set (i := 4) sc__law_spot.nd rfl (.inl rfl) (pe_tupM (pa_cons (pe_op op_sub (pe_op op_mod (pe_callTy call_int1 (by rfl) T.z_int (by decide +kernel) (pa_cons (pe_ix ix_seq (pv 2) (pv 3) (fun _ _ => rfl)) pa_nil)) pe_int) pe_int) (pa_cons (pe_op op_sub (pe_op op_mod (pe_callTy call_int1 (by rfl) T.z_int (by decide +kernel) (pa_cons (pe_ix ix_seq (pv 2) (pe_op op_add (pv 3) pe_int) (fun _ _ => rfl)) pa_nil)) pe_int) pe_int) (pa_cons (pe_op op_mod (pe_callTy call_int1 (by rfl) T.z_int (by decide +kernel) (pa_cons (pe_ix ix_seq (pv 2) (pe_op op_add (pv 3) pe_int) (fun _ _ => rfl)) pa_nil)) pe_int) pa_nil)))))
      (C8.pss_cut (ps_if (PW.pt (pw_and (pt_cmpR op_gt (pe_callB call_len_seq (by rfl) T.z_len (by decide +kernel) (pa_cons (pe_ix ix_seq (pv 0) pe_int (fun _ _ => rfl)) pa_nil)) pe_int (nomark _)) (pw_and1 (pt_cmpR op_gt (pe_op op_mod (pe_callTy call_int1 (by rfl) T.z_int (by decide +kernel) (pa_cons (pe_ix ix_seq (pv 2) (pe_op op_add (pv 3) pe_int) (fun _ _ => rfl)) pa_nil)) pe_int) pe_int (nomark _))))) (pss_cons (ps_set (i := 5) sc__law_spot.nd rfl (.inl rfl) (pe_ix ix_seq (pe_ix ix_seq (pv 0) pe_int (fun _ _ => rfl)) (pe_op op_mod (pe_callTy call_int1 (by rfl) T.z_int (by decide +kernel) (pa_cons (pe_ix ix_seq (pv 2) (pe_op op_add (pv 3) pe_int) (fun _ _ => rfl)) pa_nil)) (pe_callB call_len_seq (by rfl) T.z_len (by decide +kernel) (pa_cons (pe_ix ix_seq (pv 0) pe_int (fun _ _ => rfl)) pa_nil))) (fun _ _ => rfl)))
      (pss_cons (ps_set (i := 6) sc__law_spot.nd rfl (.inl rfl) (pe_call (ok__law_offset T) (hr.mono (by decide)) (by rfl) T.m__law_offset T.F__law_offset.kp T.b__law_offset .nil pass0 (pa_cons (pv 0) (pa_cons (pv 1) (pa_cons (pv 5) pa_nil)))))
      (pss_one (ps_if (pt_cmpR op_notN (pv 6) pe_non (nomark _)) (pss_one (ps_set (i := 4) sc__law_spot.nd rfl (.inl rfl) (pe_tupM (pa_cons (pe_op op_sub (pe_op op_add (pe_ix ix_seq (pv 6) pe_int (fun _ _ => rfl)) (pe_op op_mod (pe_callTy call_int1 (by rfl) T.z_int (by decide +kernel) (pa_cons (pe_ix ix_seq (pv 2) (pv 3) (fun _ _ => rfl)) pa_nil)) pe_int)) pe_int) (pa_cons (pe_op op_sub (pe_op op_add (pe_ix ix_seq (pv 6) pe_int (fun _ _ => rfl)) (pe_op op_mod (pe_callTy call_int1 (by rfl) T.z_int (by decide +kernel) (pa_cons (pe_ix ix_seq (pv 2) (pe_op op_add (pv 3) pe_int) (fun _ _ => rfl)) pa_nil)) pe_int)) pe_int) (pa_cons (pe_op op_sub (pe_op op_add (pe_ix ix_seq (pv 5) pe_int (fun _ _ => rfl)) (pe_op op_mod (pe_callTy call_int1 (by rfl) T.z_int (by decide +kernel) (pa_cons (pe_ix ix_seq (pv 2) (pe_op op_add (pv 3) pe_int) (fun _ _ => rfl)) pa_nil)) pe_int)) pe_int) pa_nil)))))) pss_nil)))) pss_nil)
      (pss_one (ps_ret (pv 4))))), ?_⟩
    obtain ⟨⟨h4, h9⟩, hstars, hnd, h20, hcam⟩ := sky_parts hsky
    refine ⟨.ref p1, rfl, _, rfl, .inl ⟨p1, _, _, _, rfl, rfl, hL, nthI (by omega) (by omega), .inl ⟨_, rfl, _, _, rfl, rfl, (by show (0 : Int) < 11; decide), _, _, rfl, rfl, ?_⟩⟩⟩
    refine ⟨.ref p1, rfl, _, rfl, _, _, rfl, rfl, .inl ⟨p1, _, _, _, rfl, rfl, hL, nthI (by omega) (by omega), .inl ⟨_, rfl, _, _, rfl, rfl, (by show (0 : Int) < 11; decide), _, _, rfl, rfl, ?_⟩⟩⟩
    refine ⟨.ref p1, rfl, _, rfl, _, _, rfl, rfl, .inl ⟨p1, _, _, _, rfl, rfl, hL, nthI (by omega) (by omega), .inl ⟨_, rfl, _, _, rfl, rfl, (by show (0 : Int) < 13; decide), ?_⟩⟩⟩
    refine ⟨(by show 3 ≤ sizeLine; decide), fun t1 H1 s1 tt1 => ?_⟩
    obtain ⟨lk, ck, hpp, hl, ht, hc⟩ := parts_up s1 hP
    have hL1 := s1.seq hL
    refine ⟨fun σ H2 => ∃ (t : Addr) (u v c : Int) (z5 z6 : Option V), Same H H2 ∧ SqT K H2 t [.int u, .int v, .int c] ∧ σ = [some (.ref pp), some (.ref pa), some (.ref p1), some (.int at'), some (.ref t), z5, z6], ?_, ?_⟩
    · refine ⟨.ref pp, rfl, .inr (.inl ⟨pp, _, 1, .ref lk, rfl, rfl, hpp, rfl, lk, _, rfl, .inl hl, _, _, rfl, rfl, _, rfl, ite2 (fun g2 => ?_) (fun g2 => iteF ⟨t1, _, _, _, _, _, s1, tt1, rfl⟩)⟩)⟩
      have hpos : 0 < ks.length := by
        have : (0 : Int) < ((refs ks).length : Nat) := of_decide_eq_true g2
        rw [refs_len] at this
        omega
      have hks0 : (0 : Int) < ((refs ks).length : Nat) := by rw [refs_len]; omega
      refine ⟨.ref p1, rfl, _, rfl, _, _, rfl, rfl, .inl ⟨p1, _, _, _, rfl, rfl, hL1, nthI (by omega) (by omega), .inl ⟨_, rfl, _, _, rfl, rfl, (by show (0 : Int) < 3; decide), _, _, rfl, rfl, _, rfl, ite2 (fun g3 => ?_) (fun g3 => ⟨t1, _, _, _, _, _, s1, tt1, rfl⟩)⟩⟩⟩
      have j0 := Int.emod_nonneg (numI ns (at' + 4)) (show (((refs ks).length : Nat) : Int) ≠ 0 by omega)
      have j1 := Int.emod_lt_of_pos (numI ns (at' + 4)) hks0
      generalize ej : numI ns (at' + 4) % (((refs ks).length : Nat) : Int) = j at j0 j1
      obtain ⟨jn, rfl⟩ := Int.eq_ofNat_of_zero_le j0
      rw [refs_len] at j1
      have hj : jn < ks.length := by omega
      have hkj : ks[jn]? = some ks[jn] := List.getElem?_eq_getElem hj
      have hat : atI (refs ks) ((jn : Nat) : Int) = some (.ref ks[jn].1) := atI_nat (by unfold refs; rw [List.getElem?_map, hkj]; rfl)
      have hkey : (keys ks)[jn]? = some ks[jn].2 := by unfold keys; rw [List.getElem?_map, hkj]; rfl
      obtain ⟨sx, sy, bb, e3, _⟩ := star_form (List.all_eq_true.mp hstars ks[jn].2 (List.mem_of_getElem? hkey))
      have hps := ht ks[jn] (List.getElem_mem hj)
      rw [e3] at hps
      refine ⟨.ref pp, rfl, .inr (.inl ⟨pp, _, 1, .ref lk, rfl, rfl, hpp, rfl, .ref p1, rfl, _, rfl, _, _, rfl, rfl, .inl ⟨p1, _, _, _, rfl, rfl, hL1, nthI (by omega) (by omega), .inl ⟨_, rfl, .ref pp, rfl, .inr (.inl ⟨pp, _, 1, .ref lk, rfl, rfl, hpp, rfl, lk, _, rfl, .inl hl, _, _, rfl, rfl, hks0, .inl ⟨lk, _, _, _, rfl, rfl, hl, (by rw [ej]; exact hat), ?_⟩⟩)⟩⟩⟩)⟩
      refine ⟨.ref pp, rfl, .ref pa, rfl, .ref ks[jn].1, rfl, pp, pa, ks[jn].1, n, ks, r, b, g, l, x, y, q, sx, sy, bb, rfl, parts_up s1 hP, h4, h9, hcam, sqT_up s1 hpa, q0, q3, hps, fun eo H2 s2 => ?_, fun u v eo H2 ta s2 tta => ?_⟩
      · exact ⟨_, rfl, rfl, _, rfl, iteF ⟨t1, _, _, _, _, _, s1.trans s2, sqT_up s2 tt1, rfl⟩⟩
      · have hL2 := s2.seq hL1
        refine ⟨_, rfl, rfl, _, rfl, iteT ?_⟩
        refine ⟨.ref ta, rfl, .inr (.inl ⟨ta, _, 0, .int u, rfl, rfl, tta, rfl, .ref p1, rfl, _, rfl, .inl ⟨p1, _, _, _, rfl, rfl, hL2, nthI (by omega) (by omega), .inl ⟨_, rfl, _, _, rfl, rfl, (by show (0 : Int) < 5; decide), _, _, rfl, rfl, _, _, rfl, rfl, ?_⟩⟩⟩)⟩
        refine ⟨.ref ta, rfl, .inr (.inl ⟨ta, _, 1, .int v, rfl, rfl, tta, rfl, .ref p1, rfl, _, rfl, _, _, rfl, rfl, .inl ⟨p1, _, _, _, rfl, rfl, hL2, nthI (by omega) (by omega), .inl ⟨_, rfl, _, _, rfl, rfl, (by show (0 : Int) < 5; decide), _, _, rfl, rfl, _, _, rfl, rfl, ?_⟩⟩⟩)⟩
        refine ⟨.ref ks[jn].1, rfl, .inr (.inl ⟨ks[jn].1, _, 2, .int bb, rfl, rfl, sqT_up s2 hps, rfl, .ref p1, rfl, _, rfl, _, _, rfl, rfl, .inl ⟨p1, _, _, _, rfl, rfl, hL2, nthI (by omega) (by omega), .inl ⟨_, rfl, _, _, rfl, rfl, (by show (0 : Int) < 5; decide), _, _, rfl, rfl, _, _, rfl, rfl, ?_⟩⟩⟩)⟩
        exact ⟨(by show 3 ≤ sizeLine; decide), fun t3 H3 s3 tt3 => ⟨t3, _, _, _, _, _, (s1.trans s2).trans s3, tt3, rfl⟩⟩
    · rintro σ H2 ⟨t, u, v, c, z5, z6, S2, tt, rfl⟩
      exact ⟨_, rfl, k H2 t u v c S2 tt⟩

theorem ok_law (T : Txt P K mg a) : FnOk P w K mg base CX0 6 a.f_law a.fd_law ["script"] (spLaw K) := by
  refine T.F_law.ok sc_law (fun vs H Q E h => ?_) (fun cdv A outer s H vs Q E hr h => ?_)
  · obtain ⟨b, xs, rfl, _⟩ := h
    rfl
  · obtain ⟨b, xs, rfl, hS, hx, k⟩ := h
    refine ⟨_, (pss_cons (ps_set (i := 1) sc_law.nd rfl (.inr rfl) (pe_call (ok__law_numbers T) (hr.mono (by decide)) (by rfl) T.m__law_numbers T.F__law_numbers.kp T.b__law_numbers .nil pass0 (pa_cons (pv 0) (pa_cons pe_int pa_nil))))
      (pss_cons (ps_set (i := 2) sc_law.nd rfl (.inr rfl) (pe_call (ok__law_parts T) (hr.mono (by decide)) (by rfl) T.m__law_parts T.F__law_parts.kp T.b__law_parts .nil pass0 (pa_cons (pv 1) (pa_cons pe_int (pa_cons pe_int pa_nil)))))
      (pss_cons (ps_asg (pv 2) (pg_tup rfl (pgs_cons (pg_name (i := 3) sc_law.nd rfl (.inl rfl)) (pgs_cons (pg_name (i := 4) sc_law.nd rfl (.inl rfl)) (pgs_cons (pg_name (i := 5) sc_law.nd rfl (.inl rfl)) pgs_nil)))))
      (pss_cons (ps_set (i := 6) sc_law.nd rfl (.inl rfl) (pe_make T.M_Sky (ok_Skyx_initx T) (hr.mono (by decide)) (by rfl) T.m_Sky T.b_Skyx_initx .nil passL (pa_cons (pv 3) (pa_cons (pv 4) (pa_cons (pv 5) pa_nil)))))
      (pss_cons (ps_set (i := 7) sc_law.nd rfl (.inr rfl) (pe_tupM (pa_cons (pe_op op_mod (pe_callTy call_int1 (by rfl) T.z_int (by decide +kernel) (pa_cons (pe_ix ix_seq (pv 1) pe_int (fun _ _ => rfl)) pa_nil)) (pv 3)) (pa_cons (pe_op op_mod (pe_callTy call_int1 (by rfl) T.z_int (by decide +kernel) (pa_cons (pe_ix ix_seq (pv 1) pe_int (fun _ _ => rfl)) pa_nil)) (pv 3)) (pa_cons (pe_op op_mod (pe_callTy call_int1 (by rfl) T.z_int (by decide +kernel) (pa_cons (pe_ix ix_seq (pv 1) pe_int (fun _ _ => rfl)) pa_nil)) pe_int) pa_nil)))))
      (C8.pss_cut (ps_if (PW.pt (pw_and (pt_cmpR op_gt (pe_callB call_len_seq (by rfl) T.z_len (by decide +kernel) (pa_cons (pv 4) pa_nil)) pe_int (nomark _)) (pw_and1 (pt_cmpR op_gt (pe_op op_mod (pe_callTy call_int1 (by rfl) T.z_int (by decide +kernel) (pa_cons (pe_ix ix_seq (pv 1) pe_int (fun _ _ => rfl)) pa_nil)) pe_int) pe_int (nomark _))))) (pss_one (ps_set (i := 7) sc_law.nd rfl (.inr rfl) (pe_op op_catAM (pe_slice sl_tupAM (pe_ix ix_seq (pv 4) (pe_op op_mod (pe_callTy call_int1 (by rfl) T.z_int (by decide +kernel) (pa_cons (pe_ix ix_seq (pv 1) pe_int (fun _ _ => rfl)) pa_nil)) (pe_callB call_len_seq (by rfl) T.z_len (by decide +kernel) (pa_cons (pv 4) pa_nil))) (fun _ _ => rfl)) po_none (po_some pe_int)) (pe_slice sl_tupAM (pv 7) (po_some pe_int) po_none)))) pss_nil)
      (pss_cons (ps_setLc (i := 8) rfl sc_law.nd rfl rfl (sw_true rfl rfl rfl (by decide +kernel)) (g := gName 19) (tt := tYes) (own := [("k", 19)]) (pi_range1 (by rfl) T.z_range (pa_cons pe_int pa_nil)) (blkOk_by (own := [("k", 19)]) (N := ["script", "numbers", "parts", "side", "stars", "camera", "sky", "attitude", "spots", "spot", "told", "number", "due", "good", "doubled", "rows", "row", "odd", "far", "k"]) (sc := defScope s_law) (by decide +kernel)) (fun _ _ _ _ _ => (pg_name (i := 19) sc_law.nd rfl (.inl rfl))) (fun _ _ _ _ _ => pts_nil) (fun _ _ _ _ _ => (pe_call (ok__law_spot T) (hr.mono (by decide)) (by rfl) T.m__law_spot T.F__law_spot.kp T.b__law_spot .nil pass0 (pa_cons (pv 2) (pa_cons (pv 7) (pa_cons (pv 1) (pa_cons (pe_op op_add pe_int (pe_op op_mul pe_int (pv 19))) pa_nil)))))))
      (pss_cons (ps_for PassesOwn.never rfl (pi_list (pv 8)) (pg_name (i := 9) sc_law.nd rfl (.inl rfl)) (pss_cons (ps_set (i := 10) sc_law.nd rfl (.inl rfl) (pe_call (ok_is_spot T) (hr.mono (by decide)) (by rfl) T.m_is_spot T.F_is_spot.kp T.b_is_spot .nil pass0 (pa_cons (pv 6) (pa_cons (pv 9) pa_nil))))
      (pss_cons (ps_if (PW.pt (pw_or (pt_not (pt_val (pe_callB call_isi (by rfl) T.z_isinstance (by decide +kernel) (pa_cons (pv 10) (pa_cons (pe_bltn (v := .ty "bool") (by rfl) T.z_bool (by decide +kernel) rfl) pa_nil))))) (pw_or1 (pt_cmpR op_ne (pv 10) (pe_call (ok__law_is_spot T) (hr.mono (by decide)) (by rfl) T.m__law_is_spot T.F__law_is_spot.kp T.b__law_is_spot .nil pass0 (pa_cons (pv 2) (pa_cons (pv 9) pa_nil))) (nomark _))))) (pss_one (ps_ret pe_bl)) pss_nil)
      (pss_one (ps_for PassesOwn.never rfl (pi_range1 (by rfl) T.z_range (pa_cons (pe_callB call_len_seq (by rfl) T.z_len (by decide +kernel) (pa_cons (pv 4) pa_nil)) pa_nil)) (pg_name (i := 11) sc_law.nd rfl (.inl rfl)) (pss_cons (ps_set (i := 12) sc_law.nd rfl (.inl rfl) (pe_tupM (pa_cons pe_int (pa_cons pe_non pa_nil))))
      (C8.pss_cut (ps_if (pt_val (pe_call (ok__law_is_spot T) (hr.mono (by decide)) (by rfl) T.m__law_is_spot T.F__law_is_spot.kp T.b__law_is_spot .nil pass0 (pa_cons (pv 2) (pa_cons (pv 9) pa_nil)))) (pss_one (ps_set (i := 12) sc_law.nd rfl (.inl rfl) (pe_tupM (pa_cons pe_int (pa_cons (pe_call (ok__law_fits T) (hr.mono (by decide)) (by rfl) T.m__law_fits T.F__law_fits.kp T.b__law_fits .nil pass0 (pa_cons (pv 2) (pa_cons (pv 7) (pa_cons (pe_ix ix_seq (pv 4) (pv 11) (fun _ _ => rfl)) (pa_cons (pv 9) pa_nil))))) pa_nil))))) pss_nil)
      (pss_one (ps_if (pt_cmpR (op_neD hr.units) (pe_call (ok__law_told T) (hr.mono (by decide)) (by rfl) T.m__law_told T.F__law_told.kp T.b__law_told .nil pass0 (pa_cons (pv 6) (pa_cons (pv 7) (pa_cons (pv 11) (pa_cons (pv 9) pa_nil))))) (pv 12) (nomark _)) (pss_one (ps_ret pe_bl)) pss_nil)))))))))
      (pss_cons (ps_set (i := 13) sc_law.nd rfl (.inl rfl) (pe_callB cr_sortL (by rfl) T.z_sorted (by decide +kernel) (pa_cons (pe_lc (g := gName 9) (own := [("spot", 9)]) rfl sc_law.nd (pi_list (pv 8)) (blkOk_by (own := [("spot", 9)]) (N := ["script", "numbers", "parts", "side", "stars", "camera", "sky", "attitude", "spots", "spot", "told", "number", "due", "good", "doubled", "rows", "row", "odd", "far", "k"]) (sc := defScope s_law) (by decide +kernel)) (fun _ _ _ _ _ => (pg_name (i := 9) sc_law.nd rfl (.inl rfl))) (fun _ _ _ _ _ => (pts_one (pt_val (pe_call (ok__law_is_spot T) (hr.mono (by decide)) (by rfl) T.m__law_is_spot T.F__law_is_spot.kp T.b__law_is_spot .nil pass0 (pa_cons (pv 2) (pa_cons (pv 9) pa_nil)))))) (fun _ _ _ _ _ => (pv 9))) pa_nil)))
      (pss_cons (ps_set (i := 14) sc_law.nd rfl (.inl rfl) (pe_op op_catM (pv 13) (pe_slice sl_listM (pv 13) (po_some (pe_un un_neg pe_int)) po_none)))
      (pss_cons (ps_set (i := 15) sc_law.nd rfl (.inl rfl) (pe_lstM (pa_cons (pe_callTy call_tuple_of (by rfl) T.z_tuple (by decide +kernel) (pa_cons (pv 13) pa_nil)) (pa_cons (pe_callTy call_tuple_of (by rfl) T.z_tuple (by decide +kernel) (pa_cons (pv 14) pa_nil)) (pa_cons (pe_callTy call_tuple_of (by rfl) T.z_tuple (by decide +kernel) (pa_cons (pe_revL (pv 13)) pa_nil)) (pa_cons (pe_callTy call_tuple_of (by rfl) T.z_tuple (by decide +kernel) (pa_cons (pv 8) pa_nil)) (pa_cons (pe_tupM pa_nil) pa_nil)))))))
      (pss_cons (ps_for PassesOwn.never rfl (pi_list (pe_op op_catM (pv 15) (pe_lstM (pa_cons (pe_callTy call_tuple_of (by rfl) T.z_tuple (by decide +kernel) (pa_cons (pe_op op_repM (pe_slice sl_listM (pv 14) (po_some (pe_un un_neg pe_int)) po_none) pe_int) pa_nil)) (pa_cons (pe_callTy call_tuple_of (by rfl) T.z_tuple (by decide +kernel) (pa_cons (pe_op op_repM (pe_slice sl_listM (pv 14) (po_some (pe_un un_neg pe_int)) po_none) pe_int) pa_nil)) (pa_cons (pe_tupM (pa_cons (pe_tupM (pa_cons pe_int (pa_cons pe_int pa_nil))) pa_nil)) (pa_cons (pe_tupM (pa_cons (pe_tupM (pa_cons pe_int (pa_cons pe_int (pa_cons (pe_ix ix_seq (pv 5) pe_int (fun _ _ => rfl)) (pa_cons pe_int pa_nil))))) pa_nil)) pa_nil))))))) (pg_name (i := 16) sc_law.nd rfl (.inl rfl)) (C8.pss_cut (ps_set (i := 12) sc_law.nd rfl (.inl rfl) (pe_and (pe_cmpR op_le (pe_callB call_len_seq (by rfl) T.z_len (by decide +kernel) (pa_cons (pv 16) pa_nil)) pe_int (nomark _)) (pe_and (pe_callB (cr_all rfl) (by rfl) T.z_all (by decide +kernel) (pa_cons (pe_lc (g := gName 9) (tt := tYes) (own := [("spot", 9)]) rfl sc_law.nd (pi_tup (pv 16)) (blkOk_by (own := [("spot", 9)]) (N := ["script", "numbers", "parts", "side", "stars", "camera", "sky", "attitude", "spots", "spot", "told", "number", "due", "good", "doubled", "rows", "row", "odd", "far", "k"]) (sc := defScope s_law) (by decide +kernel)) (fun _ _ _ _ _ => (pg_name (i := 9) sc_law.nd rfl (.inl rfl))) (fun _ _ _ _ _ => pts_nil) (fun _ _ _ _ _ => (pe_call (ok__law_is_spot T) (hr.mono (by decide)) (by rfl) T.m__law_is_spot T.F__law_is_spot.kp T.b__law_is_spot .nil pass0 (pa_cons (pv 2) (pa_cons (pv 9) pa_nil))))) pa_nil)) (pe_one (pe_cmpR (op_eqD hr.units) (pe_callTy call_list_of (by rfl) T.z_list (by decide +kernel) (pa_cons (pv 16) pa_nil)) (pe_callB cr_sortL (by rfl) T.z_sorted (by decide +kernel) (pa_cons (pv 16) pa_nil)) (nomark _))))))
      (pss_one (ps_if (pt_cmpR op_ne (pe_call (ok__law_is_taken T) (hr.mono (by decide)) (by rfl) T.m__law_is_taken T.F__law_is_taken.kp T.b__law_is_taken .nil pass0 (pa_cons (pv 6) (pa_cons (pv 16) pa_nil))) (pv 12) (nomark _)) (pss_one (ps_ret pe_bl)) pss_nil))))
      (pss_cons (ps_set (i := 17) sc_law.nd rfl (.inl rfl) (pe_ix ix_seq (pe_lstM (pa_cons (pe_tupM (pa_cons (pv 3) (pa_cons pe_int (pa_cons pe_int pa_nil)))) (pa_cons (pe_tupM (pa_cons pe_int (pa_cons pe_int (pa_cons pe_int pa_nil)))) pa_nil))) (pe_op op_mod (pe_callTy call_int1 (by rfl) T.z_int (by decide +kernel) (pa_cons (pe_ix ix_seq (pv 1) pe_int (fun _ _ => rfl)) pa_nil)) pe_int) (fun _ _ => rfl)))
      (pss_cons (ps_set (i := 18) sc_law.nd rfl (.inl rfl) (pe_tupM (pa_cons (pe_op op_add (pe_ix ix_seq (pv 5) pe_int (fun _ _ => rfl)) pe_int) (pa_cons pe_int (pa_cons (pe_ix ix_seq (pv 5) pe_int (fun _ _ => rfl)) pa_nil)))))
      (pss_cons (ps_if (PW.pt (pw_or (pt_cmpR (op_neD hr.units) (pe_call (ok__law_told T) (hr.mono (by decide)) (by rfl) T.m__law_told T.F__law_told.kp T.b__law_told .nil pass0 (pa_cons (pv 6) (pa_cons (pv 17) (pa_cons (pe_un un_neg pe_int) (pa_cons (pv 18) pa_nil))))) (pe_tupM (pa_cons pe_int (pa_cons (pv 17) pa_nil))) (nomark _)) (pw_or1 (pt_cmpR (op_neD hr.units) (pe_call (ok__law_told T) (hr.mono (by decide)) (by rfl) T.m__law_told T.F__law_told.kp T.b__law_told .nil pass0 (pa_cons (pv 6) (pa_cons (pv 7) (pa_cons (pe_callB call_len_seq (by rfl) T.z_len (by decide +kernel) (pa_cons (pv 4) pa_nil)) (pa_cons (pv 18) pa_nil))))) (pe_tupM (pa_cons pe_int (pa_cons (pe_callB call_len_seq (by rfl) T.z_len (by decide +kernel) (pa_cons (pv 4) pa_nil)) pa_nil))) (nomark _))))) (pss_one (ps_ret pe_bl)) pss_nil)
      (pss_one (ps_ret (pe_and (pe_cmpR op_isBl (pe_call (ok_is_spot T) (hr.mono (by decide)) (by rfl) T.m_is_spot T.F_is_spot.kp T.b_is_spot .nil pass0 (pa_cons (pv 6) (pa_cons (pe_tupM (pa_cons pe_int (pa_cons pe_int (pa_cons (pe_ix ix_seq (pv 5) pe_int (fun _ _ => rfl)) pa_nil)))) pa_nil))) pe_bl (nomark _)) (pe_and (pe_cmpR op_isBl (pe_call (ok_is_spot T) (hr.mono (by decide)) (by rfl) T.m_is_spot T.F_is_spot.kp T.b_is_spot .nil pass0 (pa_cons (pv 6) (pa_cons (pv 18) pa_nil))) pe_bl (nomark _)) (pe_one (pe_cmpR op_isBl (pe_call (ok_is_spot T) (hr.mono (by decide)) (by rfl) T.m_is_spot T.F_is_spot.kp T.b_is_spot .nil pass0 (pa_cons (pv 6) (pa_cons (pe_tupM (pa_cons pe_int (pa_cons pe_int (pa_cons (pe_op op_add pe_int (pe_ix ix_seq (pv 5) pe_int (fun _ _ => rfl))) pa_nil)))) pa_nil))) pe_bl (nomark _)))))))))))))))))))))), ?_⟩
    refine ⟨.ref b, rfl, b, xs, 110, rfl, hS, hx, by decide, by decide, fun H1 p1 ns s1 np1 e1 hlen hN => ?_⟩
    have hL1 : SqL K H1 p1 (ns.map V.int) := .inl (.inl e1)
    refine ⟨.ref p1, rfl, p1, ns, 0, 6, rfl, hL1, hN, by decide, by decide, by decide, by omega, fun H2 t l c n ks cam s2 tt nl el tks tc hsky hlen6 hasc => ?_⟩
    refine ⟨.ref t, rfl, t, _, rfl, tt, rfl, _, _, rfl, _, _, rfl, _, _, rfl, rfl, ?_⟩
    have hL2 := s2.seq hL1
    obtain ⟨⟨h4, h9⟩, hstars, hnd, h20, hcam⟩ := sky_parts hsky
    have hn : 0 < n := by omega
    obtain ⟨r, bl, g, lim, rfl, cr0, cr4, cb0, cb2, cg0, cg2, cl1, cl9, cbr, crb⟩ := cam_form hcam
    refine ⟨_, rfl, .ref l, rfl, .ref c, rfl, fun x dx nx ndx nex => ?_⟩
    have s3 := same_make (C := a.c_Sky) nx ndx
    refine ⟨x, dx, n, l, c, ks, _, rfl, upd_same, .inl (.inl (s3 _ _ el)), tups_up s3 tks, sqT_up s3 tc, by omega, fun _ H4 kq hK hp hascq kp => ⟨rfl, ?_⟩, fun hbad => by rw [hsky] at hbad; cases hbad⟩
    have S24 : Same H2 H4 := fun q o e => kp _ _ (s3 _ _ e) (ne_of_none e nx)
    have hkk : keys kq = keys ks := asc_unique hascq hasc (hp.map _) (fun y hy => stars_fit hstars h9 y ((hp.map _).mem_iff.mp hy))
    have hskyq : isSky n (keys kq) [r, bl, g, lim] = true := by rw [hkk]; exact hsky
    have hkl : (keys kq).length = ks.length := by rw [hkk]; exact keys_len ks
    have hP4 : PartsAt K H4 t n ks [r, bl, g, lim] := ⟨l, c, sqT_up S24 tt, .inl (.inl (S24 _ _ el)), tups_up S24 tks, sqT_up S24 tc⟩
    have el4 := S24 _ _ el
    have tc4 := sqT_up S24 tc
    have tks4 := tups_up S24 tks
    have hL4 := S24.seq hL2
    -- attitude
    refine ⟨.ref p1, rfl, .inl ⟨p1, _, _, _, rfl, rfl, hL4, nthI (by omega) (by omega), .inl ⟨_, rfl, _, rfl, _, _, rfl, rfl, hn, ?_⟩⟩⟩
    refine ⟨.ref p1, rfl, .inl ⟨p1, _, _, _, rfl, rfl, hL4, nthI (by omega) (by omega), .inl ⟨_, rfl, _, rfl, _, _, rfl, rfl, hn, ?_⟩⟩⟩
    refine ⟨.ref p1, rfl, .inl ⟨p1, _, _, _, rfl, rfl, hL4, nthI (by omega) (by omega), .inl ⟨_, rfl, _, _, rfl, rfl, (by show (0 : Int) < 4; decide), ?_⟩⟩⟩
    refine ⟨(by show 3 ≤ sizeLine; decide), fun pA H5 s5 tA => ?_⟩
    have hq3 : ∀ u v w : Int, isPose n [u % n, v % n, w % 4] = true := fun u v w => decide_eq_true ⟨Int.emod_nonneg _ (by omega), Int.emod_lt_of_pos _ hn, Int.emod_nonneg _ (by omega), Int.emod_lt_of_pos _ hn, Int.emod_nonneg _ (by decide), by omega⟩
    have hL5 := s5.seq hL4
    refine ⟨fun σ H6 => ∃ (px py pq : Int) (pB : Addr), Same H4 H6 ∧ isPose n [px, py, pq] = true ∧ SqT K H6 pB [.int px, .int py, .int pq] ∧ σ = [some (.ref b), some (.ref p1), some (.ref t), some (.int n), some (.ref l), some (.ref c), some (.ref x), some (.ref pB), none, none, none, none, none, none, none, none, none, none, none, none], ?_, ?_⟩
    · refine ⟨.ref l, rfl, l, _, rfl, .inl (.inl (.inl (s5 _ _ el4))), _, _, rfl, rfl, _, rfl, ite2 (fun g2 => ?_) (fun g2 => iteF ⟨_, _, _, pA, s5, hq3 _ _ _, tA, rfl⟩)⟩
      refine ⟨.ref p1, rfl, .inl ⟨p1, _, _, _, rfl, rfl, hL5, nthI (by omega) (by omega), .inl ⟨_, rfl, _, _, rfl, rfl, (by show (0 : Int) < 3; decide), _, _, rfl, rfl, _, rfl, ite2 (fun g3 => ?_) (fun g3 => ⟨_, _, _, pA, s5, hq3 _ _ _, tA, rfl⟩)⟩⟩⟩
      have hpos : 0 < ks.length := by
        have : (0 : Int) < ((refs ks).length : Nat) := of_decide_eq_true g2
        rw [refs_len] at this
        omega
      have hks0 : (0 : Int) < ((refs ks).length : Nat) := by rw [refs_len]; omega
      have j0 := Int.emod_nonneg (numI ns 34) (show (((refs ks).length : Nat) : Int) ≠ 0 by omega)
      have j1 := Int.emod_lt_of_pos (numI ns 34) hks0
      generalize ej : numI ns 34 % (((refs ks).length : Nat) : Int) = j at j0 j1
      obtain ⟨jn, rfl⟩ := Int.eq_ofNat_of_zero_le j0
      rw [refs_len] at j1
      have hj : jn < ks.length := by omega
      have hkj : ks[jn]? = some ks[jn] := List.getElem?_eq_getElem hj
      have hat : atI (refs ks) ((jn : Nat) : Int) = some (.ref ks[jn].1) := atI_nat (by unfold refs; rw [List.getElem?_map, hkj]; rfl)
      have hkey : (keys ks)[jn]? = some ks[jn].2 := by unfold keys; rw [List.getElem?_map, hkj]; rfl
      obtain ⟨sx, sy, bb, e3, w0, w1, w2, w3, _⟩ := star_form (List.all_eq_true.mp hstars ks[jn].2 (List.mem_of_getElem? hkey))
      have hps := sqT_up s5 (tks4 ks[jn] (List.getElem_mem hj))
      rw [e3] at hps
      refine ⟨.ref l, rfl, .ref p1, rfl, .inl ⟨p1, _, _, _, rfl, rfl, hL5, nthI (by omega) (by omega), .inl ⟨_, rfl, .ref l, rfl, l, _, rfl, .inl (.inl (.inl (s5 _ _ el4))), _, _, rfl, rfl, hks0, .inl ⟨l, _, _, _, rfl, rfl, .inl (.inl (s5 _ _ el4)), (by rw [ej]; exact hat), ?_⟩⟩⟩⟩
      refine ⟨2, rfl, ks[jn].1, _, rfl, hps, fun q6 H6 s6 t6 => ?_⟩
      have t6' : SqT K H6 q6 [.int sx, .int sy] := t6
      refine ⟨.ref pA, rfl, 2, rfl, pA, _, rfl, sqT_up s6 tA, fun q7 H7 s7 t7 => ?_⟩
      have t7' : SqT K H7 q7 [.int (numI ns 32 % 4)] := t7
      refine ⟨q6, q7, _, _, rfl, rfl, sqT_up s7 t6', t7', (by show 3 ≤ sizeLine; decide), fun pB H8 s8 tB => ?_⟩
      exact ⟨sx, sy, numI ns 32 % 4, pB, ((s5.trans s6).trans s7).trans s8, decide_eq_true ⟨w0, w1, w2, w3, Int.emod_nonneg _ (by decide), by omega⟩, tB, rfl⟩
    rintro σ6 H6 ⟨px, py, pq, pB, S6, hpose, tB, rfl⟩
    have hpo := of_decide_eq_true hpose
    have hL6 := S6.seq hL4
    -- spots
    refine ⟨8, rfl, by decide, by decide, fun D nD => lc_range (lo := 0) (n := 8) (fun i H7 => ∃ k8 : Tups, Same H6 H7 ∧ H7 D = some (.lst (refs k8)) ∧ TupsAt K H7 k8 ∧ k8.length = i ∧ ∀ p ∈ k8, p.2.length = 3) ⟨[], same_new nD, upd_same, (fun p hp => by cases hp), rfl, (fun p hp => by cases hp)⟩ ?_ ?_⟩
    · rintro i H7 hi ⟨k8, s7, e7, t7, l7, h7⟩
      refine ⟨rfl, ?_⟩
      refine ⟨.ref t, rfl, .ref pB, rfl, .ref p1, rfl, _, rfl, _, _, rfl, rfl, .inl (by constructor <;> decide), _, _, rfl, rfl, ?_⟩
      refine ⟨t, pB, p1, n, ks, r, bl, g, lim, px, py, pq, _, ns, rfl, parts_up (S6.trans s7) hP4, hsky, sqT_up s7 tB, hpo.2.2.2.2.1, hpo.2.2.2.2.2, s7.seq hL6, by omega, by omega, fun H8 q8 u v c8 s8 t8 => ?_⟩
      have eD := s8 _ _ e7
      refine ⟨refs k8, eD, sizeN (by rw [refs_len]; omega), k8 ++ [(q8, [u, v, c8])], same_put nD (s7.trans s8), by rw [upd_same, ← refs_push], ?_, by rw [List.length_append, l7]; rfl, ?_⟩
      · exact tups_app (fun q hq => sqT_lst eD (sqT_up s8 (t7 q hq))) (tups_one (sqT_lst eD t8))
      · intro p hp'
        rcases List.mem_append.mp hp' with hp' | hp'
        · exact h7 p hp'
        · rw [List.mem_singleton.mp hp']
          rfl
    rintro H7 ⟨k8, s7, e7, t7, l7, h7⟩
    have S7 := S6.trans s7
    have tB7 := sqT_up s7 tB
    have three : ∀ p ∈ k8, ∃ u v w, p.2 = [u, v, w] := fun p hp' => of3 (by rw [h7 p hp']; rfl)
    refine ⟨.ref D, rfl, D, rfl, ⟨_, .inl (.inl e7)⟩, for_list (K := K) (a := D) (xs := refs k8) (fun i σ H8 => ∃ z9 z10 z11 z12 : Option V, σ = [some (.ref b), some (.ref p1), some (.ref t), some (.int n), some (.ref l), some (.ref c), some (.ref x), some (.ref pB), some (.ref D), z9, z10, z11, z12, none, none, none, none, none, none, none] ∧ Same H7 H8) ⟨_, _, _, _, rfl, Same.refl _⟩ (fun i σ H8 _ ⟨_, _, _, _, _, s8⟩ => .inl (.inl (s8 _ _ e7))) ?_ ?_⟩
    · rintro i y σ H8 hi ⟨z9, z10, z11, z12, rfl, s8⟩
      obtain ⟨q, hq, rfl⟩ : ∃ q, k8[i]? = some q ∧ y = V.ref q.1 := by
        unfold refs at hi
        rw [List.getElem?_map] at hi
        cases e : k8[i]? with
        | none => rw [e] at hi; cases hi
        | some q => rw [e] at hi; exact ⟨q, rfl, (Option.some.inj hi).symm⟩
      have hqm := List.mem_of_getElem? hq
      obtain ⟨u, v, w', e3⟩ := three q hqm
      have S8 := S7.trans s8
      have hq8 := sqT_up s8 (t7 q hqm)
      have hK8 := skyS_up S8 hK
      refine ⟨.ref x, rfl, .ref q.1, rfl, x, q.1, n, _, r, bl, g, lim, q.2, rfl, hK8.1, hq8, ?_⟩
      refine ⟨_, rfl, _, _, .type "bool", .type "bool", true, rfl, .ty _, .base (.bl _), kit_ty (by decide +kernel), _, rfl, iteF ?_⟩
      refine ⟨_, rfl, .ref t, rfl, .ref q.1, rfl, t, q.1, n, ks, r, bl, g, lim, q.2, rfl, parts_up S8 hP4, hq8, rfl, _, rfl, iteNS rfl ?_⟩
      refine ⟨.ref l, rfl, l, _, rfl, .inl (.inl (.inl (S8 _ _ el4))), ?_⟩
      refine ⟨_, rfl, (by rw [refs_len]; omega), (by rw [refs_len]; omega), for_range (lo := 0) (n := (refs ks).length) (fun j σ H9 => ∃ z11 z12 : Option V, σ = [some (.ref b), some (.ref p1), some (.ref t), some (.int n), some (.ref l), some (.ref c), some (.ref x), some (.ref pB), some (.ref D), some (.ref q.1), some (.bl (isSpot [r, bl, g, lim] q.2)), z11, z12, none, none, none, none, none, none, none] ∧ Same H8 H9) ⟨_, _, rfl, Same.refl _⟩ ?_ ?_⟩
      · rintro j σ H9 hj ⟨z11, z12, rfl, s9⟩
        have hj' : j < ks.length := by rw [refs_len] at hj; exact hj
        have S9 := S8.trans s9
        have hkj : ks[j]? = some ks[j] := List.getElem?_eq_getElem hj'
        have hat : atI (refs ks) (0 + (j : Nat)) = some (.ref ks[j].1) := by
          rw [Int.zero_add]
          exact atI_nat (by unfold refs; rw [List.getElem?_map, hkj]; rfl)
        have hkey : (keys ks)[j]? = some ks[j].2 := by unfold keys; rw [List.getElem?_map, hkj]; rfl
        obtain ⟨sx, sy, bb, e3', _⟩ := star_form (List.all_eq_true.mp hstars ks[j].2 (List.mem_of_getElem? hkey))
        have hps := tks4 ks[j] (List.getElem_mem hj')
        rw [e3'] at hps hkey
        have ez : toldF n [r, bl, g, lim] [px, py, pq] (keys kq) (0 + (j : Nat)) q.2 = if isSpot [r, bl, g, lim] q.2 then .tuple [.int 0, .bool (fitsI n [r, bl, g, lim] [px, py, pq] [sx, sy, bb] q.2)] else .tuple [.int 3, .none] := by
          unfold toldF
          rw [hpose, if_pos rfl, if_neg (by omega), hkk, List.getD_eq_getElem?_getD, show (0 + (j : Int)).toNat = j by omega, hkey]
          rfl
        refine ⟨(by show 2 ≤ sizeLine; decide), fun td H10 s10 t10 => ?_⟩
        refine ⟨fun σ H11 => ∃ td' : Addr, Same H9 H11 ∧ Dp K H11 (.ref td') (toldF n [r, bl, g, lim] [px, py, pq] (keys kq) (0 + (j : Nat)) q.2) ∧ σ = [some (.ref b), some (.ref p1), some (.ref t), some (.int n), some (.ref l), some (.ref c), some (.ref x), some (.ref pB), some (.ref D), some (.ref q.1), some (.bl (isSpot [r, bl, g, lim] q.2)), some (.int (0 + (j : Nat))), some (.ref td'), none, none, none, none, none, none, none], ?_, ?_⟩
        · have S10 := S9.trans s10
          have hq10 := sqT_up (s9.trans s10) hq8
          refine ⟨.ref t, rfl, .ref q.1, rfl, t, q.1, n, ks, r, bl, g, lim, q.2, rfl, parts_up S10 hP4, hq10, _, rfl, ?_⟩
          rw [ez]
          cases es : isSpot [r, bl, g, lim] q.2 with
          | false => exact iteF ⟨td, s10, dp_t t10 (.cons (.int 3) (.cons .non .nil)), rfl⟩
          | true =>
            refine iteT ?_
            rw [e3] at hq10 ⊢
            refine ⟨.ref t, rfl, .ref pB, rfl, .ref l, rfl, _, rfl, .inl ⟨l, _, _, _, rfl, rfl, .inl (.inl (S10 _ _ el4)), hat, .ref q.1, rfl, ?_⟩⟩
            refine ⟨t, pB, ks[j].1, q.1, n, ks, r, bl, g, lim, px, py, pq, sx, sy, bb, u, v, w', rfl, parts_up S10 hP4, h4, h9, hcam, sqT_up (s8.trans (s9.trans s10)) tB7, hpo.2.2.2.2.1, hpo.2.2.2.2.2, sqT_up S10 hps, hq10, fun H11 s11 => ?_⟩
            exact ⟨(by show 2 ≤ sizeLine; decide), fun td' H12 s12 t12 => ⟨td', (s10.trans s11).trans s12, dp_t t12 (.cons (.int 0) (.cons (.bl _) .nil)), rfl⟩⟩
        rintro σ H11 ⟨td', s11, d11, rfl⟩
        have S11 := S9.trans s11
        refine ⟨.ref x, rfl, .ref pB, rfl, _, rfl, .ref q.1, rfl, x, pB, q.1, n, kq, _, [px, py, pq], q.2, _, rfl, skyS_up S11 hK, hskyq, sqT_up (s8.trans (s9.trans s11)) tB7, sqT_up (s9.trans s11) hq8, fun H12 tl s12 d12 => ?_⟩
        have ly : Lay 1 (toldF n [r, bl, g, lim] [px, py, pq] (keys kq) (0 + (j : Nat)) q.2) := by
          rw [ez]
          split
          · exact lay_pair 0 (lay_bool 0 _)
          · exact lay_pair 3 (lay_non 0)
        exact ⟨_, rfl, ne_same ly (by decide) d12 (dp_up s12 d11) ⟨_, rfl, iteF ⟨_, _, rfl, (s9.trans s11).trans s12⟩⟩⟩
      · rintro σ H9 ⟨z11, z12, rfl, s9⟩
        exact ⟨_, _, _, _, rfl, s8.trans s9⟩
    rintro σ8 H8 ⟨z9, z10, z11, z12, rfl, s8⟩
    have S8 := S7.trans s8
    have e8 := s8 _ _ e7
    have t8 := tups_up s8 t7
    -- good
    refine ⟨.ref D, rfl, D, rfl, ⟨_, .inl (.inl e8)⟩, fun D2 nD2 => lc_list (K := K) (a := D) (xs := refs k8) (fun i H9 => Same H8 H9 ∧ H9 D2 = some (.lst (refs ((k8.take i).filter fun p => isSpot [r, bl, g, lim] p.2)))) ⟨same_new nD2, upd_same⟩ (fun i H9 _ ⟨s9, _⟩ => .inl (.inl (s9 _ _ e8))) ?_ ?_⟩
    · rintro i y H9 hi ⟨s9, e9⟩
      obtain ⟨q, hq, rfl⟩ : ∃ q, k8[i]? = some q ∧ y = V.ref q.1 := by
        unfold refs at hi
        rw [List.getElem?_map] at hi
        cases e : k8[i]? with
        | none => rw [e] at hi; cases hi
        | some q => rw [e] at hi; exact ⟨q, rfl, (Option.some.inj hi).symm⟩
      have hqm := List.mem_of_getElem? hq
      have stp : k8.take (i + 1) = k8.take i ++ [q] := by rw [List.take_add_one, hq]; rfl
      refine ⟨rfl, ?_⟩
      refine ⟨.ref t, rfl, .ref q.1, rfl, t, q.1, n, ks, r, bl, g, lim, q.2, rfl, parts_up (S8.trans s9) hP4, sqT_up s9 (t8 q hqm), _, rfl, ?_⟩
      rw [stp, List.filter_append]
      cases es : isSpot [r, bl, g, lim] q.2 with
      | false =>
        refine iteF ⟨s9, ?_⟩
        rw [List.filter_cons_of_neg (by rw [es]; decide), List.filter_nil, List.append_nil]
        exact e9
      | true =>
        refine iteT ⟨_, rfl, _, e9, sizeN ?_, same_put nD2 s9, ?_⟩
        · rw [refs_len]
          have := List.length_filter_le (fun p : Addr × List Int => isSpot [r, bl, g, lim] p.2) (k8.take i)
          have : (k8.take i).length ≤ k8.length := by rw [List.length_take]; omega
          omega
        · rw [upd_same, List.filter_cons_of_pos (by exact es), List.filter_nil, ← refs_push]
    rintro H9 ⟨s9, e9⟩
    rw [List.take_of_length_le (by rw [refs_len]; exact Nat.le_refl _)] at e9
    have S9 := S8.trans s9
    generalize ekf : k8.filter (fun p => isSpot [r, bl, g, lim] p.2) = kf at e9
    have hkf : ∀ p ∈ kf, p ∈ k8 := fun p hp' => by
      rw [← ekf] at hp'
      exact (List.mem_filter.mp hp').1
    have hkfl : kf.length ≤ 8 := by
      rw [← ekf]
      have := List.length_filter_le (fun p : Addr × List Int => isSpot [r, bl, g, lim] p.2) k8
      omega
    have ne3 : ∀ p ∈ k8, p.2 ≠ [] := fun p hp' e => by
      have := h7 p hp'
      rw [e] at this
      cases this
    refine ⟨D2, kf, rfl, .inl (.inl (.inl e9)), fun p hp' => sqT_up s9 (t8 p (hkf p hp')), fun p hp' => ne3 p (hkf p hp'), fun pg kg H10 s10 npg epg hpg hag => ?_⟩
    have S10 := S9.trans s10
    have hkg : ∀ p ∈ kg, p ∈ k8 := fun p hp' => hkf p (hpg.mem_iff.mp hp')
    have hkgl : kg.length ≤ 8 := by rw [hpg.length_eq]; exact hkfl
    have t10 : TupsAt K H10 k8 := tups_up (s9.trans s10) t8
    -- doubled
    refine ⟨.ref pg, rfl, .ref pg, rfl, _, rfl, _, rfl, pg, _, rfl, .inl (.inl epg), fun la H11 s11 nla ela => ?_⟩
    obtain ⟨kl, ekl, hkl', hkll⟩ := cut_refs kg (some (-1)) none
    have ela' : H11 la = some (.lst (refs kl)) := ela.trans (congrArg (fun z => some (HO.lst z)) ekl)
    refine ⟨pg, la, _, _, rfl, rfl, s11 _ _ epg, ela', sizeL (by rw [refs_len, refs_len]; omega), fun pd H12 s12 npd epd => ?_⟩
    rw [refs_app] at epd
    generalize ekd : kg ++ kl = kd at epd
    have hkd : ∀ p ∈ kd, p ∈ k8 := fun p hp' => by
      rw [← ekd] at hp'
      exact (List.mem_append.mp hp').elim (hkg p) fun z => hkg p (hkl' p z)
    have hkdl : kd.length ≤ 16 := by rw [← ekd, List.length_append]; omega
    have S12 := (S10.trans s11).trans s12
    have t12 : TupsAt K H12 k8 := tups_up (s11.trans s12) t10
    have epg12 := s12 _ _ (s11 _ _ epg)
    -- rows
    refine ⟨.ref pg, rfl, pg, _, rfl, .inl ⟨.inl (.inl epg12), fun r1 nr1 => ?_⟩⟩
    have g1 : Same H12 (upd H12 r1 (.tup (refs kg))) := same_new nr1
    have u1 : SqT K (upd H12 r1 (.tup (refs kg))) r1 (refs kg) := .inl (.inl upd_same)
    generalize upd H12 r1 (.tup (refs kg)) = G1 at g1 u1 ⊢
    refine ⟨.ref pd, rfl, pd, _, rfl, .inl ⟨.inl (.inl (g1 _ _ epd)), fun r2 nr2 => ?_⟩⟩
    have g2 : Same G1 (upd G1 r2 (.tup (refs kd))) := same_new nr2
    have u2 : SqT K (upd G1 r2 (.tup (refs kd))) r2 (refs kd) := .inl (.inl upd_same)
    generalize upd G1 r2 (.tup (refs kd)) = G2 at g2 u2 ⊢
    refine ⟨.ref pg, rfl, pg, _, rfl, .inl (.inl (g2 _ _ (g1 _ _ epg12))), fun lr nlr => ?_⟩
    have g3 : Same G2 (upd G2 lr (.lst (refs kg).reverse)) := same_new nlr
    have elr : (upd G2 lr (.lst (refs kg).reverse)) lr = some (.lst (refs kg.reverse)) := by rw [upd_same]; unfold refs; rw [List.map_reverse]
    generalize upd G2 lr (.lst (refs kg).reverse) = G3 at g3 elr ⊢
    refine ⟨lr, _, rfl, .inl ⟨.inl (.inl elr), fun r3 nr3 => ?_⟩⟩
    have g4 : Same G3 (upd G3 r3 (.tup (refs kg.reverse))) := same_new nr3
    have u3 : SqT K (upd G3 r3 (.tup (refs kg.reverse))) r3 (refs kg.reverse) := .inl (.inl upd_same)
    generalize upd G3 r3 (.tup (refs kg.reverse)) = G4 at g4 u3 ⊢
    have g14 : Same H12 G4 := g1.trans (g2.trans (g3.trans g4))
    refine ⟨.ref D, rfl, D, _, rfl, .inl ⟨.inl (.inl (g14 _ _ (s12 _ _ (s11 _ _ (s10 _ _ (s9 _ _ e8)))))), fun r4 nr4 => ?_⟩⟩
    have g5 : Same G4 (upd G4 r4 (.tup (refs k8))) := same_new nr4
    have u4 : SqT K (upd G4 r4 (.tup (refs k8))) r4 (refs k8) := .inl (.inl upd_same)
    generalize upd G4 r4 (.tup (refs k8)) = G5 at g5 u4 ⊢
    refine ⟨Nat.zero_le _, fun r5 G6 g6 u5 => ?_⟩
    refine ⟨(by show 5 ≤ sizeLine; decide), fun lw G7 g7 nlw elw => ?_⟩
    have gA : Same H12 G7 := g14.trans (g5.trans (g6.trans g7))
    have t7' := tups_up gA t12
    have epd7 := gA _ _ epd
    have sub : ∀ {kr : Tups}, (∀ p ∈ kr, p ∈ k8) → ∀ {G : Hp}, Same G7 G → TupsAt K G kr ∧ ∀ p ∈ kr, p.2 ≠ [] := fun {kr} h {G} gg => ⟨fun p hp' => sqT_up gg (t7' p (h p hp')), fun p hp' => ne3 p (h p hp')⟩
    have all1 : ∀ y ∈ [V.ref r1, V.ref r2, V.ref r3, V.ref r4, V.ref r5], RowAt K G7 y := by
      intro y hy
      simp only [List.mem_cons, List.not_mem_nil, or_false] at hy
      rcases hy with rfl | rfl | rfl | rfl | rfl
      · exact ⟨r1, kg, rfl, sqT_up (g2.trans (g3.trans (g4.trans (g5.trans (g6.trans g7))))) u1, (sub hkg (Same.refl _)).1, (sub hkg (Same.refl _)).2, by omega⟩
      · exact ⟨r2, kd, rfl, sqT_up (g3.trans (g4.trans (g5.trans (g6.trans g7)))) u2, (sub hkd (Same.refl _)).1, (sub hkd (Same.refl _)).2, by omega⟩
      · have hr' : ∀ p ∈ kg.reverse, p ∈ k8 := fun p hp' => hkg p (List.mem_reverse.mp hp')
        exact ⟨r3, kg.reverse, rfl, sqT_up (g5.trans (g6.trans g7)) u3, (sub hr' (Same.refl _)).1, (sub hr' (Same.refl _)).2, by rw [List.length_reverse]; omega⟩
      · exact ⟨r4, k8, rfl, sqT_up (g6.trans g7) u4, (sub (fun p hp' => hp') (Same.refl _)).1, (sub (fun p hp' => hp') (Same.refl _)).2, by omega⟩
      · exact ⟨r5, [], rfl, sqT_up g7 u5, (fun p hp' => by cases hp'), (fun p hp' => by cases hp'), by decide⟩
    -- further rows
    refine ⟨.ref lw, rfl, .ref pd, rfl, _, rfl, _, rfl, pd, _, rfl, .inl (.inl epd7), fun la2 G8 g8 nla2 ela2 => ?_⟩
    obtain ⟨km, ekm, hkm', hkml⟩ := cut_refs kd (some (-1)) none
    have ela2' : G8 la2 = some (.lst (refs km)) := ela2.trans (congrArg (fun z => some (HO.lst z)) ekm)
    have hrep : ∀ m, ∀ p ∈ (List.replicate m km).flatten, p ∈ k8 := fun m p hp' => hkd p (hkm' p (mem_rep hp'))
    have hrl : ∀ m, m ≤ 61 → (List.replicate m km).flatten.length ≤ 4000 := fun m hm => by
      rw [rep_len]
      have := Nat.mul_le_mul hm (show km.length ≤ 16 by omega)
      omega
    refine ⟨la2, 60, _, rfl, rfl, ela2', by decide, by decide, sizeL (by rw [refs_len]; show km.length * 60 ≤ _; omega), fun lb2 G9 g9 nlb2 elb2 => ?_⟩
    rw [show (60 : Int).toNat = 60 from rfl, refs_rep] at elb2
    refine ⟨lb2, _, rfl, .inl ⟨.inl (.inl elb2), fun r6 nr6 => ?_⟩⟩
    have g10 : Same G9 (upd G9 r6 (.tup (refs (List.replicate 60 km).flatten))) := same_new nr6
    have u6 : SqT K (upd G9 r6 (.tup (refs (List.replicate 60 km).flatten))) r6 (refs (List.replicate 60 km).flatten) := .inl (.inl upd_same)
    generalize upd G9 r6 (.tup (refs (List.replicate 60 km).flatten)) = G10 at g10 u6 ⊢
    have g810 := g8.trans (g9.trans g10)
    refine ⟨.ref pd, rfl, _, rfl, _, rfl, pd, _, rfl, .inl (.inl (g810 _ _ epd7)), fun la3 G11 g11 nla3 ela3 => ?_⟩
    have ela3' : G11 la3 = some (.lst (refs km)) := ela3.trans (congrArg (fun z => some (HO.lst z)) ekm)
    refine ⟨la3, 61, _, rfl, rfl, ela3', by decide, by decide, sizeL (by rw [refs_len]; show km.length * 61 ≤ _; omega), fun lb3 G12 g12 nlb3 elb3 => ?_⟩
    rw [show (61 : Int).toNat = 61 from rfl, refs_rep] at elb3
    refine ⟨lb3, _, rfl, .inl ⟨.inl (.inl elb3), fun r7 nr7 => ?_⟩⟩
    have g13 : Same G12 (upd G12 r7 (.tup (refs (List.replicate 61 km).flatten))) := same_new nr7
    have u7 : SqT K (upd G12 r7 (.tup (refs (List.replicate 61 km).flatten))) r7 (refs (List.replicate 61 km).flatten) := .inl (.inl upd_same)
    generalize upd G12 r7 (.tup (refs (List.replicate 61 km).flatten)) = G13 at g13 u7 ⊢
    refine ⟨(by show 2 ≤ sizeLine; decide), fun q8 G14 g14' v8 => ?_⟩
    refine ⟨(by show 1 ≤ sizeLine; decide), fun r8 G15 g15 u8 => ?_⟩
    have gB : Same G7 G15 := g810.trans (g11.trans (g12.trans (g13.trans (g14'.trans g15))))
    have SB : Same H4 G15 := S12.trans (gA.trans gB)
    refine ⟨.ref c, rfl, .inr (.inl ⟨c, _, 3, .int lim, rfl, rfl, sqT_up SB tc4, rfl, (by show 4 ≤ sizeLine; decide), fun q9 G16 g16 v9 => ?_⟩)⟩
    refine ⟨(by show 1 ≤ sizeLine; decide), fun r9 G17 g17 u9 => ?_⟩
    refine ⟨(by show 4 ≤ sizeLine; decide), fun lv G18 g18 nlv elv => ?_⟩
    have gC : Same G7 G18 := gB.trans (g16.trans (g17.trans g18))
    refine ⟨lw, lv, _, _, rfl, rfl, gC _ _ elw, elv, (by show 9 ≤ sizeLine; decide), fun lz G19 g19 nlz elz => ?_⟩
    have gD := gC.trans g19
    have SD : Same H4 G19 := S12.trans (gA.trans gD)
    have all2 : ∀ y ∈ [V.ref r1, V.ref r2, V.ref r3, V.ref r4, V.ref r5] ++ [V.ref r6, V.ref r7, V.ref r8, V.ref r9], RowAt K G19 y := by
      intro y hy
      rcases List.mem_append.mp hy with hy | hy
      · exact rowAt_up gD (all1 y hy)
      · simp only [List.mem_cons, List.not_mem_nil, or_false] at hy
        rcases hy with rfl | rfl | rfl | rfl
        · exact ⟨r6, _, rfl, sqT_up (g11.trans (g12.trans (g13.trans (g14'.trans (g15.trans (g16.trans (g17.trans (g18.trans g19)))))))) u6, (sub (hrep 60) gD).1, (sub (hrep 60) gD).2, hrl 60 (by decide)⟩
        · exact ⟨r7, _, rfl, sqT_up (g14'.trans (g15.trans (g16.trans (g17.trans (g18.trans g19))))) u7, (sub (hrep 61) gD).1, (sub (hrep 61) gD).2, hrl 61 (by decide)⟩
        · exact ⟨r8, [(q8, [0, 0])], rfl, sqT_up (g16.trans (g17.trans (g18.trans g19))) u8, tups_one (sqT_up (g15.trans (g16.trans (g17.trans (g18.trans g19)))) v8), (fun p hp' => by rw [List.mem_singleton.mp hp']; simp), (by show 1 ≤ 4000; decide)⟩
        · exact ⟨r9, [(q9, [0, 0, lim, 0])], rfl, sqT_up (g18.trans g19) u9, tups_one (sqT_up (g17.trans (g18.trans g19)) v9), (fun p hp' => by rw [List.mem_singleton.mp hp']; simp), (by show 1 ≤ 4000; decide)⟩
    refine ⟨lz, rfl, ⟨_, .inl (.inl elz)⟩, for_list (K := K) (a := lz) (xs := _) (fun i σ H20 => ∃ z9 z10 z11 z12 z16 : Option V, σ = [some (.ref b), some (.ref p1), some (.ref t), some (.int n), some (.ref l), some (.ref c), some (.ref x), some (.ref pB), some (.ref D), z9, z10, z11, z12, some (.ref pg), some (.ref pd), some (.ref lw), z16, none, none, none] ∧ Same G19 H20) ⟨_, _, _, _, _, rfl, Same.refl _⟩ (fun i σ H20 _ ⟨_, _, _, _, _, _, s20⟩ => .inl (.inl (s20 _ _ elz))) ?_ ?_⟩
    · rintro i y σ H20 hi ⟨z9, z10, z11, z12, z16, rfl, s20⟩
      obtain ⟨tr, kr, rfl, hr1, hr2, hr3, hr4⟩ := rowAt_up s20 (all2 y (List.mem_of_getElem? hi))
      have S20 := SD.trans s20
      -- due
      refine ⟨fun σ H21 => Same H20 H21 ∧ σ = [some (.ref b), some (.ref p1), some (.ref t), some (.int n), some (.ref l), some (.ref c), some (.ref x), some (.ref pB), some (.ref D), z9, z10, z11, some (.bl (isSight [r, bl, g, lim] (keys kr))), some (.ref pg), some (.ref pd), some (.ref lw), some (.ref tr), none, none, none], ?_, ?_⟩
      · refine ⟨.ref tr, rfl, tr, _, rfl, .inr hr1, _, _, rfl, rfl, _, rfl, ite2 (fun g6 => ?_) (fun g6 => ?_)⟩
        rotate_left
        · refine ⟨Same.refl _, ?_⟩
          rw [show isSight [r, bl, g, lim] (keys kr) = false by
            unfold isSight
            rw [show decide ((keys kr).length ≤ 60) = false from decide_eq_false (fun z => g6 (by rw [refs_len]; rw [keys_len] at z; exact decide_eq_true (by omega))), Bool.and_false]]
          rfl
        have h60 : (keys kr).length ≤ 60 := by
          have : ((refs kr).length : Int) ≤ 60 := of_decide_eq_true g6
          rw [refs_len] at this
          rw [keys_len]
          omega
        rw [isSight_cut h60]
        refine ⟨.ref tr, rfl, tr, rfl, ⟨_, hr1⟩, fun D3 nD3 => lc_tup (K := K) (a := tr) (xs := refs kr) (fun i H21 => Same H20 H21 ∧ H21 D3 = some (.lst (((keys (kr.take i)).map (isSpot [r, bl, g, lim])).map V.bl))) ⟨same_new nD3, upd_same⟩ (fun i H21 _ ⟨s21, _⟩ => sqT_up s21 hr1) ?_ ?_⟩
        · rintro i y H21 hi' ⟨s21, e21⟩
          obtain ⟨q, hq, rfl⟩ : ∃ q, kr[i]? = some q ∧ y = V.ref q.1 := by
            unfold refs at hi'
            rw [List.getElem?_map] at hi'
            cases e : kr[i]? with
            | none => rw [e] at hi'; cases hi'
            | some q => rw [e] at hi'; exact ⟨q, rfl, (Option.some.inj hi').symm⟩
          refine ⟨rfl, ?_⟩
          refine ⟨.ref t, rfl, .ref q.1, rfl, t, q.1, n, ks, r, bl, g, lim, q.2, rfl, parts_up (S20.trans s21) hP4, sqT_up s21 (hr2 q (List.mem_of_getElem? hq)), _, e21, sizeN ?_, same_put nD3 s21, ?_⟩
          · rw [List.length_map, List.length_map, keys_len]
            have : (kr.take i).length ≤ kr.length := by rw [List.length_take]; omega
            omega
          · rw [upd_same, List.take_add_one, hq]
            unfold keys
            simp only [List.map_append, Option.toList, List.map_cons, List.map_nil]
        rintro H21 ⟨s21, e21⟩
        rw [List.take_of_length_le (by rw [refs_len]; exact Nat.le_refl _)] at e21
        refine ⟨D3, _, rfl, .inl (.inl e21), _, rfl, ?_⟩
        cases ea : ((keys kr).map (isSpot [r, bl, g, lim])).all id with
        | false => exact iteF ⟨s21, rfl⟩
        | true =>
          refine iteT ?_
          refine ⟨.ref tr, rfl, tr, _, rfl, .inr (sqT_up s21 hr1), fun lh nlh => ?_⟩
          have s22 : Same H21 (upd H21 lh (.lst (refs kr))) := same_new nlh
          have elh : (upd H21 lh (.lst (refs kr))) lh = some (.lst (refs kr)) := upd_same
          generalize upd H21 lh (.lst (refs kr)) = H22 at s22 elh ⊢
          have S22 := s21.trans s22
          refine ⟨.ref tr, rfl, tr, kr, rfl, .inr (sqT_up S22 hr1), tups_up S22 hr2, hr3, fun l4 ks4 H23 s23 n23 e23 hp4 ha4 => ?_⟩
          have t23 : TupsAt K H23 ks4 := fun q hq => sqT_up (S22.trans s23) (hr2 q (hp4.mem_iff.mp hq))
          refine eq_tups (dp_l (s23 _ _ elh) (dp_tups (tups_up (S22.trans s23) hr2))) (dp_l e23 (dp_tups t23)) ⟨S22.trans s23, ?_⟩
          rw [sorted_same hp4 ha4]
          rfl
      rintro σ H21 ⟨s21, rfl⟩
      have S21 := S20.trans s21
      refine ⟨.ref x, rfl, .ref tr, rfl, x, tr, n, _, r, bl, g, lim, kr, rfl, (skyS_up S21 hK).1, sqT_up s21 hr1, tups_up s21 hr2, fun H22 s22 => ?_⟩
      exact ⟨_, rfl, rfl, _, rfl, iteNS rfl ⟨_, _, _, _, _, rfl, (s20.trans s21).trans s22⟩⟩
    rintro σ H20 ⟨z9', z10', z11', z12', z16', rfl, s20⟩
    have S20 := SD.trans s20
    have hL20 := S20.seq hL4
    have tB20 : SqT K H20 pB [.int px, .int py, .int pq] := sqT_up (s8.trans (s9.trans (s10.trans (s11.trans (s12.trans (gA.trans (gD.trans s20))))))) tB7
    -- odd, far
    refine ⟨_, rfl, (by show 3 ≤ sizeLine; decide), fun q0 F0 f0 w0 => ?_⟩
    refine ⟨(by show 3 ≤ sizeLine; decide), fun q1 F1 f1 w1 => ?_⟩
    refine ⟨(by show 2 ≤ sizeLine; decide), fun ql F2 f2 _ elq => ?_⟩
    have fA : Same H20 F2 := f0.trans (f1.trans f2)
    refine ⟨.ref p1, rfl, .inl ⟨p1, _, _, _, rfl, rfl, fA.seq hL20, nthI (by omega) (by omega), .inl ⟨_, rfl, _, _, rfl, rfl, (by show (0 : Int) < 2; decide), .inl ?_⟩⟩⟩
    obtain ⟨so, mo, eo, to, ho⟩ : ∃ so mo, atI [V.ref q0, V.ref q1] (numI ns 100 % 2) = some (.ref so) ∧ SqT K F2 so (mo.map V.int) ∧ isPose n mo = false := by
      have hj : numI ns 100 % 2 = 0 ∨ numI ns 100 % 2 = 1 := by omega
      rcases hj with hj | hj
      · exact ⟨q0, [n, 0, 0], by rw [hj]; rfl, sqT_up (f1.trans f2) w0, poseF (by omega)⟩
      · exact ⟨q1, [0, 0, 4], by rw [hj]; rfl, sqT_up f2 w1, poseF (by omega)⟩
    refine ⟨ql, _, _, _, rfl, rfl, .inl (.inl elq), eo, ?_⟩
    have SF := S20.trans fA
    have tcF := sqT_up SF tc4
    refine ⟨.ref c, rfl, .inr (.inl ⟨c, _, 0, .int r, rfl, rfl, tcF, rfl, _, _, rfl, rfl, .ref c, rfl, .inr (.inl ⟨c, _, 3, .int lim, rfl, rfl, tcF, rfl, (by show 3 ≤ sizeLine; decide), fun pf F3 f3 tf => ?_⟩)⟩)⟩
    have S3 := SF.trans f3
    have to3 := sqT_up f3 to
    refine ⟨.ref x, rfl, .ref so, rfl, _, rfl, .ref pf, rfl, x, so, pf, n, kq, _, mo, [r + 1, 0, lim], -1, rfl, skyS_up S3 hK, hskyq, to3, tf, fun F4 tl f4 d4 => ?_⟩
    rw [show toldF n [r, bl, g, lim] mo (keys kq) (-1) [r + 1, 0, lim] = .tuple [.int 1, dTI mo] by unfold toldF; rw [ho]; rfl] at d4
    refine ⟨.ref so, rfl, (by show 2 ≤ sizeLine; decide), fun tq F5 f5 tq5 => ?_⟩
    refine ne_same (lay_pair 1 (lay_ti mo)) (by decide) (dp_up f5 d4) (dp_t tq5 (.cons (.int 1) (.cons (dp_ti (sqT_up (f4.trans f5) to3)) .nil))) ⟨_, rfl, iteF ?_⟩
    have S5 := (S3.trans f4).trans f5
    have tf5 := sqT_up (f4.trans f5) tf
    refine ⟨.ref x, rfl, .ref pB, rfl, .ref l, rfl, l, _, rfl, .inl (.inl (.inl (S5 _ _ el4))), .ref pf, rfl, x, pB, pf, n, kq, _, [px, py, pq], [r + 1, 0, lim], _, rfl, skyS_up S5 hK, hskyq, sqT_up (fA.trans (f3.trans (f4.trans f5))) tB20, tf5, fun F6 tl2 f6 d6 => ?_⟩
    rw [show toldF n [r, bl, g, lim] [px, py, pq] (keys kq) (((refs ks).length : Nat) : Int) [r + 1, 0, lim] = .tuple [.int 2, .int (((refs ks).length : Nat) : Int)] by
      unfold toldF
      rw [hpose, if_pos rfl, if_pos (.inr (by rw [hkl, refs_len]; exact Int.le_refl _))]] at d6
    have S6' := S5.trans f6
    refine ⟨.ref l, rfl, l, _, rfl, .inl (.inl (.inl (S6' _ _ el4))), (by show 2 ≤ sizeLine; decide), fun tq2 F7 f7 tq7 => ?_⟩
    refine ne_same (k := 1) (lay_pair 2 (lay_int 0 _)) (by decide) (dp_up f7 d6) (dp_t tq7 (.cons (.int 2) (.cons (.int _) .nil))) ⟨_, rfl, iteF ?_⟩
    have S7' := S6'.trans f7
    have tc7 := sqT_up S7' tc4
    have hK7 := skyS_up S7' hK
    refine ⟨.ref x, rfl, .ref c, rfl, .inr (.inl ⟨c, _, 3, .int lim, rfl, rfl, tc7, rfl, (by show 3 ≤ sizeLine; decide), fun pu F8 f8 tu => ?_⟩)⟩
    refine ⟨x, pu, n, _, r, bl, g, lim, [0, 0, lim], rfl, (skyS_up f8 hK7).1, tu, _, _, rfl, rfl, _, rfl, ?_⟩
    rw [show isSpot [r, bl, g, lim] [0, 0, lim] = true from decide_eq_true ⟨by show (0 : Int) ≤ r; omega, by show (0 : Int) ≤ r; omega, by omega, by omega⟩]
    refine iteT ?_
    refine ⟨.ref x, rfl, .ref pf, rfl, x, pf, n, _, r, bl, g, lim, [r + 1, 0, lim], rfl, (skyS_up f8 hK7).1, sqT_up (f6.trans (f7.trans f8)) tf5, _, _, rfl, rfl, _, rfl, ?_⟩
    rw [show isSpot [r, bl, g, lim] [r + 1, 0, lim] = false from decide_eq_false (fun z => by have := z.1; unfold iabs at this; split at this <;> omega)]
    refine iteT ?_
    refine ⟨.ref x, rfl, .ref c, rfl, .inr (.inl ⟨c, _, 2, .int g, rfl, rfl, sqT_up f8 tc7, rfl, _, _, rfl, rfl, (by show 3 ≤ sizeLine; decide), fun pv' F9 f9 tv => ?_⟩)⟩
    refine ⟨x, pv', n, _, r, bl, g, lim, [0, 0, 10 + g], rfl, (skyS_up (f8.trans f9) hK7).1, tv, _, _, rfl, rfl, ?_⟩
    rw [show isSpot [r, bl, g, lim] [0, 0, 10 + g] = false from decide_eq_false (fun z => by have := z.2.2.2; omega)]
    exact k _

end
/-! ### what the top has written -/
set_option maxHeartbeats 8000000 in
theorem all_mk {w : World} {K : PySem.W.Frag} {h : Heap} {mg : Str → Option Value} {fa f1 f2 f3 f4 f5 f6 f7 f8 f9 f10 f11 f12 f13 f14 f15 f16 f17 f18 f19 f20 f21 f22 f23 f24 f25 f26 f27 f28 f29 f30 f31 s1 g8 g9 g10 g11 g12 e1 ei1 eN1 ecd1 ecc1 e2 ei2 eN2 ecd2 ecc2 q1 q2 : Addr} (X : K.In h) (G : h.Ns mainGlobals mg) (hfa : mg "law" = some (.ref fa))
    {od1 an1 od2 an2 od3 an3 od4 an4 od5 an5 od6 an6 od7 an7 od8 an8 od9 an9 od10 an10 od11 an11 od12 an12 od13 an13 od14 an14 od15 an15 od16 an16 od17 an17 od18 an18 od19 an19 od20 an20 od21 an21 od22 an22 od23 an23 od24 an24 od25 an25 od26 an26 od27 an27 od28 an28 od29 an29 od30 an30 od31 an31 edd1 eod1 ean1 ecdd1 ecld1 edd2 eod2 ean2 ecdd2 ecld2 : Option Addr} {sl1 sl2 sl3 sl4 sl5 sl6 sl7 sl8 sl9 sl10 sl11 sl12 sl13 sl14 sl15 sl16 sl17 sl18 sl19 sl20 sl21 sl22 sl23 sl24 sl25 sl26 sl27 sl28 sl29 sl30 sl31 eosl1 eccs1 ecsl1 eosl2 eccs2 ecsl2 : Array (Option Value)} {oc1 kV1 dc1 pm1 cd1 ct1 oc2 kV2 dc2 pm2 cd2 ct2 oc3 kV3 dc3 pm3 cd3 ct3 oc4 kV4 dc4 pm4 cd4 ct4 oc5 kV5 dc5 pm5 cd5 ct5 oc6 kV6 dc6 pm6 cd6 ct6 oc7 kV7 dc7 pm7 cd7 ct7 oc8 kV8 dc8 pm8 cd8 ct8 oc9 kV9 dc9 pm9 cd9 ct9 oc10 kV10 dc10 pm10 cd10 ct10 oc11 kV11 dc11 pm11 cd11 ct11 oc12 kV12 dc12 pm12 cd12 ct12 oc13 kV13 dc13 pm13 cd13 ct13 oc14 kV14 dc14 pm14 cd14 ct14 oc15 kV15 dc15 pm15 cd15 ct15 oc16 kV16 dc16 pm16 cd16 ct16 oc17 kV17 dc17 pm17 cd17 ct17 oc18 kV18 dc18 pm18 cd18 ct18 oc19 kV19 dc19 pm19 cd19 ct19 oc20 kV20 dc20 pm20 cd20 ct20 oc21 kV21 dc21 pm21 cd21 ct21 oc22 kV22 dc22 pm22 cd22 ct22 oc23 kV23 dc23 pm23 cd23 ct23 oc24 kV24 dc24 pm24 cd24 ct24 oc25 kV25 dc25 pm25 cd25 ct25 oc26 kV26 dc26 pm26 cd26 ct26 oc27 kV27 dc27 pm27 cd27 ct27 oc28 kV28 dc28 pm28 cd28 ct28 oc29 kV29 dc29 pm29 cd29 ct29 oc30 kV30 dc30 pm30 cd30 ct30 oc31 kV31 dc31 pm31 cd31 ct31 eoc1 edc1 epm1 ect1 eccl1 ecl1 eoc2 edc2 epm2 ect2 eccl2 ecl2 : Value} {rs8 rs9 rs10 rs11 rs12 : List Value} {enm1 eq1 efl1 enm2 eq2 efl2 : Str} {ebs1 esub1 ebm1 ebs2 esub2 ebm2 : List Value} {eab1 eab2 : Bool} {eco1 eco2 : Option Bool} {ek1_0 ek1_1 ek1_2 ek1_3 ek1_4 ek2_0 ek2_1 ek2_2 ek2_3 ek2_4 : Option Value} {esn1 esn2 : List Str} {evs1 evs2 : Array Value} {etf1 etf2 : Tok} {ut0 ut1 ut2 : Tok}
    (a1 : PySem.W.nsIn K mainGlobals "quarter_turned" = some (some (.ref f1)))
    (l1 : K.lookup f1 = some ⟨oc1, od1, .func (PySem.W.fnOf "quarter_turned" "quarter_turned" (defArgs s_quarter_turned) (defBody s_quarter_turned) (defScope s_quarter_turned) .none kV1 dc1 pm1 an1 cd1 ct1), sl1⟩)
    (c1 : PySem.W.codeIn K cd1 "quarter_turned" = true)
    (k1 : PySem.W.keepIn K (.ref f1) = true)
    (a2 : PySem.W.nsIn K mainGlobals "is_pose" = some (some (.ref f2)))
    (l2 : K.lookup f2 = some ⟨oc2, od2, .func (PySem.W.fnOf "is_pose" "is_pose" (defArgs s_is_pose) (defBody s_is_pose) (defScope s_is_pose) .none kV2 dc2 pm2 an2 cd2 ct2), sl2⟩)
    (c2 : PySem.W.codeIn K cd2 "is_pose" = true)
    (k2 : PySem.W.keepIn K (.ref f2) = true)
    (a3 : PySem.W.nsIn K mainGlobals "is_side" = some (some (.ref f3)))
    (l3 : K.lookup f3 = some ⟨oc3, od3, .func (PySem.W.fnOf "is_side" "is_side" (defArgs s_is_side) (defBody s_is_side) (defScope s_is_side) .none kV3 dc3 pm3 an3 cd3 ct3), sl3⟩)
    (c3 : PySem.W.codeIn K cd3 "is_side" = true)
    (k3 : PySem.W.keepIn K (.ref f3) = true)
    (a4 : PySem.W.nsIn K mainGlobals "is_star" = some (some (.ref f4)))
    (l4 : K.lookup f4 = some ⟨oc4, od4, .func (PySem.W.fnOf "is_star" "is_star" (defArgs s_is_star) (defBody s_is_star) (defScope s_is_star) .none kV4 dc4 pm4 an4 cd4 ct4), sl4⟩)
    (c4 : PySem.W.codeIn K cd4 "is_star" = true)
    (k4 : PySem.W.keepIn K (.ref f4) = true)
    (a5 : PySem.W.nsIn K mainGlobals "is_camera" = some (some (.ref f5)))
    (l5 : K.lookup f5 = some ⟨oc5, od5, .func (PySem.W.fnOf "is_camera" "is_camera" (defArgs s_is_camera) (defBody s_is_camera) (defScope s_is_camera) .none kV5 dc5 pm5 an5 cd5 ct5), sl5⟩)
    (c5 : PySem.W.codeIn K cd5 "is_camera" = true)
    (k5 : PySem.W.keepIn K (.ref f5) = true)
    (a6 : PySem.W.nsIn K mainGlobals "_check_sky" = some (some (.ref f6)))
    (l6 : K.lookup f6 = some ⟨oc6, od6, .func (PySem.W.fnOf "_check_sky" "_check_sky" (defArgs s__check_sky) (defBody s__check_sky) (defScope s__check_sky) .none kV6 dc6 pm6 an6 cd6 ct6), sl6⟩)
    (c6 : PySem.W.codeIn K cd6 "_check_sky" = true)
    (k6 : PySem.W.keepIn K (.ref f6) = true)
    (l7 : K.lookup f7 = some ⟨oc7, od7, .func (PySem.W.fnOf "__init__" "Sky.__init__" (defArgs s_Skyx_initx) (defBody s_Skyx_initx) (defScope s_Skyx_initx) .none kV7 dc7 pm7 an7 cd7 ct7), sl7⟩)
    (c7 : PySem.W.codeIn K cd7 "Sky.__init__" = true)
    (k7 : PySem.W.keepIn K (.ref f7) = true)
    (l8 : K.lookup f8 = some ⟨oc8, od8, .func (PySem.W.fnOf "side" "Sky.side" (defArgs s_Sky_side) (defBody s_Sky_side) (defScope s_Sky_side) .none kV8 dc8 pm8 an8 cd8 ct8), sl8⟩)
    (c8 : PySem.W.codeIn K cd8 "Sky.side" = true)
    (k8 : PySem.W.keepIn K (.ref f8) = true)
    (l9 : K.lookup f9 = some ⟨oc9, od9, .func (PySem.W.fnOf "reach" "Sky.reach" (defArgs s_Sky_reach) (defBody s_Sky_reach) (defScope s_Sky_reach) .none kV9 dc9 pm9 an9 cd9 ct9), sl9⟩)
    (c9 : PySem.W.codeIn K cd9 "Sky.reach" = true)
    (k9 : PySem.W.keepIn K (.ref f9) = true)
    (l10 : K.lookup f10 = some ⟨oc10, od10, .func (PySem.W.fnOf "blur" "Sky.blur" (defArgs s_Sky_blur) (defBody s_Sky_blur) (defScope s_Sky_blur) .none kV10 dc10 pm10 an10 cd10 ct10), sl10⟩)
    (c10 : PySem.W.codeIn K cd10 "Sky.blur" = true)
    (k10 : PySem.W.keepIn K (.ref f10) = true)
    (l11 : K.lookup f11 = some ⟨oc11, od11, .func (PySem.W.fnOf "glare" "Sky.glare" (defArgs s_Sky_glare) (defBody s_Sky_glare) (defScope s_Sky_glare) .none kV11 dc11 pm11 an11 cd11 ct11), sl11⟩)
    (c11 : PySem.W.codeIn K cd11 "Sky.glare" = true)
    (k11 : PySem.W.keepIn K (.ref f11) = true)
    (l12 : K.lookup f12 = some ⟨oc12, od12, .func (PySem.W.fnOf "limit" "Sky.limit" (defArgs s_Sky_limit) (defBody s_Sky_limit) (defScope s_Sky_limit) .none kV12 dc12 pm12 an12 cd12 ct12), sl12⟩)
    (c12 : PySem.W.codeIn K cd12 "Sky.limit" = true)
    (k12 : PySem.W.keepIn K (.ref f12) = true)
    (l13 : K.lookup f13 = some ⟨oc13, od13, .func (PySem.W.fnOf "star_at" "Sky.star_at" (defArgs s_Sky_star_at) (defBody s_Sky_star_at) (defScope s_Sky_star_at) .none kV13 dc13 pm13 an13 cd13 ct13), sl13⟩)
    (c13 : PySem.W.codeIn K cd13 "Sky.star_at" = true)
    (k13 : PySem.W.keepIn K (.ref f13) = true)
    (a14 : PySem.W.nsIn K mainGlobals "is_spot" = some (some (.ref f14)))
    (l14 : K.lookup f14 = some ⟨oc14, od14, .func (PySem.W.fnOf "is_spot" "is_spot" (defArgs s_is_spot) (defBody s_is_spot) (defScope s_is_spot) .none kV14 dc14 pm14 an14 cd14 ct14), sl14⟩)
    (c14 : PySem.W.codeIn K cd14 "is_spot" = true)
    (k14 : PySem.W.keepIn K (.ref f14) = true)
    (a15 : PySem.W.nsIn K mainGlobals "check_sighting" = some (some (.ref f15)))
    (l15 : K.lookup f15 = some ⟨oc15, od15, .func (PySem.W.fnOf "check_sighting" "check_sighting" (defArgs s_check_sighting) (defBody s_check_sighting) (defScope s_check_sighting) .none kV15 dc15 pm15 an15 cd15 ct15), sl15⟩)
    (c15 : PySem.W.codeIn K cd15 "check_sighting" = true)
    (k15 : PySem.W.keepIn K (.ref f15) = true)
    (a16 : PySem.W.nsIn K mainGlobals "check_attitude" = some (some (.ref f16)))
    (l16 : K.lookup f16 = some ⟨oc16, od16, .func (PySem.W.fnOf "check_attitude" "check_attitude" (defArgs s_check_attitude) (defBody s_check_attitude) (defScope s_check_attitude) .none kV16 dc16 pm16 an16 cd16 ct16), sl16⟩)
    (c16 : PySem.W.codeIn K cd16 "check_attitude" = true)
    (k16 : PySem.W.keepIn K (.ref f16) = true)
    (a17 : PySem.W.nsIn K mainGlobals "_offset_of" = some (some (.ref f17)))
    (l17 : K.lookup f17 = some ⟨oc17, od17, .func (PySem.W.fnOf "_offset_of" "_offset_of" (defArgs s__offset_of) (defBody s__offset_of) (defScope s__offset_of) .none kV17 dc17 pm17 an17 cd17 ct17), sl17⟩)
    (c17 : PySem.W.codeIn K cd17 "_offset_of" = true)
    (k17 : PySem.W.keepIn K (.ref f17) = true)
    (a18 : PySem.W.nsIn K mainGlobals "_nearest" = some (some (.ref f18)))
    (l18 : K.lookup f18 = some ⟨oc18, od18, .func (PySem.W.fnOf "_nearest" "_nearest" (defArgs s__nearest) (defBody s__nearest) (defScope s__nearest) .none kV18 dc18 pm18 an18 cd18 ct18), sl18⟩)
    (c18 : PySem.W.codeIn K cd18 "_nearest" = true)
    (k18 : PySem.W.keepIn K (.ref f18) = true)
    (a19 : PySem.W.nsIn K mainGlobals "are_near" = some (some (.ref f19)))
    (l19 : K.lookup f19 = some ⟨oc19, od19, .func (PySem.W.fnOf "are_near" "are_near" (defArgs s_are_near) (defBody s_are_near) (defScope s_are_near) .none kV19 dc19 pm19 an19 cd19 ct19), sl19⟩)
    (c19 : PySem.W.codeIn K cd19 "are_near" = true)
    (k19 : PySem.W.keepIn K (.ref f19) = true)
    (a20 : PySem.W.nsIn K mainGlobals "fits" = some (some (.ref f20)))
    (l20 : K.lookup f20 = some ⟨oc20, od20, .func (PySem.W.fnOf "fits" "fits" (defArgs s_fits) (defBody s_fits) (defScope s_fits) .none kV20 dc20 pm20 an20 cd20 ct20), sl20⟩)
    (c20 : PySem.W.codeIn K cd20 "fits" = true)
    (k20 : PySem.W.keepIn K (.ref f20) = true)
    (a21 : PySem.W.nsIn K mainGlobals "_law_row" = some (some (.ref f21)))
    (l21 : K.lookup f21 = some ⟨oc21, od21, .func (PySem.W.fnOf "_law_row" "_law_row" (defArgs s__law_row) (defBody s__law_row) (defScope s__law_row) .none kV21 dc21 pm21 an21 cd21 ct21), sl21⟩)
    (c21 : PySem.W.codeIn K cd21 "_law_row" = true)
    (k21 : PySem.W.keepIn K (.ref f21) = true)
    (a22 : PySem.W.nsIn K mainGlobals "_law_numbers" = some (some (.ref f22)))
    (l22 : K.lookup f22 = some ⟨oc22, od22, .func (PySem.W.fnOf "_law_numbers" "_law_numbers" (defArgs s__law_numbers) (defBody s__law_numbers) (defScope s__law_numbers) .none kV22 dc22 pm22 an22 cd22 ct22), sl22⟩)
    (c22 : PySem.W.codeIn K cd22 "_law_numbers" = true)
    (k22 : PySem.W.keepIn K (.ref f22) = true)
    (a23 : PySem.W.nsIn K mainGlobals "_law_parts" = some (some (.ref f23)))
    (l23 : K.lookup f23 = some ⟨oc23, od23, .func (PySem.W.fnOf "_law_parts" "_law_parts" (defArgs s__law_parts) (defBody s__law_parts) (defScope s__law_parts) .none kV23 dc23 pm23 an23 cd23 ct23), sl23⟩)
    (c23 : PySem.W.codeIn K cd23 "_law_parts" = true)
    (k23 : PySem.W.keepIn K (.ref f23) = true)
    (a24 : PySem.W.nsIn K mainGlobals "_law_turn" = some (some (.ref f24)))
    (l24 : K.lookup f24 = some ⟨oc24, od24, .func (PySem.W.fnOf "_law_turn" "_law_turn" (defArgs s__law_turn) (defBody s__law_turn) (defScope s__law_turn) .none kV24 dc24 pm24 an24 cd24 ct24), sl24⟩)
    (c24 : PySem.W.codeIn K cd24 "_law_turn" = true)
    (k24 : PySem.W.keepIn K (.ref f24) = true)
    (a25 : PySem.W.nsIn K mainGlobals "_law_offset" = some (some (.ref f25)))
    (l25 : K.lookup f25 = some ⟨oc25, od25, .func (PySem.W.fnOf "_law_offset" "_law_offset" (defArgs s__law_offset) (defBody s__law_offset) (defScope s__law_offset) .none kV25 dc25 pm25 an25 cd25 ct25), sl25⟩)
    (c25 : PySem.W.codeIn K cd25 "_law_offset" = true)
    (k25 : PySem.W.keepIn K (.ref f25) = true)
    (a26 : PySem.W.nsIn K mainGlobals "_law_is_spot" = some (some (.ref f26)))
    (l26 : K.lookup f26 = some ⟨oc26, od26, .func (PySem.W.fnOf "_law_is_spot" "_law_is_spot" (defArgs s__law_is_spot) (defBody s__law_is_spot) (defScope s__law_is_spot) .none kV26 dc26 pm26 an26 cd26 ct26), sl26⟩)
    (c26 : PySem.W.codeIn K cd26 "_law_is_spot" = true)
    (k26 : PySem.W.keepIn K (.ref f26) = true)
    (a27 : PySem.W.nsIn K mainGlobals "_law_fits" = some (some (.ref f27)))
    (l27 : K.lookup f27 = some ⟨oc27, od27, .func (PySem.W.fnOf "_law_fits" "_law_fits" (defArgs s__law_fits) (defBody s__law_fits) (defScope s__law_fits) .none kV27 dc27 pm27 an27 cd27 ct27), sl27⟩)
    (c27 : PySem.W.codeIn K cd27 "_law_fits" = true)
    (k27 : PySem.W.keepIn K (.ref f27) = true)
    (a28 : PySem.W.nsIn K mainGlobals "_law_told" = some (some (.ref f28)))
    (l28 : K.lookup f28 = some ⟨oc28, od28, .func (PySem.W.fnOf "_law_told" "_law_told" (defArgs s__law_told) (defBody s__law_told) (defScope s__law_told) .none kV28 dc28 pm28 an28 cd28 ct28), sl28⟩)
    (c28 : PySem.W.codeIn K cd28 "_law_told" = true)
    (k28 : PySem.W.keepIn K (.ref f28) = true)
    (a29 : PySem.W.nsIn K mainGlobals "_law_is_taken" = some (some (.ref f29)))
    (l29 : K.lookup f29 = some ⟨oc29, od29, .func (PySem.W.fnOf "_law_is_taken" "_law_is_taken" (defArgs s__law_is_taken) (defBody s__law_is_taken) (defScope s__law_is_taken) .none kV29 dc29 pm29 an29 cd29 ct29), sl29⟩)
    (c29 : PySem.W.codeIn K cd29 "_law_is_taken" = true)
    (k29 : PySem.W.keepIn K (.ref f29) = true)
    (a30 : PySem.W.nsIn K mainGlobals "_law_spot" = some (some (.ref f30)))
    (l30 : K.lookup f30 = some ⟨oc30, od30, .func (PySem.W.fnOf "_law_spot" "_law_spot" (defArgs s__law_spot) (defBody s__law_spot) (defScope s__law_spot) .none kV30 dc30 pm30 an30 cd30 ct30), sl30⟩)
    (c30 : PySem.W.codeIn K cd30 "_law_spot" = true)
    (k30 : PySem.W.keepIn K (.ref f30) = true)
    (a31 : PySem.W.nsIn K mainGlobals "law" = some (some (.ref f31)))
    (l31 : K.lookup f31 = some ⟨oc31, od31, .func (PySem.W.fnOf "law" "law" (defArgs s_law) (defBody s_law) (defScope s_law) .none kV31 dc31 pm31 an31 cd31 ct31), sl31⟩)
    (c31 : PySem.W.codeIn K cd31 "law" = true)
    (k31 : PySem.W.keepIn K (.ref f31) = true)
    (sa1 : PySem.W.nsIn K mainGlobals "Sky" = some (some (.ref s1)))
    (sp1 : PySem.W.plainGet K s1 Str.empty = true)
    (sh1 : PySem.W.hasDictIn K s1 = true)
    (so1 : PySem.W.plainOver K s1 = true)
    (ss1 : PySem.W.findIn K (.ref s1) "__setattr__" = some (some (.builtin "object.__setattr__")))
    (sm1 : PySem.W.makesIn K s1 = true)
    (sk1 : PySem.W.keepIn K (.ref s1) = true)
    (si1 : PySem.W.findIn K (.ref s1) "__init__" = some (some (.ref f7)))
    (sf1 : PySem.W.isFn K (.ref f7) = true)
    (sn1_0 : PySem.W.findIn K (.ref s1) "_side" = some none)
    (sn1_1 : PySem.W.findIn K (.ref s1) "_stars" = some none)
    (sn1_2 : PySem.W.findIn K (.ref s1) "_camera" = some none)
    (pa8 : PySem.W.findIn K (.ref s1) "side" = some (some (.ref g8)))
    (pg8 : PySem.W.specialIn K (.ref g8) "__get__" = some (some (.builtin "property.__get__")))
    (pt8 : PySem.W.takesIn K (.ref g8) = some true)
    (pr8 : PySem.W.recIn K g8 "property" = some (.ref f8 :: rs8))
    (pa9 : PySem.W.findIn K (.ref s1) "reach" = some (some (.ref g9)))
    (pg9 : PySem.W.specialIn K (.ref g9) "__get__" = some (some (.builtin "property.__get__")))
    (pt9 : PySem.W.takesIn K (.ref g9) = some true)
    (pr9 : PySem.W.recIn K g9 "property" = some (.ref f9 :: rs9))
    (pa10 : PySem.W.findIn K (.ref s1) "blur" = some (some (.ref g10)))
    (pg10 : PySem.W.specialIn K (.ref g10) "__get__" = some (some (.builtin "property.__get__")))
    (pt10 : PySem.W.takesIn K (.ref g10) = some true)
    (pr10 : PySem.W.recIn K g10 "property" = some (.ref f10 :: rs10))
    (pa11 : PySem.W.findIn K (.ref s1) "glare" = some (some (.ref g11)))
    (pg11 : PySem.W.specialIn K (.ref g11) "__get__" = some (some (.builtin "property.__get__")))
    (pt11 : PySem.W.takesIn K (.ref g11) = some true)
    (pr11 : PySem.W.recIn K g11 "property" = some (.ref f11 :: rs11))
    (pa12 : PySem.W.findIn K (.ref s1) "limit" = some (some (.ref g12)))
    (pg12 : PySem.W.specialIn K (.ref g12) "__get__" = some (some (.builtin "property.__get__")))
    (pt12 : PySem.W.takesIn K (.ref g12) = some true)
    (pr12 : PySem.W.recIn K g12 "property" = some (.ref f12 :: rs12))
    (ma13 : PySem.W.findIn K (.ref s1) "star_at" = some (some (.ref f13)))
    (mf13 : PySem.W.isFn K (.ref f13) = true)
    (ea1 : PySem.W.nsIn K mainGlobals "InvalidAttitude" = some (some (.ref e1)))
    (ex1 : K.lookup e1 = some (excClassObj enm1 eq1 e1 eN1 ebs1 ebm1 true esn1 esub1 eab1 eco1 edd1 ek1_0 ek1_1 ek1_2 ek1_3 ek1_4 "ValueError.__new__"))
    (er1 : PySem.HandSPX.refsVE ebm1 = true)
    (esa1 : PySem.W.findIn K (.ref e1) "__setattr__" = some (some (.builtin "object.__setattr__")))
    (ega1 : PySem.W.findIn K (.ref e1) "__getattribute__" = some (some (.builtin "BaseException.__getattribute__")))
    (egg1 : PySem.W.findIn K (.ref e1) "__getattr__" = some none)
    (enf1 : PySem.W.findIn K (.ref e1) "attitude" = some none)
    (eic1 : PySem.W.findIn K (.ref e1) "__init__" = some (some (.ref ei1)))
    (etc1 : PySem.W.typeIn K (.ref ei1) = some (.type "function"))
    (ekc1 : PySem.W.keepIn K (.ref e1) = true)
    (exc1 : PySem.W.subIn K (.ref e1) (.type "BaseException") = some true)
    (eve1 : PySem.W.subIn K (.ref e1) (.type "ValueError") = some true)
    (ety1 : PySem.W.typeIn K (.ref e1) = some (.type "type"))
    (ehd1 : PySem.W.hasDictIn K e1 = true)
    (ecl_1 : PySem.W.isClsIn K e1 = true)
    (ess1 : PySem.W.subIn K (.ref e1) (.ref e1) = some true)
    (eal1 : PySem.W.ks_superIn K e1 e1 "__init__" = some (some (.builtin "ValueError.__init__")))
    (ems1 : PySem.W.mroIn K e1 (.ref e1) = some true)
    (elf1 : K.lookup ei1 = some ⟨eoc1, eod1, .func (PySem.W.ksFn "__init__" "InvalidAttitude.__init__" (PySem.SwX.iA "attitude" ⟨13, 17, 13, 21⟩ ⟨13, 23, 13, 31⟩) (PySem.SwX.iB "no attitude of the sky" "attitude" 0 ⟨14, 8, 14, 13⟩ ⟨14, 8, 14, 15⟩ ⟨14, 8, 14, 24⟩ ⟨14, 25, 14, 49⟩ ⟨14, 8, 14, 50⟩ ⟨14, 8, 14, 50⟩ ⟨15, 8, 15, 12⟩ ⟨15, 8, 15, 21⟩ ⟨15, 24, 15, 32⟩ ⟨15, 8, 15, 32⟩) (PySem.SwX.iS "attitude") .none .none edc1 epm1 ean1 (.ref ecd1) ect1 ecc1), eosl1⟩)
    (ecI1 : PySem.W.codeIn K (.ref ecd1) "InvalidAttitude.__init__" = true)
    (ecL1 : K.lookup ecd1 = some ⟨eccl1, ecdd1, .fields evs1, eccs1⟩)
    (ecV1 : evs1[2]? = some (.str efl1 etf1))
    (ecF1 : ((PySem.Challenge.pw_starward_k03_spots_that_fit.main.file : Str) == efl1) = true)
    (ecC1 : K.lookup ecc1 = some ⟨ecl1, ecld1, .cell (some (.ref e1)), ecsl1⟩)
    (ea2 : PySem.W.nsIn K mainGlobals "UnknownStar" = some (some (.ref e2)))
    (ex2 : K.lookup e2 = some (excClassObj enm2 eq2 e2 eN2 ebs2 ebm2 true esn2 esub2 eab2 eco2 edd2 ek2_0 ek2_1 ek2_2 ek2_3 ek2_4 "ValueError.__new__"))
    (er2 : PySem.HandSPX.refsVE ebm2 = true)
    (esa2 : PySem.W.findIn K (.ref e2) "__setattr__" = some (some (.builtin "object.__setattr__")))
    (ega2 : PySem.W.findIn K (.ref e2) "__getattribute__" = some (some (.builtin "BaseException.__getattribute__")))
    (egg2 : PySem.W.findIn K (.ref e2) "__getattr__" = some none)
    (enf2 : PySem.W.findIn K (.ref e2) "number" = some none)
    (eic2 : PySem.W.findIn K (.ref e2) "__init__" = some (some (.ref ei2)))
    (etc2 : PySem.W.typeIn K (.ref ei2) = some (.type "function"))
    (ekc2 : PySem.W.keepIn K (.ref e2) = true)
    (exc2 : PySem.W.subIn K (.ref e2) (.type "BaseException") = some true)
    (eve2 : PySem.W.subIn K (.ref e2) (.type "ValueError") = some true)
    (ety2 : PySem.W.typeIn K (.ref e2) = some (.type "type"))
    (ehd2 : PySem.W.hasDictIn K e2 = true)
    (ecl_2 : PySem.W.isClsIn K e2 = true)
    (ess2 : PySem.W.subIn K (.ref e2) (.ref e2) = some true)
    (eal2 : PySem.W.ks_superIn K e2 e2 "__init__" = some (some (.builtin "ValueError.__init__")))
    (ems2 : PySem.W.mroIn K e2 (.ref e2) = some true)
    (elf2 : K.lookup ei2 = some ⟨eoc2, eod2, .func (PySem.W.ksFn "__init__" "UnknownStar.__init__" (PySem.SwX.iA "number" ⟨18, 17, 18, 21⟩ ⟨18, 23, 18, 29⟩) (PySem.SwX.iB "no star has this number" "number" 0 ⟨19, 8, 19, 13⟩ ⟨19, 8, 19, 15⟩ ⟨19, 8, 19, 24⟩ ⟨19, 25, 19, 50⟩ ⟨19, 8, 19, 51⟩ ⟨19, 8, 19, 51⟩ ⟨20, 8, 20, 12⟩ ⟨20, 8, 20, 19⟩ ⟨20, 22, 20, 28⟩ ⟨20, 8, 20, 28⟩) (PySem.SwX.iS "number") .none .none edc2 epm2 ean2 (.ref ecd2) ect2 ecc2), eosl2⟩)
    (ecI2 : PySem.W.codeIn K (.ref ecd2) "UnknownStar.__init__" = true)
    (ecL2 : K.lookup ecd2 = some ⟨eccl2, ecdd2, .fields evs2, eccs2⟩)
    (ecV2 : evs2[2]? = some (.str efl2 etf2))
    (ecF2 : ((PySem.Challenge.pw_starward_k03_spots_that_fit.main.file : Str) == efl2) = true)
    (ecC2 : K.lookup ecc2 = some ⟨ecl2, ecld2, .cell (some (.ref e2)), ecsl2⟩)
    (eopq : PySem.W.nsIn K cStatics "thirdparty.any" = some none)
    (esup : PySem.W.nsIn K mainGlobals "super" = some none)
    (qa1 : PySem.W.nsIn K mainGlobals "InvalidSky" = some (some (.ref q1)))
    (qx1 : PySem.W.excIn K q1 [.type "ValueError", .type "Exception", .type "BaseException", .type "object"] "ValueError.__new__" = true)
    (qk1 : PySem.W.keepIn K (.ref q1) = true)
    (qs1 : PySem.W.subIn K (.ref q1) (.type "BaseException") = some true)
    (qt1 : PySem.W.typeIn K (.ref q1) = some (.type "type"))
    (qa2 : PySem.W.nsIn K mainGlobals "InvalidSighting" = some (some (.ref q2)))
    (qx2 : PySem.W.excIn K q2 [.type "ValueError", .type "Exception", .type "BaseException", .type "object"] "ValueError.__new__" = true)
    (qk2 : PySem.W.keepIn K (.ref q2) = true)
    (qs2 : PySem.W.subIn K (.ref q2) (.type "BaseException") = some true)
    (qt2 : PySem.W.typeIn K (.ref q2) = some (.type "type"))
    (qi2 : PySem.W.isClsIn K q2 = true)
    (qss2 : PySem.W.subIn K (.ref q2) (.ref q2) = some true)
    (ap0 : PySem.W.subIn K (.ref e2) (.ref e1) = some false)
    (ap1 : PySem.W.subIn K (.ref q2) (.ref e1) = some false)
    (ap2 : PySem.W.subIn K (.ref q2) (.ref e2) = some false)
    (uc0 : PySem.W.nsIn K mainGlobals "MOST_STARS" = some (some (.int 20 ut0)))
    (uc1 : PySem.W.nsIn K mainGlobals "MOST_SPOTS" = some (some (.int 60 ut1)))
    (uc2 : PySem.W.nsIn K mainGlobals "BRIGHTEST" = some (some (.int 9 ut2)))
    (z0 : PySem.W.nsIn K mainGlobals "len" = some none)
    (z1 : PySem.W.nsIn K mainGlobals "abs" = some none)
    (z2 : PySem.W.nsIn K mainGlobals "int" = some none)
    (z3 : PySem.W.nsIn K mainGlobals "max" = some none)
    (z4 : PySem.W.nsIn K mainGlobals "min" = some none)
    (z5 : PySem.W.nsIn K mainGlobals "range" = some none)
    (z6 : PySem.W.nsIn K mainGlobals "list" = some none)
    (z7 : PySem.W.nsIn K mainGlobals "tuple" = some none)
    (z8 : PySem.W.nsIn K mainGlobals "all" = some none)
    (z9 : PySem.W.nsIn K mainGlobals "isinstance" = some none)
    (z10 : PySem.W.nsIn K mainGlobals "sorted" = some none)
    (z11 : PySem.W.nsIn K mainGlobals "set" = some none)
    (z12 : PySem.W.nsIn K mainGlobals "bool" = some none) :
    ∃ fd : FuncData, (∀ (s : Shared) (v : Value), BindsTo s fd ⟨[v], []⟩ [("script", v)]) ∧ ∀ base : Heap, K.In base → base.Ns mainGlobals mg → FnOk PySem.Challenge.pw_starward_k03_spots_that_fit w K mg base CX0 6 fa fd ["script"] (spLaw K) := by
  have e := hfa.symm.trans (PySem.W.mg_of X G a31)
  cases e
  have F1 := fun_mk (st := s_quarter_turned) l1 c1 k1
  have F2 := fun_mk (st := s_is_pose) l2 c2 k2
  have F3 := fun_mk (st := s_is_side) l3 c3 k3
  have F4 := fun_mk (st := s_is_star) l4 c4 k4
  have F5 := fun_mk (st := s_is_camera) l5 c5 k5
  have F6 := fun_mk (st := s__check_sky) l6 c6 k6
  have F7 := fun_mk (st := s_Skyx_initx) l7 c7 k7
  have F8 := fun_mk (st := s_Sky_side) l8 c8 k8
  have F9 := fun_mk (st := s_Sky_reach) l9 c9 k9
  have F10 := fun_mk (st := s_Sky_blur) l10 c10 k10
  have F11 := fun_mk (st := s_Sky_glare) l11 c11 k11
  have F12 := fun_mk (st := s_Sky_limit) l12 c12 k12
  have F13 := fun_mk (st := s_Sky_star_at) l13 c13 k13
  have F14 := fun_mk (st := s_is_spot) l14 c14 k14
  have F15 := fun_mk (st := s_check_sighting) l15 c15 k15
  have F16 := fun_mk (st := s_check_attitude) l16 c16 k16
  have F17 := fun_mk (st := s__offset_of) l17 c17 k17
  have F18 := fun_mk (st := s__nearest) l18 c18 k18
  have F19 := fun_mk (st := s_are_near) l19 c19 k19
  have F20 := fun_mk (st := s_fits) l20 c20 k20
  have F21 := fun_mk (st := s__law_row) l21 c21 k21
  have F22 := fun_mk (st := s__law_numbers) l22 c22 k22
  have F23 := fun_mk (st := s__law_parts) l23 c23 k23
  have F24 := fun_mk (st := s__law_turn) l24 c24 k24
  have F25 := fun_mk (st := s__law_offset) l25 c25 k25
  have F26 := fun_mk (st := s__law_is_spot) l26 c26 k26
  have F27 := fun_mk (st := s__law_fits) l27 c27 k27
  have F28 := fun_mk (st := s__law_told) l28 c28 k28
  have F29 := fun_mk (st := s__law_is_taken) l29 c29 k29
  have F30 := fun_mk (st := s__law_spot) l30 c30 k30
  have F31 := fun_mk (st := s_law) l31 c31 k31
  have T : Txt PySem.Challenge.pw_starward_k03_spots_that_fit K mg { f_quarter_turned := f1, fd_quarter_turned := PySem.W.fnOf "quarter_turned" "quarter_turned" (defArgs s_quarter_turned) (defBody s_quarter_turned) (defScope s_quarter_turned) .none kV1 dc1 pm1 an1 cd1 ct1, f_is_pose := f2, fd_is_pose := PySem.W.fnOf "is_pose" "is_pose" (defArgs s_is_pose) (defBody s_is_pose) (defScope s_is_pose) .none kV2 dc2 pm2 an2 cd2 ct2, f_is_side := f3, fd_is_side := PySem.W.fnOf "is_side" "is_side" (defArgs s_is_side) (defBody s_is_side) (defScope s_is_side) .none kV3 dc3 pm3 an3 cd3 ct3, f_is_star := f4, fd_is_star := PySem.W.fnOf "is_star" "is_star" (defArgs s_is_star) (defBody s_is_star) (defScope s_is_star) .none kV4 dc4 pm4 an4 cd4 ct4, f_is_camera := f5, fd_is_camera := PySem.W.fnOf "is_camera" "is_camera" (defArgs s_is_camera) (defBody s_is_camera) (defScope s_is_camera) .none kV5 dc5 pm5 an5 cd5 ct5, f__check_sky := f6, fd__check_sky := PySem.W.fnOf "_check_sky" "_check_sky" (defArgs s__check_sky) (defBody s__check_sky) (defScope s__check_sky) .none kV6 dc6 pm6 an6 cd6 ct6, f_Skyx_initx := f7, fd_Skyx_initx := PySem.W.fnOf "__init__" "Sky.__init__" (defArgs s_Skyx_initx) (defBody s_Skyx_initx) (defScope s_Skyx_initx) .none kV7 dc7 pm7 an7 cd7 ct7, f_Sky_side := f8, fd_Sky_side := PySem.W.fnOf "side" "Sky.side" (defArgs s_Sky_side) (defBody s_Sky_side) (defScope s_Sky_side) .none kV8 dc8 pm8 an8 cd8 ct8, f_Sky_reach := f9, fd_Sky_reach := PySem.W.fnOf "reach" "Sky.reach" (defArgs s_Sky_reach) (defBody s_Sky_reach) (defScope s_Sky_reach) .none kV9 dc9 pm9 an9 cd9 ct9, f_Sky_blur := f10, fd_Sky_blur := PySem.W.fnOf "blur" "Sky.blur" (defArgs s_Sky_blur) (defBody s_Sky_blur) (defScope s_Sky_blur) .none kV10 dc10 pm10 an10 cd10 ct10, f_Sky_glare := f11, fd_Sky_glare := PySem.W.fnOf "glare" "Sky.glare" (defArgs s_Sky_glare) (defBody s_Sky_glare) (defScope s_Sky_glare) .none kV11 dc11 pm11 an11 cd11 ct11, f_Sky_limit := f12, fd_Sky_limit := PySem.W.fnOf "limit" "Sky.limit" (defArgs s_Sky_limit) (defBody s_Sky_limit) (defScope s_Sky_limit) .none kV12 dc12 pm12 an12 cd12 ct12, f_Sky_star_at := f13, fd_Sky_star_at := PySem.W.fnOf "star_at" "Sky.star_at" (defArgs s_Sky_star_at) (defBody s_Sky_star_at) (defScope s_Sky_star_at) .none kV13 dc13 pm13 an13 cd13 ct13, f_is_spot := f14, fd_is_spot := PySem.W.fnOf "is_spot" "is_spot" (defArgs s_is_spot) (defBody s_is_spot) (defScope s_is_spot) .none kV14 dc14 pm14 an14 cd14 ct14, f_check_sighting := f15, fd_check_sighting := PySem.W.fnOf "check_sighting" "check_sighting" (defArgs s_check_sighting) (defBody s_check_sighting) (defScope s_check_sighting) .none kV15 dc15 pm15 an15 cd15 ct15, f_check_attitude := f16, fd_check_attitude := PySem.W.fnOf "check_attitude" "check_attitude" (defArgs s_check_attitude) (defBody s_check_attitude) (defScope s_check_attitude) .none kV16 dc16 pm16 an16 cd16 ct16, f__offset_of := f17, fd__offset_of := PySem.W.fnOf "_offset_of" "_offset_of" (defArgs s__offset_of) (defBody s__offset_of) (defScope s__offset_of) .none kV17 dc17 pm17 an17 cd17 ct17, f__nearest := f18, fd__nearest := PySem.W.fnOf "_nearest" "_nearest" (defArgs s__nearest) (defBody s__nearest) (defScope s__nearest) .none kV18 dc18 pm18 an18 cd18 ct18, f_are_near := f19, fd_are_near := PySem.W.fnOf "are_near" "are_near" (defArgs s_are_near) (defBody s_are_near) (defScope s_are_near) .none kV19 dc19 pm19 an19 cd19 ct19, f_fits := f20, fd_fits := PySem.W.fnOf "fits" "fits" (defArgs s_fits) (defBody s_fits) (defScope s_fits) .none kV20 dc20 pm20 an20 cd20 ct20, f__law_row := f21, fd__law_row := PySem.W.fnOf "_law_row" "_law_row" (defArgs s__law_row) (defBody s__law_row) (defScope s__law_row) .none kV21 dc21 pm21 an21 cd21 ct21, f__law_numbers := f22, fd__law_numbers := PySem.W.fnOf "_law_numbers" "_law_numbers" (defArgs s__law_numbers) (defBody s__law_numbers) (defScope s__law_numbers) .none kV22 dc22 pm22 an22 cd22 ct22, f__law_parts := f23, fd__law_parts := PySem.W.fnOf "_law_parts" "_law_parts" (defArgs s__law_parts) (defBody s__law_parts) (defScope s__law_parts) .none kV23 dc23 pm23 an23 cd23 ct23, f__law_turn := f24, fd__law_turn := PySem.W.fnOf "_law_turn" "_law_turn" (defArgs s__law_turn) (defBody s__law_turn) (defScope s__law_turn) .none kV24 dc24 pm24 an24 cd24 ct24, f__law_offset := f25, fd__law_offset := PySem.W.fnOf "_law_offset" "_law_offset" (defArgs s__law_offset) (defBody s__law_offset) (defScope s__law_offset) .none kV25 dc25 pm25 an25 cd25 ct25, f__law_is_spot := f26, fd__law_is_spot := PySem.W.fnOf "_law_is_spot" "_law_is_spot" (defArgs s__law_is_spot) (defBody s__law_is_spot) (defScope s__law_is_spot) .none kV26 dc26 pm26 an26 cd26 ct26, f__law_fits := f27, fd__law_fits := PySem.W.fnOf "_law_fits" "_law_fits" (defArgs s__law_fits) (defBody s__law_fits) (defScope s__law_fits) .none kV27 dc27 pm27 an27 cd27 ct27, f__law_told := f28, fd__law_told := PySem.W.fnOf "_law_told" "_law_told" (defArgs s__law_told) (defBody s__law_told) (defScope s__law_told) .none kV28 dc28 pm28 an28 cd28 ct28, f__law_is_taken := f29, fd__law_is_taken := PySem.W.fnOf "_law_is_taken" "_law_is_taken" (defArgs s__law_is_taken) (defBody s__law_is_taken) (defScope s__law_is_taken) .none kV29 dc29 pm29 an29 cd29 ct29, f__law_spot := f30, fd__law_spot := PySem.W.fnOf "_law_spot" "_law_spot" (defArgs s__law_spot) (defBody s__law_spot) (defScope s__law_spot) .none kV30 dc30 pm30 an30 cd30 ct30, f_law := fa, fd_law := PySem.W.fnOf "law" "law" (defArgs s_law) (defBody s_law) (defScope s_law) .none kV31 dc31 pm31 an31 cd31 ct31, c_Sky := s1, g_Sky_side := g8, g_Sky_reach := g9, g_Sky_blur := g10, g_Sky_glare := g11, g_Sky_limit := g12, c_InvalidAttitude := e1, i_InvalidAttitude := ei1, c_UnknownStar := e2, i_UnknownStar := ei2, c_InvalidSky := q1, c_InvalidSighting := q2, u_MOST_STARS := .int 20 ut0, u_MOST_SPOTS := .int 60 ut1, u_BRIGHTEST := .int 9 ut2 } := {
    F_quarter_turned := F1,
    b_quarter_turned := F1.binds (ps := ["quarters", "pair"]) fun _ _ _ _ _ _ us hl => match us, hl with | [_, _], _ => rfl,
    m_quarter_turned := PySem.W.mg_of X G a1,
    F_is_pose := F2,
    b_is_pose := F2.binds (ps := ["side", "told"]) fun _ _ _ _ _ _ us hl => match us, hl with | [_, _], _ => rfl,
    m_is_pose := PySem.W.mg_of X G a2,
    F_is_side := F3,
    b_is_side := F3.binds (ps := ["side"]) fun _ _ _ _ _ _ us hl => match us, hl with | [_], _ => rfl,
    m_is_side := PySem.W.mg_of X G a3,
    F_is_star := F4,
    b_is_star := F4.binds (ps := ["side", "star"]) fun _ _ _ _ _ _ us hl => match us, hl with | [_, _], _ => rfl,
    m_is_star := PySem.W.mg_of X G a4,
    F_is_camera := F5,
    b_is_camera := F5.binds (ps := ["side", "camera"]) fun _ _ _ _ _ _ us hl => match us, hl with | [_, _], _ => rfl,
    m_is_camera := PySem.W.mg_of X G a5,
    F__check_sky := F6,
    b__check_sky := F6.binds (ps := ["side", "stars", "camera"]) fun _ _ _ _ _ _ us hl => match us, hl with | [_, _, _], _ => rfl,
    m__check_sky := PySem.W.mg_of X G a6,
    F_Skyx_initx := F7,
    b_Skyx_initx := F7.binds (ps := ["self", "side", "stars", "camera"]) fun _ _ _ _ _ _ us hl => match us, hl with | [_, _, _, _], _ => rfl,
    F_Sky_side := F8,
    b_Sky_side := F8.binds (ps := ["self"]) fun _ _ _ _ _ _ us hl => match us, hl with | [_], _ => rfl,
    F_Sky_reach := F9,
    b_Sky_reach := F9.binds (ps := ["self"]) fun _ _ _ _ _ _ us hl => match us, hl with | [_], _ => rfl,
    F_Sky_blur := F10,
    b_Sky_blur := F10.binds (ps := ["self"]) fun _ _ _ _ _ _ us hl => match us, hl with | [_], _ => rfl,
    F_Sky_glare := F11,
    b_Sky_glare := F11.binds (ps := ["self"]) fun _ _ _ _ _ _ us hl => match us, hl with | [_], _ => rfl,
    F_Sky_limit := F12,
    b_Sky_limit := F12.binds (ps := ["self"]) fun _ _ _ _ _ _ us hl => match us, hl with | [_], _ => rfl,
    F_Sky_star_at := F13,
    b_Sky_star_at := F13.binds (ps := ["self", "number"]) fun _ _ _ _ _ _ us hl => match us, hl with | [_, _], _ => rfl,
    F_is_spot := F14,
    b_is_spot := F14.binds (ps := ["sky", "spot"]) fun _ _ _ _ _ _ us hl => match us, hl with | [_, _], _ => rfl,
    m_is_spot := PySem.W.mg_of X G a14,
    F_check_sighting := F15,
    b_check_sighting := F15.binds (ps := ["sky", "sighting"]) fun _ _ _ _ _ _ us hl => match us, hl with | [_, _], _ => rfl,
    m_check_sighting := PySem.W.mg_of X G a15,
    F_check_attitude := F16,
    b_check_attitude := F16.binds (ps := ["sky", "attitude"]) fun _ _ _ _ _ _ us hl => match us, hl with | [_, _], _ => rfl,
    m_check_attitude := PySem.W.mg_of X G a16,
    F__offset_of := F17,
    b__offset_of := F17.binds (ps := ["sky", "attitude", "star"]) fun _ _ _ _ _ _ us hl => match us, hl with | [_, _, _], _ => rfl,
    m__offset_of := PySem.W.mg_of X G a17,
    F__nearest := F18,
    b__nearest := F18.binds (ps := ["side", "part"]) fun _ _ _ _ _ _ us hl => match us, hl with | [_, _], _ => rfl,
    m__nearest := PySem.W.mg_of X G a18,
    F_are_near := F19,
    b_are_near := F19.binds (ps := ["one", "other", "blur", "glare"]) fun _ _ _ _ _ _ us hl => match us, hl with | [_, _, _, _], _ => rfl,
    m_are_near := PySem.W.mg_of X G a19,
    F_fits := F20,
    b_fits := F20.binds (ps := ["sky", "attitude", "number", "spot"]) fun _ _ _ _ _ _ us hl => match us, hl with | [_, _, _, _], _ => rfl,
    m_fits := PySem.W.mg_of X G a20,
    F__law_row := F21,
    b__law_row := F21.binds (ps := ["cell", "many"]) fun _ _ _ _ _ _ us hl => match us, hl with | [_, _], _ => rfl,
    m__law_row := PySem.W.mg_of X G a21,
    F__law_numbers := F22,
    b__law_numbers := F22.binds (ps := ["script", "many"]) fun _ _ _ _ _ _ us hl => match us, hl with | [_, _], _ => rfl,
    m__law_numbers := PySem.W.mg_of X G a22,
    F__law_parts := F23,
    b__law_parts := F23.binds (ps := ["numbers", "at", "most"]) fun _ _ _ _ _ _ us hl => match us, hl with | [_, _, _], _ => rfl,
    m__law_parts := PySem.W.mg_of X G a23,
    F__law_turn := F24,
    b__law_turn := F24.binds (ps := ["quarter", "pair"]) fun _ _ _ _ _ _ us hl => match us, hl with | [_, _], _ => rfl,
    m__law_turn := PySem.W.mg_of X G a24,
    F__law_offset := F25,
    b__law_offset := F25.binds (ps := ["parts", "attitude", "star"]) fun _ _ _ _ _ _ us hl => match us, hl with | [_, _, _], _ => rfl,
    m__law_offset := PySem.W.mg_of X G a25,
    F__law_is_spot := F26,
    b__law_is_spot := F26.binds (ps := ["parts", "spot"]) fun _ _ _ _ _ _ us hl => match us, hl with | [_, _], _ => rfl,
    m__law_is_spot := PySem.W.mg_of X G a26,
    F__law_fits := F27,
    b__law_fits := F27.binds (ps := ["parts", "attitude", "star", "spot"]) fun _ _ _ _ _ _ us hl => match us, hl with | [_, _, _, _], _ => rfl,
    m__law_fits := PySem.W.mg_of X G a27,
    F__law_told := F28,
    b__law_told := F28.binds (ps := ["sky", "attitude", "number", "spot"]) fun _ _ _ _ _ _ us hl => match us, hl with | [_, _, _, _], _ => rfl,
    m__law_told := PySem.W.mg_of X G a28,
    F__law_is_taken := F29,
    b__law_is_taken := F29.binds (ps := ["sky", "sighting"]) fun _ _ _ _ _ _ us hl => match us, hl with | [_, _], _ => rfl,
    m__law_is_taken := PySem.W.mg_of X G a29,
    F__law_spot := F30,
    b__law_spot := F30.binds (ps := ["parts", "attitude", "numbers", "at"]) fun _ _ _ _ _ _ us hl => match us, hl with | [_, _, _, _], _ => rfl,
    m__law_spot := PySem.W.mg_of X G a30,
    F_law := F31,
    cl_Sky := ⟨sp1, sh1, so1, ss1⟩,
    m_Sky := PySem.W.mg_of X G sa1,
    M_Sky := ⟨sm1, si1, sf1, sk1⟩,
    n_Sky__side := sn1_0,
    n_Sky__stars := sn1_1,
    n_Sky__camera := sn1_2,
    p_Sky_side := ⟨pa8, pg8, pt8, ⟨_, pr8⟩⟩,
    p_Sky_reach := ⟨pa9, pg9, pt9, ⟨_, pr9⟩⟩,
    p_Sky_blur := ⟨pa10, pg10, pt10, ⟨_, pr10⟩⟩,
    p_Sky_glare := ⟨pa11, pg11, pt11, ⟨_, pr11⟩⟩,
    p_Sky_limit := ⟨pa12, pg12, pt12, ⟨_, pr12⟩⟩,
    t_Sky_star_at := ⟨ma13, mf13, k13⟩,
    S_InvalidAttitude := { gC := PySem.W.mg_of X G ea1, cls := ⟨_, _, _, _, _, _, _, _, _, _, _, _, _, _, _, ex1, er1⟩, sa := esa1, ga := ega1, gg := egg1, noF := enf1, iC := eic1, tC := etc1, kC := ekc1, exC := exc1, veC := eve1, tyC := ety1, hdC := ehd1, te := exm_of exc1 ecl_1 ety1 ess1, al := eal1, self_ := ems1, opq := eopq, nsS := PySem.W.mg_none_of X G esup, okf := by decide +kernel, okc := by decide +kernel, oks := by decide +kernel, okv := by decide +kernel, okd := by decide +kernel, fn := ⟨_, _, _, _, _, _, _, _, _, _, _, _, _, _, _, _, _, _, _, _, _, _, _, _, elf1, ecI1, ⟨_, _, _, _, _, _, ecL1, ecV1, ecF1⟩, ⟨_, _, _, ecC1⟩, fun _ _ => rfl, ⟨_, fun _ => rfl⟩⟩, top := by decide +kernel },
    S_UnknownStar := { gC := PySem.W.mg_of X G ea2, cls := ⟨_, _, _, _, _, _, _, _, _, _, _, _, _, _, _, ex2, er2⟩, sa := esa2, ga := ega2, gg := egg2, noF := enf2, iC := eic2, tC := etc2, kC := ekc2, exC := exc2, veC := eve2, tyC := ety2, hdC := ehd2, te := exm_of exc2 ecl_2 ety2 ess2, al := eal2, self_ := ems2, opq := eopq, nsS := PySem.W.mg_none_of X G esup, okf := by decide +kernel, okc := by decide +kernel, oks := by decide +kernel, okv := by decide +kernel, okd := by decide +kernel, fn := ⟨_, _, _, _, _, _, _, _, _, _, _, _, _, _, _, _, _, _, _, _, _, _, _, _, elf2, ecI2, ⟨_, _, _, _, _, _, ecL2, ecV2, ecF2⟩, ⟨_, _, _, ecC2⟩, fun _ _ => rfl, ⟨_, fun _ => rfl⟩⟩, top := by decide +kernel },
    E_InvalidSky := ⟨PySem.W.mg_of X G qa1, qx1, qk1, qs1, qt1⟩,
    E_InvalidSighting_te := exm_of qs2 qi2 qt2 qss2,
    E_InvalidSighting := ⟨PySem.W.mg_of X G qa2, qx2, qk2, qs2, qt2⟩,
    x_UnknownStar_InvalidAttitude := exm_of exc1 ecl_1 ety1 ap0,
    x_InvalidSighting_InvalidAttitude := exm_of exc1 ecl_1 ety1 ap1,
    x_InvalidSighting_UnknownStar := exm_of exc2 ecl_2 ety2 ap2,
    m_MOST_STARS := PySem.W.mg_of X G uc0,
    v_MOST_STARS := ⟨_, rfl⟩,
    m_MOST_SPOTS := PySem.W.mg_of X G uc1,
    v_MOST_SPOTS := ⟨_, rfl⟩,
    m_BRIGHTEST := PySem.W.mg_of X G uc2,
    v_BRIGHTEST := ⟨_, rfl⟩,
    z_len := PySem.W.mg_none_of X G z0,
    z_abs := PySem.W.mg_none_of X G z1,
    z_int := PySem.W.mg_none_of X G z2,
    z_max := PySem.W.mg_none_of X G z3,
    z_min := PySem.W.mg_none_of X G z4,
    z_range := PySem.W.mg_none_of X G z5,
    z_list := PySem.W.mg_none_of X G z6,
    z_tuple := PySem.W.mg_none_of X G z7,
    z_all := PySem.W.mg_none_of X G z8,
    z_isinstance := PySem.W.mg_none_of X G z9,
    z_sorted := PySem.W.mg_none_of X G z10,
    z_set := PySem.W.mg_none_of X G z11,
    z_bool := PySem.W.mg_none_of X G z12 }
  exact ⟨_, fun s v => .of_eq rfl, fun base _ _ => ok_law T⟩
end SwT
open PySem PySem.W PyProof.Rows
set_option maxRecDepth 100000 in
set_option maxHeartbeats 0 in
theorem PySem.Challenge.cw_starward_k03_spots_that_fit_holds : PySem.Challenge.rw_starward_k03_spots_that_fit.Holds := by
  w_on; o_law; k_head; (case hw => w_witness2)
  k_fill
  refine L2.walk_of (l := PySem.Challenge.rw_starward_k03_spots_that_fit) (n := 63) (k := 6) (x := "script") (CX := fun _ => L2.CX0) (sp := fun w => Sw.spLaw _) rfl (by decide) rfl ⟨rfl, by decide, by decide⟩ (fun w h Y => PySem.W.kIn_of Y) ?F (fun _ _ a ns hl _ hS => ⟨a, ns, rfl, hS, hl, fun _ => rfl⟩) (fun _ _ _ _ _ h => h)
  case F =>
    intro w mg fa h KX G hmg
    refine' SwT.all_mk KX G hmg ?a1 ?l1 ?c1 ?k1 ?a2 ?l2 ?c2 ?k2 ?a3 ?l3 ?c3 ?k3 ?a4 ?l4 ?c4 ?k4 ?a5 ?l5 ?c5 ?k5 ?a6 ?l6 ?c6 ?k6 ?l7 ?c7 ?k7 ?l8 ?c8 ?k8 ?l9 ?c9 ?k9 ?l10 ?c10 ?k10 ?l11 ?c11 ?k11 ?l12 ?c12 ?k12 ?l13 ?c13 ?k13 ?a14 ?l14 ?c14 ?k14 ?a15 ?l15 ?c15 ?k15 ?a16 ?l16 ?c16 ?k16 ?a17 ?l17 ?c17 ?k17 ?a18 ?l18 ?c18 ?k18 ?a19 ?l19 ?c19 ?k19 ?a20 ?l20 ?c20 ?k20 ?a21 ?l21 ?c21 ?k21 ?a22 ?l22 ?c22 ?k22 ?a23 ?l23 ?c23 ?k23 ?a24 ?l24 ?c24 ?k24 ?a25 ?l25 ?c25 ?k25 ?a26 ?l26 ?c26 ?k26 ?a27 ?l27 ?c27 ?k27 ?a28 ?l28 ?c28 ?k28 ?a29 ?l29 ?c29 ?k29 ?a30 ?l30 ?c30 ?k30 ?a31 ?l31 ?c31 ?k31 ?sa1 ?sp1 ?sh1 ?so1 ?ss1 ?sm1 ?sk1 ?si1 ?sf1 ?sn1_0 ?sn1_1 ?sn1_2 ?pa8 ?pg8 ?pt8 ?pr8 ?pa9 ?pg9 ?pt9 ?pr9 ?pa10 ?pg10 ?pt10 ?pr10 ?pa11 ?pg11 ?pt11 ?pr11 ?pa12 ?pg12 ?pt12 ?pr12 ?ma13 ?mf13 ?ea1 ?ex1 ?er1 ?esa1 ?ega1 ?egg1 ?enf1 ?eic1 ?etc1 ?ekc1 ?exc1 ?eve1 ?ety1 ?ehd1 ?ecl_1 ?ess1 ?eal1 ?ems1 ?elf1 ?ecI1 ?ecL1 ?ecV1 ?ecF1 ?ecC1 ?ea2 ?ex2 ?er2 ?esa2 ?ega2 ?egg2 ?enf2 ?eic2 ?etc2 ?ekc2 ?exc2 ?eve2 ?ety2 ?ehd2 ?ecl_2 ?ess2 ?eal2 ?ems2 ?elf2 ?ecI2 ?ecL2 ?ecV2 ?ecF2 ?ecC2 ?eopq ?esup ?qa1 ?qx1 ?qk1 ?qs1 ?qt1 ?qa2 ?qx2 ?qk2 ?qs2 ?qt2 ?qi2 ?qss2 ?ap0 ?ap1 ?ap2 ?uc0 ?uc1 ?uc2 ?z0 ?z1 ?z2 ?z3 ?z4 ?z5 ?z6 ?z7 ?z8 ?z9 ?z10 ?z11 ?z12
    (case a1 => k_is)
    (case a2 => k_is)
    (case a3 => k_is)
    (case a4 => k_is)
    (case a5 => k_is)
    (case a6 => k_is)
    (case a14 => k_is)
    (case a15 => k_is)
    (case a16 => k_is)
    (case a17 => k_is)
    (case a18 => k_is)
    (case a19 => k_is)
    (case a20 => k_is)
    (case a21 => k_is)
    (case a22 => k_is)
    (case a23 => k_is)
    (case a24 => k_is)
    (case a25 => k_is)
    (case a26 => k_is)
    (case a27 => k_is)
    (case a28 => k_is)
    (case a29 => k_is)
    (case a30 => k_is)
    (case a31 => k_is)
    (case sa1 => k_is)
    (case pa8 => k_is)
    (case pa9 => k_is)
    (case pa10 => k_is)
    (case pa11 => k_is)
    (case pa12 => k_is)
    (case ea1 => k_is)
    (case ea2 => k_is)
    (case qa1 => k_is)
    (case qa2 => k_is)
    (case uc0 => k_is)
    (case uc1 => k_is)
    (case uc2 => k_is)
    (case si1 => k_is)
    (case pr8 => k_is)
    (case pr9 => k_is)
    (case pr10 => k_is)
    (case pr11 => k_is)
    (case pr12 => k_is)
    (case ma13 => k_is)
    (case eic1 => k_is)
    (case eic2 => k_is)
    (case elf1 => k_is)
    (case elf2 => k_is)
    (case l1 => k_is)
    (case c1 => k_is)
    (case k1 => k_is)
    (case l2 => k_is)
    (case c2 => k_is)
    (case k2 => k_is)
    (case l3 => k_is)
    (case c3 => k_is)
    (case k3 => k_is)
    (case l4 => k_is)
    (case c4 => k_is)
    (case k4 => k_is)
    (case l5 => k_is)
    (case c5 => k_is)
    (case k5 => k_is)
    (case l6 => k_is)
    (case c6 => k_is)
    (case k6 => k_is)
    (case l7 => k_is)
    (case c7 => k_is)
    (case k7 => k_is)
    (case l8 => k_is)
    (case c8 => k_is)
    (case k8 => k_is)
    (case l9 => k_is)
    (case c9 => k_is)
    (case k9 => k_is)
    (case l10 => k_is)
    (case c10 => k_is)
    (case k10 => k_is)
    (case l11 => k_is)
    (case c11 => k_is)
    (case k11 => k_is)
    (case l12 => k_is)
    (case c12 => k_is)
    (case k12 => k_is)
    (case l13 => k_is)
    (case c13 => k_is)
    (case k13 => k_is)
    (case l14 => k_is)
    (case c14 => k_is)
    (case k14 => k_is)
    (case l15 => k_is)
    (case c15 => k_is)
    (case k15 => k_is)
    (case l16 => k_is)
    (case c16 => k_is)
    (case k16 => k_is)
    (case l17 => k_is)
    (case c17 => k_is)
    (case k17 => k_is)
    (case l18 => k_is)
    (case c18 => k_is)
    (case k18 => k_is)
    (case l19 => k_is)
    (case c19 => k_is)
    (case k19 => k_is)
    (case l20 => k_is)
    (case c20 => k_is)
    (case k20 => k_is)
    (case l21 => k_is)
    (case c21 => k_is)
    (case k21 => k_is)
    (case l22 => k_is)
    (case c22 => k_is)
    (case k22 => k_is)
    (case l23 => k_is)
    (case c23 => k_is)
    (case k23 => k_is)
    (case l24 => k_is)
    (case c24 => k_is)
    (case k24 => k_is)
    (case l25 => k_is)
    (case c25 => k_is)
    (case k25 => k_is)
    (case l26 => k_is)
    (case c26 => k_is)
    (case k26 => k_is)
    (case l27 => k_is)
    (case c27 => k_is)
    (case k27 => k_is)
    (case l28 => k_is)
    (case c28 => k_is)
    (case k28 => k_is)
    (case l29 => k_is)
    (case c29 => k_is)
    (case k29 => k_is)
    (case l30 => k_is)
    (case c30 => k_is)
    (case k30 => k_is)
    (case l31 => k_is)
    (case c31 => k_is)
    (case k31 => k_is)
    (case sp1 => k_is)
    (case sh1 => k_is)
    (case so1 => k_is)
    (case ss1 => k_is)
    (case sm1 => k_is)
    (case sk1 => k_is)
    (case sf1 => k_is)
    (case sn1_0 => k_is)
    (case sn1_1 => k_is)
    (case sn1_2 => k_is)
    (case pg8 => k_is)
    (case pt8 => k_is)
    (case pg9 => k_is)
    (case pt9 => k_is)
    (case pg10 => k_is)
    (case pt10 => k_is)
    (case pg11 => k_is)
    (case pt11 => k_is)
    (case pg12 => k_is)
    (case pt12 => k_is)
    (case mf13 => k_is)
    (case ex1 => k_is)
    (case er1 => decide +kernel)
    (case esa1 => k_is)
    (case ega1 => k_is)
    (case egg1 => k_is)
    (case enf1 => k_is)
    (case etc1 => k_is)
    (case ekc1 => k_is)
    (case exc1 => k_is)
    (case eve1 => k_is)
    (case ety1 => k_is)
    (case ehd1 => k_is)
    (case ecl_1 => k_is)
    (case ess1 => first | rfl | k_is)
    (case eal1 => first | k_is | ks_is)
    (case ems1 => k_is)
    (case ecI1 => k_is)
    (case ecL1 => k_is)
    (case ecV1 => rfl)
    (case ecF1 => decide +kernel)
    (case ecC1 => k_is)
    (case ex2 => k_is)
    (case er2 => decide +kernel)
    (case esa2 => k_is)
    (case ega2 => k_is)
    (case egg2 => k_is)
    (case enf2 => k_is)
    (case etc2 => k_is)
    (case ekc2 => k_is)
    (case exc2 => k_is)
    (case eve2 => k_is)
    (case ety2 => k_is)
    (case ehd2 => k_is)
    (case ecl_2 => k_is)
    (case ess2 => first | rfl | k_is)
    (case eal2 => first | k_is | ks_is)
    (case ems2 => k_is)
    (case ecI2 => k_is)
    (case ecL2 => k_is)
    (case ecV2 => rfl)
    (case ecF2 => decide +kernel)
    (case ecC2 => k_is)
    (case eopq => k_is)
    (case esup => k_is)
    (case qx1 => k_exc)
    (case qk1 => k_is)
    (case qs1 => k_is)
    (case qt1 => k_is)
    (case qx2 => k_exc)
    (case qk2 => k_is)
    (case qs2 => k_is)
    (case qt2 => k_is)
    (case qi2 => k_is)
    (case qss2 => first | rfl | k_is)
    (case ap0 => k_is)
    (case ap1 => k_is)
    (case ap2 => k_is)
    (case z0 => k_is)
    (case z1 => k_is)
    (case z2 => k_is)
    (case z3 => k_is)
    (case z4 => k_is)
    (case z5 => k_is)
    (case z6 => k_is)
    (case z7 => k_is)
    (case z8 => k_is)
    (case z9 => k_is)
    (case z10 => k_is)
    (case z11 => k_is)
    (case z12 => k_is)
#print axioms PySem.Challenge.cw_starward_k03_spots_that_fit_holds

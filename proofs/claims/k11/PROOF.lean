import PyProof.Rows.All
import Wide.All
import OpenK.AllK
import Wide.FinOn
import KE.KExcSuper
import HandS.ForMost
import HandS.ForExc
import HandS.Property
import HandS.Codes
import HandS.TryMany
import HandS.Strs
import HandS.Deep
import HandS.IsInst
import HandS.TupSets
import HandS.Flt
import HandS.TryOnly
import HandS.TupAny
import HandS.Style
import HandS.Iter
import HandS.Walk
import HandS.Dict
import HandS.Conv
import HandS.Call
import HandS.Exc
import HandS.ExcValue
import HandS.ExcInit
import HandS.DictComp
import HandS.NoneIn
import HandS.SetKeys
import PyProof.TupleOfSeq
import KE.KSortTupG
import PyProof.CallFns
import HandS.SetBool
import PySem.Challenge.RW_starward_k11_least_lots
set_option Elab.async false
set_option linter.all false
set_option maxRecDepth 100000
set_option maxHeartbeats 4000000
set_option Elab.async false
set_option linter.all false
set_option maxRecDepth 100000
set_option maxHeartbeats 4000000
/-! An error class of the program over ValueError, at any depth, whose making says super's making of a text and keeps one field. -/
namespace PySem
namespace SwX
open PySem.W PySem.Calls PyProof.Rows PySem.HandSPX
def iA (fld : Str) (p1 p2 : Pos) : Arguments := { posonlyargs := [], args := [{ arg := "self", annotation := none, pos := p1 }, { arg := fld, annotation := none, pos := p2 }], vararg := none, kwonlyargs := [], kw_defaults := [], kwarg := none, defaults := [] }
def iB (txt fld : Str) (kx : Nat) (q1 q2 q3 q4 q5 q6 r1 r2 r3 r4 : Pos) : List Stmt :=
  [.Expr (.Call (.Attribute (.Call (.Name "super" q1) [] [] q2) "__init__" q3) [.Constant (.str txt) kx q4] [] q5) q6, .Assign [.Attribute (.Name "self" r1) fld r2] (.Name fld r3) r4]
def iS (fld : Str) : Scope := { kind := .function, names := [(PySem.Str.ofString "self", .local), (fld, .local), (PySem.Str.ofString "__class__", .free), (PySem.Str.ofString "super", .globalImplicit)], isGenerator := false, isCoroutine := false, more := [] }
/-- the call of super's making, read step by step -/
def SupEv (txt : Str) (kx : Nat) (q1 q2 q3 q4 q5 : Pos) : Prop := ∃ pl : Env → Sem Bool, ∀ env : Env, eval (.Call (.Attribute (.Call (.Name "super" q1) [] [] q2) "__init__" q3) [.Constant (.str txt) kx q4] [] q5) env = (do
    let ov ← attributeBase (.Call (.Name "super" q1) [] [] q2) "__init__" env (eval (.Call (.Name "super" q1) [] [] q2) env)
    standAt q3.atName
    let (f, first) ← holding [ov] (getMethod ov "__init__" (pl env))
    callWith q5 f first (backTo q5 (starEach [.Constant (.str txt) kx q4] env)) [])
example : SupEv "no attitude" 0 ⟨27, 8, 27, 13⟩ ⟨27, 8, 27, 15⟩ ⟨27, 8, 27, 24⟩ ⟨27, 25, 27, 49⟩ ⟨27, 8, 27, 50⟩ := ⟨_, fun _ => rfl⟩
structure SErr (P : Program) (K : Frag) (mg : Str → Option Value) (x fld : Str) (C fI : Addr) : Prop where
  gC : mg x = some (.ref C)
  cls : ∃ nm q N bs bm sn sub ab col dd k0 k1 k2 k3 k5, K.lookup C = some (excClassObj nm q C N bs bm true sn sub ab col dd k0 k1 k2 k3 k5 "ValueError.__new__") ∧ refsVE bm = true
  sa : findIn K (.ref C) "__setattr__" = some (some (.builtin "object.__setattr__"))
  ga : findIn K (.ref C) "__getattribute__" = some (some (.builtin "BaseException.__getattribute__"))
  gg : findIn K (.ref C) "__getattr__" = some none
  noF : findIn K (.ref C) fld = some none
  iC : findIn K (.ref C) "__init__" = some (some (.ref fI))
  tC : typeIn K (.ref fI) = some (.type "function")
  kC : keepIn K (.ref C) = true
  exC : subIn K (.ref C) (.type "BaseException") = some true
  veC : subIn K (.ref C) (.type "ValueError") = some true
  tyC : typeIn K (.ref C) = some (.type "type")
  hdC : hasDictIn K C = true
  te : exmOne K (.ref C) (.ref C) = some true
  al : ks_superIn K C C "__init__" = some (some (.builtin "ValueError.__init__"))
  self_ : mroIn K C (.ref C) = some true
  opq : nsIn K cStatics "thirdparty.any" = some none
  nsS : mg "super" = none
  okf : (fld == ("self" : Str)) = false
  okc : (("__class__" : Str) == fld) = false
  oks : (("super" : Str) == fld) = false
  okv : (("self" : Str) == fld) = false
  okd : (fld == ("__debug__" : Str)) = false
  fn : ∃ (oc : Value) (od : Option Addr) (doc pm : Value) (an : Option Addr) (cda cc : Addr) (ct : Value) (qual txt : Str) (kx : Nat) (osl : Array (Option Value)) (p1 p2 q1 q2 q3 q4 q5 q6 r1 r2 r3 r4 : Pos),
    K.lookup fI = some ⟨oc, od, .func (ksFn "__init__" qual (iA fld p1 p2) (iB txt fld kx q1 q2 q3 q4 q5 q6 r1 r2 r3 r4) (iS fld) .none .none doc pm an (.ref cda) ct cc), osl⟩ ∧ codeIn K (.ref cda) qual = true ∧
    (∃ ccl cdd vs ccs file tf, K.lookup cda = some ⟨ccl, cdd, .fields vs, ccs⟩ ∧ vs[2]? = some (.str file tf) ∧ ((P.main.file : Str) == file) = true) ∧
    (∃ cl cld csl, K.lookup cc = some ⟨cl, cld, .cell (some (.ref C)), csl⟩) ∧
    (∀ (x : Addr) (v : Value), bindArgs (ksFn "__init__" qual (iA fld p1 p2) (iB txt fld kx q1 q2 q3 q4 q5 q6 r1 r2 r3 r4) (iS fld) .none .none doc pm an (.ref cda) ct cc) ⟨[.ref x, v], []⟩ = pure [(("self" : Str), Value.ref x), (fld, v)]) ∧ SupEv txt kx q1 q2 q3 q4 q5
  top : (P.main.scope.names.lookup ("super" : Str)).isSome = false
theorem one_size (v : Value) : [v].length ≤ sizeLine := by
  rw [sizeLine_eq]
  exact (by decide : 1 ≤ 16777216)
/-- what the making leaves of a fresh exception at x -/
structure InitEnd (h h' : Heap) (x C dx t1 : Addr) (fld : Str) (v : Value) : Prop where
  keep : ∀ b o, b ≠ x → h.get? b = some o → h'.get? b = some o
  obj : h'.get? x = some { cls := .ref C, dict := some dx, data := .fields #[.ref t1, .none, .none, .none, .bool false, .none] }
  dbig : h.objs.size ≤ dx
  dne : dx ≠ x
  ns : h'.Ns1 dx (fun y => if y = fld then some v else none)
structure OwnMade (h h' : Heap) (e C d : Addr) (fld : Str) (v : Value) : Prop where
  keep : ∀ b o, h.get? b = some o → h'.get? b = some o
  new : h.objs.size ≤ e
  obj : ∃ t1 : Addr, h'.get? e = some ({ cls := .ref C, dict := some d, data := .fields #[.ref t1, .none, .none, .none, .bool false, .none] } : Obj)
  dbig : h.objs.size ≤ d
  dne : d ≠ e
  ns : h'.Ns1 d (fun y => if y = fld then some v else none)
section
variable {prog : Program} {w : World} {A : Around} {E : Value → Shared → Prop} {R : Result → Shared → Prop} {s : Shared} {K : Frag} {mg mb : Str → Option Value} {C fI : Addr} {xn fld : Str}
theorem sup_init (T : SErr prog K mg xn fld C fI) {x t0 : Addr} {v : Value} (X : K.In s.heap) (hlim : s.heap.NoLimit) (hg : s.heap.Ns mainGlobals mg) (hb : s.heap.Ns builtinsNs mb) (hbs : mb "super" = bootBuiltins "super")
    (hx : s.heap.get? x = some (excO C t0)) (hnx : K.lookup x = none) (hroom : A.depth < recursionLimit)
    (hq : ∀ h' tk dx t1, InitEnd s.heap h' x C dx t1 fld v → R (.ok (.ret .none)) { s with heap := h', toks := tk }) :
    codeAny (model prog w) A (.call (.ref fI) ⟨[.ref x, v], []⟩) R s := by
  obtain ⟨oc, od, doc, pm, an, cda, cc, ct, qual, txt, kx, osl, p1, p2, q1, q2, q3, q4, q5, q6, r1, r2, r3, r4, ho, hcd, ⟨ccl, cdd, vs, ccs, file, tf, hcode, hvs, hfile⟩, ⟨cl, cld, csl, hcell⟩, hbnd, ⟨pl, hev⟩⟩ := T.fn
  obtain ⟨nm, q, N, bs, bm, sn, sub, ab, col, dd, k0, k1, k2, k3, k5, hC, hbm⟩ := T.cls
  have hcl : clsIn K C = some { name := nm, bases := bs, mro := .ref C :: bm, ns := N, qualname := q, hasDict := true, slotNames := sn, subclasses := sub, abstract := ab, collection := col, hasDel := false } := by unfold clsIn; rw [hC] <;> rfl
  have hf1 : fld ≠ "self" := by simpa using T.okf
  have hlk : (iS fld).names.lookup fld = some .local := by
    show (List.lookup fld [(PySem.Str.ofString "self", NameKind.local), (fld, .local), (PySem.Str.ofString "__class__", .free), (PySem.Str.ofString "super", .globalImplicit)]) = some .local
    rw [List.lookup_cons]
    rw [show (fld == PySem.Str.ofString "self") = false from T.okf]
    simp
  have hkS : (iS fld).names.lookup ("super" : Str) = some .globalImplicit := by
    show (List.lookup ("super" : Str) [(PySem.Str.ofString "self", NameKind.local), (fld, .local), (PySem.Str.ofString "__class__", .free), (PySem.Str.ofString "super", .globalImplicit)]) = some .globalImplicit
    rw [List.lookup_cons, show (("super" : Str) == PySem.Str.ofString "self") = false by decide +kernel]
    simp only
    rw [List.lookup_cons, T.oks]
    rfl
  have hkC : (iS fld).names.lookup ("__class__" : Str) = some .free := by
    show (List.lookup ("__class__" : Str) [(PySem.Str.ofString "self", NameKind.local), (fld, .local), (PySem.Str.ofString "__class__", .free), (PySem.Str.ofString "super", .globalImplicit)]) = some .free
    rw [List.lookup_cons, show (("__class__" : Str) == PySem.Str.ofString "self") = false by decide +kernel]
    simp only
    rw [List.lookup_cons, T.okc]
    rfl
  have hself : List.lookup ("self" : Str) [(("self" : Str), Value.ref x), (fld, v)].reverse = some (Value.ref x) := by
    show List.lookup ("self" : Str) [(fld, v), (("self" : Str), Value.ref x)] = some (Value.ref x)
    rw [List.lookup_cons, T.okv]
    rfl
  have hfld : List.lookup fld [(("self" : Str), Value.ref x), (fld, v)].reverse = some v := by
    show List.lookup fld [(fld, v), (("self" : Str), Value.ref x)] = some v
    rw [List.lookup_cons, show (fld == fld) = true by simp]
  refine ks_codeAny_call_defAt (fd := ksFn "__init__" qual (iA fld p1 p2) (iB txt fld kx q1 q2 q3 q4 q5 q6 r1 r2 r3 r4) (iS fld) .none .none doc pm an (.ref cda) ct cc) (body := iB txt fld kx q1 q2 q3 q4 q5 q6 r1 r2 r3 r4) (binds := [(("self" : Str), Value.ref x), (fld, v)]) hroom (X _ _ ho) rfl hlim (codeRec_of X hcd) rfl
    (BindsTo.of_eq (hbnd x v)) ?_ ?_ (fun h₁ hn hk₁ => ?_) rfl rfl rfl
  · intro y hy
    simp only [iS, List.mem_cons, List.not_mem_nil, or_false] at hy
    rcases hy with rfl | rfl | rfl | rfl <;> simp
  · intro y hy
    rcases List.mem_cons.mp hy with rfl | hy
    · rfl
    rcases List.mem_cons.mp hy with rfl | hy
    · exact hlk
    · cases hy
  · have X₁ : K.In h₁ := X.keeps hk₁
    have hx₁ := hk₁ _ _ hx
    have hL : s.heap.objs.size ≠ x := Nat.ne_of_gt (Heap.lt_size hx)
    obtain ⟨hp, g, d, t, os⟩ := s
    obtain ⟨oD, hD1, hD2⟩ : ∃ oD, h₁.get? C = some oD ∧ oD.data = .cls { name := nm, bases := bs, mro := .ref C :: bm, ns := N, qualname := q, hasDict := true, slotNames := sn, subclasses := sub, abstract := ab, collection := col, hasDel := false } := ⟨_, X₁ _ _ hC, rfl⟩
    have xC : x ≠ C := fun z => by
      rw [z, X₁ _ _ hC] at hx₁
      cases hx₁
    refine ks_wpAt_execs_cons (ks_wpAt_Expr_any (ks_wpAt_MethodCall ?_ (hev _)))
    refine ks_wpAt_super_base (oc := ⟨ccl, cdd, .fields vs, ccs⟩) hkS hkC rfl rfl (X₁ _ _ ho) rfl rfl rfl (X₁ _ _ hcode) rfl hvs hfile T.top ?_
    refine ks_loadName_global rfl hkS (loadGlobal_builtin (hg.keeps hk₁) T.nsS (hb.keeps hk₁) (hbs.trans (by decide +kernel)) ⟨rfl, ?_⟩)
    refine wpAny_loadName_free rfl hkC rfl ⟨_, X₁ _ _ hcell, rfl⟩ ?_
    refine wpAny_loadName_local rfl rfl hn (v := .ref x) hself ?_
    refine ks_wpAny_isType_cls hD1 hD2 ⟨rfl, ?_⟩
    refine ks_wpAny_call_super hD1 hD2 hx₁ rfl (fun c e => by cases e) (looks_mroIn X₁ T.self_) (fun h2 e2 k2 => ?_)
    have X2 : K.In h2 := X₁.keeps k2
    have hx2 := k2 _ _ hx₁
    have I2 : InstAt h2 x (excO C t0) C none := ⟨hx2, rfl, rfl, trivial⟩
    refine kxs_getMethod kxs_ValueError e2 (looks_opaque X2 T.opq) (l₀ := .ref C :: bm) (fun A Q E s k q => wpAny_bind ((looks_clsIn X2 hcl) A _ E s k (wpAny_pure q))) rfl X2 ?_ (I2.type.andThen (looks_subIn X2 T.veC)) xC rfl ?_
    · have z := T.al
      unfold ks_superIn at z
      rw [hcl] at z
      exact z
    -- the wrapper is called with the text
    have hu0 : (h2.push (kxs_mw "ValueError.__init__" x)).get? h2.objs.size = some (kxs_mw "ValueError.__init__" x) := Heap.get?_push_at rfl rfl
    have k3 : ∀ b o, h2.get? b = some o → (h2.push (kxs_mw "ValueError.__init__" x)).get? b = some o := fun b o e => Heap.get?_push_of_some _ e
    refine kxs_callWith (i := "ValueError.__init__") (x := x) (by rfl) ?_
    refine evalArgs_plain ?_
    refine Calls.spliced_cons ?_
    show wpAny _ _ (eval (.Constant (.str txt) kx q4) _) _ _ _
    refine Calls.Constant_str ?_
    refine Calls.spliced_nil ⟨hu0, ?_⟩
    refine wpAny_call (codeAny_of_tree ?_)
    show wpAny _ _ (callAny (.ref h2.objs.size) ⟨[Value.str txt _], []⟩) _ _ _
    simp only [callAny]
    refine wpAny_bind (wpAny_load hu0 ?_)
    simp only [kxs_mw, show (Value.type "method-wrapper" == Value.type "method" || Value.type "method-wrapper" == Value.type "builtin_function_or_method" || Value.type "method-wrapper" == Value.type "method-wrapper") = true by decide, if_true]
    refine KFB.if_so (by decide) ?_
    refine wpAny_bind (check_bound_init F.excBase_ValueError.toExcCallFacts (k3 _ _ (X2 _ _ hC)) (k3 _ _ hx2) rfl ?_)
    refine wpAny_bind (wpAny_pure (wpAny_pure ?_))
    refine ⟨plainId_quiet F.excBase_ValueError.init.plain _, codeAny_builtin F.excBase_ValueError.initEntry ?_⟩
    refine exc_init_tree (cls := .ref C) (t0 := t0) (dv := none) (c2 := .none) (c3 := .none) (b4 := .bool false) (k3 _ _ hx2) (one_size _) (fun h4 k4 e4 t4 => ?_)
    -- self.fld = fld
    show wpAt _ _ _ (execs _ _) _ _ _
    have up : ∀ b o, b ≠ x → h₁.get? b = some o → h4.get? b = some o := fun b o hb e => k4 b o hb (k3 _ _ (k2 _ _ e))
    have X4 : K.In h4 := fun b o e => up b o (fun z => by rw [z, hnx] at e; cases e) (X₁ _ _ e)
    have hn4 : h4.Ns hp.objs.size (fun y => List.lookup y [(("self" : Str), Value.ref x), (fld, v)].reverse) := hn.at (fun o e => up _ o hL e)
    refine ks_wpAt_execs_cons (ks_wpAt_Assign_Attr (wpAt_of_wpAny (wpAny_Name (wpAny_loadName_local rfl hlk hn4 hfld (wpAny_Name (wpAny_loadName_local rfl rfl hn4 hself ?_) rfl)) ?_)))
    · refine set_plain X4 (ox := excO C _) (od := none) ⟨e4, rfl, rfl, trivial⟩ T.sa ?_
      refine exc_osa X4 e4 hcl (show refsVE (.ref C :: bm) = true from hbm) rfl T.noF (fun h5 tk5 dx k5 dn dne hx5 hn5 => ?_)
      show wpAt _ _ _ (execs _ _) _ _ _
      have z : hp.objs.size < h4.objs.size := hn4.lt
      exact wpAt_of_wpAny (wpAny_execs_nil (hq h5 tk5 dx _ ⟨fun b o hb e => k5 b o hb (up b o hb (hk₁ b o e)), hx5, Nat.le_of_lt (Nat.lt_of_lt_of_le z dn), dne, hn5⟩))
    · exact T.okd
theorem sup_made (T : SErr prog K mg xn fld C fI) {v : Value} (X : K.In s.heap) (hlim : s.heap.NoLimit) (hg : s.heap.Ns mainGlobals mg) (hb : s.heap.Ns builtinsNs mb) (hbs : mb "super" = bootBuiltins "super") (hroom : A.depth + 1 < recursionLimit)
    (hq : ∀ h' tk e d, OwnMade s.heap h' e C d fld v → R (.ok (.ret (.ref e))) { s with heap := h', toks := tk }) :
    codeAny (model prog w) A (.call (.ref C) ⟨[v], []⟩) R s := by
  obtain ⟨nm, q, N, bs, bm, sn, sub, ab, col, dd, k0, k1, k2, k3, k5, hC, hbm⟩ := T.cls
  obtain ⟨hp, g, dr, tk, os⟩ := s
  have k : ∀ b o, hp.get? b = some o → ((hp.push (kdv_tup [v])).push (excO C hp.objs.size)).get? b = some o := fun b o e => Heap.get?_push_of_some _ (Heap.get?_push_of_some _ e)
  have hget : ((hp.push (kdv_tup [v])).push (excO C hp.objs.size)).get? (hp.objs.size + 1) = some (excO C hp.objs.size) := by heap_get
  have hnx : K.lookup (hp.objs.size + 1) = none := by
    cases e : K.lookup (hp.objs.size + 1) with
    | none => rfl
    | some o =>
      have z : hp.get? (hp.objs.size + 1) = some o := X _ _ e
      exact absurd (Nat.lt_of_succ_lt (Heap.lt_size z)) (Nat.lt_irrefl _)
  refine call_own F.excBase_ValueError (fun Y => refsVE_contains Y bm hbm) (X _ _ hC) (looks_findIn X T.iC) (fun self => bind_fn X self T.tC) (one_size v) ?_
  refine sup_init (s := ⟨(hp.push (kdv_tup [v])).push (excO C hp.objs.size), g, dr, tk, os⟩) T (X.keeps k) (hlim.keeps k) (hg.keeps k) (hb.keeps k) hbs hget hnx ?_ fun h' tk' dx t1 ⟨k', hx, dn, dne, hns⟩ => ?_
  · show A.depth + 1 < recursionLimit
    exact hroom
  · have old : ∀ b o, hp.get? b = some o → h'.get? b = some o := fun b o e => k' b o (Nat.ne_of_lt (Nat.lt_succ_of_lt (Heap.lt_size e))) (k b o e)
    have z : hp.objs.size + 1 + 1 ≤ dx := by
      first
        | (simpa only [Heap.size_push] using dn)
        | exact dn
        | (have q := dn; rw [Heap.size_push, Heap.size_push] at q; exact q)
    exact ⟨rfl, hq h' tk' (hp.objs.size + 1) dx ⟨old, Nat.le_succ _, ⟨_, hx⟩, Nat.le_trans (Nat.le_trans (Nat.le_succ _) (Nat.le_succ _)) z, dne, hns⟩⟩

end
end SwX
end PySem
namespace L2
open PySem PySem.Spec PyProof.Rows
theorem relO_one {f g : Str} {v : V} {u : Value} (r : RelV v u) : RelO (List.lookup g [(f, v)]) (if g = f then some u else none) := by
  by_cases hw : g = f
  · subst hw
    rw [if_pos rfl, show List.lookup g [(g, v)] = some v by simp [List.lookup]]
    exact r
  · rw [if_neg hw, show List.lookup g [(f, v)] = none by
      have qw : (g == f) = false := by simpa using hw
      simp [List.lookup, qw]]
    trivial
section
variable {X : Cx} {C fI : Addr} {xn fld : Str}
/-- X(e), X such a class: its own dict d, new, keeps the field -/
def tMkS (C : Addr) (fld : Str) (ta : TA) : St → Hp → XK → Prop := fun σ H Q => ta σ H fun vs H1 => ∃ v, vs = [v] ∧ ∀ d, H1 d = none → Q (.ref C) (some d) (upd H1 d (.xd [(fld, v)]))
theorem pmk_sup {a : Expr} {ta : TA} {p pos : Pos} {k : Nat} (T : PySem.SwX.SErr X.prog X.K X.mg xn fld C fI) (hr : Room k X.A) (ha : PA X [a] ta) (hg : Gl X xn := by rfl) (hdb : (xn == ("__debug__" : Str)) = false := by decide)
    (he : starEach (a :: []) X.env = (false, eval a X.env) :: starEach [] X.env := by rfl) (hpl : (backTo pos (starEach [] X.env)).any (·.1) = false := by rfl) :
    PMk X (.Call (.Name xn p) [a] [] pos) (tMkS C fld ta) := by
  intro pins s σ H Q I h
  refine wpAny_Call_Name_kw (ld_glob I hg T.gC ?_ hdb)
  refine PySem.W.callWith_K (h₀ := X.base) I.ok.mod.kin T.kC (thn (ha.run pos pins s σ H _ I h) fun us s1 hh => ?_) he hpl
  obtain ⟨vs, H1, I1, r1, v, ev, q1⟩ := hh
  subst ev
  refine ⟨I1.kIn, ?_⟩
  cases r1 with
  | cons rv rn =>
    rename_i v' us'
    cases rn
    show wpAny _ _ (call (.ref C) [v']) _ _ _
    have hlim := I1.nolimit
    obtain ⟨mb, hb1, hb2⟩ := I1.mod.blt
    have hgl := I1.mod.glob.keeps I1.bk
    have hbl := hb1.keeps I1.bk
    have hkin := I1.kIn
    obtain ⟨hp, g, dr, tk, os⟩ := s1
    refine wpAny_call (PySem.SwX.sup_made T hkin hlim hgl hbl (hb2 _ (by decide)) (by have := hr.dp; omega) fun h' tk' e d M => ?_)
    show MkP X pins σ Q (.ref e) ⟨h', g, dr, tk', os⟩
    obtain ⟨t1, hoe⟩ := M.obj
    have hns := M.ns
    obtain ⟨G', g1, g2⟩ := restrict h' fun b => decide (b ≠ e)
    have gk : ∀ b, b ≠ e → G'.get? b = h'.get? b := fun b hb => g1 b (decide_eq_true hb)
    have ge : G'.get? e = none := g2 e (by simp)
    have old : ∀ b o, hp.get? b = some o → G'.get? b = some o := fun b o q => (gk b (Nat.ne_of_lt (Nat.lt_of_lt_of_le (Heap.lt_size q) M.new))).trans (M.keep b o q)
    have ob : ObjOk X.prog X.w (upd H1 d (.xd [(fld, v)])) G' d (.xd [(fld, v)]) :=
      ⟨_, hns.at (fun o q => (gk d M.dne).trans q), fun f => relO_one rv⟩
    have J : Inv X pins σ (upd H1 d (.xd [(fld, v)])) ⟨G', g, dr, tk', os⟩ := I1.laid (t' := tk') old M.dbig ob
    refine ⟨e, _, _, ⟨G', g, dr, tk', os⟩, _, .ref C, some d, rfl, J, fun b o q => ?_, ge, hoe, ⟨rfl, rfl⟩, rfl, rfl, ?_, rfl, I1.bare, raises_own T.exC T.tyC, q1 d (I1.hok.fresh M.dbig)⟩
    · by_cases hb : b = e
      · have q' : G'.get? b = some o := q
        rw [hb, ge] at q'; cases q'
      · exact (gk b hb).symm.trans q
    · rw [upd_ne (Ne.symm M.dne)]
      exact I1.hok.fresh M.new
/-- raise X(e) -/
def tRaiseS (C : Addr) (fld : Str) (W : WX) (ta : TA) : TS := fun _ σ H => tMkS C fld ta σ H fun cls d H' => W cls d σ H'
theorem ps_raiseS {a : Expr} {ta : TA} {W : WX} {p pos pos2 : Pos} {k : Nat} (hc : X.calm = true) (T : PySem.SwX.SErr X.prog X.K X.mg xn fld C fI) (hr : Room k X.A) (tk : Takes X W) (ha : PA X [a] ta) (hg : Gl X xn := by rfl) (hdb : (xn == ("__debug__" : Str)) = false := by decide)
    (he : starEach (a :: []) X.env = (false, eval a X.env) :: starEach [] X.env := by rfl) (hpl : (backTo pos (starEach [] X.env)).any (·.1) = false := by rfl) :
    PS X (.Raise (some (.Call (.Name xn p) [a] [] pos)) none pos2) (tRaiseS C fld W ta) := ps_raise hc tk (pmk_sup T hr ha hg hdb he hpl)
/-- n.fld, n the exception that the suite holds (at a; its class cls, its dict d) -/
def tErrFld (C : Addr) (fld : Str) (a : Addr) (cls : Value) (d : Option Addr) (te : TE) : TE := fun σ H Q => te σ H fun x H1 => x = .ref a ∧ cls = .ref C ∧ ∃ (dd : Addr) (v : V), d = some dd ∧ H1 dd = some (.xd [(fld, v)]) ∧ Q v H1
theorem pe_errFld {a : Addr} {oe : Obj} {cls : Value} {d : Option Addr} {pn : List (Addr × Obj)} {e : Expr} {te : TE} {pos : Pos} (T : PySem.SwX.SErr X.prog X.K X.mg xn fld C fI) (hz : Zc cls d oe) (hf : ∃ vs, oe.data = .fields vs) (he : PE (X.suite a ((a, oe) :: pn)) e te)
    (hb : attributeBase e fld X.env (eval e X.env) = eval e X.env := by rfl) :
    PE (X.suite a ((a, oe) :: pn)) (.Attribute e fld pos) (tErrFld C fld a cls d te) := by
  refine ⟨fun pins s σ H Q I h => ?_⟩
  refine attr_of hb (thn (he.run pins s σ H _ I h) fun u s1 hh => ?_)
  obtain ⟨x, H1, I1, rx, ex, ec, dd, v, ed, ea, q⟩ := hh
  subst ex
  obtain rfl : u = Value.ref a := rx
  subst ec
  subst ed
  obtain ⟨ha, _⟩ := I1.pin (a, oe) (List.mem_append_left _ List.mem_cons_self)
  obtain ⟨vs, hd⟩ := hf
  have hx : ObjOk X.prog X.w H1 s1.heap dd (.xd [(fld, v)]) := I1.hok dd _ ea
  obtain ⟨mA, hns, hr⟩ := hx
  obtain ⟨od, ho, hl⟩ := lookIn_ns hns
  have l : List.lookup fld [(fld, v)] = some v := by simp [List.lookup]
  obtain ⟨u, hu, ru⟩ := RelO.some_of (v := v) (o := mA fld) (by rw [← l]; exact hr fld)
  have J : PySem.W.InstAt s1.heap a oe C (some od) := ⟨ha, hz.1, by unfold PySem.W.notCls; rw [hd] <;> rfl, by rw [hz.2]; exact ho⟩
  exact HandSPX.exc_get I1.kIn J T.ga T.gg T.exC (PySem.W.findObj_own T.hdC T.noF rfl (by rw [hl, hu])) (handed_of ru) ⟨v, H1, I1.tok _, ru, q⟩
end
end L2
set_option Elab.async false
set_option linter.all false
set_option maxRecDepth 100000
set_option maxHeartbeats 4000000
/-! try with several clauses that all hand the error to one name. -/
namespace L2
open PySem PySem.Spec PyProof.Rows
/-- what follows a suite: the name is gone again -/
def noName (i : Nat) (D : Ends) : Ends := { nx := fun σ' H' => D.nx (σ'.set i none) H', rt := D.rt, bk := fun σ' H' => D.bk (σ'.set i none) H', ct := fun σ' H' => D.ct (σ'.set i none) H' }
abbrev ClauseT := Value × Bool × (Addr → Value → Option Addr → TS)
def wEach (K : PySem.W.Frag) (i : Nat) (Wout : WX) (D : Ends) : List ClauseT → WX
  | [] => Wout
  | (c, true, ts) :: r => fun cls d σ H => ∃ b, PySem.W.exmOne K cls c = some b ∧ (b = true → ∀ a, H a = none → ts a cls d (noName i D) (σ.set i (some (.ref a))) H) ∧ (b = false → wEach K i Wout D r cls d σ H)
  | (c, false, ts) :: r => fun cls d σ H => ∃ b, PySem.W.exmOne K cls c = some b ∧ (b = true → ∀ a, H a = none → ts a cls d D σ H) ∧ (b = false → wEach K i Wout D r cls d σ H)
inductive Clauses (X : Cx) (n : Str) : List ExceptHandler → List ClauseT → Prop
  | nil : Clauses X n [] []
  | cons {x : Str} {c : Value} {ts : Addr → Value → Option Addr → TS} {b₀ : Stmt} {suite : List Stmt} {np pos' : Pos} {hds : List ExceptHandler} {l : List ClauseT} (hc : Names X x c)
      (hsu : ∀ (a : Addr) (oe : Obj) (cls : Value) (d : Option Addr) (pn : List (Addr × Obj)), Zc cls d oe → (∃ vs, oe.data = .fields vs) → PSs (X.suite a ((a, oe) :: pn)) (b₀ :: suite) (ts a cls d)) (r : Clauses X n hds l) :
      Clauses X n (.ExceptHandler (some (.Name x np)) (some n) (b₀ :: suite) pos' :: hds) ((c, true, ts) :: l)
  | bare {x : Str} {c : Value} {ts : Addr → Value → Option Addr → TS} {b₀ : Stmt} {suite : List Stmt} {np pos' : Pos} {hds : List ExceptHandler} {l : List ClauseT} (hc : Names X x c)
      (hsu : ∀ (a : Addr) (oe : Obj) (cls : Value) (d : Option Addr) (pn : List (Addr × Obj)), Zc cls d oe → (∃ vs, oe.data = .fields vs) → PSs (X.suite a ((a, oe) :: pn)) (b₀ :: suite) (ts a cls d)) (r : Clauses X n hds l) :
      Clauses X n (.ExceptHandler (some (.Name x np)) none (b₀ :: suite) pos' :: hds) ((c, false, ts) :: l)
section
variable {X : Cx} {n : Str} {i : Nat} {body : List Stmt} {h₀ : ExceptHandler} {hds : List ExceptHandler} {l : List ClauseT} {pos : Pos} {tb : WX → TS} {Wout : WX}
/-- the clauses, one after the other, at an error that was met -/
theorem each_ok (hN : X.N.Nodup) (hi : X.N[i]? = some n) (hln : X.env.kindOf n = some .local) (hf : X.env.frame = some X.env.locals) (hs : X.stack = X.env :: X.outer) (tk : Takes X Wout) (ok : X.Ok)
    {a : Addr} {B : Heap} {cls : Value} {d : Option Addr} {pins : List (Addr × Obj)} {σ' : St} {H' : Hp} {D : Ends} {sI s' : Shared} {h3 : Heap} (J : Inv X pins σ' H' sI) (nb : ∀ b o, sI.heap.get? b = some o → b ∉ frs X.stack → B.get? b = some o)
    (up : sI.heap.UpToSlots s'.heap) (up3 : s'.heap.UpToSlots h3) (na : H' a = none) (os : s'.os = sI.os) (ag : AllBare s'.gens)
    (fl3 : HandSPX.FlyingZ B (X.env :: X.outer) a (Zc cls d) h3) (nL : a ≠ X.env.locals) (nF : a ∉ X.fs) : ∀ {hs' : List ExceptHandler} {l' : List ClauseT}, Clauses X n hs' l' → wEach X.K i Wout D l' cls d σ' H' →
      wpAny (model X.prog X.w) X.A (handleBy (.ref a) X.env hs') (SP X pins D) X.xe { s' with heap := h3 } := by
  have J3 : Inv X pins σ' H' { s' with heap := h3 } := J.landed nb fl3.1 (up.trans up3) os ag
  obtain ⟨oe3, vs3, he3, hz3, hd3⟩ := fl3.there
  have S3 := J3.suite he3 hd3 na nL nF
  intro hs' l' hk
  induction hk with
  | nil =>
    intro w
    apply wpAny_handleBy_nil
    obtain ⟨k1, k2, k3, oe, vs, T, oT, ts', he, hz, hd, h1, hr⟩ := id fl3
    unfold PySem.passOn
    apply wpAny_bind
    refine wpAny_field he hd h1 ?_
    rw [if_neg (show ¬ ((Value.ref T == Value.none) = true) from by simp)]
    have fin : wpAny (model X.prog X.w) X.A (setFlight (.ref a) X.env.frame) (fun _ s4 => wpAny (model X.prog X.w) X.A (throw (.ref a) : Sem Flow) (SP X pins D) X.xe s4) X.xe { s' with heap := h3 } := by
      rw [hf]
      refine HandSPX.setFlight_upZ fl3 fun h4 hh4 up4 => wpAny_throw (tk _ _ ?_)
      refine ⟨a, B, sI, pins, σ', H', cls, d, rfl, J, nb, (up.trans up3).trans up4, .inr (.inr ?_), na, os, ag, w⟩
      rw [hs]
      exact hh4
    first
      | exact wpAny_bind (wpAny_pure (wpAny_bind fin))
      | exact wpAny_bind fin
  | @cons x c ts b₀ suite np pos' hds2 l2 hc hsu r ih =>
    rintro ⟨b, hb1, hyes, hno⟩
    refine wpAny_handleBy_cons (codeAny_handlers_test ?_) (by intro q; cases q)
    have LT : PySem.W.Looks (model X.prog X.w) h3 (typeOf (.ref a)) cls := fun A Q E s k q => wpAny_typeOf_ref (k _ _ he3) (by rw [hz3.1]; exact q)
    have LM := PySem.W.exm_one (M := model X.prog X.w) (J3.kIn) LT hb1
    have test : ∀ {Q : Value → Shared → Prop} {E : Value → Shared → Prop}, Q c { s' with heap := h3 } → wpAny (model X.prog X.w) (X.A.mark (some (.ref a))) (eval (.Name x np) X.env) Q E { s' with heap := h3 } := by
      intro Q E q
      obtain ⟨hg, hdbg, hm | ⟨hm, hv, hnn⟩⟩ := hc
      · exact ld_glob (X := X.suite a ((a, oe3) :: (X.pn ++ pins))) S3 hg hm q hdbg
      · exact ld_blt (X := X.suite a ((a, oe3) :: (X.pn ++ pins))) S3 hg hm hv q hnn hdbg
    refine test (LM.here ?_)
    cases b with
    | false =>
      show wpAny _ X.A (handleBy (.ref a) X.env hds2) _ _ _
      exact ih (hno rfl)
    | true =>
      apply codeAny_handlers_suite_as
      refine HandSPX.lands_againZ fl3 fun h4 fl4 up4 => ?_
      have J4 : Inv X pins σ' H' { s' with heap := h4 } := J.landed nb fl4.1 ((up.trans up3).trans up4) os ag
      obtain ⟨oe4, vs4, he4, hz4, hd4⟩ := fl4.there
      have S4 := J4.suite he4 hd4 na nL nF
      refine store_ok (X := X.suite a ((a, oe4) :: (X.pn ++ pins))) (v := .ref a) S4 hN hi (.inl hln) rfl (fun s5 S5 => ?_) (.inr hln)
      have run := (hsu a oe4 cls d (X.pn ++ pins) hz4 ⟨_, hd4⟩).run [] s5 _ H' _ S5 (hyes rfl a na)
      refine wpAny_mono run (fun f s6 hsp => ?_) (fun _ _ z => z.elim)
      have gone : ∀ {σ6 : St} {H6 : Hp} {Q : Shared → Prop}, Inv (X.suite a ((a, oe4) :: (X.pn ++ pins))) [] σ6 H6 s6 → (∀ s7, Inv X pins (σ6.set i none) H6 s7 → Q s7) →
          wpAny (model X.prog X.w) X.A (do bindName X.env n .none; unbindBehindTheSuite X.env n pos') (fun _ s7 => Q s7) X.xe s6 := fun S6 hq => gone_ok (S6.unsuite ok) hN hi hln hq
      cases f with
      | ret u =>
        obtain ⟨v6, σ6, H6, S6, r6, q6⟩ := hsp
        exact gone S6 fun s7 J7 => ⟨_, _, _, J7, r6, q6⟩
      | next =>
        obtain ⟨σ6, H6, S6, q6⟩ := hsp
        exact gone S6 fun s7 J7 => ⟨_, _, J7, q6⟩
      | brk =>
        obtain ⟨σ6, H6, S6, q6⟩ := hsp
        exact gone S6 fun s7 J7 => ⟨_, _, J7, q6⟩
      | cont =>
        obtain ⟨σ6, H6, S6, q6⟩ := hsp
        exact gone S6 fun s7 J7 => ⟨_, _, J7, q6⟩
  | @bare x c ts b₀ suite np pos' hds2 l2 hc hsu r ih =>
    rintro ⟨b, hb1, hyes, hno⟩
    refine wpAny_handleBy_cons (codeAny_handlers_test ?_) (by intro q; cases q)
    have LT : PySem.W.Looks (model X.prog X.w) h3 (typeOf (.ref a)) cls := fun A Q E s k q => wpAny_typeOf_ref (k _ _ he3) (by rw [hz3.1]; exact q)
    have LM := PySem.W.exm_one (M := model X.prog X.w) (J3.kIn) LT hb1
    have test : ∀ {Q : Value → Shared → Prop} {E : Value → Shared → Prop}, Q c { s' with heap := h3 } → wpAny (model X.prog X.w) (X.A.mark (some (.ref a))) (eval (.Name x np) X.env) Q E { s' with heap := h3 } := by
      intro Q E q
      obtain ⟨hg, hdbg, hm | ⟨hm, hv, hnn⟩⟩ := hc
      · exact ld_glob (X := X.suite a ((a, oe3) :: (X.pn ++ pins))) S3 hg hm q hdbg
      · exact ld_blt (X := X.suite a ((a, oe3) :: (X.pn ++ pins))) S3 hg hm hv q hnn hdbg
    refine test (LM.here ?_)
    cases b with
    | false =>
      show wpAny _ X.A (handleBy (.ref a) X.env hds2) _ _ _
      exact ih (hno rfl)
    | true =>
      apply codeAny_handlers_suite
      refine HandSPX.lands_againZ fl3 fun h4 fl4 up4 => ?_
      have J4 : Inv X pins σ' H' { s' with heap := h4 } := J.landed nb fl4.1 ((up.trans up3).trans up4) os ag
      obtain ⟨oe4, vs4, he4, hz4, hd4⟩ := fl4.there
      have S4 := J4.suite he4 hd4 na nL nF
      have run := (hsu a oe4 cls d (X.pn ++ pins) hz4 ⟨_, hd4⟩).run [] _ _ H' _ S4 (hyes rfl a na)
      refine wpAny_mono run (fun f s6 hsp => ?_) (fun _ _ z => z.elim)
      cases f with
      | ret u =>
        obtain ⟨v6, σ6, H6, S6, r6, q6⟩ := hsp
        exact ⟨_, _, _, S6.unsuite ok, r6, q6⟩
      | next =>
        obtain ⟨σ6, H6, S6, q6⟩ := hsp
        exact ⟨_, _, S6.unsuite ok, q6⟩
      | brk =>
        obtain ⟨σ6, H6, S6, q6⟩ := hsp
        exact ⟨_, _, S6.unsuite ok, q6⟩
      | cont =>
        obtain ⟨σ6, H6, S6, q6⟩ := hsp
        exact ⟨_, _, S6.unsuite ok, q6⟩
/-- the reading of such a try, and of one with a single clause -/
def tTryEach (K : PySem.W.Frag) (i : Nat) (l : List ClauseT) (Wout : WX) (tb : WX → TS) : TS := fun D σ H => tb (wEach K i Wout D l) D σ H
def tTryAs (K : PySem.W.Frag) (c : Value) (i : Nat) (ts : Addr → Value → Option Addr → TS) (Wout : WX) (tb : WX → TS) : TS := fun D σ H => tb (wAs K c i ts Wout D) D σ H
theorem ps_try_one {x : Str} {c : Value} {b₀ : Stmt} {suite : List Stmt} {np pos' : Pos} {ts : Addr → Value → Option Addr → TS} (hs : X.stack = X.env :: X.outer) (hf : X.env.frame = some X.env.locals) (hN : X.N.Nodup) (hi : X.N[i]? = some n) (hln : X.env.kindOf n = some .local) (hc : Names X x c) (tk : Takes X Wout)
    (hb : ∀ (W : WX) (pn : List (Addr × Obj)) (xe : Value → Shared → Prop), Takes (X.tr pn xe) W → PassesOwn (model X.prog X.w) X.A X.env xe → PSs (X.tr pn xe) body (tb W))
    (hsu : ∀ (a : Addr) (oe : Obj) (cls : Value) (d : Option Addr) (pn : List (Addr × Obj)), Zc cls d oe → (∃ vs, oe.data = .fields vs) → PSs (X.suite a ((a, oe) :: pn)) (b₀ :: suite) (ts a cls d)) :
    PS X (.Try body [.ExceptHandler (some (.Name x np)) (some n) (b₀ :: suite) pos'] [] [] pos) (tTryAs X.K c i ts Wout tb) := ps_try_as hs hf hN hi hln hc tk hb hsu
theorem ps_try_each (hs : X.stack = X.env :: X.outer) (hf : X.env.frame = some X.env.locals) (hN : X.N.Nodup) (hi : X.N[i]? = some n) (hln : X.env.kindOf n = some .local) (tk : Takes X Wout)
    (hb : ∀ (W : WX) (pn : List (Addr × Obj)) (xe : Value → Shared → Prop), Takes (X.tr pn xe) W → PassesOwn (model X.prog X.w) X.A X.env xe → PSs (X.tr pn xe) body (tb W))
    (hh : Clauses X n (h₀ :: hds) l) : PS X (.Try body (h₀ :: hds) [] [] pos) (tTryEach X.K i l Wout tb) := by
  constructor
  intro pins s σ H D I h
  have ok := I.ok
  have hfr : X.A.frames = some (X.env :: X.outer) := by rw [ok.frames, hs]
  apply wpAny_Try_except
  have run := (hb (wEach X.K i Wout D l) (X.pn ++ pins) (fun e s₁ => wpAny (model X.prog X.w) X.A (noteFrame e X.env) (fun _ s₂ => wpAny (model X.prog X.w) X.A (setFlight e none) (fun _ s₃ =>
    wpAny (model X.prog X.w) X.A (handleBy e X.env (h₀ :: hds)) (SP X pins D) X.xe s₃) X.xe s₂) X.xe s₁) (fun u s' xx => ?_) PassesOwn.looking).run [] s σ H D (I.toTry _) h
  · refine wpAny_mono run (fun f s1 hsp => ?_) (fun e s1 he => he)
    cases f with
    | ret u =>
      obtain ⟨v, σ', H', J', r, q⟩ := hsp
      exact ⟨v, σ', H', J'.ofTry ok, r, q⟩
    | next =>
      obtain ⟨σ', H', J', q⟩ := hsp
      exact wpAny_execs_nil ⟨σ', H', J'.ofTry ok, q⟩
    | brk =>
      obtain ⟨σ', H', J', q⟩ := hsp
      exact ⟨σ', H', J'.ofTry ok, q⟩
    | cont =>
      obtain ⟨σ', H', J', q⟩ := hsp
      exact ⟨σ', H', J'.ofTry ok, q⟩
  · obtain ⟨a, B, sI, pins', σ', H', cls, d, rfl, J', nb, up, sky, na, os, ag, w⟩ := xx
    have J : Inv X pins σ' H' sI := J'.ofTry ok
    have sky' : Sky B (X.env :: X.outer) a (Zc cls d) X.env.locals s'.heap := by rw [← hs]; exact sky
    show wpAny (model X.prog X.w) X.A (noteFrame (.ref a) X.env) _ _ _
    refine Sky.land Zc.steady hfr hf sky' fun h3 fl3 up3 => ?_
    obtain ⟨oe3, vs3, he3, hz3, hd3⟩ := fl3.there
    have nfr : a ∉ frs (X.env :: X.outer) := fun hm => by
      obtain ⟨_, o', e', hnf⟩ := Heap.FunFrames.mem fl3.2.2.1 hm
      rw [he3] at e'
      cases e'
      exact hnf _ hd3
    have nL : a ≠ X.env.locals := fun z => nfr (List.mem_filterMap.mpr ⟨X.env, List.mem_cons_self, by rw [hf, z]⟩)
    have nF : a ∉ X.fs := fun hm => by
      obtain ⟨e, he, q⟩ := List.mem_filterMap.mp hm
      exact nfr (List.mem_filterMap.mpr ⟨e, List.mem_cons_of_mem _ he, q⟩)
    exact each_ok hN hi hln hf hs tk ok J nb up up3 na os ag fl3 nL nF hh w
end
end L2
set_option Elab.async false
set_option linter.all false
set_option maxRecDepth 100000
set_option maxHeartbeats 4000000
/-! What every text here shares: heaps that only grow, data that stay, the drawn numbers. -/
namespace Sw
open PySem PySem.Spec PyProof.Rows L2
theorem same_new {H : Hp} {p : Addr} {o : HO} (h : H p = none) : Same H (upd H p o) := fun b x e => by
  rw [upd_ne (ne_of_none e h)]
  exact e
theorem sqT_up {K : PySem.W.Frag} {H H' : Hp} {a : Addr} {xs : List V} (s : Same H H') (h : SqT K H a xs) : SqT K H' a xs := by
  rcases h with (h | ⟨o, h⟩) | h
  · exact .inl (.inl (s _ _ h))
  · exact .inl (.inr ⟨o, s _ _ h⟩)
  · exact .inr h
mutual
theorem dp_up {K : PySem.W.Frag} {H H' : Hp} (s : Same H H') : ∀ {v : V} {d : PyData}, Dp K H v d → Dp K H' v d
  | _, _, .non => .non
  | _, _, .bl b => .bl b
  | _, _, .int i => .int i
  | _, _, .str x => .str x
  | _, _, .lst q r => .lst (s.seq q) (dpAll_up s r)
  | _, _, .tup q r => .tup (sqT_up s q) (dpAll_up s r)
theorem dpAll_up {K : PySem.W.Frag} {H H' : Hp} (s : Same H H') : ∀ {vs : List V} {ds : List PyData}, DpAll K H vs ds → DpAll K H' vs ds
  | _, _, .nil => .nil
  | _, _, .cons q r => .cons (dp_up s q) (dpAll_up s r)
end
/-- a new tuple, told by what stays true -/
theorem tup_new {K : PySem.W.Frag} {H : Hp} {xs : List V} {Q : V → Hp → Prop} (h : ∀ (p : Addr) (H' : Hp), Same H H' → SqT K H' p xs → Q (.ref p) H') : ∀ p, H p = none → Q (.ref p) (upd H p (.tup xs)) :=
  fun p hp => h p _ (same_new hp) (.inl (.inl upd_same))
theorem lst_new {K : PySem.W.Frag} {H : Hp} {xs : List V} {Q : V → Hp → Prop} (h : ∀ (p : Addr) (H' : Hp), H p = none → Same H H' → H' p = some (.lst xs) → SqL K H' p xs → Q (.ref p) H') : ∀ p, H p = none → Q (.ref p) (upd H p (.lst xs)) :=
  fun p hp => h p _ hp (same_new hp) upd_same (.inl (.inl upd_same))
/-- one list of ours changed: all that stood before it was made stands -/
theorem same_put {H H1 : Hp} {p : Addr} {o : HO} (h0 : H p = none) (s : Same H H1) : Same H (upd H1 p o) := fun b x e => by
  rw [upd_ne (ne_of_none e h0)]
  exact s b x e
def Num (n : Int) : Prop := 0 ≤ n ∧ n < 1009
theorem sizeN {n : Nat} (h : n ≤ 200000) : n < sizeLine := Nat.lt_of_le_of_lt h (by decide)
theorem map_at {ns : List Int} {i : Nat} {x : V} (h : (ns.map V.int)[i]? = some x) : ∃ z, ns[i]? = some z ∧ x = V.int z := by
  rw [List.getElem?_map] at h
  cases e : ns[i]? with
  | none => rw [e] at h; cases h
  | some z => rw [e] at h; exact ⟨z, rfl, (Option.some.inj h).symm⟩
/-- law's row: a list of so many drawn numbers -/
def spRow (K : PySem.W.Frag) : Sp := fun vs H Q _ => ∃ c many : Int, vs = [.int c, .int many] ∧ 0 ≤ many ∧ many ≤ 2000 ∧
  ∀ (H' : Hp) (p : Addr) (ns : List Int), Same H H' → H p = none → H' p = some (.lst (ns.map V.int)) → (ns.length : Int) = many → (∀ n ∈ ns, Num n) → Q (.ref p) H'
def spNums (K : PySem.W.Frag) : Sp := fun vs H Q _ => ∃ (a : Addr) (xs : List Int) (many : Int), vs = [.ref a, .int many] ∧ SqL K H a (xs.map V.int) ∧ xs.length ≤ 63 ∧ 0 ≤ many ∧ many ≤ 1900 ∧
  ∀ (H' : Hp) (p : Addr) (ns : List Int), Same H H' → H p = none → H' p = some (.lst (ns.map V.int)) → (ns.length : Int) = many → (∀ n ∈ ns, Num n) → Q (.ref p) H'
end Sw
namespace Sw
open PySem PySem.Spec PyProof.Rows L2
/-- an error class over ValueError that keeps nothing of its own -/
structure PlainErr (K : PySem.W.Frag) (mg : Str → Option Value) (x : Str) (C : Addr) : Prop where
  g : mg x = some (.ref C)
  x : PySem.W.excIn K C [.type "ValueError", .type "Exception", .type "BaseException", .type "object"] "ValueError.__new__" = true
  k : PySem.W.keepIn K (.ref C) = true
  b : PySem.W.subIn K (.ref C) (.type "BaseException") = some true
  t : PySem.W.typeIn K (.ref C) = some (.type "type")
def spLaw (K : PySem.W.Frag) : Sp := fun vs H Q _ => ∃ (a : Addr) (ns : List Int), vs = [.ref a] ∧ SqL K H a (ns.map V.int) ∧ ns.length ≤ 63 ∧ ∀ H', Q (.bl true) H'
end Sw
namespace Sw
open PySem PySem.Spec PyProof.Rows L2
theorem cut_to {xs : List V} {j : Nat} : cutV xs none (some (j : Int)) = xs.take j := by
  unfold cutV
  rw [HT.sIx_none, HT.sIx_nat]
  show (xs.drop 0).take (min j xs.length - 0) = xs.take j
  rw [List.drop_zero, Nat.sub_zero]
  by_cases h : j ≤ xs.length
  · rw [Nat.min_eq_left h]
  · rw [Nat.min_eq_right (by omega), List.take_length, List.take_of_length_le (by omega)]
theorem cut_from {xs : List V} {j : Nat} : cutV xs (some (j : Int)) none = xs.drop j := by
  unfold cutV
  rw [HT.sIx_none, HT.sIx_nat]
  by_cases h : j ≤ xs.length
  · rw [Nat.min_eq_left h, ← List.length_drop, List.take_length]
  · rw [Nat.min_eq_right (by omega), List.drop_length, List.drop_of_length_le (by omega)]
    simp
theorem num_push {ns : List Int} {z : Int} (h : ∀ n ∈ ns, Num n) (hz : Num z) : ∀ n ∈ ns ++ [z], Num n := fun n hn => by
  rcases List.mem_append.mp hn with hn | hn
  · exact h n hn
  · rw [List.mem_singleton.mp hn]
    exact hz
theorem map_push (ns : List Int) (z : Int) : ns.map V.int ++ [V.int z] = (ns ++ [z]).map V.int := by
  rw [List.map_append]
  rfl
end Sw
namespace Sw
open PySem PySem.Spec PyProof.Rows L2
/-- an except clause that names a class at S asks whether the error's class lies under it -/
theorem exm_of {K : PySem.W.Frag} {D S : Addr} {b : Bool} (h1 : PySem.W.subIn K (.ref S) (.type "BaseException") = some true) (h2 : PySem.W.isClsIn K S = true) (h3 : PySem.W.typeIn K (.ref S) = some (.type "type")) (h4 : PySem.W.subIn K (.ref D) (.ref S) = some b) :
    PySem.W.exmOne K (.ref D) (.ref S) = some b := by
  have e1 : (PySem.W.subIn K (.ref S) (.type "BaseException") == some true) = true := by rw [h1] <;> rfl
  have e2 : ((PySem.W.clsIn K S).isSome && PySem.W.typeIn K (.ref S) == some (.type "type")) = true := by
    rw [show (PySem.W.clsIn K S).isSome = true from h2, h3] <;> rfl
  show (if (PySem.W.subIn K (.ref S) (.type "BaseException") == some true) = true then (if ((PySem.W.clsIn K S).isSome && PySem.W.typeIn K (.ref S) == some (.type "type")) = true then PySem.W.subIn K (.ref D) (.ref S) else none) else none) = some b
  rw [if_pos e1, if_pos e2]
  exact h4
end Sw
namespace Sw
open PySem PySem.Spec PyProof.Rows L2
theorem int_ne {i j : Int} (h : (!decide (V.int i = V.int j)) = true) : i ≠ j := fun e => by
  rw [e, decide_eq_true rfl] at h
  cases h
theorem int_eq {i j : Int} (h : ¬ (!decide (V.int i = V.int j)) = true) : i = j := by
  by_cases e : V.int i = V.int j
  · exact V.int.inj e
  · rw [decide_eq_false e] at h
    exact absurd rfl h
theorem of3 {α : Type} {l : List α} (h : ((l.length : Nat) : Int) = 3) : ∃ x y z, l = [x, y, z] := by
  match l, h with
  | [x, y, z], _ => exact ⟨x, y, z, rfl⟩
  | [], h => exact absurd h (by simp)
  | [_], h => exact absurd h (by simp)
  | [_, _], h => exact absurd h (by simp)
  | _ :: _ :: _ :: _ :: l, h => simp at h; omega
theorem of4 {α : Type} {l : List α} (h : ((l.length : Nat) : Int) = 4) : ∃ x y z u, l = [x, y, z, u] := by
  match l, h with
  | [x, y, z, u], _ => exact ⟨x, y, z, u, rfl⟩
  | [], h => exact absurd h (by simp)
  | [_], h => exact absurd h (by simp)
  | [_, _], h => exact absurd h (by simp)
  | [_, _, _], h => exact absurd h (by simp)
  | _ :: _ :: _ :: _ :: _ :: l, h => simp at h; omega
end Sw
namespace Sw
open PySem PySem.Spec PyProof.Rows L2
/-! ### the same rules, told by what stays true -/
def nTup (K : PySem.W.Frag) (H : Hp) (xs : List V) (Q : VK) : Prop := ∀ (p : Addr) (H2 : Hp), Same H H2 → SqT K H2 p xs → Q (.ref p) H2
def nLst (H : Hp) (xs : List V) (Q : VK) : Prop := ∀ (p : Addr) (H2 : Hp), Same H H2 → H p = none → H2 p = some (.lst xs) → Q (.ref p) H2
theorem nTup.at {K : PySem.W.Frag} {H : Hp} {xs : List V} {Q : VK} (h : nTup K H xs Q) (p : Addr) (n : H p = none) : Q (.ref p) (upd H p (.tup xs)) := h p _ (same_new n) (.inl (.inl upd_same))
theorem nLst.at {H : Hp} {xs : List V} {Q : VK} (h : nLst H xs Q) (p : Addr) (n : H p = none) : Q (.ref p) (upd H p (.lst xs)) := h p _ (same_new n) n upd_same
def tTupM (K : PySem.W.Frag) (t : TA) : TE := fun σ H Q => t σ H fun xs H1 => xs.length ≤ sizeLine ∧ nTup K H1 xs Q
def tLstM (t : TA) : TE := fun σ H Q => t σ H fun xs H1 => xs.length ≤ sizeLine ∧ nLst H1 xs Q
section
variable {X : Cx} {es : List Expr} {t : TA} {pos : Pos}
theorem pe_tupM {x1} (h : PA X es t) : PE X (.Tuple es x1 pos) (tTupM X.K t) := by
  constructor
  intro pins s σ H Q I hq
  apply wpAny_Tuple_spliced
  refine thn (h.run pos pins s σ H _ I hq) ?_
  rintro us s1 ⟨xs, H1, I1, r, z, q⟩
  refine ⟨r.length ▸ z, ?_⟩
  have hf : H1 s1.heap.objs.size = none := I1.hok.fresh (Nat.le_refl _)
  have J := I1.laid (t' := s1.toks) (a := s1.heap.objs.size) (o := .tup xs) (fun b u e => Heap.get?_push_of_some { cls := .type "tuple", data := .seq us.toArray } e) (Nat.le_refl _) ⟨z, us, r, ⟨_, Heap.get?_push_size _ rfl, rfl, _, rfl⟩⟩
  exact ⟨.ref _, _, J, rfl, q.at _ hf⟩
theorem pe_lstM (h : PA X es t) : PE X (.List es pos) (tLstM t) := by
  constructor
  intro pins s σ H Q I hq
  apply wpAny_List_spliced
  refine thn (h.run pos pins s σ H _ I hq) ?_
  rintro us s1 ⟨xs, H1, I1, r, z, q⟩
  refine ⟨r.length ▸ z, ?_⟩
  have hf : H1 s1.heap.objs.size = none := I1.hok.fresh (Nat.le_refl _)
  have J := I1.laid (t' := s1.toks) (a := s1.heap.objs.size) (o := .lst xs) (fun b u e => Heap.get?_push_of_some { cls := .type "list", data := .seq us.toArray } e) (Nat.le_refl _) ⟨z, us, 0, r, Heap.get?_push_size _ rfl⟩
  exact ⟨.ref _, _, J, rfl, q.at _ hf⟩
/-- t[lo:hi], not the whole of t -/
def rSlTM (K : PySem.W.Frag) : V → Option Int → Option Int → Hp → VK → Prop := fun x lo hi H Q => ∃ a xs, x = .ref a ∧ SqT K H a xs ∧ ¬ (HT.sIx xs.length 0 lo = 0 ∧ HT.sIx xs.length xs.length hi = xs.length) ∧ nTup K H (cutV xs lo hi) Q
theorem sl_tupM : SlR X (rSlTM X.K) := fun pins s σ H x v vl vu lo hi sl Q I rx hs pl pu ⟨b, xs, e, h1, h2, q⟩ => sl_tup pins s σ H x v vl vu lo hi sl Q I rx hs pl pu ⟨b, xs, e, h1, h2, q.at⟩
def rSlLM (K : PySem.W.Frag) : V → Option Int → Option Int → Hp → VK → Prop := fun x lo hi H Q => ∃ a xs, x = .ref a ∧ SqL K H a xs ∧ nLst H (cutV xs lo hi) Q
theorem sl_listM : SlR X (rSlLM X.K) := fun pins s σ H x v vl vu lo hi sl Q I rx hs pl pu ⟨b, xs, e, h1, q⟩ => sl_list pins s σ H x v vl vu lo hi sl Q I rx hs pl pu ⟨b, xs, e, h1, q.at⟩
def rCatTM (K : PySem.W.Frag) : R2 := fun x y H Q => ∃ a b xs ys, x = .ref a ∧ y = .ref b ∧ SqT K H a xs ∧ SqT K H b ys ∧ xs ≠ [] ∧ ys ≠ [] ∧ xs.length + ys.length ≤ sizeLine ∧ nTup K H (xs ++ ys) Q
theorem op_catTM : OpR X (binaryOp .Add) (rCatTM X.K) := fun pins s σ H x y v u Q I rx ry ⟨c, b, xs, ys, e1, e2, h1, h2, h3, h4, h5, q⟩ => op_catT pins s σ H x y v u Q I rx ry ⟨c, b, xs, ys, e1, e2, h1, h2, h3, h5, fun z => absurd z h4, fun _ => q.at⟩
def rCatM : R2 := fun x y H Q => ∃ l b xs zs, x = .ref l ∧ y = .ref b ∧ H l = some (.lst xs) ∧ H b = some (.lst zs) ∧ xs.length + zs.length ≤ sizeLine ∧ nLst H (xs ++ zs) Q
theorem op_catM : OpR X (binaryOp .Add) rCatM := fun pins s σ H x y v u Q I rx ry ⟨c, b, xs, ys, e1, e2, h1, h2, h3, q⟩ => op_cat pins s σ H x y v u Q I rx ry ⟨c, b, xs, ys, e1, e2, h1, h2, h3, q.at⟩
def rRepM : R2 := fun x y H Q => ∃ l k xs, x = .ref l ∧ y = .int k ∧ H l = some (.lst xs) ∧ -(2 ^ 63) ≤ k ∧ k < 2 ^ 63 ∧ xs.length * k.toNat ≤ sizeLine ∧ nLst H (List.replicate k.toNat xs).flatten Q
theorem op_repM : OpR X (binaryOp .Mult) rRepM := fun pins s σ H x y v u Q I rx ry ⟨c, k, xs, e1, e2, h1, h2, h3, h4, q⟩ => op_rep pins s σ H x y v u Q I rx ry ⟨c, k, xs, e1, e2, h1, h2, h3, h4, q.at⟩
end
end Sw
namespace Sw
open PySem PySem.Spec PyProof.Rows L2
/-- an instance is changed: lists and tuples stand -/
theorem sqL_ins {K : PySem.W.Frag} {H : Hp} {x C dx p : Addr} {fs : List (Str × V)} {o : HO} {xs : List V} (hx : H x = some (.ins C dx fs)) (h : SqL K H p xs) : SqL K (upd H x o) p xs := by
  rcases h with (h | ⟨u, h⟩) | h
  · exact .inl (.inl (by rw [upd_ne (fun z => by rw [z, hx] at h; cases h)]; exact h))
  · exact .inl (.inr ⟨u, by rw [upd_ne (fun z => by rw [z, hx] at h; cases h)]; exact h⟩)
  · exact .inr h
theorem sqT_ins {K : PySem.W.Frag} {H : Hp} {x C dx p : Addr} {fs : List (Str × V)} {o : HO} {xs : List V} (hx : H x = some (.ins C dx fs)) (h : SqT K H p xs) : SqT K (upd H x o) p xs := by
  rcases h with (h | ⟨u, h⟩) | h
  · exact .inl (.inl (by rw [upd_ne (fun z => by rw [z, hx] at h; cases h)]; exact h))
  · exact .inl (.inr ⟨u, by rw [upd_ne (fun z => by rw [z, hx] at h; cases h)]; exact h⟩)
  · exact .inr h
end Sw
namespace Sw
open PySem PySem.Spec PyProof.Rows L2
/-! ### data, and == of data -/
def dTI (ns : List Int) : PyData := .tuple (ns.map .int)
theorem dpAll_ints {K : PySem.W.Frag} {H : Hp} : ∀ ns : List Int, DpAll K H (ns.map V.int) (ns.map PyData.int)
  | [] => .nil
  | _ :: r => .cons (.int _) (dpAll_ints r)
theorem dp_ti {K : PySem.W.Frag} {H : Hp} {p : Addr} {ns : List Int} (h : SqT K H p (ns.map V.int)) : Dp K H (.ref p) (dTI ns) := .tup h (dpAll_ints ns)
theorem dp_t {K : PySem.W.Frag} {H : Hp} {p : Addr} {xs : List V} {ds : List PyData} (h : SqT K H p xs) (r : DpAll K H xs ds) : Dp K H (.ref p) (.tuple ds) := .tup h r
theorem dp_l {K : PySem.W.Frag} {H : Hp} {p : Addr} {xs : List V} {ds : List PyData} (h : H p = some (.lst xs)) (r : DpAll K H xs ds) : Dp K H (.ref p) (.list ds) := .lst (.inl (.inl h)) r
/-- data that can be compared, of a depth -/
def Lay (k : Nat) (d : PyData) : Prop := d.canLay0 = true ∧ d.depth ≤ k
theorem lay_int (k : Nat) (i : Int) : Lay k (.int i) := ⟨rfl, Nat.zero_le _⟩
theorem lay_non (k : Nat) : Lay k .none := ⟨rfl, Nat.zero_le _⟩
theorem lay_bool (k : Nat) (b : Bool) : Lay k (.bool b) := ⟨rfl, Nat.zero_le _⟩
theorem lay_all {k : Nat} : ∀ {ds : List PyData}, (∀ d ∈ ds, Lay k d) → PyData.canLayAll0 ds = true ∧ PyData.depthAll ds ≤ k
  | [], _ => ⟨rfl, Nat.zero_le _⟩
  | d :: r, h => by
    obtain ⟨a1, a2⟩ := h d List.mem_cons_self
    obtain ⟨b1, b2⟩ := lay_all (ds := r) fun x hx => h x (List.mem_cons_of_mem _ hx)
    refine ⟨?_, ?_⟩
    · show (d.canLay0 && PyData.canLayAll0 r) = true
      rw [a1, b1]
      rfl
    · show max d.depth (PyData.depthAll r) ≤ k
      omega
theorem lay_tuple {k : Nat} {ds : List PyData} (h : ∀ d ∈ ds, Lay k d) : Lay (k + 1) (.tuple ds) := by
  obtain ⟨a, b⟩ := lay_all h
  exact ⟨a, Nat.succ_le_succ b⟩
theorem lay_list {k : Nat} {ds : List PyData} (h : ∀ d ∈ ds, Lay k d) : Lay (k + 1) (.list ds) := by
  obtain ⟨a, b⟩ := lay_all h
  exact ⟨a, Nat.succ_le_succ b⟩
theorem lay_up {j k : Nat} {d : PyData} (h : Lay j d) (l : j ≤ k) : Lay k d := ⟨h.1, Nat.le_trans h.2 l⟩
theorem lay_ti (ns : List Int) : Lay 1 (dTI ns) := lay_tuple fun d hd => by
  obtain ⟨i, _, rfl⟩ := List.mem_map.mp hd
  exact lay_int 0 i
theorem lay_2 {k : Nat} {d e : PyData} (h1 : Lay k d) (h2 : Lay k e) : ∀ x ∈ [d, e], Lay k x := fun x hx => by
  rcases List.mem_cons.mp hx with rfl | hx
  · exact h1
  · rw [List.mem_singleton.mp hx]
    exact h2
theorem shaped_of {k : Nat} {d : PyData} (h : Lay k d) (hk : k ≤ 64) : SeqAt.shaped d = true := by
  unfold SeqAt.shaped
  rw [h.1, decide_eq_true (Nat.le_trans h.2 hk)]
  rfl
theorem ne_same {K : PySem.W.Frag} {k : Nat} {x y : V} {d : PyData} {H : Hp} {Q : VK} (l : Lay k d) (hk : k ≤ 64) (hx : Dp K H x d) (hy : Dp K H y d) (q : Q (.bl false) H) : rNeD K x y H Q :=
  ⟨d, d, hx, hy, shaped_of l hk, shaped_of l hk, by rw [SeqAt.eqv_refl d l.1]; exact q⟩
theorem eq_same {K : PySem.W.Frag} {k : Nat} {x y : V} {d : PyData} {H : Hp} {Q : VK} (l : Lay k d) (hk : k ≤ 64) (hx : Dp K H x d) (hy : Dp K H y d) (q : Q (.bl true) H) : rEqD K x y H Q :=
  ⟨d, d, hx, hy, shaped_of l hk, shaped_of l hk, by rw [SeqAt.eqv_refl d l.1]; exact q⟩
/-! ### a, b = e where e is a tuple or a list -/
def gSeq (K : PySem.W.Frag) (n : Nat) (t : TGs) : TG := fun v σ H Q => ∃ a xs, v = .ref a ∧ (SqT K H a xs ∨ SqL K H a xs) ∧ xs.length = n ∧ t xs σ H Q
theorem pg_seq {X : Cx} {es : List Expr} {k : Nat} {t : TGs} {n : Nat} {pos : Pos} (hc : X.calm = true) (h : PGs X es t)
    (hn : (assignEach es X.env).length = n := by rfl) (hst : (assignEach es X.env).findIdx? (·.1) = none := by rfl) : PG X (.Tuple es k pos) (gSeq X.K n t) := by
  constructor
  rintro pins s σ H v u Q I r ⟨b, xs, e, hq | hq, hl, w⟩
  · exact (pg_tup hc h hn hst).run pins s σ H v u Q I r ⟨b, xs, e, hq, hl, w⟩
  · exact (pg_lst hc h hn hst).run pins s σ H v u Q I r ⟨b, xs, e, hq, hl, w⟩
theorem emod_step (z d n : Int) : (z % n + d + n) % n = (z + d) % n := by
  rw [Int.add_emod_right, Int.emod_add_emod]
end Sw
namespace Sw
open PySem PySem.Spec PyProof.Rows L2
def numI (ns : List Int) (j : Int) : Int := ns.getD j.toNat 0
theorem nthI {ns : List Int} {j : Int} (h0 : 0 ≤ j) (h1 : j < (ns.length : Int)) : atI (ns.map V.int) j = some (.int (numI ns j)) := by
  obtain ⟨k, rfl⟩ := Int.eq_ofNat_of_zero_le h0
  refine atI_nat ?_
  have hk : k < ns.length := by omega
  rw [List.getElem?_map, List.getElem?_eq_getElem hk]
  show some (V.int ns[k]) = some (V.int (ns.getD k 0))
  rw [List.getD_eq_getElem?_getD, List.getElem?_eq_getElem hk]
  rfl
theorem num_at {ns : List Int} (h : ∀ n ∈ ns, Num n) (j : Int) : Num (numI ns j) := by
  unfold numI
  rw [List.getD_eq_getElem?_getD]
  cases e : ns[j.toNat]? with
  | none => exact ⟨by decide, by decide⟩
  | some z => exact h z (List.mem_of_getElem? e)
theorem iteD {c A B : Prop} [Decidable c] (hc : c) (h : A) : if decide c = true then A else B := by
  rw [if_pos (decide_eq_true hc)]
  exact h
end Sw
namespace Sw
open PySem PySem.Spec PyProof.Rows L2
/-! ### data without lists stand where a list is changed -/
theorem sqT_lst {K : PySem.W.Frag} {H : Hp} {l p : Addr} {xs ys : List V} {o : HO} (hl : H l = some (.lst xs)) (h : SqT K H p ys) : SqT K (upd H l o) p ys := by
  rcases h with (h | ⟨u, h⟩) | h
  · exact .inl (.inl (by rw [upd_ne (fun z => by rw [z, hl] at h; cases h)]; exact h))
  · exact .inl (.inr ⟨u, by rw [upd_ne (fun z => by rw [z, hl] at h; cases h)]; exact h⟩)
  · exact .inr h
mutual
def noL : PyData → Bool
  | .tuple ds => noLs ds
  | .list _ => false
  | .dict _ => false
  | _ => true
def noLs : List PyData → Bool
  | [] => true
  | d :: r => noL d && noLs r
end
mutual
theorem dp_put {K : PySem.W.Frag} {H : Hp} {l : Addr} {xs : List V} {o : HO} (hl : H l = some (.lst xs)) : ∀ {v : V} {d : PyData}, noL d = true → Dp K H v d → Dp K (upd H l o) v d
  | _, _, _, .non => .non
  | _, _, _, .bl b => .bl b
  | _, _, _, .int i => .int i
  | _, _, _, .str x => .str x
  | _, _, n, .lst q r => nomatch n
  | _, _, n, .tup q r => .tup (sqT_lst hl q) (dpAll_put hl n r)
theorem dpAll_put {K : PySem.W.Frag} {H : Hp} {l : Addr} {xs : List V} {o : HO} (hl : H l = some (.lst xs)) : ∀ {vs : List V} {ds : List PyData}, noLs ds = true → DpAll K H vs ds → DpAll K (upd H l o) vs ds
  | _, _, _, .nil => .nil
  | _, _, n, .cons q r => .cons (dp_put hl (Bool.and_eq_true_iff.mp n).1 q) (dpAll_put hl (Bool.and_eq_true_iff.mp n).2 r)
end
theorem noLs_ints : ∀ ns : List Int, noLs (ns.map PyData.int) = true
  | [] => rfl
  | _ :: r => by
    show (noL (.int _) && noLs (r.map PyData.int)) = true
    rw [noLs_ints r]
    rfl
theorem noL_ti (ns : List Int) : noL (dTI ns) = true := noLs_ints ns
theorem dpAll_push {K : PySem.W.Frag} {H : Hp} {v : V} {d : PyData} : ∀ {vs : List V} {ds : List PyData}, DpAll K H vs ds → Dp K H v d → DpAll K H (vs ++ [v]) (ds ++ [d])
  | _, _, .nil, h => .cons h .nil
  | _, _, .cons q r, h => .cons q (dpAll_push r h)
theorem dpAll_len {K : PySem.W.Frag} {H : Hp} : ∀ {vs : List V} {ds : List PyData}, DpAll K H vs ds → vs.length = ds.length
  | _, _, .nil => rfl
  | _, _, .cons _ r => congrArg (· + 1) (dpAll_len r)
theorem dpAll_get {K : PySem.W.Frag} {H : Hp} : ∀ {vs : List V} {ds : List PyData} {i : Nat} {v : V}, DpAll K H vs ds → vs[i]? = some v → ∃ d, ds[i]? = some d ∧ Dp K H v d
  | _, _, 0, _, .cons q _, h => ⟨_, rfl, Option.some.inj h ▸ q⟩
  | _, _, i + 1, _, .cons _ r, h => dpAll_get (i := i) r h
theorem dp_ti_inv {K : PySem.W.Frag} {H : Hp} {v : V} {ns : List Int} (h : Dp K H v (dTI ns)) : ∃ p, v = .ref p ∧ SqT K H p (ns.map V.int) := by
  cases h with
  | @tup p xs ds q r =>
    refine ⟨p, rfl, ?_⟩
    have e : ∀ {xs : List V} {ns : List Int}, DpAll K H xs (ns.map PyData.int) → xs = ns.map V.int := by
      intro xs ns
      induction ns generalizing xs with
      | nil => intro h; cases h; rfl
      | cons n r ih =>
        intro h
        cases h with
        | cons h1 h2 =>
          cases h1
          rw [ih h2]
          rfl
    rw [← e r]
    exact q
/-- so many different numbers below a bound: not more than the bound -/
theorem nodup_below : ∀ (k : Nat) (l : List Nat), l.Nodup → (∀ x ∈ l, x < k) → l.length ≤ k
  | 0, l, _, h => by
    cases l with
    | nil => exact Nat.le_refl _
    | cons x r => exact absurd (h x List.mem_cons_self) (Nat.not_lt_zero _)
  | k + 1, l, hn, h => by
    have hn2 : (l.erase k).Nodup := hn.erase k
    have ih := nodup_below k (l.erase k) hn2 fun x hx => by
      have h1 := h x (List.mem_of_mem_erase hx)
      have h2 : x ≠ k := fun e => by
        subst e
        exact (List.Nodup.not_mem_erase hn) hx
      omega
    have e := List.length_erase (a := k) (l := l)
    by_cases hm : k ∈ l
    · rw [if_pos hm] at e
      omega
    · rw [if_neg hm] at e
      omega
end Sw
set_option Elab.async false
set_option linter.all false
set_option maxRecDepth 100000
set_option maxHeartbeats 4000000
/-! Skies, attitudes, commands, motions: what each def tells, as plain functions of integers, and its promise. -/
namespace Sw
open PySem PySem.Spec PyProof.Rows L2
def turnX (q x y : Int) : Int := if q % 4 = 1 then -y else if q % 4 = 2 then -x else if q % 4 = 3 then y else x
def turnY (q x y : Int) : Int := if q % 4 = 1 then x else if q % 4 = 2 then -y else if q % 4 = 3 then -x else y
def isPose (n : Int) : List Int → Bool
  | [x, y, q] => decide (0 ≤ x ∧ x < n ∧ 0 ≤ y ∧ y < n ∧ 0 ≤ q ∧ q ≤ 3)
  | _ => false
def isCmd (n : Int) : List Int → Bool
  | [x, y, q] => decide (-n < x ∧ x < n ∧ -n < y ∧ y < n ∧ 0 ≤ q ∧ q ≤ 3)
  | _ => false
def isCam (n : Int) : List Int → Bool
  | [r, b, g, l] => decide (0 ≤ r ∧ r ≤ 4 ∧ 0 ≤ b ∧ b ≤ 2 ∧ 0 ≤ g ∧ g ≤ 2 ∧ 1 ≤ l ∧ l ≤ 9 ∧ b ≤ r ∧ 2 * (r + b) + 1 ≤ n)
  | _ => false
def isStar (n : Int) : List Int → Bool
  | [x, y, b] => decide (0 ≤ x ∧ x < n ∧ 0 ≤ y ∧ y < n ∧ 1 ≤ b ∧ b ≤ 9)
  | _ => false
def comp (n : Int) : List Int → List Int → List Int
  | [a, b, c], [d, e, g] => [(turnX g a b + d) % n, (turnY g a b + e) % n, (c + g) % 4]
  | _, _ => []
def inv (n : Int) : List Int → List Int
  | [a, b, c] => [turnX (2 - c) a b % n, turnY (2 - c) a b % n, (4 - c) % 4]
  | _ => []
def near (n part : Int) : Int := (part + n / 2) % n - n / 2
theorem pose_form {n : Int} {ns : List Int} (h : isPose n ns = true) : ∃ x y q, ns = [x, y, q] ∧ 0 ≤ x ∧ x < n ∧ 0 ≤ y ∧ y < n ∧ 0 ≤ q ∧ q ≤ 3 := by
  match ns, h with
  | [x, y, q], h =>
    have z := of_decide_eq_true h
    exact ⟨x, y, q, rfl, z⟩
theorem cmd_form {n : Int} {ns : List Int} (h : isCmd n ns = true) : ∃ x y q, ns = [x, y, q] ∧ -n < x ∧ x < n ∧ -n < y ∧ y < n ∧ 0 ≤ q ∧ q ≤ 3 := by
  match ns, h with
  | [x, y, q], h =>
    have z := of_decide_eq_true h
    exact ⟨x, y, q, rfl, z⟩
/-- the attributes of a sky, in the order in which they are stored -/
def skyF (n : Int) (ts tc : Addr) : List (Str × V) := putF "_camera" (.ref tc) (putF "_stars" (.ref ts) (putF "_side" (.int n) []))
theorem skyF_side (n : Int) (ts tc : Addr) : (skyF n ts tc).lookup ("_side" : Str) = some (.int n) := by
  unfold skyF
  rw [lookup_putF, if_neg (by decide +kernel), lookup_putF, if_neg (by decide +kernel), lookup_putF, if_pos rfl]
theorem skyF_stars (n : Int) (ts tc : Addr) : (skyF n ts tc).lookup ("_stars" : Str) = some (.ref ts) := by
  unfold skyF
  rw [lookup_putF, if_neg (by decide +kernel), lookup_putF, if_pos rfl]
theorem skyF_camera (n : Int) (ts tc : Addr) : (skyF n ts tc).lookup ("_camera" : Str) = some (.ref tc) := by
  unfold skyF
  rw [lookup_putF, if_pos rfl]
theorem skyF_two (n : Int) (ts : Addr) : (putF "_stars" (V.ref ts) (putF "_side" (.int n) [])).length < 1000 := by
  show (if ("_side" : Str) = "_stars" then _ else _ : List (Str × V)).length < 1000
  rw [if_neg (by decide +kernel)]
  show 2 < 1000
  decide
/-- a sky stands at p -/
def SkyAt (K : PySem.W.Frag) (C : Addr) (H : Hp) (p : Addr) (n : Int) (st : List V) (cam : List Int) : Prop :=
  ∃ dx ts tc, H p = some (.ins C dx (skyF n ts tc)) ∧ SqT K H ts st ∧ SqT K H tc (cam.map V.int)
theorem sky_up {K : PySem.W.Frag} {C : Addr} {H H' : Hp} {p : Addr} {n : Int} {st : List V} {cam : List Int} (s : Same H H') : SkyAt K C H p n st cam → SkyAt K C H' p n st cam := fun ⟨dx, ts, tc, h1, h2, h3⟩ =>
  ⟨dx, ts, tc, s _ _ h1, sqT_up s h2, sqT_up s h3⟩
def spTurn (K : PySem.W.Frag) : Sp := fun vs H Q _ => ∃ (q x y : Int) (p : Addr), vs = [.int q, .ref p] ∧ SqT K H p [.int x, .int y] ∧
  ∀ (H' : Hp) (p' : Addr), Same H H' → SqT K H' p' [.int (turnX q x y), .int (turnY q x y)] → Q (.ref p') H'
def spIs (K : PySem.W.Frag) (ok : Int → List Int → Bool) : Sp := fun vs H Q _ => ∃ (n : Int) (p : Addr) (ns : List Int), vs = [.int n, .ref p] ∧ SqT K H p (ns.map V.int) ∧ Q (.bl (ok n ns)) H
def spComp (K : PySem.W.Frag) : Sp := fun vs H Q _ => ∃ (n a b c d e g : Int) (p q : Addr), vs = [.int n, .ref p, .ref q] ∧ 0 < n ∧ SqT K H p [.int a, .int b, .int c] ∧ SqT K H q [.int d, .int e, .int g] ∧
  ∀ (H' : Hp) (p' : Addr), Same H H' → SqT K H' p' ((comp n [a, b, c] [d, e, g]).map V.int) → Q (.ref p') H'
def spInv (K : PySem.W.Frag) : Sp := fun vs H Q _ => ∃ (n a b c : Int) (p : Addr), vs = [.int n, .ref p] ∧ 0 < n ∧ SqT K H p [.int a, .int b, .int c] ∧
  ∀ (H' : Hp) (p' : Addr), Same H H' → SqT K H' p' ((inv n [a, b, c]).map V.int) → Q (.ref p') H'
def spSide : Sp := fun vs H Q _ => ∃ n : Int, vs = [.int n] ∧ Q (.bl (decide (4 ≤ n ∧ n ≤ 9))) H
def spNear : Sp := fun vs H Q _ => ∃ n k : Int, vs = [.int n, .int k] ∧ 0 < n ∧ Q (.int (near n k)) H
/-- a sky is made of no stars, all else as the rules ask -/
def spCheck0 (K : PySem.W.Frag) : Sp := fun vs H Q _ => ∃ (n : Int) (p c : Addr) (cam : List Int), vs = [.int n, .ref p, .ref c] ∧ SqL K H p [] ∧ SqT K H c (cam.map V.int) ∧ 4 ≤ n ∧ n ≤ 9 ∧ isCam n cam = true ∧ ∀ H', Same H H' → Q .non H'
def spInit0 (K : PySem.W.Frag) (C : Addr) : Sp := fun vs H Q _ => ∃ (x dx : Addr) (n : Int) (p c : Addr) (cam : List Int), vs = [.ref x, .int n, .ref p, .ref c] ∧ H x = some (.ins C dx []) ∧ SqL K H p [] ∧ SqT K H c (cam.map V.int) ∧ 4 ≤ n ∧ n ≤ 9 ∧ isCam n cam = true ∧
  ∀ H', SkyAt K C H' x n [] cam → (∀ b o, H b = some o → b ≠ x → H' b = some o) → Q .non H'
/-- a property of a sky that is an attribute -/
def spProp (K : PySem.W.Frag) (C : Addr) (f : Int → List V → List Int → V → Hp → Prop) : Sp := fun vs H Q _ => ∃ (p : Addr) (n : Int) (st : List V) (cam : List Int), vs = [.ref p] ∧ SkyAt K C H p n st cam ∧ ∀ v, f n st cam v H → Q v H
def spOfSide (K : PySem.W.Frag) (C : Addr) : Sp := fun vs H Q _ => ∃ (p : Addr) (n : Int) (st : List V) (cam : List Int), vs = [.ref p] ∧ SkyAt K C H p n st cam ∧ Q (.int n) H
/-- a tuple is asked of a sky: nothing comes back, or the error with the tuple -/
def spAsk (K : PySem.W.Frag) (C D : Addr) (fld : Str) (ok : Int → List Int → Bool) : Sp := fun vs H Q E => ∃ (p q : Addr) (n : Int) (st : List V) (cam ns : List Int), vs = [.ref p, .ref q] ∧ SkyAt K C H p n st cam ∧ SqT K H q (ns.map V.int) ∧
  (ok n ns = true → Q .non H) ∧ (ok n ns = false → ∀ (d : Addr) (H' : Hp), Same H H' → H' d = some (.xd [(fld, .ref q)]) → E (.ref D) (some d) H')
def spAsk2 (K : PySem.W.Frag) (C D : Addr) : Sp := fun vs H Q E => ∃ (p q r : Addr) (n : Int) (st : List V) (cam ns ms : List Int), vs = [.ref p, .ref q, .ref r] ∧ SkyAt K C H p n st cam ∧ SqT K H q (ns.map V.int) ∧ SqT K H r (ms.map V.int) ∧
  (isPose n ns = true → isPose n ms = true → Q .non H) ∧ (isPose n ns = false → ∀ (d : Addr) (H' : Hp), Same H H' → H' d = some (.xd [("attitude", .ref q)]) → E (.ref D) (some d) H') ∧
  (isPose n ns = true → isPose n ms = false → ∀ (d : Addr) (H' : Hp), Same H H' → H' d = some (.xd [("attitude", .ref r)]) → E (.ref D) (some d) H')
/-- an attitude, and a tuple of another kind done to it -/
def spDone (K : PySem.W.Frag) (C D F : Addr) (fld : Str) (ok : Int → List Int → Bool) (f : Int → List Int → List Int → List Int) : Sp := fun vs H Q E => ∃ (p q r : Addr) (n : Int) (st : List V) (cam ns ms : List Int), vs = [.ref p, .ref q, .ref r] ∧ SkyAt K C H p n st cam ∧ 0 < n ∧ SqT K H q (ns.map V.int) ∧ SqT K H r (ms.map V.int) ∧
  (isPose n ns = true → ok n ms = true → ∀ (H' : Hp) (p' : Addr), Same H H' → SqT K H' p' ((f n ns ms).map V.int) → Q (.ref p') H') ∧
  (isPose n ns = false → ∀ (d : Addr) (H' : Hp), Same H H' → H' d = some (.xd [("attitude", .ref q)]) → E (.ref D) (some d) H') ∧
  (isPose n ns = true → ok n ms = false → ∀ (d : Addr) (H' : Hp), Same H H' → H' d = some (.xd [(fld, .ref r)]) → E (.ref F) (some d) H')
def spBack (K : PySem.W.Frag) (C F : Addr) (fld : Str) (ok : Int → List Int → Bool) : Sp := fun vs H Q E => ∃ (p q : Addr) (n : Int) (st : List V) (cam ns : List Int), vs = [.ref p, .ref q] ∧ SkyAt K C H p n st cam ∧ 0 < n ∧ SqT K H q (ns.map V.int) ∧
  (ok n ns = true → ∀ (H' : Hp) (p' : Addr), Same H H' → SqT K H' p' ((inv n ns).map V.int) → Q (.ref p') H') ∧
  (ok n ns = false → ∀ (d : Addr) (H' : Hp), Same H H' → H' d = some (.xd [(fld, .ref q)]) → E (.ref F) (some d) H')
def iabs (x : Int) : Int := if x < 0 then -x else x
def imax (x y : Int) : Int := if y > x then y else x
/-- how far two attitudes are apart, none for unlike quarters -/
def apartI (n : Int) : List Int → List Int → Option Int
  | [a, b, c], [d, e, g] => if c = g then some (imax (iabs (near n (a - d))) (iabs (near n (b - e)))) else none
  | _, _ => none
def optV : Option Int → V
  | some i => .int i
  | none => .non
def farI (n s : Int) (a b : List Int) : Bool := match apartI n a b with
  | some k => decide (s < k)
  | none => true
def spApart (K : PySem.W.Frag) (C D : Addr) : Sp := fun vs H Q E => ∃ (p q r : Addr) (n : Int) (st : List V) (cam ns ms : List Int), vs = [.ref p, .ref q, .ref r] ∧ SkyAt K C H p n st cam ∧ 0 < n ∧ SqT K H q (ns.map V.int) ∧ SqT K H r (ms.map V.int) ∧
  (isPose n ns = true → isPose n ms = true → Q (optV (apartI n ns ms)) H) ∧ (isPose n ns = false → ∀ (d : Addr) (H' : Hp), Same H H' → H' d = some (.xd [("attitude", .ref q)]) → E (.ref D) (some d) H') ∧
  (isPose n ns = true → isPose n ms = false → ∀ (d : Addr) (H' : Hp), Same H H' → H' d = some (.xd [("attitude", .ref r)]) → E (.ref D) (some d) H')
def spFar (K : PySem.W.Frag) (C D : Addr) : Sp := fun vs H Q E => ∃ (p q r : Addr) (n s : Int) (st : List V) (cam ns ms : List Int), vs = [.ref p, .ref q, .ref r, .int s] ∧ SkyAt K C H p n st cam ∧ 0 < n ∧ SqT K H q (ns.map V.int) ∧ SqT K H r (ms.map V.int) ∧
  (isPose n ns = true → isPose n ms = true → Q (.bl (farI n s ns ms)) H) ∧ (isPose n ns = false → ∀ (d : Addr) (H' : Hp), Same H H' → H' d = some (.xd [("attitude", .ref q)]) → E (.ref D) (some d) H') ∧
  (isPose n ns = true → isPose n ms = false → ∀ (d : Addr) (H' : Hp), Same H H' → H' d = some (.xd [("attitude", .ref r)]) → E (.ref D) (some d) H')
end Sw
namespace Sw
open PySem PySem.Spec PyProof.Rows L2
theorem pose_len {n : Int} {ns : List Int} (h : ((ns.length : Nat) : Int) ≠ 3) : isPose n ns = false := by
  match ns, h with
  | [], _ => rfl
  | [_], _ => rfl
  | [_, _], _ => rfl
  | [_, _, _], h => exact absurd (by simp) h
  | _ :: _ :: _ :: _ :: _, _ => rfl
theorem cmd_len {n : Int} {ns : List Int} (h : ((ns.length : Nat) : Int) ≠ 3) : isCmd n ns = false := by
  match ns, h with
  | [], _ => rfl
  | [_], _ => rfl
  | [_, _], _ => rfl
  | [_, _, _], h => exact absurd (by simp) h
  | _ :: _ :: _ :: _ :: _, _ => rfl
theorem star_len {n : Int} {ns : List Int} (h : ((ns.length : Nat) : Int) ≠ 3) : isStar n ns = false := by
  match ns, h with
  | [], _ => rfl
  | [_], _ => rfl
  | [_, _], _ => rfl
  | [_, _, _], h => exact absurd (by simp) h
  | _ :: _ :: _ :: _ :: _, _ => rfl
theorem cam_len {n : Int} {ns : List Int} (h : ((ns.length : Nat) : Int) ≠ 4) : isCam n ns = false := by
  match ns, h with
  | [], _ => rfl
  | [_], _ => rfl
  | [_, _], _ => rfl
  | [_, _, _], _ => rfl
  | [_, _, _, _], h => exact absurd (by simp) h
  | _ :: _ :: _ :: _ :: _ :: _, _ => rfl
end Sw
namespace Sw
open PySem PySem.Spec PyProof.Rows L2
/-! ### what the law about commands reckons by itself -/
def spLTurn (K : PySem.W.Frag) : Sp := fun vs H Q _ => ∃ (q x y : Int) (p : Addr), vs = [.int q, .ref p] ∧ (SqT K H p [.int x, .int y] ∨ SqL K H p [.int x, .int y]) ∧ 0 ≤ q ∧ q ≤ 3 ∧
  ∀ (H' : Hp) (p' : Addr), Same H H' → SqT K H' p' [.int (turnX q x y), .int (turnY q x y)] → Q (.ref p') H'
def spWalked (K : PySem.W.Frag) : Sp := fun vs H Q _ => ∃ (n x y q i j l : Int) (p r : Addr), vs = [.int n, .ref p, .ref r] ∧ SqT K H p [.int x, .int y, .int q] ∧ SqT K H r [.int i, .int j, .int l] ∧ isPose n [x, y, q] = true ∧ 0 ≤ l ∧ l ≤ 3 ∧ -100 ≤ i ∧ i ≤ 100 ∧ -100 ≤ j ∧ j ≤ 100 ∧
  ∀ (H' : Hp) (p' : Addr), Same H H' → SqT K H' p' ((comp n [i, j, l] [x, y, q]).map V.int) → Q (.ref p') H'
def toldC (n : Int) (ns ms : List Int) : Int × List Int := if isPose n ns then (if isCmd n ms then (0, comp n ms ns) else (2, ms)) else (1, ns)
def spToldC (K : PySem.W.Frag) (C : Addr) : Sp := fun vs H Q _ => ∃ (p q r : Addr) (n : Int) (st : List V) (cam ns ms : List Int), vs = [.ref p, .ref q, .ref r] ∧ SkyAt K C H p n st cam ∧ 0 < n ∧ SqT K H q (ns.map V.int) ∧ SqT K H r (ms.map V.int) ∧
  ∀ (H' : Hp) (t b : Addr), Same H H' → SqT K H' t [.int (toldC n ns ms).1, .ref b] → SqT K H' b ((toldC n ns ms).2.map V.int) → Q (.ref t) H'
def backC (n : Int) (ns : List Int) : Int × List Int := if isCmd n ns then (0, inv n ns) else (2, ns)
def spBackC (K : PySem.W.Frag) (C : Addr) : Sp := fun vs H Q _ => ∃ (p q : Addr) (n : Int) (st : List V) (cam ns : List Int), vs = [.ref p, .ref q] ∧ SkyAt K C H p n st cam ∧ 0 < n ∧ SqT K H q (ns.map V.int) ∧
  ∀ (H' : Hp) (t b : Addr), Same H H' → SqT K H' t [.int (backC n ns).1, .ref b] → SqT K H' b ((backC n ns).2.map V.int) → Q (.ref t) H'
def orTI (ok : Bool) (ns : List Int) : PyData := if ok then .none else dTI ns
def spChecksC (K : PySem.W.Frag) (C : Addr) : Sp := fun vs H Q _ => ∃ (p q r : Addr) (n : Int) (st : List V) (cam ns ms : List Int), vs = [.ref p, .ref q, .ref r] ∧ SkyAt K C H p n st cam ∧ SqT K H q (ns.map V.int) ∧ SqT K H r (ms.map V.int) ∧
  ∀ (H' : Hp) (l : Addr) (x y : V), Same H H' → H' l = some (.lst [x, y]) → Dp K H' x (orTI (isPose n ns) ns) → Dp K H' y (orTI (isCmd n ms) ms) → Q (.ref l) H'
end Sw
namespace Sw
open PySem PySem.Spec PyProof.Rows L2
def chkV (ok : Bool) (q : Addr) : V := if ok then .non else .ref q
theorem chk_dp {K : PySem.W.Frag} {H : Hp} {q : Addr} {ns : List Int} (ok : Bool) (h : SqT K H q (ns.map V.int)) : Dp K H (chkV ok q) (orTI ok ns) := by
  cases ok with
  | true => exact .non
  | false => exact dp_ti h
theorem turnX_zero (q : Int) : turnX q 0 0 = 0 := by unfold turnX; split <;> (try split) <;> (try split) <;> rfl
theorem turnY_zero (q : Int) : turnY q 0 0 = 0 := by unfold turnY; split <;> (try split) <;> (try split) <;> rfl
theorem turnX_add (q a b c d : Int) : turnX q (a + c) (b + d) = turnX q a b + turnX q c d := by unfold turnX; split <;> (try split) <;> (try split) <;> omega
theorem turnY_add (q a b c d : Int) : turnY q (a + c) (b + d) = turnY q a b + turnY q c d := by unfold turnY; split <;> (try split) <;> (try split) <;> omega
end Sw
namespace Sw
open PySem PySem.Spec PyProof.Rows L2
theorem quarter_cases {q : Int} (h0 : 0 ≤ q) (h3 : q ≤ 3) : q = 0 ∨ q = 1 ∨ q = 2 ∨ q = 3 := by omega
theorem side_cases {n : Int} (h0 : 4 ≤ n) (h3 : n ≤ 9) : n = 4 ∨ n = 5 ∨ n = 6 ∨ n = 7 ∨ n = 8 ∨ n = 9 := by omega
theorem tX0 (x y : Int) : turnX 0 x y = x := rfl
theorem tX1 (x y : Int) : turnX 1 x y = -y := rfl
theorem tX2 (x y : Int) : turnX 2 x y = -x := rfl
theorem tX3 (x y : Int) : turnX 3 x y = y := rfl
theorem tY0 (x y : Int) : turnY 0 x y = y := rfl
theorem tY1 (x y : Int) : turnY 1 x y = x := rfl
theorem tY2 (x y : Int) : turnY 2 x y = -y := rfl
theorem tY3 (x y : Int) : turnY 3 x y = -x := rfl
theorem tXm (q x y : Int) : turnX q x y = turnX (q % 4) x y := by unfold turnX; rw [Int.emod_emod_of_dvd q (Int.dvd_refl 4)]
theorem tYm (q x y : Int) : turnY q x y = turnY (q % 4) x y := by unfold turnY; rw [Int.emod_emod_of_dvd q (Int.dvd_refl 4)]
theorem undo1 {n u v z x : Int} (h : (u % n + (v + x) % n) % n = z) (e : u + v = 0) (h0 : 0 ≤ x) (h1 : x < n) : z = x := by
  rw [← h, ← Int.add_emod, ← Int.add_assoc, e, Int.zero_add]
  exact Int.emod_eq_of_lt h0 h1
theorem neg_emod' (a n : Int) : (-(a % n)) % n = (-a) % n := by
  rw [← Int.emod_emod_of_dvd (-a) (Int.dvd_refl n)]
  conv => rhs; rw [← Int.mul_ediv_add_emod a n]
  rw [Int.neg_add, ← Int.mul_neg, Int.emod_emod_of_dvd _ (Int.dvd_refl n), Int.add_comm, Int.add_mul_emod_self_left]
theorem back_ok {n x y q i j l : Int} (hp : isPose n [x, y, q] = true) (l0 : 0 ≤ l) (l3 : l ≤ 3) : comp n (inv n [i, j, l]) (comp n [i, j, l] [x, y, q]) = [x, y, q] := by
  have h := of_decide_eq_true hp
  have key : ∀ u v w : Int, (w = u % n ∨ w = -(-u % n)) → u + v = 0 → ∀ z, 0 ≤ z → z < n → (w + (v + z) % n) % n = z := fun u v w hw e z z0 z1 => by
    have e1 : w % n = u % n := by
      rcases hw with rfl | rfl
      · exact Int.emod_emod_of_dvd u (Int.dvd_refl n)
      · rw [neg_emod', Int.neg_neg]
    rw [Int.add_emod, e1, Int.emod_emod_of_dvd _ (Int.dvd_refl n), ← Int.add_emod, ← Int.add_assoc, e, Int.zero_add]
    exact Int.emod_eq_of_lt z0 z1
  show [(turnX ((l + q) % 4) (turnX (2 - l) i j % n) (turnY (2 - l) i j % n) + (turnX q i j + x) % n) % n, (turnY ((l + q) % 4) (turnX (2 - l) i j % n) (turnY (2 - l) i j % n) + (turnY q i j + y) % n) % n, ((4 - l) % 4 + (l + q) % 4) % 4] = [x, y, q]
  have hq : ((4 - l) % 4 + (l + q) % 4) % 4 = q := by omega
  rw [hq]
  have X : (turnX ((l + q) % 4) (turnX (2 - l) i j % n) (turnY (2 - l) i j % n) + (turnX q i j + x) % n) % n = x := by
    refine key (-(turnX q i j)) _ _ ?_ (by omega) x h.1 h.2.1
    rcases quarter_cases l0 l3 with rfl | rfl | rfl | rfl <;> rcases quarter_cases h.2.2.2.2.1 h.2.2.2.2.2 with rfl | rfl | rfl | rfl <;> simp [turnX, turnY]
  have Y : (turnY ((l + q) % 4) (turnX (2 - l) i j % n) (turnY (2 - l) i j % n) + (turnY q i j + y) % n) % n = y := by
    refine key (-(turnY q i j)) _ _ ?_ (by omega) y h.2.2.1 h.2.2.2.1
    rcases quarter_cases l0 l3 with rfl | rfl | rfl | rfl <;> rcases quarter_cases h.2.2.2.2.1 h.2.2.2.2.2 with rfl | rfl | rfl | rfl <;> simp [turnX, turnY]
  rw [X, Y]
theorem comp_pose {n i j l x y q : Int} (hn : 0 < n) : isPose n (comp n [i, j, l] [x, y, q]) = true := by
  refine decide_eq_true ⟨Int.emod_nonneg _ (by omega), Int.emod_lt_of_pos _ hn, Int.emod_nonneg _ (by omega), Int.emod_lt_of_pos _ hn, by omega, by omega⟩
theorem inv_cmd {n i j l : Int} (hn : 0 < n) : isCmd n (inv n [i, j, l]) = true := by
  have a0 := Int.emod_nonneg (turnX (2 - l) i j) (show n ≠ 0 by omega)
  have a1 := Int.emod_lt_of_pos (turnX (2 - l) i j) hn
  have b0 := Int.emod_nonneg (turnY (2 - l) i j) (show n ≠ 0 by omega)
  have b1 := Int.emod_lt_of_pos (turnY (2 - l) i j) hn
  exact decide_eq_true ⟨by omega, a1, by omega, b1, by omega, by omega⟩
theorem turn_mod8 (q x y : Int) : turnX ((q + 8) % 4) x y = turnX q x y ∧ turnY ((q + 8) % 4) x y = turnY q x y := by
  rw [tXm q, tYm q, show (q + 8) % 4 = q % 4 by omega]
  exact ⟨rfl, rfl⟩
end Sw
namespace Sw
theorem poseF {n x y q : Int} (h : ¬ (0 ≤ x ∧ x < n ∧ 0 ≤ y ∧ y < n ∧ 0 ≤ q ∧ q ≤ 3)) : isPose n [x, y, q] = false := decide_eq_false h
theorem cmdF {n x y q : Int} (h : ¬ (-n < x ∧ x < n ∧ -n < y ∧ y < n ∧ 0 ≤ q ∧ q ≤ 3)) : isCmd n [x, y, q] = false := decide_eq_false h
theorem poseT {n x y q : Int} (h : 0 ≤ x ∧ x < n ∧ 0 ≤ y ∧ y < n ∧ 0 ≤ q ∧ q ≤ 3) : isPose n [x, y, q] = true := decide_eq_true h
end Sw
set_option Elab.async false
set_option linter.all false
set_option maxRecDepth 100000
set_option maxHeartbeats 4000000
/-! Lists of tuples of integers: stars and spots. -/
namespace Sw
open PySem PySem.Spec PyProof.Rows L2
abbrev Tups := List (Addr × List Int)
def refs (ks : Tups) : List V := ks.map fun p => V.ref p.1
def keys (ks : Tups) : List (List Int) := ks.map (·.2)
def TupsAt (K : PySem.W.Frag) (H : Hp) (ks : Tups) : Prop := ∀ p ∈ ks, SqT K H p.1 (p.2.map V.int)
theorem tups_up {K : PySem.W.Frag} {H H' : Hp} {ks : Tups} (s : Same H H') (h : TupsAt K H ks) : TupsAt K H' ks := fun p hp => sqT_up s (h p hp)
theorem refs_len (ks : Tups) : (refs ks).length = ks.length := List.length_map ..
theorem keys_len (ks : Tups) : (keys ks).length = ks.length := List.length_map ..
theorem dp_tups {K : PySem.W.Frag} {H : Hp} : ∀ {ks : Tups}, TupsAt K H ks → DpAll K H (refs ks) ((keys ks).map dTI)
  | [], _ => .nil
  | p :: r, h => .cons (dp_ti (h p List.mem_cons_self)) (dp_tups fun q hq => h q (List.mem_cons_of_mem _ hq))
/-- len of a set of such -/
def rLenT (P : Program) (w : World) : List V → Hp → VK → Prop := fun xs H Q => ∃ (b : Addr) (L : Tups), xs = [.ref b] ∧ H b = some (SetTO P w b L) ∧ ((keys L).Nodup → Q (.int L.length) H)
theorem cr_lenT {X : Cx} : CallR X (.builtin "len") (rLenT X.prog X.w) := by
  intro pins s σ H xs us Q I hv ⟨b, L, ex, hb, q⟩
  subst ex
  cases hv with
  | cons r1 r2 =>
    cases r2
    rename_i u1
    obtain rfl : u1 = Value.ref b := r1
    have z : ObjOk X.prog X.w H s.heap b (SetTO X.prog X.w b L) := I.hok b _ hb
    obtain ⟨⟨⟨es, ep, t, ⟨o, g1, g2, g3⟩, h1, h2, h3, _, _, h4, h5⟩⟩, _⟩ := z
    have hsz : es.size = L.length := by
      rw [← Array.length_toList, h1]
      exact List.length_map ..
    have hdm : t.dummies.size = 0 := by rw [h2.dm]; rfl
    have hps : t.place.size = L.length := by rw [h2.sz, List.length_map]
    have hf : t.fits es.size = true := by
      unfold PySem.SetTable.fits
      rw [Bool.and_eq_true]
      refine ⟨by rw [hps, hsz]; exact beq_self_eq_true _, decide_eq_true ?_⟩
      unfold PySem.SetTable.fill
      omega
    refine call_len_set g1 g2 g3 hf (by rw [hsz]; omega) ?_
    rw [hsz]
    exact ⟨.int L.length, H, (I.tok _).tok _, ⟨_, rfl⟩, q h3⟩
theorem len_le_of_sub {α : Type} [DecidableEq α] : ∀ {l m : List α}, l.Nodup → (∀ x ∈ l, x ∈ m) → l.length ≤ m.length
  | [], _, _, _ => Nat.zero_le _
  | x :: r, m, hn, hs => by
    have hn' := List.nodup_cons.mp hn
    have hx : x ∈ m := hs x List.mem_cons_self
    have := len_le_of_sub (l := r) (m := m.erase x) hn'.2 fun y hy => (List.mem_erase_of_ne (fun e => hn'.1 (by rw [← e]; exact hy))).mpr (hs y (List.mem_cons_of_mem _ hy))
    rw [List.length_erase_of_mem hx] at this
    have := List.length_pos_of_mem hx
    simp only [List.length_cons]
    omega
theorem shorter {α : Type} [DecidableEq α] : ∀ {l : List α}, ¬ l.Nodup → ∃ m : List α, m.length < l.length ∧ ∀ x ∈ l, x ∈ m
  | [], h => absurd List.nodup_nil h
  | x :: r, h => by
    by_cases hx : x ∈ r
    · exact ⟨r, by simp, fun y hy => by
        rcases List.mem_cons.mp hy with rfl | hy
        · exact hx
        · exact hy⟩
    · obtain ⟨m, h1, h2⟩ := shorter (l := r) fun hr => h (List.nodup_cons.mpr ⟨hx, hr⟩)
      exact ⟨x :: m, by simpa using h1, fun y hy => by
        rcases List.mem_cons.mp hy with rfl | hy
        · exact List.mem_cons_self
        · exact List.mem_cons_of_mem _ (h2 y hy)⟩
theorem set_len {ks L : Tups} (h1 : ∀ p ∈ L, p ∈ ks) (h2 : ∀ p ∈ ks, p.2 ∈ L.map (·.2)) (hn : (keys L).Nodup) : (L.length < ks.length) ↔ ¬ (keys ks).Nodup := by
  have s1 : ∀ x ∈ keys L, x ∈ keys ks := fun x hx => by
    obtain ⟨p, hp, rfl⟩ := List.mem_map.mp hx
    exact List.mem_map_of_mem (h1 p hp)
  have s2 : ∀ x ∈ keys ks, x ∈ keys L := fun x hx => by
    obtain ⟨p, hp, rfl⟩ := List.mem_map.mp hx
    exact h2 p hp
  constructor
  · intro hl hk
    have := len_le_of_sub hk s2
    rw [keys_len, keys_len] at this
    omega
  · intro hk
    obtain ⟨m, hm, hs⟩ := shorter hk
    have := len_le_of_sub hn fun x hx => hs x (s1 x hx)
    rw [keys_len] at this hm
    omega
theorem perm_map_inv {α β : Type} {f : α → β} {l m : List β} (h : l.Perm m) : ∀ {ks : List α}, m = ks.map f → ∃ ks' : List α, ks'.Perm ks ∧ l = ks'.map f := by
  induction h with
  | nil =>
    intro ks e
    refine ⟨[], ?_, rfl⟩
    rw [show ks = [] by simpa using e.symm]
  | cons x _ ih =>
    intro ks e
    cases ks with
    | nil => cases e
    | cons k r =>
      rw [List.map_cons] at e
      injection e with e1 e2
      obtain ⟨r', h1, h2⟩ := ih e2
      exact ⟨k :: r', .cons _ h1, by rw [e1, h2]; rfl⟩
  | swap x y _ =>
    intro ks e
    match ks, e with
    | a :: b :: r, e =>
      rw [List.map_cons, List.map_cons] at e
      injection e with e1 e2
      injection e2 with e2 e3
      exact ⟨b :: a :: r, .swap .., by rw [e1, e2, e3]; rfl⟩
  | trans _ _ ih1 ih2 =>
    intro ks e
    obtain ⟨k1, h1, e1⟩ := ih2 e
    obtain ⟨k2, h2, e2⟩ := ih1 e1
    exact ⟨k2, h2.trans h1, e2⟩
theorem code_inj {B : Int} : ∀ {a b : List Int}, a.length = b.length → TS.Bd B a → TS.Bd B b → TS.code B a = TS.code B b → a = b
  | [], [], _, _, _, _ => rfl
  | d :: r, e :: q, hl, ha, hb, hc => by
    have hl' : r.length = q.length := by simpa using hl
    by_cases h1 : d < e
    · have := TS.code_lt hl' ha.tail hb.tail h1
      omega
    by_cases h2 : e < d
    · have := TS.code_lt hl'.symm hb.tail ha.tail h2
      omega
    obtain rfl : d = e := by omega
    have z1 := mt (TS.code_same (B := B) (d := d) hl').mpr (by omega)
    have z2 := mt (TS.code_same (B := B) (d := d) hl'.symm).mpr (by omega)
    rw [code_inj hl' ha.tail hb.tail (by omega)]
/-- tuples in their order -/
def Asc (B : Int) (l : List (List Int)) : Prop := l.Pairwise fun a b => TS.code B a ≤ TS.code B b
def Fit (d : Nat) (B : Int) (l : List (List Int)) : Prop := ∀ a ∈ l, a.length = d ∧ TS.Bd B a
theorem asc_unique {d : Nat} {B : Int} {l m : List (List Int)} (hl : Asc B l) (hm : Asc B m) (hp : l.Perm m) (hf : Fit d B l) : l = m :=
  List.Perm.eq_of_pairwise (le := fun a b => TS.code B a ≤ TS.code B b) (fun a b ha hb h1 h2 => by
    obtain ⟨a1, a2⟩ := hf a ha
    obtain ⟨b1, b2⟩ := hf b (hp.mem_iff.mpr hb)
    exact code_inj (a1.trans b1.symm) a2 b2 (by omega)) hl hm hp
/-- sorted(l), l a list of tuples of d integers from 0 to below B -/
def rSortM (K : PySem.W.Frag) (d : Nat) (B : Int) : List V → Hp → VK → Prop := fun vs H Q => ∃ (b : Addr) (ks : Tups), vs = [.ref b] ∧ SqL K H b (refs ks) ∧ TupsAt K H ks ∧ ks.length < 64 ∧ Fit d B (keys ks) ∧
  ∀ (p : Addr) (ks' : Tups) (H' : Hp), Same H H' → H p = none → H' p = some (.lst (refs ks')) → ks'.Perm ks → Asc B (keys ks') → Q (.ref p) H'
theorem tupI_unique {X : Cx} {pins : List (Addr × Obj)} {σ : L2.St} {H : Hp} {s : Shared} (I : Inv X pins σ H s) {p : Addr} {a b : List Int} (h1 : SqT X.K H p (a.map V.int)) (h2 : SqT X.K H p (b.map V.int)) : a = b := by
  have e := I.tuple_inj h1 h2
  have inj : ∀ {a b : List Int}, a.map V.int = b.map V.int → a = b := by
    intro a
    induction a with
    | nil => intro b h; cases b with
      | nil => rfl
      | cons _ _ => cases h
    | cons x r ih =>
      intro b h
      cases b with
      | nil => cases h
      | cons y q =>
        rw [List.map_cons, List.map_cons] at h
        injection h with h1 h2
        rw [V.int.inj h1, ih h2]
  exact inj e
theorem cr_sortM {X : Cx} {d : Nat} {B : Int} (hd : 1 ≤ d) : CallR X (.builtin "sorted") (rSortM X.K d B) := by
  intro pins s σ H xs us Q I hv ⟨b, ks, ex, hb, ht, hl, hf, q⟩
  refine cr_sortT (d := d) (B := B) hd pins s σ H xs us Q I hv ⟨b, refs ks, ex, hb, by rw [refs_len]; exact hl, fun x hx => ?_, fun ys p hp hw np => ?_⟩
  · obtain ⟨k, hk, rfl⟩ := List.mem_map.mp hx
    obtain ⟨z1, z2⟩ := hf k.2 (List.mem_map_of_mem hk)
    exact ⟨k.2, ⟨k.1, rfl, ht k hk⟩, z1, z2⟩
  · obtain ⟨ks', h1, rfl⟩ := perm_map_inv (f := fun p : Addr × List Int => V.ref p.1) hp (ks := ks) rfl
    refine q p ks' _ (same_new np) np upd_same h1 ?_
    have hw' := List.pairwise_map.mp hw
    refine List.pairwise_map.mpr ?_
    have mem : ∀ k ∈ ks', TupI X.K H (V.ref k.1) k.2 := fun k hk => ⟨k.1, rfl, ht k (h1.mem_iff.mp hk)⟩
    exact hw'.imp_of_mem fun {x y} hx hy z => z _ _ (mem x hx) (mem y hy)
/-! what a sky may be -/
def isSky (n : Int) (kk : List (List Int)) (cam : List Int) : Bool := decide (4 ≤ n ∧ n ≤ 9) && kk.all (isStar n) && decide kk.Nodup && decide (kk.length ≤ 20) && isCam n cam
theorem star_fit {n : Int} {a : List Int} (h : isStar n a = true) (h9 : n ≤ 9) : a.length = 3 ∧ TS.Bd 10 a := by
  match a, h with
  | [x, y, b], h =>
    have z := of_decide_eq_true h
    refine ⟨rfl, fun m hm => ?_⟩
    simp only [List.mem_cons, List.not_mem_nil, or_false] at hm
    rcases hm with rfl | rfl | rfl <;> omega
theorem stars_fit {n : Int} {l : List (List Int)} (h : l.all (isStar n) = true) (h9 : n ≤ 9) : Fit 3 10 l := fun a ha => star_fit (List.all_eq_true.mp h a ha) h9
theorem sky_parts {n : Int} {kk : List (List Int)} {cam : List Int} (h : isSky n kk cam = true) : (4 ≤ n ∧ n ≤ 9) ∧ kk.all (isStar n) = true ∧ kk.Nodup ∧ kk.length ≤ 20 ∧ isCam n cam = true := by
  unfold isSky at h
  simp only [Bool.and_eq_true, decide_eq_true_eq] at h
  obtain ⟨⟨⟨⟨h1, h2⟩, h3⟩, h4⟩, h5⟩ := h
  exact ⟨h1, h2, h3, h4, h5⟩
theorem isSky_perm {n : Int} {kk mm : List (List Int)} {cam : List Int} (h : kk.Perm mm) : isSky n kk cam = isSky n mm cam := by
  unfold isSky
  rw [h.length_eq, show kk.all (isStar n) = mm.all (isStar n) from Bool.eq_iff_iff.mpr (by rw [List.all_eq_true, List.all_eq_true]; exact ⟨fun z x hx => z x (h.mem_iff.mpr hx), fun z x hx => z x (h.mem_iff.mp hx)⟩), show decide kk.Nodup = decide mm.Nodup from decide_eq_decide.mpr h.nodup_iff]
/-- the checks of a sky -/
def spCheck (K : PySem.W.Frag) (D : Addr) : Sp := fun vs H Q E => ∃ (n : Int) (l c : Addr) (ks : Tups) (cam : List Int), vs = [.int n, .ref l, .ref c] ∧ SqL K H l (refs ks) ∧ TupsAt K H ks ∧ SqT K H c (cam.map V.int) ∧ ks.length < 64 ∧
  (isSky n (keys ks) cam = true → ∀ H', Same H H' → Q .non H') ∧ (isSky n (keys ks) cam = false → ∀ H', Same H H' → E (.ref D) none H')
def SkyS (K : PySem.W.Frag) (C : Addr) (H : Hp) (p : Addr) (n : Int) (ks : Tups) (cam : List Int) : Prop := SkyAt K C H p n (refs ks) cam ∧ TupsAt K H ks
theorem skyS_up {K : PySem.W.Frag} {C : Addr} {H H' : Hp} {p : Addr} {n : Int} {ks : Tups} {cam : List Int} (s : Same H H') (h : SkyS K C H p n ks cam) : SkyS K C H' p n ks cam := ⟨sky_up s h.1, tups_up s h.2⟩
def spInit (K : PySem.W.Frag) (C D : Addr) : Sp := fun vs H Q E => ∃ (x dx : Addr) (n : Int) (l c : Addr) (ks : Tups) (cam : List Int), vs = [.ref x, .int n, .ref l, .ref c] ∧ H x = some (.ins C dx []) ∧ SqL K H l (refs ks) ∧ TupsAt K H ks ∧ SqT K H c (cam.map V.int) ∧ ks.length < 64 ∧
  (isSky n (keys ks) cam = true → ∀ (H' : Hp) (ks' : Tups), SkyS K C H' x n ks' cam → ks'.Perm ks → Asc 10 (keys ks') → (∀ b o, H b = some o → b ≠ x → H' b = some o) → Q .non H') ∧
  (isSky n (keys ks) cam = false → ∀ H', Same H H' → E (.ref D) none H')
end Sw
namespace L2
open PySem PySem.Spec PyProof.Rows
def tTryOnly (K : PySem.W.Frag) (c : Value) (ts : Addr → Value → Option Addr → TS) (Wout : WX) (tb : WX → TS) : TS := fun D σ H => tb (wOnly K c ts Wout D) D σ H
theorem ps_try_only1 {X : Cx} {x : Str} {c : Value} {body suite : List Stmt} {b₀ : Stmt} {np pos pos' : Pos} {tb : WX → TS} {ts : Addr → Value → Option Addr → TS} {Wout : WX} (hs : X.stack = X.env :: X.outer) (hf : X.env.frame = some X.env.locals) (hc : Names X x c) (tk : Takes X Wout)
    (hb : ∀ (W : WX) (pn : List (Addr × Obj)) (xe : Value → Shared → Prop), Takes (X.tr pn xe) W → PassesOwn (model X.prog X.w) X.A X.env xe → PSs (X.tr pn xe) body (tb W))
    (hsu : ∀ (a : Addr) (oe : Obj) (cls : Value) (d : Option Addr) (pn : List (Addr × Obj)), Zc cls d oe → (∃ vs, oe.data = .fields vs) → PSs (X.suite a ((a, oe) :: pn)) (b₀ :: suite) (ts a cls d)) :
    PS X (.Try body [.ExceptHandler (some (.Name x np)) none (b₀ :: suite) pos'] [] [] pos) (tTryOnly X.K c ts Wout tb) := ps_try_only hs hf hc tk hb hsu
end L2
namespace Sw
open PySem PySem.Spec PyProof.Rows L2
theorem iteD2 {c A B : Prop} [Decidable c] (hc : c) (h : A) : if decide c = true then A else B := by
  rw [if_pos (decide_eq_true hc)]
  exact h
theorem iteD3 {c A B : Prop} [Decidable c] (hc : ¬ c) (h : B) : if decide c = true then A else B := by
  rw [if_neg (by rw [decide_eq_false hc]; decide)]
  exact h
end Sw
namespace Sw
open PySem PySem.Spec PyProof.Rows L2
theorem pickI {zs : List Int} {j : Int} {P : Int → Prop} (h : ∀ z ∈ zs, P z) (h0 : 0 ≤ j) (h1 : j < (zs.length : Int)) : ∃ z, atI (zs.map V.int) j = some (.int z) ∧ P z := by
  refine ⟨_, nthI h0 h1, ?_⟩
  unfold numI
  rw [List.getD_eq_getElem?_getD, List.getElem?_eq_getElem (by omega)]
  exact h _ (List.getElem_mem _)
/-- the drawn parts of a sky -/
def spParts (K : PySem.W.Frag) : Sp := fun vs H Q _ => ∃ (p1 : Addr) (ns : List Int) (at' most : Int), vs = [.ref p1, .int at', .int most] ∧ SqL K H p1 (ns.map V.int) ∧ (∀ n ∈ ns, Num n) ∧ 0 ≤ at' ∧ 0 ≤ most ∧ most ≤ 20 ∧ at' + 6 + 3 * most ≤ (ns.length : Int) ∧
  ∀ (H' : Hp) (t l c : Addr) (n : Int) (ks : Tups) (cam : List Int), Same H H' → SqT K H' t [.int n, .ref l, .ref c] → H l = none → H' l = some (.lst (refs ks)) → TupsAt K H' ks → SqT K H' c (cam.map V.int) →
    isSky n (keys ks) cam = true → (ks.length : Int) ≤ most → Asc 10 (keys ks) → Q (.ref t) H'
end Sw
namespace Sw
open PySem PySem.Spec PyProof.Rows L2
theorem min2I (a b : Int) : nuMin2 (.int a) (.int b) = some (.int (if b < a then b else a)) := by
  show some (if decide (b < a) = true then V.int b else V.int a) = _
  by_cases h : b < a
  · rw [decide_eq_true h, if_pos h]
    rfl
  · rw [decide_eq_false h, if_neg h]
    rfl
def rMin3I : List V → Hp → VK → Prop := fun xs H Q => ∃ a b c : Int, xs = [.int a, .int b, .int c] ∧ ∀ m : Int, m ≤ a → m ≤ b → m ≤ c → (m = a ∨ m = b ∨ m = c) → Q (.int m) H
theorem call_min3I {X : Cx} (hc : X.calm = true) : CallR X (.builtin "min") rMin3I := fun pins s σ H xs us Q I hv ⟨a, b, c, e, q⟩ => by
  refine call_min3Nu hc pins s σ H xs us Q I hv ⟨.int a, .int b, .int c, .int (if c < (if b < a then b else a) then c else (if b < a then b else a)), e, ?_, q _ ?_ ?_ ?_ ?_⟩
  · show (nuMin2 (.int a) (.int b)).bind (fun m => nuMin2 m (.int c)) = _
    rw [min2I]
    exact min2I _ _
  all_goals (repeat' split) <;> omega
end Sw
namespace Sw
open PySem PySem.Spec PyProof.Rows L2
theorem eqvAll_ints : ∀ a b : List Int, PyData.eqvAll (a.map .int) (b.map .int) = decide (a = b)
  | [], [] => rfl
  | [], _ :: _ => rfl
  | _ :: _, [] => rfl
  | x :: r, y :: q => by
    show ((x == y) && PyData.eqvAll (r.map .int) (q.map .int)) = _
    rw [eqvAll_ints r q]
    by_cases h : x = y <;> by_cases h2 : r = q <;> simp [h, h2]
theorem eqv_ti (a b : List Int) : PyData.eqv (dTI a) (dTI b) = decide (a = b) := eqvAll_ints a b
theorem any_tups (kk : List (List Int)) (k : List Int) : ((kk.map dTI).any fun z => PyData.eqv z (dTI k)) = decide (k ∈ kk) := by
  induction kk with
  | nil => rfl
  | cons q r ih =>
    rw [List.map_cons, List.any_cons, ih, eqv_ti]
    by_cases h : q = k
    · subst h
      simp
    · rw [decide_eq_false h, Bool.false_or]
      by_cases hm : k ∈ r
      · rw [decide_eq_true hm, decide_eq_true (List.mem_cons_of_mem _ hm)]
      · rw [decide_eq_false hm, decide_eq_false (fun z => (List.mem_cons.mp z).elim (fun e => h e.symm) hm)]
theorem lay_tups (kk : List (List Int)) : Lay 2 (.list (kk.map dTI)) := lay_list fun d hd => by
  obtain ⟨p, _, rfl⟩ := List.mem_map.mp hd
  exact lay_ti _
theorem refs_push (ks : Tups) (p : Addr × List Int) : refs ks ++ [V.ref p.1] = refs (ks ++ [p]) := by
  unfold refs
  rw [List.map_append]
  rfl
theorem keys_push (ks : Tups) (p : Addr × List Int) : keys (ks ++ [p]) = keys ks ++ [p.2] := by
  unfold keys
  rw [List.map_append]
  rfl
theorem tups_put {K : PySem.W.Frag} {H : Hp} {l : Addr} {xs : List V} {o : HO} {ks : Tups} (hl : H l = some (.lst xs)) (h : TupsAt K H ks) : TupsAt K (upd H l o) ks := fun p hp => sqT_lst hl (h p hp)
theorem nodup_push {α : Type} {l : List α} {x : α} (h : l.Nodup) (hx : x ∉ l) : (l ++ [x]).Nodup := by
  rw [List.nodup_append]
  refine ⟨h, by simp, fun a ha b hb => ?_⟩
  rw [List.mem_singleton.mp hb]
  intro e
  exact hx (e ▸ ha)
end Sw
namespace Sw
open PySem PySem.Spec PyProof.Rows L2
def spOfStars (K : PySem.W.Frag) (C : Addr) : Sp := fun vs H Q _ => ∃ (p : Addr) (n : Int) (st : List V) (cam : List Int), vs = [.ref p] ∧ SkyAt K C H p n st cam ∧ ∀ ts, SqT K H ts st → Q (.ref ts) H
def spOfCamera (K : PySem.W.Frag) (C : Addr) : Sp := fun vs H Q _ => ∃ (p : Addr) (n : Int) (st : List V) (cam : List Int), vs = [.ref p] ∧ SkyAt K C H p n st cam ∧ ∀ tc, SqT K H tc (cam.map V.int) → Q (.ref tc) H
def spOfPart (K : PySem.W.Frag) (C : Addr) (i : Nat) : Sp := fun vs H Q _ => ∃ (p : Addr) (n : Int) (st : List V) (cam : List Int) (z : Int), vs = [.ref p] ∧ SkyAt K C H p n st cam ∧ cam[i]? = some z ∧ Q (.int z) H
theorem cam_form {n : Int} {cam : List Int} (h : isCam n cam = true) : ∃ r b g l, cam = [r, b, g, l] ∧ 0 ≤ r ∧ r ≤ 4 ∧ 0 ≤ b ∧ b ≤ 2 ∧ 0 ≤ g ∧ g ≤ 2 ∧ 1 ≤ l ∧ l ≤ 9 ∧ b ≤ r ∧ 2 * (r + b) + 1 ≤ n := by
  match cam, h with
  | [r, b, g, l], h => exact ⟨r, b, g, l, rfl, of_decide_eq_true h⟩
/-- a sky is tried: none, or what it tells -/
def skyD (n : Int) (kk : List (List Int)) (cam : List Int) : PyData := .tuple [.int n, .tuple (kk.map dTI), dTI cam, dTI cam]
def spToldS (K : PySem.W.Frag) : Sp := fun vs H Q _ => ∃ (n : Int) (l c : Addr) (ks : Tups) (cam : List Int), vs = [.int n, .ref l, .ref c] ∧ SqL K H l (refs ks) ∧ TupsAt K H ks ∧ SqT K H c (cam.map V.int) ∧ ks.length < 64 ∧
  (isSky n (keys ks) cam = false → ∀ H', Same H H' → Q .non H') ∧
  (isSky n (keys ks) cam = true → ∀ (H' : Hp) (t : Addr) (ks' : Tups), Same H H' → ks'.Perm ks → Asc 10 (keys ks') → Dp K H' (.ref t) (skyD n (keys ks') cam) → Q (.ref t) H')
def spIsSky (K : PySem.W.Frag) : Sp := fun vs H Q _ => ∃ (n : Int) (l c : Addr) (ks : Tups) (cam : List Int), vs = [.int n, .ref l, .ref c] ∧ SqL K H l (refs ks) ∧ TupsAt K H ks ∧ SqT K H c (cam.map V.int) ∧ ks.length < 64 ∧
  ∀ H', Same H H' → Q (.bl (isSky n (keys ks) cam)) H'
def spBroken (K : PySem.W.Frag) : Sp := fun vs H Q _ => ∃ (n : Int) (l c p1 : Addr) (at' : Int) (ks : Tups) (cam ns : List Int), vs = [.int n, .ref l, .ref c, .ref p1, .int at'] ∧ H l = some (.lst (refs ks)) ∧ TupsAt K H ks ∧ SqT K H c (cam.map V.int) ∧ ks.length ≤ 6 ∧ isCam n cam = true ∧
  SqL K H p1 (ns.map V.int) ∧ (∀ z ∈ ns, Num z) ∧ 0 ≤ at' ∧ at' + 1 < (ns.length : Int) ∧
  ∀ (H' : Hp) (t l' c' : Addr) (n' : Int) (ks' : Tups) (cam' : List Int), Same H H' → SqT K H' t [.int n', .ref l', .ref c'] → SqL K H' l' (refs ks') → TupsAt K H' ks' → SqT K H' c' (cam'.map V.int) → ks'.length < 64 → Q (.ref t) H'
theorem dp_tup_tups {K : PySem.W.Frag} {H : Hp} {t : Addr} {ks : Tups} (h : SqT K H t (refs ks)) (ht : TupsAt K H ks) : Dp K H (.ref t) (.tuple ((keys ks).map dTI)) := dp_t h (dp_tups ht)
end Sw
namespace Sw
open PySem PySem.Spec PyProof.Rows L2
def rCatAM (K : PySem.W.Frag) : R2 := fun x y H Q => ∃ a b xs ys, x = .ref a ∧ y = .ref b ∧ SqT K H a xs ∧ SqT K H b ys ∧ xs.length + ys.length ≤ sizeLine ∧ nTup K H (xs ++ ys) Q
theorem op_catAM {X : Cx} : OpR X (binaryOp .Add) (rCatAM X.K) := fun pins s σ H x y v u Q I rx ry ⟨c, b, xs, ys, e1, e2, h1, h2, h5, q⟩ =>
  op_catA pins s σ H x y v u Q I rx ry ⟨c, b, xs, ys, e1, e2, h1, h2, h5, fun z => q b H (Same.refl _) (by rw [z]; exact h2), fun _ z => q c H (Same.refl _) (by rw [z, List.append_nil]; exact h1), fun _ _ p np => q.at p np⟩
end Sw
namespace Sw
open PySem PySem.Spec PyProof.Rows L2
def rSlAM (K : PySem.W.Frag) : V → Option Int → Option Int → Hp → VK → Prop := fun x lo hi H Q => ∃ a xs, x = .ref a ∧ SqT K H a xs ∧ nTup K H (cutV xs lo hi) Q
theorem sl_tupAM {X : Cx} : SlR X (rSlAM X.K) := fun pins s σ H x v vl vu lo hi sl Q I rx hs pl pu ⟨b, xs, e, h1, q⟩ =>
  sl_tupA pins s σ H x v vl vu lo hi sl Q I rx hs pl pu ⟨b, xs, e, h1, fun z => q b H (Same.refl _) (by
    unfold cutV
    rw [z.1, z.2, Nat.sub_zero, List.drop_zero, List.take_length]
    exact h1), fun _ p np => q.at p np⟩
theorem cut_ints (zs : List Int) (lo hi : Option Int) : ∃ ys : List Int, cutV (zs.map V.int) lo hi = ys.map V.int ∧ ys.length ≤ zs.length := by
  unfold cutV
  rw [← List.map_drop, ← List.map_take]
  refine ⟨_, rfl, ?_⟩
  rw [List.length_take, List.length_drop]
  omega
theorem sizeL {n : Nat} (h : n ≤ 200000) : n ≤ sizeLine := Nat.le_of_lt (sizeN h)
theorem ints_app (a b : List Int) : a.map V.int ++ b.map V.int = (a ++ b).map V.int := List.map_append.symm
theorem cut_refs (ks : Tups) (lo hi : Option Int) : ∃ ks2 : Tups, cutV (refs ks) lo hi = refs ks2 ∧ (∀ p ∈ ks2, p ∈ ks) ∧ ks2.length ≤ ks.length := by
  unfold cutV refs
  rw [← List.map_drop, ← List.map_take]
  refine ⟨_, rfl, fun p hp => List.mem_of_mem_drop (List.mem_of_mem_take hp), ?_⟩
  rw [List.length_take, List.length_drop]
  omega
theorem refs_app (a b : Tups) : refs a ++ refs b = refs (a ++ b) := List.map_append.symm
theorem tups_app {K : PySem.W.Frag} {H : Hp} {a b : Tups} (h1 : TupsAt K H a) (h2 : TupsAt K H b) : TupsAt K H (a ++ b) := fun p hp => (List.mem_append.mp hp).elim (h1 p) (h2 p)
theorem tups_one {K : PySem.W.Frag} {H : Hp} {p : Addr} {k : List Int} (h : SqT K H p (k.map V.int)) : TupsAt K H [(p, k)] := fun q hq => by
  rw [List.mem_singleton.mp hq]
  exact h
end Sw
namespace Sw
open PySem PySem.Spec PyProof.Rows L2
theorem tyx_tup {K : PySem.W.Frag} {H : Hp} {p : Addr} {xs : List V} (h : SqT K H p xs) : TyX K H (.ref p) (.type "tuple") := by
  rcases h with (h | ⟨o, h⟩) | ⟨o, its, n, h1, h2, _⟩
  · exact .base (.tup h)
  · exact .fTuple h
  · exact .kTuple h1 h2
end Sw
namespace Sw
open PySem PySem.Spec PyProof.Rows L2
theorem lay_tupt (kk : List (List Int)) : Lay 2 (.tuple (kk.map dTI)) := lay_tuple fun d hd => by
  obtain ⟨p, _, rfl⟩ := List.mem_map.mp hd
  exact lay_ti _
theorem lay_sky (n : Int) (kk : List (List Int)) (cam : List Int) : Lay 3 (skyD n kk cam) := lay_tuple fun d hd => by
  simp only [List.mem_cons, List.not_mem_nil, or_false] at hd
  rcases hd with rfl | rfl | rfl | rfl
  · exact lay_int _ _
  · exact lay_tupt kk
  · exact lay_up (lay_ti _) (by decide)
  · exact lay_up (lay_ti _) (by decide)
end Sw
namespace Sw
open PySem PySem.Spec PyProof.Rows L2
/-! ### what is seen from where -/
def keyAt (kk : List (List Int)) (j : Int) : Option (List Int) := if 0 ≤ j then kk[j.toNat]? else none
def spStarAt (K : PySem.W.Frag) (C D : Addr) : Sp := fun vs H Q E => ∃ (p : Addr) (n : Int) (ks : Tups) (cam : List Int) (j : Int), vs = [.ref p, .int j] ∧ SkyS K C H p n ks cam ∧ ks.length ≤ 20 ∧
  (∀ q, 0 ≤ j → ks[j.toNat]? = some q → Q (.ref q.1) H) ∧ ((j < 0 ∨ (ks.length : Int) ≤ j) → ∀ (d : Addr) (H' : Hp), Same H H' → H' d = some (.xd [("number", .int j)]) → E (.ref D) (some d) H')
/-- the offset of a star at an attitude, none if it is not in reach -/
def offI (n : Int) : List Int → List Int → List Int → Option (Int × Int)
  | [r, b, _, _], [x, y, q], [sx, sy, _] =>
    let u := turnX (4 - q) (near n (sx - x)) (near n (sy - y))
    let v := turnY (4 - q) (near n (sx - x)) (near n (sy - y))
    if iabs u > r + b ∨ iabs v > r + b then none else some (u, v)
  | _, _, _ => none
def spOffOf (K : PySem.W.Frag) (C : Addr) : Sp := fun vs H Q _ => ∃ (p : Addr) (n : Int) (st : List V) (r b g l x y q sx sy bb : Int) (pa ps : Addr), vs = [.ref p, .ref pa, .ref ps] ∧ SkyAt K C H p n st [r, b, g, l] ∧ 0 < n ∧ SqT K H pa [.int x, .int y, .int q] ∧ SqT K H ps [.int sx, .int sy, .int bb] ∧
  (offI n [r, b, g, l] [x, y, q] [sx, sy, bb] = none → ∀ H', Same H H' → Q .non H') ∧
  (∀ u v, offI n [r, b, g, l] [x, y, q] [sx, sy, bb] = some (u, v) → ∀ (H' : Hp) (t : Addr), Same H H' → SqT K H' t [.int u, .int v] → Q (.ref t) H')
end Sw
namespace Sw
open PySem PySem.Spec PyProof.Rows L2
/-- offset of a star by its number, with its errors -/
def spOffset (K : PySem.W.Frag) (C D F : Addr) : Sp := fun vs H Q E => ∃ (p pa : Addr) (n : Int) (ks : Tups) (cam at_ : List Int) (j : Int), vs = [.ref p, .ref pa, .int j] ∧ SkyS K C H p n ks cam ∧ isSky n (keys ks) cam = true ∧ SqT K H pa (at_.map V.int) ∧
  (isPose n at_ = false → ∀ (d : Addr) (H' : Hp), Same H H' → H' d = some (.xd [("attitude", .ref pa)]) → E (.ref D) (some d) H') ∧
  (isPose n at_ = true → (j < 0 ∨ (ks.length : Int) ≤ j) → ∀ (d : Addr) (H' : Hp), Same H H' → H' d = some (.xd [("number", .int j)]) → E (.ref F) (some d) H') ∧
  (isPose n at_ = true → ∀ k : List Int, 0 ≤ j → (keys ks)[j.toNat]? = some k →
    (offI n cam at_ k = none → ∀ H', Same H H' → Q .non H') ∧ (∀ u v, offI n cam at_ k = some (u, v) → ∀ (H' : Hp) (t : Addr), Same H H' → SqT K H' t [.int u, .int v] → Q (.ref t) H'))
theorem star_form {n : Int} {k : List Int} (h : isStar n k = true) : ∃ x y b, k = [x, y, b] ∧ 0 ≤ x ∧ x < n ∧ 0 ≤ y ∧ y < n ∧ 1 ≤ b ∧ b ≤ 9 := by
  match k, h with
  | [x, y, b], h => exact ⟨x, y, b, rfl, of_decide_eq_true h⟩
end Sw
set_option Elab.async false
set_option linter.all false
set_option maxRecDepth 100000
set_option maxHeartbeats 4000000
/-! enumerate over a tuple. -/
namespace PySem
namespace SwN
theorem stop_raise {α : Type} {M : Model} {A : Around} {E : Value → Shared → Prop} {s : Shared} {Q : α → Shared → Prop} (hA : A.handled = none)
   (q : ∀ (h' : Heap) (e : Addr), (∀ b o, s.heap.get? b = some o → h'.get? b = some o) → (∃ o, h'.get? e = some o ∧ o.cls = Value.type "StopIteration") → E (.ref e) { s with heap := h' }) :
   wpAny M A (do let e ← newExc (.type "StopIteration") []; raiseNew e : Sem α) Q E s := by
  refine wpAny_bind (wpAny_bind ?_)
  refine wpAny_newTuple ?_ (Nat.zero_le _)
  refine wpAny_bind ?_
  show wpAny _ _ (pure _) _ _ _
  refine wpAny_pure ?_
  refine wpAny_newObj_type ?_ ?_
  · refine wpAny_raiseNew_none hA (q _ _ (fun b o e => Heap.get?_push_of_some _ (Heap.get?_push_of_some _ e)) ⟨_, Heap.get?_push_size _ rfl, rfl⟩)
  · have e : ownMembersOf (Value.type "StopIteration") [] = #[] := rfl
    unfold sizeOk
    rw [e]
    show 6 ≤ sizeLine + 2
    rw [sizeLine_eq]
    decide
variable {prog : Program} {w : World} {A : Around} {E : Value → Shared → Prop} {s : Shared} {it t : Addr} {i : Nat} {items : Array Value} {x : Value}
theorem map_fields {o : Obj} {vs : Array Value} (h : o.data = Data.fields vs) (g : Array Value → Array Value) : (o.mapFields g).isFreed = false ∧ (o.mapFields g).cls = o.cls ∧ (o.mapFields g).data = Data.fields (g vs) := by
  obtain ⟨c, d, dt, sl⟩ := o
  have h' : dt = Data.fields vs := h
  subst h'
  exact ⟨rfl, rfl, rfl⟩
theorem tup_item {Q : PySem.Fin → Shared → Prop} (hi : s.heap.IsTupleIter it t i) (ht : s.heap.IsTuple t items) (hx : items[i]? = some x)
   (q : ∀ h' : Heap, h'.IsTupleIter it t (i + 1) → Heap.SameBut it s.heap h' → Q (.done (.ret x)) { s with heap := h' }) : wpAny (model prog w) A (Builtin.«tuple_iterator.__next__» { pos := [Value.ref it] }) Q E s := by
  obtain ⟨o, h1, h2, h3⟩ := hi
  obtain ⟨ot, g1, g2, n, g3⟩ := ht
  refine wpAny_bind ?_
  show wpAny _ _ (pure (Value.ref it, [])) _ _ _
  refine wpAny_pure ?_
  refine wpAny_bind (wpAny_field h1 h3 rfl ?_)
  show wpAny _ _ (if (Value.ref t == Value.none) = true then _ else _) _ _ _
  rw [if_neg (show ¬ ((Value.ref t == Value.none) = true) from by simp)]
  refine wpAny_bind (wpAny_field h1 h3 rfl ?_)
  refine wpAny_bind (wpAny_seqItems g1 g3 ?_)
  show wpAny _ _ (match items[(i : Int).toNat]? with | some x => _ | none => _) _ _ _
  rw [Int.toNat_natCast, hx]
  refine wpAny_bind (wpAny_setField h1 h3 (by show 1 < 2; omega) ?_)
  refine wpAny_pure ?_
  have m := map_fields h3 fun z => z.setIfInBounds 1 (rawInt (i + 1))
  exact q _ ⟨_, Heap.get?_update_self _ h1 m.1, m.2.1.trans h2, m.2.2⟩ ⟨Heap.size_update _ _ _, fun b hb => Heap.get?_update_ne _ _ _ _ hb⟩
theorem tup_end {Q : PySem.Fin → Shared → Prop} (hA : A.handled = none) (hi : s.heap.IsTupleIter it t i) (ht : s.heap.IsTuple t items) (hx : items[i]? = none)
   (q : ∀ (h' : Heap) (e : Addr), Heap.ExtBut it s.heap h' → (∃ o, h'.get? e = some o ∧ o.cls = Value.type "StopIteration") → E (.ref e) { s with heap := h' }) : wpAny (model prog w) A (Builtin.«tuple_iterator.__next__» { pos := [Value.ref it] }) Q E s := by
  obtain ⟨o, h1, h2, h3⟩ := hi
  obtain ⟨ot, g1, g2, n, g3⟩ := ht
  refine wpAny_bind ?_
  show wpAny _ _ (pure (Value.ref it, [])) _ _ _
  refine wpAny_pure ?_
  refine wpAny_bind (wpAny_field h1 h3 rfl ?_)
  show wpAny _ _ (if (Value.ref t == Value.none) = true then _ else _) _ _ _
  rw [if_neg (show ¬ ((Value.ref t == Value.none) = true) from by simp)]
  refine wpAny_bind (wpAny_field h1 h3 rfl ?_)
  refine wpAny_bind (wpAny_seqItems g1 g3 ?_)
  show wpAny _ _ (match items[(i : Int).toNat]? with | some x => _ | none => _) _ _ _
  rw [Int.toNat_natCast, hx]
  refine wpAny_bind (wpAny_rule ?_)
  refine wpAny_bind (wpAny_setField h1 h3 (by show 0 < 2; omega) ?_)
  refine stop_raise hA fun h' e k ne => q h' e (fun b o hb e' => k b o ?_) ne
  exact (Heap.get?_update_ne _ _ _ _ hb).trans e'
theorem next_item {Q : Value → Shared → Prop} (hi : s.heap.IsTupleIter it t i) (ht : s.heap.IsTuple t items) (hx : items[i]? = some x)
    (q : ∀ h' : Heap, h'.IsTupleIter it t (i + 1) → Heap.SameBut it s.heap h' → Q x { s with heap := h' }) : wpAny (model prog w) A (Builtin.SmallTypes.nextOf (.ref it)) Q E s := by
  have hT : s.TypeIs (.ref it) "tuple_iterator" := by
    obtain ⟨o, h1, h2, _⟩ := hi
    exact ⟨o, h1, h2⟩
  refine wpAny_bind (wpAny_callSpecial?_slotG hT PyProof.Rows.slot_tupleiter_next.toG ?_)
  refine call_meets (S := fun A R s => s.heap.IsTupleIter it t i ∧ s.heap.IsTuple t items ∧ ∀ h' : Heap, h'.IsTupleIter it t (i + 1) → Heap.SameBut it s.heap h' → R (.ok (.ret x)) { s with heap := h' })
    PyProof.Rows.slot_tupleiter_next hT PyProof.Rows.entry_tupleiter_next (PyProof.Rows.args_tupleiter_next _) ?_ ⟨hi, ht, fun h' a b => ?_⟩
  · intro prog w A R s ⟨a, b, c⟩
    exact tup_item a b hx c
  · exact wpAny_pure (q h' a b)
theorem next_end {Q : Value → Shared → Prop} (hA : A.handled = none) (hi : s.heap.IsTupleIter it t i) (ht : s.heap.IsTuple t items) (hx : items[i]? = none)
    (q : ∀ (h' : Heap) (e : Addr), Heap.ExtBut it s.heap h' → (∃ o, h'.get? e = some o ∧ o.cls = Value.type "StopIteration") → E (.ref e) { s with heap := h' }) : wpAny (model prog w) A (Builtin.SmallTypes.nextOf (.ref it)) Q E s := by
  have hT : s.TypeIs (.ref it) "tuple_iterator" := by
    obtain ⟨o, h1, h2, _⟩ := hi
    exact ⟨o, h1, h2⟩
  refine wpAny_bind (wpAny_callSpecial?_slotG hT PyProof.Rows.slot_tupleiter_next.toG ?_)
  refine call_meets (S := fun A R s => A.handled = none ∧ s.heap.IsTupleIter it t i ∧ s.heap.IsTuple t items ∧ ∀ (h' : Heap) (e : Addr), Heap.ExtBut it s.heap h' → (∃ o, h'.get? e = some o ∧ o.cls = Value.type "StopIteration") → R (.error (.ref e)) { s with heap := h' })
    PyProof.Rows.slot_tupleiter_next hT PyProof.Rows.entry_tupleiter_next (PyProof.Rows.args_tupleiter_next _) ?_ ⟨hA, hi, ht, fun h' e a b => ?_⟩
  · intro prog w A R s ⟨hA, a, b, c⟩
    exact tup_end hA a b hx c
  · exact q h' e a b
theorem draws_tuple (hA : A.handled = none) (hne : t ≠ it) (items : Array Value) : Draws prog w A it [it, t] items.size (fun i v => items[i]? = some v) fun i h => h.IsTupleIter it t i ∧ h.IsTuple t items where
  live := fun i h ⟨⟨o, h1, _⟩, _⟩ => ⟨o, h1⟩
  frame := fun i h h' ⟨⟨o, h1, h2⟩, ot, g1, g2⟩ k => ⟨⟨o, k it (by simp) o h1, h2⟩, ot, k t (by simp) ot g1, g2⟩
  item := fun i s Q E hi ⟨a, b⟩ q => next_item a b (Array.getElem?_eq_getElem hi) fun h' c d => q _ h' _ (Array.getElem?_eq_getElem hi) ⟨c, by
    obtain ⟨ot, g1, g2⟩ := b
    exact ⟨ot, (d.2 t hne).trans g1, g2⟩⟩ d
  done := fun s Q E ⟨a, b⟩ q => next_end hA a b (Array.getElem?_eq_none (Nat.le_refl _)) q
theorem new_cls (a : Value) : Builtin.SmallTypes.newClass "enumerate" { pos := [Value.type "enumerate", a] } = pure (Value.type "enumerate", [a]) := by
  unfold Builtin.SmallTypes.newClass
  simp only [sub_enumerate]
  rfl
theorem bool_app {α : Type} {M : Model} {A : Around} {E : Value → Shared → Prop} {s : Shared} {Q : α → Shared → Prop} {F : Bool → Sem α} (h : ∀ b, wpAny M A (F b) Q E s) (b : Bool) : wpAny M A (F b) Q E s := h b
theorem en {prog : Program} {w : World} {A : Around} {E : Value → Shared → Prop} {s : Shared} {t : Addr} {items : Array Value} {Q : PySem.Fin → Shared → Prop} (ht : s.heap.IsTuple t items)
   (q : Q (.done (.ret (.ref (s.heap.push { cls := Value.type "tuple_iterator", data := Data.fields #[Value.ref t, Value.int 0 0] }).objs.size))) { s with heap := (s.heap.push { cls := Value.type "tuple_iterator", data := Data.fields #[Value.ref t, Value.int 0 0] }).push { cls := Value.type "enumerate", data := Data.fields #[Value.none, Value.bool false, Value.ref s.heap.objs.size, rawInt 0, Value.none, Value.none] } }) :
   wpAny (model prog w) A (Builtin.«enumerate.__new__» { pos := [Value.type "enumerate", Value.ref t] }) Q E s := by
  refine wpAny_bind ?_
  rw [new_cls]
  refine wpAny_pure ?_
  show wpAny _ _ (ite ((Value.type "enumerate" == Value.type "enumerate") = true) (Bind.bind (Builtin.SmallTypes.calledThroughType (Value.type "enumerate")) _) _) _ _ _
  rw [if_pos (by decide)]
  refine wpAny_bind ?_
  refine wpAny_bind (wpAny_stack_any fun st => wpAny_pure ?_)
  have fin : wpAny (model prog w) A (do
      let z ← pyIter (Value.ref t)
      let r ← Builtin.SmallTypes.newRecord (Value.type "enumerate") (Builtin.SmallTypes.ownedTupleFields ++ [z, rawInt 0, Value.none, Value.none])
      ret r) Q E s := by
    refine wpAny_bind (wpAny_pyIter_tuple ht ?_)
    refine wpAny_bind ?_
    show wpAny _ _ (newObj (Value.type "enumerate") (Data.fields #[Value.none, Value.bool false, Value.ref s.heap.objs.size, rawInt 0, Value.none, Value.none])) _ _ _
    refine wpAny_newObj_type ?_ ?_
    · exact wpAny_pure q
    · show 6 ≤ sizeLine + 2
      rw [sizeLine_eq]
      decide
  show wpAny _ _ (ite _ (Bind.bind _ _) (Bind.bind _ _)) _ _ _
  have leaf : ∀ {y : Sem (Value × Option Value)} {k : Value × Option Value → Sem PySem.Fin}, y = pure (Value.ref t, none) → wpAny (model prog w) A (k (Value.ref t, none)) Q E s → wpAny (model prog w) A (y >>= k) Q E s := fun e h => by
    rw [e]
    exact wpAny_bind (wpAny_pure h)
  split <;> split <;> exact leaf rfl fin
theorem call_enum {prog : Program} {w : World} {A : Around} {E : Value → Shared → Prop} {s : Shared} {t : Addr} {items : Array Value} {Q : Value → Shared → Prop} (ht : s.heap.IsTuple t items)
    (q : ∀ h' : Heap, IsEnum h' (s.heap.objs.size + 1) s.heap.objs.size 0 Value.none → h'.IsTupleIter s.heap.objs.size t 0 → h'.objs.size = s.heap.objs.size + 2 → (∀ b o, s.heap.get? b = some o → h'.get? b = some o) → Q (.ref (s.heap.objs.size + 1)) { s with heap := h' }) :
    wpAny (model prog w) A (call (.type "enumerate") [.ref t]) Q E s := by
  refine callType_new (S := fun A R s => s.heap.IsTuple t items ∧ R (.ok (.ret (.ref (s.heap.push { cls := Value.type "tuple_iterator", data := Data.fields #[Value.ref t, Value.int 0 0] }).objs.size))) { s with heap := (s.heap.push { cls := Value.type "tuple_iterator", data := Data.fields #[Value.ref t, Value.int 0 0] }).push { cls := Value.type "enumerate", data := Data.fields #[Value.none, Value.bool false, Value.ref s.heap.objs.size, rawInt 0, Value.none, Value.none] } })
    F.called_enumerate (by decide) (F.typeCall_enumerate_1 _) (F.newCall_enumerate_1 _) (fun obj => F.args_object_init_2 _ _) F.entry_enumerate_new ?_ ?_
  · intro prog w A R s ⟨a, b⟩
    exact en a b
  · have e1 : (s.heap.push { cls := Value.type "tuple_iterator", data := Data.fields #[Value.ref t, Value.int 0 0] }).objs.size = s.heap.objs.size + 1 := Heap.size_push ..
    refine ⟨ht, ⟨_, Heap.get?_push_size _ rfl, rfl⟩, ?_⟩
    have z := q ((s.heap.push { cls := Value.type "tuple_iterator", data := Data.fields #[Value.ref t, Value.int 0 0] }).push { cls := Value.type "enumerate", data := Data.fields #[Value.none, Value.bool false, Value.ref s.heap.objs.size, rawInt 0, Value.none, Value.none] })
      (by
        show Heap.get? _ _ = _
        rw [← e1]
        exact Heap.get?_push_size _ rfl)
      ⟨_, Heap.get?_push_of_some _ (Heap.get?_push_size _ rfl), rfl, rfl⟩ (by rw [Heap.size_push, e1]) (fun b o e => Heap.get?_push_of_some _ (Heap.get?_push_of_some _ e))
    rw [← e1] at z
    exact z
end SwN
end PySem
namespace PySem
namespace SwN
theorem end_enum {prog : Program} {w : World} {A : Around} {E : Value → Shared → Prop} {s : Shared} {e it t : Addr} {i : Nat} {old : Value} {items : Array Value} {Q : Option Value → Shared → Prop} (hA : A.in1.handled = none) (he : IsEnum s.heap e it (i : Int) old) (hi : s.heap.IsTupleIter it t i) (ht : s.heap.IsTuple t items) (hl : items.size ≤ i)
    (hei : e ≠ it) (hte : t ≠ e) (hti : t ≠ it)
    (q : ∀ (h' : Heap) (tk : Nat), (∀ b o, b ≠ e → b ≠ it → s.heap.get? b = some o → h'.get? b = some o) → Q none { s with heap := h', toks := tk }) : wpAny (model prog w) A (pyNext (.ref e)) Q E s := by
  have D : Draws prog w A.in1 it [it, t] i (fun _ _ => True) (fun j h => j = i ∧ h.IsTupleIter it t i ∧ h.IsTuple t items) :=
    { live := fun j h ⟨_, ⟨o, h1, _⟩, _⟩ => ⟨o, h1⟩
      frame := fun j h h' ⟨hj, ⟨o, h1, h2⟩, ot, g1, g2⟩ k => ⟨hj, ⟨o, k it (by simp) o h1, h2⟩, ot, k t (by simp) ot g1, g2⟩
      item := fun j s Q E hj ⟨hj', _⟩ _ => absurd hj' (Nat.ne_of_lt hj)
      done := fun s Q E ⟨_, a, b⟩ q => next_end hA a b (Array.getElem?_eq_none hl) q }
  have wt := WalksT.enumerateD D e hei (by simp [hei, Ne.symm hte]) (by simp)
  refine wt.done s Q E ⟨⟨old, he⟩, rfl, hi, ht⟩ fun h' tk kp => q h' tk fun b o b1 b2 z => kp b o (by simp [b1, b2]) z
end SwN
end PySem
namespace PySem
namespace SwN
theorem self_enum {prog : Program} {w : World} {A : Around} {E : Value → Shared → Prop} {s : Shared} {e it : Addr} {i : Int} {old : Value} {Q : Value → Shared → Prop} (h : IsEnum s.heap e it i old) (q : Q (.ref e) s) : wpAny (model prog w) A (pyIter (.ref e)) Q E s := by
  have hT : s.TypeIs (.ref e) "enumerate" := ⟨_, h, rfl⟩
  refine wpAny_pyIter_slot hT F.slot_enumerate_iter ?_
  refine call_meets (S := fun A R s => R (.ok (.ret (.ref e))) s) F.slot_enumerate_iter hT F.entry_enumerate_iter (F.args_enumerate_iter_1 _) ?_ ?_
  · intro prog w A R s hR
    refine wpAny_bind ?_
    show wpAny _ _ (pure (Value.ref e, [])) _ _ _
    exact wpAny_pure (wpAny_pure hR)
  · exact ⟨"enumerate", _, hT, F.slot_enumerate_next.lookup, q⟩
end SwN
end PySem
namespace L2
open PySem PySem.Spec PyProof.Rows
/-- the turns of enumerate(t), t a tuple -/
def Itet (K : PySem.W.Frag) (a : Addr) : It where
  go := fun i H => ∃ xs x, SqT K H a xs ∧ xs[i]? = some x
  yld := fun i H v H' => ∃ T x, v = V.ref T ∧ H T = none ∧ H' = upd H T (.tup [.int i, x]) ∧ ∀ xs, SqT K H a xs → xs[i]? = some x
  stop := fun i H => ∃ xs, SqT K H a xs ∧ xs.length ≤ i
def iEnumT (K : PySem.W.Frag) (ta : TE) : TI := fun σ H R => ta σ H fun v H1 => ∃ a xs, v = .ref a ∧ SqT K H1 a xs ∧ R (Itet K a) H1
theorem vals_len {xs : List V} {us : List Value} (h : Vals xs us) : xs.length = us.length := by
  induction h with
  | nil => rfl
  | cons _ _ ih => rw [List.length_cons, List.length_cons, ih]
theorem turn_enumT {P : Program} {w : World} {K : PySem.W.Frag} {elts : List Expr} {k : Nat} {pos : Pos} {e it t : Addr} (hei : e ≠ it) (hte : t ≠ e) (hti : t ≠ it) :
    Turn P w K (.Tuple elts k pos) (Itet K t) [e, it] e (fun i h => (∃ old, IsEnum h e it (i : Int) old) ∧ h.IsTupleIter it t i) where
  mem := by simp
  obj := fun i h ⟨⟨old, h1⟩, o, g1, g2, g3⟩ b hb => by
    simp only [List.mem_cons, List.not_mem_nil, or_false] at hb
    rcases hb with rfl | rfl
    · exact ⟨_, h1, fun v z => by cases z⟩
    · exact ⟨o, g1, fun v z => by rw [g3] at z; cases z⟩
  keep := fun i h h' ⟨⟨old, h1⟩, o, g1, g2⟩ q => ⟨⟨old, q e (by simp) _ h1⟩, o, q it (by simp) o g1, g2⟩
  self := fun A i s Q E ⟨⟨old, h1⟩, h2⟩ q => PySem.SwN.self_enum h1 q
  item := by
    intro X hp hw hK hc i pins s σ H E I fok ⟨⟨old, he⟩, hi⟩ ⟨xs, x, hq, hx⟩
    subst hp hw hK
    have hA : X.A.in1.handled = none := I.ok.hd hc
    obtain ⟨its, hv, htup, hsz⟩ := I.tuple hq
    obtain ⟨u, hu, ru⟩ := Vals.get hv hx
    have wt := WalksT.enumerateD (PySem.SwN.draws_tuple (prog := X.prog) (w := X.w) hA hti its.toArray) e hei (by simp [hei, Ne.symm hte]) (by simp)
    have hin : i < its.toArray.size := by
      rw [List.size_toArray, ← vals_len hv]
      exact (List.getElem?_eq_some_iff.mp hx).1
    refine wt.item i s _ E hin ⟨⟨old, he⟩, hi, htup⟩ fun T vals h1 tk pt hT tupT mid kp => ⟨.ref T, rfl, wt.go elts k pos i T _ _ E mid fun h2 st kp2 => ?_⟩
    obtain ⟨tt, y, hy, rfl⟩ := pt
    have hyu : y = u := by
      have z : its.toArray[i]? = some u := by rw [List.getElem?_toArray]; exact hu
      rw [z] at hy
      exact (Option.some.inj hy).symm
    subst hyu
    have hTe : T ≠ e ∧ T ≠ it := ⟨mid.2.2.1, mid.2.2.2⟩
    have kp12 : ∀ b o, b ≠ e → b ≠ it → s.heap.get? b = some o → h2.get? b = some o := fun b o b1 b2 q => kp2 b o (by simp [b1, b2]) (kp b o (by simp [b1, b2]) q)
    obtain ⟨oT, t1, t2, nn, t3⟩ := tupT
    have tT : h2.get? T = some oT := kp2 T oT (by simp [hTe.1, hTe.2]) t1
    have sT : s.heap.get? T = none := by
      cases z : s.heap.get? T with
      | none => rfl
      | some o => exact absurd (Heap.lt_size z) (Nat.not_lt.mpr hT)
    obtain ⟨f1, f2, f3, f4, f5, f6⟩ := fok e (by simp)
    obtain ⟨g1, g2, g3, g4, g5, g6⟩ := fok it (by simp)
    obtain ⟨m1, a1, a2⟩ := restrict s.heap fun b => decide (b ≠ e)
    obtain ⟨m2, b1, b2⟩ := restrict h2 fun b => decide (b ≠ T)
    have I1 : Inv X pins σ H ⟨m1, s.gens, s.drawn, s.toks, s.os⟩ := I.turned (it := e) (t' := s.toks) (fun b o hb q => (a1 b (decide_eq_true hb)).trans q) f1 f2 f4 f5 f6
    have I2 : Inv X pins σ H ⟨m2, s.gens, s.drawn, tk, s.os⟩ := Inv.turned (s := ⟨m1, s.gens, s.drawn, s.toks, s.os⟩) (it := it) (t' := tk) I1 (fun b o hb q => by
      have q' : m1.get? b = some o := q
      have be : b ≠ e := fun z => by
        rw [z, a2 e (by simp)] at q'
        cases q'
      have q2 : s.heap.get? b = some o := (a1 b (decide_eq_true be)).symm.trans q'
      have bT : b ≠ T := fun z => by rw [z, sT] at q2; cases q2
      exact (b1 b (decide_eq_true bT)).trans (kp12 b o be hb q2)) g1 g2 g4 g5 g6
    have HT : H T = none := I.hok.fresh hT
    have tup : SqT X.K (upd H T (.tup [.int i, x])) T [.int i, x] := .inl (.inl upd_same)
    have I3 : Inv X pins σ (upd H T (.tup [.int i, x])) ⟨h2, s.gens, s.drawn, tk, s.os⟩ := Inv.laidN (s := ⟨m2, s.gens, s.drawn, tk, s.os⟩) (t' := tk) I2 (fun b o q => by
      have q' : m2.get? b = some o := q
      have bT : b ≠ T := fun z => by
        rw [z, b2 T (by simp)] at q'
        cases q'
      exact (b1 b (decide_eq_true bT)).symm.trans q') (b2 T (by simp)) HT ⟨(by show 2 ≤ sizeLine; decide), [_, _], .cons ⟨_, rfl⟩ (.cons ru .nil), ⟨oT, tT, t2, nn, t3⟩⟩
    refine ⟨.ref T, _, I3, rfl, ⟨T, x, rfl, HT, rfl, fun ys hys => ?_⟩, ⟨st.1, st.2.1⟩, fun b hb => ?_⟩
    · rw [I.tuple_inj hys hq]
      exact hx
    · simp only [List.mem_cons, List.not_mem_nil, or_false] at hb
      rcases hb with rfl | rfl
      · rw [upd_ne (Ne.symm hTe.1)]
        exact f1
      · rw [upd_ne (Ne.symm hTe.2)]
        exact g1
  done := by
    intro X hp hw hK hc i pins s σ H E I fok ⟨⟨old, he⟩, hi⟩ ⟨xs, hq, hl⟩
    subst hp hw hK
    have hA : X.A.in1.handled = none := I.ok.hd hc
    obtain ⟨its, hv, htup, hsz⟩ := I.tuple hq
    have wt := WalksT.enumerateD (PySem.SwN.draws_tuple (prog := X.prog) (w := X.w) hA hti its.toArray) e hei (by simp [hei, Ne.symm hte]) (by simp)
    obtain ⟨f1, f2, f3, f4, f5, f6⟩ := fok e (by simp)
    obtain ⟨g1, g2, g3, g4, g5, g6⟩ := fok it (by simp)
    have hle : its.toArray.size ≤ i := by
      rw [List.size_toArray, ← vals_len hv]
      exact hl
    refine PySem.SwN.end_enum hA he hi htup hle hei hte hti fun h2 tk kp12 => ⟨rfl, ?_⟩
    obtain ⟨m1, a1, a2⟩ := restrict s.heap fun b => decide (b ≠ e)
    have I1 : Inv X pins σ H ⟨m1, s.gens, s.drawn, s.toks, s.os⟩ := I.turned (it := e) (t' := s.toks) (fun b o hb q => (a1 b (decide_eq_true hb)).trans q) f1 f2 f4 f5 f6
    exact Inv.turned (s := ⟨m1, s.gens, s.drawn, s.toks, s.os⟩) (it := it) (t' := tk) I1 (fun b o hb q => by
      have q' : m1.get? b = some o := q
      have be : b ≠ e := fun z => by
        rw [z, a2 e (by simp)] at q'
        cases q'
      exact kp12 b o be hb ((a1 b (decide_eq_true be)).symm.trans q')) g1 g2 g4 g5 g6
/-- for i, x in enumerate(t), t a tuple -/
theorem pi_enumT {X : Cx} {e : Expr} {te : TE} {p pos tpos : Pos} {elts : List Expr} {kk : Nat} (hg : Gl X "enumerate") (hm : X.mg "enumerate" = none) (he : PE X e te)
    (hs : starEach [e] X.env = [(false, eval e X.env)] := by rfl) : PI X (.Tuple elts kk tpos) (.Call (.Name "enumerate" p) [e] [] pos) (iEnumT X.K te) := by
  refine ⟨fun pins s σ H R I h => ?_⟩
  refine wpAny_Call_Name_kw (ld_blt I hg hm (u := .type "enumerate") (by decide +kernel) ?_)
  rw [hs]
  show wpAny _ _ (callWith pos (Value.type "enumerate") [] [(false, _)] []) _ _ _
  refine callWith_type1 ?_
  show wpAny _ _ (eval e X.env) _ _ _
  refine thn (he.run pins s σ H _ I h) fun u s1 hh => ?_
  obtain ⟨v, H1, I1, rv, a, xs, ev, hq, hR⟩ := hh
  subst ev
  obtain rfl : u = Value.ref a := rv
  obtain ⟨its, hv, htup, _⟩ := I1.tuple hq
  refine PySem.SwN.call_enum htup fun h' h1 h2 h3 k => ?_
  have n1 : H1 s1.heap.objs.size = none := I1.hok.fresh (Nat.le_refl _)
  have n2 : H1 (s1.heap.objs.size + 1) = none := I1.hok.fresh (Nat.le_succ _)
  have F1 : FpOk X pins H1 s1.heap.objs.size := I1.fpOk (Nat.le_refl _) n1
  have F2 : FpOk X pins H1 (s1.heap.objs.size + 1) := I1.fpOk (Nat.le_succ _) n2
  obtain ⟨f1, f2, f3, f4, f5, f6⟩ := id F1
  have J : Inv X pins σ H1 { s1 with heap := h' } := I1.turned (it := s1.heap.objs.size) (t' := s1.toks) (fun b o _ q => k b o q) f1 f2 f4 f5 f6
  refine PySem.SwN.self_enum h1 ?_
  obtain ⟨oT, t1, _⟩ := htup
  have la : a < s1.heap.objs.size := Heap.lt_size t1
  refine ⟨s1.heap.objs.size + 1, [s1.heap.objs.size + 1, s1.heap.objs.size], _, Itet X.K a, H1, rfl, J, turn_enumT (Nat.succ_ne_self _) (Nat.ne_of_lt (Nat.lt_succ_of_lt la)) (Nat.ne_of_lt la), ⟨⟨_, h1⟩, h2⟩, fun b hb => ?_, hR⟩
  simp only [List.mem_cons, List.not_mem_nil, or_false] at hb
  rcases hb with rfl | rfl
  · exact F2
  · exact F1
end L2
set_option Elab.async false
set_option linter.all false
set_option maxRecDepth 100000
set_option maxHeartbeats 4000000
/-! What can be seen from where. -/
namespace L2
open PySem PySem.Spec PyProof.Rows
theorem walk_enumT {K : PySem.W.Frag} {a : Addr} {xs : List V} : Walk (Itet K a) xs.length (fun H => SqT K H a xs) (YPair (fun i => some (.int i)) (fun i => xs[i]?)) where
  goes := fun i H hi h => ⟨xs, xs[i], h, List.getElem?_eq_getElem hi⟩
  stops := fun H h => ⟨xs, h, Nat.le_refl _⟩
  yields := fun i H x H' hi h ⟨T, y, e1, e2, e3, e4⟩ => ⟨T, .int i, y, e1, e2, e3, rfl, e4 xs h⟩
end L2
namespace Sw
open PySem PySem.Spec PyProof.Rows L2
def seenOne (n : Int) (cam at_ k : List Int) : Option (List Int) :=
  match offI n cam at_ k, cam, k with
  | some (u, v), [_, _, g, l], [_, _, b] => if l - g ≤ b then some [u, v, b] else none
  | _, _, _ => none
/-- the stars that can be seen, by number, with offset and brightness -/
def seenI (n : Int) (cam at_ : List Int) : Nat → List (List Int) → List (Int × List Int)
  | _, [] => []
  | j, k :: r => (match seenOne n cam at_ k with | some d => [((j : Int), d)] | none => []) ++ seenI n cam at_ (j + 1) r
theorem seenI_push (n : Int) (cam at_ : List Int) : ∀ (l : List (List Int)) (j : Nat) (k : List Int), seenI n cam at_ j (l ++ [k]) = seenI n cam at_ j l ++ (match seenOne n cam at_ k with | some d => [(((j + l.length : Nat) : Int), d)] | none => [])
  | [], j, k => by
    show (match seenOne n cam at_ k with | some d => [((j : Int), d)] | none => []) ++ [] = [] ++ _
    rw [List.append_nil, List.nil_append]
    rfl
  | x :: r, j, k => by
    show (match seenOne n cam at_ x with | some d => [((j : Int), d)] | none => []) ++ seenI n cam at_ (j + 1) (r ++ [k]) = ((match seenOne n cam at_ x with | some d => [((j : Int), d)] | none => []) ++ seenI n cam at_ (j + 1) r) ++ _
    rw [seenI_push n cam at_ r (j + 1) k, List.append_assoc, show j + 1 + r.length = j + (x :: r).length by simp only [List.length_cons]; omega]
theorem seenI_lt (n : Int) (cam at_ : List Int) : ∀ (l : List (List Int)) (j : Nat), ∀ z ∈ seenI n cam at_ j l, z.1 < ((j + l.length : Nat) : Int)
  | [], j, z, h => by cases h
  | x :: r, j, z, h => by
    rcases List.mem_append.mp h with h | h
    · cases e : seenOne n cam at_ x with
      | none => rw [e] at h; cases h
      | some d =>
        rw [e] at h
        rw [List.mem_singleton.mp h]
        simp only [List.length_cons]
        omega
    · have := seenI_lt n cam at_ r (j + 1) z h
      simp only [List.length_cons]
      omega
abbrev Shown := List (Int × Addr × List Int)
def shownK (zs : Shown) : List (Key × V) := zs.map fun z => (Sum.inl z.1, V.ref z.2.1)
def shownD (zs : Shown) : List (Int × List Int) := zs.map fun z => (z.1, z.2.2)
def ShownAt (K : PySem.W.Frag) (H : Hp) (zs : Shown) : Prop := ∀ z ∈ zs, SqT K H z.2.1 (z.2.2.map V.int)
theorem put_new {v : V} {j : Int} {zs : Shown} (h : ∀ z ∈ zs, z.1 < j) : putK (shownK zs) (.inl j) v = shownK zs ++ [(.inl j, v)] := by
  unfold putK
  rw [if_neg]
  intro q
  obtain ⟨y, hy, e⟩ := List.any_eq_true.mp q
  obtain ⟨z, hz, rfl⟩ := List.mem_map.mp hy
  have e' : (Sum.inl z.1 : Key) = Sum.inl j := of_decide_eq_true e
  injection e' with e'
  have := h z hz
  omega
/-- dict of what can be seen -/
def spApp (K : PySem.W.Frag) (C : Addr) : Sp := fun vs H Q _ => ∃ (p pa : Addr) (n : Int) (ks : Tups) (cam at_ : List Int), vs = [.ref p, .ref pa] ∧ SkyS K C H p n ks cam ∧ isSky n (keys ks) cam = true ∧ SqT K H pa (at_.map V.int) ∧ isPose n at_ = true ∧
  ∀ (H' : Hp) (d : Addr) (zs : Shown), Same H H' → H' d = some (.dK (shownK zs)) → ShownAt K H' zs → shownD zs = seenI n cam at_ 0 (keys ks) → Q (.ref d) H'
end Sw
namespace Sw
open PySem PySem.Spec PyProof.Rows L2
theorem none_back {H H' : Hp} {p : Addr} (s : Same H H') (n : H' p = none) : H p = none := by
  cases e : H p with
  | none => rfl
  | some o => rw [s _ _ e] at n; cases n
theorem sqT_dk {K : PySem.W.Frag} {H : Hp} {d p : Addr} {kvs : List (Key × V)} {o : HO} {ys : List V} (hl : H d = some (.dK kvs)) (h : SqT K H p ys) : SqT K (upd H d o) p ys := by
  rcases h with (h | ⟨u, h⟩) | h
  · exact .inl (.inl (by rw [upd_ne (fun z => by rw [z, hl] at h; cases h)]; exact h))
  · exact .inl (.inr ⟨u, by rw [upd_ne (fun z => by rw [z, hl] at h; cases h)]; exact h⟩)
  · exact .inr h
theorem shown_len (zs : Shown) : (shownK zs).length = zs.length := List.length_map ..
theorem shownD_len (zs : Shown) : (shownD zs).length = zs.length := List.length_map ..
theorem seenI_len (n : Int) (cam at_ : List Int) : ∀ (l : List (List Int)) (j : Nat), (seenI n cam at_ j l).length ≤ l.length
  | [], _ => Nat.le_refl _
  | k :: r, j => by
    show ((match seenOne n cam at_ k with | some d => [((j : Int), d)] | none => []) ++ seenI n cam at_ (j + 1) r).length ≤ _
    have := seenI_len n cam at_ r (j + 1)
    rw [List.length_append]
    cases seenOne n cam at_ k with
    | none => simp only [List.length_nil, List.length_cons]; omega
    | some d => simp only [List.length_cons, List.length_nil]; omega
end Sw
namespace Sw
open PySem PySem.Spec PyProof.Rows L2
def isSure (r b g l : Int) : List Int → Bool
  | [u, v, c] => decide (iabs u ≤ r - b) && decide (iabs v ≤ r - b) && decide (l + g ≤ c)
  | _ => false
def sureI (r b g l : Int) (ds : List (Int × List Int)) : List Int := (ds.filter fun z => isSure r b g l z.2).map (·.1)
def spSure (K : PySem.W.Frag) (C : Addr) : Sp := fun vs H Q _ => ∃ (p d : Addr) (n : Int) (st : List V) (r b g l : Int) (zs : Shown), vs = [.ref p, .ref d] ∧ SkyAt K C H p n st [r, b, g, l] ∧ H d = some (.dK (shownK zs)) ∧ ShownAt K H zs ∧ (∀ z ∈ zs, z.2.2.length = 3) ∧ zs.length ≤ 64 ∧
  ∀ (H' : Hp) (D : Addr), Same H H' → H D = none → H' D = some (.lst ((sureI r b g l (shownD zs)).map V.int)) → Q (.ref D) H'
end Sw
namespace Sw
open PySem PySem.Spec PyProof.Rows L2
def sureC (cam : List Int) (ds : List (Int × List Int)) : List Int :=
  match cam with
  | [r, b, g, l] => sureI r b g l ds
  | _ => []
theorem seenOne_three {n : Int} {cam at_ k d : List Int} (h : seenOne n cam at_ k = some d) : d.length = 3 := by
  unfold seenOne at h
  split at h
  · split at h
    · cases h
      rfl
    · cases h
  · cases h
theorem seenI_three (n : Int) (cam at_ : List Int) : ∀ (l : List (List Int)) (j : Nat), ∀ z ∈ seenI n cam at_ j l, z.2.length = 3
  | [], j, z, h => by cases h
  | x :: r, j, z, h => by
    rcases List.mem_append.mp h with h | h
    · cases e : seenOne n cam at_ x with
      | none => rw [e] at h; cases h
      | some d =>
        rw [e] at h
        rw [List.mem_singleton.mp h]
        exact seenOne_three e
    · exact seenI_three n cam at_ r (j + 1) z h
def seenN (n : Int) (cam at_ : List Int) (kk : List (List Int)) : List Int := (seenI n cam at_ 0 kk).map (·.1)
def sureN (n : Int) (cam at_ : List Int) (kk : List (List Int)) : List Int := sureC cam (seenI n cam at_ 0 kk)
/-- numbers of stars, told at an attitude, with its error -/
def spNumsOf (K : PySem.W.Frag) (C D : Addr) (f : Int → List Int → List Int → List (List Int) → List Int) : Sp := fun vs H Q E => ∃ (p pa : Addr) (n : Int) (ks : Tups) (cam at_ : List Int), vs = [.ref p, .ref pa] ∧ SkyS K C H p n ks cam ∧ isSky n (keys ks) cam = true ∧ SqT K H pa (at_.map V.int) ∧
  (isPose n at_ = false → ∀ (d : Addr) (H' : Hp), Same H H' → H' d = some (.xd [("attitude", .ref pa)]) → E (.ref D) (some d) H') ∧
  (isPose n at_ = true → ∀ (H' : Hp) (l : Addr), Same H H' → H l = none → H' l = some (.lst ((f n cam at_ (keys ks)).map V.int)) → Q (.ref l) H')
end Sw
namespace Sw
open PySem PySem.Spec PyProof.Rows L2
theorem near_iff {n z t room : Int} (h4 : 4 ≤ n) (h9 : n ≤ 9) (hr : 2 * room + 1 ≤ n) (t0 : -room ≤ t) (t1 : t ≤ room) : (t - z) % n = 0 ↔ near n z = t := by
  unfold near
  rcases side_cases h4 h9 with rfl | rfl | rfl | rfl | rfl | rfl <;> omega
theorem turn_back {q a b : Int} (q0 : 0 ≤ q) (q3 : q ≤ 3) : turnX (4 - q) (turnX q a b) (turnY q a b) = a ∧ turnY (4 - q) (turnX q a b) (turnY q a b) = b := by
  rcases quarter_cases q0 q3 with rfl | rfl | rfl | rfl
  · exact ⟨rfl, rfl⟩
  · exact ⟨show a = a from rfl, show - -b = b by omega⟩
  · exact ⟨show - -a = a by omega, show - -b = b by omega⟩
  · exact ⟨show - -a = a by omega, show b = b from rfl⟩
theorem turn_back2 {q a b : Int} (q0 : 0 ≤ q) (q3 : q ≤ 3) : turnX q (turnX (4 - q) a b) (turnY (4 - q) a b) = a ∧ turnY q (turnX (4 - q) a b) (turnY (4 - q) a b) = b := by
  rcases quarter_cases q0 q3 with rfl | rfl | rfl | rfl
  · exact ⟨rfl, rfl⟩
  · exact ⟨show - -a = a by omega, show b = b from rfl⟩
  · exact ⟨show - -a = a by omega, show - -b = b by omega⟩
  · exact ⟨show a = a from rfl, show - -b = b by omega⟩
theorem turn_bd {q a b room : Int} (q0 : 0 ≤ q) (q3 : q ≤ 3) (a0 : -room ≤ a) (a1 : a ≤ room) (b0 : -room ≤ b) (b1 : b ≤ room) : (-room ≤ turnX q a b ∧ turnX q a b ≤ room) ∧ (-room ≤ turnY q a b ∧ turnY q a b ≤ room) := by
  rcases quarter_cases q0 q3 with rfl | rfl | rfl | rfl
  · exact ⟨⟨a0, a1⟩, b0, b1⟩
  · exact ⟨⟨show -room ≤ -b by omega, show -b ≤ room by omega⟩, a0, a1⟩
  · exact ⟨⟨show -room ≤ -a by omega, show -a ≤ room by omega⟩, show -room ≤ -b by omega, show -b ≤ room by omega⟩
  · exact ⟨⟨b0, b1⟩, show -room ≤ -a by omega, show -a ≤ room by omega⟩
theorem off_some {n r b g l x y q sx sy bb u v : Int} (h : offI n [r, b, g, l] [x, y, q] [sx, sy, bb] = some (u, v)) : (-(r + b) ≤ u ∧ u ≤ r + b) ∧ (-(r + b) ≤ v ∧ v ≤ r + b) := by
  unfold offI at h
  simp only at h
  split at h
  · cases h
  · rename_i hh
    cases h
    unfold iabs at hh
    constructor <;> constructor <;> (repeat' split at hh) <;> omega
theorem off_iff {n r b g l x y q sx sy bb dx dy : Int} (h4 : 4 ≤ n) (h9 : n ≤ 9) (hr : 2 * (r + b) + 1 ≤ n) (q0 : 0 ≤ q) (q3 : q ≤ 3) (a0 : -(r + b) ≤ dx) (a1 : dx ≤ r + b) (b0 : -(r + b) ≤ dy) (b1 : dy ≤ r + b) :
    ((x + turnX q dx dy - sx) % n = 0 ∧ (y + turnY q dx dy - sy) % n = 0) ↔ offI n [r, b, g, l] [x, y, q] [sx, sy, bb] = some (dx, dy) := by
  obtain ⟨⟨c0, c1⟩, d0, d1⟩ := turn_bd q0 q3 a0 a1 b0 b1
  rw [show x + turnX q dx dy - sx = turnX q dx dy - (sx - x) by omega, show y + turnY q dx dy - sy = turnY q dx dy - (sy - y) by omega, near_iff h4 h9 hr c0 c1, near_iff h4 h9 hr d0 d1]
  constructor
  · rintro ⟨e1, e2⟩
    unfold offI
    simp only
    rw [e1, e2, (turn_back q0 q3).1, (turn_back q0 q3).2, if_neg]
    unfold iabs
    intro z
    (repeat' split at z) <;> omega
  · intro h
    unfold offI at h
    simp only at h
    split at h
    · cases h
    · have h' := Option.some.inj h
      injection h' with e1 e2
      rw [← e1, ← e2]
      exact ⟨(turn_back2 q0 q3).1.symm, (turn_back2 q0 q3).2.symm⟩
end Sw
namespace Sw
open PySem PySem.Spec PyProof.Rows L2
def PartsAt (K : PySem.W.Frag) (H : Hp) (t : Addr) (n : Int) (ks : Tups) (cam : List Int) : Prop := ∃ l c : Addr, SqT K H t [.int n, .ref l, .ref c] ∧ SqL K H l (refs ks) ∧ TupsAt K H ks ∧ SqT K H c (cam.map V.int)
theorem parts_up {K : PySem.W.Frag} {H H' : Hp} {t : Addr} {n : Int} {ks : Tups} {cam : List Int} (s : Same H H') (h : PartsAt K H t n ks cam) : PartsAt K H' t n ks cam := by
  obtain ⟨l, c, h1, h2, h3, h4⟩ := h
  exact ⟨l, c, sqT_up s h1, s.seq h2, tups_up s h3, sqT_up s h4⟩
/-- the law's own way to an offset -/
def spLOff (K : PySem.W.Frag) : Sp := fun vs H Q _ => ∃ (pp pa ps : Addr) (n : Int) (ks : Tups) (r b g l x y q sx sy bb : Int), vs = [.ref pp, .ref pa, .ref ps] ∧ PartsAt K H pp n ks [r, b, g, l] ∧ 4 ≤ n ∧ n ≤ 9 ∧ isCam n [r, b, g, l] = true ∧ SqT K H pa [.int x, .int y, .int q] ∧ 0 ≤ q ∧ q ≤ 3 ∧ SqT K H ps [.int sx, .int sy, .int bb] ∧
  (offI n [r, b, g, l] [x, y, q] [sx, sy, bb] = none → ∀ H', Same H H' → Q .non H') ∧
  (∀ u v, offI n [r, b, g, l] [x, y, q] [sx, sy, bb] = some (u, v) → ∀ (H' : Hp) (t : Addr), Same H H' → SqT K H' t [.int u, .int v] → Q (.ref t) H')
end Sw
namespace Sw
open PySem PySem.Spec PyProof.Rows L2
/-- is a star within so much, and bright enough -/
def inOne (n : Int) (cam at_ : List Int) (room least : Int) (k : List Int) : Bool :=
  match offI n cam at_ k, k with
  | some (u, v), [_, _, b] => decide (iabs u ≤ room) && decide (iabs v ≤ room) && decide (least ≤ b)
  | _, _ => false
def inI (n : Int) (cam at_ : List Int) (room least : Int) : Nat → List (List Int) → List Int
  | _, [] => []
  | j, k :: r => (if inOne n cam at_ room least k then [(j : Int)] else []) ++ inI n cam at_ room least (j + 1) r
theorem inI_push (n : Int) (cam at_ : List Int) (room least : Int) : ∀ (l : List (List Int)) (j : Nat) (k : List Int), inI n cam at_ room least j (l ++ [k]) = inI n cam at_ room least j l ++ (if inOne n cam at_ room least k then [((j + l.length : Nat) : Int)] else [])
  | [], j, k => by
    show (if inOne n cam at_ room least k then [(j : Int)] else []) ++ [] = [] ++ _
    rw [List.append_nil, List.nil_append]
    rfl
  | x :: r, j, k => by
    show (if inOne n cam at_ room least x then [(j : Int)] else []) ++ inI n cam at_ room least (j + 1) (r ++ [k]) = ((if inOne n cam at_ room least x then [(j : Int)] else []) ++ inI n cam at_ room least (j + 1) r) ++ _
    rw [inI_push n cam at_ room least r (j + 1) k, List.append_assoc, show j + 1 + r.length = j + (x :: r).length by simp only [List.length_cons]; omega]
def spInside (K : PySem.W.Frag) : Sp := fun vs H Q _ => ∃ (pp pa : Addr) (n : Int) (ks : Tups) (cam at_ : List Int) (room least : Int), vs = [.ref pp, .ref pa, .int room, .int least] ∧ PartsAt K H pp n ks cam ∧ isSky n (keys ks) cam = true ∧ SqT K H pa (at_.map V.int) ∧ isPose n at_ = true ∧
  ∀ (H' : Hp) (l : Addr), Same H H' → H' l = some (.lst ((inI n cam at_ room least 0 (keys ks)).map V.int)) → Q (.ref l) H'
end Sw
namespace Sw
open PySem PySem.Spec PyProof.Rows L2
theorem inI_len (n : Int) (cam at_ : List Int) (room least : Int) : ∀ (l : List (List Int)) (j : Nat), (inI n cam at_ room least j l).length ≤ l.length
  | [], _ => Nat.le_refl _
  | k :: r, j => by
    show ((if inOne n cam at_ room least k then [(j : Int)] else []) ++ inI n cam at_ room least (j + 1) r).length ≤ _
    have := inI_len n cam at_ room least r (j + 1)
    rw [List.length_append]
    split <;> simp only [List.length_cons, List.length_nil] <;> omega
end Sw
namespace Sw
open PySem PySem.Spec PyProof.Rows L2
def offD : Option (Int × Int) → PyData
  | some (u, v) => dTI [u, v]
  | none => .none
def toldE (n : Int) (cam at_ : List Int) (kk : List (List Int)) (j : Int) : PyData :=
  if isPose n at_ then (if j < 0 ∨ (kk.length : Int) ≤ j then .tuple [.int 2, .int j] else .tuple [.int 0, offD (offI n cam at_ (kk.getD j.toNat []))]) else .tuple [.int 1, dTI at_]
def spToldE (K : PySem.W.Frag) (C : Addr) : Sp := fun vs H Q _ => ∃ (p pa : Addr) (n : Int) (ks : Tups) (cam at_ : List Int) (j : Int), vs = [.ref p, .ref pa, .int j] ∧ SkyS K C H p n ks cam ∧ isSky n (keys ks) cam = true ∧ SqT K H pa (at_.map V.int) ∧
  ∀ (H' : Hp) (t : Addr), Same H H' → Dp K H' (.ref t) (toldE n cam at_ (keys ks) j) → Q (.ref t) H'
end Sw
set_option Elab.async false
set_option linter.all false
set_option maxRecDepth 100000
set_option maxHeartbeats 4000000
/-! Matchings as plain dicts of integers: ways that make them greater, and when none has more. -/
namespace Sw
open PySem PySem.Spec PyProof.Rows L2
abbrev MM := List (Int × Int)
def lk (m : MM) (k : Int) : Option Int := (m.find? fun z => decide (z.1 = k)).map (·.2)
theorem lk_nil (k : Int) : lk [] k = none := rfl
theorem lk_pos {z : Int × Int} {r : MM} {k : Int} (e : z.1 = k) : lk (z :: r) k = some z.2 := by simp [lk, List.find?_cons, e]
theorem lk_neg {z : Int × Int} {r : MM} {k : Int} (e : ¬ z.1 = k) : lk (z :: r) k = lk r k := by simp [lk, List.find?_cons, e]
theorem lk_some : ∀ {m : MM} {k v : Int}, lk m k = some v → (k, v) ∈ m
  | [], _, _, h => nomatch h
  | z :: r, k, v, h => by
    by_cases e : z.1 = k
    · rw [lk_pos e] at h
      have := Option.some.inj h
      rw [← e, ← this]
      exact List.mem_cons_self
    · rw [lk_neg e] at h
      exact List.mem_cons_of_mem _ (lk_some h)
theorem lk_mem : ∀ {m : MM} {k v : Int}, (m.map (·.1)).Nodup → (k, v) ∈ m → lk m k = some v
  | z :: r, k, v, hn, h => by
    rw [List.map_cons, List.nodup_cons] at hn
    rcases List.mem_cons.mp h with h | h
    · rw [← h]
      exact lk_pos rfl
    · have e : ¬ z.1 = k := fun e => hn.1 (by rw [e]; exact List.mem_map_of_mem (f := fun z : Int × Int => z.1) h)
      rw [lk_neg e]
      exact lk_mem hn.2 h
theorem lk_none {m : MM} {k : Int} (h : lk m k = none) : k ∉ m.map (·.1) := fun hk => by
  obtain ⟨z, hz, rfl⟩ := List.mem_map.mp hk
  have : ∀ {m : MM} {z : Int × Int}, z ∈ m → ∃ v, lk m z.1 = some v := by
    intro m
    induction m with
    | nil => intro z h; cases h
    | cons y r ih =>
      intro z h
      by_cases e : y.1 = z.1
      · exact ⟨_, lk_pos e⟩
      · rw [lk_neg e]
        rcases List.mem_cons.mp h with rfl | h
        · exact absurd rfl e
        · exact ih h
  obtain ⟨v, e⟩ := this hz
  rw [e] at h
  cases h
theorem lk_key {m : MM} {k v : Int} (h : lk m k = some v) : k ∈ m.map (·.1) := List.mem_map_of_mem (f := fun z : Int × Int => z.1) (lk_some h)
theorem lk_keyE {m : MM} {k : Int} (h : k ∈ m.map (·.1)) : ∃ v, lk m k = some v := by
  cases e : lk m k with
  | none => exact absurd h (lk_none e)
  | some v => exact ⟨v, rfl⟩
/-- the dict of it -/
def dI (m : MM) : List (Key × V) := m.map fun z => (Sum.inl z.1, V.int z.2)
theorem dI_len (m : MM) : (dI m).length = m.length := List.length_map ..
theorem inl_inj {i j : Int} (h : (Sum.inl i : Key) = Sum.inl j) : i = j := Sum.inl.inj h
theorem val_dI : ∀ (m : MM) (k : Int), valV (dI m) (.inl k) = (lk m k).map V.int
  | [], _ => rfl
  | z :: r, k => by
    by_cases e : z.1 = k
    · rw [lk_pos e]
      exact valV_pos (p := (Sum.inl z.1, V.int z.2)) (congrArg Sum.inl e)
    · rw [lk_neg e, ← val_dI r k]
      exact valV_neg (p := (Sum.inl z.1, V.int z.2)) (fun h => e (inl_inj h))
def putI (m : MM) (k v : Int) : MM := if (m.any fun z => decide (z.1 = k)) = true then m.map (fun z => if z.1 = k then (z.1, v) else z) else m ++ [(k, v)]
theorem any_dI (m : MM) (k : Int) : ((dI m).any fun kv => decide (kv.1 = (Sum.inl k : Key))) = (m.any fun z => decide (z.1 = k)) := by
  unfold dI
  rw [List.any_map]
  congr 1
  funext z
  by_cases e : z.1 = k
  · rw [decide_eq_true e]
    exact decide_eq_true (congrArg Sum.inl e)
  · rw [decide_eq_false e]
    exact decide_eq_false fun h => e (inl_inj h)
theorem put_dI (m : MM) (k v : Int) : putK (dI m) (.inl k) (.int v) = dI (putI m k v) := by
  unfold putK putI
  rw [any_dI]
  split
  · unfold dI
    rw [List.map_map, List.map_map]
    apply List.map_congr_left
    intro z _
    show (if (Sum.inl z.1 : Key) = Sum.inl k then _ else _) = _
    by_cases e : z.1 = k
    · rw [if_pos (congrArg Sum.inl e)]
      show _ = (Sum.inl (if z.1 = k then (z.1, v) else z).1, V.int (if z.1 = k then (z.1, v) else z).2)
      rw [if_pos e]
    · rw [if_neg (fun h => e (inl_inj h))]
      show _ = (Sum.inl (if z.1 = k then (z.1, v) else z).1, V.int (if z.1 = k then (z.1, v) else z).2)
      rw [if_neg e]
  · unfold dI
    rw [List.map_append]
    rfl
theorem mapInt_inj {a b : Option Int} (h : a.map V.int = b.map V.int) : a = b := by
  cases a <;> cases b <;> simp_all
theorem lk_put (m : MM) (k v j : Int) : lk (putI m k v) j = if j = k then some v else lk m j := by
  apply mapInt_inj
  rw [← val_dI, ← put_dI, valV_put, val_dI]
  by_cases e : j = k
  · rw [if_pos (congrArg Sum.inl e), if_pos e]
    rfl
  · rw [if_neg (fun h => e (inl_inj h)), if_neg e]
theorem put_keys (m : MM) (k v : Int) : (putI m k v).map (·.1) = if k ∈ m.map (·.1) then m.map (·.1) else m.map (·.1) ++ [k] := by
  unfold putI
  have e : (m.any fun z => decide (z.1 = k)) = true ↔ k ∈ m.map (·.1) := by
    rw [List.any_eq_true, List.mem_map]
    constructor
    · rintro ⟨z, hz, e⟩
      exact ⟨z, hz, of_decide_eq_true e⟩
    · rintro ⟨z, hz, e⟩
      exact ⟨z, hz, decide_eq_true e⟩
  by_cases h : k ∈ m.map (·.1)
  · rw [if_pos (e.mpr h), if_pos h, List.map_map]
    apply List.map_congr_left
    intro z _
    show (if z.1 = k then (z.1, v) else z).1 = z.1
    split <;> rfl
  · rw [if_neg (fun z => h (e.mp z)), if_neg h, List.map_append]
    rfl
theorem put_nodup {m : MM} {k v : Int} (h : (m.map (·.1)).Nodup) : ((putI m k v).map (·.1)).Nodup := by
  rw [put_keys]
  split
  · exact h
  · exact nodup_push h (by assumption)
theorem put_key {m : MM} {k v j : Int} : j ∈ (putI m k v).map (·.1) ↔ j = k ∨ j ∈ m.map (·.1) := by
  rw [put_keys]
  split
  · constructor
    · exact .inr
    · rintro (rfl | h)
      · assumption
      · exact h
  · rw [List.mem_append, List.mem_singleton]
    exact Or.comm
theorem put_new_m {m : MM} {k v : Int} (h : lk m k = none) : putI m k v = m ++ [(k, v)] := by
  unfold putI
  rw [if_neg]
  intro e
  obtain ⟨z, hz, e⟩ := List.any_eq_true.mp e
  exact lk_none h (by rw [← of_decide_eq_true e]; exact List.mem_map_of_mem (f := fun z : Int × Int => z.1) hz)
def dropI (m : MM) (k : Int) : MM := m.filter fun z => decide (z.1 ≠ k)
theorem drop_dI (m : MM) (k : Int) : dropK (dI m) (.inl k) = dI (dropI m k) := by
  unfold dropK dropI dI
  rw [List.filter_map]
  congr 1
  apply List.filter_congr
  intro z _
  show decide ((Sum.inl z.1 : Key) ≠ Sum.inl k) = decide (z.1 ≠ k)
  by_cases e : z.1 = k
  · exact (decide_eq_false (p := (Sum.inl z.1 : Key) ≠ Sum.inl k) (fun h => h (congrArg Sum.inl e))).trans (decide_eq_false (p := z.1 ≠ k) (fun h => h e)).symm
  · exact (decide_eq_true (p := (Sum.inl z.1 : Key) ≠ Sum.inl k) (fun h => e (inl_inj h))).trans (decide_eq_true (p := z.1 ≠ k) e).symm
theorem drop_nodup {m : MM} {k : Int} (h : (m.map (·.1)).Nodup) : ((dropI m k).map (·.1)).Nodup := List.Nodup.sublist (List.Sublist.map _ List.filter_sublist) h
theorem lk_drop : ∀ (m : MM) (k j : Int), lk (dropI m k) j = if j = k then none else lk m j
  | [], k, j => by split <;> rfl
  | z :: r, k, j => by
    unfold dropI
    by_cases e : z.1 = k
    · rw [List.filter_cons_of_neg (p := fun z : Int × Int => decide (z.1 ≠ k)) (by rw [decide_eq_false (p := z.1 ≠ k) (fun h => h e)]; decide)]
      show lk (dropI r k) j = _
      rw [lk_drop r k j]
      by_cases ej : j = k
      · rw [if_pos ej, if_pos ej]
      · rw [if_neg ej, if_neg ej, lk_neg (fun h => ej (h.symm.trans e))]
    · rw [List.filter_cons_of_pos (p := fun z : Int × Int => decide (z.1 ≠ k)) (decide_eq_true (p := z.1 ≠ k) e)]
      by_cases ez : z.1 = j
      · rw [lk_pos ez, if_neg (fun h => e (ez.trans h)), lk_pos ez]
      · rw [lk_neg ez]
        show lk (dropI r k) j = _
        rw [lk_drop r k j, lk_neg ez]
/-! ### matchings -/
structure Mt (P : Int → List Int) (m : MM) : Prop where
  nd : (m.map (·.1)).Nodup
  ed : ∀ k v, lk m k = some v → v ∈ P k
  inj : ∀ k j v, lk m k = some v → lk m j = some v → k = j
/-- the partners of these rows are held by them -/
def Shut (P : Int → List Int) (m : MM) (Z : List Int) : Prop := ∀ z ∈ Z, ∀ c ∈ P z, ∃ z' ∈ Z, lk m z' = some c
def has (m : MM) (k : Int) : Bool := (lk m k).isSome
theorem has_some {m : MM} {k : Int} (h : has m k = true) : ∃ v, lk m k = some v := Option.isSome_iff_exists.mp h
theorem split_len (l : List Int) (p q : Int → Bool) : (l.filter p).length = (l.filter fun x => p x && q x).length + (l.filter fun x => p x && !q x).length := by
  induction l with
  | nil => rfl
  | cons x r ih =>
    rw [List.filter_cons, List.filter_cons, List.filter_cons]
    cases p x <;> cases q x <;> simp [ih] <;> omega
theorem filter_le (l : List Int) (p q : Int → Bool) (h : ∀ x ∈ l, p x = true → q x = true) : (l.filter p).length ≤ (l.filter q).length := by
  induction l with
  | nil => exact Nat.le_refl _
  | cons x r ih =>
    have h1 := ih fun y hy => h y (List.mem_cons_of_mem _ hy)
    have h2 := h x List.mem_cons_self
    rw [List.filter_cons, List.filter_cons]
    cases hp : p x with
    | false => cases q x <;> simp at * <;> omega
    | true => rw [h2 hp]; simpa using h1
theorem map_nodup_of {l : List Int} {f : Int → Int} (hn : l.Nodup) (h : ∀ x ∈ l, ∀ y ∈ l, f x = f y → x = y) : (l.map f).Nodup := by
  induction l with
  | nil => exact List.nodup_nil
  | cons x r ih =>
    rw [List.nodup_cons] at hn
    rw [List.map_cons, List.nodup_cons]
    refine ⟨fun hm => ?_, ih hn.2 fun a ha b hb => h a (List.mem_cons_of_mem _ ha) b (List.mem_cons_of_mem _ hb)⟩
    obtain ⟨y, hy, e⟩ := List.mem_map.mp hm
    exact hn.1 (by rw [h x List.mem_cons_self y (List.mem_cons_of_mem _ hy) e.symm]; exact hy)
/-- none has more of the wanted rows -/
theorem best {P : Int → List Int} {m m' : MM} {Z W : List Int} (hW : W.Nodup) (hm : Mt P m) (hZ : Shut P m Z) (hZW : ∀ z ∈ Z, z ∈ W) (hF : ∀ r ∈ W, lk m r = none → r ∈ Z) (h' : Mt P m') :
    (W.filter (has m')).length ≤ (W.filter (has m)).length := by
  rw [split_len W (has m') (fun x => decide (x ∈ Z)), split_len W (has m) (fun x => decide (x ∈ Z))]
  refine Nat.add_le_add ?_ (filter_le _ _ _ fun x hx hp => ?_)
  · have hA : ∀ x ∈ W.filter (fun x => has m' x && decide (x ∈ Z)), (∃ v, lk m' x = some v) ∧ x ∈ Z := fun x hx => by
      obtain ⟨_, h⟩ := List.mem_filter.mp hx
      rw [Bool.and_eq_true] at h
      exact ⟨has_some h.1, of_decide_eq_true h.2⟩
    have n1 : ((W.filter fun x => has m' x && decide (x ∈ Z)).map fun x => (lk m' x).getD 0).Nodup := map_nodup_of (hW.filter _) fun x hx y hy e => by
      obtain ⟨⟨u, hu⟩, _⟩ := hA x hx
      obtain ⟨⟨v, hv⟩, _⟩ := hA y hy
      rw [hu, hv] at e
      have e' : u = v := e
      exact h'.inj x y u hu (by rw [e']; exact hv)
    have := len_le_of_sub n1 (m := (W.filter fun x => has m x && decide (x ∈ Z)).map fun x => (lk m x).getD 0) fun c hc => by
      obtain ⟨x, hx, rfl⟩ := List.mem_map.mp hc
      obtain ⟨⟨u, hu⟩, hxZ⟩ := hA x hx
      rw [hu]
      obtain ⟨z', hz', e⟩ := hZ x hxZ u (h'.ed _ _ hu)
      refine List.mem_map.mpr ⟨z', List.mem_filter.mpr ⟨hZW z' hz', ?_⟩, by rw [e]⟩
      rw [Bool.and_eq_true]
      exact ⟨by unfold has; rw [e]; rfl, decide_eq_true hz'⟩
    rw [List.length_map, List.length_map] at this
    exact this
  · rw [Bool.and_eq_true] at hp ⊢
    refine ⟨?_, hp.2⟩
    have hz : ¬ x ∈ Z := fun h => by rw [decide_eq_true h] at hp; exact nomatch hp.2
    unfold has
    cases e : lk m x with
    | none => exact absurd (hF x hx e) hz
    | some v => rfl
/-! ### ways -/
def Ch (m : MM) : MM → Prop
  | [] => True
  | [_] => True
  | x :: y :: r => lk m x.1 = some y.2 ∧ Ch m (y :: r)
/-- a way: its last step is that of the row which has no column yet -/
structure Way (P : Int → List Int) (m : MM) (start : Int) (p : MM) : Prop where
  ch : Ch m p
  ed : ∀ x ∈ p, x.2 ∈ P x.1
  cn : (p.map (·.2)).Nodup
  last : ∃ q c, p = q ++ [(start, c)]
  free : lk m start = none
theorem ch_tail {m : MM} {x : Int × Int} {r : MM} (h : Ch m (x :: r)) : Ch m r := by
  cases r with
  | nil => trivial
  | cons y r => exact h.2
/-- what a step's row holds: nothing, or the column of a later step -/
theorem ch_next {m : MM} {start : Int} : ∀ {p : MM}, Ch m p → (∃ q c, p = q ++ [(start, c)]) → ∀ x ∈ p, x.1 = start ∨ ∃ y ∈ p.tail, lk m x.1 = some y.2
  | [], _, ⟨q, c, e⟩, _, _ => by cases q <;> cases e
  | [x], _, ⟨q, c, e⟩, y, hy => by
    rw [List.mem_singleton.mp hy]
    cases q with
    | nil => rw [List.nil_append] at e; injection e with e _; left; rw [e]
    | cons a q => cases q <;> cases e
  | x :: y :: r, h, ⟨q, c, e⟩, z, hz => by
    rcases List.mem_cons.mp hz with rfl | hz
    · exact .inr ⟨y, List.mem_cons_self, h.1⟩
    · cases q with
      | nil => cases e
      | cons a q =>
        injection e with _ e
        rcases ch_next h.2 ⟨q, c, e⟩ z hz with h' | ⟨w, hw, h'⟩
        · exact .inl h'
        · exact .inr ⟨w, List.mem_cons_of_mem _ hw, h'⟩
theorem Way.tn {P : Int → List Int} {m : MM} {start : Int} {p : MM} (h : Way P m start p) : (p.map (·.1)).Nodup := by
  obtain ⟨ch, ed, cn, last, free⟩ := h
  induction p with
  | nil => exact List.nodup_nil
  | cons x r ih =>
    cases r with
    | nil => simp
    | cons y r =>
      obtain ⟨q, c, e⟩ := last
      cases q with
      | nil => cases e
      | cons a q =>
        injection e with _ e
        rw [List.map_cons, List.nodup_cons] at cn
        rw [List.map_cons, List.nodup_cons]
        refine ⟨fun hm => ?_, ih ch.2 (fun z hz => ed z (List.mem_cons_of_mem _ hz)) cn.2 ⟨q, c, e⟩⟩
        obtain ⟨z, hz, ez⟩ := List.mem_map.mp hm
        have h1 := ch.1
        rw [← ez] at h1
        rcases ch_next ch.2 ⟨q, c, e⟩ z hz with h' | ⟨w, hw, h'⟩
        · rw [h', free] at h1
          cases h1
        · rw [h'] at h1
          have ew : w.2 = y.2 := Option.some.inj h1
          have cn2 := cn.2
          rw [List.map_cons, List.nodup_cons] at cn2
          exact cn2.1 (by rw [← ew]; exact List.mem_map_of_mem (f := fun z : Int × Int => z.2) hw)
def swp (p : MM) : MM := p.map fun x => (x.2, x.1)
def appI (m p : MM) : MM := p.foldl (fun m x => putI m x.1 x.2) m
theorem lk_app : ∀ (p m : MM) (k : Int), (p.map (·.1)).Nodup → lk (appI m p) k = match lk p k with | some c => some c | none => lk m k
  | [], m, k, _ => rfl
  | x :: r, m, k, hn => by
    rw [List.map_cons, List.nodup_cons] at hn
    show lk (appI (putI m x.1 x.2) r) k = _
    rw [lk_app r _ k hn.2, lk_put]
    by_cases e : x.1 = k
    · have : lk r k = none := by
        cases h : lk r k with
        | none => rfl
        | some v => exact absurd (by rw [e]; exact lk_key h) hn.1
      rw [this, lk_pos e, if_pos e.symm]
    · rw [lk_neg e, if_neg (fun h => e h.symm)]
theorem app_nodup : ∀ (p : MM) {m : MM}, (m.map (·.1)).Nodup → ((appI m p).map (·.1)).Nodup
  | [], _, h => h
  | _ :: r, _, h => app_nodup r (put_nodup h)
theorem app_key : ∀ (p m : MM) (j : Int), j ∈ (appI m p).map (·.1) ↔ j ∈ p.map (·.1) ∨ j ∈ m.map (·.1)
  | [], m, j => by simp [appI]
  | x :: r, m, j => by
    show j ∈ (appI (putI m x.1 x.2) r).map (·.1) ↔ _
    rw [app_key r _ j, put_key, List.map_cons, List.mem_cons]
    constructor
    · rintro (h | h | h)
      · exact .inl (.inr h)
      · exact .inl (.inl h)
      · exact .inr h
    · rintro ((h | h) | h)
      · exact .inr (.inl h)
      · exact .inl h
      · exact .inr (.inr h)
/-- owners of columns -/
def Own (m o : MM) : Prop := ∀ r c, lk o c = some r ↔ lk m r = some c
/-- the matching behind a way -/
def cutM (m o : MM) : MM → MM
  | [] => m
  | x :: _ => match lk o x.2 with | some r => dropI m r | none => m
theorem cut_lk {m o : MM} (hO : Own m o) (x : Int × Int) (p : MM) (k : Int) : lk (cutM m o (x :: p)) k = if lk m k = some x.2 then none else lk m k := by
  show lk (match lk o x.2 with | some r => dropI m r | none => m) k = _
  cases e : lk o x.2 with
  | none =>
    show lk m k = _
    rw [if_neg]
    intro h
    rw [(hO k x.2).mpr h] at e
    cases e
  | some r =>
    show lk (dropI m r) k = _
    rw [lk_drop]
    have er := (hO r x.2).mp e
    by_cases ek : k = r
    · rw [if_pos ek, ek, if_pos er]
    · rw [if_neg ek, if_neg]
      intro h
      have := (hO k x.2).mpr h
      rw [e] at this
      exact ek (Option.some.inj this).symm
theorem swp_keys (p : MM) : (swp p).map (·.1) = p.map (·.2) := by
  unfold swp
  rw [List.map_map]
  rfl
theorem mem_swp {p : MM} {t c : Int} : (c, t) ∈ swp p ↔ (t, c) ∈ p := by
  unfold swp
  constructor
  · intro h
    obtain ⟨x, hx, e⟩ := List.mem_map.mp h
    injection e with e1 e2
    rw [← e1, ← e2]
    exact hx
  · intro h
    exact List.mem_map.mpr ⟨_, h, rfl⟩
/-- a step's column is owned by no one, or by the one ahead, or it is the first -/
theorem ch_prev {m : MM} : ∀ {x : Int × Int} {p : MM}, Ch m (x :: p) → ∀ y ∈ x :: p, y = x ∨ ∃ z ∈ x :: p, lk m z.1 = some y.2
  | x, [], _, y, hy => .inl (List.mem_singleton.mp hy)
  | x, w :: p, h, y, hy => by
    rcases List.mem_cons.mp hy with rfl | hy
    · exact .inl rfl
    · rcases ch_prev h.2 y hy with rfl | ⟨z, hz, e⟩
      · exact .inr ⟨x, List.mem_cons_self, h.1⟩
      · exact .inr ⟨z, List.mem_cons_of_mem _ hz, e⟩
structure Step (P : Int → List Int) (W : List Int) (m o : MM) (start : Int) (x : Int × Int) (p : MM) : Prop where
  mt : Mt P m
  own : Own m o
  on : (o.map (·.1)).Nodup
  way : Way P m start (x :: p)
  out : ∀ r, lk o x.2 = some r → r ∉ W
section
variable {P : Int → List Int} {W : List Int} {m o : MM} {start : Int} {x : Int × Int} {p : MM}
theorem Step.m1 (h : Step P W m o start x p) (k : Int) : lk (appI (cutM m o (x :: p)) (x :: p)) k = match lk (x :: p) k with | some c => some c | none => if lk m k = some x.2 then none else lk m k := by
  rw [lk_app _ _ _ h.way.tn, cut_lk h.own]
theorem Step.o1 (h : Step P W m o start x p) (c : Int) : lk (appI o (swp (x :: p))) c = match lk (swp (x :: p)) c with | some t => some t | none => lk o c := by
  rw [lk_app _ _ _ (by rw [swp_keys]; exact h.way.cn)]
theorem Step.in_p (h : Step P W m o start x p) {t c : Int} : lk (x :: p) t = some c ↔ (t, c) ∈ x :: p := ⟨lk_some, lk_mem h.way.tn⟩
theorem Step.in_s (h : Step P W m o start x p) {t c : Int} : lk (swp (x :: p)) c = some t ↔ (t, c) ∈ x :: p := ⟨fun e => mem_swp.mp (lk_some e), fun e => lk_mem (by rw [swp_keys]; exact h.way.cn) (mem_swp.mpr e)⟩
theorem Step.own' (h : Step P W m o start x p) : Own (appI (cutM m o (x :: p)) (x :: p)) (appI o (swp (x :: p))) := fun r c => by
  rw [h.m1, h.o1]
  cases e1 : lk (swp (x :: p)) c with
  | some t =>
    have ht := h.in_s.mp e1
    show some t = some r ↔ _
    constructor
    · intro e
      rw [← Option.some.inj e, h.in_p.mpr ht]
    · intro e
      cases e2 : lk (x :: p) r with
      | some c' =>
        rw [e2] at e
        have e3 : c' = c := Option.some.inj e
        rw [e3] at e2
        have := h.in_s.mpr (h.in_p.mp e2)
        rw [e1] at this
        exact this
      | none =>
        rw [e2] at e
        have e' : (if lk m r = some x.2 then none else lk m r) = some c := e
        split at e'
        · cases e'
        · rename_i hne
          rcases ch_prev h.way.ch _ ht with hx | ⟨z, hz, ez⟩
          · rw [← hx] at hne
            exact absurd e' hne
          · have := h.mt.inj _ _ _ ez e'
            rw [← this, h.in_p.mpr hz] at e2
            cases e2
  | none =>
    show lk o c = some r ↔ _
    rw [h.own r c]
    constructor
    · intro e
      have hnp : lk (x :: p) r = none := by
        cases e2 : lk (x :: p) r with
        | none => rfl
        | some c' =>
          rcases ch_next h.way.ch h.way.last _ (h.in_p.mp e2) with hs | ⟨y, hy, ey⟩
          · have hs' : r = start := hs
            rw [hs', h.way.free] at e
            cases e
          · have ey' : lk m r = some y.2 := ey
            rw [e] at ey'
            have hy' := h.in_s.mpr (show (y.1, y.2) ∈ x :: p from List.mem_cons_of_mem _ hy)
            rw [← Option.some.inj ey', e1] at hy'
            cases hy'
      rw [hnp]
      show (if lk m r = some x.2 then none else lk m r) = some c
      rw [if_neg]
      · exact e
      · intro e2
        rw [e] at e2
        have := h.in_s.mpr (show (x.1, x.2) ∈ x :: p from List.mem_cons_self)
        rw [← Option.some.inj e2, e1] at this
        cases this
    · intro e
      cases e2 : lk (x :: p) r with
      | some c' =>
        rw [e2] at e
        have e3 : c' = c := Option.some.inj e
        rw [e3] at e2
        rw [h.in_s.mpr (h.in_p.mp e2)] at e1
        cases e1
      | none =>
        rw [e2] at e
        have e' : (if lk m r = some x.2 then none else lk m r) = some c := e
        split at e'
        · cases e'
        · exact e'
theorem Step.mt' (h : Step P W m o start x p) : Mt P (appI (cutM m o (x :: p)) (x :: p)) := by
  refine ⟨app_nodup _ ?_, fun k v e => ?_, fun k j v e1 e2 => ?_⟩
  · show ((match lk o x.2 with | some r => dropI m r | none => m).map (fun z : Int × Int => z.1)).Nodup
    split
    · exact drop_nodup h.mt.nd
    · exact h.mt.nd
  · rw [h.m1] at e
    cases e2 : lk (x :: p) k with
    | some c =>
      rw [e2] at e
      rw [← Option.some.inj e]
      exact h.way.ed _ (h.in_p.mp e2)
    | none =>
      rw [e2] at e
      have e' : (if lk m k = some x.2 then none else lk m k) = some v := e
      split at e'
      · cases e'
      · exact h.mt.ed _ _ e'
  · have a := (h.own' k v).mpr e1
    have b := (h.own' j v).mpr e2
    rw [a] at b
    exact Option.some.inj b
theorem Step.start' (h : Step P W m o start x p) : ∃ c, lk (appI (cutM m o (x :: p)) (x :: p)) start = some c := by
  obtain ⟨q, c, e⟩ := h.way.last
  refine ⟨c, ?_⟩
  rw [h.m1, h.in_p.mpr (show (start, c) ∈ x :: p by rw [e]; simp)]
/-- columns stay -/
theorem Step.cols (h : Step P W m o start x p) {r c : Int} (e : lk m r = some c) : ∃ r', lk (appI (cutM m o (x :: p)) (x :: p)) r' = some c := by
  have := (h.own r c).mpr e
  cases e1 : lk (swp (x :: p)) c with
  | some t => exact ⟨t, by rw [h.m1, h.in_p.mpr (h.in_s.mp e1)]⟩
  | none => exact ⟨r, (h.own' r c).mp (by rw [h.o1, e1]; exact this)⟩
/-- wanted rows stay -/
theorem Step.rows (h : Step P W m o start x p) {r c : Int} (hr : r ∈ W) (e : lk m r = some c) : ∃ c', lk (appI (cutM m o (x :: p)) (x :: p)) r = some c' := by
  rw [h.m1]
  cases e2 : lk (x :: p) r with
  | some c' => exact ⟨c', rfl⟩
  | none =>
    refine ⟨c, ?_⟩
    show (if lk m r = some x.2 then none else lk m r) = some c
    rw [if_neg, e]
    intro e3
    exact h.out r ((h.own r x.2).mpr e3) hr
theorem Step.only (h : Step P W m o start x p) {r c : Int} (e : lk (appI (cutM m o (x :: p)) (x :: p)) r = some c) : r = start ∨ ∃ c', lk m r = some c' := by
  rw [h.m1] at e
  cases e2 : lk (x :: p) r with
  | some c' =>
    rcases ch_next h.way.ch h.way.last _ (h.in_p.mp e2) with hs | ⟨y, _, ey⟩
    · exact .inl hs
    · exact .inr ⟨_, ey⟩
  | none =>
    rw [e2] at e
    have e' : (if lk m r = some x.2 then none else lk m r) = some c := e
    split at e'
    · cases e'
    · exact .inr ⟨_, e'⟩
/-- a way does not come near rows that hold all their partners -/
theorem way_off {m : MM} {Z : List Int} (hi : ∀ k j v, lk m k = some v → lk m j = some v → k = j) (hZ : Shut P m Z) : ∀ {x : Int × Int} {p : MM}, Ch m (x :: p) → (∀ y ∈ x :: p, y.2 ∈ P y.1) → (∀ r, lk m r = some x.2 → r ∉ Z) → ∀ y ∈ x :: p, y.1 ∉ Z
  | x, [], _, ed, out, y, hy => by
    rw [List.mem_singleton.mp hy]
    intro hz
    obtain ⟨z', hz', e⟩ := hZ _ hz _ (ed x List.mem_cons_self)
    exact out z' e hz'
  | x, w :: p, ch, ed, out, y, hy => by
    have hx : x.1 ∉ Z := fun hz => by
      obtain ⟨z', hz', e⟩ := hZ _ hz _ (ed x List.mem_cons_self)
      exact out z' e hz'
    rcases List.mem_cons.mp hy with rfl | hy
    · exact hx
    · refine way_off hi hZ ch.2 (fun z hz => ed z (List.mem_cons_of_mem _ hz)) (fun r e => ?_) y hy
      rw [hi _ _ _ e ch.1]
      exact hx
theorem Step.shut (h : Step P W m o start x p) {Z : List Int} (hZ : Shut P m Z) (hZW : ∀ z ∈ Z, z ∈ W) : Shut P (appI (cutM m o (x :: p)) (x :: p)) Z := fun z hz c hc => by
  obtain ⟨z', hz', e⟩ := hZ z hz c hc
  refine ⟨z', hz', ?_⟩
  have off := way_off h.mt.inj hZ h.way.ch h.way.ed (fun r e hr => h.out r ((h.own r x.2).mpr e) (hZW r hr))
  rw [h.m1]
  have hn : lk (x :: p) z' = none := by
    cases e2 : lk (x :: p) z' with
    | none => rfl
    | some c' => exact absurd hz' (off _ (h.in_p.mp e2))
  rw [hn]
  show (if lk m z' = some x.2 then none else lk m z') = some c
  rw [if_neg, e]
  intro e3
  exact h.out z' ((h.own z' x.2).mpr e3) (hZW z' hz')
end
end Sw
set_option Elab.async false
set_option linter.all false
set_option maxRecDepth 100000
set_option maxHeartbeats 4000000
/-! Dicts: a comprehension that is assigned, one over a walk; pop of a key that may be None; a written True or False. -/
namespace L2
open PySem PySem.Spec PyProof.Rows
section
variable {X : Cx}
theorem ps_setDc {i : Nat} {y : Str} {py : Pos} {kx vx tg iter : Expr} {ifs : List Expr} {scope : Scope} {own : List (Str × Nat)} {pos spos : Pos} {wi : TI} {g : TG} {tt : TT} {tk tv : TE} (hc : X.calm = true) (hN : X.N.Nodup) (hy : X.N[i]? = some y) (hyl : X.env.scope.names.lookup y = some .local)
    (hsw : swapsWith (.DictComp kx vx [⟨tg, iter, ifs, 0⟩] scope pos) (some (.Name y py)) spos.line X.env = pure true) (hi : PI X tg iter wi) (ok : BlkOk X.N X.env.scope scope own)
    (hg : ∀ (s : Shared) (H : Hp) (C : Addr) (cl : List (Str × Addr)) (fp : List Addr), PG (X.blk s H scope (compEnvC scope cl C X.env) fp) tg g)
    (ht : ∀ (s : Shared) (H : Hp) (C : Addr) (cl : List (Str × Addr)) (fp : List Addr), PTs (X.blk s H scope (compEnvC scope cl C X.env) fp) ifs tt)
    (hk : ∀ (s : Shared) (H : Hp) (C : Addr) (cl : List (Str × Addr)) (fp : List Addr), PE (X.blk s H scope (compEnvC scope cl C X.env) fp) kx tk) (he : ∀ (s : Shared) (H : Hp) (C : Addr) (cl : List (Str × Addr)) (fp : List Addr), PE (X.blk s H scope (compEnvC scope cl C X.env) fp) vx tv)
    (hs : ∀ x, foldedSetIterable iter X.env x = pure x := by intro _; rfl) :
    PS X (.Assign [.Name y py] (.DictComp kx vx [⟨tg, iter, ifs, 0⟩] scope pos) spos) (tAsg (tDc wi g tt tk tv (own.map (·.2))) (gName i)) := by
  refine ⟨fun pins s σ H D I h => (exec_Assign_Name_used _ _ _ _ hsw).symm ▸ wpAny_bind (wpAny_standAt (wpAny_bind ?_))⟩
  show wpAny _ X.A (do let _ ← comprehension (.DictComp kx vx [⟨tg, iter, ifs, 0⟩] scope pos) scope X.env (firstIterPos [⟨tg, iter, ifs, 0⟩] pos) newDict false (eval iter X.env) (some (assign (.Name y py) X.env))) _ _ s
  have h' : tDc wi g tt tk tv (own.map (·.2)) σ H (fun x H1 => gName i x σ H1 D.nx) := h
  refine wpAny_bind (thn (dc_core (Qf := fun _ s' => SP X pins D .next s') hc hN I hi ok hg ht hk he hs h' fun L C s' m H' I' q hn f => ?_) fun _ s' hq => wpAny_pure (wpAny_pure hq))
  obtain ⟨f0, f1, f2, f3, f4, f5⟩ := f
  show wpAny _ _ (assign (.Name y py) X.env (.ref L)) _ _ _
  refine wpAny_assign_Name ((store_ok2 (v := V.ref L) I' hN hy (.inl hyl) rfl (fun s2 I2 ⟨a, sb, ha⟩ => ⟨m, hn.sameBut sb ?_, fun h3 sb3 => ⟨_, H', I2.turned (t' := s2.toks) (fun b o hb e => (sb3.2 b hb).trans e) f0 f1 f3 f4 f5, q⟩⟩) (.inr hyl)))
  rcases ha with z | z
  · exact fun e => f1 (e.trans z)
  · exact fun e => f4 y a z e.symm
theorem sw_trueD {kx vx : Expr} {gs : List Comprehension} {scope : Scope} {pos py : Pos} {y : Str} {l : Nat} {env : Env} (hk : env.scope.kind = .function) (hy : env.scope.names.lookup y = some .local) (hl : (py.line == pos.line) = true)
    (ha : (scope.names.any fun (n, k) => n == y && (k == .local || k == .cell)) = false) : swapsWith (.DictComp kx vx gs scope pos) (some (.Name y py)) l env = pure true := by
  unfold swapsWith
  simp only [show env.blockKind = .function by unfold Env.blockKind; rw [hk]; rfl, show env.kindOf y = some .local from hy, ha, Expr.pos, hl]
  rfl
/-- a dict comprehension over any walk -/
theorem dc_it {J : It} {n : Nat} {G : Hp → Prop} {Y : Nat → Hp → V → Hp → Prop} (w : Walk J n G Y) {g : TG} {tt : TT} {tk tv : TE} {vs : List Nat} {σ : St} {H1 : Hp} {D : Addr} {Qd : Hp → Prop} (Pv : Nat → Hp → Prop) (h0 : Pv 0 (upd H1 D (.dK []))) (hG : ∀ i H, i ≤ n → Pv i H → G H)
    (hs : ∀ i x H H', i < n → Pv i H → Y i H x H' → g x (wipe σ vs) H' fun σ2 H2 => wipe σ2 vs = wipe σ vs ∧ tt σ2 H2 fun b H3 =>
      if b = true then tk σ2 H3 fun y H4 => tv σ2 H4 fun z H5 => ∃ kvs k, y = kV k ∧ H5 D = some (.dK kvs) ∧ kvs.length < sizeLine ∧ Pv (i + 1) (upd H5 D (.dK (putK kvs k z))) else Pv (i + 1) H3) (hd : ∀ H, Pv n H → Qd H) :
    ∃ W : Nat → Nat → Hp → Prop, (∃ m, W 0 m (upd H1 D (.dK []))) ∧ ∀ i m H, W i m H →
      (J.stop i H ∧ Qd H) ∨ (J.go i H ∧ ∃ Nx : Hp → Prop, (∀ H', Nx H' → ∃ m', m' < m ∧ W (i + 1) m' H') ∧ ∀ x H', J.yld i H x H' → g x (wipe σ vs) H' fun σ2 H2 => wipe σ2 vs = wipe σ vs ∧ tt σ2 H2 fun b H3 =>
        if b = true then tk σ2 H3 fun y H4 => tv σ2 H4 fun z H5 => ∃ kvs k, y = kV k ∧ H5 D = some (.dK kvs) ∧ kvs.length < sizeLine ∧ Nx (upd H5 D (.dK (putK kvs k z))) else Nx H3) := by
  refine ⟨fun i m H => m + i = n ∧ Pv i H, ⟨n, Nat.add_zero n, h0⟩, ?_⟩
  rintro i m H ⟨hm, p⟩
  have q := hG i H (by omega) p
  cases m with
  | zero =>
    obtain rfl : i = n := by omega
    exact .inl ⟨w.stops H q, hd H p⟩
  | succ m =>
    have hlt : i < n := by omega
    exact .inr ⟨w.goes i H hlt q, Pv (i + 1), fun H' p' => ⟨m, Nat.lt_succ_self m, by omega, p'⟩, fun x H' y => hs i x H H' hlt p (w.yields i H x H' hlt q y)⟩
end
/-! ### d.pop(k, x), k an integer or a text or None -/
theorem pairs_none {P : Program} {w : World} : ∀ {es : List DictEntry} {vs : List (Key × Value)}, Pairs (mixKind P w) es vs → Pairs (noneKind P w) es (vs.map fun kv => (some kv.1, kv.2))
  | _, _, .nil => .nil
  | _, _, .cons h1 h2 r => .cons h1 h2 (pairs_none r)
theorem dict_none {P : Program} {w : World} {h : Heap} {a : Addr} {vs : List (Key × Value)} (d : h.DictOf (mixKind P w) a vs) : ∃ vs', h.DictOf (noneKind P w) a vs' ∧ valueAt vs' none = none := by
  obtain ⟨o, es, ep, ho, hx, hdt, hk, hp, hn⟩ := d
  refine ⟨_, ⟨o, es, ep, ho, hx, hdt, fun e he => ?_, pairs_none hp, ?_⟩, ?_⟩
  · obtain ⟨k, h1, h2⟩ := hk e he
    exact ⟨some k, h1, h2⟩
  · rw [List.map_map]
    have : (vs.map fun kv => (some kv.1 : Option Key)) = (vs.map (·.1)).map some := by rw [List.map_map]; rfl
    show (vs.map fun kv => (some kv.1 : Option Key)).Nodup
    rw [this]
    exact List.Pairwise.map _ (fun a b hab e => hab (Option.some.inj e)) hn
  · unfold valueAt
    rw [List.find?_map, Option.map_map]
    have : vs.find? ((fun kv : Option Key × Value => decide (kv.1 = none)) ∘ fun kv => (some kv.1, kv.2)) = none := by
      rw [List.find?_eq_none]
      intro x _
      show ¬ decide ((some x.1 : Option Key) = none) = true
      rw [decide_eq_false (fun z => nomatch z)]
      decide
    rw [this]
    rfl
section
variable {X : Cx} {o e f : Expr} {td ty tx : TE} {apos cpos : Pos}
def tDPopN (td ty tx : TE) : TE := fun σ H Q => td σ H fun x H1 => ∃ a, x = .ref a ∧ IsD H1 a ∧ ty σ H1 fun y H2 => tx σ H2 fun z H3 => ∃ kvs, H3 a = some (.dK kvs) ∧
  ((y = .non ∧ Q z H3) ∨ ∃ k, y = kV k ∧ (∀ v, valV kvs k = some v → Q v (upd H3 a (.dK (dropK kvs k)))) ∧ (valV kvs k = none → Q z H3))
theorem pe_dpopN (ho : PE X o td) (he : PE X e ty) (hf : PE X f tx) (m : M2 X o "pop" apos e f cpos) : PE X (.Call (.Attribute o "pop" apos) [e, f] [] cpos) (tDPopN td ty tx) := by
  refine ⟨fun pins s σ H Q I h => wpAny_Call_method m.base m.few m.line PySem.F.plainAttrs_dict PySem.F.slot_dict_pop PySem.F.type_dict_pop (thn (ho.run pins s σ H _ I h) fun u s1 ⟨x, H1, I1, rx, a, ex, d, q1⟩ => ?_)⟩
  obtain ⟨rfl, rfl⟩ : x = V.ref a ∧ u = Value.ref a := ⟨ex, by rw [ex] at rx; exact rx⟩
  obtain ⟨t1, t2, _⟩ := isD_at I1 d
  refine ⟨t1, t2, m.trees.symm ▸ Calls.callWith_builtin rfl (Calls.evalArgs_plain (Calls.spliced_cons (thn (he.run pins s1 σ H1 _ I1 q1) fun iv s2 ⟨y, H2, I2, ry, q2⟩ =>
    (Calls.spliced_cons (thn (hf.run pins s2 σ H2 _ I2 q2) fun fv s3 ⟨z, H3, I3, rz, kvs, ea, q3⟩ => (Calls.spliced_nil ?_))))))⟩
  rcases q3 with ⟨rfl, q3⟩ | ⟨k, rfl, q3, q4⟩
  · obtain rfl : iv = Value.none := ry
    obtain ⟨hz, hd, vs, rel, dd⟩ := dk_of I3.hok ea
    obtain ⟨vs', dd', hn⟩ := dict_none dd
    exact call_meetsIn PySem.F.slot_dict_pop dd.typeIs PySem.F.entry_dict_pop (PySem.F.args_dict_pop_3 _ _ _) (meets_dict_pop_default (noneKind X.prog X.w) (k := none) a rfl hd rfl fv) ⟨vs', dd', hn, ⟨z, H3, I3.tok _, rz, q3⟩⟩
  · cases l : valV kvs k with
    | some v => exact d_pop I3 ea ry l (.inr ⟨fv, rfl⟩) fun w' s4 I4 rw' => ⟨v, _, I4, rw', q3 v l⟩
    | none => exact d_popD I3 ea ry l fun s4 I4 => ⟨z, H3, I4, rz, q4 l⟩
end
end L2
namespace L2
open PySem PySem.Spec PyProof.Rows
/-! rules whose reading names K itself, for comprehensions -/
theorem ix_seqK {X : Cx} {K : PySem.W.Frag} (h : X.K = K := by rfl) : IxR X (rIx K) := h ▸ ix_seq
theorem op_in_seqK {X : Cx} {K : PySem.W.Frag} (h : X.K = K := by rfl) : OpR X (compareOp .In) (rIn K false) := h ▸ op_in_seq
theorem op_notIn_seqK {X : Cx} {K : PySem.W.Frag} (h : X.K = K := by rfl) : OpR X (compareOp .NotIn) (rIn K true) := h ▸ op_notIn_seq
theorem call_len_seqK {X : Cx} {K : PySem.W.Frag} (h : X.K = K := by rfl) : CallR X (.builtin "len") (fun xs H Q => ∃ p ys, xs = [.ref p] ∧ (SqL K H p ys ∨ SqT K H p ys) ∧ Q (.int ys.length) H) := h ▸ call_len_seq
end L2
set_option Elab.async false
set_option linter.all false
set_option maxRecDepth 100000
set_option maxHeartbeats 4000000
/-! A search for ways, step by step; promises of what makes matchings. -/
namespace Sw
open PySem PySem.Spec PyProof.Rows L2
/-- which row came to a column, in the sequence in which they came -/
def Tk (P : Int → List Int) (m : MM) (start : Int) (ts : MM) : Prop := ∀ (j : Nat) (c r : Int), ts[j]? = some (c, r) → c ∈ P r ∧ (r = start ∨ ∃ i : Nat, i < j ∧ ∃ c' r' : Int, ts[i]? = some (c', r') ∧ lk m r = some c')
def ChE (m : MM) : MM → Option Int → Prop
  | [], _ => True
  | [x], col => lk m x.1 = col
  | x :: y :: r, col => lk m x.1 = some y.2 ∧ ChE m (y :: r) col
theorem chE_ch {m : MM} : ∀ {p : MM} {col : Option Int}, ChE m p col → Ch m p
  | [], _, _ => trivial
  | [_], _, _ => trivial
  | _ :: y :: r, _, h => ⟨h.1, chE_ch (p := y :: r) h.2⟩
theorem chE_push {m : MM} {t c : Int} : ∀ {p : MM}, ChE m p (some c) → ChE m (p ++ [(t, c)]) (lk m t)
  | [], _ => rfl
  | [x], h => ⟨h, rfl⟩
  | x :: y :: r, h => ⟨h.1, chE_push (p := y :: r) h.2⟩
theorem chE_last {m : MM} : ∀ {p : MM} {col : Option Int}, p ≠ [] → ChE m p col → ∃ q x, p = q ++ [x] ∧ lk m x.1 = col
  | [], _, h, _ => absurd rfl h
  | [x], _, _, h => ⟨[], x, rfl, h⟩
  | x :: y :: r, _, _, h => by
    obtain ⟨q, z, e, hz⟩ := chE_last (p := y :: r) (fun e => nomatch e) h.2
    exact ⟨x :: q, z, by rw [e]; rfl, hz⟩
theorem getElem_keys {ts : MM} {i j : Nat} {c r r' : Int} (hn : (ts.map (·.1)).Nodup) (h1 : ts[i]? = some (c, r)) (h2 : ts[j]? = some (c, r')) : i = j := by
  obtain ⟨hi, e1⟩ := List.getElem?_eq_some_iff.mp h1
  obtain ⟨hj, e2⟩ := List.getElem?_eq_some_iff.mp h2
  have go : ∀ {i j : Nat} (hi : i < ts.length) (hj : j < ts.length), ts[i].1 = ts[j].1 → ¬ i < j := fun {i j} hi hj e hij => by
    refine List.pairwise_iff_getElem.mp hn i j (by rw [List.length_map]; exact hi) (by rw [List.length_map]; exact hj) hij ?_
    rw [List.getElem_map, List.getElem_map]
    exact e
  have a1 := go hi hj (by rw [e1, e2])
  have a2 := go hj hi (by rw [e1, e2])
  omega
/-- on the way back -/
structure Trc (P : Int → List Int) (m : MM) (start last : Int) (ts acc : MM) (col : Option Int) : Prop where
  ed : ∀ x ∈ acc, x.2 ∈ P x.1
  cn : (acc.map (·.2)).Nodup
  ch : ChE m acc col
  mem : ∀ x ∈ acc, ∃ i : Nat, ts[i]? = some (x.2, x.1)
  idx : ∀ c, col = some c → ∃ (j : Nat) (r : Int), ts[j]? = some (c, r) ∧ ∀ x ∈ acc, ∃ i : Nat, ts[i]? = some (x.2, x.1) ∧ j < i
  head : (acc = [] ∧ col = some last) ∨ ∃ t p, acc = (t, last) :: p
theorem Trc.step {P : Int → List Int} {m : MM} {start last c : Int} {ts acc : MM} (hT : Tk P m start ts) (hn : (ts.map (·.1)).Nodup) (hs : lk m start = none) (h : Trc P m start last ts acc (some c)) :
    ∃ (r : Int) (j : Nat), lk ts c = some r ∧ ts[j]? = some (c, r) ∧ Trc P m start last ts (acc ++ [(r, c)]) (lk m r) ∧ ∀ c', lk m r = some c' → ∃ (i : Nat) (r' : Int), ts[i]? = some (c', r') ∧ i < j := by
  obtain ⟨j, r, hj, hacc⟩ := h.idx c rfl
  obtain ⟨he, hr⟩ := hT j c r hj
  have below : ∀ c', lk m r = some c' → ∃ (i : Nat) (r' : Int), ts[i]? = some (c', r') ∧ i < j := fun c' e => by
    rcases hr with rfl | ⟨i, hi, c'', r', e1, e2⟩
    · rw [hs] at e
      cases e
    · rw [e] at e2
      rw [← Option.some.inj e2] at e1
      exact ⟨i, r', e1, hi⟩
  refine ⟨r, j, lk_mem hn (List.mem_of_getElem? hj), hj, ⟨fun x hx => ?_, ?_, chE_push h.ch, fun x hx => ?_, fun c' e => ?_, ?_⟩, below⟩
  · rcases List.mem_append.mp hx with hx | hx
    · exact h.ed x hx
    · rw [List.mem_singleton.mp hx]
      exact he
  · rw [List.map_append]
    refine nodup_push h.cn fun hm => ?_
    obtain ⟨x, hx, e⟩ := List.mem_map.mp hm
    obtain ⟨i, hi, hij⟩ := hacc x hx
    rw [e] at hi
    have := getElem_keys hn hi hj
    omega
  · rcases List.mem_append.mp hx with hx | hx
    · exact h.mem x hx
    · rw [List.mem_singleton.mp hx]
      exact ⟨j, hj⟩
  · obtain ⟨i, r', e1, hi⟩ := below c' e
    refine ⟨i, r', e1, fun x hx => ?_⟩
    rcases List.mem_append.mp hx with hx | hx
    · obtain ⟨k, hk, hjk⟩ := hacc x hx
      exact ⟨k, hk, by omega⟩
    · rw [List.mem_singleton.mp hx]
      exact ⟨j, hj, hi⟩
  · rcases h.head with ⟨h1, h2⟩ | ⟨t, p, h1⟩
    · rw [h1, ← Option.some.inj h2]
      exact .inr ⟨r, [], rfl⟩
    · rw [h1]
      exact .inr ⟨t, p ++ [(r, c)], rfl⟩
theorem Trc.done {P : Int → List Int} {m : MM} {start last : Int} {ts acc : MM} (hT : Tk P m start ts) (hs : lk m start = none) (h : Trc P m start last ts acc none) : ∃ t p, acc = (t, last) :: p ∧ Way P m start ((t, last) :: p) := by
  rcases h.head with ⟨_, h2⟩ | ⟨t, p, h1⟩
  · cases h2
  · refine ⟨t, p, h1, ?_⟩
    rw [← h1]
    refine ⟨chE_ch h.ch, h.ed, h.cn, ?_, hs⟩
    obtain ⟨q, x, e, hx⟩ := chE_last (by rw [h1]; exact fun z => nomatch z) h.ch
    obtain ⟨i, hi⟩ := h.mem x (by rw [e]; simp)
    rcases (hT i _ _ hi).2 with hr | ⟨_, _, c', _, _, e2⟩
    · exact ⟨q, x.2, by rw [e, ← hr]⟩
    · rw [hx] at e2
      cases e2
/-! ### the search -/
structure Bf (P : Int → List Int) (W : List Int) (m o : MM) (start : Int) (ts : MM) (qs : List Int) : Prop where
  tk : Tk P m start ts
  nd : (ts.map (·.1)).Nodup
  qe : qs = start :: ts.map fun z => (lk o z.1).getD 0
  ow : ∀ z ∈ ts, ∃ r, lk o z.1 = some r ∧ r ∈ W
  lo : ∀ z ∈ ts, 0 ≤ z.1 ∧ z.1 < 1000
theorem Bf.len {P : Int → List Int} {W : List Int} {m o : MM} {start : Int} {ts : MM} {qs : List Int} (h : Bf P W m o start ts qs) : ts.length ≤ 1000 ∧ qs.length = ts.length + 1 := by
  refine ⟨?_, by rw [h.qe, List.length_cons, List.length_map]⟩
  have n1 : ((ts.map (·.1)).map Int.toNat).Nodup := by
    rw [List.Nodup, List.pairwise_map]
    refine h.nd.imp_of_mem fun {a b} ha hb hab e => hab ?_
    obtain ⟨z, hz, rfl⟩ := List.mem_map.mp ha
    obtain ⟨y, hy, rfl⟩ := List.mem_map.mp hb
    have := h.lo z hz
    have := h.lo y hy
    omega
  have := nodup_below 1000 _ n1 fun x hx => by
    obtain ⟨a, ha, rfl⟩ := List.mem_map.mp hx
    obtain ⟨z, hz, rfl⟩ := List.mem_map.mp ha
    have := h.lo z hz
    omega
  rw [List.length_map, List.length_map] at this
  exact this
theorem tk_push {P : Int → List Int} {W : List Int} {m o : MM} {start : Int} {ts : MM} {qs : List Int} (h : Bf P W m o start ts qs) (hO : Own m o) {i : Nat} {row c : Int} (hi : qs[i]? = some row) (hc : c ∈ P row) : Tk P m start (ts ++ [(c, row)]) := fun j c' r e => by
  by_cases hj : j < ts.length
  · rw [List.getElem?_append_left hj] at e
    obtain ⟨e1, e2⟩ := h.tk j c' r e
    refine ⟨e1, e2.imp_right fun ⟨k, hk, c'', r', e3, e4⟩ => ⟨k, hk, c'', r', by rw [List.getElem?_append_left (by omega)]; exact e3, e4⟩⟩
  · rw [List.getElem?_append_right (by omega)] at e
    have hj0 : j - ts.length = 0 := by
      cases hk : j - ts.length with
      | zero => rfl
      | succ k => rw [hk] at e; cases e
    rw [hj0] at e
    have e' : (c, row) = (c', r) := Option.some.inj e
    injection e' with e1 e2
    rw [← e1, ← e2]
    refine ⟨hc, ?_⟩
    rw [h.qe] at hi
    cases i with
    | zero => exact .inl (Option.some.inj hi).symm
    | succ i =>
      rw [List.getElem?_cons_succ, List.getElem?_map] at hi
      cases ez : ts[i]? with
      | none => rw [ez] at hi; cases hi
      | some z =>
        rw [ez] at hi
        obtain ⟨r', h1, _⟩ := h.ow z (List.mem_of_getElem? ez)
        have h2 : (lk o z.1).getD 0 = row := Option.some.inj hi
        rw [h1] at h2
        have h3 : r' = row := h2
        have hl := (List.getElem?_eq_some_iff.mp ez).1
        refine .inr ⟨i, by omega, z.1, z.2, by rw [List.getElem?_append_left hl]; exact ez, (hO row z.1).mp (by rw [← h3]; exact h1)⟩
theorem Bf.push {P : Int → List Int} {W : List Int} {m o : MM} {start : Int} {ts : MM} {qs : List Int} (h : Bf P W m o start ts qs) (hO : Own m o) {i : Nat} {row c r : Int} (hi : qs[i]? = some row) (hc : c ∈ P row) (hl : 0 ≤ c ∧ c < 1000) (hn : lk ts c = none) (ho : lk o c = some r) (hr : r ∈ W) :
    Bf P W m o start (ts ++ [(c, row)]) (qs ++ [r]) := by
  refine ⟨tk_push h hO hi hc, ?_, ?_, fun z hz => ?_, fun z hz => ?_⟩
  · rw [List.map_append]
    exact nodup_push h.nd (lk_none hn)
  · rw [h.qe, List.map_append, List.cons_append, List.map_cons, List.map_nil, ho]
    rfl
  · rcases List.mem_append.mp hz with hz | hz
    · exact h.ow z hz
    · rw [List.mem_singleton.mp hz]
      exact ⟨r, ho, hr⟩
  · rcases List.mem_append.mp hz with hz | hz
    · exact h.lo z hz
    · rw [List.mem_singleton.mp hz]
      exact hl
/-- nothing is left to look at -/
theorem Bf.shut {P : Int → List Int} {W : List Int} {m o : MM} {start : Int} {ts : MM} {qs : List Int} (h : Bf P W m o start ts qs) (hO : Own m o) (hs : start ∈ W) (hd : ∀ (i : Nat) (row : Int), qs[i]? = some row → ∀ c ∈ P row, c ∈ ts.map (·.1)) :
    Shut P m qs ∧ start ∈ qs ∧ ∀ z ∈ qs, z ∈ W := by
  refine ⟨fun z hz c hc => ?_, by rw [h.qe]; exact List.mem_cons_self, fun z hz => ?_⟩
  · obtain ⟨i, hi⟩ := List.getElem?_of_mem hz
    obtain ⟨y, hy, rfl⟩ := List.mem_map.mp (hd i z hi c hc)
    obtain ⟨r, h1, h2⟩ := h.ow y hy
    refine ⟨r, ?_, (hO r y.1).mp h1⟩
    rw [h.qe]
    refine List.mem_cons_of_mem _ (List.mem_map.mpr ⟨y, hy, ?_⟩)
    rw [h1]
    rfl
  · rw [h.qe] at hz
    rcases List.mem_cons.mp hz with rfl | hz
    · exact hs
    · obtain ⟨y, hy, rfl⟩ := List.mem_map.mp hz
      obtain ⟨r, h1, h2⟩ := h.ow y hy
      rw [h1]
      exact h2
/-! ### promises -/
abbrev Prts := List (Int × Addr × List Int)
def prt (ps : Prts) (r : Int) : List Int := match ps.find? fun z => decide (z.1 = r) with
  | some z => z.2.2
  | none => []
def PrtAt (K : PySem.W.Frag) (H : Hp) (pd : Addr) (ps : Prts) : Prop := H pd = some (.dK (shownK ps)) ∧ ∀ z ∈ ps, SqL K H z.2.1 (z.2.2.map V.int)
theorem prtAt_up {K : PySem.W.Frag} {H H' : Hp} {pd : Addr} {ps : Prts} (s : Same H H') (h : PrtAt K H pd ps) : PrtAt K H' pd ps := ⟨s _ _ h.1, fun z hz => s.seq (h.2 z hz)⟩
def Small (ps : Prts) : Prop := ∀ z ∈ ps, (∀ c ∈ z.2.2, 0 ≤ c ∧ c < 1000) ∧ z.2.2.length ≤ 1000
theorem prt_small {ps : Prts} (h : Small ps) (r : Int) : (∀ c ∈ prt ps r, 0 ≤ c ∧ c < 1000) ∧ (prt ps r).length ≤ 1000 := by
  unfold prt
  cases e : ps.find? fun z => decide (z.1 = r) with
  | none => exact ⟨fun c hc => (nomatch hc), Nat.zero_le _⟩
  | some z => exact h z (List.mem_of_find?_eq_some e)
theorem val_shown (ps : Prts) (r : Int) : valV (shownK ps) (.inl r) = (ps.find? fun z => decide (z.1 = r)).map fun z => V.ref z.2.1 := by
  unfold valV shownK
  rw [List.find?_map, Option.map_map]
  congr 1
  congr 1
  funext z
  show decide ((Sum.inl z.1 : Key) = Sum.inl r) = decide (z.1 = r)
  by_cases e : z.1 = r
  · rw [decide_eq_true e]
    exact decide_eq_true (congrArg Sum.inl e)
  · rw [decide_eq_false e]
    exact decide_eq_false fun h => e (inl_inj h)
/-- what get(row, []) tells -/
theorem prt_get {K : PySem.W.Frag} {H : Hp} {pd e : Addr} {ps : Prts} (h : PrtAt K H pd ps) (he : H e = some (.lst [])) (r : Int) : ∃ q, (valV (shownK ps) (.inl r)).getD (.ref e) = .ref q ∧ SqL K H q ((prt ps r).map V.int) := by
  rw [val_shown]
  unfold prt
  cases ez : ps.find? fun z => decide (z.1 = r) with
  | none => exact ⟨e, rfl, .inl (.inl he)⟩
  | some z => exact ⟨z.2.1, rfl, h.2 z (List.mem_of_find?_eq_some ez)⟩
def dW (W : List Int) : List (Key × V) := W.map fun r => (Sum.inl r, V.bl true)
theorem val_dW (W : List Int) (r : Int) : (valV (dW W) (.inl r)).isSome = decide (r ∈ W) := by
  induction W with
  | nil => rfl
  | cons x t ih =>
    by_cases e : x = r
    · rw [show valV (dW (x :: t)) (.inl r) = some (.bl true) from valV_pos (p := (Sum.inl x, V.bl true)) (congrArg Sum.inl e), decide_eq_true (by rw [e]; exact List.mem_cons_self)]
      rfl
    · rw [show valV (dW (x :: t)) (.inl r) = valV (dW t) (.inl r) from valV_neg (p := (Sum.inl x, V.bl true)) (fun h => e (inl_inj h)), ih]
      by_cases hm : r ∈ t
      · rw [decide_eq_true hm, decide_eq_true (List.mem_cons_of_mem _ hm)]
      · rw [decide_eq_false hm, decide_eq_false (fun z => (List.mem_cons.mp z).elim (fun q => e q.symm) hm)]
def steps2 (p : MM) : List (List Int) := p.map fun x => [x.1, x.2]
def spTraced (K : PySem.W.Frag) : Sp := fun vs H Q _ => ∃ (dm dt : Addr) (m ts : MM) (P : Int → List Int) (start last : Int), vs = [.ref dm, .ref dt, .int last] ∧ H dm = some (.dK (dI m)) ∧ H dt = some (.dK (dI ts)) ∧ Tk P m start ts ∧ (ts.map (·.1)).Nodup ∧ lk m start = none ∧ last ∈ ts.map (·.1) ∧ ts.length ≤ 2000 ∧
  ∀ (H' : Hp) (l : Addr) (ks : Tups) (t : Int) (p : MM), Same H H' → H l = none → H' l = some (.lst (refs ks)) → TupsAt K H' ks → keys ks = steps2 ((t, last) :: p) → Way P m start ((t, last) :: p) → Q (.ref l) H'
def spSteps (K : PySem.W.Frag) : Sp := fun vs H Q _ => ∃ (pd dm do' ds : Addr) (ps : Prts) (m o : MM) (W : List Int) (start : Int), vs = [.ref pd, .ref dm, .ref do', .ref ds, .int start] ∧ PrtAt K H pd ps ∧ Small ps ∧ H dm = some (.dK (dI m)) ∧ H do' = some (.dK (dI o)) ∧ H ds = some (.dK (dW W)) ∧
  Mt (prt ps) m ∧ Own m o ∧ (o.map (·.1)).Nodup ∧ lk m start = none ∧ start ∈ W ∧
  (∀ (H' : Hp) (l : Addr) (R : List Int), Same H H' → H l = none → H' l = some (.lst []) → Shut (prt ps) m R → start ∈ R → (∀ z ∈ R, z ∈ W) → Q (.ref l) H') ∧
  (∀ (H' : Hp) (l : Addr) (ks : Tups) (x : Int × Int) (p : MM), Same H H' → H l = none → H' l = some (.lst (refs ks)) → TupsAt K H' ks → keys ks = steps2 (x :: p) → Step (prt ps) W m o start x p → Q (.ref l) H')
end Sw
namespace Sw
open PySem PySem.Spec PyProof.Rows L2
theorem get_dI {H : Hp} {a : Addr} {m : MM} {k : Int} {v : Option Int} (h : H a = some (.dK (dI m))) (e : lk m k = v) : DGet H a (.int k) (v.map V.int) := by
  have z : DGet H a (.int k) (valV (dI m) (.inl k)) := DGet.k (k := .inl k) h
  rw [val_dI, e] at z
  exact z
theorem get_dI1 {H : Hp} {a : Addr} {m : MM} {k v : Int} (h : H a = some (.dK (dI m))) (e : lk m k = some v) : DGet H a (.int k) (some (.int v)) := get_dI h e
theorem isD_of {H : Hp} {a : Addr} {kvs : List (Key × V)} (h : H a = some (.dK kvs)) : IsD H a := .inl ⟨_, .inl h⟩
theorem optV_map (o : Option Int) : (o.map V.int).getD .non = optV o := by cases o <;> rfl
def qOf (ps : Prts) (r : Int) (e : Addr) : Addr := match ps.find? fun z => decide (z.1 = r) with
  | some z => z.2.1
  | none => e
theorem qOf_eq (ps : Prts) (r : Int) (e : Addr) : (valV (shownK ps) (.inl r)).getD (.ref e) = .ref (qOf ps r e) := by
  rw [val_shown]
  unfold qOf
  cases ps.find? fun z => decide (z.1 = r) <;> rfl
theorem qOf_at {K : PySem.W.Frag} {H : Hp} {pd e : Addr} {ps : Prts} (h : PrtAt K H pd ps) (he : H e = some (.lst [])) (r : Int) : SqL K H (qOf ps r e) ((prt ps r).map V.int) := by
  unfold qOf prt
  cases ez : ps.find? fun z => decide (z.1 = r) with
  | none => exact .inl (.inl he)
  | some z => exact h.2 z (List.mem_of_find?_eq_some ez)
end Sw
namespace Sw
open PySem PySem.Spec PyProof.Rows L2
theorem same_unlock {H H2 : Hp} {d : Addr} {od : Obj} {u : HO} (hd : H d = some u) (S : Same (upd H d (.frz od u)) H2) : Same H (upd H2 d u) := fun q x e => by
  by_cases hq : q = d
  · subst hq
    rw [upd_same, ← hd]
    exact e
  · rw [upd_ne hq]
    exact S q x (by rw [upd_ne hq]; exact e)
theorem new_lock {H : Hp} {d D : Addr} {od : Obj} {u : HO} (nD : (upd H d (.frz od u)) D = none) : H D = none ∧ D ≠ d := by
  have hD : D ≠ d := fun e => by rw [e, upd_same] at nD; cases nD
  rw [upd_ne hD] at nD
  exact ⟨nD, hD⟩
theorem take_put {m : MM} {i : Nat} {r v : Int} (hn : (m.map (·.1)).Nodup) (hi : m[i]? = some (r, v)) : putI (m.take i) r v = m.take (i + 1) := by
  have e : m.take (i + 1) = m.take i ++ [(r, v)] := by rw [List.take_add_one, hi]; rfl
  rw [e]
  refine put_new_m ?_
  have n1 : ((m.take (i + 1)).map (·.1)).Nodup := List.Nodup.sublist (List.Sublist.map _ (List.take_sublist _ _)) hn
  rw [e, List.map_append, List.nodup_append] at n1
  cases el : lk (m.take i) r with
  | none => rfl
  | some v' => exact absurd rfl (n1.2.2 r (lk_key el) r (by simp))
theorem Mt.cn {P : Int → List Int} {m : MM} (h : Mt P m) : (m.map (·.2)).Nodup := by
  have hp := List.pairwise_map.mp h.nd
  refine List.pairwise_map.mpr (hp.imp_of_mem fun {x y} hx hy hxy e => hxy ?_)
  exact h.inj _ _ x.2 (lk_mem h.nd hx) (by rw [e]; exact lk_mem h.nd hy)
theorem own_swp {P : Int → List Int} {m : MM} (h : Mt P m) : Own m (swp m) := fun r c => by
  constructor
  · intro e
    exact lk_mem h.nd (mem_swp.mp (lk_some e))
  · intro e
    exact lk_mem (by rw [swp_keys]; exact h.cn) (mem_swp.mpr (lk_some e))
theorem own_len {m o : MM} (hn : (o.map (·.1)).Nodup) (h : Own m o) : o.length ≤ m.length := by
  have := len_le_of_sub hn (m := m.map (·.2)) fun c hc => by
    obtain ⟨r, e⟩ := lk_keyE hc
    exact List.mem_map.mpr ⟨_, lk_some ((h r c).mp e), rfl⟩
  rw [List.length_map, List.length_map] at this
  exact this
theorem mt_len {P : Int → List Int} {m m0 : MM} {W : List Int} (h : Mt P m) (ho : ∀ r c, lk m r = some c → r ∈ W ∨ ∃ c', lk m0 r = some c') : m.length ≤ W.length + m0.length := by
  have := len_le_of_sub h.nd (m := W ++ m0.map (·.1)) fun r hr => by
    obtain ⟨c, e⟩ := lk_keyE hr
    rcases ho r c e with h | ⟨c', h⟩
    · exact List.mem_append_left _ h
    · exact List.mem_append_right _ (lk_key h)
  rw [List.length_map, List.length_append, List.length_map] at this
  exact this
theorem app_push (m p : MM) (x : Int × Int) : appI m (p ++ [x]) = putI (appI m p) x.1 x.2 := by
  unfold appI
  rw [List.foldl_append]
  rfl
theorem putI_len (m : MM) (k v : Int) : (putI m k v).length ≤ m.length + 1 := by
  unfold putI
  split
  · rw [List.length_map]; omega
  · rw [List.length_append]; exact Nat.le_refl _
theorem appI_len : ∀ (p m : MM), (appI m p).length ≤ m.length + p.length
  | [], m => Nat.le_refl _
  | x :: r, m => by
    have h1 := appI_len r (putI m x.1 x.2)
    have h2 := putI_len m x.1 x.2
    show (appI (putI m x.1 x.2) r).length ≤ _
    rw [List.length_cons]
    omega
/-- what is left of a search for all wanted rows -/
structure More (P : Int → List Int) (W : List Int) (m0 g : MM) : Prop where
  mt : Mt P g
  cols : ∀ r c, lk m0 r = some c → ∃ r', lk g r' = some c
  rows : ∀ r c, r ∈ W → lk m0 r = some c → ∃ c', lk g r = some c'
  only : ∀ r c, lk g r = some c → r ∈ W ∨ ∃ c', lk m0 r = some c'
def spMore (K : PySem.W.Frag) : Sp := fun vs H Q _ => ∃ (pd wl dm : Addr) (ps : Prts) (W : List Int) (m0 : MM), vs = [.ref pd, .ref wl, .ref dm] ∧ PrtAt K H pd ps ∧ Small ps ∧ SqL K H wl (W.map V.int) ∧ W.Nodup ∧ W.length ≤ 1000 ∧ H dm = some (.dK (dI m0)) ∧ Mt (prt ps) m0 ∧ m0.length ≤ 1000 ∧
  ∀ (H' : Hp) (l : Addr) (g : MM) (Z : List Int), Same H H' → H l = none → H' l = some (.dK (dI g)) → More (prt ps) W m0 g → Shut (prt ps) g Z → (∀ z ∈ Z, z ∈ W) → (∀ r ∈ W, lk g r = none → r ∈ Z) → Q (.ref l) H'
end Sw
set_option Elab.async false
set_option linter.all false
set_option maxRecDepth 100000
set_option maxHeartbeats 4000000
/-! sorted(x), x a list or a tuple of tuples of integers of any size. -/
namespace Sw
open PySem PySem.Spec PyProof.Rows PyProof.Rows.G L2
/-- one tuple is below another one -/
def ltI : List Int → List Int → Bool
  | [], [] => false
  | [], _ :: _ => true
  | _ :: _, [] => false
  | x :: r, y :: q => decide (x < y) || (decide (x = y) && ltI r q)
theorem ltI_key : ∀ a b : List Int, (listOrd itemOrd).blt (a.map Sum.inl) (b.map Sum.inl) = ltI a b
  | [], [] => rfl
  | [], _ :: _ => rfl
  | _ :: _, [] => rfl
  | x :: r, y :: q => by
    show lexLt itemOrd (Sum.inl x :: r.map Sum.inl) (Sum.inl y :: q.map Sum.inl) = (decide (x < y) || (decide (x = y) && ltI r q))
    have ih : lexLt itemOrd (r.map Sum.inl) (q.map Sum.inl) = ltI r q := ltI_key r q
    by_cases h : x = y
    · subst h
      rw [lex_self, ih, decide_eq_true (rfl : x = x), decide_eq_false (Int.lt_irrefl x), Bool.false_or, Bool.true_and]
    · rw [lex_diff (fun e => h (Sum.inl.inj e)), decide_eq_false h, Bool.false_and, Bool.or_false]
      rfl
theorem ltI_total : ∀ a b : List Int, ltI a b = false → ltI b a = false → a = b
  | [], [], _, _ => rfl
  | [], _ :: _, h, _ => nomatch h
  | _ :: _, [], _, h => nomatch h
  | x :: r, y :: q, h1, h2 => by
    have h1' : (decide (x < y) || (decide (x = y) && ltI r q)) = false := h1
    have h2' : (decide (y < x) || (decide (y = x) && ltI q r)) = false := h2
    rw [Bool.or_eq_false_iff] at h1' h2'
    have a1 := of_decide_eq_false h1'.1
    have a2 := of_decide_eq_false h2'.1
    obtain rfl : x = y := by omega
    have b1 := h1'.2
    have b2 := h2'.2
    rw [decide_eq_true (rfl : x = x), Bool.true_and] at b1 b2
    rw [ltI_total r q b1 b2]
/-- tuples in their order, of any lengths -/
def AscL (l : List (List Int)) : Prop := l.Pairwise fun a b => ltI b a = false
theorem ascL_unique {l m : List (List Int)} (hl : AscL l) (hm : AscL m) (hp : l.Perm m) : l = m :=
  List.Perm.eq_of_pairwise (le := fun a b => ltI b a = false) (fun a b _ _ h1 h2 => (ltI_total b a h1 h2).symm) hl hm hp
/-- what a sorting tells of its values -/
theorem key_of {h : Heap} {v : Value} {ns : List Int} (x : TS.TupInts h v ns) : tupKeyC h (fun _ => false) v = some (ns.map Sum.inl) := by
  obtain ⟨t, its, rfl, ⟨o, h1, h2, n, h3⟩, hi⟩ := x
  have e : ∀ {vs : List Value} {ns : List Int} (i : Nat), IntsAre vs ns → tupItems (fun _ => false) i vs = some (ns.map Sum.inl) := by
    intro vs ns i q
    induction q generalizing i with
    | nil => rfl
    | cons k tk q ih =>
      show ((tupItems (fun _ => false) (i + 1) _).map (Sum.inl k :: ·)) = _
      rw [ih (i + 1)]
      rfl
  unfold tupKeyC isTupObj tupKey
  simp only [h1, h2, h3]
  exact e 0 hi
theorem tups_first {h : Heap} : ∀ {vs : List Value}, (∀ v ∈ vs, ∃ k ns, TS.TupInts h v (k :: ns)) → ∃ fs, TupsOf h (fun _ => false) vs fs
  | [], _ => ⟨[], .nil⟩
  | v :: r, q => by
    obtain ⟨fs, hf⟩ := tups_first fun x hx => q x (List.mem_cons_of_mem _ hx)
    obtain ⟨k, ns, t, its, e, ⟨o, h1, h2, n, h3⟩, hi⟩ := q v List.mem_cons_self
    cases hh : its.toList with
    | nil => rw [hh] at hi; cases hi
    | cons f w =>
      rw [hh] at hi
      cases hi with
      | cons _ tk _ => exact ⟨.int k tk :: fs, .cons ⟨t, o, its, n, e, h1, h2, h3, by rw [← Array.getElem?_toList, hh]; rfl, fun _ => ⟨k, tk, rfl⟩, fun z => nomatch z⟩ hf⟩
section
variable {prog : Program} {w : World} {A : Around} {E : Value → Shared → Prop} {s : Shared}
theorem sorted_any {l : Addr} {T : String} {o : Obj} {vs : List Value} {n : Nat} {key : Value → List Int} {Q : Value → Shared → Prop} (hT : T = "list" ∨ T = "tuple") (ho : s.heap.get? l = some o) (hc : o.cls = .type T) (hd : o.data = .seq vs.toArray n)
    (hk : ∀ v ∈ vs, TS.TupInts s.heap v (key v) ∧ key v ≠ []) (hL : vs.length ≤ sizeLine)
    (h : ∀ (out : Array Value) (h2 : Heap) (p : Addr), (∀ b x, s.heap.get? b = some x → h2.get? b = some x) → s.heap.get? p = none → (∃ ep, h2.get? p = some (seqObj "list" out ep)) → out.toList.Perm vs → out.toList.Pairwise (fun u v => ltI (key v) (key u) = false) → Q (.ref p) { s with heap := h2 }) :
    wpAny (model prog w) A (call (.builtin "sorted") [.ref l]) Q E s := by
  refine Calls.call_function_entry PyProof.Rows.kind_sorted PyProof.Rows.plain_sorted PyProof.Rows.entry_sorted (PyProof.Rows.args_sorted1 (.ref l)) ?_
  unfold Builtin.«sorted»
  refine wpAny_bind (m := checkCount "sorted" 1 1 _) ((wpAny_pure (wpAny_bind (wpAny_collect_seq (T := T) l hT ho hc hd (fun h1 k1 => ?_) (by rw [List.size_toArray]; exact hL)))))
  refine wpAny_bind (wpAny_newList ?go (by simpa using hL))
  show wpAny (model prog w) A.in1 _ _ E { s with heap := h1.push (seqObj "list" vs.toArray 0) }
  have hoL : (h1.push (seqObj "list" vs.toArray 0)).get? h1.objs.size = some (seqObj "list" vs.toArray 0) := Heap.get?_push_size _ rfl
  have keep : ∀ b x, s.heap.get? b = some x → (h1.push (seqObj "list" vs.toArray 0)).get? b = some x := fun b x e => Heap.get?_push_of_some _ (k1 b x e)
  have hnew : s.heap.get? h1.objs.size = none := by
    cases e : s.heap.get? h1.objs.size with
    | none => rfl
    | some x => exact absurd (Heap.lt_size (k1 _ _ e)) (Nat.lt_irrefl _)
  have hT2 : ∀ v ∈ vs, TS.TupInts (h1.push (seqObj "list" vs.toArray 0)) v (key v) := fun v hv => (hk v hv).1.keeps fun b x e _ => keep b x e
  obtain ⟨fs, hf⟩ := tups_first (h := h1.push (seqObj "list" vs.toArray 0)) (vs := vs) fun v hv => by
    have z := hT2 v hv
    cases e : key v with
    | nil => exact absurd e (hk v hv).2
    | cons k ns => exact ⟨k, ns, by rw [e] at z; exact z⟩
  refine wpAny_bind (wpAny_holding (wpAny_call_entry PyProof.Rows.slot_list_sort ⟨_, hoL, rfl⟩ PyProof.Rows.entry_list_sort (G.list_sort_tups (shape := fun _ => false) hoL hf (fun v hv => ⟨_, key_of (hT2 v hv)⟩) hL (fun st' a1 a2 a3 => ⟨_, rfl, ?_⟩)) (PyProof.Rows.args_list_sort (.ref h1.objs.size))))
  obtain ⟨ep, hep⟩ : ∃ ep, (sortedHeap (h1.push (seqObj "list" vs.toArray 0)) h1.objs.size vs ((arrOf st').map (·.2))).get? h1.objs.size = some (seqObj "list" ((arrOf st').map (·.2)) ep) := sortedHeap_at hoL
  have hp : (arrOf st').toList.Perm (vs.zip vs) := by rw [← pairsOf_toList]; exact Array.perm_iff_toList_perm.mp a1
  have hm : ∀ p ∈ (arrOf st').toList, p.1 = p.2 ∧ p.1 ∈ vs := fun p hp' => mem_zip_self (hp.mem_iff.mp hp')
  refine wpAny_pure ⟨_, rfl, h ((arrOf st').map (·.2)) _ _ (fun b x e => ?_) hnew ⟨ep, hep⟩ ?_ ?_⟩
  · have hb : b < h1.objs.size := Heap.lt_size (k1 b x e)
    rw [sortedHeap_old (Nat.ne_of_lt hb) (by rw [size_push']; exact Nat.lt_succ_of_lt hb)]
    exact keep b x e
  · rw [Array.toList_map]
    have z := hp.map Prod.snd
    rw [List.map_snd_zip (Nat.le_refl _)] at z
    exact z
  · rw [Array.toList_map, List.pairwise_map, List.pairwise_iff_getElem]
    intro i j hi hj hij
    have sz : (arrOf st').size = (pairsOf vs).size := a1.size_eq
    have z := a2 i j (Nat.le_of_lt hij) (by rw [← sz, ← Array.length_toList]; exact hj)
    have kk : ∀ (i : Nat) (hi : i < (arrOf st').toList.length), KK (tupKindC (h1.push (seqObj "list" vs.toArray 0)) fun _ => false) (arrOf st') i = (key ((arrOf st').toList[i]).2).map Sum.inl := fun i hi => by
      obtain ⟨e1, e2⟩ := hm _ (List.getElem_mem hi)
      unfold KK
      have e3 : (arrOf st')[i]? = some ((arrOf st').toList[i]) := by rw [← Array.getElem?_toList, List.getElem?_eq_getElem hi]
      rw [e3]
      show (tupKeyC _ _ _).getD _ = _
      rw [key_of (hT2 _ e2), ← e1]
      rfl
    rw [kk i hi, kk j hj] at z
    rw [← ltI_key]
    exact z
end
/-- sorted(x), told by keys -/
def rSortL (K : PySem.W.Frag) : List V → Hp → VK → Prop := fun vs H Q => ∃ (b : Addr) (ks : Tups), vs = [.ref b] ∧ (SqL K H b (refs ks) ∨ SqT K H b (refs ks)) ∧ TupsAt K H ks ∧ (∀ p ∈ ks, p.2 ≠ []) ∧
  ∀ (p : Addr) (ks' : Tups) (H' : Hp), Same H H' → H p = none → H' p = some (.lst (refs ks')) → ks'.Perm ks → AscL (keys ks') → Q (.ref p) H'
theorem cr_sortL {X : Cx} : CallR X (.builtin "sorted") (rSortL X.K) := by
  intro pins s σ H xs us Q I hv ⟨b, ks, ex, hb, ht, hne, q⟩
  subst ex
  rw [Vals.ref1 hv]
  obtain ⟨its, rv, hz, T, o, n, hT, ho, hc, hd⟩ : ∃ its : List Value, Vals (refs ks) its ∧ (refs ks).length ≤ sizeLine ∧ ∃ (T : String) (o : Obj) (n : Nat), (T = "list" ∨ T = "tuple") ∧ s.heap.get? b = some o ∧ o.cls = .type T ∧ o.data = .seq its.toArray n := by
    rcases hb with hb | hb
    · obtain ⟨its, rv, hl, hz⟩ := I.list hb
      obtain ⟨o, ho, hc, n, hd⟩ := hl.isList
      exact ⟨its, rv, hz, "list", o, n, .inl rfl, ho, hc, hd⟩
    · obtain ⟨its, rv, ⟨o, ho, hc, n, hd⟩, hz⟩ := I.tuple hb
      exact ⟨its, rv, hz, "tuple", o, n, .inr rfl, ho, hc, hd⟩
  obtain ⟨e1, e2⟩ := bkV_refs rv fun x m => by
    obtain ⟨p, _, rfl⟩ := List.mem_map.mp m
    exact ⟨_, rfl⟩
  -- a value's integers
  have hkey : ∀ v ∈ its, ∃ p ∈ ks, v = .ref p.1 := fun v hv => by
    obtain ⟨t, rfl⟩ := e2 v hv
    have hm : V.ref t ∈ refs ks := by
      rw [e1]
      exact List.mem_map.mpr ⟨_, hv, rfl⟩
    obtain ⟨p, hp, e⟩ := List.mem_map.mp hm
    injection e with e
    exact ⟨p, hp, by rw [e]⟩
  have hraw : ∀ p ∈ ks, TS.TupInts s.heap (.ref p.1) p.2 := fun p hp => tupI_raw I (ht p hp)
  refine sorted_any (key := TS.intsOf s.heap) hT ho hc hd (fun v hv => ?_) (by rw [← rv.length]; exact hz) fun out h2 p keep np hep h1 hw => ?_
  · obtain ⟨p, hp, rfl⟩ := hkey v hv
    have z := hraw p hp
    rw [z.ints]
    exact ⟨z, hne p hp⟩
  · obtain ⟨ep, hep⟩ := hep
    have hperm : (out.toList.map bkV).Perm (refs ks) := by
      rw [e1]
      exact h1.map bkV
    obtain ⟨ks', p1, p2⟩ := perm_map_inv (f := fun p : Addr × List Int => V.ref p.1) hperm (ks := ks) rfl
    have h3 : ∀ u ∈ out.toList, ∃ a, u = Value.ref a := fun u hu => e2 u (h1.mem_iff.mp hu)
    have hlen : (refs ks').length ≤ sizeLine := by rw [refs_len, p1.length_eq, ← refs_len]; exact hz
    have hvals : Vals (refs ks') out.toList := by
      have z := bkV_vals h3
      rw [p2] at z
      exact z
    have J := I.laidN (t' := s.toks) (a := p) (o := .lst (refs ks')) keep np (I.hok.gone np) ⟨hlen, out.toList, ep, hvals, hep⟩
    refine ⟨.ref p, _, J, rfl, q p ks' _ (same_new (I.hok.gone np)) (I.hok.gone np) upd_same p1 ?_⟩
    refine List.pairwise_map.mpr ?_
    have eo : out.toList = ks'.map fun p => Value.ref p.1 := by
      have z : ∀ {ks : Tups} {us : List Value}, Vals (refs ks) us → us = ks.map fun p => Value.ref p.1 := by
        intro ks
        induction ks with
        | nil => intro us z; cases z; rfl
        | cons x r ih =>
          intro us z
          cases z with
          | cons z1 z2 =>
            rw [ih z2]
            cases z1
            rfl
      exact z hvals
    rw [eo, List.pairwise_map] at hw
    exact hw.imp_of_mem fun {x y} hx hy z => by
      have zx := (hraw x (p1.mem_iff.mp hx)).ints
      have zy := (hraw y (p1.mem_iff.mp hy)).ints
      rw [zx, zy] at z
      exact z
end Sw
set_option Elab.async false
set_option linter.all false
set_option maxRecDepth 100000
set_option maxHeartbeats 4000000
/-! Tables: rows by columns, matchings with as many rows as any. -/
namespace L2
open PySem PySem.Spec PyProof.Rows
theorem call_repr_bl {X : Cx} : CallR X (.builtin "repr") (fun xs H Q => ∃ b, xs = [.bl b] ∧ Q (.str (if b then "True" else "False")) H) := by
  intro pins s σ H xs us Q I r h
  obtain ⟨b, rfl, q⟩ := h
  obtain ⟨u, rfl, ru⟩ := vals1 r
  cases ru
  exact PySem.P.repr_of_bool ⟨.str _, H, I.tok _, ⟨_, rfl⟩, q⟩
/-! len(set(xs)), xs a list of integers -/
def met (ns : List Int) (i : Nat) : List Int := firstMet (fun i => ns.getD i 0) i
theorem met_facts (ns : List Int) : ∀ i, i ≤ ns.length → (met ns i).Nodup ∧ ∀ x, x ∈ met ns i ↔ x ∈ ns.take i
  | 0, _ => ⟨List.nodup_nil, fun x => by rw [List.take_zero]; rfl⟩
  | i + 1, hi => by
    obtain ⟨h1, h2⟩ := met_facts ns i (by omega)
    have hlt : i < ns.length := hi
    have e : ns.getD i 0 = ns[i] := by rw [List.getD_eq_getElem?_getD, List.getElem?_eq_getElem hlt]; rfl
    rw [show met ns (i + 1) = step_dedup (met ns i) (ns.getD i 0) from firstMet_succ _ i, List.take_add_one, List.getElem?_eq_getElem hlt, e]
    unfold step_dedup
    by_cases hm : ns[i] ∈ met ns i
    · rw [if_pos (show ((met ns i).any fun x => x == ns[i]) = true from List.any_eq_true.mpr ⟨_, hm, beq_self_eq_true _⟩)]
      refine ⟨h1, fun x => ?_⟩
      rw [h2, List.mem_append]
      constructor
      · exact .inl
      · rintro (h | h)
        · exact h
        · rw [List.mem_singleton.mp h]
          exact (h2 _).mp hm
    · rw [if_neg (fun z => by
        obtain ⟨y, hy, e'⟩ := List.any_eq_true.mp z
        exact hm (by rw [← (beq_iff_eq.mp e' : y = ns[i])]; exact hy))]
      refine ⟨Sw.nodup_push h1 hm, fun x => ?_⟩
      rw [List.mem_append, List.mem_append, h2]
      rfl
def tLenSetA (K : PySem.W.Frag) (ta : TE) : TE := fun σ H Q => ta σ H fun x H1 => ∃ (l : Addr) (ns : List Int), x = V.ref l ∧ SqL K H1 l (ns.map V.int) ∧ ns.length < 64 ∧ ∀ n : Nat, (n < ns.length ↔ ¬ ns.Nodup) → Q (.int n) H1
theorem pe_lenSetA {X : Cx} {a : Expr} {ta : TE} {p p2 q pos : Pos} (hc : X.calm = true) (hg : Gl X "len") (hm : X.mg "len" = none) (hg2 : Gl X "set") (hm2 : X.mg "set" = none) (ha : PE X a ta)
    (na : starEach [a] X.env = (false, eval a X.env) :: starEach [] X.env := by rfl) : PE X (.Call (.Name "len" p) [.Call (.Name "set" p2) [a] [] q] [] pos) (tLenSetA X.K ta) := by
  refine ⟨fun pins s σ H Q I h => Call_ (ld_blt I hg hm PySem.boot_len (PyProof.Rows.callWith_builtin1 (PyProof.Rows.args_cons ?_ rfl) rfl rfl))⟩
  refine Call_ (ld_blt I hg2 hm2 PyProof.Rows.boot_set (PyProof.Rows.callWith_type1 (PyProof.Rows.args_cons (thn (ha.run pins s σ H _ I h) fun v s1 ⟨x, H1, I1, r1, q1⟩ => PyProof.Rows.args_nil ?_) na) na rfl))
  obtain ⟨l, ns, rfl, hq, h1, q1⟩ := q1
  cases r1
  obtain ⟨its, r, pl, hz⟩ := I1.list hq
  have hl : its.toArray.size = ns.length := by rw [List.size_toArray, ← r.length, List.length_map]
  refine call_set_list (I1.ok.hd hc) pl.isList (ns := ns) (by simpa using r.ints) ((by unfold scanBound; omega)) fun h' tk hS hk => PyProof.Rows.args_nil ?_
  rw [hl] at hS
  obtain ⟨m1, m2⟩ := met_facts ns ns.length (Nat.le_refl _)
  rw [List.take_length] at m2
  have hle : (met ns ns.length).length ≤ ns.length := Sw.len_le_of_sub m1 fun x hx => (m2 x).mp hx
  obtain ⟨o, es, ep, t, ho, hex, hd, _, _, _, hf, hn⟩ := hS
  have I2 : Inv X pins σ H1 { s1 with heap := h', toks := tk } := I1.kept fun b o e => hk b o (Heap.lt_size e) e
  have hn' : es.size = (met ns ns.length).length := hn
  refine call_len_set ho hex hd hf (by omega) ⟨.int (met ns ns.length).length, H1, I2.tok _, ⟨_, by rw [hn']⟩, q1 _ ⟨fun hlt hnd => ?_, fun hnd => ?_⟩⟩
  · have := Sw.len_le_of_sub hnd fun x hx => (m2 x).mpr hx
    omega
  · obtain ⟨m, hm', hs⟩ := Sw.shorter hnd
    have := Sw.len_le_of_sub m1 (m := m) fun x hx => hs x ((m2 x).mp hx)
    omega
end L2
namespace Sw
open PySem PySem.Spec PyProof.Rows L2
/-- as `best`, for the edges of the wanted rows alone -/
theorem best2 {P P' : Int → List Int} {m m' : MM} {Z W : List Int} (hW : W.Nodup) (hm : Mt P m) (hZ : Shut P m Z) (hZW : ∀ z ∈ Z, z ∈ W) (hF : ∀ r ∈ W, lk m r = none → r ∈ Z) (h' : Mt P' m') (hP : ∀ r ∈ W, ∀ c ∈ P' r, c ∈ P r) :
    (W.filter (has m')).length ≤ (W.filter (has m)).length := by
  have e : ∀ r, r ∈ W → lk (m'.filter fun z => decide (z.1 ∈ W)) r = lk m' r := fun r hr => by
    cases el : lk m' r with
    | some c => exact lk_mem (List.Nodup.sublist (List.Sublist.map _ List.filter_sublist) h'.nd) (List.mem_filter.mpr ⟨lk_some el, decide_eq_true hr⟩)
    | none =>
      cases e2 : lk (m'.filter fun z => decide (z.1 ∈ W)) r with
      | none => rfl
      | some c =>
        have := lk_mem h'.nd (List.mem_filter.mp (lk_some e2)).1
        rw [el] at this
        cases this
  have sub : ∀ r c, lk (m'.filter fun z => decide (z.1 ∈ W)) r = some c → r ∈ W ∧ lk m' r = some c := fun r c h => by
    obtain ⟨h1, h2⟩ := List.mem_filter.mp (lk_some h)
    exact ⟨of_decide_eq_true h2, lk_mem h'.nd h1⟩
  have := best hW hm hZ hZW hF (m' := m'.filter fun z => decide (z.1 ∈ W)) ⟨List.Nodup.sublist (List.Sublist.map _ List.filter_sublist) h'.nd, fun k v h => hP k (sub k v h).1 v (h'.ed k v (sub k v h).2), fun k j v h1 h2 => h'.inj k j v (sub k v h1).2 (sub j v h2).2⟩
  have e2 : W.filter (has (m'.filter fun z => decide (z.1 ∈ W))) = W.filter (has m') := List.filter_congr fun r hr => by unfold has; rw [e r hr]
  rw [e2] at this
  exact this
/-- a table, its rows lists -/
def TabAt (K : PySem.W.Frag) (H : Hp) (t : Addr) (tb : Tups) : Prop := SqL K H t (refs tb) ∧ ∀ p ∈ tb, SqL K H p.1 (p.2.map V.int)
theorem tabAt_up {K : PySem.W.Frag} {H H' : Hp} {t : Addr} {tb : Tups} (s : Same H H') (h : TabAt K H t tb) : TabAt K H' t tb := ⟨s.seq h.1, fun p hp => s.seq (h.2 p hp)⟩
def tP (rows : List (List Int)) (r : Int) : List Int := if 0 ≤ r then (rows[r.toNat]?).getD [] else []
structure TabOk (rows : List (List Int)) : Prop where
  len : rows.length ≤ 1000
  lo : ∀ l ∈ rows, ∀ c ∈ l, 0 ≤ c ∧ c < 1000
  nd : ∀ l ∈ rows, l.Nodup
theorem below1000 {l : List Int} (hn : l.Nodup) (h : ∀ c ∈ l, 0 ≤ c ∧ c < 1000) : l.length ≤ 1000 := by
  have n1 : (l.map Int.toNat).Nodup := by
    rw [List.Nodup, List.pairwise_map]
    refine hn.imp_of_mem fun {a b} ha hb hab e => hab ?_
    have := h a ha
    have := h b hb
    omega
  have := nodup_below 1000 _ n1 fun x hx => by
    obtain ⟨a, ha, rfl⟩ := List.mem_map.mp hx
    have := h a ha
    omega
  rw [List.length_map] at this
  exact this
theorem tP_some {rows : List (List Int)} {r c : Int} (h : c ∈ tP rows r) : 0 ≤ r ∧ ∃ l, rows[r.toNat]? = some l ∧ c ∈ l := by
  unfold tP at h
  split at h
  · refine ⟨by assumption, ?_⟩
    cases e : rows[r.toNat]? with
    | none => rw [e] at h; cases h
    | some l => rw [e] at h; exact ⟨l, rfl, h⟩
  · cases h
theorem tP_lo {rows : List (List Int)} (h : TabOk rows) {r c : Int} (hc : c ∈ tP rows r) : 0 ≤ c ∧ c < 1000 := by
  obtain ⟨_, l, e, hl⟩ := tP_some hc
  exact h.lo l (List.mem_of_getElem? e) c hl
def psOf (tb : Tups) (W : List Int) : Prts := W.map fun r => (r, (tb.getD r.toNat (0, [])).1, (tb.getD r.toNat (0, [])).2)
theorem prt_psOf {tb : Tups} {W : List Int} {r : Int} (hr : r ∈ W) (h0 : 0 ≤ r) : prt (psOf tb W) r = tP (keys tb) r := by
  unfold prt psOf
  rw [List.find?_map]
  have : ∃ z, W.find? ((fun z : Int × Addr × List Int => decide (z.1 = r)) ∘ fun r => (r, (tb.getD r.toNat (0, [])).1, (tb.getD r.toNat (0, [])).2)) = some z ∧ z = r := by
    cases e : W.find? ((fun z : Int × Addr × List Int => decide (z.1 = r)) ∘ fun r => (r, (tb.getD r.toNat (0, [])).1, (tb.getD r.toNat (0, [])).2)) with
    | none =>
      have := List.find?_eq_none.mp e r hr
      exact absurd (decide_eq_true (rfl : r = r)) this
    | some z =>
      have h2 := List.find?_some e
      exact ⟨z, rfl, of_decide_eq_true (show decide (z = r) = true from h2)⟩
  obtain ⟨z, ez, rfl⟩ := this
  rw [ez]
  show (tb.getD z.toNat (0, [])).2 = tP (keys tb) z
  unfold tP keys
  rw [if_pos h0, List.getD_eq_getElem?_getD, List.getElem?_map]
  cases tb[z.toNat]? <;> rfl
theorem prt_psOf_none {tb : Tups} {W : List Int} {r : Int} (hr : r ∉ W) : prt (psOf tb W) r = [] := by
  unfold prt psOf
  rw [List.find?_map]
  have : W.find? ((fun z : Int × Addr × List Int => decide (z.1 = r)) ∘ fun r => (r, (tb.getD r.toNat (0, [])).1, (tb.getD r.toNat (0, [])).2)) = none := List.find?_eq_none.mpr fun x hx h => hr (by rw [← (of_decide_eq_true h : x = r)]; exact hx)
  rw [this]
  rfl
def MaxOn (P : Int → List Int) (W : List Int) (g : MM) : Prop := ∀ m', Mt P m' → (W.filter (has m')).length ≤ (W.filter (has g)).length
def spMates (K : PySem.W.Frag) : Sp := fun vs H Q _ => ∃ (t rl : Addr) (tb : Tups) (W : List Int), vs = [.ref t, .ref rl] ∧ TabAt K H t tb ∧ TabOk (keys tb) ∧ SqL K H rl (W.map V.int) ∧ W.Nodup ∧ (∀ r ∈ W, 0 ≤ r ∧ r < (tb.length : Int)) ∧
  ∀ (H' : Hp) (l : Addr) (g : MM), Same H H' → H l = none → H' l = some (.dK (dI g)) → Mt (tP (keys tb)) g → (∀ r c, lk g r = some c → r ∈ W) → MaxOn (tP (keys tb)) W g → Q (.ref l) H'
def spMost (K : PySem.W.Frag) : Sp := fun vs H Q _ => ∃ (t rl : Addr) (tb : Tups) (W : List Int), vs = [.ref t, .ref rl] ∧ TabAt K H t tb ∧ TabOk (keys tb) ∧ SqL K H rl (W.map V.int) ∧ W.Nodup ∧ (∀ r ∈ W, 0 ≤ r ∧ r < (tb.length : Int)) ∧
  ∀ (H' : Hp) (g : MM), Same H H' → Mt (tP (keys tb)) g → (∀ r c, lk g r = some c → r ∈ W) → MaxOn (tP (keys tb)) W g → Q (.int (W.filter (has g)).length) H'
theorem filter_all {W : List Int} {g : MM} (hW : W.Nodup) (hn : (g.map (·.1)).Nodup) (h : ∀ r c, lk g r = some c → r ∈ W) : (W.filter (has g)).length = g.length := by
  have a := len_le_of_sub (hW.filter (has g)) (m := g.map (·.1)) fun r hr => by
    obtain ⟨c, e⟩ := has_some (List.mem_filter.mp hr).2
    exact lk_key e
  have b := len_le_of_sub hn (m := W.filter (has g)) fun r hr => by
    obtain ⟨c, e⟩ := lk_keyE hr
    exact List.mem_filter.mpr ⟨h r c e, by unfold has; rw [e]; rfl⟩
  rw [List.length_map] at a b
  omega
def spByCol (K : PySem.W.Frag) : Sp := fun vs H Q _ => ∃ (t : Addr) (tb : Tups), vs = [.ref t] ∧ TabAt K H t tb ∧ TabOk (keys tb) ∧
  ∀ (H' : Hp) (d : Addr) (ps : Prts), Same H H' → H d = none → PrtAt K H' d ps → Small ps → (∀ c r, r ∈ prt ps c ↔ c ∈ tP (keys tb) r) → Q (.ref d) H'
def pairs2 (m : MM) : List (List Int) := m.map fun x => [x.1, x.2]
def spMatching (K : PySem.W.Frag) : Sp := fun vs H Q _ => ∃ (t rl cl : Addr) (tb : Tups) (W C : List Int), vs = [.ref t, .ref rl, .ref cl] ∧ TabAt K H t tb ∧ TabOk (keys tb) ∧ SqL K H rl (W.map V.int) ∧ W.Nodup ∧ (∀ r ∈ W, 0 ≤ r ∧ r < (tb.length : Int)) ∧
  SqL K H cl (C.map V.int) ∧ C.Nodup ∧ C.length ≤ 1000 ∧
  ∀ (H' : Hp) (l : Addr) (ks : Tups) (g : MM), Same H H' → H l = none → H' l = some (.lst (refs ks)) → TupsAt K H' ks → keys ks = pairs2 g → AscL (keys ks) → Mt (tP (keys tb)) g → MaxOn (tP (keys tb)) W g → (∀ m', Mt (tP (keys tb)) m' → (C.filter (has (swp m'))).length ≤ (C.filter (has (swp g))).length) → Q (.ref l) H'
end Sw
namespace Sw
open PySem PySem.Spec PyProof.Rows L2
def asc1 : List Int → Bool
  | [] => true
  | [_] => true
  | x :: y :: r => decide (x < y) && asc1 (y :: r)
theorem asc1_zip : ∀ ns : List Int, ((ns.zip ns.tail).map fun p => decide (p.1 < p.2)).all id = asc1 ns
  | [] => rfl
  | [_] => rfl
  | x :: y :: r => by
    show (decide (x < y) && (((y :: r).zip r).map fun p => decide (p.1 < p.2)).all id) = (decide (x < y) && asc1 (y :: r))
    rw [← asc1_zip (y :: r)]
    rfl
def isMt (rows : List (List Int)) (m : MM) : Bool := asc1 (m.map (·.1)) && decide (m.map (·.2)).Nodup && m.all fun x => decide (x.2 ∈ tP rows x.1)
def spAsc (K : PySem.W.Frag) : Sp := fun vs H Q _ => ∃ (l : Addr) (ns : List Int), vs = [.ref l] ∧ SqL K H l (ns.map V.int) ∧ ns.length ≤ 2000 ∧ ∀ H', Same H H' → Q (.bl (asc1 ns)) H'
def spIsMt (K : PySem.W.Frag) : Sp := fun vs H Q _ => ∃ (t tl : Addr) (tb ks : Tups) (m : MM), vs = [.ref t, .ref tl] ∧ TabAt K H t tb ∧ SqL K H tl (refs ks) ∧ TupsAt K H ks ∧ keys ks = pairs2 m ∧ m.length < 64 ∧ tb.length ≤ 1000 ∧ ∀ H', Same H H' → Q (.bl (isMt (keys tb) m)) H'
theorem pair_at {ks : Tups} {m : MM} {i : Nat} {q : Addr × List Int} (ek : keys ks = pairs2 m) (hq : ks[i]? = some q) : ∃ x, m[i]? = some x ∧ q.2 = [x.1, x.2] := by
  have e1 : (keys ks)[i]? = some q.2 := by unfold keys; rw [List.getElem?_map, hq]; rfl
  rw [ek] at e1
  unfold pairs2 at e1
  rw [List.getElem?_map] at e1
  cases e : m[i]? with
  | none => rw [e] at e1; cases e1
  | some x => rw [e] at e1; exact ⟨x, rfl, (Option.some.inj e1).symm⟩
theorem refs_at {ks : Tups} {i : Nat} {y : V} (h : (refs ks)[i]? = some y) : ∃ q, ks[i]? = some q ∧ y = V.ref q.1 := by
  unfold refs at h
  rw [List.getElem?_map] at h
  cases e : ks[i]? with
  | none => rw [e] at h; cases h
  | some q => rw [e] at h; exact ⟨q, rfl, (Option.some.inj h).symm⟩
theorem row_at {K : PySem.W.Frag} {H : Hp} {t : Addr} {tb : Tups} (h : TabAt K H t tb) {r : Int} (h0 : 0 ≤ r) (h1 : r < (tb.length : Int)) : ∃ q, tb[r.toNat]? = some q ∧ atI (refs tb) r = some (.ref q.1) ∧ SqL K H q.1 (q.2.map V.int) ∧ tP (keys tb) r = q.2 := by
  have hl : r.toNat < tb.length := by omega
  have e := List.getElem?_eq_getElem hl
  refine ⟨tb[r.toNat], e, ?_, h.2 _ (List.getElem_mem hl), ?_⟩
  · have z : atI (refs tb) ((r.toNat : Nat) : Int) = some (.ref tb[r.toNat].1) := atI_nat (by unfold refs; rw [List.getElem?_map, e]; rfl)
    rw [show ((r.toNat : Nat) : Int) = r by omega] at z
    exact z
  · unfold tP keys
    rw [if_pos h0, List.getElem?_map, e]
    rfl
/-! rows by columns, under way -/
structure RB (K : PySem.W.Frag) (H0 H : Hp) (d : Addr) (ps : Prts) (rows : List (List Int)) (i : Nat) (part : List Int) : Prop where
  ed : H d = some (.dK (shownK ps))
  ls : ∀ z ∈ ps, H z.2.1 = some (.lst (z.2.2.map V.int)) ∧ H0 z.2.1 = none
  an : (ps.map fun z => z.2.1).Nodup
  kn : (ps.map (·.1)).Nodup
  mem : ∀ c r, r ∈ prt ps c ↔ (0 ≤ r ∧ r < (i : Int) ∧ c ∈ tP rows r) ∨ (r = (i : Int) ∧ c ∈ part)
  nd : ∀ z ∈ ps, z.2.2.Nodup
  kl : ∀ z ∈ ps, 0 ≤ z.1 ∧ z.1 < 1000
theorem prt_mem {ps : Prts} {z : Int × Addr × List Int} (hn : (ps.map (·.1)).Nodup) (hz : z ∈ ps) : prt ps z.1 = z.2.2 := by
  unfold prt
  cases e : ps.find? fun y => decide (y.1 = z.1) with
  | none => exact absurd (decide_eq_true (rfl : z.1 = z.1)) (List.find?_eq_none.mp e z hz)
  | some y =>
    have h1 := List.mem_of_find?_eq_some e
    have h2 : y.1 = z.1 := of_decide_eq_true (by have := List.find?_some e; exact this)
    have : y = z := by
      have go : ∀ {ps : Prts}, (ps.map (·.1)).Nodup → y ∈ ps → z ∈ ps → y = z := by
        intro ps
        induction ps with
        | nil => intro _ h; cases h
        | cons w r ih =>
          intro hn hy hz
          rw [List.map_cons, List.nodup_cons] at hn
          rcases List.mem_cons.mp hy with e1 | hy' <;> rcases List.mem_cons.mp hz with e2 | hz'
          · rw [e1, e2]
          · exact absurd (by rw [← e1, h2]; exact List.mem_map_of_mem (f := fun z : Int × Addr × List Int => z.1) hz') hn.1
          · exact absurd (by rw [← e2, ← h2]; exact List.mem_map_of_mem (f := fun z : Int × Addr × List Int => z.1) hy') hn.1
          · exact ih hn.2 hy' hz'
      exact go hn h1 hz
    rw [this]
theorem prt_none {ps : Prts} {c : Int} (h : c ∉ ps.map (·.1)) : prt ps c = [] := by
  unfold prt
  have : ps.find? (fun z => decide (z.1 = c)) = none := List.find?_eq_none.mpr fun x hx e => h (by rw [← (of_decide_eq_true e : x.1 = c)]; exact List.mem_map_of_mem (f := fun z : Int × Addr × List Int => z.1) hx)
  rw [this]
def addTo (ps : Prts) (c r : Int) : Prts := ps.map fun z => if z.1 = c then (z.1, z.2.1, z.2.2 ++ [r]) else z
theorem prt_addTo (ps : Prts) (c r c' : Int) (hc : c ∈ ps.map (·.1)) : prt (addTo ps c r) c' = if c' = c then prt ps c' ++ [r] else prt ps c' := by
  induction ps with
  | nil => cases hc
  | cons z t ih =>
    unfold prt addTo
    rw [List.map_cons, List.find?_cons, List.find?_cons]
    have ez : (if z.1 = c then (z.1, z.2.1, z.2.2 ++ [r]) else z).1 = z.1 := by split <;> rfl
    rw [ez]
    by_cases h : z.1 = c'
    · rw [decide_eq_true h]
      show (if z.1 = c then (z.1, z.2.1, z.2.2 ++ [r]) else z).2.2 = _
      by_cases h2 : c' = c
      · rw [if_pos (h.trans h2), if_pos h2]
      · rw [if_neg (fun e => h2 (h.symm.trans e)), if_neg h2]
    · rw [decide_eq_false h]
      show prt (addTo t c r) c' = if c' = c then prt t c' ++ [r] else prt t c'
      by_cases hct : c ∈ t.map (·.1)
      · exact ih hct
      · have hz : z.1 = c := by
          rcases List.mem_cons.mp hc with e | e
          · exact e.symm
          · exact absurd e hct
        rw [if_neg (fun e => h (hz.trans e.symm))]
        have : addTo t c r = t := by
          unfold addTo
          rw [List.map_congr_left (g := id) fun w hw => by
            rw [if_neg]
            · rfl
            · intro e
              exact hct (by rw [← e]; exact List.mem_map_of_mem (f := fun z : Int × Addr × List Int => z.1) hw), List.map_id]
        rw [this]
theorem shown_addTo (ps : Prts) (c r : Int) : shownK (addTo ps c r) = shownK ps := by
  unfold shownK addTo
  rw [List.map_map]
  apply List.map_congr_left
  intro z _
  show (Sum.inl (if z.1 = c then (z.1, z.2.1, z.2.2 ++ [r]) else z).1, V.ref (if z.1 = c then (z.1, z.2.1, z.2.2 ++ [r]) else z).2.1) = (Sum.inl z.1, V.ref z.2.1)
  split <;> rfl
theorem prt_snoc {ps : Prts} {c : Int} {q : Addr} {l : List Int} (hc : c ∉ ps.map (·.1)) (c' : Int) : prt (ps ++ [(c, q, l)]) c' = if c' = c then l else prt ps c' := by
  unfold prt
  rw [List.find?_append]
  by_cases h : c' = c
  · rw [if_pos h, h]
    have : ps.find? (fun z => decide (z.1 = c)) = none := List.find?_eq_none.mpr fun x hx e => hc (by rw [← (of_decide_eq_true e : x.1 = c)]; exact List.mem_map_of_mem (f := fun z : Int × Addr × List Int => z.1) hx)
    rw [this]
    show (match List.find? (fun z => decide (z.1 = c)) [(c, q, l)] with | some z => z.2.2 | none => []) = l
    rw [List.find?_cons, decide_eq_true (show ((c, q, l) : Int × Addr × List Int).1 = c from rfl)]
  · rw [if_neg h]
    have : List.find? (fun z : Int × Addr × List Int => decide (z.1 = c')) [(c, q, l)] = none := by
      rw [List.find?_cons, decide_eq_false (show ¬ ((c, q, l) : Int × Addr × List Int).1 = c' from fun e => h e.symm)]
      rfl
    rw [this]
    cases ps.find? (fun z => decide (z.1 = c')) <;> rfl
end Sw
namespace Sw
open PySem PySem.Spec PyProof.Rows L2
theorem nodup_get {ps : Prts} {x y : Int × Addr × List Int} (hn : (ps.map fun z => z.2.1).Nodup) (hx : x ∈ ps) (hy : y ∈ ps) (e : x.2.1 = y.2.1) : x = y := by
  induction ps with
  | nil => cases hx
  | cons w r ih =>
    rw [List.map_cons, List.nodup_cons] at hn
    rcases List.mem_cons.mp hx with e1 | hx' <;> rcases List.mem_cons.mp hy with e2 | hy'
    · rw [e1, e2]
    · exact absurd (by rw [← e1, e]; exact List.mem_map_of_mem (f := fun z : Int × Addr × List Int => z.2.1) hy') hn.1
    · exact absurd (by rw [← e2, ← e]; exact List.mem_map_of_mem (f := fun z : Int × Addr × List Int => z.2.1) hx') hn.1
    · exact ih hn.2 hx' hy'
/-- a row goes to the list of a column that has one -/
theorem RB.add {K : PySem.W.Frag} {H0 H : Hp} {d : Addr} {ps : Prts} {rows : List (List Int)} {i : Nat} {part : List Int} {c : Int} {z : Int × Addr × List Int} (h : RB K H0 H d ps rows i part) (hz : z ∈ ps) (ez : z.1 = c) (hc : c ∉ part) :
    RB K H0 (upd H z.2.1 (.lst (z.2.2.map V.int ++ [.int (i : Int)]))) d (addTo ps c i) rows i (part ++ [c]) := by
  have hck : c ∈ ps.map (·.1) := by rw [← ez]; exact List.mem_map_of_mem (f := fun z : Int × Addr × List Int => z.1) hz
  have hd : d ≠ z.2.1 := fun e => by have := (h.ls z hz).1; rw [← e, h.ed] at this; cases this
  have same : ∀ y ∈ ps, y.1 = c → y = z := fun y hy ey => by
    have a1 := prt_mem h.kn hy
    have go : ∀ {ps : Prts}, (ps.map (·.1)).Nodup → y ∈ ps → z ∈ ps → y = z := by
      intro ps
      induction ps with
      | nil => intro _ h; cases h
      | cons w r ih =>
        intro hn hy hz
        rw [List.map_cons, List.nodup_cons] at hn
        rcases List.mem_cons.mp hy with e1 | hy' <;> rcases List.mem_cons.mp hz with e2 | hz'
        · rw [e1, e2]
        · exact absurd (by rw [← e1, ey, ← ez]; exact List.mem_map_of_mem (f := fun z : Int × Addr × List Int => z.1) hz') hn.1
        · exact absurd (by rw [← e2, ez, ← ey]; exact List.mem_map_of_mem (f := fun z : Int × Addr × List Int => z.1) hy') hn.1
        · exact ih hn.2 hy' hz'
    exact go h.kn hy hz
  refine ⟨by rw [upd_ne hd, shown_addTo]; exact h.ed, fun y hy => ?_, ?_, ?_, fun c' r => ?_, fun y hy => ?_, fun y hy => ?_⟩
  · obtain ⟨w, hw, rfl⟩ := List.mem_map.mp hy
    by_cases e : w.1 = c
    · rw [if_pos e, same w hw e]
      refine ⟨?_, (h.ls z hz).2⟩
      show (upd H z.2.1 _) z.2.1 = _
      rw [upd_same, map_push]
    · rw [if_neg e]
      refine ⟨?_, (h.ls w hw).2⟩
      rw [upd_ne fun e' => e (by rw [nodup_get h.an hw hz e']; exact ez)]
      exact (h.ls w hw).1
  · unfold addTo
    rw [List.map_map, List.map_congr_left (g := fun z => z.2.1) fun w _ => by show (if w.1 = c then (w.1, w.2.1, w.2.2 ++ [(i : Int)]) else w).2.1 = w.2.1; split <;> rfl]
    exact h.an
  · unfold addTo
    rw [List.map_map, List.map_congr_left (g := fun z => z.1) fun w _ => by show (if w.1 = c then (w.1, w.2.1, w.2.2 ++ [(i : Int)]) else w).1 = w.1; split <;> rfl]
    exact h.kn
  · rw [prt_addTo ps c i c' hck]
    by_cases e : c' = c
    · rw [if_pos e, List.mem_append, h.mem, List.mem_singleton, List.mem_append, List.mem_singleton]
      constructor
      · rintro ((h1 | ⟨h1, h2⟩) | h1)
        · exact .inl h1
        · exact .inr ⟨h1, .inl h2⟩
        · exact .inr ⟨h1, .inr e⟩
      · rintro (h1 | ⟨h1, h2⟩)
        · exact .inl (.inl h1)
        · exact .inr h1
    · rw [if_neg e, h.mem, List.mem_append, List.mem_singleton]
      constructor
      · rintro (h1 | ⟨h1, h2⟩)
        · exact .inl h1
        · exact .inr ⟨h1, .inl h2⟩
      · rintro (h1 | ⟨h1, h2 | h2⟩)
        · exact .inl h1
        · exact .inr ⟨h1, h2⟩
        · exact absurd h2 e
  · obtain ⟨w, hw, rfl⟩ := List.mem_map.mp hy
    by_cases e : w.1 = c
    · rw [if_pos e]
      refine nodup_push (h.nd w hw) fun hm => ?_
      rw [← prt_mem h.kn hw, e] at hm
      rcases (h.mem c i).mp hm with ⟨_, h2, _⟩ | ⟨_, h2⟩
      · omega
      · exact hc h2
    · rw [if_neg e]
      exact h.nd w hw
  · obtain ⟨w, hw, rfl⟩ := List.mem_map.mp hy
    by_cases e : w.1 = c
    · rw [if_pos e]
      exact h.kl w hw
    · rw [if_neg e]
      exact h.kl w hw
/-- a column comes in, with a list of its own -/
theorem RB.new {K : PySem.W.Frag} {H0 H : Hp} {d q : Addr} {ps : Prts} {rows : List (List Int)} {i : Nat} {part : List Int} {c : Int} (h : RB K H0 H d ps rows i part) (hk : c ∉ ps.map (·.1)) (hq : H q = some (.lst [])) (hq0 : H0 q = none) (hqn : ∀ z ∈ ps, z.2.1 ≠ q) (hl : 0 ≤ c ∧ c < 1000) :
    RB K H0 (upd H d (.dK (shownK (ps ++ [(c, q, [])])))) d (ps ++ [(c, q, [])]) rows i part := by
  have hd : ∀ b o, H b = some (.lst o) → b ≠ d := fun b o e z => by rw [z, h.ed] at e; cases e
  refine ⟨upd_same, fun y hy => ?_, ?_, ?_, fun c' r => ?_, fun y hy => ?_, fun y hy => ?_⟩
  · rcases List.mem_append.mp hy with hy | hy
    · obtain ⟨h1, h2⟩ := h.ls y hy
      exact ⟨by rw [upd_ne (hd _ _ h1)]; exact h1, h2⟩
    · rw [List.mem_singleton.mp hy]
      exact ⟨by rw [upd_ne (hd _ _ hq)]; exact hq, hq0⟩
  · rw [List.map_append]
    refine nodup_push h.an fun hm => ?_
    obtain ⟨z, hz, e⟩ := List.mem_map.mp hm
    exact hqn z hz e
  · rw [List.map_append]
    exact nodup_push h.kn hk
  · rw [prt_snoc hk]
    by_cases e : c' = c
    · rw [if_pos e, ← h.mem, e, prt_none hk]
    · rw [if_neg e]
      exact h.mem c' r
  · rcases List.mem_append.mp hy with hy | hy
    · exact h.nd y hy
    · rw [List.mem_singleton.mp hy]
      exact List.nodup_nil
  · rcases List.mem_append.mp hy with hy | hy
    · exact h.kl y hy
    · rw [List.mem_singleton.mp hy]
      exact hl
end Sw
namespace Sw
open PySem PySem.Spec PyProof.Rows L2
theorem inV_ints (x : Int) : ∀ ns : List Int, inV (.int x) (ns.map V.int) = decide (x ∈ ns)
  | [] => rfl
  | y :: r => by
    show (eqV (.int y) (.int x) || inV (.int x) (r.map V.int)) = _
    rw [inV_ints x r]
    show ((y == x) || decide (x ∈ r)) = _
    by_cases h : y = x
    · rw [h, beq_self_eq_true, Bool.true_or, decide_eq_true List.mem_cons_self]
    · rw [beq_eq_false_iff_ne.mpr h, Bool.false_or]
      by_cases hm : x ∈ r
      · rw [decide_eq_true hm, decide_eq_true (List.mem_cons_of_mem _ hm)]
      · rw [decide_eq_false hm, decide_eq_false (fun z => (List.mem_cons.mp z).elim (fun e => h e.symm) hm)]
end Sw
set_option Elab.async false
set_option linter.all false
set_option maxRecDepth 100000
set_option maxHeartbeats 4000000
/-! All matchings of a small table, row by row. -/
namespace Sw
open PySem PySem.Spec PyProof.Rows L2
def stepM (P : Int → List Int) (k : Int) (m : MM) : List MM := m :: ((P k).filter fun c => !decide (c ∈ m.map (·.2))).map fun c => m ++ [(k, c)]
def allM (P : Int → List Int) : Nat → List MM
  | 0 => [[]]
  | k + 1 => (allM P k).flatMap (stepM P k)
theorem asc1_iff : ∀ ns : List Int, asc1 ns = true ↔ ns.Pairwise (· < ·)
  | [] => ⟨fun _ => .nil, fun _ => rfl⟩
  | [x] => ⟨fun _ => List.pairwise_singleton _ _, fun _ => rfl⟩
  | x :: y :: r => by
    show (decide (x < y) && asc1 (y :: r)) = true ↔ _
    rw [Bool.and_eq_true, asc1_iff (y :: r), decide_eq_true_iff, List.pairwise_cons (a := x)]
    constructor
    · rintro ⟨h, h2⟩
      refine ⟨fun z hz => ?_, h2⟩
      rcases List.mem_cons.mp hz with rfl | hz
      · exact h
      · have := (List.pairwise_cons.mp h2).1 z hz
        omega
    · rintro ⟨h, h2⟩
      exact ⟨h y (List.mem_cons_self ..), h2⟩
def MtTo (P : Int → List Int) (k : Int) (m : MM) : Prop := (m.map (·.1)).Pairwise (· < ·) ∧ (m.map (·.2)).Nodup ∧ ∀ x ∈ m, x.2 ∈ P x.1 ∧ 0 ≤ x.1 ∧ x.1 < k
theorem mem_allM (P : Int → List Int) : ∀ (k : Nat) (m : MM), m ∈ allM P k ↔ MtTo P k m
  | 0, m => by
    show m ∈ [[]] ↔ _
    rw [List.mem_singleton]
    constructor
    · rintro rfl
      exact ⟨.nil, List.nodup_nil, fun x hx => by cases hx⟩
    · rintro ⟨_, _, h⟩
      cases m with
      | nil => rfl
      | cons x r =>
        have := h x (List.mem_cons_self ..)
        omega
  | k + 1, m => by
    show m ∈ (allM P k).flatMap (stepM P k) ↔ _
    rw [List.mem_flatMap]
    constructor
    · rintro ⟨m0, h0, hm⟩
      obtain ⟨a1, a2, a3⟩ := (mem_allM P k m0).mp h0
      unfold stepM at hm
      rcases List.mem_cons.mp hm with rfl | hm
      · exact ⟨a1, a2, fun x hx => ⟨(a3 x hx).1, (a3 x hx).2.1, by have := (a3 x hx).2.2; omega⟩⟩
      · obtain ⟨c, hc, rfl⟩ := List.mem_map.mp hm
        obtain ⟨c1, c2⟩ := List.mem_filter.mp hc
        have c3 : c ∉ m0.map (·.2) := by
          intro h
          rw [decide_eq_true h] at c2
          cases c2
        refine ⟨?_, ?_, fun x hx => ?_⟩
        · rw [List.map_append, List.pairwise_append]
          refine ⟨a1, List.pairwise_singleton _ _, fun u hu v hv => ?_⟩
          obtain ⟨x, hx, rfl⟩ := List.mem_map.mp hu
          rw [List.mem_singleton.mp (show v ∈ [(k : Int)] from hv)]
          exact (a3 x hx).2.2
        · rw [List.map_append]
          exact nodup_push a2 c3
        · rcases List.mem_append.mp hx with hx | hx
          · exact ⟨(a3 x hx).1, (a3 x hx).2.1, by have := (a3 x hx).2.2; omega⟩
          · rw [List.mem_singleton.mp hx]
            exact ⟨c1, Int.natCast_nonneg k, by show (k : Int) < ((k + 1 : Nat) : Int); omega⟩
    · rintro ⟨a1, a2, a3⟩
      rcases List.eq_nil_or_concat m with rfl | ⟨m0, y, rfl⟩
      · exact ⟨[], (mem_allM P k []).mpr ⟨.nil, List.nodup_nil, fun x hx => by cases hx⟩, List.mem_cons_self ..⟩
      · rw [List.concat_eq_append] at a1 a2 a3 ⊢
        rw [List.map_append, List.pairwise_append] at a1
        obtain ⟨b1, _, b3⟩ := a1
        rw [List.map_append, List.nodup_append] at a2
        obtain ⟨d1, _, d3⟩ := a2
        have hy := a3 y (List.mem_append_right _ (List.mem_singleton.mpr rfl))
        have lt : ∀ x ∈ m0, x.1 < y.1 := fun x hx => b3 x.1 (List.mem_map_of_mem hx) y.1 (List.mem_singleton.mpr rfl)
        by_cases e : y.1 = (k : Int)
        · refine ⟨m0, (mem_allM P k m0).mpr ⟨b1, d1, fun x hx => ⟨(a3 x (List.mem_append_left _ hx)).1, (a3 x (List.mem_append_left _ hx)).2.1, by rw [← e]; exact lt x hx⟩⟩, ?_⟩
          refine List.mem_cons_of_mem _ (List.mem_map.mpr ⟨y.2, List.mem_filter.mpr ⟨by rw [← e]; exact hy.1, ?_⟩, by rw [← e]⟩)
          rw [decide_eq_false fun h => d3 y.2 h y.2 (List.mem_singleton.mpr rfl) rfl]
          rfl
        · refine ⟨_, (mem_allM P k (m0 ++ [y])).mpr ⟨?_, ?_, fun x hx => ⟨(a3 x hx).1, (a3 x hx).2.1, ?_⟩⟩, List.mem_cons_self ..⟩
          · rw [List.map_append, List.pairwise_append]
            exact ⟨b1, List.pairwise_singleton _ _, b3⟩
          · rw [List.map_append, List.nodup_append]
            exact ⟨d1, List.nodup_cons.mpr ⟨(fun h => nomatch h), List.nodup_nil⟩, d3⟩
          · have h2 := hy.2.2
            rcases List.mem_append.mp hx with hx | hx
            · have := lt x hx
              omega
            · rw [List.mem_singleton.mp hx]
              omega
theorem flat_len {α β : Type} (f : α → List β) (b : Nat) : ∀ l : List α, (∀ x ∈ l, (f x).length ≤ b) → (l.flatMap f).length ≤ l.length * b
  | [], _ => Nat.zero_le _
  | x :: l, h => by
    rw [List.flatMap_cons, List.length_append, List.length_cons, Nat.add_mul, Nat.one_mul]
    have := flat_len f b l fun y hy => h y (List.mem_cons_of_mem _ hy)
    have := h x (List.mem_cons_self ..)
    omega
theorem stepM_len {P : Int → List Int} (h6 : ∀ r, (P r).length ≤ 6) (k : Int) (m : MM) : (stepM P k m).length ≤ 7 := by
  unfold stepM
  rw [List.length_cons, List.length_map]
  have := List.length_filter_le (fun c => !decide (c ∈ m.map (·.2))) (P k)
  have := h6 k
  omega
theorem allM_len {P : Int → List Int} (h6 : ∀ r, (P r).length ≤ 6) : ∀ k : Nat, (allM P k).length ≤ 7 ^ k
  | 0 => Nat.le_refl _
  | k + 1 => by
    have := flat_len (stepM P k) 7 (allM P k) fun x _ => stepM_len h6 k x
    have := Nat.mul_le_mul_right 7 (allM_len h6 k)
    rw [Nat.pow_succ]
    exact Nat.le_trans (by assumption) this
theorem allM_each {P : Int → List Int} : ∀ (k : Nat) (m : MM), m ∈ allM P k → m.length ≤ k
  | 0, m, h => by
    rw [List.mem_singleton.mp (show m ∈ [[]] from h)]
    exact Nat.le_refl _
  | k + 1, m, h => by
    obtain ⟨m0, h0, hm⟩ := List.mem_flatMap.mp (show m ∈ (allM P k).flatMap (stepM P k) from h)
    have := allM_each k m0 h0
    unfold stepM at hm
    rcases List.mem_cons.mp hm with rfl | hm
    · omega
    · obtain ⟨c, _, rfl⟩ := List.mem_map.mp hm
      rw [List.length_append, List.length_singleton]
      omega
/-- lists of lists of pairs -/
abbrev Ents := List (Addr × Tups × MM)
def eRefs (es : Ents) : List V := es.map fun e => V.ref e.1
def EntAt (K : PySem.W.Frag) (H : Hp) (es : Ents) : Prop := ∀ e ∈ es, H e.1 = some (.lst (refs e.2.1)) ∧ TupsAt K H e.2.1 ∧ keys e.2.1 = pairs2 e.2.2
theorem entAt_up {K : PySem.W.Frag} {H H' : Hp} {es : Ents} (s : Same H H') (h : EntAt K H es) : EntAt K H' es := fun e he => ⟨s _ _ (h e he).1, tups_up s (h e he).2.1, (h e he).2.2⟩
theorem eRefs_push (es : Ents) (e : Addr × Tups × MM) : eRefs (es ++ [e]) = eRefs es ++ [V.ref e.1] := by unfold eRefs; rw [List.map_append]; rfl
theorem eRefs_len (es : Ents) : (eRefs es).length = es.length := List.length_map ..
theorem eRefs_at {es : Ents} {i : Nat} {y : V} (h : (eRefs es)[i]? = some y) : ∃ e, es[i]? = some e ∧ y = V.ref e.1 := by
  unfold eRefs at h
  rw [List.getElem?_map] at h
  cases e : es[i]? with
  | none => rw [e] at h; cases h
  | some q => rw [e] at h; exact ⟨q, rfl, (Option.some.inj h).symm⟩
def mms (es : Ents) : List MM := es.map fun e => e.2.2
def spAllM (K : PySem.W.Frag) : Sp := fun vs H Q _ => ∃ (t : Addr) (tb : Tups), vs = [.ref t] ∧ TabAt K H t tb ∧ tb.length ≤ 5 ∧ (∀ r, (tP (keys tb) r).length ≤ 6) ∧
  ∀ (H' : Hp) (l : Addr) (es : Ents), Same H H' → H l = none → H' l = some (.lst (eRefs es)) → EntAt K H' es → mms es = allM (tP (keys tb)) tb.length → Q (.ref l) H'
def spDrawn (K : PySem.W.Frag) : Sp := fun vs H Q _ => ∃ (p1 : Addr) (ns : List Int) (at' : Int), vs = [.ref p1, .int at'] ∧ SqL K H p1 (ns.map V.int) ∧ (∀ n ∈ ns, Num n) ∧ 0 ≤ at' ∧ at' + 6 ≤ (ns.length : Int) ∧
  ∀ (H' : Hp) (t : Addr) (tb : Tups), Same H H' → H' t = some (.lst (refs tb)) → (∀ p ∈ tb, SqL K H' p.1 (p.2.map V.int)) → tb.length ≤ 5 → (∀ p ∈ tb, p.2.Nodup ∧ ∀ c ∈ p.2, 0 ≤ c ∧ c < 6) → Q (.ref t) H'
def spSome (K : PySem.W.Frag) : Sp := fun vs H Q _ => ∃ (n : Int) (many : Nat), vs = [.int n, .int many] ∧ many ≤ 6 ∧ Num n ∧
  ∀ (H' : Hp) (l : Addr) (W : List Int), Same H H' → H' l = some (.lst (W.map V.int)) → W.Nodup → (∀ r ∈ W, 0 ≤ r ∧ r < (many : Int)) → Q (.ref l) H'
def spBent (K : PySem.W.Frag) : Sp := fun vs H Q _ => ∃ (p1 tl : Addr) (ns : List Int) (at' : Int) (ks : Tups) (m : MM), vs = [.ref p1, .int at', .ref tl] ∧ SqL K H p1 (ns.map V.int) ∧ (∀ n ∈ ns, Num n) ∧ 0 ≤ at' ∧ at' + 3 ≤ (ns.length : Int) ∧ SqL K H tl (refs ks) ∧ TupsAt K H ks ∧ keys ks = pairs2 m ∧ m.length ≤ 20 ∧
  ∀ (H' : Hp) (l : Addr) (ks' : Tups) (m' : MM), Same H H' → H' l = some (.lst (refs ks')) → TupsAt K H' ks' → keys ks' = pairs2 m' → m'.length ≤ 40 → Q (.ref l) H'
def spRowsOf (K : PySem.W.Frag) : Sp := fun vs H Q _ => ∃ (tl rl : Addr) (ks : Tups) (m : MM) (W : List Int), vs = [.ref tl, .ref rl] ∧ SqL K H tl (refs ks) ∧ TupsAt K H ks ∧ keys ks = pairs2 m ∧ m.length ≤ 40 ∧ SqL K H rl (W.map V.int) ∧
  ∀ H', Same H H' → Q (.int (m.filter fun x => decide (x.1 ∈ W)).length) H'
def spColsOf (K : PySem.W.Frag) : Sp := fun vs H Q _ => ∃ (tl rl : Addr) (ks : Tups) (m : MM) (W : List Int), vs = [.ref tl, .ref rl] ∧ SqL K H tl (refs ks) ∧ TupsAt K H ks ∧ keys ks = pairs2 m ∧ m.length ≤ 40 ∧ SqL K H rl (W.map V.int) ∧
  ∀ H', Same H H' → Q (.int (m.filter fun x => decide (x.2 ∈ W)).length) H'
end Sw

namespace Sw
open PySem PySem.Spec PyProof.Rows L2
theorem ixN_nat {j n : Nat} (h : j < n) : ixN n (j : Int) = some j := by unfold ixN; rw [if_pos (Int.natCast_nonneg j), if_pos (by omega)]; rfl
theorem seqIx_nat {j n : Nat} (h : j < n) : seqIndex? (j : Int) n = some j := by
  unfold seqIndex?
  rw [if_neg (by omega : ¬ ((j : Int) < 0))]
  show (if (decide (0 ≤ (j : Int)) && decide ((j : Int) < n)) = true then some (j : Int).toNat else none) = some j
  rw [decide_eq_true (Int.natCast_nonneg j), decide_eq_true (by omega : (j : Int) < n)]
  rfl
theorem refs_erase : ∀ (ks : Tups) (j : Nat), (refs ks).eraseIdx j = refs (ks.eraseIdx j)
  | [], _ => rfl
  | _ :: _, 0 => rfl
  | k :: ks, j + 1 => congrArg (V.ref k.1 :: ·) (refs_erase ks j)
theorem refs_rev (ks : Tups) : (refs ks).reverse = refs ks.reverse := by unfold refs; rw [List.map_reverse]
theorem refs_set (ks : Tups) (j : Nat) (p : Addr) (k : List Int) : (refs ks).set j (.ref p) = refs (ks.set j (p, k)) := by unfold refs; rw [List.map_set]
def Prs (ks : Tups) : Prop := ∀ p ∈ ks, ∃ u v : Int, p.2 = [u, v]
theorem prs_of : ∀ {ks : Tups}, Prs ks → ∃ m : MM, keys ks = pairs2 m
  | [], _ => ⟨[], rfl⟩
  | k :: ks, h => by
    obtain ⟨u, v, e⟩ := h k (List.mem_cons_self ..)
    obtain ⟨m, hm⟩ := prs_of fun p hp => h p (List.mem_cons_of_mem _ hp)
    refine ⟨(u, v) :: m, ?_⟩
    show k.2 :: keys ks = [u, v] :: pairs2 m
    rw [e, hm]
theorem prs_mm {ks : Tups} {m : MM} (h : keys ks = pairs2 m) : Prs ks := fun p hp => by
  have h1 : p.2 ∈ keys ks := List.mem_map_of_mem (f := fun z : Addr × List Int => z.2) hp
  rw [h] at h1
  obtain ⟨x, _, e⟩ := List.mem_map.mp h1
  exact ⟨x.1, x.2, e.symm⟩
theorem mm_len {ks : Tups} {m : MM} (h : keys ks = pairs2 m) : m.length = ks.length := by
  have := congrArg List.length h
  unfold pairs2 at this
  rw [keys_len, List.length_map] at this
  exact this.symm
/-- a list of pairs in the making, with what stands before and behind it among the locals -/
def BentAt (K : PySem.W.Frag) (H : Hp) (a b : List (Option V)) (n most : Nat) (S : Prop) : L2.St → Hp → Prop := fun σ H2 => ∃ (fl : Addr) (ks : Tups), σ = a ++ some (.ref fl) :: b ∧ Same H H2 ∧ H fl = none ∧ H2 fl = some (.lst (refs ks)) ∧ TupsAt K H2 ks ∧ Prs ks ∧ ks.length ≤ most ∧ (S → ks.length = n)
theorem bent_app {K : PySem.W.Frag} {H H2 H3 : Hp} {a b : List (Option V)} {fl pt : Addr} {ks : Tups} {u v : Int} {n most : Nat} {S : Prop} (nf : H fl = none) (s2 : Same H H2) (e : H2 fl = some (.lst (refs ks))) (s3 : Same H2 H3) (t : TupsAt K H3 ks) (tt : SqT K H3 pt ([u, v].map V.int)) (p : Prs ks) (l : ks.length < most) (hS : ¬ S) :
    BentAt K H a b n most S (a ++ some (.ref fl) :: b) (upd H3 fl (.lst (refs ks ++ [V.ref pt]))) := by
  have e3 := s3 _ _ e
  refine ⟨fl, ks ++ [(pt, [u, v])], rfl, same_put nf (s2.trans s3), nf, by rw [upd_same, ← refs_push], tups_app (fun q hq => sqT_lst e3 (t q hq)) (tups_one (sqT_lst e3 tt)), fun q hq => ?_, by rw [List.length_append]; exact l, fun h => absurd h hS⟩
  rcases List.mem_append.mp hq with hq | hq
  · exact p q hq
  · rw [List.mem_singleton.mp hq]
    exact ⟨u, v, rfl⟩
theorem bent_set {K : PySem.W.Frag} {H H2 H3 : Hp} {a b : List (Option V)} {fl pt : Addr} {ks : Tups} {u v : Int} {n most j : Nat} {S : Prop} (nf : H fl = none) (s2 : Same H H2) (e : H2 fl = some (.lst (refs ks))) (s3 : Same H2 H3) (t : TupsAt K H3 ks) (tt : SqT K H3 pt ([u, v].map V.int)) (p : Prs ks) (l : ks.length ≤ most) (hS : S → ks.length = n) :
    BentAt K H a b n most S (a ++ some (.ref fl) :: b) (upd H3 fl (.lst ((refs ks).set j (V.ref pt)))) := by
  have e3 := s3 _ _ e
  refine ⟨fl, ks.set j (pt, [u, v]), rfl, same_put nf (s2.trans s3), nf, by rw [upd_same, refs_set ks j pt [u, v]], fun q hq => ?_, fun q hq => ?_, by rw [List.length_set]; exact l, fun h => by rw [List.length_set]; exact hS h⟩
  · rcases List.mem_or_eq_of_mem_set hq with hq | rfl
    · exact sqT_lst e3 (t q hq)
    · exact sqT_lst e3 tt
  · rcases List.mem_or_eq_of_mem_set hq with hq | rfl
    · exact p q hq
    · exact ⟨u, v, rfl⟩
theorem kindI {kd c : Int} (g : decide (V.int kd = V.int c) = true) : kd = c := by
  have := of_decide_eq_true g
  injection this
end Sw

namespace L2
open PySem PySem.Spec PyProof.Rows
theorem call_list_ofK {X : Cx} {K : PySem.W.Frag} (h : X.K = K := by rfl) : CallR X (.type "list") (fun xs H Q => ∃ p ys, xs = [V.ref p] ∧ (SqL K H p ys ∨ SqT K H p ys) ∧ ∀ l, H l = none → Q (.ref l) (upd H l (.lst ys))) := h ▸ call_list_of
end L2

namespace Sw
open PySem PySem.Spec PyProof.Rows L2
theorem asc_pairs {g : MM} (ha : AscL (pairs2 g)) (hn : (g.map (·.1)).Nodup) : (g.map (·.1)).Pairwise (· < ·) := by
  unfold AscL pairs2 at ha
  rw [List.pairwise_map] at ha ⊢
  rw [List.Nodup, List.pairwise_map] at hn
  refine (ha.and hn).imp fun {a b} h => ?_
  obtain ⟨h1, h2⟩ := h
  have h3 : (decide (b.1 < a.1) || (decide (b.1 = a.1) && ltI [b.2] [a.2])) = false := h1
  rw [Bool.or_eq_false_iff] at h3
  have := of_decide_eq_false h3.1
  omega
theorem eqvAll_tups : ∀ a b : List (List Int), PyData.eqvAll (a.map dTI) (b.map dTI) = decide (a = b)
  | [], [] => rfl
  | [], _ :: _ => rfl
  | _ :: _, [] => rfl
  | x :: a, y :: b => by
    show (PyData.eqv (dTI x) (dTI y) && PyData.eqvAll (a.map dTI) (b.map dTI)) = _
    rw [eqv_ti, eqvAll_tups a b]
    by_cases h : x = y
    · by_cases h2 : a = b
      · rw [decide_eq_true h, decide_eq_true h2, decide_eq_true (by rw [h, h2])]; rfl
      · rw [decide_eq_true h, decide_eq_false h2, decide_eq_false (fun z => h2 (List.cons.inj z).2)]; rfl
    · rw [decide_eq_false h, decide_eq_false (fun z => h (List.cons.inj z).1)]; rfl
theorem pairs2_inj : ∀ {a b : MM}, pairs2 a = pairs2 b → a = b
  | [], [], _ => rfl
  | [], _ :: _, h => nomatch h
  | _ :: _, [], h => nomatch h
  | x :: a, y :: b, h => by
    have h1 : [x.1, x.2] = [y.1, y.2] := (List.cons.inj h).1
    injection h1 with h2 h3
    injection h3 with h4
    rw [pairs2_inj (List.cons.inj h).2, show x = y from Prod.ext h2 h4]
def mmD (m : MM) : PyData := .list ((pairs2 m).map dTI)
theorem eqv_mm (a b : MM) : PyData.eqv (mmD a) (mmD b) = decide (a = b) := by
  show PyData.eqvAll ((pairs2 a).map dTI) ((pairs2 b).map dTI) = _
  rw [eqvAll_tups]
  by_cases h : a = b
  · rw [h, decide_eq_true rfl, decide_eq_true rfl]
  · rw [decide_eq_false h, decide_eq_false fun z => h (pairs2_inj z)]
theorem any_mms (ms : List MM) (m : MM) : ((ms.map mmD).any fun z => PyData.eqv z (mmD m)) = decide (m ∈ ms) := by
  induction ms with
  | nil => rfl
  | cons q r ih =>
    rw [List.map_cons, List.any_cons, ih, eqv_mm]
    by_cases h : q = m
    · subst h
      simp
    · rw [decide_eq_false h, Bool.false_or]
      exact decide_eq_decide.mpr ⟨fun z => List.mem_cons_of_mem _ z, fun z => by
        rcases List.mem_cons.mp z with e | e
        · exact absurd e.symm h
        · exact e⟩
theorem lay_mm (m : MM) : Lay 2 (mmD m) := lay_tups _
theorem lay_mms (ms : List MM) : Lay 3 (.list (ms.map mmD)) := lay_list fun d hd => by
  obtain ⟨m, _, rfl⟩ := List.mem_map.mp hd
  exact lay_mm m
theorem dp_mm {K : PySem.W.Frag} {H : Hp} {l : Addr} {ks : Tups} {m : MM} (h : H l = some (.lst (refs ks))) (t : TupsAt K H ks) (e : keys ks = pairs2 m) : Dp K H (.ref l) (mmD m) := by
  have := dp_l h (dp_tups t)
  rw [e] at this
  exact this
theorem dp_mms {K : PySem.W.Frag} {H : Hp} : ∀ {es : Ents}, EntAt K H es → DpAll K H (eRefs es) ((mms es).map mmD)
  | [], _ => .nil
  | e :: r, h => .cons (dp_mm (h e List.mem_cons_self).1 (h e List.mem_cons_self).2.1 (h e List.mem_cons_self).2.2) (dp_mms fun q hq => h q (List.mem_cons_of_mem _ hq))
def tabD (rows : List (List Int)) : PyData := .list (rows.map fun r => .list (r.map PyData.int))
theorem lay_tab (rows : List (List Int)) : Lay 2 (tabD rows) := lay_list fun d hd => by
  obtain ⟨r, _, rfl⟩ := List.mem_map.mp hd
  refine lay_list fun d hd => ?_
  obtain ⟨i, _, rfl⟩ := List.mem_map.mp hd
  exact lay_int 0 i
theorem dpAll_tab {K : PySem.W.Frag} {H : Hp} : ∀ {tb : Tups}, (∀ p ∈ tb, SqL K H p.1 (p.2.map V.int)) → DpAll K H (refs tb) ((keys tb).map fun r => .list (r.map PyData.int))
  | [], _ => .nil
  | p :: r, h => .cons (.lst (h p List.mem_cons_self) (dpAll_ints _)) (dpAll_tab fun q hq => h q (List.mem_cons_of_mem _ hq))
theorem dp_tab {K : PySem.W.Frag} {H : Hp} {t : Addr} {tb : Tups} (h : TabAt K H t tb) : Dp K H (.ref t) (tabD (keys tb)) := .lst h.1 (dpAll_tab h.2)
theorem isMt_iff (rows : List (List Int)) (m : MM) : isMt rows m = decide (m ∈ allM (tP rows) rows.length) := by
  have e : isMt rows m = true ↔ m ∈ allM (tP rows) rows.length := by
    rw [mem_allM]
    unfold isMt MtTo
    rw [Bool.and_eq_true, Bool.and_eq_true, asc1_iff, decide_eq_true_iff, List.all_eq_true]
    constructor
    · rintro ⟨⟨h1, h2⟩, h3⟩
      refine ⟨h1, h2, fun x hx => ?_⟩
      have h4 := of_decide_eq_true (h3 x hx)
      obtain ⟨h5, l, hl, _⟩ := tP_some h4
      have := (List.getElem?_eq_some_iff.mp hl).1
      exact ⟨h4, h5, by omega⟩
    · rintro ⟨h1, h2, h3⟩
      exact ⟨⟨h1, h2⟩, fun x hx => decide_eq_true (h3 x hx).1⟩
  by_cases h : m ∈ allM (tP rows) rows.length
  · rw [decide_eq_true h]
    exact e.mpr h
  · rw [decide_eq_false h]
    cases e2 : isMt rows m with
    | false => rfl
    | true => exact absurd (e.mp e2) h
theorem mt_of_to {P : Int → List Int} {k : Int} {m : MM} (h : MtTo P k m) : Mt P m := by
  obtain ⟨h1, h2, h3⟩ := h
  have hnd : (m.map (·.1)).Nodup := h1.imp fun {a b} h e => by omega
  refine ⟨hnd, fun r c e => (h3 (r, c) (lk_some e)).1, fun r r' c e1 e2 => ?_⟩
  have m1 := lk_some e1
  have m2 := lk_some e2
  have hns : ((swp m).map (·.1)).Nodup := by rw [swp_keys]; exact h2
  have a1 := lk_mem (m := swp m) (k := c) (v := r) hns (List.mem_map.mpr ⟨(r, c), m1, rfl⟩)
  have a2 := lk_mem (m := swp m) (k := c) (v := r') hns (List.mem_map.mpr ⟨(r', c), m2, rfl⟩)
  rw [a1] at a2
  exact Option.some.inj a2
theorem cntR {P : Int → List Int} {m : MM} {W : List Int} (h : Mt P m) (hW : W.Nodup) : (m.filter fun x => decide (x.1 ∈ W)).length = (W.filter (has m)).length := by
  have hn : ((m.filter fun x => decide (x.1 ∈ W)).map (·.1)).Nodup := List.Nodup.sublist (List.Sublist.map _ List.filter_sublist) h.nd
  have a := len_le_of_sub hn (m := W.filter (has m)) fun r hr => by
    obtain ⟨x, hx, rfl⟩ := List.mem_map.mp hr
    obtain ⟨h1, h2⟩ := List.mem_filter.mp hx
    exact List.mem_filter.mpr ⟨of_decide_eq_true h2, by unfold has; rw [lk_mem (v := x.2) h.nd h1]; rfl⟩
  have b := len_le_of_sub (hW.filter (has m)) (m := (m.filter fun x => decide (x.1 ∈ W)).map (·.1)) fun r hr => by
    obtain ⟨h1, h2⟩ := List.mem_filter.mp hr
    obtain ⟨c, e⟩ := has_some h2
    exact List.mem_map.mpr ⟨(r, c), List.mem_filter.mpr ⟨lk_some e, decide_eq_true h1⟩, rfl⟩
  rw [List.length_map] at a b
  omega
theorem cntC {P : Int → List Int} {m : MM} {C : List Int} (h : Mt P m) (hC : C.Nodup) : (m.filter fun x => decide (x.2 ∈ C)).length = (C.filter (has (swp m))).length := by
  have hn : ((m.filter fun x => decide (x.2 ∈ C)).map (·.2)).Nodup := List.Nodup.sublist (List.Sublist.map _ List.filter_sublist) h.cn
  have hns : ((swp m).map (·.1)).Nodup := by rw [swp_keys]; exact h.cn
  have a := len_le_of_sub hn (m := C.filter (has (swp m))) fun c hr => by
    obtain ⟨x, hx, rfl⟩ := List.mem_map.mp hr
    obtain ⟨h1, h2⟩ := List.mem_filter.mp hx
    refine List.mem_filter.mpr ⟨of_decide_eq_true h2, ?_⟩
    have : (x.2, x.1) ∈ swp m := List.mem_map.mpr ⟨x, h1, rfl⟩
    unfold has
    rw [lk_mem (v := x.1) hns this]
    rfl
  have b := len_le_of_sub (hC.filter (has (swp m))) (m := (m.filter fun x => decide (x.2 ∈ C)).map (·.2)) fun c hr => by
    obtain ⟨h1, h2⟩ := List.mem_filter.mp hr
    obtain ⟨r, e⟩ := has_some h2
    obtain ⟨x, hx, ex⟩ := List.mem_map.mp (lk_some e)
    have hc : x.2 = c := (Prod.mk.inj ex).1
    exact List.mem_map.mpr ⟨x, List.mem_filter.mpr ⟨hx, decide_eq_true (by rw [hc]; exact h1)⟩, hc⟩
  rw [List.length_map] at a b
  omega
theorem row6 {tb : Tups} (h : ∀ p ∈ tb, p.2.Nodup ∧ ∀ c ∈ p.2, 0 ≤ c ∧ c < 6) (r : Int) : (tP (keys tb) r).length ≤ 6 := by
  unfold tP
  split
  · cases e : (keys tb)[r.toNat]? with
    | none => exact Nat.zero_le _
    | some l =>
      have hl : l ∈ keys tb := List.mem_of_getElem? e
      obtain ⟨p, hp, rfl⟩ := List.mem_map.mp hl
      obtain ⟨hn, hr⟩ := h p hp
      have n1 : (p.2.map Int.toNat).Nodup := by
        rw [List.Nodup, List.pairwise_map]
        refine hn.imp_of_mem fun {a b} ha hb hab e => hab ?_
        have := hr a ha
        have := hr b hb
        omega
      have := nodup_below 6 _ n1 fun x hx => by
        obtain ⟨a, ha, rfl⟩ := List.mem_map.mp hx
        have := hr a ha
        omega
      rw [List.length_map] at this
      exact this
  · exact Nat.zero_le _
theorem tabOk_of {tb : Tups} (hl : tb.length ≤ 5) (h : ∀ p ∈ tb, p.2.Nodup ∧ ∀ c ∈ p.2, 0 ≤ c ∧ c < 6) : TabOk (keys tb) := by
  refine ⟨by rw [keys_len]; omega, fun l hl c hc => ?_, fun l hl => ?_⟩
  · obtain ⟨p, hp, rfl⟩ := List.mem_map.mp hl
    have := (h p hp).2 c hc
    omega
  · obtain ⟨p, hp, rfl⟩ := List.mem_map.mp hl
    exact (h p hp).1
end Sw
set_option Elab.async false
set_option linter.all false
set_option maxRecDepth 100000
set_option maxHeartbeats 4000000
/-! Comprehensions of several clauses: list comprehensions of three, set comprehensions of two. -/
namespace SwC
open PySem PySem.Spec PyProof.Rows L2
section
variable {prog : Program} {w : World} {A : Around} {R : Result → Shared → Prop} {s : Shared} {e : Expr} {d : Nat} {t i i1 : Expr} {fs : List Expr} {it acc : Value} {env : Env}
def tests (fs : List Expr) (env : Env) : Sem Bool := forIn fs true fun c r => if r = true then do
  let ok ← PySem.isTrue c env (eval c env)
  pure (ForInStep.yield ok) else pure (ForInStep.yield r)
/-- a clause with another one behind it -/
theorem loop_mid (hu : A.under (Code.compLoop e d it acc env) = A) (hq : (Code.compLoop e d it acc env).quiet = true)
    (hden : (model prog w).den (Code.compLoop e d it acc env) = (compTurn e d it acc env).onRaise (fun x => (do
      noteFrame x env
      theTreesLotGoes x))) (ht : compTurn e d it acc env = (do
      standAt i.pos
      let r ← pyNext it
      match r with
      | none => pure (Fin.done Flow.next)
      | some v => do
        letOwnedTupleGo t it v
        assign t env v
        let ok ← tests fs env
        if ok = true then do
          let x ← eval i1 env
          standAt i1.pos
          let x ← foldedSetIterable i1 env x
          let it1 ← holding [x] (pyIter x)
          let _ ← runOwn (Code.compStart e (d + 1) it1 acc env) env
          again (Code.compLoop e d it acc env)
        else again (Code.compLoop e d it acc env)))
    (hs : ∀ x, foldedSetIterable i1 env x = pure x) (I : Nat → Shared → Prop)
    (turn : ∀ n s, I n s → wpAny (model prog w) A (pyNext it) (fun r s₁ => match r with
      | none => R (Except.ok Flow.next) s₁
      | some v => wpAny (model prog w) A (letOwnedTupleGo t it v) (fun _ s₁' => wpAny (model prog w) A (assign t env v) (fun _ s₂ => wpAny (model prog w) A (tests fs env) (fun ok s₃ =>
          if ok = true then wpAny (model prog w) A (eval i1 env) (fun x s₄ => wpAny (model prog w) A (pyIter x) (fun it1 s₅ => codeAny (model prog w) A (Code.compStart e (d + 1) it1 acc env) (fun r s' => match r with
              | Except.ok _ => ∃ m, m < n ∧ I m s'
              | Except.error _ => False) s₅) (fun _ _ => False) s₄) (fun _ _ => False) s₃
          else ∃ m, m < n ∧ I m s₃) (fun _ _ => False) s₂) (fun _ _ => False) s₁') (fun _ _ => False) s₁) (fun _ _ => False) s)
    (n : Nat) (h : I n s) : codeAny (model prog w) A (Code.compLoop e d it acc env) R s := by
  refine codeAny_loop hq I (fun n s hI => ?_) n h
  rw [hu, hden]
  refine wpAny_noted ?_
  rw [ht]
  refine wpAny_bind (wpAny_standAt (wpAny_bind (wpAny_mono (turn n s hI) (fun r s₁ h₁ => ?_) fun _ _ z => z.elim)))
  cases r with
  | none => exact wpAny_pure h₁
  | some v =>
    refine wpAny_bind (wpAny_mono h₁ (fun _ s₁' h₁' => ?_) fun _ _ z => z.elim)
    refine wpAny_bind (wpAny_mono h₁' (fun _ s₂ h₂ => ?_) fun _ _ z => z.elim)
    refine wpAny_bind (wpAny_mono h₂ (fun ok s₃ h₃ => ?_) fun _ _ z => z.elim)
    cases ok with
    | false => exact wpAny_pure ⟨rfl, h₃⟩
    | true =>
      refine wpAny_bind (wpAny_mono h₃ (fun x s₄ h₄ => ?_) fun _ _ z => z.elim)
      refine wpAny_bind (wpAny_standAt (wpAny_bind (wpAny_of_eq (hs x) (wpAny_bind (wpAny_holding (wpAny_mono h₄ (fun it1 s₅ h₅ => wpAny_bind (wpAny_runOwn ?_ ?_)) fun _ _ z => z.elim))))))
      · rw [Around.mark_none]
        refine codeAny_mono h₅ fun r s' hr => ?_
        cases r with
        | ok f => exact wpAny_pure ⟨rfl, hr⟩
        | error x => exact hr.elim
      · intro x
        cases x
/-- the last clause -/
theorem loop_last {em : Sem Unit} (hu : A.under (Code.compLoop e d it acc env) = A) (hq : (Code.compLoop e d it acc env).quiet = true)
    (hden : (model prog w).den (Code.compLoop e d it acc env) = (compTurn e d it acc env).onRaise (fun x => (do
      noteFrame x env
      theTreesLotGoes x))) (ht : compTurn e d it acc env = (do
      standAt i.pos
      let r ← pyNext it
      match r with
      | none => pure (Fin.done Flow.next)
      | some v => do
        letOwnedTupleGo t it v
        assign t env v
        let ok ← tests fs env
        if ok = true then do
          em
          again (Code.compLoop e d it acc env)
        else again (Code.compLoop e d it acc env)))
    (I : Nat → Shared → Prop)
    (turn : ∀ n s, I n s → wpAny (model prog w) A (pyNext it) (fun r s₁ => match r with
      | none => R (Except.ok Flow.next) s₁
      | some v => wpAny (model prog w) A (letOwnedTupleGo t it v) (fun _ s₁' => wpAny (model prog w) A (assign t env v) (fun _ s₂ => wpAny (model prog w) A (tests fs env) (fun ok s₃ =>
          if ok = true then wpAny (model prog w) A em (fun _ s₅ => ∃ m, m < n ∧ I m s₅) (fun _ _ => False) s₃
          else ∃ m, m < n ∧ I m s₃) (fun _ _ => False) s₂) (fun _ _ => False) s₁') (fun _ _ => False) s₁) (fun _ _ => False) s)
    (n : Nat) (h : I n s) : codeAny (model prog w) A (Code.compLoop e d it acc env) R s := by
  refine codeAny_loop hq I (fun n s hI => ?_) n h
  rw [hu, hden]
  refine wpAny_noted ?_
  rw [ht]
  refine wpAny_bind (wpAny_standAt (wpAny_bind (wpAny_mono (turn n s hI) (fun r s₁ h₁ => ?_) fun _ _ z => z.elim)))
  cases r with
  | none => exact wpAny_pure h₁
  | some v =>
    refine wpAny_bind (wpAny_mono h₁ (fun _ s₁' h₁' => ?_) fun _ _ z => z.elim)
    refine wpAny_bind (wpAny_mono h₁' (fun _ s₂ h₂ => ?_) fun _ _ z => z.elim)
    refine wpAny_bind (wpAny_mono h₂ (fun ok s₃ h₃ => ?_) fun _ _ z => z.elim)
    cases ok with
    | false => exact wpAny_pure ⟨rfl, h₃⟩
    | true => exact wpAny_bind (wpAny_mono h₃ (fun _ s₄ h₄ => wpAny_pure ⟨rfl, h₄⟩) fun _ _ z => z.elim)
end
section
variable {prog : Program} {w : World} {A : Around} {R : Result → Shared → Prop} {s : Shared} {elt t i t1 i1 t2 i2 : Expr} {fs fs1 fs2 : List Expr} {scope : Scope} {pos : Pos} {it acc : Value} {env : Env}
abbrev cl (t i : Expr) (fs : List Expr) : Comprehension := ⟨t, i, fs, 0⟩
/-- the turns of the clauses -/
theorem turn3_0 : compTurn (elt.ListComp [cl t i fs, cl t1 i1 fs1, cl t2 i2 fs2] scope pos) 0 it acc env = (do
      standAt i.pos
      let r ← pyNext it
      match r with
      | none => pure (Fin.done Flow.next)
      | some v => do
        letOwnedTupleGo t it v
        assign t env v
        let ok ← tests fs env
        if ok = true then do
          let x ← eval i1 env
          standAt i1.pos
          let x ← foldedSetIterable i1 env x
          let it1 ← holding [x] (pyIter x)
          let _ ← runOwn (Code.compStart (elt.ListComp [cl t i fs, cl t1 i1 fs1, cl t2 i2 fs2] scope pos) (0 + 1) it1 acc env) env
          again (Code.compLoop (elt.ListComp [cl t i fs, cl t1 i1 fs1, cl t2 i2 fs2] scope pos) 0 it acc env)
        else again (Code.compLoop (elt.ListComp [cl t i fs, cl t1 i1 fs1, cl t2 i2 fs2] scope pos) 0 it acc env)) := rfl
theorem turn3_1 : compTurn (elt.ListComp [cl t i fs, cl t1 i1 fs1, cl t2 i2 fs2] scope pos) 1 it acc env = (do
      standAt i1.pos
      let r ← pyNext it
      match r with
      | none => pure (Fin.done Flow.next)
      | some v => do
        letOwnedTupleGo t1 it v
        assign t1 env v
        let ok ← tests fs1 env
        if ok = true then do
          let x ← eval i2 env
          standAt i2.pos
          let x ← foldedSetIterable i2 env x
          let it1 ← holding [x] (pyIter x)
          let _ ← runOwn (Code.compStart (elt.ListComp [cl t i fs, cl t1 i1 fs1, cl t2 i2 fs2] scope pos) (1 + 1) it1 acc env) env
          again (Code.compLoop (elt.ListComp [cl t i fs, cl t1 i1 fs1, cl t2 i2 fs2] scope pos) 1 it acc env)
        else again (Code.compLoop (elt.ListComp [cl t i fs, cl t1 i1 fs1, cl t2 i2 fs2] scope pos) 1 it acc env)) := rfl
theorem turnS_0 : compTurn (elt.SetComp [cl t i fs, cl t1 i1 fs1] scope pos) 0 it acc env = (do
      standAt i.pos
      let r ← pyNext it
      match r with
      | none => pure (Fin.done Flow.next)
      | some v => do
        letOwnedTupleGo t it v
        assign t env v
        let ok ← tests fs env
        if ok = true then do
          let x ← eval i1 env
          standAt i1.pos
          let x ← foldedSetIterable i1 env x
          let it1 ← holding [x] (pyIter x)
          let _ ← runOwn (Code.compStart (elt.SetComp [cl t i fs, cl t1 i1 fs1] scope pos) (0 + 1) it1 acc env) env
          again (Code.compLoop (elt.SetComp [cl t i fs, cl t1 i1 fs1] scope pos) 0 it acc env)
        else again (Code.compLoop (elt.SetComp [cl t i fs, cl t1 i1 fs1] scope pos) 0 it acc env)) := rfl
def emL (elt : Expr) (acc : Value) (env : Env) : Sem Unit := do
  let y ← eval elt env
  let _ ← call (Value.builtin "list.append") [acc, y]
  pure ()
def emS (elt : Expr) (acc : Value) (env : Env) : Sem Unit := do
  let y ← eval elt env
  standAt elt.pos
  let _ ← call (Value.builtin "set.add") [acc, y]
  pure ()
theorem turn3_2 : compTurn (elt.ListComp [cl t i fs, cl t1 i1 fs1, cl t2 i2 fs2] scope pos) 2 it acc env = (do
      standAt i2.pos
      let r ← pyNext it
      match r with
      | none => pure (Fin.done Flow.next)
      | some v => do
        letOwnedTupleGo t2 it v
        assign t2 env v
        let ok ← tests fs2 env
        if ok = true then do
          emL elt acc env
          again (Code.compLoop (elt.ListComp [cl t i fs, cl t1 i1 fs1, cl t2 i2 fs2] scope pos) 2 it acc env)
        else again (Code.compLoop (elt.ListComp [cl t i fs, cl t1 i1 fs1, cl t2 i2 fs2] scope pos) 2 it acc env)) := rfl
theorem turnS_1 : compTurn (elt.SetComp [cl t i fs, cl t1 i1 fs1] scope pos) 1 it acc env = (do
      standAt i1.pos
      let r ← pyNext it
      match r with
      | none => pure (Fin.done Flow.next)
      | some v => do
        letOwnedTupleGo t1 it v
        assign t1 env v
        let ok ← tests fs1 env
        if ok = true then do
          emS elt acc env
          again (Code.compLoop (elt.SetComp [cl t i fs, cl t1 i1 fs1] scope pos) 1 it acc env)
        else again (Code.compLoop (elt.SetComp [cl t i fs, cl t1 i1 fs1] scope pos) 1 it acc env)) := rfl
end
section
variable {prog : Program} {w : World} {A : Around} {R : Result → Shared → Prop} {s : Shared} {e : Expr} {d : Nat} {i : Expr} {it acc : Value} {env : Env} {p : Pos}
theorem start_at (hu : A.under (Code.compStart e d it acc env) = A) (hq : ∀ it, (Code.compLoop e d it acc env).quiet = true)
    (hden : (model prog w).den (Code.compStart e d it acc env) = (compStart e d it acc env).onRaise (fun x => (do
      noteFrame x env
      standAt p)))
    (hs : compStart e d it acc env = (do
      let a ← ask
      if a.params.followText "comprehension-iter-twice" = true then again (Code.compLoop e d it acc env)
      else do
        rule "comprehension.iter-twice"
        standAt i.pos
        let it' ← pyIter it
        again (Code.compLoop e d it' acc env)))
    (h0 : codeAny (model prog w) A (Code.compLoop e d it acc env) R s)
    (h : wpAny (model prog w) A (pyIter it) (fun it' s' => codeAny (model prog w) A (Code.compLoop e d it' acc env) R s') (fun _ _ => False) s) :
    codeAny (model prog w) A (Code.compStart e d it acc env) R s := by
  refine codeAny_of_tree ?_
  rw [hu, hden]
  refine wpAny_notedAt ?_
  rw [hs]
  refine wpAny_bind (wpAny_askSetting (wpAny_ite ?_))
  split
  · exact wpAny_pure ⟨hq _, h0⟩
  · exact wpAny_bind (wpAny_rule (wpAny_bind (wpAny_standAt (wpAny_bind (wpAny_mono h (fun it' s' h' => wpAny_pure ⟨hq _, h'⟩) fun _ _ z => z.elim)))))
end
end SwC
namespace SwC
open PySem PySem.Spec PyProof.Rows L2
abbrev Body := L2.St → Hp → (Hp → Prop) → Prop
/-- one clause: what it walks, its target, its tests, and what is done in each turn -/
def tCl (wi : TI) (g : TG) (tt : TT) (vs : List Nat) (body : Body) : Body := fun σ H Nx => wi σ H fun J H1 => ∃ W : Nat → Nat → Hp → Prop, (∃ m, W 0 m H1) ∧ ∀ j k H, W j k H → (J.stop j H ∧ Nx H) ∨ (J.go j H ∧ ∃ N1 : Hp → Prop, (∀ H', N1 H' → ∃ k', k' < k ∧ W (j + 1) k' H') ∧ ∀ x H', J.yld j H x H' → g x (wipe σ vs) H' fun σ3 H5 => wipe σ3 vs = wipe σ vs ∧ tt σ3 H5 fun b H6 => if b = true then body σ3 H6 N1 else N1 H6)
def Does (X : Cx) (B : (Shared → Prop) → Shared → Prop) (body : Body) (vs : List Nat) : Prop := ∀ (pins : List (Addr × Obj)) (σ : L2.St) (H : Hp) (s : Shared) (Nx : Hp → Prop), L2.Inv X pins σ H s → body σ H Nx → B (fun s' => ∃ H', L2.Inv X pins (wipe σ vs) H' s' ∧ Nx H') s
def LoopOk (M : Model) (A : Around) (env : Env) (e : Expr) (d : Nat) (acc : Value) (t : Expr) (fs : List Expr) (B : (Shared → Prop) → Shared → Prop) : Prop := ∀ (R : Result → Shared → Prop) (it : Value) (I : Nat → Shared → Prop),
  (∀ n s, I n s → wpAny M A (pyNext it) (fun r s₁ => match r with
      | none => R (Except.ok Flow.next) s₁
      | some v => wpAny M A (letOwnedTupleGo t it v) (fun _ s₁' => wpAny M A (assign t env v) (fun _ s₂ => wpAny M A (tests fs env) (fun ok s₃ =>
          if ok = true then B (fun s' => ∃ m, m < n ∧ I m s') s₃
          else ∃ m, m < n ∧ I m s₃) (fun _ _ => False) s₂) (fun _ _ => False) s₁') (fun _ _ => False) s₁) (fun _ _ => False) s) →
  ∀ (n : Nat) (s : Shared), I n s → codeAny M A (Code.compLoop e d it acc env) R s
/-- the walk of a clause -/
theorem cl_loop {X : Cx} {B : (Shared → Prop) → Shared → Prop} {body : Body} {vs vsB : List Nat} {t : Expr} {fs : List Expr} {e : Expr} {d : Nat} {acc : Value} {g : TG} {tt : TT} {J : It} {fp : List Addr} {it : Addr} {tn : Nat → Heap → Prop} {pins : List (Addr × Obj)} {σ : L2.St} {R : Result → Shared → Prop} {Nx : Hp → Prop} {W : Nat → Nat → Hp → Prop}
    (hxe : X.xe = fun _ _ => False) (hc : X.calm = true)
    (hB : ∀ (P P' : Shared → Prop) s, (∀ s', P s' → P' s') → B P s → B P' s)
    (pg : PG X t g) (pt : PTs X fs tt) (hl : LoopOk (model X.prog X.w) X.A X.env e d acc t fs B) (hd : Does X B body vsB) (hv : ∀ i ∈ vsB, i ∈ vs)
    (T : Turn X.prog X.w X.K t J fp it tn) (f : ∀ H, (∀ b ∈ fp, H b = none) → ∀ b ∈ fp, FpOk X pins H b)
    (turn : ∀ j k H, W j k H → (J.stop j H ∧ Nx H) ∨ (J.go j H ∧ ∃ N1 : Hp → Prop, (∀ H', N1 H' → ∃ k', k' < k ∧ W (j + 1) k' H') ∧ ∀ x H', J.yld j H x H' → g x (wipe σ vs) H' fun σ3 H5 => wipe σ3 vs = wipe σ vs ∧ tt σ3 H5 fun b H6 => if b = true then body σ3 H6 N1 else N1 H6))
    (hR : ∀ H' s', L2.Inv X pins (wipe σ vs) H' s' → Nx H' → R (Except.ok Flow.next) s')
    {j m : Nat} {H : Hp} {s : Shared} (I0 : L2.Inv X pins (wipe σ vs) H s) (st : tn j s.heap) (n0 : ∀ b ∈ fp, H b = none) (w0 : W j m H) :
    codeAny (model X.prog X.w) X.A (Code.compLoop e d (.ref it) acc X.env) R s := by
  refine hl R (.ref it) (fun k s' => ∃ j H', L2.Inv X pins (wipe σ vs) H' s' ∧ tn j s'.heap ∧ (∀ b ∈ fp, H' b = none) ∧ W j k H') (fun n s5 a => ?_) m s ⟨j, H, I0, st, n0, w0⟩
  obtain ⟨j, H5, I5, st5, n5, w5⟩ := a
  rcases turn j n H5 w5 with ⟨stop, nx⟩ | ⟨go, N1, hN1, step⟩
  · refine thnF (T.done X rfl rfl rfl hc j pins s5 (wipe σ vs) H5 (fun _ _ => False) I5 (f H5 n5) st5 stop) fun r s6 z => ?_
    obtain ⟨rfl, I6⟩ := z
    exact hR H5 s6 I6 nx
  · refine thnF (T.item X rfl rfl rfl hc j pins s5 (wipe σ vs) H5 (fun _ _ => False) I5 (f H5 n5) st5 go) fun r s6 z => ?_
    obtain ⟨u, rfl, h6⟩ := z
    refine thnF h6 fun _ s7 z => ?_
    obtain ⟨x, H7, I7, r7, y7, st7, n7⟩ := z
    have I7' := I7.pinned (f H7 n7) (T.obj (j + 1) s7.heap st7)
    have h1 := pg.run (pins ++ pinsAt fp s7.heap) s7 (wipe σ vs) H7 x u _ I7' r7 (step x H7 y7)
    rw [hxe] at h1
    refine thnF h1 fun _ s8 z => ?_
    obtain ⟨σ8, H8, I8, hw8, q8⟩ := z
    have h2 := pt.run (pins ++ pinsAt fp s7.heap) s8 σ8 H8 _ I8 q8
    rw [hxe] at h2
    refine thnF h2 fun b s9 z => ?_
    obtain ⟨H9, I9, q9⟩ := z
    have fin : ∀ {σ9 : L2.St} {s' : Shared} {H' : Hp}, L2.Inv X (pins ++ pinsAt fp s7.heap) σ9 H' s' → (wipe σ vs).length = σ9.length → (∀ (i : Nat) (v : V), (wipe σ vs)[i]? = some (some v) → σ9[i]? = some (some v)) → N1 H' → ∃ m, m < n ∧ ∃ j H', L2.Inv X pins (wipe σ vs) H' s' ∧ tn j s'.heap ∧ (∀ b ∈ fp, H' b = none) ∧ W j m H' := by
      intro σ9 s' H' I' h1 h2 nx
      obtain ⟨m', hm, w'⟩ := hN1 H' nx
      have pin' : ∀ b ∈ fp, ∀ o, s7.heap.get? b = some o → s'.heap.get? b = some o ∧ H' b = none := fun b hb o ho => by
        have z := I'.pin (b, o) (List.mem_append_right _ (List.mem_append_right _ (mem_pinsAt hb ho)))
        exact ⟨z.1, z.2.1⟩
      refine ⟨m', hm, j + 1, H', (I'.unpinned).weak h1 h2, T.keep (j + 1) s7.heap s'.heap st7 fun b hb o ho => (pin' b hb o ho).1, fun b hb => ?_, w'⟩
      obtain ⟨o, ho, _⟩ := T.obj (j + 1) s7.heap st7 b hb
      exact (pin' b hb o ho).2
    have hl8 : (wipe σ vs).length = σ8.length := by rw [← hw8, wipe_length]
    cases b with
    | false => exact fin I9 hl8 (fun j v ej => (wipe_some (by rw [hw8]; exact ej)).1) q9
    | true =>
      refine hB _ _ _ (fun s' z => ?_) (hd _ σ8 H9 s9 N1 I9 q9)
      obtain ⟨H10, I10, nx⟩ := z
      refine fin I10 (hl8.trans (wipe_length σ8 vsB).symm) (fun j v ej => ?_) nx
      obtain ⟨e1, e2⟩ := wipe_some (σ := σ8) (vs := vs) (by rw [hw8]; exact ej)
      rw [wipe_out fun z => e2 (hv j z)]
      exact e1
/-- a clause behind another one -/
def BMid (M : Model) (A : Around) (env : Env) (e : Expr) (d : Nat) (i : Expr) (acc : Value) : (Shared → Prop) → Shared → Prop := fun P s => wpAny M A (eval i env) (fun x s₄ => wpAny M A (pyIter x) (fun it1 s₅ => codeAny M A (Code.compStart e d it1 acc env) (fun r s' => match r with
  | Except.ok _ => P s'
  | Except.error _ => False) s₅) (fun _ _ => False) s₄) (fun _ _ => False) s
def StartOk (M : Model) (A : Around) (env : Env) (e : Expr) (d : Nat) (acc : Value) : Prop := ∀ (R : Result → Shared → Prop) (it : Value) (s : Shared), codeAny M A (Code.compLoop e d it acc env) R s → wpAny M A (pyIter it) (fun it' s' => codeAny M A (Code.compLoop e d it' acc env) R s') (fun _ _ => False) s → codeAny M A (Code.compStart e d it acc env) R s
theorem cl_does {X : Cx} {B : (Shared → Prop) → Shared → Prop} {body : Body} {vs vsB : List Nat} {t i : Expr} {fs : List Expr} {e : Expr} {d : Nat} {acc : Value} {wi : TI} {g : TG} {tt : TT}
    (hxe : X.xe = fun _ _ => False) (hc : X.calm = true)
    (hB : ∀ (P P' : Shared → Prop) s, (∀ s', P s' → P' s') → B P s → B P' s)
    (pi : PI X t i wi) (pg : PG X t g) (pt : PTs X fs tt) (hl : LoopOk (model X.prog X.w) X.A X.env e d acc t fs B) (hs : StartOk (model X.prog X.w) X.A X.env e d acc) (hd : Does X B body vsB) (hv : ∀ i ∈ vsB, i ∈ vs) :
    Does X (BMid (model X.prog X.w) X.A X.env e d i acc) (tCl wi g tt vs body) vs := by
  intro pins σ H s Nx I h
  have h1 := pi.run pins s σ H _ I h
  rw [hxe] at h1
  refine thnF h1 fun xv s1 hx => thnF hx fun itv s2 h2 => ?_
  obtain ⟨it, fp, tn, J, H2, rfl, I2, T, st2, f2, W, ⟨m0, w0⟩, turn⟩ := h2
  have f : ∀ H, (∀ b ∈ fp, H b = none) → ∀ b ∈ fp, FpOk X pins H b := fun H hn b hb => ⟨hn b hb, (f2 b hb).2⟩
  have I2' : L2.Inv X pins (wipe σ vs) H2 s2 := I2.weak (wipe_length σ vs) fun j v ej => (wipe_some ej).1
  have loop : codeAny (model X.prog X.w) X.A (Code.compLoop e d (.ref it) acc X.env) (fun r s' => match r with
      | Except.ok _ => ∃ H', L2.Inv X pins (wipe σ vs) H' s' ∧ Nx H'
      | Except.error _ => False) s2 :=
    cl_loop hxe hc hB pg pt hl hd hv T f turn (fun H' s' I' nx => ⟨H', I', nx⟩) I2' st2 (fun b hb => (f2 b hb).1) w0
  exact hs _ _ _ loop (T.self _ 0 _ _ _ st2 loop)
/-- the first clause, when what it fills has been made -/
theorem outer {X : Cx} {pins : List (Addr × Obj)} {σ : L2.St} {H2 : Hp} {s2 S3 : Shared} {Q : VK} {ob : Obj} {o : HO} {D : Addr} {B : (Shared → Prop) → Shared → Prop} {body : Body} {vsB : List Nat} {t : Expr} {fs : List Expr} {e : Expr} {g : TG} {tt : TT} {J : It} {fp : List Addr} {it : Addr} {tn : Nat → Heap → Prop} {W : Nat → Nat → Hp → Prop} {scope : Scope} {own : List (Str × Nat)}
    (hc : X.calm = true) (hN : X.N.Nodup) (ok : BlkOk X.N X.env.scope scope own)
    (hB : ∀ (P P' : Shared → Prop) s, (∀ s', P s' → P' s') → B P s → B P' s)
    (hS : S3 = { s2 with heap := s2.heap.push ob }) (hD : D = s2.heap.objs.size)
    (I3 : L2.Inv X pins σ (upd H2 D o) S3) (T : Turn X.prog X.w X.K t J fp it tn) (st2 : tn 0 s2.heap) (f2 : ∀ b ∈ fp, FpOk X pins H2 b)
    (pg : PG (X.blk S3 (upd H2 D o) scope (compEnvC scope (cellsFrom (S3.heap.objs.size + 1) scope.names (cloFrom X.env.cells scope.names [])) S3.heap.objs.size X.env) fp) t g)
    (pt : PTs (X.blk S3 (upd H2 D o) scope (compEnvC scope (cellsFrom (S3.heap.objs.size + 1) scope.names (cloFrom X.env.cells scope.names [])) S3.heap.objs.size X.env) fp) fs tt)
    (hl : LoopOk (model X.prog X.w) X.A (compEnvC scope (cellsFrom (S3.heap.objs.size + 1) scope.names (cloFrom X.env.cells scope.names [])) S3.heap.objs.size X.env) e 0 (.ref D) t fs B)
    (hs : StartOk (model X.prog X.w) X.A (compEnvC scope (cellsFrom (S3.heap.objs.size + 1) scope.names (cloFrom X.env.cells scope.names [])) S3.heap.objs.size X.env) e 0 (.ref D))
    (hd : Does (X.blk S3 (upd H2 D o) scope (compEnvC scope (cellsFrom (S3.heap.objs.size + 1) scope.names (cloFrom X.env.cells scope.names [])) S3.heap.objs.size X.env) fp) B body vsB) (hv : ∀ i ∈ vsB, i ∈ own.map (·.2))
    {m0 : Nat} (w0 : W 0 m0 (upd H2 D o))
    (turn : ∀ j k H, W j k H → (J.stop j H ∧ Q (.ref D) H) ∨ (J.go j H ∧ ∃ N1 : Hp → Prop, (∀ H', N1 H' → ∃ k', k' < k ∧ W (j + 1) k' H') ∧ ∀ x H', J.yld j H x H' → g x (wipe σ (own.map (·.2))) H' fun σ3 H5 => wipe σ3 (own.map (·.2)) = wipe σ (own.map (·.2)) ∧ tt σ3 H5 fun b H6 => if b = true then body σ3 H6 N1 else N1 H6)) :
    codeAny (model X.prog X.w) X.A (Code.compStart e 0 (.ref it) (.ref D) (compEnvC scope (cellsFrom (S3.heap.objs.size + 1) scope.names (cloFrom X.env.cells scope.names [])) S3.heap.objs.size X.env))
      (compPost (model X.prog X.w) X.A X.xe none (EP X pins σ Q) (.ref D) S3.heap.objs.size)
      { heap := pushCells (S3.heap.push { cls := Value.type "dict", data := Data.dict #[] }) scope.names, gens := S3.gens, drawn := S3.drawn, toks := S3.toks, os := S3.os } := by
  have h3 : S3.heap = s2.heap.push ob := by rw [hS]
  have f3 : ∀ b ∈ fp, FpOk X pins (upd H2 D o) b ∧ b < S3.heap.objs.size := fun b hb => by
    obtain ⟨ob', e', _⟩ := T.obj 0 s2.heap st2 b hb
    have hlt := Heap.lt_size e'
    refine ⟨⟨?_, (f2 b hb).2⟩, ?_⟩
    · rw [upd_ne (by rw [hD]; exact Nat.ne_of_lt hlt)]
      exact (f2 b hb).1
    · rw [h3, Heap.size_push]
      exact Nat.lt_succ_of_lt hlt
  have n3 : ∀ b ∈ fp, (upd H2 D o) b = none := fun b hb => (f3 b hb).1.1
  have I4 := block_start I3 ok hN f3
  have st4 : tn 0 (pushCells (S3.heap.push { cls := Value.type "dict", data := Data.dict #[] }) scope.names) := T.keep 0 s2.heap _ st2 fun b _ ob' e' => pushCells_keeps scope.names _ b ob' (Heap.get?_push_of_some _ (by rw [h3]; exact Heap.get?_push_of_some _ e'))
  have f : ∀ H, (∀ b ∈ fp, H b = none) → ∀ b ∈ fp, FpOk (X.blk S3 (upd H2 D o) scope (compEnvC scope (cellsFrom (S3.heap.objs.size + 1) scope.names (cloFrom X.env.cells scope.names [])) S3.heap.objs.size X.env) fp) [] H b := fun H hn b hb =>
    ⟨hn b hb, (I4.ok.exf b hb).1, I4.ok.exfs b hb, .inl hb, fun x c e => (I4.ok.exf b hb).2 x c e, fun p hp => by cases hp⟩
  have loop := cl_loop (X := X.blk S3 (upd H2 D o) scope (compEnvC scope (cellsFrom (S3.heap.objs.size + 1) scope.names (cloFrom X.env.cells scope.names [])) S3.heap.objs.size X.env) fp) (R := compPost (model X.prog X.w) X.A X.xe none (EP X pins σ Q) (.ref D) S3.heap.objs.size) rfl hc hB pg pt hl hd hv T f turn (fun H' s6 I6 q => ?_) I4 st4 n3 w0
  · exact hs _ _ _ loop (T.self _ 0 _ _ _ st4 loop)
  · have I7 : L2.Inv X pins σ H' s6 := Inv.call' I3 I6.os I6.base I6.hok I6.bare fun b hb => ⟨(f3 b hb).1.2.2.2.1, (f3 b hb).1.2.1, (f3 b hb).1.2.2.2.2.1, (f3 b hb).1.2.2.2.2.2⟩
    have nC : H' S3.heap.objs.size = none := I6.free
    obtain ⟨m, hn, _⟩ := I6.loc
    obtain ⟨f0, f1, f2', f3', f4, f5⟩ := Inv.fpOk I3 (Nat.le_refl S3.heap.objs.size) nC
    exact ⟨m, hn, fun h'' sb => ⟨.ref D, H', Inv.turned I7 (fun b o hb e => (sb.2 b hb).trans e) f0 f1 f3' f4 f5, rfl, q⟩⟩
theorem bMid_mono {M : Model} {A : Around} {env : Env} {e : Expr} {d : Nat} {i : Expr} {acc : Value} (P P' : Shared → Prop) (s : Shared) (h : ∀ s', P s' → P' s') (b : BMid M A env e d i acc P s) : BMid M A env e d i acc P' s :=
  thnF b fun x s₄ h₄ => thnF h₄ fun it1 s₅ h₅ => codeAny_mono h₅ fun r s' hr => by
    cases r with
    | ok _ => exact h s' hr
    | error _ => exact hr.elim
def BLast (M : Model) (A : Around) (em : Sem Unit) : (Shared → Prop) → Shared → Prop := fun P s => wpAny M A em (fun _ s' => P s') (fun _ _ => False) s
theorem bLast_mono {M : Model} {A : Around} {em : Sem Unit} (P P' : Shared → Prop) (s : Shared) (h : ∀ s', P s' → P' s') (b : BLast M A em P s) : BLast M A em P' s := thnF b fun _ s' z => h s' z
def bodyL (te : TE) (D : Addr) : Body := fun σ H Nx => te σ H fun y H4 => ∃ acc, H4 D = some (.lst acc) ∧ acc.length < sizeLine ∧ Nx (upd H4 D (.lst (acc ++ [y])))
def bodyS (w : World) (te : TE) (D : Addr) : Body := fun σ H Nx => te σ H fun y H4 => ∃ (c : Int) (S : Int → Bool) (n : Nat), y = .int c ∧ H4 D = some (SetO w D S n) ∧ n + 1 < scanBound ∧ Nx (upd H4 D (SetO w D (fun j => S j || decide (j = c)) (if S c = true then n else n + 1)))
theorem does_L {X : Cx} {elt : Expr} {te : TE} {D : Addr} (hxe : X.xe = fun _ _ => False) (pe : PE X elt te) : Does X (BLast (model X.prog X.w) X.A (emL elt (.ref D) X.env)) (bodyL te D) [] := by
  intro pins σ H s Nx I h
  have h1 := pe.run pins s σ H _ I h
  rw [hxe] at h1
  refine wpAny_bind (thnF h1 fun u s1 z => ?_)
  obtain ⟨y, H4, I4, r4, acc, e4, l4, nx⟩ := z
  exact wpAny_bind (app_ok I4 e4 l4 r4 fun s' I' => wpAny_pure ⟨_, I'.weak (wipe_length _ _) (fun j v ej => (wipe_some ej).1), nx⟩)
theorem does_S {X : Cx} {elt : Expr} {te : TE} {D : Addr} (hxe : X.xe = fun _ _ => False) (pe : PE X elt te) : Does X (BLast (model X.prog X.w) X.A (emS elt (.ref D) X.env)) (bodyS X.w te D) [] := by
  intro pins σ H s Nx I h
  have h1 := pe.run pins s σ H _ I h
  rw [hxe] at h1
  refine wpAny_bind (thnF h1 fun u s1 z => ?_)
  obtain ⟨y, H4, I4, r4, c, S, n, rfl, e4, l4, nx⟩ := z
  have h2 := mt_sadd (X := X) pins s1 σ H4 (.ref D) [.int c] (.ref D) [u] (fun _ H' => Nx H') I4 rfl (.cons r4 .nil) ⟨D, c, S, n, rfl, rfl, e4, l4, nx⟩
  rw [hxe] at h2
  refine wpAny_bind (wpAny_standAt (wpAny_bind (thnF h2 fun _ s' z => wpAny_pure ?_)))
  obtain ⟨_, H5, I5, _, nx5⟩ := z
  exact ⟨H5, I5.weak (wipe_length _ _) (fun j v ej => (wipe_some ej).1), nx5⟩
/-- a list comprehension: the walk of its first clause, what is done in each turn -/
def tLcN (wi : TI) (g : TG) (tt : TT) (vs : List Nat) (body : Addr → Body) : TE := fun σ H Q => wi σ H fun J H1 => ∀ D, H1 D = none → ∃ W : Nat → Nat → Hp → Prop, (∃ m, W 0 m (upd H1 D (.lst []))) ∧ ∀ j k H, W j k H → (J.stop j H ∧ Q (.ref D) H) ∨ (J.go j H ∧ ∃ N1 : Hp → Prop, (∀ H', N1 H' → ∃ k', k' < k ∧ W (j + 1) k' H') ∧ ∀ x H', J.yld j H x H' → g x (wipe σ vs) H' fun σ3 H5 => wipe σ3 vs = wipe σ vs ∧ tt σ3 H5 fun b H6 => if b = true then body D σ3 H6 N1 else N1 H6)
def tScN (w : World) (wi : TI) (g : TG) (tt : TT) (vs : List Nat) (body : Addr → Body) : TE := fun σ H Q => wi σ H fun J H1 => ∀ D, H1 D = none → ∃ W : Nat → Nat → Hp → Prop, (∃ m, W 0 m (upd H1 D (SetO w D (fun _ => false) 0))) ∧ ∀ j k H, W j k H → (J.stop j H ∧ Q (.ref D) H) ∨ (J.go j H ∧ ∃ N1 : Hp → Prop, (∀ H', N1 H' → ∃ k', k' < k ∧ W (j + 1) k' H') ∧ ∀ x H', J.yld j H x H' → g x (wipe σ vs) H' fun σ3 H5 => wipe σ3 vs = wipe σ vs ∧ tt σ3 H5 fun b H6 => if b = true then body D σ3 H6 N1 else N1 H6)
section
variable {X : Cx} {elt t i t1 i1 t2 i2 : Expr} {fs fs1 fs2 : List Expr} {scope : Scope} {own : List (Str × Nat)} {vs1 vs2 : List Nat} {pos : Pos} {wi wi1 wi2 : TI} {g g1 g2 : TG} {tt tt1 tt2 : TT} {te : TE}
theorem pe_lc3 (hc : X.calm = true) (hN : X.N.Nodup) (hi : PI X t i wi) (ok : BlkOk X.N X.env.scope scope own) (hv1 : ∀ i ∈ vs1, i ∈ own.map (·.2)) (hv2 : ∀ i ∈ vs2, i ∈ vs1)
    (hg : ∀ (s : Shared) (H : Hp) (C : Addr) (cl : List (Str × Addr)) (fp : List Addr), PG (X.blk s H scope (compEnvC scope cl C X.env) fp) t g)
    (ht : ∀ (s : Shared) (H : Hp) (C : Addr) (cl : List (Str × Addr)) (fp : List Addr), PTs (X.blk s H scope (compEnvC scope cl C X.env) fp) fs tt)
    (hi1 : ∀ (s : Shared) (H : Hp) (C : Addr) (cl : List (Str × Addr)) (fp : List Addr), PI (X.blk s H scope (compEnvC scope cl C X.env) fp) t1 i1 wi1)
    (hg1 : ∀ (s : Shared) (H : Hp) (C : Addr) (cl : List (Str × Addr)) (fp : List Addr), PG (X.blk s H scope (compEnvC scope cl C X.env) fp) t1 g1)
    (ht1 : ∀ (s : Shared) (H : Hp) (C : Addr) (cl : List (Str × Addr)) (fp : List Addr), PTs (X.blk s H scope (compEnvC scope cl C X.env) fp) fs1 tt1)
    (hi2 : ∀ (s : Shared) (H : Hp) (C : Addr) (cl : List (Str × Addr)) (fp : List Addr), PI (X.blk s H scope (compEnvC scope cl C X.env) fp) t2 i2 wi2)
    (hg2 : ∀ (s : Shared) (H : Hp) (C : Addr) (cl : List (Str × Addr)) (fp : List Addr), PG (X.blk s H scope (compEnvC scope cl C X.env) fp) t2 g2)
    (ht2 : ∀ (s : Shared) (H : Hp) (C : Addr) (cl : List (Str × Addr)) (fp : List Addr), PTs (X.blk s H scope (compEnvC scope cl C X.env) fp) fs2 tt2)
    (he : ∀ (s : Shared) (H : Hp) (C : Addr) (cl : List (Str × Addr)) (fp : List Addr), PE (X.blk s H scope (compEnvC scope cl C X.env) fp) elt te)
    (hs : ∀ x, foldedSetIterable i X.env x = pure x := by intros; rfl) (hs1 : ∀ (env : Env) x, foldedSetIterable i1 env x = pure x := by intros; rfl) (hs2 : ∀ (env : Env) x, foldedSetIterable i2 env x = pure x := by intros; rfl) :
    PE X (.ListComp elt [cl t i fs, cl t1 i1 fs1, cl t2 i2 fs2] scope pos) (tLcN wi g tt (own.map (·.2)) fun D => tCl wi1 g1 tt1 vs1 (tCl wi2 g2 tt2 vs2 (bodyL te D))) := by
  constructor
  intro pins s σ H Q I h
  rw [eval_ListComp]
  refine wpAny_comprehension_free rfl hs (closure_ok fun y hy e => (ok.free y hy e).elim (fun k => I.ok.has y.1 (.inl k)) fun k => I.ok.has y.1 (.inr k)) ok.kind (fun y hy e => by rw [ok.uniq y hy, e]) (thn (hi.run pins s σ H _ I h) fun xv s1 hx => thn hx fun itv s2 h2 => ?_)
  obtain ⟨it, fp, tn, J, H2, rfl, I2, T, st2, f2, q⟩ := h2
  refine wpAny_newObj_type (newEnv_comp ?_)
  obtain ⟨W, ⟨m0, w0⟩, turn⟩ := q s2.heap.objs.size (HOk.fresh I2.hok (Nat.le_refl _))
  have I3 : L2.Inv X pins σ (upd H2 s2.heap.objs.size (.lst [])) { s2 with heap := s2.heap.push { cls := Value.type "list", data := Data.seq #[] } } :=
    Inv.laid I2 (fun b o e => Heap.get?_push_of_some _ e) (Nat.le_refl _) ⟨Nat.zero_le _, [], 0, .nil, Heap.get?_push_size s2.heap rfl⟩
  exact outer (S3 := { s2 with heap := s2.heap.push { cls := Value.type "list", data := Data.seq #[] } }) (D := s2.heap.objs.size) hc hN ok bMid_mono rfl rfl I3 T st2 f2 (hg _ _ _ _ _) (ht _ _ _ _ _)
    (fun R it I turn n s h => loop_mid rfl rfl rfl turn3_0 (hs1 _) I turn n h) (fun R it s h0 h => start_at rfl (fun _ => rfl) rfl rfl h0 h)
    (cl_does rfl hc bMid_mono (hi1 _ _ _ _ _) (hg1 _ _ _ _ _) (ht1 _ _ _ _ _) (fun R it I turn n s h => loop_mid rfl rfl rfl turn3_1 (hs2 _) I turn n h) (fun R it s h0 h => start_at rfl (fun _ => rfl) rfl rfl h0 h)
      (cl_does (vsB := []) rfl hc bLast_mono (hi2 _ _ _ _ _) (hg2 _ _ _ _ _) (ht2 _ _ _ _ _) (fun R it I turn n s h => loop_last rfl rfl rfl turn3_2 I turn n h) (fun R it s h0 h => start_at rfl (fun _ => rfl) rfl rfl h0 h) (does_L rfl (he _ _ _ _ _)) (fun _ h => by cases h)) hv2) hv1 w0 turn
theorem pe_sc2 (hc : X.calm = true) (hN : X.N.Nodup) (hi : PI X t i wi) (ok : BlkOk X.N X.env.scope scope own) (hv1 : ∀ i ∈ vs1, i ∈ own.map (·.2))
    (hg : ∀ (s : Shared) (H : Hp) (C : Addr) (cl : List (Str × Addr)) (fp : List Addr), PG (X.blk s H scope (compEnvC scope cl C X.env) fp) t g)
    (ht : ∀ (s : Shared) (H : Hp) (C : Addr) (cl : List (Str × Addr)) (fp : List Addr), PTs (X.blk s H scope (compEnvC scope cl C X.env) fp) fs tt)
    (hi1 : ∀ (s : Shared) (H : Hp) (C : Addr) (cl : List (Str × Addr)) (fp : List Addr), PI (X.blk s H scope (compEnvC scope cl C X.env) fp) t1 i1 wi1)
    (hg1 : ∀ (s : Shared) (H : Hp) (C : Addr) (cl : List (Str × Addr)) (fp : List Addr), PG (X.blk s H scope (compEnvC scope cl C X.env) fp) t1 g1)
    (ht1 : ∀ (s : Shared) (H : Hp) (C : Addr) (cl : List (Str × Addr)) (fp : List Addr), PTs (X.blk s H scope (compEnvC scope cl C X.env) fp) fs1 tt1)
    (he : ∀ (s : Shared) (H : Hp) (C : Addr) (cl : List (Str × Addr)) (fp : List Addr), PE (X.blk s H scope (compEnvC scope cl C X.env) fp) elt te)
    (hs : ∀ x, foldedSetIterable i X.env x = pure x := by intros; rfl) (hs1 : ∀ (env : Env) x, foldedSetIterable i1 env x = pure x := by intros; rfl) :
    PE X (.SetComp elt [cl t i fs, cl t1 i1 fs1] scope pos) (tScN X.w wi g tt (own.map (·.2)) fun D => tCl wi1 g1 tt1 vs1 (bodyS X.w te D)) := by
  constructor
  intro pins s σ H Q I h
  rw [PpSet.eval_SetComp]
  refine wpAny_comprehension_free rfl hs (closure_ok fun y hy e => (ok.free y hy e).elim (fun k => I.ok.has y.1 (.inl k)) fun k => I.ok.has y.1 (.inr k)) ok.kind (fun y hy e => by rw [ok.uniq y hy, e]) (thn (hi.run pins s σ H _ I h) fun xv s1 hx => thn hx fun itv s2 h2 => ?_)
  obtain ⟨it, fp, tn, J, H2, rfl, I2, T, st2, f2, q⟩ := h2
  refine PpSet.newSet_ok (newEnv_comp ?_)
  obtain ⟨W, ⟨m0, w0⟩, turn⟩ := q s2.heap.objs.size (HOk.fresh I2.hok (Nat.le_refl _))
  have I3 : L2.Inv X pins σ (upd H2 s2.heap.objs.size (SetO X.w s2.heap.objs.size (fun _ => false) 0)) { s2 with heap := s2.heap.push { cls := Value.type "set", data := Data.set #[] 0 (SetTable.fresh 0 0 !X.w.params.followText "set-order") } } :=
    Inv.laid I2 (fun b o e => Heap.get?_push_of_some _ e) (Nat.le_refl _) (setO_new (setR_fresh X.w))
  exact outer (S3 := { s2 with heap := s2.heap.push { cls := Value.type "set", data := Data.set #[] 0 (SetTable.fresh 0 0 !X.w.params.followText "set-order") } }) (D := s2.heap.objs.size) hc hN ok bMid_mono rfl rfl I3 T st2 f2 (hg _ _ _ _ _) (ht _ _ _ _ _)
    (fun R it I turn n s h => loop_mid rfl rfl rfl turnS_0 (hs1 _) I turn n h) (fun R it s h0 h => start_at rfl (fun _ => rfl) rfl rfl h0 h)
    (cl_does (vsB := []) rfl hc bLast_mono (hi1 _ _ _ _ _) (hg1 _ _ _ _ _) (ht1 _ _ _ _ _) (fun R it I turn n s h => loop_last rfl rfl rfl turnS_1 I turn n h) (fun R it s h0 h => start_at rfl (fun _ => rfl) rfl rfl h0 h) (does_S rfl (he _ _ _ _ _)) (fun _ h => by cases h)) hv1 w0 turn
end
/-- a clause, turn by turn -/
theorem cl_it {J : It} {n : Nat} {G : Hp → Prop} {Y : Nat → Hp → V → Hp → Prop} (w : Walk J n G Y) {g : TG} {tt : TT} {vs : List Nat} {σ : L2.St} {H1 : Hp} {body : Body} {Qd : Hp → Prop} (Pv : Nat → Hp → Prop) (h0 : Pv 0 H1) (hG : ∀ i H, i ≤ n → Pv i H → G H)
    (hs : ∀ i x H H', i < n → Pv i H → Y i H x H' → g x (wipe σ vs) H' fun σ2 H2 => wipe σ2 vs = wipe σ vs ∧ tt σ2 H2 fun b H3 => if b = true then body σ2 H3 (Pv (i + 1)) else Pv (i + 1) H3) (hd : ∀ H, Pv n H → Qd H) :
    ∃ W : Nat → Nat → Hp → Prop, (∃ m, W 0 m H1) ∧ ∀ j k H, W j k H → (J.stop j H ∧ Qd H) ∨ (J.go j H ∧ ∃ N1 : Hp → Prop, (∀ H', N1 H' → ∃ k', k' < k ∧ W (j + 1) k' H') ∧ ∀ x H', J.yld j H x H' → g x (wipe σ vs) H' fun σ3 H5 => wipe σ3 vs = wipe σ vs ∧ tt σ3 H5 fun b H6 => if b = true then body σ3 H6 N1 else N1 H6) := by
  refine ⟨fun i m H => m + i = n ∧ Pv i H, ⟨n, Nat.add_zero n, h0⟩, ?_⟩
  rintro i m H ⟨hm, p⟩
  have q := hG i H (by omega) p
  cases m with
  | zero =>
    obtain rfl : i = n := by omega
    exact .inl ⟨w.stops H q, hd H p⟩
  | succ m =>
    have hlt : i < n := by omega
    exact .inr ⟨w.goes i H hlt q, Pv (i + 1), fun H' p' => ⟨m, Nat.lt_succ_self m, by omega, p'⟩, fun x H' y => hs i x H H' hlt p (w.yields i H x H' hlt q y)⟩
theorem cl_list {K : PySem.W.Frag} {a : Addr} {xs : List V} {g : TG} {tt : TT} {vs : List Nat} {σ : L2.St} {H1 : Hp} {body : Body} {Qd : Hp → Prop} (Pv : Nat → Hp → Prop) (h0 : Pv 0 H1) (hG : ∀ i H, i ≤ xs.length → Pv i H → SqL K H a xs)
    (hs : ∀ i x H, xs[i]? = some x → Pv i H → g x (wipe σ vs) H fun σ2 H2 => wipe σ2 vs = wipe σ vs ∧ tt σ2 H2 fun b H3 => if b = true then body σ2 H3 (Pv (i + 1)) else Pv (i + 1) H3) (hd : ∀ H, Pv xs.length H → Qd H) :
    ∃ W : Nat → Nat → Hp → Prop, (∃ m, W 0 m H1) ∧ ∀ j k H, W j k H → ((Itl K a).stop j H ∧ Qd H) ∨ ((Itl K a).go j H ∧ ∃ N1 : Hp → Prop, (∀ H', N1 H' → ∃ k', k' < k ∧ W (j + 1) k' H') ∧ ∀ x H', (Itl K a).yld j H x H' → g x (wipe σ vs) H' fun σ3 H5 => wipe σ3 vs = wipe σ vs ∧ tt σ3 H5 fun b H6 => if b = true then body σ3 H6 N1 else N1 H6) := by
  refine cl_it walk_list Pv h0 hG (fun i x H H' hi p y => ?_) hd
  obtain ⟨rfl, hx⟩ : H' = H ∧ xs[i]? = some x := y
  exact hs i x H' hx p
theorem cl_range {lo : Int} {n : Nat} {g : TG} {tt : TT} {vs : List Nat} {σ : L2.St} {H1 : Hp} {body : Body} {Qd : Hp → Prop} (Pv : Nat → Hp → Prop) (h0 : Pv 0 H1)
    (hs : ∀ i H, i < n → Pv i H → g (.int (lo + (i : Nat))) (wipe σ vs) H fun σ2 H2 => wipe σ2 vs = wipe σ vs ∧ tt σ2 H2 fun b H3 => if b = true then body σ2 H3 (Pv (i + 1)) else Pv (i + 1) H3) (hd : ∀ H, Pv n H → Qd H) :
    ∃ W : Nat → Nat → Hp → Prop, (∃ m, W 0 m H1) ∧ ∀ j k H, W j k H → ((Itr lo n).stop j H ∧ Qd H) ∨ ((Itr lo n).go j H ∧ ∃ N1 : Hp → Prop, (∀ H', N1 H' → ∃ k', k' < k ∧ W (j + 1) k' H') ∧ ∀ x H', (Itr lo n).yld j H x H' → g x (wipe σ vs) H' fun σ3 H5 => wipe σ3 vs = wipe σ vs ∧ tt σ3 H5 fun b H6 => if b = true then body σ3 H6 N1 else N1 H6) := by
  refine cl_it walk_range Pv h0 (fun _ _ _ _ => trivial) (fun i x H H' hi p y => ?_) hd
  obtain ⟨rfl, rfl⟩ : H' = H ∧ x = .int (lo + (i : Nat)) := y
  exact hs i H' hi p
end SwC
set_option Elab.async false
set_option linter.all false
set_option maxRecDepth 100000
set_option maxHeartbeats 4000000
namespace L2
open PySem PySem.Spec PyProof.Rows
theorem pi_listK {X : Cx} {K : PySem.W.Frag} {tg e : Expr} {te : TE} (ha : PE X e te) (h : X.K = K := by rfl) : PI X tg e (iList K te) := h ▸ pi_list ha
end L2
namespace Sw
open PySem PySem.Spec PyProof.Rows L2
/-- the columns of some rows -/
def Cols (rows : List (List Int)) (L ns : List Int) : Prop := ns.Pairwise (· < ·) ∧ ∀ c, c ∈ ns ↔ ∃ r ∈ L, c ∈ tP rows r
structure Few (rows : List (List Int)) : Prop where
  len : rows.length ≤ 60
  lo : ∀ l ∈ rows, ∀ c ∈ l, 0 ≤ c ∧ c < 60
  nd : ∀ l ∈ rows, l.Nodup
def spPartners (K : PySem.W.Frag) : Sp := fun vs H Q _ => ∃ (t rl : Addr) (tb : Tups) (L : List Int), vs = [.ref t, .ref rl] ∧ TabAt K H t tb ∧ Few (keys tb) ∧ SqL K H rl (L.map V.int) ∧ (∀ r ∈ L, 0 ≤ r ∧ r < (tb.length : Int)) ∧
  ∀ (H' : Hp) (l : Addr) (ns : List Int), Same H H' → H' l = some (.lst (ns.map V.int)) → Cols (keys tb) L ns → Q (.ref l) H'
def spLack (K : PySem.W.Frag) : Sp := fun vs H Q _ => ∃ (t rl : Addr) (tb : Tups) (L : List Int), vs = [.ref t, .ref rl] ∧ TabAt K H t tb ∧ Few (keys tb) ∧ SqL K H rl (L.map V.int) ∧ (∀ r ∈ L, 0 ≤ r ∧ r < (tb.length : Int)) ∧
  ∀ (H' : Hp) (ns : List Int), Same H H' → Cols (keys tb) L ns → Q (.int ((L.length : Int) - ns.length)) H'
end Sw
namespace Sw
open PySem PySem.Spec PyProof.Rows L2
def spMatesZ (K : PySem.W.Frag) : Sp := fun vs H Q _ => ∃ (t rl : Addr) (tb : Tups) (W : List Int), vs = [.ref t, .ref rl] ∧ TabAt K H t tb ∧ TabOk (keys tb) ∧ SqL K H rl (W.map V.int) ∧ W.Nodup ∧ (∀ r ∈ W, 0 ≤ r ∧ r < (tb.length : Int)) ∧
  ∀ (H' : Hp) (l : Addr) (g : MM) (Z : List Int), Same H H' → H l = none → H' l = some (.dK (dI g)) → Mt (tP (keys tb)) g → (∀ r c, lk g r = some c → r ∈ W) → MaxOn (tP (keys tb)) W g → Shut (tP (keys tb)) g Z → (∀ z ∈ Z, z ∈ W) → (∀ r ∈ W, lk g r = none → r ∈ Z) → Q (.ref l) H'
/-- the rows that are reached from those without a mate, and no others -/
structure LeastBy (P : Int → List Int) (W : List Int) (g : MM) (F : List Int) : Prop where
  mt : Mt P g
  only : ∀ r c, lk g r = some c → r ∈ W
  sub : ∀ x ∈ F, x ∈ W
  free : ∀ r ∈ W, lk g r = none → r ∈ F
  shut : Shut P g F
  least : ∀ L : List Int, (∀ r ∈ W, lk g r = none → r ∈ L) → (∀ r ∈ L, ∀ c ∈ P r, ∀ r', lk g r' = some c → r' ∈ L) → ∀ x ∈ F, x ∈ L
def spLeast (K : PySem.W.Frag) : Sp := fun vs H Q _ => ∃ (t rl : Addr) (tb : Tups) (W : List Int), vs = [.ref t, .ref rl] ∧ TabAt K H t tb ∧ TabOk (keys tb) ∧ SqL K H rl (W.map V.int) ∧ W.Nodup ∧ W.length < 64 ∧ (∀ r ∈ W, 0 ≤ r ∧ r < (tb.length : Int)) ∧
  ∀ (H' : Hp) (l : Addr) (g : MM) (F : List Int), Same H H' → H' l = some (.lst (F.map V.int)) → F.Pairwise (· < ·) → LeastBy (tP (keys tb)) W g F → MaxOn (tP (keys tb)) W g → Q (.ref l) H'
end Sw
namespace Sw
open PySem PySem.Spec PyProof.Rows L2
theorem put_dW {q : List Int} {r : Int} (h : r ∉ q) : putK (dW q) (.inl r) (.bl true) = dW (q ++ [r]) := by
  rw [putK_new (k := (.inl r : Key)) (V.bl true) (by
    have z := val_dW q r
    rw [decide_eq_false h] at z
    cases ez : valV (dW q) (.inl r) with
    | none => rfl
    | some x => rw [ez] at z; cases z)]
  unfold dW
  rw [List.map_append]
  rfl
/-- rows that were reached -/
structure RQ (P : Int → List Int) (W : List Int) (g : MM) (Z q : List Int) : Prop where
  nd : q.Nodup
  sub : ∀ x ∈ q, x ∈ Z
  free : ∀ r ∈ W, lk g r = none → r ∈ q
  least : ∀ L : List Int, (∀ r ∈ W, lk g r = none → r ∈ L) → (∀ r ∈ L, ∀ c ∈ P r, ∀ r', lk g r' = some c → r' ∈ L) → ∀ x ∈ q, x ∈ L
end Sw
namespace Sw
open PySem PySem.Spec PyProof.Rows L2
def AscP (ps : Prts) : Prop := ∀ z ∈ ps, z.2.2.Pairwise (· < ·)
theorem asc_prt {ps : Prts} (h : AscP ps) (c : Int) : (prt ps c).Pairwise (· < ·) := by
  unfold prt
  cases e : ps.find? fun y => decide (y.1 = c) with
  | none => exact .nil
  | some y => exact h y (List.mem_of_find?_eq_some e)
theorem asc_add {K : PySem.W.Frag} {H0 H : Hp} {d : Addr} {ps : Prts} {rows : List (List Int)} {i : Nat} {part : List Int} {c : Int} (h : RB K H0 H d ps rows i part) (hA : AscP ps) (hc : c ∉ part) : AscP (addTo ps c i) := by
  intro z hz
  unfold addTo at hz
  obtain ⟨y, hy, rfl⟩ := List.mem_map.mp hz
  split
  · rename_i e
    rw [List.pairwise_append]
    refine ⟨hA y hy, List.pairwise_singleton _ _, fun a ha b hb => ?_⟩
    rw [List.mem_singleton.mp hb]
    rw [← prt_mem h.kn hy] at ha
    rcases (h.mem y.1 a).mp ha with ⟨_, h2, _⟩ | ⟨_, h2⟩
    · exact h2
    · exact absurd ((by simpa using e : y.1 = c) ▸ h2) hc
  · exact hA y hy
theorem asc_new {ps : Prts} {c : Int} {q : Addr} (hA : AscP ps) : AscP (ps ++ [(c, q, [])]) := fun z hz => by
  rcases List.mem_append.mp hz with hz | hz
  · exact hA z hz
  · rw [List.mem_singleton.mp hz]
    exact .nil
def spByColA (K : PySem.W.Frag) : Sp := fun vs H Q _ => ∃ (t : Addr) (tb : Tups), vs = [.ref t] ∧ TabAt K H t tb ∧ TabOk (keys tb) ∧
  ∀ (H' : Hp) (d : Addr) (ps : Prts), Same H H' → H d = none → PrtAt K H' d ps → Small ps → (∀ c r, r ∈ prt ps c ↔ c ∈ tP (keys tb) r) → (∀ c, (prt ps c).Pairwise (· < ·)) → (∀ z ∈ ps, H' z.2.1 ≠ none) → Q (.ref d) H'
/-- the table turned round -/
def turnedI (rows : List (List Int)) (c : Nat) : List Int := ((List.range rows.length).map Int.ofNat).filter fun r => decide ((c : Int) ∈ tP rows r)
theorem turned_eq {rows : List (List Int)} {c : Nat} {l : List Int} (h : l.Pairwise (· < ·)) (hm : ∀ r, r ∈ l ↔ (c : Int) ∈ tP rows r) : l = turnedI rows c := by
  have h2 : (turnedI rows c).Pairwise (· < ·) := by
    unfold turnedI
    refine List.Pairwise.filter _ ?_
    rw [List.pairwise_map]
    exact List.pairwise_lt_range.imp fun h => Int.ofNat_lt.mpr h
  have hm2 : ∀ r, r ∈ turnedI rows c ↔ (c : Int) ∈ tP rows r := fun r => by
    unfold turnedI
    rw [List.mem_filter, decide_eq_true_iff, List.mem_map]
    constructor
    · exact fun h => h.2
    · intro h
      obtain ⟨h0, l, hl, _⟩ := tP_some h
      have := (List.getElem?_eq_some_iff.mp hl).1
      exact ⟨⟨r.toNat, List.mem_range.mpr this, Int.toNat_of_nonneg h0⟩, h⟩
  refine List.Perm.eq_of_pairwise (le := fun a b : Int => a ≤ b) (fun a b _ _ h1 h2 => Int.le_antisymm h1 h2) (h.imp fun h => Int.le_of_lt h) (h2.imp fun h => Int.le_of_lt h) ?_
  rw [List.perm_ext_iff_of_nodup (h.imp fun h => Int.ne_of_lt h) (h2.imp fun h => Int.ne_of_lt h)]
  exact fun r => by rw [hm, hm2]
/-- rows of a list -/
def spTurned (K : PySem.W.Frag) : Sp := fun vs H Q _ => ∃ (t : Addr) (tb : Tups) (many : Nat), vs = [.ref t, .int many] ∧ TabAt K H t tb ∧ TabOk (keys tb) ∧ many ≤ 1000 ∧
  ∀ (H' : Hp) (l : Addr) (ks : Tups), Same H H' → H' l = some (.lst (refs ks)) → (∀ p ∈ ks, SqL K H' p.1 (p.2.map V.int)) → keys ks = (List.range many).map (turnedI (keys tb)) → Q (.ref l) H'
end Sw
namespace Sw
open PySem PySem.Spec PyProof.Rows L2
theorem sqL_put {K : PySem.W.Frag} {H : Hp} {a D : Addr} {xs : List V} {o : HO} (hn : a ≠ D) (h : SqL K H a xs) : SqL K (upd H D o) a xs := by
  rcases h with (h | ⟨u, h⟩) | h
  · exact .inl (.inl (by rw [upd_ne hn]; exact h))
  · exact .inl (.inr ⟨u, by rw [upd_ne hn]; exact h⟩)
  · exact .inr h
end Sw
namespace Sw
open PySem PySem.Spec PyProof.Rows L2
theorem qOf_ne {H : Hp} {ps : Prts} {r : Int} {e D : Addr} (h : ∀ z ∈ ps, H z.2.1 ≠ none) (hD : H D = none) (he : e ≠ D) : qOf ps r e ≠ D := by
  unfold qOf
  cases ez : ps.find? fun z => decide (z.1 = r) with
  | none => exact he
  | some z => exact fun e => h z (List.mem_of_find?_eq_some ez) (by rw [show z.2.1 = D from e]; exact hD)
end Sw
namespace Sw
open PySem PySem.Spec PyProof.Rows L2
/-! the law of least lots -/
def spLawLack (K : PySem.W.Frag) : Sp := fun vs H Q _ => ∃ (t rl : Addr) (tb : Tups) (L : List Int), vs = [.ref t, .ref rl] ∧ TabAt K H t tb ∧ (∀ r, (tP (keys tb) r).length ≤ 6) ∧ (∀ l ∈ keys tb, l.Nodup) ∧ SqL K H rl (L.map V.int) ∧ L.length ≤ 6 ∧ (∀ r ∈ L, 0 ≤ r ∧ r < (tb.length : Int)) ∧
  ∀ (H' : Hp) (ns : List Int), Same H H' → ns.Nodup → (∀ c, c ∈ ns ↔ ∃ r ∈ L, c ∈ tP (keys tb) r) → Q (.int ((L.length : Int) - ns.length)) H'
def partsL : List Int → List (List Int) → List (List Int)
  | [], f => f
  | x :: r, f => partsL r (f ++ f.map fun p => p ++ [x])
/-- lists of integers, plain in the heap -/
def IntsAt (H : Hp) (es : List (Addr × List Int)) : Prop := ∀ e ∈ es, H e.1 = some (.lst (e.2.map V.int))
def spLawParts (K : PySem.W.Frag) : Sp := fun vs H Q _ => ∃ (rl : Addr) (W : List Int), vs = [.ref rl] ∧ SqL K H rl (W.map V.int) ∧ W.length ≤ 5 ∧
  ∀ (H' : Hp) (l : Addr) (es : List (Addr × List Int)), Same H H' → H' l = some (.lst (refs es)) → IntsAt H' es → keys es = partsL W [[]] → Q (.ref l) H'
def lackI (P : Int → List Int) (L : List Int) (k : Int) : Prop := ∃ ns : List Int, ns.Nodup ∧ (∀ c, c ∈ ns ↔ ∃ r ∈ L, c ∈ P r) ∧ k = (L.length : Int) - ns.length
def spLawLeast (K : PySem.W.Frag) : Sp := fun vs H Q _ => ∃ (t rl : Addr) (tb : Tups) (W : List Int), vs = [.ref t, .ref rl] ∧ TabAt K H t tb ∧ (∀ r, (tP (keys tb) r).length ≤ 6) ∧ (∀ l ∈ keys tb, l.Nodup) ∧ SqL K H rl (W.map V.int) ∧ W.length ≤ 5 ∧ (∀ r ∈ W, 0 ≤ r ∧ r < (tb.length : Int)) ∧
  ∀ (H' : Hp) (l : Addr) (D : List Int), Same H H' → H' l = some (.lst (D.map V.int)) → D ∈ partsL W [[]] → (∀ M ∈ partsL W [[]], ∀ a b, lackI (tP (keys tb)) M a → lackI (tP (keys tb)) D b → a ≤ b) → (∀ M ∈ partsL W [[]], ∀ a, lackI (tP (keys tb)) M a → lackI (tP (keys tb)) D a → D.length ≤ M.length) → Q (.ref l) H'
def spLawExch (K : PySem.W.Frag) : Sp := fun vs H Q _ => ∃ (t : Addr) (tb : Tups) (many : Nat), vs = [.ref t, .int many] ∧ TabAt K H t tb ∧ tb.length ≤ 5 ∧ many ≤ 20 ∧
  ∀ (H' : Hp) (l : Addr) (ks : Tups), Same H H' → H' l = some (.lst (refs ks)) → (∀ p ∈ ks, SqL K H' p.1 (p.2.map V.int)) → keys ks = (List.range many).map (turnedI (keys tb)) → Q (.ref l) H'
end Sw
namespace Sw
open PySem PySem.Spec PyProof.Rows L2
theorem mem_partsL : ∀ (W : List Int) (f : List (List Int)) (p : List Int), p ∈ partsL W f ↔ ∃ q ∈ f, ∃ s, s.Sublist W ∧ p = q ++ s
  | [], f, p => by
    show p ∈ f ↔ _
    constructor
    · exact fun h => ⟨p, h, [], List.Sublist.refl _, (List.append_nil p).symm⟩
    · rintro ⟨q, hq, s, hs, rfl⟩
      rw [List.sublist_nil.mp hs, List.append_nil]
      exact hq
  | x :: W, f, p => by
    show p ∈ partsL W (f ++ f.map fun p => p ++ [x]) ↔ _
    rw [mem_partsL W]
    constructor
    · rintro ⟨q, hq, s, hs, rfl⟩
      rcases List.mem_append.mp hq with hq | hq
      · exact ⟨q, hq, s, hs.cons x, rfl⟩
      · obtain ⟨q', hq', rfl⟩ := List.mem_map.mp hq
        exact ⟨q', hq', x :: s, hs.cons_cons x, by rw [List.append_assoc]; rfl⟩
    · rintro ⟨q, hq, s, hs, rfl⟩
      cases hs with
      | cons _ hs => exact ⟨q, List.mem_append_left _ hq, s, hs, rfl⟩
      | cons_cons _ hs =>
        rename_i s'
        exact ⟨q ++ [x], List.mem_append_right _ (List.mem_map.mpr ⟨q, hq, rfl⟩), s', hs, by rw [List.append_assoc]; rfl⟩
theorem mem_parts {W p : List Int} : p ∈ partsL W [[]] ↔ p.Sublist W := by
  rw [mem_partsL]
  constructor
  · rintro ⟨q, hq, s, hs, rfl⟩
    rw [List.mem_singleton.mp hq]
    exact hs
  · exact fun h => ⟨[], List.mem_singleton.mpr rfl, p, h, rfl⟩
theorem partsL_len : ∀ (W : List Int) (f : List (List Int)), (partsL W f).length = f.length * 2 ^ W.length
  | [], f => (Nat.mul_one _).symm
  | x :: W, f => by
    show (partsL W (f ++ f.map fun p => p ++ [x])).length = _
    rw [partsL_len W, List.length_append, List.length_map, List.length_cons, Nat.pow_succ, Nat.mul_comm (2 ^ W.length) 2, ← Nat.mul_assoc, Nat.mul_two]
theorem same_card {a b : List Int} (ha : a.Nodup) (hb : b.Nodup) (h : ∀ x, x ∈ a ↔ x ∈ b) : a.length = b.length :=
  Nat.le_antisymm (len_le_of_sub ha fun x hx => (h x).mp hx) (len_le_of_sub hb fun x hx => (h x).mpr hx)
theorem lackI_uniq {P : Int → List Int} {M : List Int} {a b : Int} (ha : lackI P M a) (hb : lackI P M b) : a = b := by
  obtain ⟨n1, h1, m1, rfl⟩ := ha
  obtain ⟨n2, h2, m2, rfl⟩ := hb
  rw [same_card h1 h2 fun c => by rw [m1, m2]]
end Sw
namespace Sw
open PySem PySem.Spec PyProof.Rows L2
theorem ixN_last (n : Nat) : ixN (n + 1) (-1) = some n := by
  unfold ixN
  rw [if_neg (by decide), if_pos (by omega)]
  congr 1
  omega
theorem set_last {α : Type} (xs : List α) (a b : α) : (xs ++ [a]).set xs.length b = xs ++ [b] := by
  induction xs with
  | nil => rfl
  | cons x r ih => exact congrArg (x :: ·) ih
theorem cut_sub (zs : List Int) (lo hi : Option Int) : ∃ ys : List Int, cutV (zs.map V.int) lo hi = ys.map V.int ∧ ys.Sublist zs := by
  unfold cutV
  exact ⟨_, by rw [← List.map_drop, ← List.map_take], (List.take_sublist _ _).trans (List.drop_sublist _ _)⟩
end Sw
namespace Sw
open PySem PySem.Spec PyProof.Rows L2
def spSomeA (K : PySem.W.Frag) : Sp := fun vs H Q _ => ∃ (n : Int) (many : Nat), vs = [.int n, .int many] ∧ many ≤ 6 ∧ Num n ∧
  ∀ (H' : Hp) (l : Addr) (W : List Int), Same H H' → H' l = some (.lst (W.map V.int)) → W.Pairwise (· < ·) → W.length ≤ many → (∀ r ∈ W, 0 ≤ r ∧ r < (many : Int)) → Q (.ref l) H'
theorem asc_nodup {l : List Int} (h : l.Pairwise (· < ·)) : l.Nodup := h.imp fun h e => by omega
theorem asc_eq {l m : List Int} (hl : l.Pairwise (· < ·)) (hm : m.Pairwise (· < ·)) (h : ∀ x, x ∈ l ↔ x ∈ m) : l = m := by
  refine List.Perm.eq_of_pairwise (le := fun a b : Int => a ≤ b) (fun a b _ _ h1 h2 => Int.le_antisymm h1 h2) (hl.imp fun h => Int.le_of_lt h) (hm.imp fun h => Int.le_of_lt h) ?_
  rw [List.perm_ext_iff_of_nodup (asc_nodup hl) (asc_nodup hm)]
  exact h
theorem asc_sub {F W : List Int} (hF : F.Pairwise (· < ·)) (hW : W.Pairwise (· < ·)) (h : ∀ x ∈ F, x ∈ W) : F.Sublist W := by
  have e : F = W.filter fun x => decide (x ∈ F) := asc_eq hF (hW.filter _) fun x => by
    rw [List.mem_filter, decide_eq_true_iff]
    exact ⟨fun hx => ⟨h x hx, hx⟩, fun hx => hx.2⟩
  rw [e]
  exact List.filter_sublist
theorem ex_nodup : ∀ l : List Int, ∃ ns : List Int, ns.Nodup ∧ ∀ x, x ∈ ns ↔ x ∈ l
  | [] => ⟨[], List.nodup_nil, fun _ => Iff.rfl⟩
  | x :: r => by
    obtain ⟨ns, h1, h2⟩ := ex_nodup r
    by_cases h : x ∈ ns
    · exact ⟨ns, h1, fun y => by
        rw [h2, List.mem_cons]
        exact ⟨.inr, fun z => z.elim (fun e => by rw [e]; exact (h2 x).mp h) id⟩⟩
    · exact ⟨x :: ns, List.nodup_cons.mpr ⟨h, h1⟩, fun y => by rw [List.mem_cons, List.mem_cons, h2]⟩
theorem ex_lack (P : Int → List Int) (L : List Int) : ∃ x, lackI P L x := by
  obtain ⟨ns, h1, h2⟩ := ex_nodup (L.flatMap P)
  exact ⟨_, ns, h1, fun c => by rw [h2, List.mem_flatMap], rfl⟩
theorem filt_len (l : List Int) (p : Int → Bool) : (l.filter p).length + (l.filter fun x => !p x).length = l.length := by
  induction l with
  | nil => rfl
  | cons x r ih =>
    cases h : p x with
    | true => rw [List.filter_cons_of_pos h, List.filter_cons_of_neg (by simp [h]), List.length_cons, List.length_cons]; omega
    | false => rw [List.filter_cons_of_neg (by simp [h]), List.filter_cons_of_pos (by simp [h]), List.length_cons, List.length_cons]; omega
/-- of two lists: what is in one of them, what is in both -/
theorem union_card {a b u i : List Int} (ha : a.Nodup) (hb : b.Nodup) (hu : u.Nodup) (hi : i.Nodup) (h1 : ∀ x, x ∈ u ↔ x ∈ a ∨ x ∈ b) (h2 : ∀ x, x ∈ i ↔ x ∈ a ∧ x ∈ b) : u.length + i.length = a.length + b.length := by
  have e1 := filt_len b fun x => decide (x ∈ a)
  have e2 : (b.filter fun x => decide (x ∈ a)).length = i.length := same_card (hb.filter _) hi fun x => by
    rw [List.mem_filter, decide_eq_true_iff, h2]
    exact And.comm
  have e3 : (a ++ b.filter fun x => !decide (x ∈ a)).length = u.length := by
    refine same_card ?_ hu fun x => ?_
    · rw [List.nodup_append]
      refine ⟨ha, hb.filter _, fun y hy z hz e => ?_⟩
      have := (List.mem_filter.mp hz).2
      rw [← e, decide_eq_true hy] at this
      cases this
    · rw [List.mem_append, List.mem_filter, h1]
      by_cases hx : x ∈ a <;> simp [hx]
  rw [List.length_append] at e3
  omega
/-- lots that lack most are closed under what is in both -/
theorem lack_meet {P : Int → List Int} {A B I U : List Int} {a b i u : Int} (hA : A.Nodup) (hB : B.Nodup) (hI : I.Nodup) (hU : U.Nodup) (h1 : ∀ x, x ∈ U ↔ x ∈ A ∨ x ∈ B) (h2 : ∀ x, x ∈ I ↔ x ∈ A ∧ x ∈ B)
    (la : lackI P A a) (lb : lackI P B b) (li : lackI P I i) (lu : lackI P U u) : a + b ≤ i + u := by
  obtain ⟨na, na1, na2, rfl⟩ := la
  obtain ⟨nb, nb1, nb2, rfl⟩ := lb
  obtain ⟨ni, ni1, ni2, rfl⟩ := li
  obtain ⟨nu, nu1, nu2, rfl⟩ := lu
  have e1 := union_card hA hB hU hI h1 h2
  have e2 := union_card na1 nb1 nu1 (na1.filter fun x => decide (x ∈ nb)) (fun x => by
    rw [nu2, na2, nb2]
    constructor
    · rintro ⟨r, hr, hc⟩
      exact ((h1 r).mp hr).elim (fun h => .inl ⟨r, h, hc⟩) fun h => .inr ⟨r, h, hc⟩
    · rintro (⟨r, hr, hc⟩ | ⟨r, hr, hc⟩)
      · exact ⟨r, (h1 r).mpr (.inl hr), hc⟩
      · exact ⟨r, (h1 r).mpr (.inr hr), hc⟩) fun x => by rw [List.mem_filter, decide_eq_true_iff]
  have e3 : ni.length ≤ (na.filter fun x => decide (x ∈ nb)).length := len_le_of_sub ni1 fun x hx => by
    obtain ⟨r, hr, hc⟩ := (ni2 x).mp hx
    exact List.mem_filter.mpr ⟨(na2 x).mpr ⟨r, ((h2 r).mp hr).1, hc⟩, decide_eq_true ((nb2 x).mpr ⟨r, ((h2 r).mp hr).2, hc⟩)⟩
  omega
end Sw
namespace Sw
open PySem PySem.Spec PyProof.Rows L2
theorem full {a b : List Int} (ha : a.Nodup) (hab : ∀ x ∈ a, x ∈ b) (hl : b.length ≤ a.length) : ∀ x ∈ b, x ∈ a := fun x hx => by
  by_cases h : x ∈ a
  · exact h
  · have := len_le_of_sub (l := x :: a) (m := b) (List.nodup_cons.mpr ⟨h, ha⟩) fun y hy => by
      rcases List.mem_cons.mp hy with rfl | hy
      · exact hx
      · exact hab y hy
    rw [List.length_cons] at this
    omega
def matesOf (g : MM) (L : List Int) : List Int := (L.filter (has g)).map fun r => (lk g r).getD 0
theorem mem_mates {g : MM} {L : List Int} {c : Int} : c ∈ matesOf g L ↔ ∃ r ∈ L, lk g r = some c := by
  unfold matesOf
  rw [List.mem_map]
  constructor
  · rintro ⟨r, hr, rfl⟩
    obtain ⟨h1, h2⟩ := List.mem_filter.mp hr
    obtain ⟨c, e⟩ := has_some h2
    exact ⟨r, h1, by rw [e]; rfl⟩
  · rintro ⟨r, hr, e⟩
    exact ⟨r, List.mem_filter.mpr ⟨hr, by unfold has; rw [e]; rfl⟩, by rw [e]; rfl⟩
theorem nodup_mates {P : Int → List Int} {g : MM} {L : List Int} (h : Mt P g) (hL : L.Nodup) : (matesOf g L).Nodup := by
  unfold matesOf
  rw [List.Nodup, List.pairwise_map]
  refine (hL.filter _).imp_of_mem fun {a b} ha hb hab e => hab ?_
  obtain ⟨c, ea⟩ := has_some (List.mem_filter.mp ha).2
  obtain ⟨d, eb⟩ := has_some (List.mem_filter.mp hb).2
  have e' : (lk g a).getD 0 = (lk g b).getD 0 := e
  rw [ea, eb] at e'
  have e2 : c = d := e'
  exact h.inj a b c ea (by rw [eb, e2])
theorem len_mates (g : MM) (L : List Int) : (matesOf g L).length = (L.filter (has g)).length := List.length_map ..
theorem least_lack {P : Int → List Int} {W F : List Int} {g : MM} (h : LeastBy P W g F) (hW : W.Nodup) (hF : F.Nodup) : lackI P F ((W.length : Int) - (W.filter (has g)).length) := by
  obtain ⟨ns, n1, n2⟩ := ex_nodup (F.flatMap P)
  have n3 : ∀ c, c ∈ ns ↔ ∃ r ∈ F, c ∈ P r := fun c => by rw [n2, List.mem_flatMap]
  refine ⟨ns, n1, n3, ?_⟩
  have e1 : ns.length = (matesOf g F).length := same_card n1 (nodup_mates h.mt hF) fun c => by
    rw [n3, mem_mates]
    constructor
    · rintro ⟨r, hr, hc⟩
      exact h.shut r hr c hc
    · rintro ⟨r, hr, e⟩
      exact ⟨r, hr, h.mt.ed r c e⟩
  have e2 : (F.filter fun r => !has g r).length = (W.filter fun r => !has g r).length := same_card (hF.filter _) (hW.filter _) fun r => by
    rw [List.mem_filter, List.mem_filter]
    constructor
    · exact fun ⟨h1, h2⟩ => ⟨h.sub r h1, h2⟩
    · rintro ⟨h1, h2⟩
      refine ⟨h.free r h1 ?_, h2⟩
      unfold has at h2
      cases e : lk g r with
      | none => rfl
      | some c => rw [e] at h2; cases h2
  have e3 := filt_len F (has g)
  have e4 := filt_len W (has g)
  rw [len_mates] at e1
  omega
theorem least_le {P : Int → List Int} {W F L : List Int} {g : MM} {x : Int} (h : LeastBy P W g F) (hW : W.Nodup) (hL : L.Nodup) (hLW : ∀ r ∈ L, r ∈ W) (hx : lackI P L x) : x ≤ (W.length : Int) - (W.filter (has g)).length ∧ (x = (W.length : Int) - (W.filter (has g)).length → ∀ y ∈ F, y ∈ L) := by
  obtain ⟨ns, n1, n2, rfl⟩ := hx
  have m1 := nodup_mates h.mt hL
  have m2 : ∀ c ∈ matesOf g L, c ∈ ns := fun c hc => by
    obtain ⟨r, hr, e⟩ := mem_mates.mp hc
    exact (n2 c).mpr ⟨r, hr, h.mt.ed r c e⟩
  have l1 := len_le_of_sub m1 m2
  have s1 : ∀ r ∈ (L.filter fun r => !has g r), r ∈ (W.filter fun r => !has g r) := fun r hr => List.mem_filter.mpr ⟨hLW r (List.mem_filter.mp hr).1, (List.mem_filter.mp hr).2⟩
  have l2 := len_le_of_sub (hL.filter _) s1
  have e3 := filt_len L (has g)
  have e4 := filt_len W (has g)
  rw [len_mates] at l1
  refine ⟨by omega, fun e => ?_⟩
  have f1 := full m1 m2 (by rw [len_mates]; omega)
  have f2 := full (hL.filter _) s1 (by omega)
  refine h.least L (fun r hr hn => ?_) fun r hr c hc r' e' => ?_
  · exact (List.mem_filter.mp (f2 r (List.mem_filter.mpr ⟨hr, by unfold has; rw [hn]; rfl⟩))).1
  · obtain ⟨r'', h1, h2⟩ := mem_mates.mp (f1 c ((n2 c).mpr ⟨r, hr, hc⟩))
    rw [h.mt.inj r' r'' c e' h2]
    exact h1
/-- the told least lot -/
structure Due (P : Int → List Int) (W D : List Int) : Prop where
  sub : D.Sublist W
  top : ∀ M : List Int, M.Sublist W → ∀ a b, lackI P M a → lackI P D b → a ≤ b
  few : ∀ M : List Int, M.Sublist W → ∀ a, lackI P M a → lackI P D a → D.length ≤ M.length
theorem due_in {P : Int → List Int} {W D M : List Int} (h : Due P W D) (hW : W.Nodup) (hM : M.Sublist W) {b : Int} (hb : lackI P D b) (hm : lackI P M b) : ∀ y ∈ D, y ∈ M := by
  have nD := hW.sublist h.sub
  have nM := hW.sublist hM
  have sI : (D.filter fun x => decide (x ∈ M)).Sublist W := List.filter_sublist.trans h.sub
  have sU : (W.filter fun x => decide (x ∈ D ∨ x ∈ M)).Sublist W := List.filter_sublist
  obtain ⟨i, hi⟩ := ex_lack P (D.filter fun x => decide (x ∈ M))
  obtain ⟨u, hu⟩ := ex_lack P (W.filter fun x => decide (x ∈ D ∨ x ∈ M))
  have := lack_meet nD nM (nD.filter _) (hW.filter _) (fun x => by
    rw [List.mem_filter, decide_eq_true_iff]
    exact ⟨fun h => h.2, fun h' => ⟨h'.elim (fun z => h.sub.subset z) fun z => hM.subset z, h'⟩⟩) (fun x => by rw [List.mem_filter, decide_eq_true_iff]) hb hm hi hu
  have t1 := h.top _ sI i b hi hb
  have t2 := h.top _ sU u b hu hb
  have hib : i = b := by omega
  rw [hib] at hi
  have l1 := h.few _ sI b hi hb
  intro y hy
  have := full (nD.filter fun x => decide (x ∈ M)) (fun x hx => (List.mem_filter.mp hx).1) l1 y hy
  exact of_decide_eq_true (List.mem_filter.mp this).2
theorem due_eq {P : Int → List Int} {W D F : List Int} {g : MM} (h : Due P W D) (hW : W.Pairwise (· < ·)) (hL : LeastBy P W g F) (hF : F.Pairwise (· < ·)) : D = F ∧ lackI P D ((W.length : Int) - (W.filter (has g)).length) := by
  have nW := asc_nodup hW
  have nF := asc_nodup hF
  have sF := asc_sub hF hW hL.sub
  have lF := least_lack hL nW nF
  obtain ⟨b, hb⟩ := ex_lack P D
  have t1 := h.top F sF _ b lF hb
  obtain ⟨t2, t3⟩ := least_le hL nW (nW.sublist h.sub) (fun r hr => h.sub.subset hr) hb
  have e : b = (W.length : Int) - (W.filter (has g)).length := by omega
  rw [← e] at lF
  have h1 := due_in h nW sF hb lF
  have h2 := t3 e
  exact ⟨asc_eq (hW.sublist h.sub) hF fun x => ⟨h1 x, h2 x⟩, e ▸ hb⟩
end Sw
namespace Sw
open PySem PySem.Spec PyProof.Rows L2
def spDrawnA (K : PySem.W.Frag) : Sp := fun vs H Q _ => ∃ (p1 : Addr) (ns : List Int) (at' : Int), vs = [.ref p1, .int at'] ∧ SqL K H p1 (ns.map V.int) ∧ (∀ n ∈ ns, Num n) ∧ 0 ≤ at' ∧ at' + 6 ≤ (ns.length : Int) ∧
  ∀ (H' : Hp) (t : Addr) (tb : Tups), Same H H' → H' t = some (.lst (refs tb)) → IntsAt H' tb → tb.length ≤ 5 → (∀ p ∈ tb, p.2.Nodup ∧ ∀ c ∈ p.2, 0 ≤ c ∧ c < 6) → Q (.ref t) H'
theorem lay_ints (l : List Int) : Lay 1 (.list (l.map PyData.int)) := lay_list fun d hd => by
  obtain ⟨i, _, rfl⟩ := List.mem_map.mp hd
  exact lay_int 0 i
theorem eqv_ints_nil (l : List Int) : PyData.eqv (.list (l.map PyData.int)) (.list []) = decide (l = []) := by
  cases l with
  | nil => rfl
  | cons x r => rfl
theorem due_nil {P : Int → List Int} {W D : List Int} {b : Int} (h : Due P W D) (hb : lackI P D b) : D = [] ↔ b = 0 := by
  have l0 : lackI P [] 0 := ⟨[], List.nodup_nil, fun c => ⟨(fun h => by cases h), (fun ⟨_, h, _⟩ => by cases h)⟩, rfl⟩
  constructor
  · intro e
    rw [e] at hb
    exact lackI_uniq hb l0
  · intro e
    rw [e] at hb
    have := h.few [] (List.nil_sublist _) 0 l0 hb
    exact List.length_eq_zero_iff.mp (Nat.le_zero.mp this)
end Sw
namespace SwT
open PySem PySem.Spec PyProof.Rows L2 Sw
/-! ### the text by places -/
def topS (i : Nat) : Stmt := PySem.Challenge.pw_starward_k11_least_lots.main.body.getD i (.Pass ⟨0, 0, 0, 0⟩)
abbrev s_most : Stmt := topS 1
theorem sc_most : FnScope ["table", "rows"] ["table", "rows"] (defScope s_most) := ⟨rfl, rfl, rfl, by decide +kernel, rfl, by decide +kernel, by decide +kernel⟩
abbrev s__mates_of : Stmt := topS 2
theorem sc__mates_of : FnScope ["table", "rows", "row"] ["table", "rows"] (defScope s__mates_of) := ⟨rfl, rfl, rfl, by decide +kernel, rfl, by decide +kernel, by decide +kernel⟩
abbrev s__rows_by_column : Stmt := topS 3
theorem sc__rows_by_column : FnScope ["table", "found", "row", "columns", "column"] ["table"] (defScope s__rows_by_column) := ⟨rfl, rfl, rfl, by decide +kernel, rfl, by decide +kernel, by decide +kernel⟩
abbrev s__with_more : Stmt := topS 4
theorem sc__with_more : FnScope ["partners_of", "wanted", "mates", "row", "grown", "owners", "stays", "steps", "taker", "column"] ["partners_of", "wanted", "mates"] (defScope s__with_more) := ⟨rfl, rfl, rfl, by decide +kernel, rfl, by decide +kernel, by decide +kernel⟩
abbrev s__steps_to_more : Stmt := topS 5
theorem sc__steps_to_more : FnScope ["partners_of", "mates", "owners", "stays", "start", "takers", "queue", "at", "row", "column"] ["partners_of", "mates", "owners", "stays", "start"] (defScope s__steps_to_more) := ⟨rfl, rfl, rfl, by decide +kernel, rfl, by decide +kernel, by decide +kernel⟩
abbrev s__traced : Stmt := topS 6
theorem sc__traced : FnScope ["mates", "takers", "last", "steps", "column"] ["mates", "takers", "last"] (defScope s__traced) := ⟨rfl, rfl, rfl, by decide +kernel, rfl, by decide +kernel, by decide +kernel⟩
abbrev s_partners : Stmt := topS 7
theorem sc_partners : FnScope ["table", "rows", "row", "column"] ["table", "rows"] (defScope s_partners) := ⟨rfl, rfl, rfl, by decide +kernel, rfl, by decide +kernel, by decide +kernel⟩
abbrev s_lack : Stmt := topS 8
theorem sc_lack : FnScope ["table", "rows"] ["table", "rows"] (defScope s_lack) := ⟨rfl, rfl, rfl, by decide +kernel, rfl, by decide +kernel, by decide +kernel⟩
abbrev s_least_lot : Stmt := topS 9
theorem sc_least_lot : FnScope ["table", "rows", "mates", "row", "owners", "queue", "found", "at", "column", "owner"] ["table", "rows"] (defScope s_least_lot) := ⟨rfl, rfl, rfl, by decide +kernel, rfl, by decide +kernel, by decide +kernel⟩
abbrev s_turned_table : Stmt := topS 10
theorem sc_turned_table : FnScope ["table", "many", "found", "column"] ["table", "many"] (defScope s_turned_table) := ⟨rfl, rfl, rfl, by decide +kernel, rfl, by decide +kernel, by decide +kernel⟩
abbrev s__law_row : Stmt := topS 12
theorem sc__law_row : FnScope ["cell", "many", "row", "rest", "state", "k"] ["cell", "many"] (defScope s__law_row) := ⟨rfl, rfl, rfl, by decide +kernel, rfl, by decide +kernel, by decide +kernel⟩
abbrev s__law_numbers : Stmt := topS 13
theorem sc__law_numbers : FnScope ["script", "many", "cells", "each", "numbers", "cell", "number"] ["script", "many"] (defScope s__law_numbers) := ⟨rfl, rfl, rfl, by decide +kernel, rfl, by decide +kernel, by decide +kernel⟩
abbrev s__law_lack : Stmt := topS 14
theorem sc__law_lack : FnScope ["table", "lot", "known", "row", "column"] ["table", "lot"] (defScope s__law_lack) := ⟨rfl, rfl, rfl, by decide +kernel, rfl, by decide +kernel, by decide +kernel⟩
abbrev s__law_parts : Stmt := topS 15
theorem sc__law_parts : FnScope ["lot", "found", "one", "part"] ["lot"] (defScope s__law_parts) := ⟨rfl, rfl, rfl, by decide +kernel, rfl, by decide +kernel, by decide +kernel⟩
abbrev s__law_least : Stmt := topS 16
theorem sc__law_least : FnScope ["table", "lot", "parts", "most_lacking", "best", "few", "part"] ["table", "lot"] (defScope s__law_least) := ⟨rfl, rfl, rfl, by decide +kernel, rfl, by decide +kernel, by decide +kernel⟩
abbrev s__law_exchanged : Stmt := topS 17
theorem sc__law_exchanged : FnScope ["table", "many", "found", "column", "row"] ["table", "many"] (defScope s__law_exchanged) := ⟨rfl, rfl, rfl, by decide +kernel, rfl, by decide +kernel, by decide +kernel⟩
abbrev s__law_drawn : Stmt := topS 18
theorem sc__law_drawn : FnScope ["numbers", "at", "table", "k", "draw", "column"] ["numbers", "at"] (defScope s__law_drawn) := ⟨rfl, rfl, rfl, by decide +kernel, rfl, by decide +kernel, by decide +kernel⟩
abbrev s__law_some : Stmt := topS 19
theorem sc__law_some : FnScope ["number", "many", "k"] ["number", "many"] (defScope s__law_some) := ⟨rfl, rfl, rfl, by decide +kernel, rfl, by decide +kernel, by decide +kernel⟩
abbrev s_law : Stmt := topS 20
theorem sc_law : FnScope ["script", "numbers", "table", "rows", "row", "handed", "due", "greatest", "part", "known", "many", "column"] ["script"] (defScope s_law) := ⟨rfl, rfl, rfl, by decide +kernel, rfl, by decide +kernel, by decide +kernel⟩
/-- where the top has put each of them -/
structure Ad where
  f_most : Addr
  fd_most : FuncData
  f__mates_of : Addr
  fd__mates_of : FuncData
  f__rows_by_column : Addr
  fd__rows_by_column : FuncData
  f__with_more : Addr
  fd__with_more : FuncData
  f__steps_to_more : Addr
  fd__steps_to_more : FuncData
  f__traced : Addr
  fd__traced : FuncData
  f_partners : Addr
  fd_partners : FuncData
  f_lack : Addr
  fd_lack : FuncData
  f_least_lot : Addr
  fd_least_lot : FuncData
  f_turned_table : Addr
  fd_turned_table : FuncData
  f__law_row : Addr
  fd__law_row : FuncData
  f__law_numbers : Addr
  fd__law_numbers : FuncData
  f__law_lack : Addr
  fd__law_lack : FuncData
  f__law_parts : Addr
  fd__law_parts : FuncData
  f__law_least : Addr
  fd__law_least : FuncData
  f__law_exchanged : Addr
  fd__law_exchanged : FuncData
  f__law_drawn : Addr
  fd__law_drawn : FuncData
  f__law_some : Addr
  fd__law_some : FuncData
  f_law : Addr
  fd_law : FuncData
/-- what the top has written -/
structure Txt (P : Program) (K : PySem.W.Frag) (mg : Str → Option Value) (a : Ad) : Prop where
  F_most : Fun K "most" "most" s_most a.f_most a.fd_most
  b_most : Binds K a.fd_most ["table", "rows"] []
  m_most : mg "most" = some (.ref a.f_most)
  F__mates_of : Fun K "_mates_of" "_mates_of" s__mates_of a.f__mates_of a.fd__mates_of
  b__mates_of : Binds K a.fd__mates_of ["table", "rows"] []
  m__mates_of : mg "_mates_of" = some (.ref a.f__mates_of)
  F__rows_by_column : Fun K "_rows_by_column" "_rows_by_column" s__rows_by_column a.f__rows_by_column a.fd__rows_by_column
  b__rows_by_column : Binds K a.fd__rows_by_column ["table"] []
  m__rows_by_column : mg "_rows_by_column" = some (.ref a.f__rows_by_column)
  F__with_more : Fun K "_with_more" "_with_more" s__with_more a.f__with_more a.fd__with_more
  b__with_more : Binds K a.fd__with_more ["partners_of", "wanted", "mates"] []
  m__with_more : mg "_with_more" = some (.ref a.f__with_more)
  F__steps_to_more : Fun K "_steps_to_more" "_steps_to_more" s__steps_to_more a.f__steps_to_more a.fd__steps_to_more
  b__steps_to_more : Binds K a.fd__steps_to_more ["partners_of", "mates", "owners", "stays", "start"] []
  m__steps_to_more : mg "_steps_to_more" = some (.ref a.f__steps_to_more)
  F__traced : Fun K "_traced" "_traced" s__traced a.f__traced a.fd__traced
  b__traced : Binds K a.fd__traced ["mates", "takers", "last"] []
  m__traced : mg "_traced" = some (.ref a.f__traced)
  F_partners : Fun K "partners" "partners" s_partners a.f_partners a.fd_partners
  b_partners : Binds K a.fd_partners ["table", "rows"] []
  m_partners : mg "partners" = some (.ref a.f_partners)
  F_lack : Fun K "lack" "lack" s_lack a.f_lack a.fd_lack
  b_lack : Binds K a.fd_lack ["table", "rows"] []
  m_lack : mg "lack" = some (.ref a.f_lack)
  F_least_lot : Fun K "least_lot" "least_lot" s_least_lot a.f_least_lot a.fd_least_lot
  b_least_lot : Binds K a.fd_least_lot ["table", "rows"] []
  m_least_lot : mg "least_lot" = some (.ref a.f_least_lot)
  F_turned_table : Fun K "turned_table" "turned_table" s_turned_table a.f_turned_table a.fd_turned_table
  b_turned_table : Binds K a.fd_turned_table ["table", "many"] []
  m_turned_table : mg "turned_table" = some (.ref a.f_turned_table)
  F__law_row : Fun K "_law_row" "_law_row" s__law_row a.f__law_row a.fd__law_row
  b__law_row : Binds K a.fd__law_row ["cell", "many"] []
  m__law_row : mg "_law_row" = some (.ref a.f__law_row)
  F__law_numbers : Fun K "_law_numbers" "_law_numbers" s__law_numbers a.f__law_numbers a.fd__law_numbers
  b__law_numbers : Binds K a.fd__law_numbers ["script", "many"] []
  m__law_numbers : mg "_law_numbers" = some (.ref a.f__law_numbers)
  F__law_lack : Fun K "_law_lack" "_law_lack" s__law_lack a.f__law_lack a.fd__law_lack
  b__law_lack : Binds K a.fd__law_lack ["table", "lot"] []
  m__law_lack : mg "_law_lack" = some (.ref a.f__law_lack)
  F__law_parts : Fun K "_law_parts" "_law_parts" s__law_parts a.f__law_parts a.fd__law_parts
  b__law_parts : Binds K a.fd__law_parts ["lot"] []
  m__law_parts : mg "_law_parts" = some (.ref a.f__law_parts)
  F__law_least : Fun K "_law_least" "_law_least" s__law_least a.f__law_least a.fd__law_least
  b__law_least : Binds K a.fd__law_least ["table", "lot"] []
  m__law_least : mg "_law_least" = some (.ref a.f__law_least)
  F__law_exchanged : Fun K "_law_exchanged" "_law_exchanged" s__law_exchanged a.f__law_exchanged a.fd__law_exchanged
  b__law_exchanged : Binds K a.fd__law_exchanged ["table", "many"] []
  m__law_exchanged : mg "_law_exchanged" = some (.ref a.f__law_exchanged)
  F__law_drawn : Fun K "_law_drawn" "_law_drawn" s__law_drawn a.f__law_drawn a.fd__law_drawn
  b__law_drawn : Binds K a.fd__law_drawn ["numbers", "at"] []
  m__law_drawn : mg "_law_drawn" = some (.ref a.f__law_drawn)
  F__law_some : Fun K "_law_some" "_law_some" s__law_some a.f__law_some a.fd__law_some
  b__law_some : Binds K a.fd__law_some ["number", "many"] []
  m__law_some : mg "_law_some" = some (.ref a.f__law_some)
  F_law : Fun K "law" "law" s_law a.f_law a.fd_law
  z_len : mg "len" = none
  z_abs : mg "abs" = none
  z_int : mg "int" = none
  z_max : mg "max" = none
  z_min : mg "min" = none
  z_range : mg "range" = none
  z_list : mg "list" = none
  z_all : mg "all" = none
  z_sorted : mg "sorted" = none
  z_enumerate : mg "enumerate" = none
section
variable {P : Program} {w : World} {K : PySem.W.Frag} {mg : Str → Option Value} {base : Heap} {a : Ad}
theorem ok__traced (T : Txt P K mg a) : FnOk P w K mg base CX0 1 a.f__traced a.fd__traced ["mates", "takers", "last"] (spTraced K) := by
  refine T.F__traced.ok sc__traced (fun vs H Q E h => ?_) (fun cdv A outer s H vs Q E hr h => ?_)
  · obtain ⟨dm, dt, m, ts, P', start, last, rfl, _⟩ := h
    rfl
  · obtain ⟨dm, dt, m, ts, P', start, last, rfl, hm, ht, hT, hn, hs, hl, hz, k⟩ := h
    have hu1 : (A.deeper (envOfC "_traced" (defScope s__traced) s.heap.objs.size a.f__traced cdv)).units + 1 < cLine := by
      have := hr.un
      omega
    refine ⟨_, (pss_cons (ps_set (i := 3) sc__traced.nd rfl (.inl rfl) (pe_lstM pa_nil))
      (pss_cons (ps_set (i := 4) sc__traced.nd rfl (.inl rfl) (pv 2))
      (pss_cons (ps_while PassesOwn.never (pt_cmpR op_notN (pv 4) pe_non (nomark _)) (pss_cons (ps_expr (pe_bm PySem.F.plainAttrs_list PySem.F.slot_list_append PySem.F.type_list_append mt_append (pv 3) (pa_cons (pe_tupM (pa_cons (pe_dget hu1 (pv 1) (pv 4) (fun _ _ => rfl)) (pa_cons (pv 4) pa_nil))) pa_nil)))
      (pss_one (ps_set (i := 4) sc__traced.nd rfl (.inl rfl) (pe_dget1 hu1 (pv 0) (pe_dget hu1 (pv 1) (pv 4) (fun _ _ => rfl)) ⟨rfl, rfl, rfl, rfl⟩)))))
      (pss_one (ps_ret (pv 3)))))), ?_⟩
    refine ⟨Nat.zero_le _, fun l H1 s1 nl el => ⟨_, rfl, ?_⟩⟩
    obtain ⟨r0, e0⟩ := lk_keyE hl
    obtain ⟨i0, hi0⟩ := List.getElem?_of_mem (lk_some e0)
    refine ⟨fun μ σ H2 => ∃ (acc : MM) (ks : Tups) (col : Option Int), σ = [some (.ref dm), some (.ref dt), some (.int last), some (.ref l), some (optV col)] ∧ Same H H2 ∧ H2 l = some (.lst (refs ks)) ∧ TupsAt K H2 ks ∧ keys ks = steps2 acc ∧ Trc P' m start last ts acc col ∧ ∀ c, col = some c → ∃ (i : Nat) (r : Int), ts[i]? = some (c, r) ∧ i < μ,
      ⟨i0 + 1, [], [], some last, rfl, s1, el, (fun p hp => by cases hp), rfl, ⟨(fun x hx => by cases hx), List.nodup_nil, trivial, (fun x hx => by cases hx), fun c e => ?_, .inl ⟨rfl, rfl⟩⟩, fun c e => ?_⟩, ?_⟩
    · rw [← Option.some.inj e]
      exact ⟨i0, r0, hi0, fun x hx => by cases hx⟩
    · rw [← Option.some.inj e]
      exact ⟨i0, r0, hi0, Nat.lt_succ_self _⟩
    rintro μ σ H2 ⟨acc, ks, col, rfl, S, el2, t2, ek, Tr, hμ⟩
    cases col with
    | none =>
      refine ⟨_, rfl, rfl, _, rfl, iteF ⟨.ref l, rfl, ?_⟩⟩
      obtain ⟨t, p, e, hw⟩ := Tr.done hT hs
      exact k H2 l ks t p S nl el2 t2 (by rw [ek, e]) hw
    | some c =>
      obtain ⟨r, j, e1, e2, Tr', hb⟩ := Tr.step hT hn hs
      obtain ⟨i, r', hi, hiμ⟩ := hμ c rfl
      have hij := getElem_keys hn e2 hi
      refine ⟨_, rfl, rfl, _, rfl, iteT ⟨_, fun σ' H' z => z, ?_⟩⟩
      refine ⟨.ref l, rfl, .inl ⟨rfl, _, .inl (.inl el2)⟩, .ref dt, rfl, _, rfl, dt, .int r, rfl, get_dI1 (S _ _ ht) e1, _, rfl, (by show 2 ≤ sizeLine; decide), fun tp H3 s3 ttp => ?_⟩
      have el3 := s3 _ _ el2
      have hks : ks.length ≤ 2000 := by
        have h1 : ks.length = acc.length := by rw [← keys_len, ek]; unfold steps2; rw [List.length_map]
        have h2 : (acc.map (·.2)).length ≤ (ts.map (·.1)).length := len_le_of_sub Tr.cn fun x hx => by
          obtain ⟨y, hy, rfl⟩ := List.mem_map.mp hx
          obtain ⟨i', hi'⟩ := Tr.mem y hy
          exact List.mem_map_of_mem (f := fun z : Int × Int => z.1) (List.mem_of_getElem? hi')
        rw [List.length_map, List.length_map] at h2
        omega
      refine ⟨l, _, _, rfl, rfl, el3, sizeN (by rw [refs_len]; omega), ?_⟩
      have S4 : Same H (upd H3 l (.lst (refs ks ++ [.ref tp]))) := same_put nl (S.trans s3)
      refine ⟨.ref dm, rfl, dm, rfl, isD_of (S4 _ _ hm), .ref dt, rfl, _, rfl, dt, .int r, rfl, get_dI1 (S4 _ _ ht) e1, _, get_dI (S4 _ _ hm) rfl, ?_⟩
      rw [optV_map]
      refine ⟨j, by omega, acc ++ [(r, c)], ks ++ [(tp, [r, c])], lk m r, rfl, S4, by rw [upd_same, refs_push _ (tp, [r, c])], ?_, ?_, Tr', hb⟩
      · exact tups_app (tups_put el3 (tups_up s3 t2)) (tups_one (sqT_lst el3 ttp))
      · rw [keys_push, ek]
        unfold steps2
        rw [List.map_append]
        rfl

theorem ok__steps_to_more (T : Txt P K mg a) : FnOk P w K mg base CX0 2 a.f__steps_to_more a.fd__steps_to_more ["partners_of", "mates", "owners", "stays", "start"] (spSteps K) := by
  refine T.F__steps_to_more.ok sc__steps_to_more (fun vs H Q E h => ?_) (fun cdv A outer s H vs Q E hr h => ?_)
  · obtain ⟨pd, dm, do', ds, ps, m, o, W, start, rfl, _⟩ := h
    rfl
  · obtain ⟨pd, dm, do', ds, ps, m, o, W, start, rfl, hP, hsm, hm, ho, hW, hMt, hO, hon, hfree, hsW, k1, k2⟩ := h
    have hu1 : (A.deeper (envOfC "_steps_to_more" (defScope s__steps_to_more) s.heap.objs.size a.f__steps_to_more cdv)).units + 1 < cLine := by
      have := hr.un
      omega
    refine ⟨_, (pss_cons (ps_set (i := 5) sc__steps_to_more.nd rfl (.inl rfl) pe_dnewK)
      (pss_cons (ps_set (i := 6) sc__steps_to_more.nd rfl (.inl rfl) (pe_lstM (pa_cons (pv 4) pa_nil)))
      (pss_cons (ps_set (i := 7) sc__steps_to_more.nd rfl (.inl rfl) pe_int)
      (pss_cons (ps_while PassesOwn.never (pt_cmpR op_lt (pv 7) (pe_callB call_len_seq (by rfl) T.z_len (by decide +kernel) (pa_cons (pv 6) pa_nil)) (nomark _)) (pss_cons (ps_set (i := 8) sc__steps_to_more.nd rfl (.inl rfl) (pe_ix ix_seq (pv 6) (pv 7) (fun _ _ => rfl)))
      (pss_cons (ps_for PassesOwn.never rfl (pi_list (pe_dget2 hu1 (pv 0) (pv 8) (pe_lstM pa_nil) ⟨rfl, rfl, rfl, rfl⟩)) (pg_name (i := 9) sc__steps_to_more.nd rfl (.inl rfl)) (pss_one (ps_if (pt_cmp (pc_dnotin hu1 (pv 9) (pv 5))) (pss_cons (ps_dput hu1 (pv 5) (pv 9) (pv 8) rfl)
      (pss_cons (ps_if (pt_cmp (pc_dnotinN hu1 (pe_dget1 hu1 (pv 2) (pv 9) ⟨rfl, rfl, rfl, rfl⟩) (pv 3))) (pss_one (ps_ret (pe_call (ok__traced T) (hr.mono (by decide)) (by rfl) T.m__traced T.F__traced.kp T.b__traced .nil pass0 (pa_cons (pv 1) (pa_cons (pv 5) (pa_cons (pv 9) pa_nil)))))) pss_nil)
      (pss_one (ps_expr (pe_bm PySem.F.plainAttrs_list PySem.F.slot_list_append PySem.F.type_list_append mt_append (pv 6) (pa_cons (pe_dget hu1 (pv 2) (pv 9) (fun _ _ => rfl)) pa_nil)))))) pss_nil)))
      (pss_one (ps_aug (i := 7) sc__steps_to_more.nd rfl (.inl rfl) pe_int ip_add)))))
      (pss_one (ps_ret (pe_lstM pa_nil))))))), ?_⟩
    refine fun d nd => ?_
    have s1 : Same H (upd H d (.dK [])) := same_new nd
    have ed1 : (upd H d (.dK [])) d = some (.dK (dI [])) := upd_same
    generalize upd H d (.dK []) = H1 at s1 ed1 ⊢
    refine ⟨_, rfl, (by show 1 ≤ sizeLine; decide), fun l H2 s2 nl el => ?_⟩
    have nl0 : H l = none := none_back s1 nl
    have hdl : d ≠ l := fun e => by rw [← e, ed1] at nl; cases nl
    refine ⟨fun μ σ H3 => ∃ (n : Nat) (ts : MM) (qs : List Int) (z8 z9 : Option V), σ = [some (.ref pd), some (.ref dm), some (.ref do'), some (.ref ds), some (.int start), some (.ref d), some (.ref l), some (.int (n : Int)), z8, z9] ∧ Same H H3 ∧ H3 d = some (.dK (dI ts)) ∧ H3 l = some (.lst (qs.map V.int)) ∧
        Bf (prt ps) W m o start ts qs ∧ (∀ i, i < n → ∀ row, qs[i]? = some row → ∀ c ∈ prt ps row, c ∈ ts.map (·.1)) ∧ n ≤ qs.length ∧ μ + n = 1002,
      ⟨1002, 0, [], [start], _, _, rfl, s1.trans s2, s2 _ _ ed1, el, ⟨(fun j c r e => by cases e), List.nodup_nil, rfl, (fun z hz => by cases hz), (fun z hz => by cases hz)⟩, (fun i hi => absurd hi (Nat.not_lt_zero _)), Nat.zero_le _, rfl⟩, ?_⟩
    rintro μ σ H3 ⟨n, ts, qs, z8, z9, rfl, S3, ed3, el3, hB, hdone, hn, hμ⟩
    obtain ⟨hts, hqs⟩ := hB.len
    refine ⟨_, rfl, .ref l, rfl, l, _, rfl, .inl (.inl (.inl el3)), _, _, rfl, rfl, _, rfl, ite2 (fun g => ?_) (fun g => ?_)⟩
    rotate_left
    · -- nothing is left
      have hnl : n = qs.length := by
        have : ¬ ((n : Int) < (((qs.map V.int).length : Nat) : Int)) := fun z => g (decide_eq_true z)
        rw [List.length_map] at this
        omega
      obtain ⟨a1, a2, a3⟩ := hB.shut hO hsW fun i row hi => hdone i (by rw [hnl]; exact (List.getElem?_eq_some_iff.mp hi).1) row hi
      exact ⟨Nat.zero_le _, fun l5 H5 s5 n5 e5 => k1 H5 l5 qs (S3.trans s5) (none_back S3 n5) e5 a1 a2 a3⟩
    · have hlt : n < qs.length := by
        have : ((n : Int) < (((qs.map V.int).length : Nat) : Int)) := of_decide_eq_true g
        rw [List.length_map] at this
        omega
      have hrow : qs[n]? = some qs[n] := List.getElem?_eq_getElem hlt
      generalize qs[n] = row at hrow
      refine ⟨_, fun σ' H' z => z, ?_⟩
      refine ⟨.ref l, rfl, _, rfl, .inl ⟨l, _, _, _, rfl, rfl, .inl (.inl el3), atI_nat (by rw [List.getElem?_map, hrow]; rfl), ?_⟩⟩
      refine ⟨.ref pd, rfl, pd, rfl, isD_of (S3 _ _ hP.1), _, rfl, Nat.zero_le _, fun le H4 s4 nle ele => ?_⟩
      have S4 := S3.trans s4
      refine ⟨_, DGet.k (k := .inl row) (S4 _ _ hP.1), ?_⟩
      rw [qOf_eq]
      have hlel : le ≠ l := fun e => by rw [e, el3] at nle; cases nle
      have hled : le ≠ d := fun e => by rw [e, ed3] at nle; cases nle
      refine ⟨qOf ps row le, rfl, ⟨_, qOf_at (prtAt_up S4 hP) ele row⟩, for_list (K := K) (a := qOf ps row le) (xs := (prt ps row).map V.int) (fun p σ H5 => ∃ (ts : MM) (qs : List Int) (z9 : Option V), σ = [some (.ref pd), some (.ref dm), some (.ref do'), some (.ref ds), some (.int start), some (.ref d), some (.ref l), some (.int (n : Int)), some (.int row), z9] ∧ Same H H5 ∧ H5 le = some (.lst []) ∧ H5 d = some (.dK (dI ts)) ∧ H5 l = some (.lst (qs.map V.int)) ∧
          Bf (prt ps) W m o start ts qs ∧ (∀ i, i < n → ∀ row, qs[i]? = some row → ∀ c ∈ prt ps row, c ∈ ts.map (·.1)) ∧ n < qs.length ∧ qs[n]? = some row ∧ ∀ c ∈ (prt ps row).take p, c ∈ ts.map (·.1))
        ⟨ts, qs, _, rfl, S4, ele, s4 _ _ ed3, s4 _ _ el3, hB, hdone, hlt, hrow, fun c hc => by cases hc⟩ (fun p σ H5 _ ⟨_, _, _, _, S5, e5, _⟩ => qOf_at (prtAt_up S5 hP) e5 row) ?_ ?_⟩
      · rintro p v σ H5 hp ⟨ts, qs, z9, rfl, S5, ele5, ed5, el5, hB, hdone, hlt, hrow, hpart⟩
        obtain ⟨hts, hqs⟩ := hB.len
        obtain ⟨c, hc, rfl⟩ : ∃ c, (prt ps row)[p]? = some c ∧ v = V.int c := by
          rw [List.getElem?_map] at hp
          cases e : (prt ps row)[p]? with
          | none => rw [e] at hp; cases hp
          | some c => rw [e] at hp; exact ⟨c, rfl, (Option.some.inj hp).symm⟩
        have hcP : c ∈ prt ps row := List.mem_of_getElem? hc
        have hcl := (prt_small hsm row).1 c hcP
        have next : ∀ ts' : MM, (∀ x ∈ ts.map (·.1), x ∈ ts'.map (·.1)) → c ∈ ts'.map (·.1) → ∀ x ∈ (prt ps row).take (p + 1), x ∈ ts'.map (·.1) := fun ts' h1 h2 x hx => by
          rw [List.take_add_one, hc] at hx
          rcases List.mem_append.mp hx with hx | hx
          · exact h1 x (hpart x hx)
          · rw [List.mem_singleton.mp hx]
            exact h2
        refine ⟨_, rfl, .ref d, rfl, d, _, rfl, get_dI ed5 rfl, _, rfl, ?_⟩
        cases elk : lk ts c with
        | some r0 => exact iteF ⟨ts, qs, _, rfl, S5, ele5, ed5, el5, hB, hdone, hlt, hrow, next ts (fun x hx => hx) (lk_key elk)⟩
        | none =>
          refine iteT ⟨_, rfl, .ref d, rfl, _, rfl, d, _, rfl, DPut.k (k := .inl c) ed5 (sizeN (by rw [dI_len]; omega)), ?_⟩
          rw [put_dI, put_new_m elk]
          have S6 : Same H (upd H5 d (.dK (dI (ts ++ [(c, row)])))) := same_put nd S5
          have ed6 : (upd H5 d (.dK (dI (ts ++ [(c, row)])))) d = some (.dK (dI (ts ++ [(c, row)]))) := upd_same
          have el6 : (upd H5 d (.dK (dI (ts ++ [(c, row)])))) l = some (.lst (qs.map V.int)) := by rw [upd_ne (Ne.symm hdl)]; exact el5
          have ele6 : (upd H5 d (.dK (dI (ts ++ [(c, row)])))) le = some (.lst []) := by rw [upd_ne hled]; exact ele5
          generalize upd H5 d (.dK (dI (ts ++ [(c, row)]))) = H6 at S6 ed6 el6 ele6 ⊢
          have hnd : ((ts ++ [(c, row)]).map (·.1)).Nodup := by
            rw [List.map_append]
            exact nodup_push hB.nd (lk_none elk)
          have found : (∀ r, lk o c = some r → r ∉ W) → ∀ (Hx : Hp), Same H6 Hx → ∀ (l' : Addr) (ks : Tups) (t : Int) (q : MM), H6 l' = none → Hx l' = some (.lst (refs ks)) → TupsAt K Hx ks → keys ks = steps2 ((t, c) :: q) → Way (prt ps) m start ((t, c) :: q) → Q (.ref l') Hx := fun out Hx sx l' ks t q nl' e1 e2 e3 hw =>
            k2 Hx l' ks (t, c) q (S6.trans sx) (none_back S6 nl') e1 e2 e3 ⟨hMt, hO, hon, hw, out⟩
          have call : (∀ r, lk o c = some r → r ∉ W) → spTraced K [.ref dm, .ref d, .int c] H6 Q E0 := fun out =>
            ⟨dm, d, m, ts ++ [(c, row)], prt ps, start, c, rfl, S6 _ _ hm, ed6, tk_push hB hO hrow hcP, hnd, hfree, by simp, by rw [List.length_append]; show ts.length + 1 ≤ 2000; omega,
              fun Hx l' ks t q sx nl' e1 e2 e3 hw => found out Hx sx l' ks t q nl' e1 e2 e3 hw⟩
          refine ⟨.ref do', rfl, do', rfl, isD_of (S6 _ _ ho), _, rfl, _, get_dI (S6 _ _ ho) rfl, .ref ds, rfl, ?_⟩
          cases eo : lk o c with
          | none =>
            refine .inr ⟨ds, _, rfl, rfl, .inl (S6 _ _ hW), _, rfl, iteT ?_⟩
            exact ⟨.ref dm, rfl, .ref d, rfl, _, rfl, call fun r e => by rw [eo] at e; cases e⟩
          | some r =>
            refine .inl ⟨ds, _, rfl, DGet.k (k := .inl r) (S6 _ _ hW), _, rfl, ?_⟩
            rw [val_dW]
            by_cases hrW : r ∈ W
            · rw [decide_eq_true hrW]
              refine iteF ⟨.ref l, rfl, .inl ⟨rfl, _, .inl (.inl el6)⟩, .ref do', rfl, _, rfl, do', .int r, rfl, get_dI1 (S6 _ _ ho) eo, l, _, _, rfl, rfl, el6, sizeN (by rw [List.length_map]; omega), ?_⟩
              refine ⟨ts ++ [(c, row)], qs ++ [r], _, rfl, same_put nl0 S6, by rw [upd_ne hlel]; exact ele6, by rw [upd_ne hdl]; exact ed6, by rw [upd_same, map_push], hB.push hO hrow hcP hcl elk eo hrW, fun i hi row' hi' x hx => ?_, by rw [List.length_append]; omega, ?_, next _ (fun x hx => by rw [List.map_append]; exact List.mem_append_left _ hx) (by simp)⟩
              · rw [List.getElem?_append_left (by omega)] at hi'
                rw [List.map_append]
                exact List.mem_append_left _ (hdone i hi row' hi' x hx)
              · rw [List.getElem?_append_left hlt]
                exact hrow
            · rw [decide_eq_false hrW]
              refine iteT ⟨.ref dm, rfl, .ref d, rfl, _, rfl, call fun r' e => ?_⟩
              rw [eo] at e
              rw [← Option.some.inj e]
              exact hrW
      · rintro σ H5 ⟨ts, qs, z9, rfl, S5, ele5, ed5, el5, hB, hdone, hlt, hrow, hpart⟩
        rw [List.length_map, List.take_length] at hpart
        obtain ⟨hts, hqs⟩ := hB.len
        refine ⟨_, rfl, _, _, rfl, rfl, μ - 1, by omega, n + 1, ts, qs, _, _, rfl, S5, ed5, el5, hB, fun i hi row' hi' => ?_, by omega, by omega⟩
        by_cases hin : i = n
        · rw [hin, hrow] at hi'
          rw [← Option.some.inj hi']
          exact hpart
        · exact hdone i (by omega) row' hi'

theorem ok__with_more (T : Txt P K mg a) : FnOk P w K mg base CX0 3 a.f__with_more a.fd__with_more ["partners_of", "wanted", "mates"] (spMore K) := by
  refine T.F__with_more.ok sc__with_more (fun vs H Q E h => ?_) (fun cdv A outer s H vs Q E hr h => ?_)
  · obtain ⟨pd, wl, dm, ps, W, m0, rfl, _⟩ := h
    rfl
  · obtain ⟨pd, wl, dm, ps, W, m0, rfl, hP, hsm, hWl, hWn, hWz, hm, hMt, hmz, k⟩ := h
    have hu1 : (A.deeper (envOfC "_with_more" (defScope s__with_more) s.heap.objs.size a.f__with_more cdv)).units + 1 < cLine := by
      have := hr.un
      omega
    refine ⟨_, (pss_cons (ps_lock (ps_set (i := 4) sc__with_more.nd rfl (.inr rfl) (pe_dc (g := gName 3) (tt := tYes) (own := [("row", 3)]) rfl sc__with_more.nd (pi_keys (pv 2)) (blkOk_by (own := [("row", 3)]) (N := ["partners_of", "wanted", "mates", "row", "grown", "owners", "stays", "steps", "taker", "column"]) (sc := defScope s__with_more) (by decide +kernel)) (fun _ _ _ _ _ => (pg_name (i := 3) sc__with_more.nd rfl (.inl rfl))) (fun _ _ _ _ _ => pts_nil) (fun _ _ _ _ _ => (pv 3)) (fun _ _ _ _ _ => (pe_dget hu1 (pv 2) (pv 3) (fun _ _ => rfl))))))
      (pss_cons (ps_lock (ps_setDc (i := 5) rfl sc__with_more.nd rfl rfl (sw_trueD rfl rfl rfl (by decide +kernel)) (g := gName 3) (tt := tYes) (own := [("row", 3)]) (pi_keys (pv 4)) (blkOk_by (own := [("row", 3)]) (N := ["partners_of", "wanted", "mates", "row", "grown", "owners", "stays", "steps", "taker", "column"]) (sc := defScope s__with_more) (by decide +kernel)) (fun _ _ _ _ _ => (pg_name (i := 3) sc__with_more.nd rfl (.inl rfl))) (fun _ _ _ _ _ => pts_nil) (fun _ _ _ _ _ => (pe_dget hu1 (pv 4) (pv 3) (fun _ _ => rfl))) (fun _ _ _ _ _ => (pv 3))))
      (pss_cons (ps_setDc (i := 6) rfl sc__with_more.nd rfl rfl (sw_trueD rfl rfl rfl (by decide +kernel)) (g := gName 3) (tt := tYes) (own := [("row", 3)]) (pi_list (pv 1)) (blkOk_by (own := [("row", 3)]) (N := ["partners_of", "wanted", "mates", "row", "grown", "owners", "stays", "steps", "taker", "column"]) (sc := defScope s__with_more) (by decide +kernel)) (fun _ _ _ _ _ => (pg_name (i := 3) sc__with_more.nd rfl (.inl rfl))) (fun _ _ _ _ _ => pts_nil) (fun _ _ _ _ _ => (pv 3)) (fun _ _ _ _ _ => pe_bl))
      (pss_cons (ps_for PassesOwn.never rfl (pi_list (pv 1)) (pg_name (i := 3) sc__with_more.nd rfl (.inl rfl)) (C8.pss_cut (ps_set (i := 7) sc__with_more.nd rfl (.inl rfl) (pe_ifExp (pt_cmp (pc_din hu1 (pv 3) (pv 4))) (pe_lstM pa_nil) (pe_call (ok__steps_to_more T) (hr.mono (by decide)) (by rfl) T.m__steps_to_more T.F__steps_to_more.kp T.b__steps_to_more .nil pass0 (pa_cons (pv 0) (pa_cons (pv 4) (pa_cons (pv 5) (pa_cons (pv 6) (pa_cons (pv 3) pa_nil))))))))
      (C8.pss_cut (ps_if (pt_truth (pv 7) (by intro _; rfl)) (pss_one (ps_expr (pe_dpopN (pv 4) (pe_dget1 hu1 (pv 5) (pe_ix ix_seq (pe_ix ix_seq (pv 7) pe_int (fun _ _ => rfl)) pe_int (fun _ _ => rfl)) ⟨rfl, rfl, rfl, rfl⟩) pe_non ⟨rfl, rfl, rfl, rfl⟩))) pss_nil)
      (pss_one (ps_for PassesOwn.never rfl (pi_list (pv 7)) (pg_tup rfl (pgs_cons (pg_name (i := 8) sc__with_more.nd rfl (.inl rfl)) (pgs_cons (pg_name (i := 9) sc__with_more.nd rfl (.inl rfl)) pgs_nil))) (pss_cons (ps_dput hu1 (pv 4) (pv 8) (pv 9) rfl)
      (pss_one (ps_dput hu1 (pv 5) (pv 9) (pv 8) rfl))))))))
      (pss_one (ps_ret (pv 4))))))), ?_⟩
    -- grown
    refine ⟨dm, _, hm, trivial, fun od => ?_⟩
    have edm : (upd H dm (.frz od (.dK (dI m0)))) dm = some (.frz od (.dK (dI m0))) := upd_same
    refine ⟨.ref dm, rfl, dm, od, rfl, .inl ⟨_, edm, fun dg nDg => dc_it walk_keys (fun i H2 => Same (upd H dm (.frz od (.dK (dI m0)))) H2 ∧ H2 dg = some (.dK (dI (m0.take i)))) ⟨same_new nDg, upd_same⟩ (fun i H2 _ ⟨s2, _⟩ => s2 _ _ edm) ?_ ?_⟩⟩
    · rintro i v H2 H3 hi ⟨S2, e2⟩ ⟨rfl, kk, vv, hkv, rfl⟩
      obtain ⟨r, c, hrc, rfl, rfl⟩ : ∃ r c, m0[i]? = some (r, c) ∧ kk = .inl r ∧ vv = .int c := by
        unfold dI at hkv
        rw [List.getElem?_map] at hkv
        cases e : m0[i]? with
        | none => rw [e] at hkv; cases hkv
        | some z =>
          rw [e] at hkv
          have := Option.some.inj hkv
          injection this with h1 h2
          exact ⟨z.1, z.2, rfl, h1.symm, h2.symm⟩
      have el := lk_mem hMt.nd (List.mem_of_getElem? hrc)
      refine ⟨rfl, ?_⟩
      refine ⟨_, rfl, .ref dm, rfl, _, rfl, dm, .int c, rfl, ?_, dI (m0.take i), .inl r, rfl, e2, sizeN ?_, same_put nDg S2, ?_⟩
      · exact .inl ⟨_, .inl r, .inr ⟨od, S2 _ _ edm⟩, rfl, by rw [val_dI, el]; rfl⟩
      · rw [dI_len, List.length_take]
        omega
      · rw [upd_same, put_dI, take_put hMt.nd hrc]
    rintro H2 ⟨S2, e2⟩
    rw [dI_len, List.take_length] at e2
    obtain ⟨ndg, hdgm⟩ := new_lock nDg
    refine ⟨S2 _ _ edm, ?_⟩
    have S3 : Same H (upd H2 dm (.dK (dI m0))) := same_unlock hm S2
    have eg3 : (upd H2 dm (.dK (dI m0))) dg = some (.dK (dI m0)) := by rw [upd_ne hdgm]; exact e2
    generalize upd H2 dm (.dK (dI m0)) = H3 at S3 eg3 ⊢
    -- owners
    refine ⟨dg, _, eg3, trivial, fun og => ?_⟩
    have edg : (upd H3 dg (.frz og (.dK (dI m0)))) dg = some (.frz og (.dK (dI m0))) := upd_same
    refine ⟨.ref dg, rfl, dg, og, rfl, .inl ⟨_, edg, fun do' nDo => dc_it walk_keys (fun i H4 => Same (upd H3 dg (.frz og (.dK (dI m0)))) H4 ∧ H4 do' = some (.dK (dI (swp (m0.take i))))) ⟨same_new nDo, upd_same⟩ (fun i H4 _ ⟨s4, _⟩ => s4 _ _ edg) ?_ ?_⟩⟩
    · rintro i v H4 H5 hi ⟨S4, e4⟩ ⟨rfl, kk, vv, hkv, rfl⟩
      obtain ⟨r, c, hrc, rfl, rfl⟩ : ∃ r c, m0[i]? = some (r, c) ∧ kk = .inl r ∧ vv = .int c := by
        unfold dI at hkv
        rw [List.getElem?_map] at hkv
        cases e : m0[i]? with
        | none => rw [e] at hkv; cases hkv
        | some z =>
          rw [e] at hkv
          have := Option.some.inj hkv
          injection this with h1 h2
          exact ⟨z.1, z.2, rfl, h1.symm, h2.symm⟩
      have el := lk_mem hMt.nd (List.mem_of_getElem? hrc)
      have hsw : (swp m0)[i]? = some (c, r) := by unfold swp; rw [List.getElem?_map, hrc]; rfl
      have tk : ∀ j, swp (m0.take j) = (swp m0).take j := fun j => by unfold swp; rw [List.map_take]
      refine ⟨rfl, ?_⟩
      refine ⟨.ref dg, rfl, _, rfl, dg, .int c, rfl, ?_, _, rfl, dI (swp (m0.take i)), .inl c, rfl, e4, sizeN ?_, same_put nDo S4, ?_⟩
      · exact .inl ⟨_, .inl r, .inr ⟨og, S4 _ _ edg⟩, rfl, by rw [val_dI, el]; rfl⟩
      · rw [dI_len, tk, List.length_take]
        unfold swp
        rw [List.length_map]
        omega
      · rw [upd_same, show kV (Sum.inl r) = V.int r from rfl, put_dI, tk, take_put (by rw [swp_keys]; exact hMt.cn) hsw, tk]
    rintro H4 ⟨S4, e4⟩
    rw [dI_len, List.take_length] at e4
    obtain ⟨ndo3, hdog⟩ := new_lock nDo
    refine ⟨S4 _ _ edg, ?_⟩
    have S5' : Same H3 (upd H4 dg (.dK (dI m0))) := same_unlock eg3 S4
    have eo5 : (upd H4 dg (.dK (dI m0))) do' = some (.dK (dI (swp m0))) := by rw [upd_ne hdog]; exact e4
    have ndo : H do' = none := none_back S3 ndo3
    generalize upd H4 dg (.dK (dI m0)) = H5 at S5' eo5 ⊢
    have S5 := S3.trans S5'
    have eg5 := S5' _ _ eg3
    -- stays
    refine ⟨.ref wl, rfl, wl, rfl, ⟨_, S5.seq hWl⟩, fun ds nDs => dc_it (walk_list (xs := W.map V.int)) (fun i H6 => Same H5 H6 ∧ H6 ds = some (.dK (dW (W.take i)))) ⟨same_new nDs, upd_same⟩ (fun i H6 _ ⟨s6, _⟩ => (S5.trans s6).seq hWl) ?_ ?_⟩
    · rintro i v H6 H7 hi ⟨S6, e6⟩ ⟨rfl, hv⟩
      obtain ⟨r, hr', rfl⟩ := map_at hv
      refine ⟨rfl, ?_⟩
      refine ⟨_, rfl, dW (W.take i), .inl r, rfl, e6, sizeN ?_, same_put nDs S6, ?_⟩
      · unfold dW
        rw [List.length_map, List.length_take]
        omega
      · have e : W.take (i + 1) = W.take i ++ [r] := by rw [List.take_add_one, hr']; rfl
        have n1 : (W.take (i + 1)).Nodup := List.Nodup.sublist (List.take_sublist _ _) hWn
        rw [e, List.nodup_append] at n1
        rw [upd_same, putK_new (k := (.inl r : Key)) (V.bl true) (by
          have z := val_dW (W.take i) r
          rw [decide_eq_false (fun hm => n1.2.2 r hm r (by simp) rfl)] at z
          cases ez : valV (dW (W.take i)) (.inl r) with
          | none => rfl
          | some x => rw [ez] at z; cases z), e]
        unfold dW
        rw [List.map_append]
        rfl
    rintro H6 ⟨S6', e6⟩
    rw [List.length_map, List.take_length] at e6
    have S6 := S5.trans S6'
    have eg6 := S6' _ _ eg5
    have eo6 := S6' _ _ eo5
    have nds : H ds = none := none_back S5 nDs
    have hne1 : dg ≠ do' := fun e => by rw [e] at eg3; rw [eg3] at ndo3; cases ndo3
    have hne2 : ds ≠ dg := fun e => by rw [e] at nDs; rw [nDs] at eg5; cases eg5
    have hne3 : ds ≠ do' := fun e => by rw [e] at nDs; rw [nDs] at eo5; cases eo5
    -- all wanted rows
    refine ⟨.ref wl, rfl, wl, rfl, ⟨_, S6.seq hWl⟩, for_list (K := K) (a := wl) (xs := W.map V.int) (fun i σ H7 => ∃ (g o : MM) (Z : List Int) (z3 z7 z8 z9 : Option V), σ = [some (.ref pd), some (.ref wl), some (.ref dm), z3, some (.ref dg), some (.ref do'), some (.ref ds), z7, z8, z9] ∧ Same H H7 ∧ H7 dg = some (.dK (dI g)) ∧ H7 do' = some (.dK (dI o)) ∧ H7 ds = some (.dK (dW W)) ∧
        More (prt ps) W m0 g ∧ Own g o ∧ (o.map (·.1)).Nodup ∧ Shut (prt ps) g Z ∧ (∀ z ∈ Z, z ∈ W) ∧ ∀ r ∈ W.take i, lk g r = none → r ∈ Z)
      ⟨m0, swp m0, [], _, _, _, _, rfl, S6, eg6, eo6, e6, ⟨hMt, fun r c e => ⟨r, e⟩, fun r c _ e => ⟨c, e⟩, fun r c e => .inr ⟨c, e⟩⟩, own_swp hMt, by rw [swp_keys]; exact hMt.cn, (fun z hz => by cases hz), (fun z hz => by cases hz), fun r hr' => by cases hr'⟩ (fun i σ H7 _ ⟨_, _, _, _, _, _, _, _, S7, _⟩ => S7.seq hWl) ?_ ?_⟩
    · rintro i v σ H7 hi ⟨g, o, Z, z3, z7, z8, z9, rfl, S7, eg7, eo7, es7, hM, hO, hon, hZ, hZW, hZF⟩
      obtain ⟨row, hrow, rfl⟩ := map_at hi
      have hrW : row ∈ W := List.mem_of_getElem? hrow
      have hgl := mt_len hM.mt hM.only
      have hol := own_len hon hO
      have hx : ∀ r, r ∈ W.take (i + 1) → r ∈ W.take i ∨ r = row := fun r hr' => by
        rw [List.take_add_one, hrow] at hr'
        rcases List.mem_append.mp hr' with h | h
        · exact .inl h
        · exact .inr (List.mem_singleton.mp h)
      refine ⟨fun σ H8 => ∃ (ls : Addr) (ks : Tups) (path : MM), σ = [some (.ref pd), some (.ref wl), some (.ref dm), some (.int row), some (.ref dg), some (.ref do'), some (.ref ds), some (.ref ls), z8, z9] ∧ Same H7 H8 ∧ H7 ls = none ∧ H8 ls = some (.lst (refs ks)) ∧ TupsAt K H8 ks ∧ keys ks = steps2 path ∧
          ((path = [] ∧ ((∃ c, lk g row = some c) ∨ ∃ R, Shut (prt ps) g R ∧ row ∈ R ∧ ∀ z ∈ R, z ∈ W)) ∨ ∃ x p, path = x :: p ∧ Step (prt ps) W g o row x p), ?_, ?_⟩
      · refine ⟨_, rfl, .ref dg, rfl, dg, _, rfl, get_dI eg7 rfl, _, rfl, ?_⟩
        cases el : lk g row with
        | some c => exact iteT ⟨Nat.zero_le _, fun ls H8 s8 n8 e8 => ⟨ls, [], [], rfl, s8, n8, e8, (fun p hp => by cases hp), rfl, .inl ⟨rfl, .inl ⟨c, rfl⟩⟩⟩⟩
        | none =>
          refine iteF ⟨.ref pd, rfl, .ref dg, rfl, .ref do', rfl, .ref ds, rfl, _, rfl, pd, dg, do', ds, ps, g, o, W, row, rfl, prtAt_up S7 hP, hsm, eg7, eo7, es7, hM.mt, hO, hon, el, hrW, fun H8 ls R s8 n8 e8 h1 h2 h3 => ?_, fun H8 ls ks x p s8 n8 e8 h1 h2 h3 => ?_⟩
          · exact ⟨ls, [], [], rfl, s8, n8, e8, (fun p hp => by cases hp), rfl, .inl ⟨rfl, .inr ⟨R, h1, h2, h3⟩⟩⟩
          · exact ⟨ls, ks, x :: p, rfl, s8, n8, e8, h1, h2, .inr ⟨x, p, rfl, h3⟩⟩
      rintro σ H8 ⟨ls, ks, path, rfl, s8, nls, els, tks, ekp, hpath⟩
      have S8 := S7.trans s8
      have hkl : ks.length = path.length := by rw [← keys_len, ekp]; unfold steps2; rw [List.length_map]
      have hplen : path.length ≤ 2001 := by
        rcases hpath with ⟨e, _⟩ | ⟨x, p, e, hs⟩
        · rw [e]; exact Nat.zero_le _
        · rw [e]
          have := len_le_of_sub hs.way.tn (m := row :: g.map (·.1)) fun t ht => by
            obtain ⟨y, hy, rfl⟩ := List.mem_map.mp ht
            rcases ch_next hs.way.ch hs.way.last y hy with h | ⟨_, _, h⟩
            · rw [h]; exact List.mem_cons_self
            · exact List.mem_cons_of_mem _ (lk_key h)
          simp only [List.length_map, List.length_cons] at this ⊢
          omega
      have ndl : ls ≠ dg := fun e => by rw [e, eg7] at nls; cases nls
      have ndl2 : ls ≠ do' := fun e => by rw [e, eo7] at nls; cases nls
      have ndl3 : ls ≠ ds := fun e => by rw [e, es7] at nls; cases nls
      have hcl : (cutM g o path).length ≤ g.length := by
        match path with
        | [] => exact Nat.le_refl _
        | x :: p =>
          show (match lk o x.2 with | some r => dropI g r | none => g).length ≤ _
          split
          · exact List.length_filter_le _ _
          · exact Nat.le_refl _
      refine ⟨fun σ H9 => σ = [some (.ref pd), some (.ref wl), some (.ref dm), some (.int row), some (.ref dg), some (.ref do'), some (.ref ds), some (.ref ls), z8, z9] ∧ Same H H9 ∧ H9 dg = some (.dK (dI (cutM g o path))) ∧ H9 do' = some (.dK (dI o)) ∧ H9 ds = some (.dK (dW W)) ∧ H9 ls = some (.lst (refs ks)) ∧ TupsAt K H9 ks, ?_, ?_⟩
      · have hke : (!path.isEmpty) = !(refs ks).isEmpty := by
          cases path with
          | nil =>
            have : ks = [] := List.length_eq_zero_iff.mp hkl
            rw [this]
            rfl
          | cons x p =>
            cases ks with
            | nil => cases hkl
            | cons q kr => rfl
        refine ⟨_, rfl, !path.isEmpty, .inl ⟨_, .inl (.inl els), hke⟩, ?_⟩
        cases hpk : path with
        | nil =>
          have hk0 : ks = [] := by
            rw [hpk] at hkl
            exact List.length_eq_zero_iff.mp hkl
          rw [hk0]
          refine iteF ⟨rfl, S8, s8 _ _ eg7, s8 _ _ eo7, s8 _ _ es7, by rw [els, hk0], fun p hp => by cases hp⟩
        | cons x p =>
          obtain ⟨q, kr, hkr⟩ : ∃ q kr, ks = q :: kr := by
            cases ks with
            | nil => rw [hpk] at hkl; cases hkl
            | cons q kr => exact ⟨q, kr, rfl⟩
          have hq2 : q.2 = [x.1, x.2] := by
            rw [hkr, hpk] at ekp
            unfold keys steps2 at ekp
            rw [List.map_cons, List.map_cons] at ekp
            injection ekp
          have hq := tks q (by rw [hkr]; exact List.mem_cons_self)
          rw [hq2] at hq
          refine iteT ?_
          refine ⟨.ref dg, rfl, dg, rfl, isD_of (s8 _ _ eg7), .ref do', rfl, do', rfl, isD_of (s8 _ _ eo7), .ref ls, rfl, .inl ⟨ls, _, _, .ref q.1, rfl, rfl, .inl (.inl els), (by rw [hkr]; exact (atI_nat (show (refs (q :: kr))[0]? = some (V.ref q.1) from rfl))), .inr (.inl ⟨q.1, _, 1, .int x.2, rfl, rfl, hq, rfl, ?_⟩)⟩⟩
          refine ⟨_, get_dI (s8 _ _ eo7) rfl, dI g, s8 _ _ eg7, ?_⟩
          cases eo : lk o x.2 with
          | none =>
            have ec : cutM g o (x :: p) = g := by show (match lk o x.2 with | some r => dropI g r | none => g) = g; rw [eo]
            rw [ec]
            exact .inl ⟨rfl, rfl, S8, s8 _ _ eg7, s8 _ _ eo7, s8 _ _ es7, els, tks⟩
          | some r =>
            have ec : cutM g o (x :: p) = dropI g r := by show (match lk o x.2 with | some r => dropI g r | none => g) = _; rw [eo]
            rw [ec]
            have er := (hO r x.2).mp eo
            have eg8 := s8 _ _ eg7
            refine .inr ⟨.inl r, rfl, fun v' hv' => ⟨rfl, same_put ndg S8, by rw [upd_same, drop_dI], by rw [upd_ne (Ne.symm hne1)]; exact s8 _ _ eo7, by rw [upd_ne hne2]; exact s8 _ _ es7, by rw [upd_ne ndl]; exact els, fun p' hp' => sqT_dk eg8 (tks p' hp')⟩, fun hv' => ?_⟩
            rw [val_dI, er] at hv'
            cases hv'
      rintro σ H9 ⟨rfl, S9, eg9, eo9, es9, els9, tks9⟩
      refine ⟨.ref ls, rfl, ls, rfl, ⟨_, .inl (.inl els9)⟩, for_list (K := K) (a := ls) (xs := refs ks) (fun j σ H10 => ∃ z8 z9 : Option V, σ = [some (.ref pd), some (.ref wl), some (.ref dm), some (.int row), some (.ref dg), some (.ref do'), some (.ref ds), some (.ref ls), z8, z9] ∧ Same H H10 ∧ H10 dg = some (.dK (dI (appI (cutM g o path) (path.take j)))) ∧ H10 do' = some (.dK (dI (appI o (swp (path.take j))))) ∧ H10 ds = some (.dK (dW W)) ∧ H10 ls = some (.lst (refs ks)) ∧ TupsAt K H10 ks)
        ⟨_, _, rfl, S9, eg9, eo9, es9, els9, tks9⟩ (fun j σ H10 _ ⟨_, _, _, _, _, _, _, e, _⟩ => .inl (.inl e)) ?_ ?_⟩
      · rintro j y σ H10 hj ⟨z8', z9', rfl, S10, eg10, eo10, es10, els10, tks10⟩
        obtain ⟨q, hq, rfl⟩ : ∃ q, ks[j]? = some q ∧ y = V.ref q.1 := by
          unfold refs at hj
          rw [List.getElem?_map] at hj
          cases e : ks[j]? with
          | none => rw [e] at hj; cases hj
          | some q => rw [e] at hj; exact ⟨q, rfl, (Option.some.inj hj).symm⟩
        obtain ⟨x, hxj, hq2⟩ : ∃ x, path[j]? = some x ∧ q.2 = [x.1, x.2] := by
          have e1 : (keys ks)[j]? = some q.2 := by unfold keys; rw [List.getElem?_map, hq]; rfl
          rw [ekp] at e1
          unfold steps2 at e1
          rw [List.getElem?_map] at e1
          cases e : path[j]? with
          | none => rw [e] at e1; cases e1
          | some x => rw [e] at e1; exact ⟨x, rfl, (Option.some.inj e1).symm⟩
        have hqt := tks10 q (List.mem_of_getElem? hq)
        rw [hq2] at hqt
        have e1 : path.take (j + 1) = path.take j ++ [x] := by rw [List.take_add_one, hxj]; rfl
        have l1 := appI_len (path.take j) (cutM g o path)
        have l2 := appI_len (swp (path.take j)) o
        have l3 : (path.take j).length ≤ 2001 := by rw [List.length_take]; omega
        have l4 : (swp (path.take j)).length = (path.take j).length := by unfold swp; rw [List.length_map]
        refine ⟨q.1, _, rfl, hqt, rfl, _, _, rfl, _, _, rfl, rfl, ?_⟩
        refine ⟨_, rfl, .ref dg, rfl, _, rfl, dg, _, rfl, DPut.k (k := .inl x.1) eg10 (sizeN (by rw [dI_len]; omega)), ?_⟩
        rw [put_dI]
        have S11 : Same H (upd H10 dg (.dK (dI (putI (appI (cutM g o path) (path.take j)) x.1 x.2)))) := same_put ndg S10
        have eg11 : (upd H10 dg (.dK (dI (putI (appI (cutM g o path) (path.take j)) x.1 x.2)))) dg = some (.dK (dI (appI (cutM g o path) (path.take (j + 1))))) := by rw [upd_same, e1, app_push]
        have eo11 : (upd H10 dg (.dK (dI (putI (appI (cutM g o path) (path.take j)) x.1 x.2)))) do' = some (.dK (dI (appI o (swp (path.take j))))) := by rw [upd_ne (Ne.symm hne1)]; exact eo10
        have es11 : (upd H10 dg (.dK (dI (putI (appI (cutM g o path) (path.take j)) x.1 x.2)))) ds = some (.dK (dW W)) := by rw [upd_ne hne2]; exact es10
        have els11 : (upd H10 dg (.dK (dI (putI (appI (cutM g o path) (path.take j)) x.1 x.2)))) ls = some (.lst (refs ks)) := by rw [upd_ne ndl]; exact els10
        have tks11 : TupsAt K (upd H10 dg (.dK (dI (putI (appI (cutM g o path) (path.take j)) x.1 x.2)))) ks := fun p hp => sqT_dk eg10 (tks10 p hp)
        generalize upd H10 dg (.dK (dI (putI (appI (cutM g o path) (path.take j)) x.1 x.2))) = H11 at S11 eg11 eo11 es11 els11 tks11 ⊢
        refine ⟨_, rfl, .ref do', rfl, _, rfl, do', _, rfl, DPut.k (k := .inl x.2) eo11 (sizeN (by rw [dI_len]; omega)), ?_⟩
        rw [put_dI]
        refine ⟨_, _, rfl, same_put ndo S11, by rw [upd_ne hne1]; exact eg11, ?_, by rw [upd_ne hne3]; exact es11, by rw [upd_ne ndl2]; exact els11, fun p hp => sqT_dk eo11 (tks11 p hp)⟩
        rw [upd_same, e1]
        unfold swp
        rw [List.map_append]
        exact congrArg (fun z => some (HO.dK (dI z))) (app_push _ _ (x.2, x.1)).symm
      · rintro σ H10 ⟨z8', z9', rfl, S10, eg10, eo10, es10, els10, tks10⟩
        rw [List.take_of_length_le (by rw [refs_len]; omega)] at eg10 eo10
        rcases hpath with ⟨rfl, hp⟩ | ⟨x, p, rfl, hs⟩
        · have eg' : H10 dg = some (.dK (dI g)) := eg10
          have eo' : H10 do' = some (.dK (dI o)) := eo10
          rcases hp with ⟨c, hc⟩ | ⟨R, hR1, hR2, hR3⟩
          · refine ⟨g, o, Z, _, _, _, _, rfl, S10, eg', eo', es10, hM, hO, hon, hZ, hZW, fun r hr' e => ?_⟩
            rcases hx r hr' with h | rfl
            · exact hZF r h e
            · rw [hc] at e
              cases e
          · refine ⟨g, o, Z ++ R, _, _, _, _, rfl, S10, eg', eo', es10, hM, hO, hon, fun z hz c hc => ?_, fun z hz => ?_, fun r hr' e => ?_⟩
            · rcases List.mem_append.mp hz with hz | hz
              · obtain ⟨z', h1, h2⟩ := hZ z hz c hc
                exact ⟨z', List.mem_append_left _ h1, h2⟩
              · obtain ⟨z', h1, h2⟩ := hR1 z hz c hc
                exact ⟨z', List.mem_append_right _ h1, h2⟩
            · rcases List.mem_append.mp hz with hz | hz
              · exact hZW z hz
              · exact hR3 z hz
            · rcases hx r hr' with h | rfl
              · exact List.mem_append_left _ (hZF r h e)
              · exact List.mem_append_right _ hR2
        · refine ⟨_, _, Z, _, _, _, _, rfl, S10, eg10, eo10, es10, ⟨hs.mt', fun r c e => ?_, fun r c hr' e => ?_, fun r c e => ?_⟩, hs.own', app_nodup _ hon, hs.shut hZ hZW, hZW, fun r hr' e => ?_⟩
          · obtain ⟨r', h1⟩ := hM.cols r c e
            exact hs.cols h1
          · obtain ⟨c', h1⟩ := hM.rows r c hr' e
            exact hs.rows hr' h1
          · rcases hs.only e with h | ⟨c', h⟩
            · rw [h]; exact .inl hrW
            · exact hM.only r c' h
          · rcases hx r hr' with h | rfl
            · cases eg : lk g r with
              | none => exact hZF r h eg
              | some c =>
                obtain ⟨c', h1⟩ := hs.rows (List.mem_of_mem_take h) eg
                rw [h1] at e
                cases e
            · obtain ⟨c', h1⟩ := hs.start'
              rw [h1] at e
              cases e
    · rintro σ H7 ⟨g, o, Z, z3, z7, z8, z9, rfl, S7, eg7, eo7, es7, hM, hO, hon, hZ, hZW, hZF⟩
      rw [List.length_map, List.take_length] at hZF
      exact ⟨.ref dg, rfl, k H7 dg g Z S7 ndg eg7 hM hZ hZW hZF⟩

theorem ok__mates_of (T : Txt P K mg a) : FnOk P w K mg base CX0 4 a.f__mates_of a.fd__mates_of ["table", "rows"] (spMatesZ K) := by
  refine T.F__mates_of.ok sc__mates_of (fun vs H Q E h => ?_) (fun cdv A outer s H vs Q E hr h => ?_)
  · obtain ⟨t, rl, tb, W, rfl, _⟩ := h
    rfl
  · obtain ⟨t, rl, tb, W, rfl, hT, hok, hrl, hWn, hWr, k⟩ := h
    refine ⟨_, (pss_one (ps_ret (pe_call (ok__with_more T) (hr.mono (by decide)) (by rfl) T.m__with_more T.F__with_more.kp T.b__with_more .nil pass0 (pa_cons (pe_dc (g := gName 2) (tt := tYes) (own := [("row", 2)]) rfl sc__mates_of.nd (pi_list (pv 1)) (blkOk_by (own := [("row", 2)]) (N := ["table", "rows", "row"]) (sc := defScope s__mates_of) (by decide +kernel)) (fun _ _ _ _ _ => (pg_name (i := 2) sc__mates_of.nd rfl (.inl rfl))) (fun _ _ _ _ _ => pts_nil) (fun _ _ _ _ _ => (pv 2)) (fun _ _ _ _ _ => (pe_ix (ix_seqK (K := K)) (pv 0) (pv 2) (fun _ _ => rfl)))) (pa_cons (pv 1) (pa_cons pe_dnewK pa_nil)))))), ?_⟩
    have hkl := keys_len tb
    have hl := hok.len
    have hWz : W.length ≤ 1000 := below1000 hWn fun c hc => by have := hWr c hc; omega
    refine ⟨.ref rl, rfl, rl, rfl, ⟨_, hrl⟩, fun dp nDp => dc_it (walk_list (xs := W.map V.int)) (fun i H2 => Same H H2 ∧ H2 dp = some (.dK (shownK (psOf tb (W.take i))))) ⟨same_new nDp, upd_same⟩ (fun i H2 _ ⟨s2, _⟩ => s2.seq hrl) ?_ ?_⟩
    · rintro i v H2 H3 hi ⟨S2, e2⟩ ⟨rfl, hv⟩
      obtain ⟨r, hr', rfl⟩ := map_at hv
      obtain ⟨h0, h1⟩ := hWr r (List.mem_of_getElem? hr')
      obtain ⟨q, hq, hat, _, _⟩ := row_at (tabAt_up S2 hT) h0 h1
      have hqd : tb.getD r.toNat (0, []) = q := by rw [List.getD_eq_getElem?_getD, hq]; rfl
      refine ⟨rfl, ?_⟩
      refine ⟨_, rfl, .ref t, rfl, _, rfl, .inl ⟨t, _, _, _, rfl, rfl, (tabAt_up S2 hT).1, hat, shownK (psOf tb (W.take i)), .inl r, rfl, e2, sizeN ?_, same_put nDp S2, ?_⟩⟩
      · unfold shownK psOf
        rw [List.length_map, List.length_map, List.length_take]
        omega
      · have e : W.take (i + 1) = W.take i ++ [r] := by rw [List.take_add_one, hr']; rfl
        have n1 : (W.take (i + 1)).Nodup := List.Nodup.sublist (List.take_sublist _ _) hWn
        rw [e, List.nodup_append] at n1
        rw [upd_same, putK_new (k := (.inl r : Key)) (V.ref q.1) (by
          rw [val_shown]
          have : (psOf tb (W.take i)).find? (fun z => decide (z.1 = r)) = none := List.find?_eq_none.mpr fun z hz e' => by
            obtain ⟨r', hr1, rfl⟩ := List.mem_map.mp hz
            exact n1.2.2 r' hr1 r (by simp) (of_decide_eq_true e')
          rw [this]
          rfl), e]
        unfold psOf shownK
        rw [List.map_append, List.map_append]
        show _ = some (HO.dK (_ ++ [(Sum.inl r, V.ref (tb.getD r.toNat (0, [])).1)]))
        rw [hqd]
    rintro H2 ⟨S2, e2⟩
    rw [List.length_map, List.take_length] at e2
    refine ⟨.ref rl, rfl, fun d0 nd0 => ?_⟩
    have s3 : Same H2 (upd H2 d0 (.dK [])) := same_new nd0
    have ed0 : (upd H2 d0 (.dK [])) d0 = some (.dK (dI [])) := upd_same
    generalize upd H2 d0 (.dK []) = H3 at s3 ed0 ⊢
    have S3 := S2.trans s3
    have hrow : ∀ z ∈ psOf tb W, ∃ r ∈ W, ∃ q, tb[r.toNat]? = some q ∧ z = (r, q.1, q.2) := fun z hz => by
      obtain ⟨r, hr', rfl⟩ := List.mem_map.mp hz
      obtain ⟨h0, h1⟩ := hWr r hr'
      obtain ⟨q, hq, _⟩ := row_at hT h0 h1
      exact ⟨r, hr', q, hq, by rw [List.getD_eq_getElem?_getD, hq]; rfl⟩
    have hedge : ∀ r ∈ W, prt (psOf tb W) r = tP (keys tb) r := fun r hr' => prt_psOf hr' (hWr r hr').1
    refine ⟨dp, rl, d0, psOf tb W, W, [], rfl, ⟨s3 _ _ e2, fun z hz => ?_⟩, fun z hz => ?_, S3.seq hrl, hWn, hWz, ed0, ⟨List.nodup_nil, (fun k v e => by cases e), (fun k j v e => by cases e)⟩, Nat.zero_le _, fun H4 l g Z S4 nl el hM hZ hZW hF => ?_⟩
    · obtain ⟨r, _, q, hq, rfl⟩ := hrow z hz
      exact S3.seq (hT.2 q (List.mem_of_getElem? hq))
    · obtain ⟨r, _, q, hq, rfl⟩ := hrow z hz
      have hm : q.2 ∈ keys tb := List.mem_map_of_mem (f := fun z : Addr × List Int => z.2) (List.mem_of_getElem? hq)
      exact ⟨hok.lo _ hm, below1000 (hok.nd _ hm) (hok.lo _ hm)⟩
    · have only : ∀ r c, lk g r = some c → r ∈ W := fun r c e => by
        rcases hM.only r c e with h | ⟨c', h⟩
        · exact h
        · cases h
      refine k H4 l g Z (S3.trans S4) (none_back S3 nl) el ⟨hM.mt.nd, fun r c e => ?_, hM.mt.inj⟩ only (fun m' h' => ?_) (fun z hz c hc => hZ z hz c (by rw [hedge z (hZW z hz)]; exact hc)) hZW hF
      · rw [← hedge r (only r c e)]
        exact hM.mt.ed r c e
      · exact best2 hWn hM.mt hZ hZW hF h' fun r hr' c hc => by rw [hedge r hr']; exact hc

theorem ok_most (T : Txt P K mg a) : FnOk P w K mg base CX0 5 a.f_most a.fd_most ["table", "rows"] (spMost K) := by
  refine T.F_most.ok sc_most (fun vs H Q E h => ?_) (fun cdv A outer s H vs Q E hr h => ?_)
  · obtain ⟨t, rl, tb, W, rfl, _⟩ := h
    rfl
  · obtain ⟨t, rl, tb, W, rfl, hT, hok, hrl, hWn, hWr, k⟩ := h
    refine ⟨_, (pss_one (ps_ret (pe_callB call_lenD (by rfl) T.z_len (by decide +kernel) (pa_cons (pe_call (ok__mates_of T) (hr.mono (by decide)) (by rfl) T.m__mates_of T.F__mates_of.kp T.b__mates_of .nil pass0 (pa_cons (pv 0) (pa_cons (pv 1) pa_nil))) pa_nil)))), ?_⟩
    refine ⟨.ref t, rfl, .ref rl, rfl, t, rl, tb, W, rfl, hT, hok, hrl, hWn, hWr, fun H' l g Z S nl el hM ho hx _ _ _ => ⟨l, _, rfl, el, ?_⟩⟩
    rw [dI_len, ← filter_all hWn hM.nd ho]
    exact k H' g S hM ho hx

theorem ok__rows_by_column (T : Txt P K mg a) : FnOk P w K mg base CX0 1 a.f__rows_by_column a.fd__rows_by_column ["table"] (spByColA K) := by
  refine T.F__rows_by_column.ok sc__rows_by_column (fun vs H Q E h => ?_) (fun cdv A outer s H vs Q E hr h => ?_)
  · obtain ⟨t, tb, rfl, _⟩ := h
    rfl
  · obtain ⟨t, tb, rfl, hT, hok, k⟩ := h
    refine ⟨_, (pss_cons (ps_set (i := 1) sc__rows_by_column.nd rfl (.inl rfl) pe_dnewK)
      (pss_cons (ps_for PassesOwn.never rfl (pi_enum (by rfl) T.z_enumerate (pa_cons (pv 0) pa_nil)) (pg_tup rfl (pgs_cons (pg_name (i := 2) sc__rows_by_column.nd rfl (.inl rfl)) (pgs_cons (pg_name (i := 3) sc__rows_by_column.nd rfl (.inl rfl)) pgs_nil))) (pss_one (ps_for PassesOwn.never rfl (pi_list (pv 3)) (pg_name (i := 4) sc__rows_by_column.nd rfl (.inl rfl)) (pss_one (ps_expr (pe_bm PySem.F.plainAttrs_list PySem.F.slot_list_append PySem.F.type_list_append mt_append (pe_dsetd (pv 1) (pv 4) (pe_lstM pa_nil) ⟨rfl, rfl, rfl, rfl⟩) (pa_cons (pv 2) pa_nil)))))))
      (pss_one (ps_ret (pv 1))))), ?_⟩
    have hkl := keys_len tb
    have hlen := hok.len
    refine fun d nd => ?_
    have s1 : Same H (upd H d (.dK [])) := same_new nd
    have ed1 : (upd H d (.dK [])) d = some (.dK (shownK [])) := upd_same
    generalize upd H d (.dK []) = H1 at s1 ed1 ⊢
    refine ⟨.ref t, rfl, t, refs tb, rfl, (tabAt_up s1 hT).1, for_it (walk_enum (xs := refs tb)) (fun i σ H2 => ∃ (ps : Prts) (z2 z3 z4 : Option V), σ = [some (.ref t), some (.ref d), z2, z3, z4] ∧ Same H H2 ∧ RB K H H2 d ps (keys tb) i [] ∧ AscP ps)
      ⟨[], _, _, _, rfl, s1, ⟨ed1, (fun z hz => by cases hz), List.nodup_nil, List.nodup_nil, fun c r => ⟨fun h => (by cases h), fun h => ?_⟩, (fun z hz => by cases hz), fun z hz => by cases hz⟩, fun z hz => by cases hz⟩ (fun i σ H2 _ ⟨_, _, _, _, _, S2, _⟩ => (tabAt_up S2 hT).1) ?_ ?_⟩
    · rcases h with ⟨h1, h2, _⟩ | ⟨_, h⟩
      · omega
      · cases h
    · rintro i v σ H2 H3 hi ⟨ps, z2, z3, z4, rfl, S2, hB, hA⟩ ⟨Tp, x', y', rfl, nT, rfl, ex', ey'⟩
      obtain rfl : V.int (i : Int) = x' := Option.some.inj ex'
      obtain ⟨q, hq, rfl⟩ := refs_at ey'
      have hil := (List.getElem?_eq_some_iff.mp hq).1
      have s3 : Same H2 (upd H2 Tp (.tup [.int i, .ref q.1])) := same_new nT
      have tT : SqT K (upd H2 Tp (.tup [.int i, .ref q.1])) Tp [.int i, .ref q.1] := .inl (.inl upd_same)
      generalize upd H2 Tp (.tup [.int i, .ref q.1]) = H3 at s3 tT ⊢
      have S3 := S2.trans s3
      have hqm := List.mem_of_getElem? hq
      have hkm : q.2 ∈ keys tb := List.mem_map_of_mem (f := fun z : Addr × List Int => z.2) hqm
      have hrow : tP (keys tb) (i : Int) = q.2 := by
        unfold tP keys
        rw [if_pos (Int.natCast_nonneg i), Int.toNat_natCast, List.getElem?_map, hq]
        rfl
      refine ⟨Tp, _, rfl, tT, rfl, _, _, rfl, _, _, rfl, rfl, ?_⟩
      refine ⟨.ref q.1, rfl, q.1, rfl, ⟨_, S3.seq (hT.2 q hqm)⟩, for_list (K := K) (a := q.1) (xs := q.2.map V.int) (fun p σ H4 => ∃ (ps : Prts) (z4 : Option V), σ = [some (.ref t), some (.ref d), some (.int (i : Int)), some (.ref q.1), z4] ∧ Same H H4 ∧ RB K H H4 d ps (keys tb) i (q.2.take p) ∧ AscP ps)
        ⟨ps, _, rfl, S3, ⟨s3 _ _ hB.ed, fun z hz => ⟨s3 _ _ (hB.ls z hz).1, (hB.ls z hz).2⟩, hB.an, hB.kn, hB.mem, hB.nd, hB.kl⟩, hA⟩ (fun p σ H4 _ ⟨_, _, _, S4, _⟩ => S4.seq (hT.2 q hqm)) ?_ ?_⟩
      · rintro p v σ H4 hp ⟨ps, z4, rfl, S4, hB, hA⟩
        obtain ⟨c, hc, rfl⟩ := map_at hp
        have htk : q.2.take (p + 1) = q.2.take p ++ [c] := by rw [List.take_add_one, hc]; rfl
        have hcn : c ∉ q.2.take p := by
          have n1 : (q.2.take (p + 1)).Nodup := List.Nodup.sublist (List.take_sublist _ _) (hok.nd _ hkm)
          rw [htk, List.nodup_append] at n1
          exact fun h => n1.2.2 c h c (by simp) rfl
        have hcl := hok.lo _ hkm c (List.mem_of_getElem? hc)
        have hpl : ps.length ≤ 1000 := by
          have := below1000 hB.kn fun c' hc' => by
            obtain ⟨z, hz, rfl⟩ := List.mem_map.mp hc'
            exact hB.kl z hz
          rw [List.length_map] at this
          exact this
        have zlen : ∀ z ∈ ps, z.2.2.length ≤ 1000 := fun z hz => below1000 (hB.nd z hz) fun r hr' => by
          rw [← prt_mem hB.kn hz] at hr'
          rcases (hB.mem z.1 r).mp hr' with ⟨h1, h2, _⟩ | ⟨h1, _⟩
          · omega
          · omega
        refine ⟨.ref d, rfl, d, rfl, isD_of hB.ed, _, rfl, Nat.zero_le _, fun q5 H5 s5 n5 e5 => ?_⟩
        have hB5 : RB K H H5 d ps (keys tb) i (q.2.take p) := ⟨s5 _ _ hB.ed, fun z hz => ⟨s5 _ _ (hB.ls z hz).1, (hB.ls z hz).2⟩, hB.an, hB.kn, hB.mem, hB.nd, hB.kl⟩
        have S5 := S4.trans s5
        refine ⟨shownK ps, .inl c, hB5.ed, rfl, sizeN (by unfold shownK; rw [List.length_map]; omega), fun v hv => ?_, fun hv => ?_⟩
        · obtain ⟨z, hz, ez, rfl⟩ : ∃ z ∈ ps, z.1 = c ∧ v = V.ref z.2.1 := by
            rw [val_shown] at hv
            cases e : ps.find? fun z => decide (z.1 = c) with
            | none => rw [e] at hv; cases hv
            | some z =>
              rw [e] at hv
              have h2 := List.find?_some e
              exact ⟨z, List.mem_of_find?_eq_some e, of_decide_eq_true h2, (Option.some.inj hv).symm⟩
          refine ⟨.inl ⟨rfl, _, .inl (.inl (hB5.ls z hz).1)⟩, _, rfl, z.2.1, _, _, rfl, rfl, (hB5.ls z hz).1, sizeN (by rw [List.length_map]; have := zlen z hz; omega), ?_⟩
          refine ⟨addTo ps c i, _, rfl, same_put (hB5.ls z hz).2 S5, ?_⟩
          rw [htk]
          exact ⟨hB5.add hz ez hcn, asc_add hB5 hA hcn⟩
        · have hk : c ∉ ps.map (·.1) := fun hm => by
            obtain ⟨z, hz, ez⟩ := List.mem_map.mp hm
            rw [val_shown] at hv
            cases e : ps.find? fun z => decide (z.1 = c) with
            | none => exact absurd (decide_eq_true ez) (List.find?_eq_none.mp e z hz)
            | some y => rw [e] at hv; cases hv
          have hqn : ∀ z ∈ ps, z.2.1 ≠ q5 := fun z hz e => by have := (hB.ls z hz).1; rw [e, n5] at this; cases this
          have hN := hB5.new hk e5 (none_back S4 n5) hqn hcl
          have eP : putK (shownK ps) (.inl c) (.ref q5) = shownK (ps ++ [(c, q5, [])]) := by
            rw [putK_new (k := (.inl c : Key)) (V.ref q5) hv]
            unfold shownK
            rw [List.map_append]
            rfl
          rw [eP]
          have S6 : Same H (upd H5 d (.dK (shownK (ps ++ [(c, q5, [])])))) := same_put nd S5
          have e6 : (upd H5 d (.dK (shownK (ps ++ [(c, q5, [])])))) q5 = some (.lst []) := by rw [upd_ne (fun e => by rw [e, hB.ed] at n5; cases n5)]; exact e5
          generalize upd H5 d (.dK (shownK (ps ++ [(c, q5, [])]))) = H6 at S6 e6 hN ⊢
          refine ⟨.inl ⟨rfl, _, .inl (.inl e6)⟩, _, rfl, q5, _, _, rfl, rfl, e6, sizeN (by show 0 ≤ 200000; decide), ?_⟩
          refine ⟨addTo (ps ++ [(c, q5, [])]) c i, _, rfl, same_put (none_back S4 n5) S6, ?_⟩
          rw [htk]
          exact ⟨hN.add (z := (c, q5, [])) (by simp) rfl hcn, asc_add hN (asc_new hA) hcn⟩
      · rintro σ H4 ⟨ps, z4, rfl, S4, hB, hA⟩
        rw [List.length_map, List.take_length] at hB
        refine ⟨ps, _, _, _, rfl, S4, ⟨hB.ed, hB.ls, hB.an, hB.kn, fun c r => ?_, hB.nd, hB.kl⟩, hA⟩
        rw [hB.mem]
        constructor
        · rintro (⟨h1, h2, h3⟩ | ⟨h1, h2⟩)
          · exact .inl ⟨h1, by omega, h3⟩
          · exact .inl ⟨by omega, by omega, by rw [h1, hrow]; exact h2⟩
        · rintro (⟨h1, h2, h3⟩ | ⟨_, h2⟩)
          · by_cases e : r = (i : Int)
            · rw [e, hrow] at h3
              exact .inr ⟨e, h3⟩
            · exact .inl ⟨h1, by omega, h3⟩
          · cases h2
    · rintro σ H2 ⟨ps, z2, z3, z4, rfl, S2, hB, hA⟩
      refine ⟨.ref d, rfl, k H2 d ps S2 nd ⟨hB.ed, fun z hz => .inl (.inl (hB.ls z hz).1)⟩ (fun z hz => ⟨fun r hr' => ?_, ?_⟩) (fun c r => ?_) (asc_prt hA) (fun z hz => by rw [(hB.ls z hz).1]; exact fun e => by cases e)⟩
      · rw [← prt_mem hB.kn hz] at hr'
        rcases (hB.mem z.1 r).mp hr' with ⟨h1, h2, _⟩ | ⟨_, h2⟩
        · rw [refs_len] at h2
          omega
        · cases h2
      · refine below1000 (hB.nd z hz) fun r hr' => ?_
        rw [← prt_mem hB.kn hz] at hr'
        rcases (hB.mem z.1 r).mp hr' with ⟨h1, h2, _⟩ | ⟨_, h2⟩
        · rw [refs_len] at h2
          omega
        · cases h2
      · rw [hB.mem]
        constructor
        · rintro (⟨_, _, h3⟩ | ⟨_, h2⟩)
          · exact h3
          · cases h2
        · intro h
          obtain ⟨h0, l, hl, _⟩ := tP_some h
          have := (List.getElem?_eq_some_iff.mp hl).1
          rw [keys_len] at this
          exact .inl ⟨h0, by rw [refs_len]; omega, h⟩

theorem ok_partners (T : Txt P K mg a) : FnOk P w K mg base CX0 1 a.f_partners a.fd_partners ["table", "rows"] (spPartners K) := by
  refine T.F_partners.ok sc_partners (fun vs H Q E h => ?_) (fun cdv A outer s H vs Q E hr h => ?_)
  · obtain ⟨t, rl, tb, L, rfl, _⟩ := h
    rfl
  · obtain ⟨t, rl, tb, L, rfl, hT, hF, hrl, hL, k⟩ := h
    refine ⟨_, (pss_one (ps_ret (pe_callB (cr_sortedSet rfl) (by rfl) T.z_sorted (by decide +kernel) (pa_cons (SwC.pe_sc2 (g := gName 2) (tt := tYes) (g1 := gName 3) (tt1 := tYes) (vs1 := [3]) (own := [("row", 2), ("column", 3)]) rfl sc_partners.nd (pi_list (pv 1)) (blkOk_by (own := [("row", 2), ("column", 3)]) (N := ["table", "rows", "row", "column"]) (sc := defScope s_partners) (by decide +kernel)) (by decide) (fun _ _ _ _ _ => (pg_name (i := 2) sc_partners.nd rfl (.inl rfl))) (fun _ _ _ _ _ => pts_nil) (fun _ _ _ _ _ => ((pi_listK (K := K)) (pe_ix (ix_seqK (K := K)) (pv 0) (pv 2) (fun _ _ => rfl)))) (fun _ _ _ _ _ => (pg_name (i := 3) sc_partners.nd rfl (.inl rfl))) (fun _ _ _ _ _ => pts_nil) (fun _ _ _ _ _ => (pv 3))) pa_nil)))), ?_⟩
    have hkl := keys_len tb
    have small : ∀ N : List Int, N.Nodup → (∀ c ∈ N, ∃ r, c ∈ tP (keys tb) r) → N.length ≤ 60 := fun N hn hN => by
      have n1 : (N.map Int.toNat).Nodup := by
        rw [List.Nodup, List.pairwise_map]
        refine hn.imp_of_mem fun {a b} ha hb hab e => hab ?_
        obtain ⟨r, h1⟩ := hN a ha
        obtain ⟨_, l, e1, h2⟩ := tP_some h1
        have := hF.lo l (List.mem_of_getElem? e1) a h2
        obtain ⟨r', h3⟩ := hN b hb
        obtain ⟨_, l', e2, h4⟩ := tP_some h3
        have := hF.lo l' (List.mem_of_getElem? e2) b h4
        omega
      have := nodup_below 60 _ n1 fun x hx => by
        obtain ⟨a, ha, rfl⟩ := List.mem_map.mp hx
        obtain ⟨r, h1⟩ := hN a ha
        obtain ⟨_, l, e1, h2⟩ := tP_some h1
        have := hF.lo l (List.mem_of_getElem? e1) a h2
        omega
      rw [List.length_map] at this
      exact this
    refine ⟨.ref rl, rfl, rl, rfl, ⟨_, hrl⟩, fun D nD => SwC.cl_list (K := K) (a := rl) (xs := L.map V.int) (fun i H2 => ∃ (S : Int → Bool) (N : List Int), Same H H2 ∧ H2 D = some (SetO w D S N.length) ∧ N.Nodup ∧ (∀ c, S c = true ↔ c ∈ N) ∧ (∀ c, c ∈ N ↔ ∃ r ∈ L.take i, c ∈ tP (keys tb) r))
      ⟨fun _ => false, [], same_new nD, upd_same, List.nodup_nil, (fun c => ⟨(fun h => by cases h), (fun h => by cases h)⟩), (fun c => ⟨(fun h => by cases h), (fun ⟨_, h, _⟩ => by cases h)⟩)⟩ (fun i H2 _ ⟨_, _, s2, _⟩ => s2.seq hrl) ?_ ?_⟩
    · rintro i y H2 hi ⟨S, N, S2, e2, hn, hS, hN⟩
      obtain ⟨r, hr, rfl⟩ := map_at hi
      have hrL := List.mem_of_getElem? hr
      obtain ⟨row, hrow, hat, hq, hP⟩ := row_at (tabAt_up S2 hT) (hL r hrL).1 (hL r hrL).2
      refine ⟨rfl, ?_⟩
      refine ⟨.ref t, rfl, _, rfl, .inl ⟨t, _, _, _, rfl, rfl, S2.seq hT.1, hat, row.1, rfl, ⟨_, hq⟩, SwC.cl_list (K := K) (a := row.1) (xs := row.2.map V.int) (fun p H3 => ∃ (S : Int → Bool) (N : List Int), Same H H3 ∧ H3 D = some (SetO w D S N.length) ∧ N.Nodup ∧ (∀ c, S c = true ↔ c ∈ N) ∧ (∀ c, c ∈ N ↔ (∃ r ∈ L.take i, c ∈ tP (keys tb) r) ∨ c ∈ row.2.take p))
        ⟨S, N, S2, e2, hn, hS, fun c => ⟨fun h => .inl ((hN c).mp h), fun h => h.elim (hN c).mpr (fun h => by cases h)⟩⟩ (fun p H3 _ ⟨_, _, s3, _⟩ => s3.seq (hT.2 row (List.mem_of_getElem? hrow))) ?_ ?_⟩⟩
      · rintro p y H3 hp ⟨S, N, S3, e3, hn, hS, hN⟩
        obtain ⟨c, hc, rfl⟩ := map_at hp
        have htk : row.2.take (p + 1) = row.2.take p ++ [c] := by rw [List.take_add_one, hc]; rfl
        have hl := small N hn fun c hc' => ((hN c).mp hc').elim (fun ⟨r, _, h⟩ => ⟨r, h⟩) fun h => ⟨r, by rw [hP]; exact List.mem_of_mem_take h⟩
        refine ⟨rfl, ?_⟩
        refine ⟨_, rfl, c, S, N.length, rfl, e3, (by unfold scanBound; omega), ?_⟩
        have hS' : ∀ j, (S j || decide (j = c)) = true ↔ j ∈ N ∨ j = c := fun j => by rw [Bool.or_eq_true, hS, decide_eq_true_iff]
        by_cases hcN : c ∈ N
        · rw [if_pos ((hS c).mpr hcN)]
          refine ⟨_, N, same_put nD S3, upd_same, hn, fun j => ?_, fun j => ?_⟩
          · rw [hS']
            exact ⟨fun h => h.elim id fun h => h ▸ hcN, .inl⟩
          · rw [hN, htk, List.mem_append, List.mem_singleton]
            exact ⟨fun h => h.elim .inl fun h => .inr (.inl h), fun h => h.elim .inl fun h => h.elim .inr fun h => by rw [h]; exact (hN c).mp hcN⟩
        · rw [if_neg fun h => hcN ((hS c).mp h)]
          refine ⟨_, N ++ [c], same_put nD S3, by rw [upd_same, List.length_append]; rfl, nodup_push hn hcN, fun j => ?_, fun j => ?_⟩
          · rw [hS', List.mem_append, List.mem_singleton]
          · rw [List.mem_append, List.mem_singleton, hN, htk, List.mem_append, List.mem_singleton, or_assoc]
      · rintro H3 ⟨S, N, S3, e3, hn, hS, hN⟩
        rw [List.length_map, List.take_length] at hN
        refine ⟨S, N, S3, e3, hn, hS, fun c => ?_⟩
        have htk : L.take (i + 1) = L.take i ++ [r] := by rw [List.take_add_one, hr]; rfl
        rw [hN, htk, ← hP]
        constructor
        · rintro (⟨r', h1, h2⟩ | h)
          · exact ⟨r', List.mem_append_left _ h1, h2⟩
          · exact ⟨r, List.mem_append_right _ (List.mem_singleton.mpr rfl), h⟩
        · rintro ⟨r', h1, h2⟩
          rcases List.mem_append.mp h1 with h1 | h1
          · exact .inl ⟨r', h1, h2⟩
          · exact .inr (List.mem_singleton.mp h1 ▸ h2)
    · rintro H2 ⟨S, N, S2, e2, hn, hS, hN⟩
      rw [List.length_map, List.take_length] at hN
      have hl := small N hn fun c hc' => let ⟨r, _, h⟩ := (hN c).mp hc'; ⟨r, h⟩
      refine ⟨D, S, N.length, rfl, e2, by omega, fun ns' p hs1 hs2 hs3 np => k _ p ns' (S2.trans (same_new np)) upd_same ⟨hs1, fun c => ?_⟩⟩
      rw [hs2, hS, hN]

theorem ok_lack (T : Txt P K mg a) : FnOk P w K mg base CX0 2 a.f_lack a.fd_lack ["table", "rows"] (spLack K) := by
  refine T.F_lack.ok sc_lack (fun vs H Q E h => ?_) (fun cdv A outer s H vs Q E hr h => ?_)
  · obtain ⟨t, rl, tb, L, rfl, _⟩ := h
    rfl
  · obtain ⟨t, rl, tb, L, rfl, hT, hF, hrl, hL, k⟩ := h
    refine ⟨_, (pss_one (ps_ret (pe_op op_sub (pe_callB call_len_seq (by rfl) T.z_len (by decide +kernel) (pa_cons (pv 1) pa_nil)) (pe_callB call_len_seq (by rfl) T.z_len (by decide +kernel) (pa_cons (pe_call (ok_partners T) (hr.mono (by decide)) (by rfl) T.m_partners T.F_partners.kp T.b_partners .nil pass0 (pa_cons (pv 0) (pa_cons (pv 1) pa_nil))) pa_nil))))), ?_⟩
    refine ⟨.ref rl, rfl, rl, _, rfl, .inl hrl, .ref t, rfl, .ref rl, rfl, t, rl, tb, L, rfl, hT, hF, hrl, hL, fun H1 l ns S1 e1 hc => ⟨l, _, rfl, .inl (.inl (.inl e1)), _, _, rfl, rfl, ?_⟩⟩
    rw [List.length_map, List.length_map]
    exact k H1 ns S1 hc

theorem ok_least_lot (T : Txt P K mg a) : FnOk P w K mg base CX0 5 a.f_least_lot a.fd_least_lot ["table", "rows"] (spLeast K) := by
  refine T.F_least_lot.ok sc_least_lot (fun vs H Q E h => ?_) (fun cdv A outer s H vs Q E hr h => ?_)
  · obtain ⟨t, rl, tb, W, rfl, _⟩ := h
    rfl
  · obtain ⟨t, rl, tb, W, rfl, hT, hok, hrl, hWn, hW64, hWr, k⟩ := h
    have hu1 : (A.deeper (envOfC "least_lot" (defScope s_least_lot) s.heap.objs.size a.f_least_lot cdv)).units + 1 < cLine := by
      have := hr.un
      omega
    refine ⟨_, (pss_cons (ps_set (i := 2) sc_least_lot.nd rfl (.inr rfl) (pe_call (ok__mates_of T) (hr.mono (by decide)) (by rfl) T.m__mates_of T.F__mates_of.kp T.b__mates_of .nil pass0 (pa_cons (pv 0) (pa_cons (pv 1) pa_nil))))
      (pss_cons (ps_lock (ps_setDc (i := 4) rfl sc_least_lot.nd rfl rfl (sw_trueD rfl rfl rfl (by decide +kernel)) (g := gName 3) (tt := tYes) (own := [("row", 3)]) (pi_keys (pv 2)) (blkOk_by (own := [("row", 3)]) (N := ["table", "rows", "mates", "row", "owners", "queue", "found", "at", "column", "owner"]) (sc := defScope s_least_lot) (by decide +kernel)) (fun _ _ _ _ _ => (pg_name (i := 3) sc_least_lot.nd rfl (.inl rfl))) (fun _ _ _ _ _ => pts_nil) (fun _ _ _ _ _ => (pe_dget hu1 (pv 2) (pv 3) (fun _ _ => rfl))) (fun _ _ _ _ _ => (pv 3))))
      (pss_cons (ps_setLc (i := 5) rfl sc_least_lot.nd rfl rfl (sw_true rfl rfl rfl (by decide +kernel)) (g := gName 3) (own := [("row", 3)]) (pi_list (pv 1)) (blkOk_by (own := [("row", 3)]) (N := ["table", "rows", "mates", "row", "owners", "queue", "found", "at", "column", "owner"]) (sc := defScope s_least_lot) (by decide +kernel)) (fun _ _ _ _ _ => (pg_name (i := 3) sc_least_lot.nd rfl (.inl rfl))) (fun _ _ _ _ _ => (pts_one (pt_cmp (pc_dnotin hu1 (pv 3) (pv 2))))) (fun _ _ _ _ _ => (pv 3)))
      (pss_cons (ps_setDc (i := 6) rfl sc_least_lot.nd rfl rfl (sw_trueD rfl rfl rfl (by decide +kernel)) (g := gName 3) (tt := tYes) (own := [("row", 3)]) (pi_list (pv 5)) (blkOk_by (own := [("row", 3)]) (N := ["table", "rows", "mates", "row", "owners", "queue", "found", "at", "column", "owner"]) (sc := defScope s_least_lot) (by decide +kernel)) (fun _ _ _ _ _ => (pg_name (i := 3) sc_least_lot.nd rfl (.inl rfl))) (fun _ _ _ _ _ => pts_nil) (fun _ _ _ _ _ => (pv 3)) (fun _ _ _ _ _ => pe_bl))
      (pss_cons (ps_set (i := 7) sc_least_lot.nd rfl (.inl rfl) pe_int)
      (pss_cons (ps_while PassesOwn.never (pt_cmpR op_lt (pv 7) (pe_callB call_len_seq (by rfl) T.z_len (by decide +kernel) (pa_cons (pv 5) pa_nil)) (nomark _)) (pss_cons (ps_set (i := 3) sc_least_lot.nd rfl (.inl rfl) (pe_ix ix_seq (pv 5) (pv 7) (fun _ _ => rfl)))
      (pss_cons (ps_for PassesOwn.never rfl (pi_list (pe_ix ix_seq (pv 0) (pv 3) (fun _ _ => rfl))) (pg_name (i := 8) sc_least_lot.nd rfl (.inl rfl)) (pss_cons (ps_set (i := 9) sc_least_lot.nd rfl (.inl rfl) (pe_dget hu1 (pv 4) (pv 8) (fun _ _ => rfl)))
      (pss_one (ps_if (pt_cmp (pc_dnotin hu1 (pv 9) (pv 6))) (pss_cons (ps_dput hu1 (pv 6) (pv 9) pe_bl rfl)
      (pss_one (ps_expr (pe_bm PySem.F.plainAttrs_list PySem.F.slot_list_append PySem.F.type_list_append mt_append (pv 5) (pa_cons (pv 9) pa_nil))))) pss_nil))))
      (pss_one (ps_aug (i := 7) sc_least_lot.nd rfl (.inl rfl) pe_int ip_add)))))
      (pss_one (ps_ret (pe_callB cr_sorted (by rfl) T.z_sorted (by decide +kernel) (pa_cons (pv 5) pa_nil)))))))))), ?_⟩
    have hWz : W.length ≤ 1000 := by omega
    refine ⟨.ref t, rfl, .ref rl, rfl, t, rl, tb, W, rfl, hT, hok, hrl, hWn, hWr, fun H1 dm g Z S1 ndm edm hM ho hx hZ hZW hF => ?_⟩
    have hgz : g.length ≤ 1000 := by
      rw [← filter_all hWn hM.nd ho]
      have := List.length_filter_le (has g) W
      omega
    -- owners
    refine ⟨dm, _, edm, trivial, fun om => ?_⟩
    have ezm : (upd H1 dm (.frz om (.dK (dI g)))) dm = some (.frz om (.dK (dI g))) := upd_same
    refine ⟨.ref dm, rfl, dm, om, rfl, .inl ⟨_, ezm, fun do' nDo => dc_it walk_keys (fun i H2y => Same (upd H1 dm (.frz om (.dK (dI g)))) H2y ∧ H2y do' = some (.dK (dI (swp (g.take i))))) ⟨same_new nDo, upd_same⟩ (fun i H2y _ ⟨s4, _⟩ => s4 _ _ ezm) ?_ ?_⟩⟩
    · rintro i v H2y H3x hi ⟨S2y, e2y⟩ ⟨rfl, kk, vv, hkv, rfl⟩
      obtain ⟨r, c, hrc, rfl, rfl⟩ : ∃ r c, g[i]? = some (r, c) ∧ kk = .inl r ∧ vv = .int c := by
        unfold dI at hkv
        rw [List.getElem?_map] at hkv
        cases e : g[i]? with
        | none => rw [e] at hkv; cases hkv
        | some z =>
          rw [e] at hkv
          have := Option.some.inj hkv
          injection this with h1 h2
          exact ⟨z.1, z.2, rfl, h1.symm, h2.symm⟩
      have el := lk_mem hM.nd (List.mem_of_getElem? hrc)
      have hsw : (swp g)[i]? = some (c, r) := by unfold swp; rw [List.getElem?_map, hrc]; rfl
      have tk : ∀ j, swp (g.take j) = (swp g).take j := fun j => by unfold swp; rw [List.map_take]
      refine ⟨rfl, ?_⟩
      refine ⟨.ref dm, rfl, _, rfl, dm, .int c, rfl, ?_, _, rfl, dI (swp (g.take i)), .inl c, rfl, e2y, sizeN ?_, same_put nDo S2y, ?_⟩
      · exact .inl ⟨_, .inl r, .inr ⟨om, S2y _ _ ezm⟩, rfl, by rw [val_dI, el]; rfl⟩
      · rw [dI_len, tk, List.length_take]
        unfold swp
        rw [List.length_map]
        omega
      · rw [upd_same, show kV (Sum.inl r) = V.int r from rfl, put_dI, tk, take_put (by rw [swp_keys]; exact hM.cn) hsw, tk]
    rintro H2y ⟨S2y, e2y⟩
    rw [dI_len, List.take_length] at e2y
    obtain ⟨ndo3, hdom⟩ := new_lock nDo
    refine ⟨S2y _ _ ezm, ?_⟩
    have S3x : Same H1 (upd H2y dm (.dK (dI g))) := same_unlock edm S2y
    have eo3 : (upd H2y dm (.dK (dI g))) do' = some (.dK (dI (swp g))) := by rw [upd_ne hdom]; exact e2y
    generalize upd H2y dm (.dK (dI g)) = H3 at S3x eo3 ⊢
    have S3 := S1.trans S3x
    have edm3 := S3x _ _ edm
    -- queue
    refine ⟨.ref rl, rfl, rl, rfl, ⟨_, S3.seq hrl⟩, fun l nl => lc_list (K := K) (a := rl) (xs := W.map V.int) (fun i H4 => Same H3 H4 ∧ H4 l = some (.lst (((W.take i).filter fun r => !has g r).map V.int))) ⟨same_new nl, upd_same⟩ (fun i H4 _ ⟨s4, _⟩ => (S3.trans s4).seq hrl) ?_ ?_⟩
    · rintro i v H4 hi ⟨S4, e4⟩
      obtain ⟨r, hr', rfl⟩ := map_at hi
      have htk : W.take (i + 1) = W.take i ++ [r] := by rw [List.take_add_one, hr']; rfl
      refine ⟨rfl, ?_⟩
      refine ⟨_, rfl, .ref dm, rfl, dm, _, rfl, get_dI (S4 _ _ edm3) rfl, _, rfl, ?_⟩
      cases elk : lk g r with
      | some c =>
        refine iteF ⟨S4, ?_⟩
        rw [htk, List.filter_append, List.filter_cons_of_neg (p := fun r => !has g r) (by unfold has; rw [elk]; exact Bool.false_ne_true), List.filter_nil, List.append_nil]
        exact e4
      | none =>
        refine iteT ⟨_, rfl, _, e4, sizeN ?_, same_put nl S4, ?_⟩
        · rw [List.length_map]
          have := List.length_filter_le (fun r => !has g r) (W.take i)
          rw [List.length_take] at this
          omega
        · rw [upd_same, htk, List.filter_append, List.filter_cons_of_pos (p := fun r => !has g r) (by unfold has; rw [elk]; rfl), List.filter_nil, List.map_append]
          rfl
    rintro H4 ⟨S34, e4⟩
    rw [List.length_map, List.take_length] at e4
    have q0n : (W.filter fun r => !has g r).Nodup := hWn.filter _
    have q0m : ∀ r, r ∈ (W.filter fun r => !has g r) ↔ r ∈ W ∧ lk g r = none := fun r => by
      rw [List.mem_filter]
      unfold has
      cases lk g r <;> simp
    generalize (W.filter fun r => !has g r) = q0 at e4 q0n q0m
    have hq0 : q0.length ≤ W.length := len_le_of_sub q0n fun x hx => ((q0m x).mp hx).1
    have S4 := S3.trans S34
    -- found
    refine ⟨.ref l, rfl, l, rfl, ⟨_, .inl (.inl e4)⟩, fun df nDf => dc_it (walk_list (xs := q0.map V.int)) (fun i H5 => Same H4 H5 ∧ H5 df = some (.dK (dW (q0.take i)))) ⟨same_new nDf, upd_same⟩ (fun i H5 _ ⟨s5, _⟩ => .inl (.inl (s5 _ _ e4))) ?_ ?_⟩
    · rintro i v H6 H7 hi ⟨S6, e6⟩ ⟨rfl, hv⟩
      obtain ⟨r, hr', rfl⟩ := map_at hv
      refine ⟨rfl, ?_⟩
      refine ⟨_, rfl, dW (q0.take i), .inl r, rfl, e6, sizeN ?_, same_put nDf S6, ?_⟩
      · unfold dW
        rw [List.length_map, List.length_take]
        omega
      · have e : q0.take (i + 1) = q0.take i ++ [r] := by rw [List.take_add_one, hr']; rfl
        have n1 : (q0.take (i + 1)).Nodup := List.Nodup.sublist (List.take_sublist _ _) q0n
        rw [e, List.nodup_append] at n1
        rw [upd_same, put_dW fun hm => n1.2.2 r hm r (by simp) rfl, e]
    rintro H5 ⟨S45, e5⟩
    rw [List.length_map, List.take_length] at e5
    have S5 := S4.trans S45
    have el5 := S45 _ _ e4
    have eo5 := S45 _ _ (S34 _ _ eo3)
    have nl0 : H l = none := none_back S3 nl
    have ndf0 : H df = none := none_back S4 nDf
    have hne1 : df ≠ l := fun e => by rw [e, e4] at nDf; cases nDf
    have hne2 : do' ≠ l := fun e => by rw [e] at eo3; rw [eo3] at nl; cases nl
    have hne3 : do' ≠ df := fun e => by
      have z := S34 _ _ eo3
      rw [e, nDf] at z
      cases z
    -- the walk
    refine ⟨fun μ σ H6 => ∃ (n : Nat) (q : List Int) (z3 z8 z9 : Option V), σ = [some (.ref t), some (.ref rl), some (.ref dm), z3, some (.ref do'), some (.ref l), some (.ref df), some (.int (n : Int)), z8, z9] ∧ Same H H6 ∧ H6 do' = some (.dK (dI (swp g))) ∧ H6 df = some (.dK (dW q)) ∧ H6 l = some (.lst (q.map V.int)) ∧
        RQ (tP (keys tb)) W g Z q ∧ (∀ i, i < n → ∀ row, q[i]? = some row → ∀ c ∈ tP (keys tb) row, ∃ r' ∈ q, lk g r' = some c) ∧ n ≤ q.length ∧ μ + n = 1002,
      ⟨1002, 0, q0, _, _, _, rfl, S5, eo5, e5, el5, ⟨q0n, fun x hx => hF x ((q0m x).mp hx).1 ((q0m x).mp hx).2, fun r h1 h2 => (q0m r).mpr ⟨h1, h2⟩, fun L h1 _ x hx => h1 x ((q0m x).mp hx).1 ((q0m x).mp hx).2⟩, (fun i hi => absurd hi (Nat.not_lt_zero _)), Nat.zero_le _, rfl⟩, ?_⟩
    rintro μ σ H6 ⟨n, q, z3, z8, z9, rfl, S6, eo6, ef6, el6, hQ, hdone, hn, hμ⟩
    have hqW : q.length ≤ W.length := len_le_of_sub hQ.nd fun x hx => hZW x (hQ.sub x hx)
    refine ⟨_, rfl, .ref l, rfl, l, _, rfl, .inl (.inl (.inl el6)), _, _, rfl, rfl, _, rfl, ite2 (fun g1 => ?_) (fun g1 => ?_)⟩
    rotate_left
    · have hnl : n = q.length := by
        have : ¬ ((n : Int) < (((q.map V.int).length : Nat) : Int)) := fun z => g1 (decide_eq_true z)
        rw [List.length_map] at this
        omega
      refine ⟨.ref l, rfl, l, q, rfl, .inl (.inl el6), by omega, fun ns' p hperm hasc np => ?_⟩
      have hmem : ∀ x, x ∈ ns' ↔ x ∈ q := fun x => hperm.mem_iff
      refine k _ p g ns' (S6.trans (same_new np)) upd_same ?_ ⟨hM, ho, fun x hx => hZW x (hQ.sub x ((hmem x).mp hx)), fun r h1 h2 => (hmem r).mpr (hQ.free r h1 h2), fun z hz c hc => ?_, fun L h1 h2 x hx => hQ.least L h1 h2 x ((hmem x).mp hx)⟩ hx
      · refine (hasc.and (hperm.nodup_iff.mpr hQ.nd)).imp fun {a b} h => ?_
        have h1 : a ≤ b := h.1
        have h2 : a ≠ b := h.2
        omega
      · obtain ⟨j, hj, ej⟩ := List.getElem_of_mem ((hmem z).mp hz)
        obtain ⟨r', h1, h2⟩ := hdone j (by omega) z (by rw [List.getElem?_eq_getElem hj, ej]) c hc
        exact ⟨r', (hmem r').mpr h1, h2⟩
    · have hlt : n < q.length := by
        have : ((n : Int) < (((q.map V.int).length : Nat) : Int)) := of_decide_eq_true g1
        rw [List.length_map] at this
        omega
      have hrow : q[n]? = some q[n] := List.getElem?_eq_getElem hlt
      generalize q[n] = row at hrow
      have hrZ := hQ.sub row (List.mem_of_getElem? hrow)
      have hrW := hZW row hrZ
      have S6' := S6
      obtain ⟨rw', hrw, hat, hq', hPr⟩ := row_at (tabAt_up S6' hT) (hWr row hrW).1 (hWr row hrW).2
      refine ⟨_, fun σ' H' z => z, ?_⟩
      refine ⟨.ref l, rfl, _, rfl, .inl ⟨l, _, _, _, rfl, rfl, .inl (.inl el6), atI_nat (by rw [List.getElem?_map, hrow]; rfl), ?_⟩⟩
      refine ⟨.ref t, rfl, _, rfl, .inl ⟨t, _, _, _, rfl, rfl, S6'.seq hT.1, hat, rw'.1, rfl, ⟨_, hq'⟩, for_list (K := K) (a := rw'.1) (xs := rw'.2.map V.int) (fun p σ H7 => ∃ (q : List Int) (z8 z9 : Option V), σ = [some (.ref t), some (.ref rl), some (.ref dm), some (.int row), some (.ref do'), some (.ref l), some (.ref df), some (.int (n : Int)), z8, z9] ∧ Same H H7 ∧ H7 do' = some (.dK (dI (swp g))) ∧ H7 df = some (.dK (dW q)) ∧ H7 l = some (.lst (q.map V.int)) ∧
          RQ (tP (keys tb)) W g Z q ∧ (∀ i, i < n → ∀ row, q[i]? = some row → ∀ c ∈ tP (keys tb) row, ∃ r' ∈ q, lk g r' = some c) ∧ n < q.length ∧ q[n]? = some row ∧ ∀ c ∈ rw'.2.take p, ∃ r' ∈ q, lk g r' = some c)
        ⟨q, _, _, rfl, S6, eo6, ef6, el6, hQ, hdone, hlt, hrow, fun c hc => by cases hc⟩ (fun p σ H7 _ ⟨_, _, _, _, S7, _⟩ => S7.seq (hT.2 rw' (List.mem_of_getElem? hrw))) ?_ ?_⟩⟩
      · rintro p v σ H7 hp ⟨q, z8, z9, rfl, S7, eo7, ef7, el7, hQ, hdone, hlt, hrow, hpart⟩
        have hqW : q.length ≤ W.length := len_le_of_sub hQ.nd fun x hx => hZW x (hQ.sub x hx)
        obtain ⟨c, hc, rfl⟩ := map_at hp
        have hcP : c ∈ tP (keys tb) row := by rw [hPr]; exact List.mem_of_getElem? hc
        obtain ⟨r', hr'Z, hr'c⟩ := hZ row hrZ c hcP
        have hown : lk (swp g) c = some r' := (own_swp hM r' c).mpr hr'c
        have htk : rw'.2.take (p + 1) = rw'.2.take p ++ [c] := by rw [List.take_add_one, hc]; rfl
        refine ⟨.ref do', rfl, _, rfl, do', .int r', rfl, get_dI1 eo7 hown, ?_⟩
        refine ⟨_, rfl, .ref df, rfl, df, _, rfl, DGet.k (k := .inl r') ef7, _, rfl, ?_⟩
        rw [val_dW]
        by_cases hin : r' ∈ q
        · rw [decide_eq_true hin]
          refine iteF ⟨q, _, _, rfl, S7, eo7, ef7, el7, hQ, hdone, hlt, hrow, fun x hx => ?_⟩
          rw [htk] at hx
          rcases List.mem_append.mp hx with hx | hx
          · exact hpart x hx
          · rw [List.mem_singleton.mp hx]
            exact ⟨r', hin, hr'c⟩
        · rw [decide_eq_false hin]
          refine iteT ⟨.ref df, rfl, _, rfl, df, _, rfl, DPut.k (k := .inl r') ef7 (sizeN (by unfold dW; rw [List.length_map]; omega)), ?_⟩
          rw [put_dW hin]
          have S8 : Same H (upd H7 df (.dK (dW (q ++ [r'])))) := same_put ndf0 S7
          have ef8 : (upd H7 df (.dK (dW (q ++ [r'])))) df = some (.dK (dW (q ++ [r']))) := upd_same
          have el8 : (upd H7 df (.dK (dW (q ++ [r'])))) l = some (.lst (q.map V.int)) := by rw [upd_ne (Ne.symm hne1)]; exact el7
          have eo8 : (upd H7 df (.dK (dW (q ++ [r'])))) do' = some (.dK (dI (swp g))) := by rw [upd_ne hne3]; exact eo7
          generalize upd H7 df (.dK (dW (q ++ [r']))) = H8 at S8 ef8 el8 eo8 ⊢
          refine ⟨.ref l, rfl, .inl ⟨rfl, _, .inl (.inl el8)⟩, _, rfl, l, _, _, rfl, rfl, el8, sizeN (by rw [List.length_map]; omega), ?_⟩
          refine ⟨q ++ [r'], _, _, rfl, same_put nl0 S8, by rw [upd_ne hne2]; exact eo8, by rw [upd_ne hne1]; exact ef8, by rw [upd_same, map_push], ⟨nodup_push hQ.nd hin, fun x hx => ?_, fun r h1 h2 => List.mem_append_left _ (hQ.free r h1 h2), fun L h1 h2 x hx => ?_⟩, fun i hi row' hi' x hx => ?_, by rw [List.length_append]; omega, by rw [List.getElem?_append_left hlt]; exact hrow, fun x hx => ?_⟩
          · rcases List.mem_append.mp hx with hx | hx
            · exact hQ.sub x hx
            · rw [List.mem_singleton.mp hx]
              exact hr'Z
          · rcases List.mem_append.mp hx with hx | hx
            · exact hQ.least L h1 h2 x hx
            · rw [List.mem_singleton.mp hx]
              exact h2 row (hQ.least L h1 h2 row (List.mem_of_getElem? hrow)) c hcP r' hr'c
          · rw [List.getElem?_append_left (by omega)] at hi'
            obtain ⟨y, h1, h2⟩ := hdone i hi row' hi' x hx
            exact ⟨y, List.mem_append_left _ h1, h2⟩
          · rw [htk] at hx
            rcases List.mem_append.mp hx with hx | hx
            · obtain ⟨y, h1, h2⟩ := hpart x hx
              exact ⟨y, List.mem_append_left _ h1, h2⟩
            · rw [List.mem_singleton.mp hx]
              exact ⟨r', by simp, hr'c⟩
      · rintro σ H7 ⟨q, z8, z9, rfl, S7, eo7, ef7, el7, hQ, hdone, hlt, hrow, hpart⟩
        rw [List.length_map, List.take_length, ← hPr] at hpart
        refine ⟨_, rfl, _, _, rfl, rfl, μ - 1, by omega, n + 1, q, _, _, _, rfl, S7, eo7, ef7, el7, hQ, fun i hi row' hi' => ?_, by omega, by omega⟩
        by_cases hin : i = n
        · rw [hin, hrow] at hi'
          rw [← Option.some.inj hi']
          exact hpart
        · exact hdone i (by omega) row' hi'

theorem ok_turned_table (T : Txt P K mg a) : FnOk P w K mg base CX0 2 a.f_turned_table a.fd_turned_table ["table", "many"] (spTurned K) := by
  refine T.F_turned_table.ok sc_turned_table (fun vs H Q E h => ?_) (fun cdv A outer s H vs Q E hr h => ?_)
  · obtain ⟨t, tb, many, rfl, _⟩ := h
    rfl
  · obtain ⟨t, tb, many, rfl, hT, hok, hm, k⟩ := h
    have hu1 : (A.deeper (envOfC "turned_table" (defScope s_turned_table) s.heap.objs.size a.f_turned_table cdv)).units + 1 < cLine := by
      have := hr.un
      omega
    refine ⟨_, (pss_cons (ps_set (i := 2) sc_turned_table.nd rfl (.inr rfl) (pe_call (ok__rows_by_column T) (hr.mono (by decide)) (by rfl) T.m__rows_by_column T.F__rows_by_column.kp T.b__rows_by_column .nil pass0 (pa_cons (pv 0) pa_nil)))
      (pss_one (ps_ret (pe_lc (g := gName 3) (tt := tYes) (own := [("column", 3)]) rfl sc_turned_table.nd (pi_range1 (by rfl) T.z_range (pa_cons (pv 1) pa_nil)) (blkOk_by (own := [("column", 3)]) (N := ["table", "many", "found", "column"]) (sc := defScope s_turned_table) (by decide +kernel)) (fun _ _ _ _ _ => (pg_name (i := 3) sc_turned_table.nd rfl (.inl rfl))) (fun _ _ _ _ _ => pts_nil) (fun _ _ _ _ _ => (pe_dget2 hu1 (pv 2) (pv 3) (pe_lst pa_nil) ⟨rfl, rfl, rfl, rfl⟩)))))), ?_⟩
    refine ⟨.ref t, rfl, t, tb, rfl, hT, hok, fun H1 d ps S1 nd hP hsm hmem hasc hnn => ?_⟩
    refine ⟨_, rfl, (many : Int), rfl, by omega, by omega, fun D nD => lc_range (lo := 0) (n := many) (fun i H2 => ∃ ks : Tups, Same H1 H2 ∧ H2 D = some (.lst (refs ks)) ∧ (∀ p ∈ ks, SqL K H2 p.1 (p.2.map V.int) ∧ p.1 ≠ D) ∧ keys ks = (List.range i).map (turnedI (keys tb)) ∧ ks.length = i) ⟨[], same_new nD, upd_same, (fun p hp => by cases hp), rfl, rfl⟩ ?_ ?_⟩
    · rintro i H2 hi ⟨ks, S2, e2, t2, k2, l2⟩
      refine ⟨rfl, ?_⟩
      have hP2 := prtAt_up S2 hP
      refine ⟨.ref d, rfl, d, rfl, isD_of hP2.1, _, rfl, Nat.zero_le _, fun le nle => ?_⟩
      have s4 : Same H2 (upd H2 le (.lst [])) := same_new nle
      have ele : (upd H2 le (.lst [])) le = some (.lst []) := upd_same
      have hle : le ≠ D := fun e => by rw [e, e2] at nle; cases nle
      generalize upd H2 le (.lst []) = H4 at s4 ele ⊢
      have hP4 := prtAt_up s4 hP2
      refine ⟨_, DGet.k (k := .inl (0 + (i : Int))) hP4.1, ?_⟩
      rw [qOf_eq]
      have e4 := s4 _ _ e2
      have hat := qOf_at hP4 ele (0 + (i : Int))
      have hz : (0 : Int) + (i : Int) = i := Int.zero_add _
      have hne : qOf ps (0 + (i : Int)) le ≠ D := qOf_ne hnn nD hle
      refine ⟨refs ks, e4, sizeN (by rw [refs_len]; omega), ks ++ [(qOf ps (0 + (i : Int)) le, prt ps (0 + (i : Int)))], same_put nD (S2.trans s4), by rw [upd_same, ← refs_push], fun p hp => ?_, ?_, by rw [List.length_append, l2]; rfl⟩
      · rcases List.mem_append.mp hp with hp | hp
        · exact ⟨sqL_put (t2 p hp).2 (s4.seq (t2 p hp).1), (t2 p hp).2⟩
        · rw [List.mem_singleton.mp hp]
          exact ⟨sqL_put hne hat, hne⟩
      · rw [keys_push, k2, List.range_succ, List.map_append, hz, turned_eq (rows := keys tb) (c := i) (hasc i) (fun r => hmem i r)]
        rfl
    · rintro H2 ⟨ks, S2, e2, t2, k2, _⟩
      exact k H2 D ks (S1.trans S2) e2 (fun p hp => (t2 p hp).1) k2

theorem ok__law_row (T : Txt P K mg a) : FnOk P w K mg base CX0 1 a.f__law_row a.fd__law_row ["cell", "many"] (spRow K) := by
  refine T.F__law_row.ok sc__law_row (fun vs H Q E h => ?_) (fun cdv A outer s H vs Q E hr h => ?_)
  · obtain ⟨c, m, rfl, _⟩ := h
    rfl
  · obtain ⟨c, many, rfl, h0, h1, q⟩ := h
    refine ⟨_, (pss_cons (ps_set (i := 2) sc__law_row.nd rfl (.inl rfl) (pe_lst pa_nil))
      (pss_cons (ps_set (i := 3) sc__law_row.nd rfl (.inl rfl) pe_int)
      (C8.pss_cut (ps_if (pt_cmpR op_ge (pe_callB call_abs (by rfl) T.z_abs (by decide +kernel) (pa_cons (pv 0) pa_nil)) (pe_op op_pow pe_int pe_int) (nomark _)) (pss_one (ps_set (i := 3) sc__law_row.nd rfl (.inl rfl) (pe_callB call_abs (by rfl) T.z_abs (by decide +kernel) (pa_cons (pv 0) pa_nil)))) pss_nil)
      (pss_cons (ps_set (i := 4) sc__law_row.nd rfl (.inl rfl) (pe_op op_mod (pe_callTy call_int1 (by rfl) T.z_int (by decide +kernel) (pa_cons (pe_callB call_abs (by rfl) T.z_abs (by decide +kernel) (pa_cons (pv 0) pa_nil)) pa_nil)) pe_int))
      (pss_cons (ps_for PassesOwn.never rfl (pi_range1 (by rfl) T.z_range (pa_cons (pv 1) pa_nil)) (pg_name (i := 5) sc__law_row.nd rfl (.inl rfl)) (pss_cons (ps_set (i := 4) sc__law_row.nd rfl (.inl rfl) (pe_op op_mod (pe_callTy call_int1 (by rfl) T.z_int (by decide +kernel) (pa_cons (pe_op op_add (pe_op op_mul (pe_op op_add (pv 4) pe_int) pe_int) (pe_op op_mul pe_int (pv 5))) pa_nil)) pe_int))
      (pss_one (ps_if (pt_cmpR op_gt (pv 3) pe_int (nomark _)) (pss_cons (ps_expr (pe_bm PySem.F.plainAttrs_list PySem.F.slot_list_append PySem.F.type_list_append mt_append (pv 2) (pa_cons (pe_op op_mod (pe_callTy call_int1 (by rfl) T.z_int (by decide +kernel) (pa_cons (pv 3) pa_nil)) pe_int) pa_nil)))
      (pss_one (ps_set (i := 3) sc__law_row.nd rfl (.inl rfl) (pe_op op_fdiv (pv 3) pe_int)))) (pss_one (ps_expr (pe_bm PySem.F.plainAttrs_list PySem.F.slot_list_append PySem.F.type_list_append mt_append (pv 2) (pa_cons (pe_op op_mod (pe_callTy call_int1 (by rfl) T.z_int (by decide +kernel) (pa_cons (pe_op op_fdiv (pv 4) pe_int) pa_nil)) pe_int) pa_nil))))))))
      (pss_one (ps_ret (pv 2)))))))), ?_⟩
    refine ⟨Nat.zero_le _, fun o no => ?_⟩
    refine ⟨fun σ' H' => ∃ r : Int, σ' = [some (.int c), some (.int many), some (.ref o), some (.int r), none, none] ∧ 0 ≤ r ∧ H' = upd H o (.lst []), ?_, ?_⟩
    · refine ⟨_, rfl, c, rfl, _, _, rfl, rfl, ⟨by decide, by decide, by decide⟩, _, _, rfl, rfl, _, rfl, ite2 (fun hg => ?_) (fun hg => ⟨0, rfl, by decide, rfl⟩)⟩
      exact ⟨_, rfl, c, rfl, _, rfl, by split <;> omega, rfl⟩
    · rintro σ' H' ⟨r, rfl, hr0, rfl⟩
      refine ⟨_, rfl, c, rfl, .inl ⟨_, rfl, _, _, rfl, rfl, (by show (0 : Int) < 2147483647; decide), ?_⟩⟩
      refine ⟨_, rfl, many, rfl, by omega, by omega, for_range (lo := 0) (n := many.toNat) (fun i σ H2 => ∃ (r s : Int) (k : Option V) (ns : List Int), σ = [some (.int c), some (.int many), some (.ref o), some (.int r), some (.int s), k] ∧ 0 ≤ r ∧ Same H H2 ∧ H2 o = some (.lst (ns.map V.int)) ∧ ns.length = i ∧ ∀ n ∈ ns, Num n)
        ⟨r, _, none, [], rfl, hr0, same_new no, upd_same, rfl, fun n hn => by cases hn⟩ ?_ ?_⟩
      · rintro i σ H2 hi ⟨r, s, k, ns, rfl, hr0, s2, eo, el, hN⟩
        refine ⟨_, rfl, _, _, rfl, rfl, _, _, rfl, rfl, .inr (by constructor <;> decide), _, rfl, _, _, rfl, rfl, .inl (by constructor <;> decide), _, _, rfl, rfl, .inl ⟨_, rfl, _, _, rfl, rfl, (by show (0 : Int) < 2147483647; decide), ?_⟩⟩
        have hlen : (ns.map V.int).length < sizeLine := by
          rw [List.length_map]
          exact sizeN (by omega)
        have fin : ∀ (z r' s' : Int), 0 ≤ r' → Num z → ∃ (r s : Int) (k : Option V) (ns' : List Int), [some (V.int c), some (.int many), some (.ref o), some (.int r'), some (.int s'), some (V.int (0 + (i : Nat)))] = [some (V.int c), some (.int many), some (.ref o), some (.int r), some (.int s), k] ∧ 0 ≤ r ∧ Same H (upd H2 o (.lst (ns.map V.int ++ [V.int z]))) ∧ (upd H2 o (.lst (ns.map V.int ++ [V.int z]))) o = some (.lst (ns'.map V.int)) ∧ ns'.length = i + 1 ∧ ∀ n ∈ ns', Num n := fun z r' s' hr' hz => by
          refine ⟨r', s', _, ns ++ [z], rfl, hr', same_put no s2, ?_, ?_, fun n hn => ?_⟩
          · rw [upd_same, List.map_append]
            rfl
          · rw [List.length_append, el]
            rfl
          · rcases List.mem_append.mp hn with hn | hn
            · exact hN n hn
            · rw [List.mem_singleton.mp hn]
              exact hz
        refine ⟨_, rfl, _, _, rfl, rfl, _, rfl, ite2 (fun hg => ?_) (fun hg => ?_)⟩
        · refine ⟨.ref o, rfl, .inl ⟨rfl, _, .inl (.inl eo)⟩, _, rfl, .inl ⟨_, rfl, _, _, rfl, rfl, (by show (0 : Int) < 1009; decide), o, _, _, rfl, rfl, eo, hlen, ?_⟩⟩
          refine ⟨_, rfl, _, _, rfl, rfl, ⟨by decide, by decide⟩, ?_⟩
          exact fin _ _ _ (Int.ediv_nonneg hr0 (by decide)) ⟨Int.emod_nonneg _ (by decide), Int.emod_lt_of_pos _ (by decide)⟩
        · refine ⟨.ref o, rfl, .inl ⟨rfl, _, .inl (.inl eo)⟩, _, rfl, _, _, rfl, rfl, ⟨by decide, by decide⟩, .inl ⟨_, rfl, _, _, rfl, rfl, (by show (0 : Int) < 1009; decide), o, _, _, rfl, rfl, eo, hlen, ?_⟩⟩
          exact fin _ _ _ hr0 ⟨Int.emod_nonneg _ (by decide), Int.emod_lt_of_pos _ (by decide)⟩
      · rintro σ H2 ⟨r, s, k, ns, rfl, hr0, s2, eo, el, hN⟩
        exact ⟨_, rfl, q H2 o ns s2 no eo (by omega) hN⟩

theorem ok__law_numbers (T : Txt P K mg a) : FnOk P w K mg base CX0 2 a.f__law_numbers a.fd__law_numbers ["script", "many"] (spNums K) := by
  refine T.F__law_numbers.ok sc__law_numbers (fun vs H Q E h => ?_) (fun cdv A outer s H vs Q E hr h => ?_)
  · obtain ⟨p, xs, m, rfl, _⟩ := h
    rfl
  · obtain ⟨b, xs, many, rfl, hS, hx, h0, h1, q⟩ := h
    refine ⟨_, (pss_cons (ps_set (i := 2) sc__law_numbers.nd rfl (.inl rfl) (pe_slice sl_list (pv 0) po_none (po_some pe_int)))
      (pss_cons (ps_set (i := 3) sc__law_numbers.nd rfl (.inl rfl) (pe_op op_add pe_int (pe_op op_fdiv (pv 1) (pe_callB (call_max2 rfl) (by rfl) T.z_max (by decide +kernel) (pa_cons pe_int (pa_cons (pe_callB call_len_seq (by rfl) T.z_len (by decide +kernel) (pa_cons (pv 2) pa_nil)) pa_nil))))))
      (pss_cons (ps_set (i := 4) sc__law_numbers.nd rfl (.inl rfl) (pe_lst pa_nil))
      (pss_cons (ps_for PassesOwn.never rfl (pi_list (pv 2)) (pg_name (i := 5) sc__law_numbers.nd rfl (.inl rfl)) (pss_one (ps_for PassesOwn.never rfl (pi_list (pe_call (ok__law_row T) (hr.mono (by decide)) (by rfl) T.m__law_row T.F__law_row.kp T.b__law_row .nil pass0 (pa_cons (pv 5) (pa_cons (pv 3) pa_nil)))) (pg_name (i := 6) sc__law_numbers.nd rfl (.inl rfl)) (pss_one (ps_expr (pe_bm PySem.F.plainAttrs_list PySem.F.slot_list_append PySem.F.type_list_append mt_append (pv 4) (pa_cons (pv 6) pa_nil)))))))
      (pss_cons (ps_while PassesOwn.never (pt_cmpR op_lt (pe_callB call_len_seq (by rfl) T.z_len (by decide +kernel) (pa_cons (pv 4) pa_nil)) (pv 1) (nomark _)) (pss_one (ps_expr (pe_bm PySem.F.plainAttrs_list PySem.F.slot_list_append PySem.F.type_list_append mt_append (pv 4) (pa_cons pe_int pa_nil)))))
      (pss_one (ps_ret (pe_slice sl_list (pv 4) po_none (po_some (pv 1)))))))))), ?_⟩
    refine ⟨.ref b, rfl, 63, rfl, b, xs.map V.int, rfl, hS, fun c nc => ?_⟩
    have ec : cutV (xs.map V.int) none (some 63) = xs.map V.int := by
      rw [show (63 : Int) = ((63 : Nat) : Int) from rfl, cut_to, List.take_of_length_le (by rw [List.length_map]; exact hx)]
    rw [ec]
    have sc1 := same_new (o := .lst (xs.map V.int)) nc
    refine ⟨_, rfl, .ref c, rfl, c, xs.map V.int, rfl, .inl (.inl (.inl upd_same)), _, _, rfl, ?_⟩
    rw [List.length_map]
    generalize hm : (if ((xs.length : Nat) : Int) > 1 then ((xs.length : Nat) : Int) else 1) = mx
    have hm1 : 1 ≤ mx := by rw [← hm]; split <;> omega
    have hm2 : mx ≤ 63 := by rw [← hm]; split <;> omega
    refine ⟨_, _, rfl, rfl, ⟨by omega, by omega⟩, _, _, rfl, rfl, Nat.zero_le _, fun o no => ?_⟩
    have hd0 : 0 ≤ many / mx := Int.ediv_nonneg h0 (by omega)
    have hd1 : many / mx ≤ many := Int.ediv_le_self _ h0
    have noc : o ≠ c := fun e => by rw [e, upd_same] at no; cases no
    have noH : H o = none := by rw [upd_ne noc] at no; exact no
    refine ⟨.ref c, rfl, c, rfl, ⟨xs.map V.int, .inl (.inl (by rw [upd_ne noc.symm]; exact upd_same))⟩, for_list (K := K) (a := c) (xs := xs.map V.int) (fun i σ H2 => ∃ (k5 k6 : Option V) (ns : List Int), σ = [some (.ref b), some (.int many), some (.ref c), some (.int (1 + many / mx)), some (.ref o), k5, k6] ∧ Same H H2 ∧ H2 c = some (.lst (xs.map V.int)) ∧ H2 o = some (.lst (ns.map V.int)) ∧ ns.length = i * (1 + many / mx).toNat ∧ ∀ n ∈ ns, Num n)
      ⟨none, none, [], rfl, sc1.trans (same_new no), by rw [upd_ne noc.symm]; exact upd_same, upd_same, by simp, fun n hn => by cases hn⟩ (fun i σ H2 _ ⟨_, _, _, _, _, e, _⟩ => .inl (.inl e)) ?_ ?_⟩
    · rintro i y σ H2 hi ⟨k5, k6, ns, rfl, s2, ec2, eo, el, hN⟩
      obtain ⟨z, hz, rfl⟩ := map_at hi
      have hil : i < xs.length := (List.getElem?_eq_some_iff.mp hz).1
      refine ⟨_, rfl, _, rfl, z, _, rfl, by omega, by omega, fun H3 p ms s3 np ep em hM => ?_⟩
      have npo : p ≠ o := fun e => by rw [e, eo] at np; cases np
      refine ⟨p, rfl, ⟨_, .inl (.inl ep)⟩, for_list (K := K) (a := p) (xs := ms.map V.int) (fun j σ H4 => ∃ (k6 : Option V) (ns : List Int), σ = [some (.ref b), some (.int many), some (.ref c), some (.int (1 + many / mx)), some (.ref o), some (.int z), k6] ∧ Same H H4 ∧ H4 c = some (.lst (xs.map V.int)) ∧ H4 p = some (.lst (ms.map V.int)) ∧ H4 o = some (.lst (ns.map V.int)) ∧ ns.length = i * (1 + many / mx).toNat + j ∧ ∀ n ∈ ns, Num n)
        ⟨k6, ns, rfl, s2.trans s3, s3 _ _ ec2, ep, s3 _ _ eo, el, hN⟩ (fun i σ H2 _ ⟨_, _, _, _, _, e, _⟩ => .inl (.inl e)) ?_ ?_⟩
      · rintro j y σ H4 hj ⟨k6, ns, rfl, s4, ec4, ep4, eo4, el4, hN4⟩
        obtain ⟨m, hm', rfl⟩ := map_at hj
        have hjl : j < ms.length := (List.getElem?_eq_some_iff.mp hm').1
        have nco : c ≠ o := noc.symm
        have hb1 : i * (1 + many / mx).toNat ≤ 63 * 1901 := Nat.mul_le_mul (by omega) (by omega)
        refine ⟨.ref o, rfl, .inl ⟨rfl, _, .inl (.inl eo4)⟩, _, rfl, o, _, _, rfl, rfl, eo4, ?_, ?_⟩
        · rw [List.length_map]
          exact sizeN (by omega)
        · refine ⟨_, ns ++ [m], rfl, same_put noH s4, by rw [upd_ne nco]; exact ec4, by rw [upd_ne npo]; exact ep4, by rw [upd_same, map_push], ?_, num_push hN4 (hM m (List.mem_of_getElem? hm'))⟩
          rw [List.length_append, el4]
          rfl
      · rintro σ H4 ⟨k6, ns, rfl, s4, ec4, ep4, eo4, el4, hN4⟩
        refine ⟨_, _, ns, rfl, s4, ec4, eo4, ?_, hN4⟩
        rw [el4, List.length_map, Nat.succ_mul]
        omega
    · rintro σ H2 ⟨k5, k6, ns, rfl, s2, ec2, eo, el, hN⟩
      have hb1 : (xs.map V.int).length * (1 + many / mx).toNat ≤ 63 * 1901 := Nat.mul_le_mul (by rw [List.length_map]; omega) (by omega)
      refine while_by (fun σ H3 => ∃ (ns : List Int), σ = [some (.ref b), some (.int many), some (.ref c), some (.int (1 + many / mx)), some (.ref o), k5, k6] ∧ Same H H3 ∧ H3 o = some (.lst (ns.map V.int)) ∧ ns.length ≤ 130000 ∧ ∀ n ∈ ns, Num n)
        (fun σ H3 => match H3 o with | some (.lst l) => many.toNat - l.length | _ => 0) ⟨ns, rfl, s2, eo, by omega, hN⟩ ?_ ?_
      · rintro σ H3 ⟨ns, rfl, s3, eo3, el3, hN3⟩
        refine ⟨.ref o, rfl, o, _, rfl, .inl (.inl (.inl eo3)), _, rfl, _, _, rfl, rfl, _, rfl, ite2 (fun hg => ?_) (fun hg => ?_)⟩
        · have hg' : (((ns.map V.int).length : Nat) : Int) < many := of_decide_eq_true hg
          rw [List.length_map] at hg'
          refine ⟨.ref o, rfl, .inl ⟨rfl, _, .inl (.inl eo3)⟩, o, _, _, rfl, rfl, eo3, ?_, ?_⟩
          · rw [List.length_map]
            exact sizeN (by omega)
          · refine ⟨⟨ns ++ [0], rfl, same_put noH s3, by rw [upd_same, map_push], by rw [List.length_append]; show ns.length + 1 ≤ _; omega, num_push hN3 ⟨by decide, by decide⟩⟩, ?_⟩
            rw [eo3, upd_same]
            show many.toNat - (ns.map V.int ++ [V.int 0]).length < many.toNat - (ns.map V.int).length
            rw [List.length_append, List.length_map]
            show many.toNat - (ns.length + 1) < _
            omega
        · have hg' : ¬ (((ns.map V.int).length : Nat) : Int) < many := fun z => hg (decide_eq_true z)
          rw [List.length_map] at hg'
          refine ⟨.ref o, rfl, _, rfl, many, rfl, o, _, rfl, .inl (.inl eo3), fun p np => ?_⟩
          rw [show many = ((many.toNat : Nat) : Int) by omega, cut_to, ← List.map_take]
          refine q _ p (ns.take many.toNat) (s3.trans (same_new np)) (s3.free np) upd_same ?_ (fun n hn => hN3 n (List.mem_of_mem_take hn))
          rw [List.length_take]
          omega
      · rintro σ H3 Q1 Q2 hQ ⟨v, e1, p, ys, e2, e3, m, e4, i, j, e5, e6, k, e7, e8⟩
        exact ⟨v, e1, p, ys, e2, e3, m, e4, i, j, e5, e6, k, e7, hQ _ _ e8⟩

theorem ok__law_lack (T : Txt P K mg a) : FnOk P w K mg base CX0 1 a.f__law_lack a.fd__law_lack ["table", "lot"] (spLawLack K) := by
  refine T.F__law_lack.ok sc__law_lack (fun vs H Q E h => ?_) (fun cdv A outer s H vs Q E hr h => ?_)
  · obtain ⟨t, rl, tb, L, rfl, _⟩ := h
    rfl
  · obtain ⟨t, rl, tb, L, rfl, hT, h6, hnd, hrl, hL6, hL, k⟩ := h
    refine ⟨_, (pss_cons (ps_set (i := 2) sc__law_lack.nd rfl (.inr rfl) (pe_lstM pa_nil))
      (pss_cons (ps_for PassesOwn.never rfl (pi_list (pv 1)) (pg_name (i := 3) sc__law_lack.nd rfl (.inl rfl)) (pss_one (ps_expr (pe_bm PySem.F.plainAttrs_list PySem.F.slot_list_extend PySem.F.type_list_extend mt_extend (pv 2) (pa_cons (pe_lc (g := gName 4) (own := [("column", 4)]) rfl sc__law_lack.nd (pi_list (pe_ix ix_seq (pv 0) (pv 3) (fun _ _ => rfl))) (blkOk_by (own := [("column", 4)]) (N := ["table", "lot", "known", "row", "column"]) (sc := defScope s__law_lack) (by decide +kernel)) (fun _ _ _ _ _ => (pg_name (i := 4) sc__law_lack.nd rfl (.inl rfl))) (fun _ _ _ _ _ => (pts_one (pt_cmpR (op_notIn_seqK (K := K)) (pv 4) (pv 2) (by rfl)))) (fun _ _ _ _ _ => (pv 4))) pa_nil)))))
      (pss_one (ps_ret (pe_op op_sub (pe_callB call_len_seq (by rfl) T.z_len (by decide +kernel) (pa_cons (pv 1) pa_nil)) (pe_callB call_len_seq (by rfl) T.z_len (by decide +kernel) (pa_cons (pv 2) pa_nil))))))), ?_⟩
    refine ⟨Nat.zero_le _, fun kl H1 s1 n1 e1 => ?_⟩
    refine ⟨.ref rl, rfl, rl, rfl, ⟨_, s1.seq hrl⟩, for_list (K := K) (a := rl) (xs := L.map V.int) (fun i σ H2 => ∃ (N : List Int) (z3 z4 : Option V), σ = [some (.ref t), some (.ref rl), some (.ref kl), z3, z4] ∧ Same H H2 ∧ H2 kl = some (.lst (N.map V.int)) ∧ N.Nodup ∧ (∀ c, c ∈ N ↔ ∃ r ∈ L.take i, c ∈ tP (keys tb) r) ∧ N.length ≤ 6 * i)
      ⟨[], _, _, rfl, s1, e1, List.nodup_nil, (fun c => ⟨(fun h => by cases h), (fun ⟨_, h, _⟩ => by cases h)⟩), Nat.zero_le _⟩ (fun i σ H2 _ ⟨_, _, _, _, s2, _⟩ => s2.seq hrl) ?_ ?_⟩
    · rintro i v σ H2 hi ⟨N, z3, z4, rfl, S2, e2, hn, hN, hl⟩
      obtain ⟨r, hr', rfl⟩ := map_at hi
      have hiL := (List.getElem?_eq_some_iff.mp hr').1
      have hrL := List.mem_of_getElem? hr'
      obtain ⟨row, hrow, hat, hq, hP⟩ := row_at (tabAt_up S2 hT) (hL r hrL).1 (hL r hrL).2
      have hr6 : row.2.length ≤ 6 := by rw [← hP]; exact h6 _
      have hrn : row.2.Nodup := hnd _ (List.mem_map_of_mem (f := fun z : Addr × List Int => z.2) (List.mem_of_getElem? hrow))
      refine ⟨.ref kl, rfl, .inl ⟨rfl, _, .inl (.inl e2)⟩, .ref t, rfl, _, rfl, .inl ⟨t, _, _, _, rfl, rfl, S2.seq hT.1, hat, row.1, rfl, ⟨_, hq⟩, fun D nD => lc_list (K := K) (a := row.1) (xs := row.2.map V.int) (fun p H3 => Same H2 H3 ∧ H3 D = some (.lst (((row.2.take p).filter fun c => !decide (c ∈ N)).map V.int))) ⟨same_new nD, upd_same⟩ (fun p H3 _ ⟨s3, _⟩ => s3.seq hq) ?_ ?_⟩⟩
      · rintro p v H3 hp ⟨S3, e3⟩
        obtain ⟨c, hc, rfl⟩ := map_at hp
        have htk : row.2.take (p + 1) = row.2.take p ++ [c] := by rw [List.take_add_one, hc]; rfl
        have hp6 := (List.getElem?_eq_some_iff.mp hc).1
        refine ⟨rfl, ?_⟩
        refine ⟨_, rfl, .ref kl, rfl, kl, _, rfl, .inl (.inl (.inl (S3 _ _ e2))), rfl, ?_, _, rfl, ?_⟩
        · rw [List.all_map]
          exact List.all_eq_true.mpr fun _ _ => rfl
        rw [show (if true then !inV (V.int c) (N.map V.int) else inV (V.int c) (N.map V.int)) = !decide (c ∈ N) from congrArg not (inV_ints c _)]
        refine ite2 (fun g => ?_) (fun g => ?_)
        · refine ⟨_, rfl, _, e3, sizeN ?_, same_put nD S3, ?_⟩
          · rw [List.length_map]
            have := List.length_filter_le (fun c => !decide (c ∈ N)) (row.2.take p)
            rw [List.length_take] at this
            omega
          · rw [upd_same, htk, List.filter_append, List.filter_cons_of_pos (p := fun c => !decide (c ∈ N)) g, List.filter_nil, List.map_append]
            rfl
        · refine ⟨S3, ?_⟩
          rw [htk, List.filter_append, List.filter_cons_of_neg (p := fun c => !decide (c ∈ N)) g, List.filter_nil, List.append_nil]
          exact e3
      · rintro H3 ⟨S3, e3⟩
        rw [List.length_map, List.take_length] at e3
        have hfl := List.length_filter_le (fun c => !decide (c ∈ N)) row.2
        have hfm : ∀ c, c ∈ (row.2.filter fun c => !decide (c ∈ N)) ↔ c ∈ row.2 ∧ c ∉ N := fun c => by
          rw [List.mem_filter]
          by_cases h : c ∈ N <;> simp [h]
        refine ⟨kl, D, _, _, rfl, rfl, S3 _ _ e2, e3, sizeL (by rw [List.length_map, List.length_map]; omega), ?_⟩
        refine ⟨N ++ row.2.filter (fun c => !decide (c ∈ N)), _, _, rfl, same_put n1 (S2.trans S3), by rw [upd_same, List.map_append], ?_, fun c => ?_, by rw [List.length_append]; omega⟩
        · rw [List.nodup_append]
          exact ⟨hn, hrn.filter _, fun a ha b hb e => ((hfm b).mp hb).2 (e ▸ ha)⟩
        · have htk : L.take (i + 1) = L.take i ++ [r] := by rw [List.take_add_one, hr']; rfl
          rw [List.mem_append, hfm, hN, htk, ← hP]
          constructor
          · rintro (⟨x, h1, h2⟩ | ⟨h1, _⟩)
            · exact ⟨x, List.mem_append_left _ h1, h2⟩
            · exact ⟨r, List.mem_append_right _ (List.mem_singleton.mpr rfl), h1⟩
          · rintro ⟨x, h1, h2⟩
            rcases List.mem_append.mp h1 with h1 | h1
            · exact .inl ⟨x, h1, h2⟩
            · rw [List.mem_singleton.mp h1] at h2
              by_cases h3 : ∃ r ∈ L.take i, c ∈ tP (keys tb) r
              · exact .inl h3
              · exact .inr ⟨h2, h3⟩
    · rintro σ H2 ⟨N, z3, z4, rfl, S2, e2, hn, hN, hl⟩
      rw [List.length_map, List.take_length] at hN
      refine ⟨.ref rl, rfl, rl, _, rfl, .inl (S2.seq hrl), .ref kl, rfl, kl, _, rfl, .inl (.inl (.inl e2)), _, _, rfl, rfl, ?_⟩
      rw [List.length_map, List.length_map]
      exact k H2 N S2 hn hN

theorem ok__law_parts (T : Txt P K mg a) : FnOk P w K mg base CX0 1 a.f__law_parts a.fd__law_parts ["lot"] (spLawParts K) := by
  refine T.F__law_parts.ok sc__law_parts (fun vs H Q E h => ?_) (fun cdv A outer s H vs Q E hr h => ?_)
  · obtain ⟨rl, W, rfl, _⟩ := h
    rfl
  · obtain ⟨rl, W, rfl, hrl, hW, k⟩ := h
    refine ⟨_, (pss_cons (ps_set (i := 1) sc__law_parts.nd rfl (.inl rfl) (pe_lstM (pa_cons (pe_lstM pa_nil) pa_nil)))
      (pss_cons (ps_for PassesOwn.never rfl (pi_list (pv 0)) (pg_name (i := 2) sc__law_parts.nd rfl (.inr rfl)) (pss_one (ps_set (i := 1) sc__law_parts.nd rfl (.inl rfl) (pe_op op_cat (pv 1) (pe_lc (g := gName 3) (tt := tYes) (own := [("part", 3)]) rfl sc__law_parts.nd (pi_list (pv 1)) (blkOk_by (own := [("part", 3)]) (N := ["lot", "found", "one", "part"]) (sc := defScope s__law_parts) (by decide +kernel)) (fun _ _ _ _ _ => (pg_name (i := 3) sc__law_parts.nd rfl (.inl rfl))) (fun _ _ _ _ _ => pts_nil) (fun _ _ _ _ _ => (pe_op op_cat (pv 3) (pe_lst (pa_cons (pv 2) pa_nil)))))))))
      (pss_one (ps_ret (pv 1))))), ?_⟩
    refine ⟨Nat.zero_le _, fun l0 H0 s0 n0 e0 => ⟨(by show 1 ≤ sizeLine; decide), fun fl0 H1 s1 n1 e1 => ?_⟩⟩
    have S1 := s0.trans s1
    refine ⟨.ref rl, rfl, rl, rfl, ⟨_, S1.seq hrl⟩, for_list (K := K) (a := rl) (xs := W.map V.int) (fun i σ H2 => ∃ (fl : Addr) (es : Tups) (z2 z3 : Option V), σ = [some (.ref rl), some (.ref fl), z2, z3] ∧ Same H H2 ∧ H2 fl = some (.lst (refs es)) ∧ IntsAt H2 es ∧ partsL (W.drop i) (keys es) = partsL W [[]] ∧ es.length = 2 ^ i ∧ ∀ e ∈ es, e.2.length ≤ i)
      ⟨fl0, [(l0, [])], _, _, rfl, S1, e1, (fun e he => ?_), rfl, rfl, (fun e he => by rw [List.mem_singleton.mp he]; exact Nat.le_refl _)⟩ (fun i σ H2 _ ⟨_, _, _, _, _, s2, _⟩ => s2.seq hrl) ?_ ?_⟩
    · rw [List.mem_singleton.mp he]
      exact s1 _ _ e0
    · rintro i v σ H2 hi ⟨fl, es, z2, z3, rfl, S2, e2, I2, hp2, l2, b2⟩
      obtain ⟨x, hx, rfl⟩ := map_at hi
      have hiW := (List.getElem?_eq_some_iff.mp hx).1
      have hes : es.length ≤ 32 := by
        rw [l2]
        exact Nat.pow_le_pow_right (n := 2) (by decide) (show i ≤ 5 by omega)
      refine ⟨.ref fl, rfl, .ref fl, rfl, fl, rfl, ⟨_, .inl (.inl e2)⟩, fun D nD => lc_list (K := K) (a := fl) (xs := refs es) (fun p H3 => ∃ es3 : Tups, Same H2 H3 ∧ H3 D = some (.lst (refs es3)) ∧ (∀ e ∈ es3, H3 e.1 = some (.lst (e.2.map V.int)) ∧ e.1 ≠ D) ∧ keys es3 = ((keys es).take p).map (fun y => y ++ [x]) ∧ es3.length = p ∧ ∀ e ∈ es3, e.2.length ≤ i + 1) ⟨[], same_new nD, upd_same, (fun e he => by cases he), rfl, rfl, fun e he => by cases he⟩ (fun p H3 _ ⟨_, s3, _⟩ => .inl (.inl (s3 _ _ e2))) ?_ ?_⟩
      · rintro p v H3 hp ⟨es3, S3, e3, I3, hk3, l3, b3⟩
        obtain ⟨q, hq, rfl⟩ := refs_at hp
        have hqm := List.mem_of_getElem? hq
        have hpl := (List.getElem?_eq_some_iff.mp hq).1
        have hkq : (keys es)[p]? = some q.2 := by unfold keys; rw [List.getElem?_map, hq]; rfl
        have hb := b2 q hqm
        refine ⟨rfl, ?_⟩
        refine ⟨_, rfl, _, rfl, (by show 1 ≤ sizeLine; decide), fun p1 np1 => ?_⟩
        have s4 : Same H3 (upd H3 p1 (.lst [.int x])) := same_new np1
        have e4 : (upd H3 p1 (.lst [.int x])) p1 = some (.lst [.int x]) := upd_same
        generalize upd H3 p1 (.lst [.int x]) = H4 at s4 e4 ⊢
        refine ⟨q.1, p1, _, _, rfl, rfl, s4 _ _ (S3 _ _ (I2 q hqm)), e4, sizeL (by rw [List.length_map]; show q.2.length + 1 ≤ _; omega), fun p2 np2 => ?_⟩
        have s5 : Same H4 (upd H4 p2 (.lst (q.2.map V.int ++ [.int x]))) := same_new np2
        have e5 : (upd H4 p2 (.lst (q.2.map V.int ++ [.int x]))) p2 = some (.lst ((q.2 ++ [x]).map V.int)) := by rw [upd_same, List.map_append]; rfl
        generalize upd H4 p2 (.lst (q.2.map V.int ++ [.int x])) = H5 at s5 e5 ⊢
        have S35 := s4.trans s5
        have np2D : p2 ≠ D := fun e => by rw [e, s4 _ _ e3] at np2; cases np2
        refine ⟨_, S35 _ _ e3, sizeN (by rw [refs_len]; omega), es3 ++ [(p2, q.2 ++ [x])], same_put nD (S3.trans S35), by rw [upd_same, ← refs_push], fun e he => ?_, ?_, by rw [List.length_append, l3]; rfl, fun e he => ?_⟩
        · rcases List.mem_append.mp he with he | he
          · exact ⟨by rw [upd_ne (I3 e he).2]; exact S35 _ _ (I3 e he).1, (I3 e he).2⟩
          · rw [List.mem_singleton.mp he]
            exact ⟨by rw [upd_ne np2D]; exact e5, np2D⟩
        · rw [keys_push, hk3, List.take_add_one, hkq, List.map_append]
          rfl
        · rcases List.mem_append.mp he with he | he
          · exact b3 e he
          · rw [List.mem_singleton.mp he]
            show (q.2 ++ [x]).length ≤ i + 1
            rw [List.length_append]
            show q.2.length + 1 ≤ _
            omega
      · rintro H3 ⟨es3, S3, e3, I3, hk3, l3, b3⟩
        rw [refs_len] at l3
        rw [refs_len, ← keys_len, List.take_length] at hk3
        refine ⟨fl, D, _, _, rfl, rfl, S3 _ _ e2, e3, sizeL (by rw [refs_len, refs_len]; omega), fun p np => ?_⟩
        have s4 : Same H3 (upd H3 p (.lst (refs es ++ refs es3))) := same_new np
        refine ⟨p, es ++ es3, _, _, rfl, (S2.trans S3).trans s4, by rw [upd_same]; unfold refs; rw [List.map_append], fun e he => s4 _ _ ?_, ?_, by rw [List.length_append, l3, l2, Nat.pow_succ]; omega, fun e he => ?_⟩
        · rcases List.mem_append.mp he with he | he
          · exact S3 _ _ (I2 e he)
          · exact (I3 e he).1
        · have hd : W.drop i = x :: W.drop (i + 1) := by
            rw [List.drop_eq_getElem_cons hiW]
            congr 1
            exact Option.some.inj (by rw [← List.getElem?_eq_getElem hiW, hx])
          rw [hd] at hp2
          rw [← hp2]
          show partsL (W.drop (i + 1)) (keys (es ++ es3)) = partsL (W.drop (i + 1)) (keys es ++ (keys es).map fun p => p ++ [x])
          rw [show keys (es ++ es3) = keys es ++ keys es3 from by unfold keys; rw [List.map_append], hk3]
        · rcases List.mem_append.mp he with he | he
          · have := b2 e he
            omega
          · exact b3 e he
    · rintro σ H2 ⟨fl, es, z2, z3, rfl, S2, e2, I2, hp2, l2, b2⟩
      rw [List.length_map, List.drop_length] at hp2
      exact ⟨_, rfl, k H2 fl es S2 e2 I2 hp2⟩

theorem ok__law_least (T : Txt P K mg a) : FnOk P w K mg base CX0 2 a.f__law_least a.fd__law_least ["table", "lot"] (spLawLeast K) := by
  refine T.F__law_least.ok sc__law_least (fun vs H Q E h => ?_) (fun cdv A outer s H vs Q E hr h => ?_)
  · obtain ⟨t, rl, tb, W, rfl, _⟩ := h
    rfl
  · obtain ⟨t, rl, tb, W, rfl, hT, h6, hnd, hrl, hW, hWr, k⟩ := h
    refine ⟨_, (pss_cons (ps_set (i := 2) sc__law_least.nd rfl (.inl rfl) (pe_call (ok__law_parts T) (hr.mono (by decide)) (by rfl) T.m__law_parts T.F__law_parts.kp T.b__law_parts .nil pass0 (pa_cons (pv 1) pa_nil)))
      (pss_cons (ps_set (i := 3) sc__law_least.nd rfl (.inr rfl) (pe_callB (cr_max rfl) (by rfl) T.z_max (by decide +kernel) (pa_cons (pe_lc (g := gName 6) (tt := tYes) (own := [("part", 6)]) rfl sc__law_least.nd (pi_list (pv 2)) (blkOk_by (own := [("part", 6)]) (N := ["table", "lot", "parts", "most_lacking", "best", "few", "part"]) (sc := defScope s__law_least) (by decide +kernel)) (fun _ _ _ _ _ => (pg_name (i := 6) sc__law_least.nd rfl (.inl rfl))) (fun _ _ _ _ _ => pts_nil) (fun _ _ _ _ _ => (pe_call (ok__law_lack T) (hr.mono (by decide)) (by rfl) T.m__law_lack T.F__law_lack.kp T.b__law_lack .nil pass0 (pa_cons (pv 0) (pa_cons (pv 6) pa_nil))))) pa_nil)))
      (pss_cons (ps_setLc (i := 4) rfl sc__law_least.nd rfl rfl (sw_true rfl rfl rfl (by decide +kernel)) (g := gName 6) (own := [("part", 6)]) (pi_list (pv 2)) (blkOk_by (own := [("part", 6)]) (N := ["table", "lot", "parts", "most_lacking", "best", "few", "part"]) (sc := defScope s__law_least) (by decide +kernel)) (fun _ _ _ _ _ => (pg_name (i := 6) sc__law_least.nd rfl (.inl rfl))) (fun _ _ _ _ _ => (pts_one (pt_cmpR op_eq (pe_call (ok__law_lack T) (hr.mono (by decide)) (by rfl) T.m__law_lack T.F__law_lack.kp T.b__law_lack .nil pass0 (pa_cons (pv 0) (pa_cons (pv 6) pa_nil))) (pv 3) (nomark _)))) (fun _ _ _ _ _ => (pv 6)))
      (pss_cons (ps_set (i := 5) sc__law_least.nd rfl (.inr rfl) (pe_callB (cr_min rfl) (by rfl) T.z_min (by decide +kernel) (pa_cons (pe_lc (g := gName 6) (tt := tYes) (own := [("part", 6)]) rfl sc__law_least.nd (pi_list (pv 4)) (blkOk_by (own := [("part", 6)]) (N := ["table", "lot", "parts", "most_lacking", "best", "few", "part"]) (sc := defScope s__law_least) (by decide +kernel)) (fun _ _ _ _ _ => (pg_name (i := 6) sc__law_least.nd rfl (.inl rfl))) (fun _ _ _ _ _ => pts_nil) (fun _ _ _ _ _ => (pe_callB (call_len_seqK (K := K)) (by rfl) T.z_len (by decide +kernel) (pa_cons (pv 6) pa_nil)))) pa_nil)))
      (pss_one (ps_ret (pe_ix ix_seq (pe_lc (g := gName 6) (own := [("part", 6)]) rfl sc__law_least.nd (pi_list (pv 4)) (blkOk_by (own := [("part", 6)]) (N := ["table", "lot", "parts", "most_lacking", "best", "few", "part"]) (sc := defScope s__law_least) (by decide +kernel)) (fun _ _ _ _ _ => (pg_name (i := 6) sc__law_least.nd rfl (.inl rfl))) (fun _ _ _ _ _ => (pts_one (pt_cmpR op_eq (pe_callB (call_len_seqK (K := K)) (by rfl) T.z_len (by decide +kernel) (pa_cons (pv 6) pa_nil)) (pv 5) (nomark _)))) (fun _ _ _ _ _ => (pv 6))) pe_int (fun _ _ => rfl)))))))), ?_⟩
    refine ⟨.ref rl, rfl, rl, W, rfl, hrl, hW, fun H1 pl es S1 e1 I1 hk => ?_⟩
    have hes : es.length ≤ 32 := by
      rw [← keys_len, hk, partsL_len]
      show 1 * 2 ^ W.length ≤ 32
      rw [Nat.one_mul]
      exact Nat.pow_le_pow_right (n := 2) (by decide) hW
    have hsub : ∀ e ∈ es, e.2.Sublist W := fun e he => mem_parts.mp (by rw [← hk]; exact List.mem_map_of_mem (f := fun z : Addr × List Int => z.2) he)
    have hlen : ∀ e ∈ es, e.2.length ≤ 5 := fun e he => Nat.le_trans (hsub e he).length_le hW
    have hrng : ∀ e ∈ es, ∀ r ∈ e.2, 0 ≤ r ∧ r < (tb.length : Int) := fun e he r hr' => hWr r ((hsub e he).subset hr')
    have hpos : 0 < es.length := by
      rw [← keys_len, hk, partsL_len]
      show 0 < 1 * 2 ^ W.length
      rw [Nat.one_mul]
      exact Nat.pow_pos (by decide)
    -- most_lacking
    refine ⟨.ref pl, rfl, pl, rfl, ⟨_, .inl (.inl e1)⟩, fun D nD => lc_list (K := K) (a := pl) (xs := refs es) (fun i H2 => ∃ ls : List Int, Same H1 H2 ∧ H2 D = some (.lst (ls.map V.int)) ∧ ls.length = i ∧ (∀ e ∈ es.take i, ∃ l ∈ ls, lackI (tP (keys tb)) e.2 l) ∧ ∀ l ∈ ls, ∃ e ∈ es, lackI (tP (keys tb)) e.2 l) ⟨[], same_new nD, upd_same, rfl, (fun e he => by cases he), fun e he => by cases he⟩ (fun i H2 _ ⟨_, s2, _⟩ => .inl (.inl (s2 _ _ e1))) ?_ ?_⟩
    · rintro i y H2 hi ⟨ls, S2, e2, l2, f2, b2⟩
      obtain ⟨q, hq, rfl⟩ := refs_at hi
      have hqm := List.mem_of_getElem? hq
      have hil := (List.getElem?_eq_some_iff.mp hq).1
      refine ⟨rfl, ?_⟩
      refine ⟨.ref t, rfl, _, rfl, t, q.1, tb, q.2, rfl, tabAt_up (S1.trans S2) hT, h6, hnd, .inl (.inl (S2 _ _ (I1 q hqm))), by have := hlen q hqm; omega, hrng q hqm, fun H3 ns s3 hn hm => ?_⟩
      have hla : lackI (tP (keys tb)) q.2 ((q.2.length : Int) - ns.length) := ⟨ns, hn, hm, rfl⟩
      refine ⟨_, s3 _ _ e2, sizeN (by rw [List.length_map]; omega), ls ++ [(q.2.length : Int) - ns.length], same_put nD (S2.trans s3), by rw [upd_same, List.map_append]; rfl, by rw [List.length_append, l2]; rfl, fun e he => ?_, fun l hl => ?_⟩
      · rw [List.take_add_one, hq] at he
        rcases List.mem_append.mp he with he | he
        · obtain ⟨l, h1, h2⟩ := f2 e he
          exact ⟨l, List.mem_append_left _ h1, h2⟩
        · rw [List.mem_singleton.mp he]
          exact ⟨_, List.mem_append_right _ (List.mem_singleton.mpr rfl), hla⟩
      · rcases List.mem_append.mp hl with hl | hl
        · exact b2 l hl
        · rw [List.mem_singleton.mp hl]
          exact ⟨q, hqm, hla⟩
    rintro H2 ⟨ls, S2, e2, l2, f2, b2⟩
    rw [refs_len] at l2
    rw [refs_len, List.take_length] at f2
    refine ⟨D, ls, rfl, .inl (.inl e2), by omega, fun m hm1 hm2 => ?_⟩
    have hmax : ∀ e ∈ es, ∀ x, lackI (tP (keys tb)) e.2 x → x ≤ m := fun e he x hx => by
      obtain ⟨l, h1, h2⟩ := f2 e he
      rw [lackI_uniq hx h2]
      exact hm2 l h1
    obtain ⟨e0, he0, hl0⟩ := b2 m hm1
    -- best
    refine ⟨.ref pl, rfl, pl, rfl, ⟨_, .inl (.inl (S2 _ _ e1))⟩, fun D2 nD2 => lc_list (K := K) (a := pl) (xs := refs es) (fun i H3 => ∃ bs : Tups, Same H2 H3 ∧ H3 D2 = some (.lst (refs bs)) ∧ bs.length ≤ i ∧ (∀ e ∈ bs, e ∈ es ∧ lackI (tP (keys tb)) e.2 m) ∧ ∀ e ∈ es.take i, lackI (tP (keys tb)) e.2 m → e ∈ bs) ⟨[], same_new nD2, upd_same, Nat.le_refl _, (fun e he => by cases he), fun e he => by cases he⟩ (fun i H3 _ ⟨_, s3, _⟩ => .inl (.inl (s3 _ _ (S2 _ _ e1)))) ?_ ?_⟩
    · rintro i y H3 hi ⟨bs, S3, e3, l3, b3, f3⟩
      obtain ⟨q, hq, rfl⟩ := refs_at hi
      have hqm := List.mem_of_getElem? hq
      have hil := (List.getElem?_eq_some_iff.mp hq).1
      have S13 := S2.trans S3
      refine ⟨rfl, ?_⟩
      refine ⟨.ref t, rfl, _, rfl, t, q.1, tb, q.2, rfl, tabAt_up (S1.trans S13) hT, h6, hnd, .inl (.inl (S13 _ _ (I1 q hqm))), by have := hlen q hqm; omega, hrng q hqm, fun H4 ns s4 hn hm => ?_⟩
      have hla : lackI (tP (keys tb)) q.2 ((q.2.length : Int) - ns.length) := ⟨ns, hn, hm, rfl⟩
      refine ⟨_, rfl, rfl, _, rfl, ite2 (fun g => ?_) (fun g => ?_)⟩
      · have hmq := kindI g
        rw [hmq] at hla
        refine ⟨_, rfl, _, s4 _ _ e3, sizeN (by rw [refs_len]; omega), bs ++ [q], same_put nD2 (S3.trans s4), by rw [upd_same, ← refs_push], by rw [List.length_append]; show bs.length + 1 ≤ _; omega, fun e he => ?_, fun e he hl => ?_⟩
        · rcases List.mem_append.mp he with he | he
          · exact b3 e he
          · rw [List.mem_singleton.mp he]
            exact ⟨hqm, hla⟩
        · rw [List.take_add_one, hq] at he
          rcases List.mem_append.mp he with he | he
          · exact List.mem_append_left _ (f3 e he hl)
          · rw [List.mem_singleton.mp he]
            exact List.mem_append_right _ (List.mem_singleton.mpr rfl)
      · refine ⟨bs, S3.trans s4, s4 _ _ e3, by omega, b3, fun e he hl => ?_⟩
        rw [List.take_add_one, hq] at he
        rcases List.mem_append.mp he with he | he
        · exact f3 e he hl
        · rw [List.mem_singleton.mp he] at hl
          exact absurd (decide_eq_true (congrArg V.int (lackI_uniq hla hl))) g
    rintro H3 ⟨bs, S3, e3, l3, b3, f3⟩
    rw [refs_len] at l3
    rw [refs_len, List.take_length] at f3
    have S13 := S2.trans S3
    have hb0 := f3 e0 he0 hl0
    have hIb : ∀ e ∈ bs, H3 e.1 = some (.lst (e.2.map V.int)) := fun e he => S13 _ _ (I1 e (b3 e he).1)
    -- few
    refine ⟨.ref D2, rfl, D2, rfl, ⟨_, .inl (.inl e3)⟩, fun D3 nD3 => lc_list (K := K) (a := D2) (xs := refs bs) (fun i H4 => Same H3 H4 ∧ H4 D3 = some (.lst (((bs.take i).map fun e => ((e.2.length : Nat) : Int)).map V.int))) ⟨same_new nD3, upd_same⟩ (fun i H4 _ ⟨s4, _⟩ => .inl (.inl (s4 _ _ e3))) ?_ ?_⟩
    · rintro i y H4 hi ⟨S4, e4⟩
      obtain ⟨q, hq, rfl⟩ := refs_at hi
      have hqm := List.mem_of_getElem? hq
      have hil := (List.getElem?_eq_some_iff.mp hq).1
      refine ⟨rfl, ?_⟩
      refine ⟨_, rfl, q.1, _, rfl, .inl (.inl (.inl (S4 _ _ (hIb q hqm)))), _, e4, sizeN (by rw [List.length_map, List.length_map, List.length_take]; omega), same_put nD3 S4, ?_⟩
      rw [upd_same, List.take_add_one, hq, List.map_append, List.map_append, List.length_map]
      rfl
    rintro H4 ⟨S4, e4⟩
    rw [refs_len, List.take_length] at e4
    refine ⟨D3, _, rfl, .inl (.inl e4), by rw [List.length_map]; exact List.length_pos_of_mem hb0, fun few hf1 hf2 => ?_⟩
    obtain ⟨ef, hef, hfe⟩ := List.mem_map.mp hf1
    have hIc : ∀ e ∈ bs, H4 e.1 = some (.lst (e.2.map V.int)) := fun e he => S4 _ _ (hIb e he)
    -- the first of these
    refine ⟨.ref D2, rfl, D2, rfl, ⟨_, .inl (.inl (S4 _ _ e3))⟩, fun D4 nD4 => lc_list (K := K) (a := D2) (xs := refs bs) (fun i H5 => ∃ cs : Tups, Same H4 H5 ∧ H5 D4 = some (.lst (refs cs)) ∧ cs.length ≤ i ∧ (∀ e ∈ cs, e ∈ bs ∧ ((e.2.length : Nat) : Int) = few) ∧ ∀ e ∈ bs.take i, ((e.2.length : Nat) : Int) = few → e ∈ cs) ⟨[], same_new nD4, upd_same, Nat.le_refl _, (fun e he => by cases he), fun e he => by cases he⟩ (fun i H5 _ ⟨_, s5, _⟩ => .inl (.inl (s5 _ _ (S4 _ _ e3)))) ?_ ?_⟩
    · rintro i y H5 hi ⟨cs, S5, e5, l5, b5, f5⟩
      obtain ⟨q, hq, rfl⟩ := refs_at hi
      have hqm := List.mem_of_getElem? hq
      have hil := (List.getElem?_eq_some_iff.mp hq).1
      refine ⟨rfl, ?_⟩
      refine ⟨_, rfl, q.1, _, rfl, .inl (.inl (.inl (S5 _ _ (hIc q hqm)))), ?_⟩
      rw [List.length_map]
      refine ⟨_, rfl, rfl, _, rfl, ite2 (fun g => ?_) (fun g => ?_)⟩
      · have hmq := kindI g
        refine ⟨_, rfl, _, e5, sizeN (by rw [refs_len]; omega), cs ++ [q], same_put nD4 S5, by rw [upd_same, ← refs_push], by rw [List.length_append]; show cs.length + 1 ≤ _; omega, fun e he => ?_, fun e he hl => ?_⟩
        · rcases List.mem_append.mp he with he | he
          · exact b5 e he
          · rw [List.mem_singleton.mp he]
            exact ⟨hqm, hmq⟩
        · rw [List.take_add_one, hq] at he
          rcases List.mem_append.mp he with he | he
          · exact List.mem_append_left _ (f5 e he hl)
          · rw [List.mem_singleton.mp he]
            exact List.mem_append_right _ (List.mem_singleton.mpr rfl)
      · refine ⟨cs, S5, e5, by omega, b5, fun e he hl => ?_⟩
        rw [List.take_add_one, hq] at he
        rcases List.mem_append.mp he with he | he
        · exact f5 e he hl
        · rw [List.mem_singleton.mp he] at hl
          exact absurd (decide_eq_true (congrArg V.int hl)) g
    rintro H5 ⟨cs, S5, e5, l5, b5, f5⟩
    rw [refs_len, List.take_length] at f5
    have hc0 := f5 ef hef hfe
    obtain ⟨c0, cr, rfl⟩ : ∃ c0 cr, cs = c0 :: cr := by
      cases cs with
      | nil => cases hc0
      | cons c0 cr => exact ⟨c0, cr, rfl⟩
    obtain ⟨hcb, hcf⟩ := b5 c0 (List.mem_cons_self ..)
    obtain ⟨hce, hcl⟩ := b3 c0 hcb
    refine .inl ⟨D4, _, _, _, rfl, rfl, .inl (.inl e5), atI_nat (j := 0) rfl, ?_⟩
    refine k H5 c0.1 c0.2 (((S1.trans S13).trans S4).trans S5) (S5 _ _ (hIc c0 hcb)) (by rw [← hk]; exact List.mem_map_of_mem (f := fun z : Addr × List Int => z.2) hce) (fun M hM x y hx hy => ?_) (fun M hM x hx hy => ?_)
    · rw [← hk] at hM
      obtain ⟨e, he, rfl⟩ := List.mem_map.mp hM
      rw [lackI_uniq hy hcl]
      exact hmax e he x hx
    · rw [← hk] at hM
      obtain ⟨e, he, rfl⟩ := List.mem_map.mp hM
      rw [lackI_uniq hy hcl] at hx
      have h1 := hf2 _ (List.mem_map_of_mem (f := fun e : Addr × List Int => ((e.2.length : Nat) : Int)) (f3 e he hx))
      have h1' : few ≤ ((e.2.length : Nat) : Int) := h1
      omega

theorem ok__law_exchanged (T : Txt P K mg a) : FnOk P w K mg base CX0 1 a.f__law_exchanged a.fd__law_exchanged ["table", "many"] (spLawExch K) := by
  refine T.F__law_exchanged.ok sc__law_exchanged (fun vs H Q E h => ?_) (fun cdv A outer s H vs Q E hr h => ?_)
  · obtain ⟨t, tb, many, rfl, _⟩ := h
    rfl
  · obtain ⟨t, tb, many, rfl, hT, h5, hm, k⟩ := h
    refine ⟨_, (pss_cons (ps_set (i := 2) sc__law_exchanged.nd rfl (.inl rfl) (pe_lstM pa_nil))
      (pss_cons (ps_for PassesOwn.never rfl (pi_range1 (by rfl) T.z_range (pa_cons (pv 1) pa_nil)) (pg_name (i := 3) sc__law_exchanged.nd rfl (.inr rfl)) (pss_one (ps_expr (pe_bm PySem.F.plainAttrs_list PySem.F.slot_list_append PySem.F.type_list_append mt_append (pv 2) (pa_cons (pe_lc (g := gName 4) (own := [("row", 4)]) rfl sc__law_exchanged.nd (pi_range1 (by rfl) T.z_range (pa_cons (pe_callB call_len_seq (by rfl) T.z_len (by decide +kernel) (pa_cons (pv 0) pa_nil)) pa_nil)) (blkOk_by (own := [("row", 4)]) (N := ["table", "many", "found", "column", "row"]) (sc := defScope s__law_exchanged) (by decide +kernel)) (fun _ _ _ _ _ => (pg_name (i := 4) sc__law_exchanged.nd rfl (.inl rfl))) (fun _ _ _ _ _ => (pts_one (pt_cmpR (op_in_seqK (K := K)) (pv 3) (pe_ix (ix_seqK (K := K)) (pv 0) (pv 4) (fun _ _ => rfl)) (by rfl)))) (fun _ _ _ _ _ => (pv 4))) pa_nil)))))
      (pss_one (ps_ret (pv 2))))), ?_⟩
    have hkl := keys_len tb
    refine ⟨Nat.zero_le _, fun fl H1 s1 n1 e1 => ?_⟩
    refine ⟨_, rfl, (many : Int), rfl, by omega, by omega, for_range (lo := 0) (n := many) (fun i σ H2 => ∃ (ks : Tups) (z3 z4 : Option V), σ = [some (.ref t), some (.int many), some (.ref fl), z3, z4] ∧ Same H H2 ∧ H2 fl = some (.lst (refs ks)) ∧ (∀ p ∈ ks, H2 p.1 = some (.lst (p.2.map V.int)) ∧ p.1 ≠ fl) ∧ keys ks = (List.range i).map (turnedI (keys tb)) ∧ ks.length = i)
      ⟨[], _, _, rfl, s1, e1, (fun p hp => by cases hp), rfl, rfl⟩ ?_ ?_⟩
    · rintro i σ H2 hi ⟨ks, z3, z4, rfl, S2, e2, t2, k2, l2⟩
      have hT2 := tabAt_up S2 hT
      have hzi : (0 : Int) + (i : Int) = i := Int.zero_add _
      refine ⟨.ref fl, rfl, .inl ⟨rfl, _, .inl (.inl e2)⟩, .ref t, rfl, t, _, rfl, .inl hT2.1, _, rfl, (by rw [refs_len]; omega), (by rw [refs_len]; omega), fun D nD => lc_range (lo := 0) (n := (refs tb).length) (fun j H3 => Same H2 H3 ∧ H3 D = some (.lst ((((List.range j).map Int.ofNat).filter fun r => decide ((i : Int) ∈ tP (keys tb) r)).map V.int))) ⟨same_new nD, upd_same⟩ ?_ ?_⟩
      · rintro j H3 hj ⟨S3, e3⟩
        rw [refs_len] at hj
        have hzj : (0 : Int) + (j : Int) = j := Int.zero_add _
        obtain ⟨row, hrow, hat, hq, hP⟩ := row_at (tabAt_up S3 hT2) (r := 0 + (j : Int)) (by omega) (by omega)
        refine ⟨rfl, ?_⟩
        refine ⟨_, rfl, .ref t, rfl, _, rfl, .inl ⟨t, _, _, _, rfl, rfl, S3.seq hT2.1, hat, row.1, _, rfl, .inl hq, rfl, ?_, _, rfl, ?_⟩⟩
        · rw [List.all_map]
          exact List.all_eq_true.mpr fun _ _ => rfl
        rw [show (if false then !inV (V.int (0 + (i : Int))) (row.2.map V.int) else inV (V.int (0 + (i : Int))) (row.2.map V.int)) = decide ((i : Int) ∈ tP (keys tb) (j : Int)) from by rw [hzj] at hP; rw [hP, hzi]; exact inV_ints _ _]
        have hst : (List.range (j + 1)).map Int.ofNat = (List.range j).map Int.ofNat ++ [(j : Int)] := by rw [List.range_succ, List.map_append]; rfl
        refine ite2 (fun g => ?_) (fun g => ?_)
        · refine ⟨_, rfl, _, e3, sizeN ?_, same_put nD S3, ?_⟩
          · rw [List.length_map]
            have := List.length_filter_le (fun r => decide ((i : Int) ∈ tP (keys tb) r)) ((List.range j).map Int.ofNat)
            rw [List.length_map, List.length_range] at this
            omega
          · rw [upd_same, hst, List.filter_append, List.filter_cons_of_pos (p := fun r => decide ((i : Int) ∈ tP (keys tb) r)) g, List.filter_nil, List.map_append, hzj]
            rfl
        · refine ⟨S3, ?_⟩
          rw [hst, List.filter_append, List.filter_cons_of_neg (p := fun r => decide ((i : Int) ∈ tP (keys tb) r)) g, List.filter_nil, List.append_nil]
          exact e3
      · rintro H3 ⟨S3, e3⟩
        have e3' : H3 D = some (.lst ((turnedI (keys tb) i).map V.int)) := by
          rw [e3, refs_len, ← hkl]
          rfl
        have e3f := S3 _ _ e2
        have hDf : D ≠ fl := fun e => by rw [e, e2] at nD; cases nD
        refine ⟨fl, _, _, rfl, rfl, e3f, sizeN (by rw [refs_len]; omega), ?_⟩
        refine ⟨ks ++ [(D, turnedI (keys tb) i)], _, _, rfl, same_put n1 (S2.trans S3), by rw [upd_same, ← refs_push], fun p hp => ?_, by rw [keys_push, k2, List.range_succ, List.map_append]; rfl, by rw [List.length_append, l2]; rfl⟩
        rcases List.mem_append.mp hp with hp | hp
        · exact ⟨by rw [upd_ne (t2 p hp).2]; exact S3 _ _ (t2 p hp).1, (t2 p hp).2⟩
        · rw [List.mem_singleton.mp hp]
          exact ⟨by rw [upd_ne hDf]; exact e3', hDf⟩
    · rintro σ H2 ⟨ks, z3, z4, rfl, S2, e2, t2, k2, _⟩
      exact ⟨_, rfl, k H2 fl ks S2 e2 (fun p hp => .inl (.inl (t2 p hp).1)) k2⟩

theorem ok__law_drawn (T : Txt P K mg a) : FnOk P w K mg base CX0 1 a.f__law_drawn a.fd__law_drawn ["numbers", "at"] (spDrawnA K) := by
  refine T.F__law_drawn.ok sc__law_drawn (fun vs H Q E h => ?_) (fun cdv A outer s H vs Q E hr h => ?_)
  · obtain ⟨p1, ns, at', rfl, _⟩ := h
    rfl
  · obtain ⟨p1, ns, at', rfl, hL, hN, ha, hlen, k⟩ := h
    refine ⟨_, (pss_cons (ps_set (i := 2) sc__law_drawn.nd rfl (.inl rfl) (pe_lstM pa_nil))
      (pss_cons (ps_for PassesOwn.never rfl (pi_range1 (by rfl) T.z_range (pa_cons (pe_op op_mod (pe_callTy call_int1 (by rfl) T.z_int (by decide +kernel) (pa_cons (pe_ix ix_seq (pv 0) (pv 1) (fun _ _ => rfl)) pa_nil)) pe_int) pa_nil)) (pg_name (i := 3) sc__law_drawn.nd rfl (.inl rfl)) (pss_cons (ps_set (i := 4) sc__law_drawn.nd rfl (.inr rfl) (pe_callTy call_int1 (by rfl) T.z_int (by decide +kernel) (pa_cons (pe_ix ix_seq (pv 0) (pe_op op_add (pe_op op_add (pv 1) pe_int) (pv 3)) (fun _ _ => rfl)) pa_nil)))
      (pss_cons (ps_expr (pe_bm PySem.F.plainAttrs_list PySem.F.slot_list_append PySem.F.type_list_append mt_append (pv 2) (pa_cons (pe_lc (g := gName 5) (own := [("column", 5)]) rfl sc__law_drawn.nd (pi_range1 (by rfl) T.z_range (pa_cons pe_int pa_nil)) (blkOk_by (own := [("column", 5)]) (N := ["numbers", "at", "table", "k", "draw", "column"]) (sc := defScope s__law_drawn) (by decide +kernel)) (fun _ _ _ _ _ => (pg_name (i := 5) sc__law_drawn.nd rfl (.inl rfl))) (fun _ _ _ _ _ => (pts_one (pt_cmpR op_eq (pe_op op_mod (pe_callTy call_int1 (by rfl) T.z_int (by decide +kernel) (pa_cons (pe_op op_fdiv (pv 4) (pe_ix (ix_seqK (K := K)) (pe_lst (pa_cons pe_int (pa_cons pe_int (pa_cons pe_int (pa_cons pe_int (pa_cons pe_int (pa_cons pe_int pa_nil))))))) (pv 5) (fun _ _ => rfl))) pa_nil)) pe_int) pe_int (nomark _)))) (fun _ _ _ _ _ => (pv 5))) pa_nil)))
      (pss_one (ps_if (pt_cmpR op_eq (pe_op op_mod (pe_callTy call_int1 (by rfl) T.z_int (by decide +kernel) (pa_cons (pv 4) pa_nil)) pe_int) pe_int (nomark _)) (pss_one (ps_asg (pe_slice sl_listM (pe_ix ix_seq (pv 2) (pe_un un_neg pe_int) (fun _ _ => rfl)) po_none (po_some pe_int)) (pg_sub (pv 2) (pe_un un_neg pe_int) set_list))) pss_nil)))))
      (pss_one (ps_ret (pv 2))))), ?_⟩
    refine ⟨Nat.zero_le _, fun t H1 s1 n1 e1 => ?_⟩
    have hL1 := s1.seq hL
    have hm := Int.emod_nonneg (numI ns at') (show (6 : Int) ≠ 0 by decide)
    have hm2 := Int.emod_lt_of_pos (numI ns at') (show (0 : Int) < 6 by decide)
    refine ⟨.ref p1, rfl, _, rfl, .inl ⟨p1, _, _, _, rfl, rfl, hL1, nthI (by omega) (by omega), .inl ⟨_, rfl, _, _, rfl, rfl, (by show (0 : Int) < 6; decide), _, rfl, (by show -2 ^ 62 ≤ numI ns at' % 6; omega), (by show numI ns at' % 6 < _; omega), for_range (lo := 0) (n := (numI ns at' % 6).toNat) (fun i σ H2 => ∃ (z3 z4 z5 : Option V) (tb : Tups), σ = [some (.ref p1), some (.int at'), some (.ref t), z3, z4, z5] ∧ Same H H2 ∧ H2 t = some (.lst (refs tb)) ∧ (∀ p ∈ tb, H2 p.1 = some (.lst (p.2.map V.int)) ∧ p.1 ≠ t) ∧ tb.length ≤ i ∧ ∀ p ∈ tb, p.2.Nodup ∧ ∀ c ∈ p.2, 0 ≤ c ∧ c < 6)
      ⟨none, none, none, [], rfl, s1, e1, (fun p hp => by cases hp), Nat.le_refl _, fun p hp => by cases hp⟩ ?_ ?_⟩⟩⟩
    · rintro i σ H2 hi ⟨z3, z4, z5, tb, rfl, S2, e2, t2, l2, w2⟩
      have hL2 := S2.seq hL
      have hi6 : (i : Int) < numI ns at' % 6 := by omega
      refine ⟨.ref p1, rfl, _, rfl, _, _, rfl, rfl, _, rfl, _, _, rfl, rfl, .inl ⟨p1, _, _, _, rfl, rfl, hL2, nthI (by omega) (by omega), .inl ⟨_, rfl, ?_⟩⟩⟩
      obtain ⟨dr, hdr⟩ : ∃ dr, numI ns (at' + 1 + (0 + (i : Int))) = dr := ⟨_, rfl⟩
      rw [hdr]
      have hd0 : Num dr := hdr ▸ num_at hN _
      refine ⟨.ref t, rfl, .inl ⟨rfl, _, .inl (.inl e2)⟩, _, rfl, by decide, by decide, fun D nD => lc_range (lo := 0) (n := 6) (fun c H3 => ∃ W : List Int, Same H2 H3 ∧ H3 D = some (.lst (W.map V.int)) ∧ W.Nodup ∧ W.length ≤ c ∧ ∀ r ∈ W, 0 ≤ r ∧ r < (c : Int)) ⟨[], same_new nD, upd_same, List.nodup_nil, Nat.le_refl _, fun r hr' => by cases hr'⟩ ?_ ?_⟩
      · rintro c H3 hc ⟨W, S3, e3, hn, hl, hr'⟩
        refine ⟨rfl, ?_⟩
        refine ⟨_, rfl, (by show 6 ≤ sizeLine; decide), fun p np => ?_⟩
        have s4 : Same H3 (upd H3 p (.lst [.int 1, .int 3, .int 9, .int 27, .int 81, .int 243])) := same_new np
        have e4 : (upd H3 p (.lst [.int 1, .int 3, .int 9, .int 27, .int 81, .int 243])) p = some (.lst [.int 1, .int 3, .int 9, .int 27, .int 81, .int 243]) := upd_same
        generalize upd H3 p (.lst [.int 1, .int 3, .int 9, .int 27, .int 81, .int 243]) = H4 at s4 e4 ⊢
        obtain ⟨d, ed, hd⟩ := pickI (zs := [1, 3, 9, 27, 81, 243]) (j := 0 + (c : Int)) (P := fun z => 0 < z ∧ z ≤ 1000) (by decide) (by omega) (by show 0 + (c : Int) < 6; omega)
        refine ⟨_, rfl, .inl ⟨p, _, _, _, rfl, rfl, .inl (.inl e4), ed, _, _, rfl, rfl, ⟨by omega, by omega⟩, .inl ⟨_, rfl, _, _, rfl, rfl, (by show (0 : Int) < 3; decide), rfl, _, rfl, ite2 (fun g => ?_) (fun g => ?_)⟩⟩⟩
        · refine ⟨_, rfl, _, s4 _ _ e3, sizeN (by rw [List.length_map]; omega), W ++ [0 + (c : Int)], same_put nD (S3.trans s4), by rw [upd_same, List.map_append]; rfl, ?_, by rw [List.length_append]; show W.length + 1 ≤ _; omega, fun r hr2 => ?_⟩
          · exact nodup_push hn fun h => by
              have := hr' _ h
              omega
          · rcases List.mem_append.mp hr2 with h | h
            · have := hr' _ h
              omega
            · rw [List.mem_singleton.mp h]
              omega
        · exact ⟨W, S3.trans s4, s4 _ _ e3, hn, by omega, fun r h => by
            have := hr' _ h
            omega⟩
      · rintro H3 ⟨W, S3, e3, hn, hl, hr'⟩
        have e3t := S3 _ _ e2
        have nDt : D ≠ t := fun z => by rw [z, e2] at nD; cases nD
        have hm1 : Same H H3 := S2.trans S3
        have t3 : ∀ p ∈ tb, H3 p.1 = some (.lst (p.2.map V.int)) ∧ p.1 ≠ t := fun p hp => ⟨S3 _ _ (t2 p hp).1, (t2 p hp).2⟩
        refine ⟨t, _, _, rfl, rfl, e3t, sizeN (by rw [refs_len]; omega), ?_⟩
        have s4 : Same H (upd H3 t (.lst (refs tb ++ [.ref D]))) := same_put n1 hm1
        have e4 : (upd H3 t (.lst (refs tb ++ [.ref D]))) t = some (.lst (refs tb ++ [.ref D])) := upd_same
        have eD4 : (upd H3 t (.lst (refs tb ++ [.ref D]))) D = some (.lst (W.map V.int)) := by rw [upd_ne nDt]; exact e3
        have t4 : ∀ p ∈ tb, (upd H3 t (.lst (refs tb ++ [.ref D]))) p.1 = some (.lst (p.2.map V.int)) ∧ p.1 ≠ t := fun p hp => ⟨by rw [upd_ne (t3 p hp).2]; exact (t3 p hp).1, (t3 p hp).2⟩
        generalize upd H3 t (.lst (refs tb ++ [.ref D])) = H4 at s4 e4 eD4 t4 ⊢
        refine ⟨_, rfl, .inl ⟨_, rfl, _, _, rfl, rfl, (by show (0 : Int) < 2; decide), rfl, _, rfl, ite2 (fun g => ?_) (fun g => ?_)⟩⟩
        · refine ⟨.ref t, rfl, ?_⟩
          refine ⟨_, rfl, .inl ⟨t, _, _, _, rfl, rfl, .inl (.inl e4), L2.atI_last _ _, ?_⟩⟩
          refine ⟨2, rfl, D, _, rfl, .inl (.inl eD4), fun q6 H6 s6 n6 e6 => ?_⟩
          obtain ⟨ys, ey, hys⟩ := cut_sub W none (some 2)
          rw [ey] at e6
          have e6t := s6 _ _ e4
          have nq : q6 ≠ t := fun e => by rw [e, e4] at n6; cases n6
          refine ⟨.ref t, rfl, ?_⟩
          refine ⟨_, rfl, t, _, _, tb.length, rfl, rfl, e6t, (by rw [List.length_append, refs_len]; exact ixN_last _), ?_⟩
          refine ⟨_, _, _, tb ++ [(q6, ys)], rfl, same_put n1 (s4.trans s6), by rw [upd_same, ← refs_len tb, set_last, ← refs_push], fun p hp => ?_, by rw [List.length_append]; show tb.length + 1 ≤ _; omega, fun p hp => ?_⟩
          · rcases List.mem_append.mp hp with hp | hp
            · exact ⟨by rw [upd_ne (t4 p hp).2]; exact s6 _ _ (t4 p hp).1, (t4 p hp).2⟩
            · rw [List.mem_singleton.mp hp]
              exact ⟨by rw [upd_ne nq]; exact e6, nq⟩
          · rcases List.mem_append.mp hp with hp | hp
            · exact w2 p hp
            · rw [List.mem_singleton.mp hp]
              exact ⟨hn.sublist hys, fun c hc => hr' c (hys.subset hc)⟩
        · refine ⟨_, _, _, tb ++ [(D, W)], rfl, s4, by rw [e4, ← refs_push], fun p hp => ?_, by rw [List.length_append]; show tb.length + 1 ≤ _; omega, fun p hp => ?_⟩
          · rcases List.mem_append.mp hp with hp | hp
            · exact t4 p hp
            · rw [List.mem_singleton.mp hp]
              exact ⟨eD4, nDt⟩
          · rcases List.mem_append.mp hp with hp | hp
            · exact w2 p hp
            · rw [List.mem_singleton.mp hp]
              exact ⟨hn, hr'⟩
    · rintro σ H2 ⟨z3, z4, z5, tb, rfl, S2, e2, t2, l2, w2⟩
      exact ⟨_, rfl, k H2 t tb S2 e2 (fun p hp => (t2 p hp).1) (by omega) w2⟩

theorem ok__law_some (T : Txt P K mg a) : FnOk P w K mg base CX0 1 a.f__law_some a.fd__law_some ["number", "many"] (spSomeA K) := by
  refine T.F__law_some.ok sc__law_some (fun vs H Q E h => ?_) (fun cdv A outer s H vs Q E hr h => ?_)
  · obtain ⟨n, many, rfl, _⟩ := h
    rfl
  · obtain ⟨n, many, rfl, hm6, hN, k⟩ := h
    refine ⟨_, (pss_one (ps_ret (pe_lc (g := gName 2) (own := [("k", 2)]) rfl sc__law_some.nd (pi_range1 (by rfl) T.z_range (pa_cons (pv 1) pa_nil)) (blkOk_by (own := [("k", 2)]) (N := ["number", "many", "k"]) (sc := defScope s__law_some) (by decide +kernel)) (fun _ _ _ _ _ => (pg_name (i := 2) sc__law_some.nd rfl (.inl rfl))) (fun _ _ _ _ _ => (pts_one (pt_cmpR op_gt (pe_op op_mod (pe_callTy call_int1 (by rfl) T.z_int (by decide +kernel) (pa_cons (pe_op op_fdiv (pv 0) (pe_ix (ix_seqK (K := K)) (pe_lst (pa_cons pe_int (pa_cons pe_int (pa_cons pe_int (pa_cons pe_int (pa_cons pe_int (pa_cons pe_int pa_nil))))))) (pv 2) (fun _ _ => rfl))) pa_nil)) pe_int) pe_int (nomark _)))) (fun _ _ _ _ _ => (pv 2))))), ?_⟩
    refine ⟨_, rfl, (many : Int), rfl, by omega, by omega, fun D nD => lc_range (lo := 0) (n := many) (fun i H2 => ∃ W : List Int, Same H H2 ∧ H2 D = some (.lst (W.map V.int)) ∧ W.Pairwise (· < ·) ∧ W.length ≤ i ∧ ∀ r ∈ W, 0 ≤ r ∧ r < (i : Int)) ⟨[], same_new nD, upd_same, List.Pairwise.nil, Nat.le_refl _, fun r hr' => by cases hr'⟩ ?_ ?_⟩
    · rintro i H2 hi ⟨W, S2, e2, hn, hl, hr'⟩
      refine ⟨rfl, ?_⟩
      refine ⟨_, rfl, (by show 6 ≤ sizeLine; decide), fun p np => ?_⟩
      have s3 : Same H2 (upd H2 p (.lst [.int 1, .int 2, .int 4, .int 8, .int 16, .int 32])) := same_new np
      have e3 : (upd H2 p (.lst [.int 1, .int 2, .int 4, .int 8, .int 16, .int 32])) p = some (.lst [.int 1, .int 2, .int 4, .int 8, .int 16, .int 32]) := upd_same
      generalize upd H2 p (.lst [.int 1, .int 2, .int 4, .int 8, .int 16, .int 32]) = H3 at s3 e3 ⊢
      obtain ⟨d, ed, hd⟩ := pickI (zs := [1, 2, 4, 8, 16, 32]) (j := 0 + (i : Int)) (P := fun z => 0 < z ∧ z ≤ 1000) (by decide) (by omega) (by show 0 + (i : Int) < 6; omega)
      refine ⟨_, rfl, .inl ⟨p, _, _, _, rfl, rfl, .inl (.inl e3), ed, _, _, rfl, rfl, ⟨by omega, by omega⟩, .inl ⟨_, rfl, _, _, rfl, rfl, (by show (0 : Int) < 4; decide), _, _, rfl, rfl, _, rfl, ite2 (fun g => ?_) (fun g => ?_)⟩⟩⟩
      · refine ⟨_, rfl, _, s3 _ _ e2, sizeN (by rw [List.length_map]; omega), W ++ [0 + (i : Int)], same_put nD (S2.trans s3), by rw [upd_same, List.map_append]; rfl, ?_, by rw [List.length_append]; show W.length + 1 ≤ _; omega, fun r hr2 => ?_⟩
        · rw [List.pairwise_append]
          refine ⟨hn, List.pairwise_singleton _ _, fun x hx y hy => ?_⟩
          rw [List.mem_singleton.mp hy]
          have := hr' _ hx
          omega
        · rcases List.mem_append.mp hr2 with h | h
          · have := hr' _ h
            omega
          · rw [List.mem_singleton.mp h]
            omega
      · exact ⟨W, S2.trans s3, s3 _ _ e2, hn, by omega, fun r h => by
          have := hr' _ h
          omega⟩
    · rintro H2 ⟨W, S2, e2, hn, hl, hr'⟩
      exact k H2 D W S2 e2 hn hl hr'

theorem ok_law (T : Txt P K mg a) : FnOk P w K mg base CX0 6 a.f_law a.fd_law ["script"] (spLaw K) := by
  refine T.F_law.ok sc_law (fun vs H Q E h => ?_) (fun cdv A outer s H vs Q E hr h => ?_)
  · obtain ⟨b, xs, rfl, _⟩ := h
    rfl
  · obtain ⟨b, xs, rfl, hS, hx, k⟩ := h
    have hu1 : (A.deeper (envOfC "law" (defScope s_law) s.heap.objs.size a.f_law cdv)).units + 1 < cLine := by
      have := hr.un
      omega
    have hu64 : (A.deeper (envOfC "law" (defScope s_law) s.heap.objs.size a.f_law cdv)).units + 64 < cLine := by
      have := hr.un
      omega
    have hu65 : (A.deeper (envOfC "law" (defScope s_law) s.heap.objs.size a.f_law cdv)).units + 65 < cLine := by
      have := hr.un
      omega
    refine ⟨_, (pss_cons (ps_set (i := 1) sc_law.nd rfl (.inl rfl) (pe_call (ok__law_numbers T) (hr.mono (by decide)) (by rfl) T.m__law_numbers T.F__law_numbers.kp T.b__law_numbers .nil pass0 (pa_cons (pv 0) (pa_cons pe_int pa_nil))))
      (pss_cons (ps_set (i := 2) sc_law.nd rfl (.inl rfl) (pe_call (ok__law_drawn T) (hr.mono (by decide)) (by rfl) T.m__law_drawn T.F__law_drawn.kp T.b__law_drawn .nil pass0 (pa_cons (pv 1) (pa_cons pe_int pa_nil))))
      (pss_cons (ps_set (i := 3) sc_law.nd rfl (.inl rfl) (pe_call (ok__law_some T) (hr.mono (by decide)) (by rfl) T.m__law_some T.F__law_some.kp T.b__law_some .nil pass0 (pa_cons (pe_ix ix_seq (pv 1) pe_int (fun _ _ => rfl)) (pa_cons (pe_callB call_len_seq (by rfl) T.z_len (by decide +kernel) (pa_cons (pv 2) pa_nil)) pa_nil))))
      (pss_cons (ps_setLc (i := 5) rfl sc_law.nd rfl rfl (sw_true rfl rfl rfl (by decide +kernel)) (g := gName 4) (tt := tYes) (own := [("row", 4)]) (pi_list (pv 2)) (blkOk_by (own := [("row", 4)]) (N := ["script", "numbers", "table", "rows", "row", "handed", "due", "greatest", "part", "known", "many", "column"]) (sc := defScope s_law) (by decide +kernel)) (fun _ _ _ _ _ => (pg_name (i := 4) sc_law.nd rfl (.inl rfl))) (fun _ _ _ _ _ => pts_nil) (fun _ _ _ _ _ => (pe_callTy (call_list_ofK (K := K)) (by rfl) T.z_list (by decide +kernel) (pa_cons (pv 4) pa_nil))))
      (pss_cons (ps_set (i := 6) sc_law.nd rfl (.inl rfl) (pe_call (ok__law_least T) (hr.mono (by decide)) (by rfl) T.m__law_least T.F__law_least.kp T.b__law_least .nil pass0 (pa_cons (pv 2) (pa_cons (pv 3) pa_nil))))
      (pss_cons (ps_set (i := 7) sc_law.nd rfl (.inl rfl) (pe_call (ok__law_lack T) (hr.mono (by decide)) (by rfl) T.m__law_lack T.F__law_lack.kp T.b__law_lack .nil pass0 (pa_cons (pv 2) (pa_cons (pv 6) pa_nil))))
      (pss_cons (ps_for PassesOwn.never rfl (pi_list (pe_call (ok__law_parts T) (hr.mono (by decide)) (by rfl) T.m__law_parts T.F__law_parts.kp T.b__law_parts .nil pass0 (pa_cons (pv 3) pa_nil))) (pg_name (i := 8) sc_law.nd rfl (.inr rfl)) (pss_one (ps_if (PW.pt (pw_and (pt_cmpR op_eq (pe_call (ok__law_lack T) (hr.mono (by decide)) (by rfl) T.m__law_lack T.F__law_lack.kp T.b__law_lack .nil pass0 (pa_cons (pv 2) (pa_cons (pv 8) pa_nil))) (pv 7) (nomark _)) (pw_and1 (pt_not (pt_val (pe_callB (cr_all rfl) (by rfl) T.z_all (by decide +kernel) (pa_cons (pe_lc (g := gName 4) (tt := tYes) (own := [("row", 4)]) rfl sc_law.nd (pi_list (pv 6)) (blkOk_by (own := [("row", 4)]) (N := ["script", "numbers", "table", "rows", "row", "handed", "due", "greatest", "part", "known", "many", "column"]) (sc := defScope s_law) (by decide +kernel)) (fun _ _ _ _ _ => (pg_name (i := 4) sc_law.nd rfl (.inl rfl))) (fun _ _ _ _ _ => pts_nil) (fun _ _ _ _ _ => (pe_cmpR (op_in_seqK (K := K)) (pv 4) (pv 8) (by rfl)))) pa_nil))))))) (pss_one (ps_ret pe_bl)) pss_nil)))
      (pss_cons (ps_if (PW.pt (pw_or (pt_cmpR (op_neD hu64) (pe_call (ok_least_lot T) (hr.mono (by decide)) (by rfl) T.m_least_lot T.F_least_lot.kp T.b_least_lot .nil pass0 (pa_cons (pv 5) (pa_cons (pe_callTy call_list_of (by rfl) T.z_list (by decide +kernel) (pa_cons (pv 3) pa_nil)) pa_nil))) (pv 6) (nomark _)) (pw_or1 (pt_cmpR (op_neD hr.units) (pe_call (ok_most T) (hr.mono (by decide)) (by rfl) T.m_most T.F_most.kp T.b_most .nil pass0 (pa_cons (pv 5) (pa_cons (pe_callTy call_list_of (by rfl) T.z_list (by decide +kernel) (pa_cons (pv 3) pa_nil)) pa_nil))) (pe_op op_sub (pe_callB call_len_seq (by rfl) T.z_len (by decide +kernel) (pa_cons (pv 3) pa_nil)) (pv 7)) (nomark _))))) (pss_one (ps_ret pe_bl)) pss_nil)
      (pss_cons (ps_if (PW.pt (pw_or (pt_cmpR (op_neD hr.units) (pe_call (ok_lack T) (hr.mono (by decide)) (by rfl) T.m_lack T.F_lack.kp T.b_lack .nil pass0 (pa_cons (pv 5) (pa_cons (pe_callTy call_list_of (by rfl) T.z_list (by decide +kernel) (pa_cons (pv 3) pa_nil)) pa_nil))) (pe_call (ok__law_lack T) (hr.mono (by decide)) (by rfl) T.m__law_lack T.F__law_lack.kp T.b__law_lack .nil pass0 (pa_cons (pv 2) (pa_cons (pv 3) pa_nil))) (nomark _)) (pw_or1 (pt_cmpR op_ne (pe_cmpR (op_eqD hu64) (pv 6) (pe_lstM pa_nil) (nomark _)) (pe_cmpR op_eq (pv 7) pe_int (nomark _)) (nomark _))))) (pss_one (ps_ret pe_bl)) pss_nil)
      (pss_cons (ps_set (i := 9) sc_law.nd rfl (.inr rfl) (pe_lstM pa_nil))
      (pss_cons (ps_for PassesOwn.never rfl (pi_list (pv 3)) (pg_name (i := 4) sc_law.nd rfl (.inl rfl)) (pss_one (ps_set (i := 9) sc_law.nd rfl (.inr rfl) (pe_op op_cat (pv 9) (pe_ix ix_seq (pv 2) (pv 4) (fun _ _ => rfl))))))
      (pss_cons (ps_if (pt_cmpR (op_neD hu64) (pe_call (ok_partners T) (hr.mono (by decide)) (by rfl) T.m_partners T.F_partners.kp T.b_partners .nil pass0 (pa_cons (pv 5) (pa_cons (pe_callTy call_list_of (by rfl) T.z_list (by decide +kernel) (pa_cons (pv 3) pa_nil)) pa_nil))) (pe_lc (g := gName 11) (own := [("column", 11)]) rfl sc_law.nd (pi_range1 (by rfl) T.z_range (pa_cons pe_int pa_nil)) (blkOk_by (own := [("column", 11)]) (N := ["script", "numbers", "table", "rows", "row", "handed", "due", "greatest", "part", "known", "many", "column"]) (sc := defScope s_law) (by decide +kernel)) (fun _ _ _ _ _ => (pg_name (i := 11) sc_law.nd rfl (.inl rfl))) (fun _ _ _ _ _ => (pts_one (pt_cmpR (op_in_seqK (K := K)) (pv 11) (pv 9) (by rfl)))) (fun _ _ _ _ _ => (pv 11))) (nomark _)) (pss_one (ps_ret pe_bl)) pss_nil)
      (pss_cons (ps_set (i := 10) sc_law.nd rfl (.inl rfl) (pe_op op_add pe_int (pe_op op_mod (pe_callTy call_int1 (by rfl) T.z_int (by decide +kernel) (pa_cons (pe_ix ix_seq (pv 1) pe_int (fun _ _ => rfl)) pa_nil)) pe_int)))
      (pss_one (ps_ret (pe_and (pe_cmpR (op_eqD hu64) (pe_call (ok_turned_table T) (hr.mono (by decide)) (by rfl) T.m_turned_table T.F_turned_table.kp T.b_turned_table .nil pass0 (pa_cons (pv 5) (pa_cons (pv 10) pa_nil))) (pe_call (ok__law_exchanged T) (hr.mono (by decide)) (by rfl) T.m__law_exchanged T.F__law_exchanged.kp T.b__law_exchanged .nil pass0 (pa_cons (pv 2) (pa_cons (pv 10) pa_nil))) (nomark _)) (pe_one (pe_cmpR (op_eqD hu64) (pv 5) (pv 2) (nomark _))))))))))))))))))), ?_⟩
    refine ⟨.ref b, rfl, b, xs, 12, rfl, hS, hx, by decide, by decide, fun H1 p1 ns s1 np1 e1 hlen hN => ?_⟩
    have hL1 : SqL K H1 p1 (ns.map V.int) := .inl (.inl e1)
    refine ⟨.ref p1, rfl, p1, ns, 0, rfl, hL1, hN, by decide, by omega, fun H2 t tb s2 et htb l5 w5 => ?_⟩
    have hT2 : TabAt K H2 t tb := ⟨.inl (.inl et), fun p hp => .inl (.inl (htb p hp))⟩
    have hL2 := s2.seq hL1
    refine ⟨.ref p1, rfl, .inl ⟨p1, _, _, _, rfl, rfl, hL2, nthI (by decide) (by omega), .ref t, rfl, t, refs tb, rfl, .inl (.inl (.inl et)), numI ns 6, (refs tb).length, rfl, by rw [refs_len]; omega, num_at hN 6, fun H3 rl W s3 er hWa hWl hWr => ?_⟩⟩
    rw [refs_len] at hWr hWl
    have hT3 := tabAt_up s3 hT2
    have hL3 := s3.seq hL2
    have hI3 : IntsAt H3 tb := fun p hp => s3 _ _ (htb p hp)
    have h6 := row6 w5
    have hok := tabOk_of l5 w5
    have hkl := keys_len tb
    have hWn := asc_nodup hWa
    have hnd : ∀ l ∈ keys tb, l.Nodup := hok.nd
    have hcol : ∀ r c, c ∈ tP (keys tb) r → 0 ≤ c ∧ c < 6 := fun r c hc => by
      obtain ⟨_, l, hl, hcl⟩ := tP_some hc
      obtain ⟨p, hp, rfl⟩ := List.mem_map.mp (List.mem_of_getElem? hl)
      exact (w5 p hp).2 c hcl
    have hfew : Few (keys tb) := ⟨by omega, fun l hl c hc => by
      obtain ⟨p, hp, rfl⟩ := List.mem_map.mp hl
      have := (w5 p hp).2 c hc
      omega, hnd⟩
    -- handed
    refine ⟨.ref t, rfl, t, rfl, ⟨_, hT3.1⟩, fun Dh nDh => lc_list (K := K) (a := t) (xs := refs tb) (fun i H4 => ∃ hb : Tups, Same H3 H4 ∧ H4 Dh = some (.lst (refs hb)) ∧ (∀ p ∈ hb, H4 p.1 = some (.lst (p.2.map V.int)) ∧ p.1 ≠ Dh) ∧ keys hb = (keys tb).take i ∧ hb.length ≤ i) ⟨[], same_new nDh, upd_same, (fun p hp => by cases hp), rfl, Nat.le_refl _⟩ (fun i H4 _ ⟨_, s4, _⟩ => s4.seq hT3.1) ?_ ?_⟩
    · rintro i y H4 hi ⟨hb, S4, e4, t4, k4, l4⟩
      obtain ⟨q, hq, rfl⟩ := refs_at hi
      have hkq : (keys tb)[i]? = some q.2 := by unfold keys; rw [List.getElem?_map, hq]; rfl
      have hil := (List.getElem?_eq_some_iff.mp hq).1
      refine ⟨rfl, ?_⟩
      refine ⟨.ref q.1, rfl, q.1, q.2.map V.int, rfl, .inl (S4.seq (hT3.2 q (List.mem_of_getElem? hq))), fun l nl => ?_⟩
      have s4b : Same H4 (upd H4 l (.lst (q.2.map V.int))) := same_new nl
      have e4b : (upd H4 l (.lst (q.2.map V.int))) l = some (.lst (q.2.map V.int)) := upd_same
      have nlD : l ≠ Dh := fun z => by rw [z, e4] at nl; cases nl
      generalize upd H4 l (.lst (q.2.map V.int)) = H4b at s4b e4b ⊢
      refine ⟨_, s4b _ _ e4, sizeN (by rw [refs_len]; omega), hb ++ [(l, q.2)], same_put nDh (S4.trans s4b), by rw [upd_same, ← refs_push], fun p hp => ?_, ?_, by rw [List.length_append]; show hb.length + 1 ≤ _; omega⟩
      · rcases List.mem_append.mp hp with hp | hp
        · exact ⟨by rw [upd_ne (t4 p hp).2]; exact s4b _ _ (t4 p hp).1, (t4 p hp).2⟩
        · rw [List.mem_singleton.mp hp]
          exact ⟨by rw [upd_ne nlD]; exact e4b, nlD⟩
      · rw [keys_push, k4, List.take_add_one, hkq]
        rfl
    rintro H4 ⟨hb, s4, eDh, tDh, kDh, _⟩
    rw [refs_len, ← keys_len, List.take_length] at kDh
    have hD4 : TabAt K H4 Dh hb := ⟨.inl (.inl eDh), fun p hp => .inl (.inl (tDh p hp).1)⟩
    have hbl : hb.length = tb.length := by rw [← keys_len, kDh, keys_len]
    have hokD : TabOk (keys hb) := by rw [kDh]; exact hok
    have hfewD : Few (keys hb) := by rw [kDh]; exact hfew
    have hWb : ∀ r ∈ W, 0 ≤ r ∧ r < (hb.length : Int) := by rw [hbl]; exact hWr
    have er4 := s4 _ _ er
    have hT4 := tabAt_up s4 hT3
    have hL4 := s4.seq hL3
    have hI4 : IntsAt H4 tb := fun p hp => s4 _ _ (hI3 p hp)
    -- due
    refine ⟨.ref t, rfl, .ref rl, rfl, t, rl, tb, W, rfl, hT4, h6, hnd, .inl (.inl er4), by omega, hWr, fun H5 dl D s5 ed hDm htop hfw => ?_⟩
    have hDue : Due (tP (keys tb)) W D := ⟨mem_parts.mp hDm, fun M hM a b => htop M (mem_parts.mpr hM) a b, fun M hM a => hfw M (mem_parts.mpr hM) a⟩
    have hDW := hDue.sub
    have hDl : D.length ≤ 5 := Nat.le_trans hDW.length_le (by omega)
    -- greatest
    refine ⟨.ref t, rfl, .ref dl, rfl, t, dl, tb, D, rfl, tabAt_up s5 hT4, h6, hnd, .inl (.inl ed), by omega, fun r hr' => hWr r (hDW.subset hr'), fun H6 ns6 s6 hn6 hm6 => ?_⟩
    have hgr : lackI (tP (keys tb)) D ((D.length : Int) - ns6.length) := ⟨ns6, hn6, hm6, rfl⟩
    generalize ((D.length : Int) - (ns6.length : Nat)) = gr at hgr
    have S46 := s5.trans s6
    have er6 := S46 _ _ er4
    have ed6 := s6 _ _ ed
    have hT6 := tabAt_up S46 hT4
    have hD6 := tabAt_up S46 hD4
    have hL6 := S46.seq hL4
    have hI6 : IntsAt H6 tb := fun p hp => S46 _ _ (hI4 p hp)
    -- all parts
    refine ⟨.ref rl, rfl, rl, W, rfl, .inl (.inl er6), by omega, fun H7 pl es s7 ep Ip hk => ⟨pl, rfl, ⟨_, .inl (.inl ep)⟩, for_list (K := K) (a := pl) (xs := refs es) (fun i σ H8 => ∃ z8 : Option V, σ = [some (.ref b), some (.ref p1), some (.ref t), some (.ref rl), none, some (.ref Dh), some (.ref dl), some (.int gr), z8, none, none, none] ∧ Same H7 H8) ⟨_, rfl, Same.refl _⟩ (fun i σ H8 _ ⟨_, _, s8⟩ => .inl (.inl (s8 _ _ ep))) ?_ ?_⟩⟩
    · rintro i v σ H8 hi ⟨z8, rfl, S8⟩
      obtain ⟨q, hq, rfl⟩ := refs_at hi
      have hqm := List.mem_of_getElem? hq
      have hqs : q.2.Sublist W := mem_parts.mp (by rw [← hk]; exact List.mem_map_of_mem (f := fun z : Addr × List Int => z.2) hqm)
      have hql : q.2.length ≤ 5 := Nat.le_trans hqs.length_le (by omega)
      have S68 := s7.trans S8
      refine ⟨.ref t, rfl, _, rfl, t, q.1, tb, q.2, rfl, tabAt_up S68 hT6, h6, hnd, .inl (.inl (S8 _ _ (Ip q hqm))), by omega, fun r hr' => hWr r (hqs.subset hr'), fun H9 ns9 s9 hn9 hm9 => ?_⟩
      have hla : lackI (tP (keys tb)) q.2 ((q.2.length : Int) - ns9.length) := ⟨ns9, hn9, hm9, rfl⟩
      have S89 := S8.trans s9
      refine ⟨_, rfl, rfl, _, rfl, ite2 (fun g => ?_) (fun g => iteF ⟨_, rfl, S89⟩)⟩
      have hmq := kindI g
      rw [hmq] at hla
      have hin := due_in hDue hWn hqs hgr hla
      refine ⟨.ref dl, rfl, dl, rfl, ⟨_, .inl (.inl ((s7.trans S89) _ _ ed6))⟩, fun D9 nD9 => lc_list (K := K) (a := dl) (xs := D.map V.int) (fun j H10 => Same H9 H10 ∧ H10 D9 = some (.lst ((List.replicate j true).map V.bl))) ⟨same_new nD9, upd_same⟩ (fun j H10 _ ⟨s10, _⟩ => .inl (.inl (((s7.trans S89).trans s10) _ _ ed6))) ?_ ?_⟩
      · rintro j v H10 hj ⟨S10, e10⟩
        obtain ⟨r, hr', rfl⟩ := map_at hj
        have hjl := (List.getElem?_eq_some_iff.mp hr').1
        refine ⟨rfl, ?_⟩
        refine ⟨_, rfl, _, rfl, q.1, _, rfl, .inl (.inl (.inl ((S89.trans S10) _ _ (Ip q hqm)))), rfl, ?_, ?_⟩
        · rw [List.all_map]
          exact List.all_eq_true.mpr fun _ _ => rfl
        rw [show (if false then !inV (V.int r) (q.2.map V.int) else inV (V.int r) (q.2.map V.int)) = true from (inV_ints r _).trans (decide_eq_true (hin r (List.mem_of_getElem? hr')))]
        refine ⟨_, e10, sizeN (by rw [List.length_map, List.length_replicate]; omega), same_put nD9 S10, ?_⟩
        rw [upd_same, List.replicate_succ', List.map_append]
        rfl
      · rintro H10 ⟨S10, e10⟩
        refine ⟨D9, _, rfl, .inl (.inl e10), ?_⟩
        rw [show ((List.replicate (D.map V.int).length true).all id) = true by simp]
        exact ⟨true, rfl, iteF ⟨_, rfl, S89.trans S10⟩⟩
    · rintro σ H8 ⟨z8, rfl, S8⟩
      have S68 := s7.trans S8
      have er8 := S68 _ _ er6
      have ed8 := S68 _ _ ed6
      have hT8 := tabAt_up S68 hT6
      have hD8 := tabAt_up S68 hD6
      have hL8 := S68.seq hL6
      have hI8 : IntsAt H8 tb := fun p hp => S68 _ _ (hI6 p hp)
      -- least_lot
      refine ⟨.ref Dh, rfl, .ref rl, rfl, rl, _, rfl, .inl (.inl (.inl er8)), fun r2 nr2 => ?_⟩
      have s9 : Same H8 (upd H8 r2 (.lst (W.map V.int))) := same_new nr2
      have e9 : (upd H8 r2 (.lst (W.map V.int))) r2 = some (.lst (W.map V.int)) := upd_same
      generalize upd H8 r2 (.lst (W.map V.int)) = H9 at s9 e9 ⊢
      refine ⟨Dh, r2, hb, W, rfl, tabAt_up s9 hD8, hokD, .inl (.inl e9), hWn, by omega, hWb, fun H10 fl g F s10 ef hFa hLB hmx => ⟨.ref dl, rfl, ?_⟩⟩
      rw [kDh] at hLB hmx
      obtain ⟨hDF, hDu⟩ := due_eq hDue hWa hLB hFa
      have hgu : gr = (W.length : Int) - (W.filter (has g)).length := lackI_uniq hgr hDu
      have S810 := s9.trans s10
      have dF : Dp K H10 (.ref fl) (.list (D.map PyData.int)) := by rw [hDF]; exact dp_l ef (dpAll_ints F)
      refine ne_same (k := 1) (lay_ints D) (by decide) dF (dp_l (S810 _ _ ed8) (dpAll_ints D)) ⟨_, rfl, iteF ?_⟩
      -- most
      refine ⟨.ref Dh, rfl, .ref rl, rfl, rl, _, rfl, .inl (.inl (.inl (S810 _ _ er8))), fun r3 nr3 => ?_⟩
      have s11 : Same H10 (upd H10 r3 (.lst (W.map V.int))) := same_new nr3
      have e11 : (upd H10 r3 (.lst (W.map V.int))) r3 = some (.lst (W.map V.int)) := upd_same
      generalize upd H10 r3 (.lst (W.map V.int)) = H11 at s11 e11 ⊢
      have S811 := S810.trans s11
      refine ⟨Dh, r3, hb, W, rfl, tabAt_up S811 hD8, hokD, .inl (.inl e11), hWn, hWb, fun H12 g' s12 hM' ho' hx' => ?_⟩
      rw [kDh] at hM' hx'
      have S812 := S811.trans s12
      refine ⟨.ref rl, rfl, rl, _, rfl, .inl (.inl (.inl (S812 _ _ er8))), _, rfl, _, _, rfl, rfl, ?_⟩
      have hev : (((W.map V.int).length : Nat) : Int) - gr = (((W.filter (has g')).length : Nat) : Int) := by
        rw [List.length_map]
        have := hmx g' hM'
        have := hx' g hLB.mt
        omega
      refine ne_same (k := 0) (d := .int (((W.filter (has g')).length : Nat) : Int)) (lay_int 0 _) (by decide) (.int _) (by
        show Dp K _ (V.int ((((W.map V.int).length : Nat) : Int) - gr)) _
        rw [hev]
        exact .int _) ⟨_, rfl, iteF ?_⟩
      -- lack
      refine ⟨.ref Dh, rfl, .ref rl, rfl, rl, _, rfl, .inl (.inl (.inl (S812 _ _ er8))), fun r4 nr4 => ?_⟩
      have s13 : Same H12 (upd H12 r4 (.lst (W.map V.int))) := same_new nr4
      have e13 : (upd H12 r4 (.lst (W.map V.int))) r4 = some (.lst (W.map V.int)) := upd_same
      generalize upd H12 r4 (.lst (W.map V.int)) = H13 at s13 e13 ⊢
      have S813 := S812.trans s13
      refine ⟨Dh, r4, hb, W, rfl, tabAt_up S813 hD8, hfewD, .inl (.inl e13), hWb, fun H14 ns14 s14 hc14 => ?_⟩
      rw [kDh] at hc14
      have S814 := S813.trans s14
      refine ⟨.ref t, rfl, .ref rl, rfl, t, rl, tb, W, rfl, tabAt_up S814 hT8, h6, hnd, .inl (.inl (S814 _ _ er8)), by omega, hWr, fun H15 ns15 s15 hn15 hm15 => ?_⟩
      rw [show ns15.length = ns14.length from same_card hn15 (asc_nodup hc14.1) fun c => by rw [hm15, hc14.2]]
      refine ne_same (k := 0) (lay_int 0 _) (by decide) (.int _) (.int _) ⟨_, rfl, iteF ?_⟩
      have S815 := S814.trans s15
      refine ⟨.ref dl, rfl, Nat.zero_le _, fun l16 H16 s16 n16 e16 => ?_⟩
      have S816 := S815.trans s16
      refine ⟨_, .list [], dp_l (S816 _ _ ed8) (dpAll_ints D), dp_l e16 .nil, shaped_of (lay_ints D) (by decide), shaped_of (lay_list (k := 0) fun d hd => by cases hd) (by decide), ?_⟩
      rw [eqv_ints_nil]
      refine ⟨_, rfl, rfl, rfl, _, rfl, ?_⟩
      rw [show decide (V.bl (decide (D = [])) = V.bl (decide (V.int gr = V.int 0))) = true from decide_eq_true (congrArg V.bl (decide_eq_decide.mpr ((due_nil hDue hgr).trans ⟨fun h => congrArg V.int h, fun h => by injection h⟩)))]
      refine iteF ?_
      -- known
      refine ⟨Nat.zero_le _, fun kl0 H17 s17 n17 e17 => ?_⟩
      have S817 := S816.trans s17
      refine ⟨.ref rl, rfl, rl, rfl, ⟨_, .inl (.inl (S817 _ _ er8))⟩, for_list (K := K) (a := rl) (xs := W.map V.int) (fun i σ H18 => ∃ (kl : Addr) (kn : List Int) (z4 : Option V), σ = [some (.ref b), some (.ref p1), some (.ref t), some (.ref rl), z4, some (.ref Dh), some (.ref dl), some (.int gr), z8, some (.ref kl), none, none] ∧ Same H8 H18 ∧ H18 kl = some (.lst (kn.map V.int)) ∧ (∀ c, c ∈ kn ↔ ∃ r ∈ W.take i, c ∈ tP (keys tb) r) ∧ kn.length ≤ 6 * i)
        ⟨kl0, [], _, rfl, S817, e17, (fun c => ⟨(fun h => by cases h), (fun ⟨_, h, _⟩ => by cases h)⟩), Nat.zero_le _⟩ (fun i σ H18 _ ⟨_, _, _, _, s18, _⟩ => .inl (.inl (s18 _ _ er8))) ?_ ?_⟩
      · rintro i v σ H18 hi ⟨kl, kn, z4, rfl, S18, e18, hkn, hkz⟩
        obtain ⟨r, hr', rfl⟩ := map_at hi
        have hiW := (List.getElem?_eq_some_iff.mp hr').1
        have hrW := hWr r (List.mem_of_getElem? hr')
        obtain ⟨row, hrow, hat, hq, hP⟩ := row_at (tabAt_up S18 hT8) hrW.1 hrW.2
        have hr6 : row.2.length ≤ 6 := by rw [← hP]; exact h6 _
        have htk : W.take (i + 1) = W.take i ++ [r] := by rw [List.take_add_one, hr']; rfl
        refine ⟨_, rfl, .ref t, rfl, _, rfl, .inl ⟨t, _, _, _, rfl, rfl, (tabAt_up S18 hT8).1, hat, kl, row.1, _, _, rfl, rfl, e18, S18 _ _ (hI8 row (List.mem_of_getElem? hrow)), sizeL (by rw [List.length_map, List.length_map]; omega), fun p np => ?_⟩⟩
        refine ⟨p, kn ++ row.2, _, rfl, S18.trans (same_new np), by rw [upd_same, List.map_append], fun c => ?_, by rw [List.length_append]; omega⟩
        rw [List.mem_append, hkn, htk, ← hP]
        constructor
        · rintro (⟨x, h1, h2⟩ | h)
          · exact ⟨x, List.mem_append_left _ h1, h2⟩
          · exact ⟨r, List.mem_append_right _ (List.mem_singleton.mpr rfl), h⟩
        · rintro ⟨x, h1, h2⟩
          rcases List.mem_append.mp h1 with h1 | h1
          · exact .inl ⟨x, h1, h2⟩
          · exact .inr (List.mem_singleton.mp h1 ▸ h2)
      · rintro σ H18 ⟨kl, kn, z4, rfl, S18, e18, hkn, hkz⟩
        rw [List.length_map, List.take_length] at hkn
        -- partners
        refine ⟨.ref Dh, rfl, .ref rl, rfl, rl, _, rfl, .inl (.inl (.inl (S18 _ _ er8))), fun r5 nr5 => ?_⟩
        have s19 : Same H18 (upd H18 r5 (.lst (W.map V.int))) := same_new nr5
        have e19 : (upd H18 r5 (.lst (W.map V.int))) r5 = some (.lst (W.map V.int)) := upd_same
        generalize upd H18 r5 (.lst (W.map V.int)) = H19 at s19 e19 ⊢
        have S819 := S18.trans s19
        refine ⟨Dh, r5, hb, W, rfl, tabAt_up S819 hD8, hfewD, .inl (.inl e19), hWb, fun H20 pn ns20 s20 e20 hc20 => ?_⟩
        rw [kDh] at hc20
        have S1820 := s19.trans s20
        refine ⟨_, rfl, by decide, by decide, fun D21 nD21 => lc_range (lo := 0) (n := 6) (fun j H21 => Same H20 H21 ∧ H21 D21 = some (.lst ((((List.range j).map Int.ofNat).filter fun c => decide (c ∈ kn)).map V.int))) ⟨same_new nD21, upd_same⟩ ?_ ?_⟩
        · rintro j H21 hj ⟨S21, e21⟩
          have hzj : (0 : Int) + (j : Int) = j := Int.zero_add _
          refine ⟨rfl, ?_⟩
          refine ⟨_, rfl, .ref kl, rfl, kl, _, rfl, .inl (.inl (.inl ((S1820.trans S21) _ _ e18))), rfl, ?_, _, rfl, ?_⟩
          · rw [List.all_map]
            exact List.all_eq_true.mpr fun _ _ => rfl
          rw [show (if false then !inV (V.int (0 + (j : Int))) (kn.map V.int) else inV (V.int (0 + (j : Int))) (kn.map V.int)) = decide ((j : Int) ∈ kn) from by rw [hzj]; exact inV_ints _ _]
          have hst : (List.range (j + 1)).map Int.ofNat = (List.range j).map Int.ofNat ++ [(j : Int)] := by rw [List.range_succ, List.map_append]; rfl
          refine ite2 (fun g1 => ?_) (fun g1 => ?_)
          · refine ⟨_, rfl, _, e21, sizeN ?_, same_put nD21 S21, ?_⟩
            · rw [List.length_map]
              have := List.length_filter_le (fun c => decide (c ∈ kn)) ((List.range j).map Int.ofNat)
              rw [List.length_map, List.length_range] at this
              omega
            · rw [upd_same, hst, List.filter_append, List.filter_cons_of_pos (p := fun c => decide (c ∈ kn)) g1, List.filter_nil, List.map_append, hzj]
              rfl
          · refine ⟨S21, ?_⟩
            rw [hst, List.filter_append, List.filter_cons_of_neg (p := fun c => decide (c ∈ kn)) g1, List.filter_nil, List.append_nil]
            exact e21
        · rintro H21 ⟨S21, e21⟩
          have hcs : ((List.range 6).map Int.ofNat).filter (fun c => decide (c ∈ kn)) = ns20 := asc_eq ((by decide : ((List.range 6).map Int.ofNat).Pairwise (· < ·)).filter _) hc20.1 fun c => by
            rw [List.mem_filter, decide_eq_true_iff, hc20.2, hkn]
            constructor
            · exact fun h => h.2
            · intro h
              have h0 := h
              obtain ⟨r, _, hc⟩ := h0
              have := hcol r c hc
              exact ⟨List.mem_map.mpr ⟨c.toNat, List.mem_range.mpr (by omega), Int.toNat_of_nonneg this.1⟩, h⟩
          rw [hcs] at e21
          refine ne_same (k := 1) (lay_ints ns20) (by decide) (dp_l (S21 _ _ e20) (dpAll_ints ns20)) (dp_l e21 (dpAll_ints ns20)) ⟨_, rfl, iteF ?_⟩
          have S821 := (S18.trans S1820).trans S21
          -- many
          refine ⟨.ref p1, rfl, .inl ⟨p1, _, _, _, rfl, rfl, S821.seq hL8, nthI (by decide) (by omega), .inl ⟨_, rfl, _, _, rfl, rfl, (by show (0 : Int) < 3; decide), _, _, rfl, rfl, ?_⟩⟩⟩
          obtain ⟨m, hm, hm8⟩ : ∃ m : Nat, 6 + numI ns 7 % 3 = (m : Int) ∧ m ≤ 8 := ⟨(6 + numI ns 7 % 3).toNat, by omega, by omega⟩
          refine ⟨.ref Dh, rfl, _, rfl, Dh, hb, m, (by rw [← hm]; rfl), tabAt_up S821 hD8, hokD, by omega, fun H22 tl ks s22 et22 hks22 hk22 => ?_⟩
          refine ⟨.ref t, rfl, _, rfl, t, tb, m, (by rw [← hm]; rfl), tabAt_up (S821.trans s22) hT8, l5, by omega, fun H23 xl ks23 s23 ex23 hks23 hk23 => ?_⟩
          rw [kDh] at hk22
          have d1 : Dp K H23 (.ref tl) (tabD ((List.range m).map (turnedI (keys tb)))) := by
            rw [← hk22]
            exact dp_up s23 (dp_tab ⟨.inl (.inl et22), hks22⟩)
          have d2 : Dp K H23 (.ref xl) (tabD ((List.range m).map (turnedI (keys tb)))) := by
            rw [← hk23]
            exact dp_tab ⟨.inl (.inl ex23), hks23⟩
          have S823 := (S821.trans s22).trans s23
          refine eq_same (k := 2) (lay_tab _) (by decide) d1 d2 ⟨true, rfl, iteT ?_⟩
          refine ⟨.ref Dh, rfl, .ref t, rfl, eq_same (k := 2) (lay_tab (keys tb)) (by decide) (by rw [← kDh]; exact dp_tab (tabAt_up S823 hD8)) (dp_tab (tabAt_up S823 hT8)) (k _)⟩

end
/-! ### what the top has written -/
set_option maxHeartbeats 8000000 in
theorem all_mk {w : World} {K : PySem.W.Frag} {h : Heap} {mg : Str → Option Value} {fa f1 f2 f3 f4 f5 f6 f7 f8 f9 f10 f11 f12 f13 f14 f15 f16 f17 f18 f19 : Addr} (X : K.In h) (G : h.Ns mainGlobals mg) (hfa : mg "law" = some (.ref fa))
    {od1 an1 od2 an2 od3 an3 od4 an4 od5 an5 od6 an6 od7 an7 od8 an8 od9 an9 od10 an10 od11 an11 od12 an12 od13 an13 od14 an14 od15 an15 od16 an16 od17 an17 od18 an18 od19 an19 : Option Addr} {sl1 sl2 sl3 sl4 sl5 sl6 sl7 sl8 sl9 sl10 sl11 sl12 sl13 sl14 sl15 sl16 sl17 sl18 sl19 : Array (Option Value)} {oc1 kV1 dc1 pm1 cd1 ct1 oc2 kV2 dc2 pm2 cd2 ct2 oc3 kV3 dc3 pm3 cd3 ct3 oc4 kV4 dc4 pm4 cd4 ct4 oc5 kV5 dc5 pm5 cd5 ct5 oc6 kV6 dc6 pm6 cd6 ct6 oc7 kV7 dc7 pm7 cd7 ct7 oc8 kV8 dc8 pm8 cd8 ct8 oc9 kV9 dc9 pm9 cd9 ct9 oc10 kV10 dc10 pm10 cd10 ct10 oc11 kV11 dc11 pm11 cd11 ct11 oc12 kV12 dc12 pm12 cd12 ct12 oc13 kV13 dc13 pm13 cd13 ct13 oc14 kV14 dc14 pm14 cd14 ct14 oc15 kV15 dc15 pm15 cd15 ct15 oc16 kV16 dc16 pm16 cd16 ct16 oc17 kV17 dc17 pm17 cd17 ct17 oc18 kV18 dc18 pm18 cd18 ct18 oc19 kV19 dc19 pm19 cd19 ct19 : Value}
    (a1 : PySem.W.nsIn K mainGlobals "most" = some (some (.ref f1)))
    (l1 : K.lookup f1 = some ⟨oc1, od1, .func (PySem.W.fnOf "most" "most" (defArgs s_most) (defBody s_most) (defScope s_most) .none kV1 dc1 pm1 an1 cd1 ct1), sl1⟩)
    (c1 : PySem.W.codeIn K cd1 "most" = true)
    (k1 : PySem.W.keepIn K (.ref f1) = true)
    (a2 : PySem.W.nsIn K mainGlobals "_mates_of" = some (some (.ref f2)))
    (l2 : K.lookup f2 = some ⟨oc2, od2, .func (PySem.W.fnOf "_mates_of" "_mates_of" (defArgs s__mates_of) (defBody s__mates_of) (defScope s__mates_of) .none kV2 dc2 pm2 an2 cd2 ct2), sl2⟩)
    (c2 : PySem.W.codeIn K cd2 "_mates_of" = true)
    (k2 : PySem.W.keepIn K (.ref f2) = true)
    (a3 : PySem.W.nsIn K mainGlobals "_rows_by_column" = some (some (.ref f3)))
    (l3 : K.lookup f3 = some ⟨oc3, od3, .func (PySem.W.fnOf "_rows_by_column" "_rows_by_column" (defArgs s__rows_by_column) (defBody s__rows_by_column) (defScope s__rows_by_column) .none kV3 dc3 pm3 an3 cd3 ct3), sl3⟩)
    (c3 : PySem.W.codeIn K cd3 "_rows_by_column" = true)
    (k3 : PySem.W.keepIn K (.ref f3) = true)
    (a4 : PySem.W.nsIn K mainGlobals "_with_more" = some (some (.ref f4)))
    (l4 : K.lookup f4 = some ⟨oc4, od4, .func (PySem.W.fnOf "_with_more" "_with_more" (defArgs s__with_more) (defBody s__with_more) (defScope s__with_more) .none kV4 dc4 pm4 an4 cd4 ct4), sl4⟩)
    (c4 : PySem.W.codeIn K cd4 "_with_more" = true)
    (k4 : PySem.W.keepIn K (.ref f4) = true)
    (a5 : PySem.W.nsIn K mainGlobals "_steps_to_more" = some (some (.ref f5)))
    (l5 : K.lookup f5 = some ⟨oc5, od5, .func (PySem.W.fnOf "_steps_to_more" "_steps_to_more" (defArgs s__steps_to_more) (defBody s__steps_to_more) (defScope s__steps_to_more) .none kV5 dc5 pm5 an5 cd5 ct5), sl5⟩)
    (c5 : PySem.W.codeIn K cd5 "_steps_to_more" = true)
    (k5 : PySem.W.keepIn K (.ref f5) = true)
    (a6 : PySem.W.nsIn K mainGlobals "_traced" = some (some (.ref f6)))
    (l6 : K.lookup f6 = some ⟨oc6, od6, .func (PySem.W.fnOf "_traced" "_traced" (defArgs s__traced) (defBody s__traced) (defScope s__traced) .none kV6 dc6 pm6 an6 cd6 ct6), sl6⟩)
    (c6 : PySem.W.codeIn K cd6 "_traced" = true)
    (k6 : PySem.W.keepIn K (.ref f6) = true)
    (a7 : PySem.W.nsIn K mainGlobals "partners" = some (some (.ref f7)))
    (l7 : K.lookup f7 = some ⟨oc7, od7, .func (PySem.W.fnOf "partners" "partners" (defArgs s_partners) (defBody s_partners) (defScope s_partners) .none kV7 dc7 pm7 an7 cd7 ct7), sl7⟩)
    (c7 : PySem.W.codeIn K cd7 "partners" = true)
    (k7 : PySem.W.keepIn K (.ref f7) = true)
    (a8 : PySem.W.nsIn K mainGlobals "lack" = some (some (.ref f8)))
    (l8 : K.lookup f8 = some ⟨oc8, od8, .func (PySem.W.fnOf "lack" "lack" (defArgs s_lack) (defBody s_lack) (defScope s_lack) .none kV8 dc8 pm8 an8 cd8 ct8), sl8⟩)
    (c8 : PySem.W.codeIn K cd8 "lack" = true)
    (k8 : PySem.W.keepIn K (.ref f8) = true)
    (a9 : PySem.W.nsIn K mainGlobals "least_lot" = some (some (.ref f9)))
    (l9 : K.lookup f9 = some ⟨oc9, od9, .func (PySem.W.fnOf "least_lot" "least_lot" (defArgs s_least_lot) (defBody s_least_lot) (defScope s_least_lot) .none kV9 dc9 pm9 an9 cd9 ct9), sl9⟩)
    (c9 : PySem.W.codeIn K cd9 "least_lot" = true)
    (k9 : PySem.W.keepIn K (.ref f9) = true)
    (a10 : PySem.W.nsIn K mainGlobals "turned_table" = some (some (.ref f10)))
    (l10 : K.lookup f10 = some ⟨oc10, od10, .func (PySem.W.fnOf "turned_table" "turned_table" (defArgs s_turned_table) (defBody s_turned_table) (defScope s_turned_table) .none kV10 dc10 pm10 an10 cd10 ct10), sl10⟩)
    (c10 : PySem.W.codeIn K cd10 "turned_table" = true)
    (k10 : PySem.W.keepIn K (.ref f10) = true)
    (a11 : PySem.W.nsIn K mainGlobals "_law_row" = some (some (.ref f11)))
    (l11 : K.lookup f11 = some ⟨oc11, od11, .func (PySem.W.fnOf "_law_row" "_law_row" (defArgs s__law_row) (defBody s__law_row) (defScope s__law_row) .none kV11 dc11 pm11 an11 cd11 ct11), sl11⟩)
    (c11 : PySem.W.codeIn K cd11 "_law_row" = true)
    (k11 : PySem.W.keepIn K (.ref f11) = true)
    (a12 : PySem.W.nsIn K mainGlobals "_law_numbers" = some (some (.ref f12)))
    (l12 : K.lookup f12 = some ⟨oc12, od12, .func (PySem.W.fnOf "_law_numbers" "_law_numbers" (defArgs s__law_numbers) (defBody s__law_numbers) (defScope s__law_numbers) .none kV12 dc12 pm12 an12 cd12 ct12), sl12⟩)
    (c12 : PySem.W.codeIn K cd12 "_law_numbers" = true)
    (k12 : PySem.W.keepIn K (.ref f12) = true)
    (a13 : PySem.W.nsIn K mainGlobals "_law_lack" = some (some (.ref f13)))
    (l13 : K.lookup f13 = some ⟨oc13, od13, .func (PySem.W.fnOf "_law_lack" "_law_lack" (defArgs s__law_lack) (defBody s__law_lack) (defScope s__law_lack) .none kV13 dc13 pm13 an13 cd13 ct13), sl13⟩)
    (c13 : PySem.W.codeIn K cd13 "_law_lack" = true)
    (k13 : PySem.W.keepIn K (.ref f13) = true)
    (a14 : PySem.W.nsIn K mainGlobals "_law_parts" = some (some (.ref f14)))
    (l14 : K.lookup f14 = some ⟨oc14, od14, .func (PySem.W.fnOf "_law_parts" "_law_parts" (defArgs s__law_parts) (defBody s__law_parts) (defScope s__law_parts) .none kV14 dc14 pm14 an14 cd14 ct14), sl14⟩)
    (c14 : PySem.W.codeIn K cd14 "_law_parts" = true)
    (k14 : PySem.W.keepIn K (.ref f14) = true)
    (a15 : PySem.W.nsIn K mainGlobals "_law_least" = some (some (.ref f15)))
    (l15 : K.lookup f15 = some ⟨oc15, od15, .func (PySem.W.fnOf "_law_least" "_law_least" (defArgs s__law_least) (defBody s__law_least) (defScope s__law_least) .none kV15 dc15 pm15 an15 cd15 ct15), sl15⟩)
    (c15 : PySem.W.codeIn K cd15 "_law_least" = true)
    (k15 : PySem.W.keepIn K (.ref f15) = true)
    (a16 : PySem.W.nsIn K mainGlobals "_law_exchanged" = some (some (.ref f16)))
    (l16 : K.lookup f16 = some ⟨oc16, od16, .func (PySem.W.fnOf "_law_exchanged" "_law_exchanged" (defArgs s__law_exchanged) (defBody s__law_exchanged) (defScope s__law_exchanged) .none kV16 dc16 pm16 an16 cd16 ct16), sl16⟩)
    (c16 : PySem.W.codeIn K cd16 "_law_exchanged" = true)
    (k16 : PySem.W.keepIn K (.ref f16) = true)
    (a17 : PySem.W.nsIn K mainGlobals "_law_drawn" = some (some (.ref f17)))
    (l17 : K.lookup f17 = some ⟨oc17, od17, .func (PySem.W.fnOf "_law_drawn" "_law_drawn" (defArgs s__law_drawn) (defBody s__law_drawn) (defScope s__law_drawn) .none kV17 dc17 pm17 an17 cd17 ct17), sl17⟩)
    (c17 : PySem.W.codeIn K cd17 "_law_drawn" = true)
    (k17 : PySem.W.keepIn K (.ref f17) = true)
    (a18 : PySem.W.nsIn K mainGlobals "_law_some" = some (some (.ref f18)))
    (l18 : K.lookup f18 = some ⟨oc18, od18, .func (PySem.W.fnOf "_law_some" "_law_some" (defArgs s__law_some) (defBody s__law_some) (defScope s__law_some) .none kV18 dc18 pm18 an18 cd18 ct18), sl18⟩)
    (c18 : PySem.W.codeIn K cd18 "_law_some" = true)
    (k18 : PySem.W.keepIn K (.ref f18) = true)
    (a19 : PySem.W.nsIn K mainGlobals "law" = some (some (.ref f19)))
    (l19 : K.lookup f19 = some ⟨oc19, od19, .func (PySem.W.fnOf "law" "law" (defArgs s_law) (defBody s_law) (defScope s_law) .none kV19 dc19 pm19 an19 cd19 ct19), sl19⟩)
    (c19 : PySem.W.codeIn K cd19 "law" = true)
    (k19 : PySem.W.keepIn K (.ref f19) = true)
    (z0 : PySem.W.nsIn K mainGlobals "len" = some none)
    (z1 : PySem.W.nsIn K mainGlobals "abs" = some none)
    (z2 : PySem.W.nsIn K mainGlobals "int" = some none)
    (z3 : PySem.W.nsIn K mainGlobals "max" = some none)
    (z4 : PySem.W.nsIn K mainGlobals "min" = some none)
    (z5 : PySem.W.nsIn K mainGlobals "range" = some none)
    (z6 : PySem.W.nsIn K mainGlobals "list" = some none)
    (z7 : PySem.W.nsIn K mainGlobals "all" = some none)
    (z8 : PySem.W.nsIn K mainGlobals "sorted" = some none)
    (z9 : PySem.W.nsIn K mainGlobals "enumerate" = some none) :
    ∃ fd : FuncData, (∀ (s : Shared) (v : Value), BindsTo s fd ⟨[v], []⟩ [("script", v)]) ∧ ∀ base : Heap, K.In base → base.Ns mainGlobals mg → FnOk PySem.Challenge.pw_starward_k11_least_lots w K mg base CX0 6 fa fd ["script"] (spLaw K) := by
  have e := hfa.symm.trans (PySem.W.mg_of X G a19)
  cases e
  have F1 := fun_mk (st := s_most) l1 c1 k1
  have F2 := fun_mk (st := s__mates_of) l2 c2 k2
  have F3 := fun_mk (st := s__rows_by_column) l3 c3 k3
  have F4 := fun_mk (st := s__with_more) l4 c4 k4
  have F5 := fun_mk (st := s__steps_to_more) l5 c5 k5
  have F6 := fun_mk (st := s__traced) l6 c6 k6
  have F7 := fun_mk (st := s_partners) l7 c7 k7
  have F8 := fun_mk (st := s_lack) l8 c8 k8
  have F9 := fun_mk (st := s_least_lot) l9 c9 k9
  have F10 := fun_mk (st := s_turned_table) l10 c10 k10
  have F11 := fun_mk (st := s__law_row) l11 c11 k11
  have F12 := fun_mk (st := s__law_numbers) l12 c12 k12
  have F13 := fun_mk (st := s__law_lack) l13 c13 k13
  have F14 := fun_mk (st := s__law_parts) l14 c14 k14
  have F15 := fun_mk (st := s__law_least) l15 c15 k15
  have F16 := fun_mk (st := s__law_exchanged) l16 c16 k16
  have F17 := fun_mk (st := s__law_drawn) l17 c17 k17
  have F18 := fun_mk (st := s__law_some) l18 c18 k18
  have F19 := fun_mk (st := s_law) l19 c19 k19
  have T : Txt PySem.Challenge.pw_starward_k11_least_lots K mg { f_most := f1, fd_most := PySem.W.fnOf "most" "most" (defArgs s_most) (defBody s_most) (defScope s_most) .none kV1 dc1 pm1 an1 cd1 ct1, f__mates_of := f2, fd__mates_of := PySem.W.fnOf "_mates_of" "_mates_of" (defArgs s__mates_of) (defBody s__mates_of) (defScope s__mates_of) .none kV2 dc2 pm2 an2 cd2 ct2, f__rows_by_column := f3, fd__rows_by_column := PySem.W.fnOf "_rows_by_column" "_rows_by_column" (defArgs s__rows_by_column) (defBody s__rows_by_column) (defScope s__rows_by_column) .none kV3 dc3 pm3 an3 cd3 ct3, f__with_more := f4, fd__with_more := PySem.W.fnOf "_with_more" "_with_more" (defArgs s__with_more) (defBody s__with_more) (defScope s__with_more) .none kV4 dc4 pm4 an4 cd4 ct4, f__steps_to_more := f5, fd__steps_to_more := PySem.W.fnOf "_steps_to_more" "_steps_to_more" (defArgs s__steps_to_more) (defBody s__steps_to_more) (defScope s__steps_to_more) .none kV5 dc5 pm5 an5 cd5 ct5, f__traced := f6, fd__traced := PySem.W.fnOf "_traced" "_traced" (defArgs s__traced) (defBody s__traced) (defScope s__traced) .none kV6 dc6 pm6 an6 cd6 ct6, f_partners := f7, fd_partners := PySem.W.fnOf "partners" "partners" (defArgs s_partners) (defBody s_partners) (defScope s_partners) .none kV7 dc7 pm7 an7 cd7 ct7, f_lack := f8, fd_lack := PySem.W.fnOf "lack" "lack" (defArgs s_lack) (defBody s_lack) (defScope s_lack) .none kV8 dc8 pm8 an8 cd8 ct8, f_least_lot := f9, fd_least_lot := PySem.W.fnOf "least_lot" "least_lot" (defArgs s_least_lot) (defBody s_least_lot) (defScope s_least_lot) .none kV9 dc9 pm9 an9 cd9 ct9, f_turned_table := f10, fd_turned_table := PySem.W.fnOf "turned_table" "turned_table" (defArgs s_turned_table) (defBody s_turned_table) (defScope s_turned_table) .none kV10 dc10 pm10 an10 cd10 ct10, f__law_row := f11, fd__law_row := PySem.W.fnOf "_law_row" "_law_row" (defArgs s__law_row) (defBody s__law_row) (defScope s__law_row) .none kV11 dc11 pm11 an11 cd11 ct11, f__law_numbers := f12, fd__law_numbers := PySem.W.fnOf "_law_numbers" "_law_numbers" (defArgs s__law_numbers) (defBody s__law_numbers) (defScope s__law_numbers) .none kV12 dc12 pm12 an12 cd12 ct12, f__law_lack := f13, fd__law_lack := PySem.W.fnOf "_law_lack" "_law_lack" (defArgs s__law_lack) (defBody s__law_lack) (defScope s__law_lack) .none kV13 dc13 pm13 an13 cd13 ct13, f__law_parts := f14, fd__law_parts := PySem.W.fnOf "_law_parts" "_law_parts" (defArgs s__law_parts) (defBody s__law_parts) (defScope s__law_parts) .none kV14 dc14 pm14 an14 cd14 ct14, f__law_least := f15, fd__law_least := PySem.W.fnOf "_law_least" "_law_least" (defArgs s__law_least) (defBody s__law_least) (defScope s__law_least) .none kV15 dc15 pm15 an15 cd15 ct15, f__law_exchanged := f16, fd__law_exchanged := PySem.W.fnOf "_law_exchanged" "_law_exchanged" (defArgs s__law_exchanged) (defBody s__law_exchanged) (defScope s__law_exchanged) .none kV16 dc16 pm16 an16 cd16 ct16, f__law_drawn := f17, fd__law_drawn := PySem.W.fnOf "_law_drawn" "_law_drawn" (defArgs s__law_drawn) (defBody s__law_drawn) (defScope s__law_drawn) .none kV17 dc17 pm17 an17 cd17 ct17, f__law_some := f18, fd__law_some := PySem.W.fnOf "_law_some" "_law_some" (defArgs s__law_some) (defBody s__law_some) (defScope s__law_some) .none kV18 dc18 pm18 an18 cd18 ct18, f_law := fa, fd_law := PySem.W.fnOf "law" "law" (defArgs s_law) (defBody s_law) (defScope s_law) .none kV19 dc19 pm19 an19 cd19 ct19 } := {
    F_most := F1,
    b_most := F1.binds (ps := ["table", "rows"]) fun _ _ _ _ _ _ us hl => match us, hl with | [_, _], _ => rfl,
    m_most := PySem.W.mg_of X G a1,
    F__mates_of := F2,
    b__mates_of := F2.binds (ps := ["table", "rows"]) fun _ _ _ _ _ _ us hl => match us, hl with | [_, _], _ => rfl,
    m__mates_of := PySem.W.mg_of X G a2,
    F__rows_by_column := F3,
    b__rows_by_column := F3.binds (ps := ["table"]) fun _ _ _ _ _ _ us hl => match us, hl with | [_], _ => rfl,
    m__rows_by_column := PySem.W.mg_of X G a3,
    F__with_more := F4,
    b__with_more := F4.binds (ps := ["partners_of", "wanted", "mates"]) fun _ _ _ _ _ _ us hl => match us, hl with | [_, _, _], _ => rfl,
    m__with_more := PySem.W.mg_of X G a4,
    F__steps_to_more := F5,
    b__steps_to_more := F5.binds (ps := ["partners_of", "mates", "owners", "stays", "start"]) fun _ _ _ _ _ _ us hl => match us, hl with | [_, _, _, _, _], _ => rfl,
    m__steps_to_more := PySem.W.mg_of X G a5,
    F__traced := F6,
    b__traced := F6.binds (ps := ["mates", "takers", "last"]) fun _ _ _ _ _ _ us hl => match us, hl with | [_, _, _], _ => rfl,
    m__traced := PySem.W.mg_of X G a6,
    F_partners := F7,
    b_partners := F7.binds (ps := ["table", "rows"]) fun _ _ _ _ _ _ us hl => match us, hl with | [_, _], _ => rfl,
    m_partners := PySem.W.mg_of X G a7,
    F_lack := F8,
    b_lack := F8.binds (ps := ["table", "rows"]) fun _ _ _ _ _ _ us hl => match us, hl with | [_, _], _ => rfl,
    m_lack := PySem.W.mg_of X G a8,
    F_least_lot := F9,
    b_least_lot := F9.binds (ps := ["table", "rows"]) fun _ _ _ _ _ _ us hl => match us, hl with | [_, _], _ => rfl,
    m_least_lot := PySem.W.mg_of X G a9,
    F_turned_table := F10,
    b_turned_table := F10.binds (ps := ["table", "many"]) fun _ _ _ _ _ _ us hl => match us, hl with | [_, _], _ => rfl,
    m_turned_table := PySem.W.mg_of X G a10,
    F__law_row := F11,
    b__law_row := F11.binds (ps := ["cell", "many"]) fun _ _ _ _ _ _ us hl => match us, hl with | [_, _], _ => rfl,
    m__law_row := PySem.W.mg_of X G a11,
    F__law_numbers := F12,
    b__law_numbers := F12.binds (ps := ["script", "many"]) fun _ _ _ _ _ _ us hl => match us, hl with | [_, _], _ => rfl,
    m__law_numbers := PySem.W.mg_of X G a12,
    F__law_lack := F13,
    b__law_lack := F13.binds (ps := ["table", "lot"]) fun _ _ _ _ _ _ us hl => match us, hl with | [_, _], _ => rfl,
    m__law_lack := PySem.W.mg_of X G a13,
    F__law_parts := F14,
    b__law_parts := F14.binds (ps := ["lot"]) fun _ _ _ _ _ _ us hl => match us, hl with | [_], _ => rfl,
    m__law_parts := PySem.W.mg_of X G a14,
    F__law_least := F15,
    b__law_least := F15.binds (ps := ["table", "lot"]) fun _ _ _ _ _ _ us hl => match us, hl with | [_, _], _ => rfl,
    m__law_least := PySem.W.mg_of X G a15,
    F__law_exchanged := F16,
    b__law_exchanged := F16.binds (ps := ["table", "many"]) fun _ _ _ _ _ _ us hl => match us, hl with | [_, _], _ => rfl,
    m__law_exchanged := PySem.W.mg_of X G a16,
    F__law_drawn := F17,
    b__law_drawn := F17.binds (ps := ["numbers", "at"]) fun _ _ _ _ _ _ us hl => match us, hl with | [_, _], _ => rfl,
    m__law_drawn := PySem.W.mg_of X G a17,
    F__law_some := F18,
    b__law_some := F18.binds (ps := ["number", "many"]) fun _ _ _ _ _ _ us hl => match us, hl with | [_, _], _ => rfl,
    m__law_some := PySem.W.mg_of X G a18,
    F_law := F19,
    z_len := PySem.W.mg_none_of X G z0,
    z_abs := PySem.W.mg_none_of X G z1,
    z_int := PySem.W.mg_none_of X G z2,
    z_max := PySem.W.mg_none_of X G z3,
    z_min := PySem.W.mg_none_of X G z4,
    z_range := PySem.W.mg_none_of X G z5,
    z_list := PySem.W.mg_none_of X G z6,
    z_all := PySem.W.mg_none_of X G z7,
    z_sorted := PySem.W.mg_none_of X G z8,
    z_enumerate := PySem.W.mg_none_of X G z9 }
  exact ⟨_, fun s v => .of_eq rfl, fun base _ _ => ok_law T⟩
end SwT
open PySem PySem.W PyProof.Rows
set_option maxRecDepth 100000 in
set_option maxHeartbeats 0 in
theorem PySem.Challenge.cw_starward_k11_least_lots_holds : PySem.Challenge.rw_starward_k11_least_lots.Holds := by
  w_on; o_law; k_head; (case hw => w_witness2)
  k_fill
  refine L2.walk_of (l := PySem.Challenge.rw_starward_k11_least_lots) (n := 63) (k := 6) (x := "script") (CX := fun _ => L2.CX0) (sp := fun w => Sw.spLaw _) rfl (by decide) rfl ⟨rfl, by decide, by decide⟩ (fun w h Y => PySem.W.kIn_of Y) ?F (fun _ _ a ns hl _ hS => ⟨a, ns, rfl, hS, hl, fun _ => rfl⟩) (fun _ _ _ _ _ h => h)
  case F =>
    intro w mg fa h KX G hmg
    refine' SwT.all_mk KX G hmg ?a1 ?l1 ?c1 ?k1 ?a2 ?l2 ?c2 ?k2 ?a3 ?l3 ?c3 ?k3 ?a4 ?l4 ?c4 ?k4 ?a5 ?l5 ?c5 ?k5 ?a6 ?l6 ?c6 ?k6 ?a7 ?l7 ?c7 ?k7 ?a8 ?l8 ?c8 ?k8 ?a9 ?l9 ?c9 ?k9 ?a10 ?l10 ?c10 ?k10 ?a11 ?l11 ?c11 ?k11 ?a12 ?l12 ?c12 ?k12 ?a13 ?l13 ?c13 ?k13 ?a14 ?l14 ?c14 ?k14 ?a15 ?l15 ?c15 ?k15 ?a16 ?l16 ?c16 ?k16 ?a17 ?l17 ?c17 ?k17 ?a18 ?l18 ?c18 ?k18 ?a19 ?l19 ?c19 ?k19 ?z0 ?z1 ?z2 ?z3 ?z4 ?z5 ?z6 ?z7 ?z8 ?z9
    (case a1 => k_is)
    (case a2 => k_is)
    (case a3 => k_is)
    (case a4 => k_is)
    (case a5 => k_is)
    (case a6 => k_is)
    (case a7 => k_is)
    (case a8 => k_is)
    (case a9 => k_is)
    (case a10 => k_is)
    (case a11 => k_is)
    (case a12 => k_is)
    (case a13 => k_is)
    (case a14 => k_is)
    (case a15 => k_is)
    (case a16 => k_is)
    (case a17 => k_is)
    (case a18 => k_is)
    (case a19 => k_is)
    (case l1 => k_is)
    (case c1 => k_is)
    (case k1 => k_is)
    (case l2 => k_is)
    (case c2 => k_is)
    (case k2 => k_is)
    (case l3 => k_is)
    (case c3 => k_is)
    (case k3 => k_is)
    (case l4 => k_is)
    (case c4 => k_is)
    (case k4 => k_is)
    (case l5 => k_is)
    (case c5 => k_is)
    (case k5 => k_is)
    (case l6 => k_is)
    (case c6 => k_is)
    (case k6 => k_is)
    (case l7 => k_is)
    (case c7 => k_is)
    (case k7 => k_is)
    (case l8 => k_is)
    (case c8 => k_is)
    (case k8 => k_is)
    (case l9 => k_is)
    (case c9 => k_is)
    (case k9 => k_is)
    (case l10 => k_is)
    (case c10 => k_is)
    (case k10 => k_is)
    (case l11 => k_is)
    (case c11 => k_is)
    (case k11 => k_is)
    (case l12 => k_is)
    (case c12 => k_is)
    (case k12 => k_is)
    (case l13 => k_is)
    (case c13 => k_is)
    (case k13 => k_is)
    (case l14 => k_is)
    (case c14 => k_is)
    (case k14 => k_is)
    (case l15 => k_is)
    (case c15 => k_is)
    (case k15 => k_is)
    (case l16 => k_is)
    (case c16 => k_is)
    (case k16 => k_is)
    (case l17 => k_is)
    (case c17 => k_is)
    (case k17 => k_is)
    (case l18 => k_is)
    (case c18 => k_is)
    (case k18 => k_is)
    (case l19 => k_is)
    (case c19 => k_is)
    (case k19 => k_is)
    (case z0 => k_is)
    (case z1 => k_is)
    (case z2 => k_is)
    (case z3 => k_is)
    (case z4 => k_is)
    (case z5 => k_is)
    (case z6 => k_is)
    (case z7 => k_is)
    (case z8 => k_is)
    (case z9 => k_is)
#print axioms PySem.Challenge.cw_starward_k11_least_lots_holds

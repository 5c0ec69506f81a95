import PyProof.Rows.All
import Wide.All
import OpenK.AllK
import Wide.FinOn
import KE.KExcSuper
import HandS.ForMost
import HandS.ForExc
import HandS.Property
import HandS.Codes
import HandS.TryMany
import HandS.Strs
import HandS.Deep
import HandS.IsInst
import HandS.Call
import HandS.Exc
import HandS.TryOnly
import PySem.Challenge.RW_starward_k07_how_far_attitudes_are
set_option Elab.async false
set_option linter.all false
set_option maxRecDepth 100000
set_option maxHeartbeats 4000000
set_option Elab.async false
set_option linter.all false
set_option maxRecDepth 100000
set_option maxHeartbeats 4000000
/-! An error class of the program over ValueError, at any depth, whose making says super's making of a text and keeps one field. -/
namespace PySem
namespace SwX
open PySem.W PySem.Calls PyProof.Rows PySem.HandSPX
def iA (fld : Str) (p1 p2 : Pos) : Arguments := { posonlyargs := [], args := [{ arg := "self", annotation := none, pos := p1 }, { arg := fld, annotation := none, pos := p2 }], vararg := none, kwonlyargs := [], kw_defaults := [], kwarg := none, defaults := [] }
def iB (txt fld : Str) (kx : Nat) (q1 q2 q3 q4 q5 q6 r1 r2 r3 r4 : Pos) : List Stmt :=
  [.Expr (.Call (.Attribute (.Call (.Name "super" q1) [] [] q2) "__init__" q3) [.Constant (.str txt) kx q4] [] q5) q6, .Assign [.Attribute (.Name "self" r1) fld r2] (.Name fld r3) r4]
def iS (fld : Str) : Scope := { kind := .function, names := [(PySem.Str.ofString "self", .local), (fld, .local), (PySem.Str.ofString "__class__", .free), (PySem.Str.ofString "super", .globalImplicit)], isGenerator := false, isCoroutine := false, more := [] }
/-- the call of super's making, read step by step -/
def SupEv (txt : Str) (kx : Nat) (q1 q2 q3 q4 q5 : Pos) : Prop := ∃ pl : Env → Sem Bool, ∀ env : Env, eval (.Call (.Attribute (.Call (.Name "super" q1) [] [] q2) "__init__" q3) [.Constant (.str txt) kx q4] [] q5) env = (do
    let ov ← attributeBase (.Call (.Name "super" q1) [] [] q2) "__init__" env (eval (.Call (.Name "super" q1) [] [] q2) env)
    standAt q3.atName
    let (f, first) ← holding [ov] (getMethod ov "__init__" (pl env))
    callWith q5 f first (backTo q5 (starEach [.Constant (.str txt) kx q4] env)) [])
example : SupEv "no attitude" 0 ⟨27, 8, 27, 13⟩ ⟨27, 8, 27, 15⟩ ⟨27, 8, 27, 24⟩ ⟨27, 25, 27, 49⟩ ⟨27, 8, 27, 50⟩ := ⟨_, fun _ => rfl⟩
structure SErr (P : Program) (K : Frag) (mg : Str → Option Value) (x fld : Str) (C fI : Addr) : Prop where
  gC : mg x = some (.ref C)
  cls : ∃ nm q N bs bm sn sub ab col dd k0 k1 k2 k3 k5, K.lookup C = some (excClassObj nm q C N bs bm true sn sub ab col dd k0 k1 k2 k3 k5 "ValueError.__new__") ∧ refsVE bm = true
  sa : findIn K (.ref C) "__setattr__" = some (some (.builtin "object.__setattr__"))
  ga : findIn K (.ref C) "__getattribute__" = some (some (.builtin "BaseException.__getattribute__"))
  gg : findIn K (.ref C) "__getattr__" = some none
  noF : findIn K (.ref C) fld = some none
  iC : findIn K (.ref C) "__init__" = some (some (.ref fI))
  tC : typeIn K (.ref fI) = some (.type "function")
  kC : keepIn K (.ref C) = true
  exC : subIn K (.ref C) (.type "BaseException") = some true
  veC : subIn K (.ref C) (.type "ValueError") = some true
  tyC : typeIn K (.ref C) = some (.type "type")
  hdC : hasDictIn K C = true
  te : exmOne K (.ref C) (.ref C) = some true
  al : ks_superIn K C C "__init__" = some (some (.builtin "ValueError.__init__"))
  self_ : mroIn K C (.ref C) = some true
  opq : nsIn K cStatics "thirdparty.any" = some none
  nsS : mg "super" = none
  okf : (fld == ("self" : Str)) = false
  okc : (("__class__" : Str) == fld) = false
  oks : (("super" : Str) == fld) = false
  okv : (("self" : Str) == fld) = false
  okd : (fld == ("__debug__" : Str)) = false
  fn : ∃ (oc : Value) (od : Option Addr) (doc pm : Value) (an : Option Addr) (cda cc : Addr) (ct : Value) (qual txt : Str) (kx : Nat) (osl : Array (Option Value)) (p1 p2 q1 q2 q3 q4 q5 q6 r1 r2 r3 r4 : Pos),
    K.lookup fI = some ⟨oc, od, .func (ksFn "__init__" qual (iA fld p1 p2) (iB txt fld kx q1 q2 q3 q4 q5 q6 r1 r2 r3 r4) (iS fld) .none .none doc pm an (.ref cda) ct cc), osl⟩ ∧ codeIn K (.ref cda) qual = true ∧
    (∃ ccl cdd vs ccs file tf, K.lookup cda = some ⟨ccl, cdd, .fields vs, ccs⟩ ∧ vs[2]? = some (.str file tf) ∧ ((P.main.file : Str) == file) = true) ∧
    (∃ cl cld csl, K.lookup cc = some ⟨cl, cld, .cell (some (.ref C)), csl⟩) ∧
    (∀ (x : Addr) (v : Value), bindArgs (ksFn "__init__" qual (iA fld p1 p2) (iB txt fld kx q1 q2 q3 q4 q5 q6 r1 r2 r3 r4) (iS fld) .none .none doc pm an (.ref cda) ct cc) ⟨[.ref x, v], []⟩ = pure [(("self" : Str), Value.ref x), (fld, v)]) ∧ SupEv txt kx q1 q2 q3 q4 q5
  top : (P.main.scope.names.lookup ("super" : Str)).isSome = false
theorem one_size (v : Value) : [v].length ≤ sizeLine := by
  rw [sizeLine_eq]
  exact (by decide : 1 ≤ 16777216)
/-- what the making leaves of a fresh exception at x -/
structure InitEnd (h h' : Heap) (x C dx t1 : Addr) (fld : Str) (v : Value) : Prop where
  keep : ∀ b o, b ≠ x → h.get? b = some o → h'.get? b = some o
  obj : h'.get? x = some { cls := .ref C, dict := some dx, data := .fields #[.ref t1, .none, .none, .none, .bool false, .none] }
  dbig : h.objs.size ≤ dx
  dne : dx ≠ x
  ns : h'.Ns1 dx (fun y => if y = fld then some v else none)
structure OwnMade (h h' : Heap) (e C d : Addr) (fld : Str) (v : Value) : Prop where
  keep : ∀ b o, h.get? b = some o → h'.get? b = some o
  new : h.objs.size ≤ e
  obj : ∃ t1 : Addr, h'.get? e = some ({ cls := .ref C, dict := some d, data := .fields #[.ref t1, .none, .none, .none, .bool false, .none] } : Obj)
  dbig : h.objs.size ≤ d
  dne : d ≠ e
  ns : h'.Ns1 d (fun y => if y = fld then some v else none)
section
variable {prog : Program} {w : World} {A : Around} {E : Value → Shared → Prop} {R : Result → Shared → Prop} {s : Shared} {K : Frag} {mg mb : Str → Option Value} {C fI : Addr} {xn fld : Str}
theorem sup_init (T : SErr prog K mg xn fld C fI) {x t0 : Addr} {v : Value} (X : K.In s.heap) (hlim : s.heap.NoLimit) (hg : s.heap.Ns mainGlobals mg) (hb : s.heap.Ns builtinsNs mb) (hbs : mb "super" = bootBuiltins "super")
    (hx : s.heap.get? x = some (excO C t0)) (hnx : K.lookup x = none) (hroom : A.depth < recursionLimit)
    (hq : ∀ h' tk dx t1, InitEnd s.heap h' x C dx t1 fld v → R (.ok (.ret .none)) { s with heap := h', toks := tk }) :
    codeAny (model prog w) A (.call (.ref fI) ⟨[.ref x, v], []⟩) R s := by
  obtain ⟨oc, od, doc, pm, an, cda, cc, ct, qual, txt, kx, osl, p1, p2, q1, q2, q3, q4, q5, q6, r1, r2, r3, r4, ho, hcd, ⟨ccl, cdd, vs, ccs, file, tf, hcode, hvs, hfile⟩, ⟨cl, cld, csl, hcell⟩, hbnd, ⟨pl, hev⟩⟩ := T.fn
  obtain ⟨nm, q, N, bs, bm, sn, sub, ab, col, dd, k0, k1, k2, k3, k5, hC, hbm⟩ := T.cls
  have hcl : clsIn K C = some { name := nm, bases := bs, mro := .ref C :: bm, ns := N, qualname := q, hasDict := true, slotNames := sn, subclasses := sub, abstract := ab, collection := col, hasDel := false } := by unfold clsIn; rw [hC] <;> rfl
  have hf1 : fld ≠ "self" := by simpa using T.okf
  have hlk : (iS fld).names.lookup fld = some .local := by
    show (List.lookup fld [(PySem.Str.ofString "self", NameKind.local), (fld, .local), (PySem.Str.ofString "__class__", .free), (PySem.Str.ofString "super", .globalImplicit)]) = some .local
    rw [List.lookup_cons]
    rw [show (fld == PySem.Str.ofString "self") = false from T.okf]
    simp
  have hkS : (iS fld).names.lookup ("super" : Str) = some .globalImplicit := by
    show (List.lookup ("super" : Str) [(PySem.Str.ofString "self", NameKind.local), (fld, .local), (PySem.Str.ofString "__class__", .free), (PySem.Str.ofString "super", .globalImplicit)]) = some .globalImplicit
    rw [List.lookup_cons, show (("super" : Str) == PySem.Str.ofString "self") = false by decide +kernel]
    simp only
    rw [List.lookup_cons, T.oks]
    rfl
  have hkC : (iS fld).names.lookup ("__class__" : Str) = some .free := by
    show (List.lookup ("__class__" : Str) [(PySem.Str.ofString "self", NameKind.local), (fld, .local), (PySem.Str.ofString "__class__", .free), (PySem.Str.ofString "super", .globalImplicit)]) = some .free
    rw [List.lookup_cons, show (("__class__" : Str) == PySem.Str.ofString "self") = false by decide +kernel]
    simp only
    rw [List.lookup_cons, T.okc]
    rfl
  have hself : List.lookup ("self" : Str) [(("self" : Str), Value.ref x), (fld, v)].reverse = some (Value.ref x) := by
    show List.lookup ("self" : Str) [(fld, v), (("self" : Str), Value.ref x)] = some (Value.ref x)
    rw [List.lookup_cons, T.okv]
    rfl
  have hfld : List.lookup fld [(("self" : Str), Value.ref x), (fld, v)].reverse = some v := by
    show List.lookup fld [(fld, v), (("self" : Str), Value.ref x)] = some v
    rw [List.lookup_cons, show (fld == fld) = true by simp]
  refine ks_codeAny_call_defAt (fd := ksFn "__init__" qual (iA fld p1 p2) (iB txt fld kx q1 q2 q3 q4 q5 q6 r1 r2 r3 r4) (iS fld) .none .none doc pm an (.ref cda) ct cc) (body := iB txt fld kx q1 q2 q3 q4 q5 q6 r1 r2 r3 r4) (binds := [(("self" : Str), Value.ref x), (fld, v)]) hroom (X _ _ ho) rfl hlim (codeRec_of X hcd) rfl
    (BindsTo.of_eq (hbnd x v)) ?_ ?_ (fun h₁ hn hk₁ => ?_) rfl rfl rfl
  · intro y hy
    simp only [iS, List.mem_cons, List.not_mem_nil, or_false] at hy
    rcases hy with rfl | rfl | rfl | rfl <;> simp
  · intro y hy
    rcases List.mem_cons.mp hy with rfl | hy
    · rfl
    rcases List.mem_cons.mp hy with rfl | hy
    · exact hlk
    · cases hy
  · have X₁ : K.In h₁ := X.keeps hk₁
    have hx₁ := hk₁ _ _ hx
    have hL : s.heap.objs.size ≠ x := Nat.ne_of_gt (Heap.lt_size hx)
    obtain ⟨hp, g, d, t, os⟩ := s
    obtain ⟨oD, hD1, hD2⟩ : ∃ oD, h₁.get? C = some oD ∧ oD.data = .cls { name := nm, bases := bs, mro := .ref C :: bm, ns := N, qualname := q, hasDict := true, slotNames := sn, subclasses := sub, abstract := ab, collection := col, hasDel := false } := ⟨_, X₁ _ _ hC, rfl⟩
    have xC : x ≠ C := fun z => by
      rw [z, X₁ _ _ hC] at hx₁
      cases hx₁
    refine ks_wpAt_execs_cons (ks_wpAt_Expr_any (ks_wpAt_MethodCall ?_ (hev _)))
    refine ks_wpAt_super_base (oc := ⟨ccl, cdd, .fields vs, ccs⟩) hkS hkC rfl rfl (X₁ _ _ ho) rfl rfl rfl (X₁ _ _ hcode) rfl hvs hfile T.top ?_
    refine ks_loadName_global rfl hkS (loadGlobal_builtin (hg.keeps hk₁) T.nsS (hb.keeps hk₁) (hbs.trans (by decide +kernel)) ⟨rfl, ?_⟩)
    refine wpAny_loadName_free rfl hkC rfl ⟨_, X₁ _ _ hcell, rfl⟩ ?_
    refine wpAny_loadName_local rfl rfl hn (v := .ref x) hself ?_
    refine ks_wpAny_isType_cls hD1 hD2 ⟨rfl, ?_⟩
    refine ks_wpAny_call_super hD1 hD2 hx₁ rfl (fun c e => by cases e) (looks_mroIn X₁ T.self_) (fun h2 e2 k2 => ?_)
    have X2 : K.In h2 := X₁.keeps k2
    have hx2 := k2 _ _ hx₁
    have I2 : InstAt h2 x (excO C t0) C none := ⟨hx2, rfl, rfl, trivial⟩
    refine kxs_getMethod kxs_ValueError e2 (looks_opaque X2 T.opq) (l₀ := .ref C :: bm) (fun A Q E s k q => wpAny_bind ((looks_clsIn X2 hcl) A _ E s k (wpAny_pure q))) rfl X2 ?_ (I2.type.andThen (looks_subIn X2 T.veC)) xC rfl ?_
    · have z := T.al
      unfold ks_superIn at z
      rw [hcl] at z
      exact z
    -- the wrapper is called with the text
    have hu0 : (h2.push (kxs_mw "ValueError.__init__" x)).get? h2.objs.size = some (kxs_mw "ValueError.__init__" x) := Heap.get?_push_at rfl rfl
    have k3 : ∀ b o, h2.get? b = some o → (h2.push (kxs_mw "ValueError.__init__" x)).get? b = some o := fun b o e => Heap.get?_push_of_some _ e
    refine kxs_callWith (i := "ValueError.__init__") (x := x) (by rfl) ?_
    refine evalArgs_plain ?_
    refine Calls.spliced_cons ?_
    show wpAny _ _ (eval (.Constant (.str txt) kx q4) _) _ _ _
    refine Calls.Constant_str ?_
    refine Calls.spliced_nil ⟨hu0, ?_⟩
    refine wpAny_call (codeAny_of_tree ?_)
    show wpAny _ _ (callAny (.ref h2.objs.size) ⟨[Value.str txt _], []⟩) _ _ _
    simp only [callAny]
    refine wpAny_bind (wpAny_load hu0 ?_)
    simp only [kxs_mw, show (Value.type "method-wrapper" == Value.type "method" || Value.type "method-wrapper" == Value.type "builtin_function_or_method" || Value.type "method-wrapper" == Value.type "method-wrapper") = true by decide, if_true]
    refine KFB.if_so (by decide) ?_
    refine wpAny_bind (check_bound_init F.excBase_ValueError.toExcCallFacts (k3 _ _ (X2 _ _ hC)) (k3 _ _ hx2) rfl ?_)
    refine wpAny_bind (wpAny_pure (wpAny_pure ?_))
    refine ⟨plainId_quiet F.excBase_ValueError.init.plain _, codeAny_builtin F.excBase_ValueError.initEntry ?_⟩
    refine exc_init_tree (cls := .ref C) (t0 := t0) (dv := none) (c2 := .none) (c3 := .none) (b4 := .bool false) (k3 _ _ hx2) (one_size _) (fun h4 k4 e4 t4 => ?_)
    -- self.fld = fld
    show wpAt _ _ _ (execs _ _) _ _ _
    have up : ∀ b o, b ≠ x → h₁.get? b = some o → h4.get? b = some o := fun b o hb e => k4 b o hb (k3 _ _ (k2 _ _ e))
    have X4 : K.In h4 := fun b o e => up b o (fun z => by rw [z, hnx] at e; cases e) (X₁ _ _ e)
    have hn4 : h4.Ns hp.objs.size (fun y => List.lookup y [(("self" : Str), Value.ref x), (fld, v)].reverse) := hn.at (fun o e => up _ o hL e)
    refine ks_wpAt_execs_cons (ks_wpAt_Assign_Attr (wpAt_of_wpAny (wpAny_Name (wpAny_loadName_local rfl hlk hn4 hfld (wpAny_Name (wpAny_loadName_local rfl rfl hn4 hself ?_) rfl)) ?_)))
    · refine set_plain X4 (ox := excO C _) (od := none) ⟨e4, rfl, rfl, trivial⟩ T.sa ?_
      refine exc_osa X4 e4 hcl (show refsVE (.ref C :: bm) = true from hbm) rfl T.noF (fun h5 tk5 dx k5 dn dne hx5 hn5 => ?_)
      show wpAt _ _ _ (execs _ _) _ _ _
      have z : hp.objs.size < h4.objs.size := hn4.lt
      exact wpAt_of_wpAny (wpAny_execs_nil (hq h5 tk5 dx _ ⟨fun b o hb e => k5 b o hb (up b o hb (hk₁ b o e)), hx5, Nat.le_of_lt (Nat.lt_of_lt_of_le z dn), dne, hn5⟩))
    · exact T.okd
theorem sup_made (T : SErr prog K mg xn fld C fI) {v : Value} (X : K.In s.heap) (hlim : s.heap.NoLimit) (hg : s.heap.Ns mainGlobals mg) (hb : s.heap.Ns builtinsNs mb) (hbs : mb "super" = bootBuiltins "super") (hroom : A.depth + 1 < recursionLimit)
    (hq : ∀ h' tk e d, OwnMade s.heap h' e C d fld v → R (.ok (.ret (.ref e))) { s with heap := h', toks := tk }) :
    codeAny (model prog w) A (.call (.ref C) ⟨[v], []⟩) R s := by
  obtain ⟨nm, q, N, bs, bm, sn, sub, ab, col, dd, k0, k1, k2, k3, k5, hC, hbm⟩ := T.cls
  obtain ⟨hp, g, dr, tk, os⟩ := s
  have k : ∀ b o, hp.get? b = some o → ((hp.push (kdv_tup [v])).push (excO C hp.objs.size)).get? b = some o := fun b o e => Heap.get?_push_of_some _ (Heap.get?_push_of_some _ e)
  have hget : ((hp.push (kdv_tup [v])).push (excO C hp.objs.size)).get? (hp.objs.size + 1) = some (excO C hp.objs.size) := by heap_get
  have hnx : K.lookup (hp.objs.size + 1) = none := by
    cases e : K.lookup (hp.objs.size + 1) with
    | none => rfl
    | some o =>
      have z : hp.get? (hp.objs.size + 1) = some o := X _ _ e
      exact absurd (Nat.lt_of_succ_lt (Heap.lt_size z)) (Nat.lt_irrefl _)
  refine call_own F.excBase_ValueError (fun Y => refsVE_contains Y bm hbm) (X _ _ hC) (looks_findIn X T.iC) (fun self => bind_fn X self T.tC) (one_size v) ?_
  refine sup_init (s := ⟨(hp.push (kdv_tup [v])).push (excO C hp.objs.size), g, dr, tk, os⟩) T (X.keeps k) (hlim.keeps k) (hg.keeps k) (hb.keeps k) hbs hget hnx ?_ fun h' tk' dx t1 ⟨k', hx, dn, dne, hns⟩ => ?_
  · show A.depth + 1 < recursionLimit
    exact hroom
  · have old : ∀ b o, hp.get? b = some o → h'.get? b = some o := fun b o e => k' b o (Nat.ne_of_lt (Nat.lt_succ_of_lt (Heap.lt_size e))) (k b o e)
    have z : hp.objs.size + 1 + 1 ≤ dx := by
      first
        | (simpa only [Heap.size_push] using dn)
        | exact dn
        | (have q := dn; rw [Heap.size_push, Heap.size_push] at q; exact q)
    exact ⟨rfl, hq h' tk' (hp.objs.size + 1) dx ⟨old, Nat.le_succ _, ⟨_, hx⟩, Nat.le_trans (Nat.le_trans (Nat.le_succ _) (Nat.le_succ _)) z, dne, hns⟩⟩

end
end SwX
end PySem
namespace L2
open PySem PySem.Spec PyProof.Rows
theorem relO_one {f g : Str} {v : V} {u : Value} (r : RelV v u) : RelO (List.lookup g [(f, v)]) (if g = f then some u else none) := by
  by_cases hw : g = f
  · subst hw
    rw [if_pos rfl, show List.lookup g [(g, v)] = some v by simp [List.lookup]]
    exact r
  · rw [if_neg hw, show List.lookup g [(f, v)] = none by
      have qw : (g == f) = false := by simpa using hw
      simp [List.lookup, qw]]
    trivial
section
variable {X : Cx} {C fI : Addr} {xn fld : Str}
/-- X(e), X such a class: its own dict d, new, keeps the field -/
def tMkS (C : Addr) (fld : Str) (ta : TA) : St → Hp → XK → Prop := fun σ H Q => ta σ H fun vs H1 => ∃ v, vs = [v] ∧ ∀ d, H1 d = none → Q (.ref C) (some d) (upd H1 d (.xd [(fld, v)]))
theorem pmk_sup {a : Expr} {ta : TA} {p pos : Pos} {k : Nat} (T : PySem.SwX.SErr X.prog X.K X.mg xn fld C fI) (hr : Room k X.A) (ha : PA X [a] ta) (hg : Gl X xn := by rfl) (hdb : (xn == ("__debug__" : Str)) = false := by decide)
    (he : starEach (a :: []) X.env = (false, eval a X.env) :: starEach [] X.env := by rfl) (hpl : (backTo pos (starEach [] X.env)).any (·.1) = false := by rfl) :
    PMk X (.Call (.Name xn p) [a] [] pos) (tMkS C fld ta) := by
  intro pins s σ H Q I h
  refine wpAny_Call_Name_kw (ld_glob I hg T.gC ?_ hdb)
  refine PySem.W.callWith_K (h₀ := X.base) I.ok.mod.kin T.kC (thn (ha.run pos pins s σ H _ I h) fun us s1 hh => ?_) he hpl
  obtain ⟨vs, H1, I1, r1, v, ev, q1⟩ := hh
  subst ev
  refine ⟨I1.kIn, ?_⟩
  cases r1 with
  | cons rv rn =>
    rename_i v' us'
    cases rn
    show wpAny _ _ (call (.ref C) [v']) _ _ _
    have hlim := I1.nolimit
    obtain ⟨mb, hb1, hb2⟩ := I1.mod.blt
    have hgl := I1.mod.glob.keeps I1.bk
    have hbl := hb1.keeps I1.bk
    have hkin := I1.kIn
    obtain ⟨hp, g, dr, tk, os⟩ := s1
    refine wpAny_call (PySem.SwX.sup_made T hkin hlim hgl hbl (hb2 _ (by decide)) (by have := hr.dp; omega) fun h' tk' e d M => ?_)
    show MkP X pins σ Q (.ref e) ⟨h', g, dr, tk', os⟩
    obtain ⟨t1, hoe⟩ := M.obj
    have hns := M.ns
    obtain ⟨G', g1, g2⟩ := restrict h' fun b => decide (b ≠ e)
    have gk : ∀ b, b ≠ e → G'.get? b = h'.get? b := fun b hb => g1 b (decide_eq_true hb)
    have ge : G'.get? e = none := g2 e (by simp)
    have old : ∀ b o, hp.get? b = some o → G'.get? b = some o := fun b o q => (gk b (Nat.ne_of_lt (Nat.lt_of_lt_of_le (Heap.lt_size q) M.new))).trans (M.keep b o q)
    have ob : ObjOk X.prog X.w (upd H1 d (.xd [(fld, v)])) G' d (.xd [(fld, v)]) :=
      ⟨_, hns.at (fun o q => (gk d M.dne).trans q), fun f => relO_one rv⟩
    have J : Inv X pins σ (upd H1 d (.xd [(fld, v)])) ⟨G', g, dr, tk', os⟩ := I1.laid (t' := tk') old M.dbig ob
    refine ⟨e, _, _, ⟨G', g, dr, tk', os⟩, _, .ref C, some d, rfl, J, fun b o q => ?_, ge, hoe, ⟨rfl, rfl⟩, rfl, rfl, ?_, rfl, I1.bare, raises_own T.exC T.tyC, q1 d (I1.hok.fresh M.dbig)⟩
    · by_cases hb : b = e
      · have q' : G'.get? b = some o := q
        rw [hb, ge] at q'; cases q'
      · exact (gk b hb).symm.trans q
    · rw [upd_ne (Ne.symm M.dne)]
      exact I1.hok.fresh M.new
/-- raise X(e) -/
def tRaiseS (C : Addr) (fld : Str) (W : WX) (ta : TA) : TS := fun _ σ H => tMkS C fld ta σ H fun cls d H' => W cls d σ H'
theorem ps_raiseS {a : Expr} {ta : TA} {W : WX} {p pos pos2 : Pos} {k : Nat} (hc : X.calm = true) (T : PySem.SwX.SErr X.prog X.K X.mg xn fld C fI) (hr : Room k X.A) (tk : Takes X W) (ha : PA X [a] ta) (hg : Gl X xn := by rfl) (hdb : (xn == ("__debug__" : Str)) = false := by decide)
    (he : starEach (a :: []) X.env = (false, eval a X.env) :: starEach [] X.env := by rfl) (hpl : (backTo pos (starEach [] X.env)).any (·.1) = false := by rfl) :
    PS X (.Raise (some (.Call (.Name xn p) [a] [] pos)) none pos2) (tRaiseS C fld W ta) := ps_raise hc tk (pmk_sup T hr ha hg hdb he hpl)
/-- n.fld, n the exception that the suite holds (at a; its class cls, its dict d) -/
def tErrFld (C : Addr) (fld : Str) (a : Addr) (cls : Value) (d : Option Addr) (te : TE) : TE := fun σ H Q => te σ H fun x H1 => x = .ref a ∧ cls = .ref C ∧ ∃ (dd : Addr) (v : V), d = some dd ∧ H1 dd = some (.xd [(fld, v)]) ∧ Q v H1
theorem pe_errFld {a : Addr} {oe : Obj} {cls : Value} {d : Option Addr} {pn : List (Addr × Obj)} {e : Expr} {te : TE} {pos : Pos} (T : PySem.SwX.SErr X.prog X.K X.mg xn fld C fI) (hz : Zc cls d oe) (hf : ∃ vs, oe.data = .fields vs) (he : PE (X.suite a ((a, oe) :: pn)) e te)
    (hb : attributeBase e fld X.env (eval e X.env) = eval e X.env := by rfl) :
    PE (X.suite a ((a, oe) :: pn)) (.Attribute e fld pos) (tErrFld C fld a cls d te) := by
  refine ⟨fun pins s σ H Q I h => ?_⟩
  refine attr_of hb (thn (he.run pins s σ H _ I h) fun u s1 hh => ?_)
  obtain ⟨x, H1, I1, rx, ex, ec, dd, v, ed, ea, q⟩ := hh
  subst ex
  obtain rfl : u = Value.ref a := rx
  subst ec
  subst ed
  obtain ⟨ha, _⟩ := I1.pin (a, oe) (List.mem_append_left _ List.mem_cons_self)
  obtain ⟨vs, hd⟩ := hf
  have hx : ObjOk X.prog X.w H1 s1.heap dd (.xd [(fld, v)]) := I1.hok dd _ ea
  obtain ⟨mA, hns, hr⟩ := hx
  obtain ⟨od, ho, hl⟩ := lookIn_ns hns
  have l : List.lookup fld [(fld, v)] = some v := by simp [List.lookup]
  obtain ⟨u, hu, ru⟩ := RelO.some_of (v := v) (o := mA fld) (by rw [← l]; exact hr fld)
  have J : PySem.W.InstAt s1.heap a oe C (some od) := ⟨ha, hz.1, by unfold PySem.W.notCls; rw [hd] <;> rfl, by rw [hz.2]; exact ho⟩
  exact HandSPX.exc_get I1.kIn J T.ga T.gg T.exC (PySem.W.findObj_own T.hdC T.noF rfl (by rw [hl, hu])) (handed_of ru) ⟨v, H1, I1.tok _, ru, q⟩
end
end L2
set_option Elab.async false
set_option linter.all false
set_option maxRecDepth 100000
set_option maxHeartbeats 4000000
/-! try with several clauses that all hand the error to one name. -/
namespace L2
open PySem PySem.Spec PyProof.Rows
/-- what follows a suite: the name is gone again -/
def noName (i : Nat) (D : Ends) : Ends := { nx := fun σ' H' => D.nx (σ'.set i none) H', rt := D.rt, bk := fun σ' H' => D.bk (σ'.set i none) H', ct := fun σ' H' => D.ct (σ'.set i none) H' }
abbrev ClauseT := Value × Bool × (Addr → Value → Option Addr → TS)
def wEach (K : PySem.W.Frag) (i : Nat) (Wout : WX) (D : Ends) : List ClauseT → WX
  | [] => Wout
  | (c, true, ts) :: r => fun cls d σ H => ∃ b, PySem.W.exmOne K cls c = some b ∧ (b = true → ∀ a, H a = none → ts a cls d (noName i D) (σ.set i (some (.ref a))) H) ∧ (b = false → wEach K i Wout D r cls d σ H)
  | (c, false, ts) :: r => fun cls d σ H => ∃ b, PySem.W.exmOne K cls c = some b ∧ (b = true → ∀ a, H a = none → ts a cls d D σ H) ∧ (b = false → wEach K i Wout D r cls d σ H)
inductive Clauses (X : Cx) (n : Str) : List ExceptHandler → List ClauseT → Prop
  | nil : Clauses X n [] []
  | cons {x : Str} {c : Value} {ts : Addr → Value → Option Addr → TS} {b₀ : Stmt} {suite : List Stmt} {np pos' : Pos} {hds : List ExceptHandler} {l : List ClauseT} (hc : Names X x c)
      (hsu : ∀ (a : Addr) (oe : Obj) (cls : Value) (d : Option Addr) (pn : List (Addr × Obj)), Zc cls d oe → (∃ vs, oe.data = .fields vs) → PSs (X.suite a ((a, oe) :: pn)) (b₀ :: suite) (ts a cls d)) (r : Clauses X n hds l) :
      Clauses X n (.ExceptHandler (some (.Name x np)) (some n) (b₀ :: suite) pos' :: hds) ((c, true, ts) :: l)
  | bare {x : Str} {c : Value} {ts : Addr → Value → Option Addr → TS} {b₀ : Stmt} {suite : List Stmt} {np pos' : Pos} {hds : List ExceptHandler} {l : List ClauseT} (hc : Names X x c)
      (hsu : ∀ (a : Addr) (oe : Obj) (cls : Value) (d : Option Addr) (pn : List (Addr × Obj)), Zc cls d oe → (∃ vs, oe.data = .fields vs) → PSs (X.suite a ((a, oe) :: pn)) (b₀ :: suite) (ts a cls d)) (r : Clauses X n hds l) :
      Clauses X n (.ExceptHandler (some (.Name x np)) none (b₀ :: suite) pos' :: hds) ((c, false, ts) :: l)
section
variable {X : Cx} {n : Str} {i : Nat} {body : List Stmt} {h₀ : ExceptHandler} {hds : List ExceptHandler} {l : List ClauseT} {pos : Pos} {tb : WX → TS} {Wout : WX}
/-- the clauses, one after the other, at an error that was met -/
theorem each_ok (hN : X.N.Nodup) (hi : X.N[i]? = some n) (hln : X.env.kindOf n = some .local) (hf : X.env.frame = some X.env.locals) (hs : X.stack = X.env :: X.outer) (tk : Takes X Wout) (ok : X.Ok)
    {a : Addr} {B : Heap} {cls : Value} {d : Option Addr} {pins : List (Addr × Obj)} {σ' : St} {H' : Hp} {D : Ends} {sI s' : Shared} {h3 : Heap} (J : Inv X pins σ' H' sI) (nb : ∀ b o, sI.heap.get? b = some o → b ∉ frs X.stack → B.get? b = some o)
    (up : sI.heap.UpToSlots s'.heap) (up3 : s'.heap.UpToSlots h3) (na : H' a = none) (os : s'.os = sI.os) (ag : AllBare s'.gens)
    (fl3 : HandSPX.FlyingZ B (X.env :: X.outer) a (Zc cls d) h3) (nL : a ≠ X.env.locals) (nF : a ∉ X.fs) : ∀ {hs' : List ExceptHandler} {l' : List ClauseT}, Clauses X n hs' l' → wEach X.K i Wout D l' cls d σ' H' →
      wpAny (model X.prog X.w) X.A (handleBy (.ref a) X.env hs') (SP X pins D) X.xe { s' with heap := h3 } := by
  have J3 : Inv X pins σ' H' { s' with heap := h3 } := J.landed nb fl3.1 (up.trans up3) os ag
  obtain ⟨oe3, vs3, he3, hz3, hd3⟩ := fl3.there
  have S3 := J3.suite he3 hd3 na nL nF
  intro hs' l' hk
  induction hk with
  | nil =>
    intro w
    apply wpAny_handleBy_nil
    obtain ⟨k1, k2, k3, oe, vs, T, oT, ts', he, hz, hd, h1, hr⟩ := id fl3
    unfold PySem.passOn
    apply wpAny_bind
    refine wpAny_field he hd h1 ?_
    rw [if_neg (show ¬ ((Value.ref T == Value.none) = true) from by simp)]
    have fin : wpAny (model X.prog X.w) X.A (setFlight (.ref a) X.env.frame) (fun _ s4 => wpAny (model X.prog X.w) X.A (throw (.ref a) : Sem Flow) (SP X pins D) X.xe s4) X.xe { s' with heap := h3 } := by
      rw [hf]
      refine HandSPX.setFlight_upZ fl3 fun h4 hh4 up4 => wpAny_throw (tk _ _ ?_)
      refine ⟨a, B, sI, pins, σ', H', cls, d, rfl, J, nb, (up.trans up3).trans up4, .inr (.inr ?_), na, os, ag, w⟩
      rw [hs]
      exact hh4
    first
      | exact wpAny_bind (wpAny_pure (wpAny_bind fin))
      | exact wpAny_bind fin
  | @cons x c ts b₀ suite np pos' hds2 l2 hc hsu r ih =>
    rintro ⟨b, hb1, hyes, hno⟩
    refine wpAny_handleBy_cons (codeAny_handlers_test ?_) (by intro q; cases q)
    have LT : PySem.W.Looks (model X.prog X.w) h3 (typeOf (.ref a)) cls := fun A Q E s k q => wpAny_typeOf_ref (k _ _ he3) (by rw [hz3.1]; exact q)
    have LM := PySem.W.exm_one (M := model X.prog X.w) (J3.kIn) LT hb1
    have test : ∀ {Q : Value → Shared → Prop} {E : Value → Shared → Prop}, Q c { s' with heap := h3 } → wpAny (model X.prog X.w) (X.A.mark (some (.ref a))) (eval (.Name x np) X.env) Q E { s' with heap := h3 } := by
      intro Q E q
      obtain ⟨hg, hdbg, hm | ⟨hm, hv, hnn⟩⟩ := hc
      · exact ld_glob (X := X.suite a ((a, oe3) :: (X.pn ++ pins))) S3 hg hm q hdbg
      · exact ld_blt (X := X.suite a ((a, oe3) :: (X.pn ++ pins))) S3 hg hm hv q hnn hdbg
    refine test (LM.here ?_)
    cases b with
    | false =>
      show wpAny _ X.A (handleBy (.ref a) X.env hds2) _ _ _
      exact ih (hno rfl)
    | true =>
      apply codeAny_handlers_suite_as
      refine HandSPX.lands_againZ fl3 fun h4 fl4 up4 => ?_
      have J4 : Inv X pins σ' H' { s' with heap := h4 } := J.landed nb fl4.1 ((up.trans up3).trans up4) os ag
      obtain ⟨oe4, vs4, he4, hz4, hd4⟩ := fl4.there
      have S4 := J4.suite he4 hd4 na nL nF
      refine store_ok (X := X.suite a ((a, oe4) :: (X.pn ++ pins))) (v := .ref a) S4 hN hi (.inl hln) rfl (fun s5 S5 => ?_) (.inr hln)
      have run := (hsu a oe4 cls d (X.pn ++ pins) hz4 ⟨_, hd4⟩).run [] s5 _ H' _ S5 (hyes rfl a na)
      refine wpAny_mono run (fun f s6 hsp => ?_) (fun _ _ z => z.elim)
      have gone : ∀ {σ6 : St} {H6 : Hp} {Q : Shared → Prop}, Inv (X.suite a ((a, oe4) :: (X.pn ++ pins))) [] σ6 H6 s6 → (∀ s7, Inv X pins (σ6.set i none) H6 s7 → Q s7) →
          wpAny (model X.prog X.w) X.A (do bindName X.env n .none; unbindBehindTheSuite X.env n pos') (fun _ s7 => Q s7) X.xe s6 := fun S6 hq => gone_ok (S6.unsuite ok) hN hi hln hq
      cases f with
      | ret u =>
        obtain ⟨v6, σ6, H6, S6, r6, q6⟩ := hsp
        exact gone S6 fun s7 J7 => ⟨_, _, _, J7, r6, q6⟩
      | next =>
        obtain ⟨σ6, H6, S6, q6⟩ := hsp
        exact gone S6 fun s7 J7 => ⟨_, _, J7, q6⟩
      | brk =>
        obtain ⟨σ6, H6, S6, q6⟩ := hsp
        exact gone S6 fun s7 J7 => ⟨_, _, J7, q6⟩
      | cont =>
        obtain ⟨σ6, H6, S6, q6⟩ := hsp
        exact gone S6 fun s7 J7 => ⟨_, _, J7, q6⟩
  | @bare x c ts b₀ suite np pos' hds2 l2 hc hsu r ih =>
    rintro ⟨b, hb1, hyes, hno⟩
    refine wpAny_handleBy_cons (codeAny_handlers_test ?_) (by intro q; cases q)
    have LT : PySem.W.Looks (model X.prog X.w) h3 (typeOf (.ref a)) cls := fun A Q E s k q => wpAny_typeOf_ref (k _ _ he3) (by rw [hz3.1]; exact q)
    have LM := PySem.W.exm_one (M := model X.prog X.w) (J3.kIn) LT hb1
    have test : ∀ {Q : Value → Shared → Prop} {E : Value → Shared → Prop}, Q c { s' with heap := h3 } → wpAny (model X.prog X.w) (X.A.mark (some (.ref a))) (eval (.Name x np) X.env) Q E { s' with heap := h3 } := by
      intro Q E q
      obtain ⟨hg, hdbg, hm | ⟨hm, hv, hnn⟩⟩ := hc
      · exact ld_glob (X := X.suite a ((a, oe3) :: (X.pn ++ pins))) S3 hg hm q hdbg
      · exact ld_blt (X := X.suite a ((a, oe3) :: (X.pn ++ pins))) S3 hg hm hv q hnn hdbg
    refine test (LM.here ?_)
    cases b with
    | false =>
      show wpAny _ X.A (handleBy (.ref a) X.env hds2) _ _ _
      exact ih (hno rfl)
    | true =>
      apply codeAny_handlers_suite
      refine HandSPX.lands_againZ fl3 fun h4 fl4 up4 => ?_
      have J4 : Inv X pins σ' H' { s' with heap := h4 } := J.landed nb fl4.1 ((up.trans up3).trans up4) os ag
      obtain ⟨oe4, vs4, he4, hz4, hd4⟩ := fl4.there
      have S4 := J4.suite he4 hd4 na nL nF
      have run := (hsu a oe4 cls d (X.pn ++ pins) hz4 ⟨_, hd4⟩).run [] _ _ H' _ S4 (hyes rfl a na)
      refine wpAny_mono run (fun f s6 hsp => ?_) (fun _ _ z => z.elim)
      cases f with
      | ret u =>
        obtain ⟨v6, σ6, H6, S6, r6, q6⟩ := hsp
        exact ⟨_, _, _, S6.unsuite ok, r6, q6⟩
      | next =>
        obtain ⟨σ6, H6, S6, q6⟩ := hsp
        exact ⟨_, _, S6.unsuite ok, q6⟩
      | brk =>
        obtain ⟨σ6, H6, S6, q6⟩ := hsp
        exact ⟨_, _, S6.unsuite ok, q6⟩
      | cont =>
        obtain ⟨σ6, H6, S6, q6⟩ := hsp
        exact ⟨_, _, S6.unsuite ok, q6⟩
/-- the reading of such a try, and of one with a single clause -/
def tTryEach (K : PySem.W.Frag) (i : Nat) (l : List ClauseT) (Wout : WX) (tb : WX → TS) : TS := fun D σ H => tb (wEach K i Wout D l) D σ H
def tTryAs (K : PySem.W.Frag) (c : Value) (i : Nat) (ts : Addr → Value → Option Addr → TS) (Wout : WX) (tb : WX → TS) : TS := fun D σ H => tb (wAs K c i ts Wout D) D σ H
theorem ps_try_one {x : Str} {c : Value} {b₀ : Stmt} {suite : List Stmt} {np pos' : Pos} {ts : Addr → Value → Option Addr → TS} (hs : X.stack = X.env :: X.outer) (hf : X.env.frame = some X.env.locals) (hN : X.N.Nodup) (hi : X.N[i]? = some n) (hln : X.env.kindOf n = some .local) (hc : Names X x c) (tk : Takes X Wout)
    (hb : ∀ (W : WX) (pn : List (Addr × Obj)) (xe : Value → Shared → Prop), Takes (X.tr pn xe) W → PassesOwn (model X.prog X.w) X.A X.env xe → PSs (X.tr pn xe) body (tb W))
    (hsu : ∀ (a : Addr) (oe : Obj) (cls : Value) (d : Option Addr) (pn : List (Addr × Obj)), Zc cls d oe → (∃ vs, oe.data = .fields vs) → PSs (X.suite a ((a, oe) :: pn)) (b₀ :: suite) (ts a cls d)) :
    PS X (.Try body [.ExceptHandler (some (.Name x np)) (some n) (b₀ :: suite) pos'] [] [] pos) (tTryAs X.K c i ts Wout tb) := ps_try_as hs hf hN hi hln hc tk hb hsu
theorem ps_try_each (hs : X.stack = X.env :: X.outer) (hf : X.env.frame = some X.env.locals) (hN : X.N.Nodup) (hi : X.N[i]? = some n) (hln : X.env.kindOf n = some .local) (tk : Takes X Wout)
    (hb : ∀ (W : WX) (pn : List (Addr × Obj)) (xe : Value → Shared → Prop), Takes (X.tr pn xe) W → PassesOwn (model X.prog X.w) X.A X.env xe → PSs (X.tr pn xe) body (tb W))
    (hh : Clauses X n (h₀ :: hds) l) : PS X (.Try body (h₀ :: hds) [] [] pos) (tTryEach X.K i l Wout tb) := by
  constructor
  intro pins s σ H D I h
  have ok := I.ok
  have hfr : X.A.frames = some (X.env :: X.outer) := by rw [ok.frames, hs]
  apply wpAny_Try_except
  have run := (hb (wEach X.K i Wout D l) (X.pn ++ pins) (fun e s₁ => wpAny (model X.prog X.w) X.A (noteFrame e X.env) (fun _ s₂ => wpAny (model X.prog X.w) X.A (setFlight e none) (fun _ s₃ =>
    wpAny (model X.prog X.w) X.A (handleBy e X.env (h₀ :: hds)) (SP X pins D) X.xe s₃) X.xe s₂) X.xe s₁) (fun u s' xx => ?_) PassesOwn.looking).run [] s σ H D (I.toTry _) h
  · refine wpAny_mono run (fun f s1 hsp => ?_) (fun e s1 he => he)
    cases f with
    | ret u =>
      obtain ⟨v, σ', H', J', r, q⟩ := hsp
      exact ⟨v, σ', H', J'.ofTry ok, r, q⟩
    | next =>
      obtain ⟨σ', H', J', q⟩ := hsp
      exact wpAny_execs_nil ⟨σ', H', J'.ofTry ok, q⟩
    | brk =>
      obtain ⟨σ', H', J', q⟩ := hsp
      exact ⟨σ', H', J'.ofTry ok, q⟩
    | cont =>
      obtain ⟨σ', H', J', q⟩ := hsp
      exact ⟨σ', H', J'.ofTry ok, q⟩
  · obtain ⟨a, B, sI, pins', σ', H', cls, d, rfl, J', nb, up, sky, na, os, ag, w⟩ := xx
    have J : Inv X pins σ' H' sI := J'.ofTry ok
    have sky' : Sky B (X.env :: X.outer) a (Zc cls d) X.env.locals s'.heap := by rw [← hs]; exact sky
    show wpAny (model X.prog X.w) X.A (noteFrame (.ref a) X.env) _ _ _
    refine Sky.land Zc.steady hfr hf sky' fun h3 fl3 up3 => ?_
    obtain ⟨oe3, vs3, he3, hz3, hd3⟩ := fl3.there
    have nfr : a ∉ frs (X.env :: X.outer) := fun hm => by
      obtain ⟨_, o', e', hnf⟩ := Heap.FunFrames.mem fl3.2.2.1 hm
      rw [he3] at e'
      cases e'
      exact hnf _ hd3
    have nL : a ≠ X.env.locals := fun z => nfr (List.mem_filterMap.mpr ⟨X.env, List.mem_cons_self, by rw [hf, z]⟩)
    have nF : a ∉ X.fs := fun hm => by
      obtain ⟨e, he, q⟩ := List.mem_filterMap.mp hm
      exact nfr (List.mem_filterMap.mpr ⟨e, List.mem_cons_of_mem _ he, q⟩)
    exact each_ok hN hi hln hf hs tk ok J nb up up3 na os ag fl3 nL nF hh w
end
end L2
set_option Elab.async false
set_option linter.all false
set_option maxRecDepth 100000
set_option maxHeartbeats 4000000
/-! What every text here shares: heaps that only grow, data that stay, the drawn numbers. -/
namespace Sw
open PySem PySem.Spec PyProof.Rows L2
theorem same_new {H : Hp} {p : Addr} {o : HO} (h : H p = none) : Same H (upd H p o) := fun b x e => by
  rw [upd_ne (ne_of_none e h)]
  exact e
theorem sqT_up {K : PySem.W.Frag} {H H' : Hp} {a : Addr} {xs : List V} (s : Same H H') (h : SqT K H a xs) : SqT K H' a xs := by
  rcases h with (h | ⟨o, h⟩) | h
  · exact .inl (.inl (s _ _ h))
  · exact .inl (.inr ⟨o, s _ _ h⟩)
  · exact .inr h
mutual
theorem dp_up {K : PySem.W.Frag} {H H' : Hp} (s : Same H H') : ∀ {v : V} {d : PyData}, Dp K H v d → Dp K H' v d
  | _, _, .non => .non
  | _, _, .bl b => .bl b
  | _, _, .int i => .int i
  | _, _, .str x => .str x
  | _, _, .lst q r => .lst (s.seq q) (dpAll_up s r)
  | _, _, .tup q r => .tup (sqT_up s q) (dpAll_up s r)
theorem dpAll_up {K : PySem.W.Frag} {H H' : Hp} (s : Same H H') : ∀ {vs : List V} {ds : List PyData}, DpAll K H vs ds → DpAll K H' vs ds
  | _, _, .nil => .nil
  | _, _, .cons q r => .cons (dp_up s q) (dpAll_up s r)
end
/-- a new tuple, told by what stays true -/
theorem tup_new {K : PySem.W.Frag} {H : Hp} {xs : List V} {Q : V → Hp → Prop} (h : ∀ (p : Addr) (H' : Hp), Same H H' → SqT K H' p xs → Q (.ref p) H') : ∀ p, H p = none → Q (.ref p) (upd H p (.tup xs)) :=
  fun p hp => h p _ (same_new hp) (.inl (.inl upd_same))
theorem lst_new {K : PySem.W.Frag} {H : Hp} {xs : List V} {Q : V → Hp → Prop} (h : ∀ (p : Addr) (H' : Hp), H p = none → Same H H' → H' p = some (.lst xs) → SqL K H' p xs → Q (.ref p) H') : ∀ p, H p = none → Q (.ref p) (upd H p (.lst xs)) :=
  fun p hp => h p _ hp (same_new hp) upd_same (.inl (.inl upd_same))
/-- one list of ours changed: all that stood before it was made stands -/
theorem same_put {H H1 : Hp} {p : Addr} {o : HO} (h0 : H p = none) (s : Same H H1) : Same H (upd H1 p o) := fun b x e => by
  rw [upd_ne (ne_of_none e h0)]
  exact s b x e
def Num (n : Int) : Prop := 0 ≤ n ∧ n < 1009
theorem sizeN {n : Nat} (h : n ≤ 200000) : n < sizeLine := Nat.lt_of_le_of_lt h (by decide)
theorem map_at {ns : List Int} {i : Nat} {x : V} (h : (ns.map V.int)[i]? = some x) : ∃ z, ns[i]? = some z ∧ x = V.int z := by
  rw [List.getElem?_map] at h
  cases e : ns[i]? with
  | none => rw [e] at h; cases h
  | some z => rw [e] at h; exact ⟨z, rfl, (Option.some.inj h).symm⟩
/-- law's row: a list of so many drawn numbers -/
def spRow (K : PySem.W.Frag) : Sp := fun vs H Q _ => ∃ c many : Int, vs = [.int c, .int many] ∧ 0 ≤ many ∧ many ≤ 2000 ∧
  ∀ (H' : Hp) (p : Addr) (ns : List Int), Same H H' → H p = none → H' p = some (.lst (ns.map V.int)) → (ns.length : Int) = many → (∀ n ∈ ns, Num n) → Q (.ref p) H'
def spNums (K : PySem.W.Frag) : Sp := fun vs H Q _ => ∃ (a : Addr) (xs : List Int) (many : Int), vs = [.ref a, .int many] ∧ SqL K H a (xs.map V.int) ∧ xs.length ≤ 63 ∧ 0 ≤ many ∧ many ≤ 1900 ∧
  ∀ (H' : Hp) (p : Addr) (ns : List Int), Same H H' → H p = none → H' p = some (.lst (ns.map V.int)) → (ns.length : Int) = many → (∀ n ∈ ns, Num n) → Q (.ref p) H'
end Sw
namespace Sw
open PySem PySem.Spec PyProof.Rows L2
/-- an error class over ValueError that keeps nothing of its own -/
structure PlainErr (K : PySem.W.Frag) (mg : Str → Option Value) (x : Str) (C : Addr) : Prop where
  g : mg x = some (.ref C)
  x : PySem.W.excIn K C [.type "ValueError", .type "Exception", .type "BaseException", .type "object"] "ValueError.__new__" = true
  k : PySem.W.keepIn K (.ref C) = true
  b : PySem.W.subIn K (.ref C) (.type "BaseException") = some true
  t : PySem.W.typeIn K (.ref C) = some (.type "type")
def spLaw (K : PySem.W.Frag) : Sp := fun vs H Q _ => ∃ (a : Addr) (ns : List Int), vs = [.ref a] ∧ SqL K H a (ns.map V.int) ∧ ns.length ≤ 63 ∧ ∀ H', Q (.bl true) H'
end Sw
namespace Sw
open PySem PySem.Spec PyProof.Rows L2
theorem cut_to {xs : List V} {j : Nat} : cutV xs none (some (j : Int)) = xs.take j := by
  unfold cutV
  rw [HT.sIx_none, HT.sIx_nat]
  show (xs.drop 0).take (min j xs.length - 0) = xs.take j
  rw [List.drop_zero, Nat.sub_zero]
  by_cases h : j ≤ xs.length
  · rw [Nat.min_eq_left h]
  · rw [Nat.min_eq_right (by omega), List.take_length, List.take_of_length_le (by omega)]
theorem cut_from {xs : List V} {j : Nat} : cutV xs (some (j : Int)) none = xs.drop j := by
  unfold cutV
  rw [HT.sIx_none, HT.sIx_nat]
  by_cases h : j ≤ xs.length
  · rw [Nat.min_eq_left h, ← List.length_drop, List.take_length]
  · rw [Nat.min_eq_right (by omega), List.drop_length, List.drop_of_length_le (by omega)]
    simp
theorem num_push {ns : List Int} {z : Int} (h : ∀ n ∈ ns, Num n) (hz : Num z) : ∀ n ∈ ns ++ [z], Num n := fun n hn => by
  rcases List.mem_append.mp hn with hn | hn
  · exact h n hn
  · rw [List.mem_singleton.mp hn]
    exact hz
theorem map_push (ns : List Int) (z : Int) : ns.map V.int ++ [V.int z] = (ns ++ [z]).map V.int := by
  rw [List.map_append]
  rfl
end Sw
namespace Sw
open PySem PySem.Spec PyProof.Rows L2
/-- an except clause that names a class at S asks whether the error's class lies under it -/
theorem exm_of {K : PySem.W.Frag} {D S : Addr} {b : Bool} (h1 : PySem.W.subIn K (.ref S) (.type "BaseException") = some true) (h2 : PySem.W.isClsIn K S = true) (h3 : PySem.W.typeIn K (.ref S) = some (.type "type")) (h4 : PySem.W.subIn K (.ref D) (.ref S) = some b) :
    PySem.W.exmOne K (.ref D) (.ref S) = some b := by
  have e1 : (PySem.W.subIn K (.ref S) (.type "BaseException") == some true) = true := by rw [h1] <;> rfl
  have e2 : ((PySem.W.clsIn K S).isSome && PySem.W.typeIn K (.ref S) == some (.type "type")) = true := by
    rw [show (PySem.W.clsIn K S).isSome = true from h2, h3] <;> rfl
  show (if (PySem.W.subIn K (.ref S) (.type "BaseException") == some true) = true then (if ((PySem.W.clsIn K S).isSome && PySem.W.typeIn K (.ref S) == some (.type "type")) = true then PySem.W.subIn K (.ref D) (.ref S) else none) else none) = some b
  rw [if_pos e1, if_pos e2]
  exact h4
end Sw
namespace Sw
open PySem PySem.Spec PyProof.Rows L2
theorem int_ne {i j : Int} (h : (!decide (V.int i = V.int j)) = true) : i ≠ j := fun e => by
  rw [e, decide_eq_true rfl] at h
  cases h
theorem int_eq {i j : Int} (h : ¬ (!decide (V.int i = V.int j)) = true) : i = j := by
  by_cases e : V.int i = V.int j
  · exact V.int.inj e
  · rw [decide_eq_false e] at h
    exact absurd rfl h
theorem of3 {α : Type} {l : List α} (h : ((l.length : Nat) : Int) = 3) : ∃ x y z, l = [x, y, z] := by
  match l, h with
  | [x, y, z], _ => exact ⟨x, y, z, rfl⟩
  | [], h => exact absurd h (by simp)
  | [_], h => exact absurd h (by simp)
  | [_, _], h => exact absurd h (by simp)
  | _ :: _ :: _ :: _ :: l, h => simp at h; omega
theorem of4 {α : Type} {l : List α} (h : ((l.length : Nat) : Int) = 4) : ∃ x y z u, l = [x, y, z, u] := by
  match l, h with
  | [x, y, z, u], _ => exact ⟨x, y, z, u, rfl⟩
  | [], h => exact absurd h (by simp)
  | [_], h => exact absurd h (by simp)
  | [_, _], h => exact absurd h (by simp)
  | [_, _, _], h => exact absurd h (by simp)
  | _ :: _ :: _ :: _ :: _ :: l, h => simp at h; omega
end Sw
namespace Sw
open PySem PySem.Spec PyProof.Rows L2
/-! ### the same rules, told by what stays true -/
def nTup (K : PySem.W.Frag) (H : Hp) (xs : List V) (Q : VK) : Prop := ∀ (p : Addr) (H2 : Hp), Same H H2 → SqT K H2 p xs → Q (.ref p) H2
def nLst (H : Hp) (xs : List V) (Q : VK) : Prop := ∀ (p : Addr) (H2 : Hp), Same H H2 → H p = none → H2 p = some (.lst xs) → Q (.ref p) H2
theorem nTup.at {K : PySem.W.Frag} {H : Hp} {xs : List V} {Q : VK} (h : nTup K H xs Q) (p : Addr) (n : H p = none) : Q (.ref p) (upd H p (.tup xs)) := h p _ (same_new n) (.inl (.inl upd_same))
theorem nLst.at {H : Hp} {xs : List V} {Q : VK} (h : nLst H xs Q) (p : Addr) (n : H p = none) : Q (.ref p) (upd H p (.lst xs)) := h p _ (same_new n) n upd_same
def tTupM (K : PySem.W.Frag) (t : TA) : TE := fun σ H Q => t σ H fun xs H1 => xs.length ≤ sizeLine ∧ nTup K H1 xs Q
def tLstM (t : TA) : TE := fun σ H Q => t σ H fun xs H1 => xs.length ≤ sizeLine ∧ nLst H1 xs Q
section
variable {X : Cx} {es : List Expr} {t : TA} {pos : Pos}
theorem pe_tupM {x1} (h : PA X es t) : PE X (.Tuple es x1 pos) (tTupM X.K t) := by
  constructor
  intro pins s σ H Q I hq
  apply wpAny_Tuple_spliced
  refine thn (h.run pos pins s σ H _ I hq) ?_
  rintro us s1 ⟨xs, H1, I1, r, z, q⟩
  refine ⟨r.length ▸ z, ?_⟩
  have hf : H1 s1.heap.objs.size = none := I1.hok.fresh (Nat.le_refl _)
  have J := I1.laid (t' := s1.toks) (a := s1.heap.objs.size) (o := .tup xs) (fun b u e => Heap.get?_push_of_some { cls := .type "tuple", data := .seq us.toArray } e) (Nat.le_refl _) ⟨z, us, r, ⟨_, Heap.get?_push_size _ rfl, rfl, _, rfl⟩⟩
  exact ⟨.ref _, _, J, rfl, q.at _ hf⟩
theorem pe_lstM (h : PA X es t) : PE X (.List es pos) (tLstM t) := by
  constructor
  intro pins s σ H Q I hq
  apply wpAny_List_spliced
  refine thn (h.run pos pins s σ H _ I hq) ?_
  rintro us s1 ⟨xs, H1, I1, r, z, q⟩
  refine ⟨r.length ▸ z, ?_⟩
  have hf : H1 s1.heap.objs.size = none := I1.hok.fresh (Nat.le_refl _)
  have J := I1.laid (t' := s1.toks) (a := s1.heap.objs.size) (o := .lst xs) (fun b u e => Heap.get?_push_of_some { cls := .type "list", data := .seq us.toArray } e) (Nat.le_refl _) ⟨z, us, 0, r, Heap.get?_push_size _ rfl⟩
  exact ⟨.ref _, _, J, rfl, q.at _ hf⟩
/-- t[lo:hi], not the whole of t -/
def rSlTM (K : PySem.W.Frag) : V → Option Int → Option Int → Hp → VK → Prop := fun x lo hi H Q => ∃ a xs, x = .ref a ∧ SqT K H a xs ∧ ¬ (HT.sIx xs.length 0 lo = 0 ∧ HT.sIx xs.length xs.length hi = xs.length) ∧ nTup K H (cutV xs lo hi) Q
theorem sl_tupM : SlR X (rSlTM X.K) := fun pins s σ H x v vl vu lo hi sl Q I rx hs pl pu ⟨b, xs, e, h1, h2, q⟩ => sl_tup pins s σ H x v vl vu lo hi sl Q I rx hs pl pu ⟨b, xs, e, h1, h2, q.at⟩
def rSlLM (K : PySem.W.Frag) : V → Option Int → Option Int → Hp → VK → Prop := fun x lo hi H Q => ∃ a xs, x = .ref a ∧ SqL K H a xs ∧ nLst H (cutV xs lo hi) Q
theorem sl_listM : SlR X (rSlLM X.K) := fun pins s σ H x v vl vu lo hi sl Q I rx hs pl pu ⟨b, xs, e, h1, q⟩ => sl_list pins s σ H x v vl vu lo hi sl Q I rx hs pl pu ⟨b, xs, e, h1, q.at⟩
def rCatTM (K : PySem.W.Frag) : R2 := fun x y H Q => ∃ a b xs ys, x = .ref a ∧ y = .ref b ∧ SqT K H a xs ∧ SqT K H b ys ∧ xs ≠ [] ∧ ys ≠ [] ∧ xs.length + ys.length ≤ sizeLine ∧ nTup K H (xs ++ ys) Q
theorem op_catTM : OpR X (binaryOp .Add) (rCatTM X.K) := fun pins s σ H x y v u Q I rx ry ⟨c, b, xs, ys, e1, e2, h1, h2, h3, h4, h5, q⟩ => op_catT pins s σ H x y v u Q I rx ry ⟨c, b, xs, ys, e1, e2, h1, h2, h3, h5, fun z => absurd z h4, fun _ => q.at⟩
def rCatM : R2 := fun x y H Q => ∃ l b xs zs, x = .ref l ∧ y = .ref b ∧ H l = some (.lst xs) ∧ H b = some (.lst zs) ∧ xs.length + zs.length ≤ sizeLine ∧ nLst H (xs ++ zs) Q
theorem op_catM : OpR X (binaryOp .Add) rCatM := fun pins s σ H x y v u Q I rx ry ⟨c, b, xs, ys, e1, e2, h1, h2, h3, q⟩ => op_cat pins s σ H x y v u Q I rx ry ⟨c, b, xs, ys, e1, e2, h1, h2, h3, q.at⟩
def rRepM : R2 := fun x y H Q => ∃ l k xs, x = .ref l ∧ y = .int k ∧ H l = some (.lst xs) ∧ -(2 ^ 63) ≤ k ∧ k < 2 ^ 63 ∧ xs.length * k.toNat ≤ sizeLine ∧ nLst H (List.replicate k.toNat xs).flatten Q
theorem op_repM : OpR X (binaryOp .Mult) rRepM := fun pins s σ H x y v u Q I rx ry ⟨c, k, xs, e1, e2, h1, h2, h3, h4, q⟩ => op_rep pins s σ H x y v u Q I rx ry ⟨c, k, xs, e1, e2, h1, h2, h3, h4, q.at⟩
end
end Sw
namespace Sw
open PySem PySem.Spec PyProof.Rows L2
/-- an instance is changed: lists and tuples stand -/
theorem sqL_ins {K : PySem.W.Frag} {H : Hp} {x C dx p : Addr} {fs : List (Str × V)} {o : HO} {xs : List V} (hx : H x = some (.ins C dx fs)) (h : SqL K H p xs) : SqL K (upd H x o) p xs := by
  rcases h with (h | ⟨u, h⟩) | h
  · exact .inl (.inl (by rw [upd_ne (fun z => by rw [z, hx] at h; cases h)]; exact h))
  · exact .inl (.inr ⟨u, by rw [upd_ne (fun z => by rw [z, hx] at h; cases h)]; exact h⟩)
  · exact .inr h
theorem sqT_ins {K : PySem.W.Frag} {H : Hp} {x C dx p : Addr} {fs : List (Str × V)} {o : HO} {xs : List V} (hx : H x = some (.ins C dx fs)) (h : SqT K H p xs) : SqT K (upd H x o) p xs := by
  rcases h with (h | ⟨u, h⟩) | h
  · exact .inl (.inl (by rw [upd_ne (fun z => by rw [z, hx] at h; cases h)]; exact h))
  · exact .inl (.inr ⟨u, by rw [upd_ne (fun z => by rw [z, hx] at h; cases h)]; exact h⟩)
  · exact .inr h
end Sw
namespace Sw
open PySem PySem.Spec PyProof.Rows L2
/-! ### data, and == of data -/
def dTI (ns : List Int) : PyData := .tuple (ns.map .int)
theorem dpAll_ints {K : PySem.W.Frag} {H : Hp} : ∀ ns : List Int, DpAll K H (ns.map V.int) (ns.map PyData.int)
  | [] => .nil
  | _ :: r => .cons (.int _) (dpAll_ints r)
theorem dp_ti {K : PySem.W.Frag} {H : Hp} {p : Addr} {ns : List Int} (h : SqT K H p (ns.map V.int)) : Dp K H (.ref p) (dTI ns) := .tup h (dpAll_ints ns)
theorem dp_t {K : PySem.W.Frag} {H : Hp} {p : Addr} {xs : List V} {ds : List PyData} (h : SqT K H p xs) (r : DpAll K H xs ds) : Dp K H (.ref p) (.tuple ds) := .tup h r
theorem dp_l {K : PySem.W.Frag} {H : Hp} {p : Addr} {xs : List V} {ds : List PyData} (h : H p = some (.lst xs)) (r : DpAll K H xs ds) : Dp K H (.ref p) (.list ds) := .lst (.inl (.inl h)) r
/-- data that can be compared, of a depth -/
def Lay (k : Nat) (d : PyData) : Prop := d.canLay0 = true ∧ d.depth ≤ k
theorem lay_int (k : Nat) (i : Int) : Lay k (.int i) := ⟨rfl, Nat.zero_le _⟩
theorem lay_non (k : Nat) : Lay k .none := ⟨rfl, Nat.zero_le _⟩
theorem lay_bool (k : Nat) (b : Bool) : Lay k (.bool b) := ⟨rfl, Nat.zero_le _⟩
theorem lay_all {k : Nat} : ∀ {ds : List PyData}, (∀ d ∈ ds, Lay k d) → PyData.canLayAll0 ds = true ∧ PyData.depthAll ds ≤ k
  | [], _ => ⟨rfl, Nat.zero_le _⟩
  | d :: r, h => by
    obtain ⟨a1, a2⟩ := h d List.mem_cons_self
    obtain ⟨b1, b2⟩ := lay_all (ds := r) fun x hx => h x (List.mem_cons_of_mem _ hx)
    refine ⟨?_, ?_⟩
    · show (d.canLay0 && PyData.canLayAll0 r) = true
      rw [a1, b1]
      rfl
    · show max d.depth (PyData.depthAll r) ≤ k
      omega
theorem lay_tuple {k : Nat} {ds : List PyData} (h : ∀ d ∈ ds, Lay k d) : Lay (k + 1) (.tuple ds) := by
  obtain ⟨a, b⟩ := lay_all h
  exact ⟨a, Nat.succ_le_succ b⟩
theorem lay_list {k : Nat} {ds : List PyData} (h : ∀ d ∈ ds, Lay k d) : Lay (k + 1) (.list ds) := by
  obtain ⟨a, b⟩ := lay_all h
  exact ⟨a, Nat.succ_le_succ b⟩
theorem lay_up {j k : Nat} {d : PyData} (h : Lay j d) (l : j ≤ k) : Lay k d := ⟨h.1, Nat.le_trans h.2 l⟩
theorem lay_ti (ns : List Int) : Lay 1 (dTI ns) := lay_tuple fun d hd => by
  obtain ⟨i, _, rfl⟩ := List.mem_map.mp hd
  exact lay_int 0 i
theorem lay_2 {k : Nat} {d e : PyData} (h1 : Lay k d) (h2 : Lay k e) : ∀ x ∈ [d, e], Lay k x := fun x hx => by
  rcases List.mem_cons.mp hx with rfl | hx
  · exact h1
  · rw [List.mem_singleton.mp hx]
    exact h2
theorem shaped_of {k : Nat} {d : PyData} (h : Lay k d) (hk : k ≤ 64) : SeqAt.shaped d = true := by
  unfold SeqAt.shaped
  rw [h.1, decide_eq_true (Nat.le_trans h.2 hk)]
  rfl
theorem ne_same {K : PySem.W.Frag} {k : Nat} {x y : V} {d : PyData} {H : Hp} {Q : VK} (l : Lay k d) (hk : k ≤ 64) (hx : Dp K H x d) (hy : Dp K H y d) (q : Q (.bl false) H) : rNeD K x y H Q :=
  ⟨d, d, hx, hy, shaped_of l hk, shaped_of l hk, by rw [SeqAt.eqv_refl d l.1]; exact q⟩
theorem eq_same {K : PySem.W.Frag} {k : Nat} {x y : V} {d : PyData} {H : Hp} {Q : VK} (l : Lay k d) (hk : k ≤ 64) (hx : Dp K H x d) (hy : Dp K H y d) (q : Q (.bl true) H) : rEqD K x y H Q :=
  ⟨d, d, hx, hy, shaped_of l hk, shaped_of l hk, by rw [SeqAt.eqv_refl d l.1]; exact q⟩
/-! ### a, b = e where e is a tuple or a list -/
def gSeq (K : PySem.W.Frag) (n : Nat) (t : TGs) : TG := fun v σ H Q => ∃ a xs, v = .ref a ∧ (SqT K H a xs ∨ SqL K H a xs) ∧ xs.length = n ∧ t xs σ H Q
theorem pg_seq {X : Cx} {es : List Expr} {k : Nat} {t : TGs} {n : Nat} {pos : Pos} (hc : X.calm = true) (h : PGs X es t)
    (hn : (assignEach es X.env).length = n := by rfl) (hst : (assignEach es X.env).findIdx? (·.1) = none := by rfl) : PG X (.Tuple es k pos) (gSeq X.K n t) := by
  constructor
  rintro pins s σ H v u Q I r ⟨b, xs, e, hq | hq, hl, w⟩
  · exact (pg_tup hc h hn hst).run pins s σ H v u Q I r ⟨b, xs, e, hq, hl, w⟩
  · exact (pg_lst hc h hn hst).run pins s σ H v u Q I r ⟨b, xs, e, hq, hl, w⟩
theorem emod_step (z d n : Int) : (z % n + d + n) % n = (z + d) % n := by
  rw [Int.add_emod_right, Int.emod_add_emod]
end Sw
namespace Sw
open PySem PySem.Spec PyProof.Rows L2
def numI (ns : List Int) (j : Int) : Int := ns.getD j.toNat 0
theorem nthI {ns : List Int} {j : Int} (h0 : 0 ≤ j) (h1 : j < (ns.length : Int)) : atI (ns.map V.int) j = some (.int (numI ns j)) := by
  obtain ⟨k, rfl⟩ := Int.eq_ofNat_of_zero_le h0
  refine atI_nat ?_
  have hk : k < ns.length := by omega
  rw [List.getElem?_map, List.getElem?_eq_getElem hk]
  show some (V.int ns[k]) = some (V.int (ns.getD k 0))
  rw [List.getD_eq_getElem?_getD, List.getElem?_eq_getElem hk]
  rfl
theorem num_at {ns : List Int} (h : ∀ n ∈ ns, Num n) (j : Int) : Num (numI ns j) := by
  unfold numI
  rw [List.getD_eq_getElem?_getD]
  cases e : ns[j.toNat]? with
  | none => exact ⟨by decide, by decide⟩
  | some z => exact h z (List.mem_of_getElem? e)
theorem iteD {c A B : Prop} [Decidable c] (hc : c) (h : A) : if decide c = true then A else B := by
  rw [if_pos (decide_eq_true hc)]
  exact h
end Sw
namespace Sw
open PySem PySem.Spec PyProof.Rows L2
/-! ### data without lists stand where a list is changed -/
theorem sqT_lst {K : PySem.W.Frag} {H : Hp} {l p : Addr} {xs ys : List V} {o : HO} (hl : H l = some (.lst xs)) (h : SqT K H p ys) : SqT K (upd H l o) p ys := by
  rcases h with (h | ⟨u, h⟩) | h
  · exact .inl (.inl (by rw [upd_ne (fun z => by rw [z, hl] at h; cases h)]; exact h))
  · exact .inl (.inr ⟨u, by rw [upd_ne (fun z => by rw [z, hl] at h; cases h)]; exact h⟩)
  · exact .inr h
mutual
def noL : PyData → Bool
  | .tuple ds => noLs ds
  | .list _ => false
  | .dict _ => false
  | _ => true
def noLs : List PyData → Bool
  | [] => true
  | d :: r => noL d && noLs r
end
mutual
theorem dp_put {K : PySem.W.Frag} {H : Hp} {l : Addr} {xs : List V} {o : HO} (hl : H l = some (.lst xs)) : ∀ {v : V} {d : PyData}, noL d = true → Dp K H v d → Dp K (upd H l o) v d
  | _, _, _, .non => .non
  | _, _, _, .bl b => .bl b
  | _, _, _, .int i => .int i
  | _, _, _, .str x => .str x
  | _, _, n, .lst q r => nomatch n
  | _, _, n, .tup q r => .tup (sqT_lst hl q) (dpAll_put hl n r)
theorem dpAll_put {K : PySem.W.Frag} {H : Hp} {l : Addr} {xs : List V} {o : HO} (hl : H l = some (.lst xs)) : ∀ {vs : List V} {ds : List PyData}, noLs ds = true → DpAll K H vs ds → DpAll K (upd H l o) vs ds
  | _, _, _, .nil => .nil
  | _, _, n, .cons q r => .cons (dp_put hl (Bool.and_eq_true_iff.mp n).1 q) (dpAll_put hl (Bool.and_eq_true_iff.mp n).2 r)
end
theorem noLs_ints : ∀ ns : List Int, noLs (ns.map PyData.int) = true
  | [] => rfl
  | _ :: r => by
    show (noL (.int _) && noLs (r.map PyData.int)) = true
    rw [noLs_ints r]
    rfl
theorem noL_ti (ns : List Int) : noL (dTI ns) = true := noLs_ints ns
theorem dpAll_push {K : PySem.W.Frag} {H : Hp} {v : V} {d : PyData} : ∀ {vs : List V} {ds : List PyData}, DpAll K H vs ds → Dp K H v d → DpAll K H (vs ++ [v]) (ds ++ [d])
  | _, _, .nil, h => .cons h .nil
  | _, _, .cons q r, h => .cons q (dpAll_push r h)
theorem dpAll_len {K : PySem.W.Frag} {H : Hp} : ∀ {vs : List V} {ds : List PyData}, DpAll K H vs ds → vs.length = ds.length
  | _, _, .nil => rfl
  | _, _, .cons _ r => congrArg (· + 1) (dpAll_len r)
theorem dpAll_get {K : PySem.W.Frag} {H : Hp} : ∀ {vs : List V} {ds : List PyData} {i : Nat} {v : V}, DpAll K H vs ds → vs[i]? = some v → ∃ d, ds[i]? = some d ∧ Dp K H v d
  | _, _, 0, _, .cons q _, h => ⟨_, rfl, Option.some.inj h ▸ q⟩
  | _, _, i + 1, _, .cons _ r, h => dpAll_get (i := i) r h
theorem dp_ti_inv {K : PySem.W.Frag} {H : Hp} {v : V} {ns : List Int} (h : Dp K H v (dTI ns)) : ∃ p, v = .ref p ∧ SqT K H p (ns.map V.int) := by
  cases h with
  | @tup p xs ds q r =>
    refine ⟨p, rfl, ?_⟩
    have e : ∀ {xs : List V} {ns : List Int}, DpAll K H xs (ns.map PyData.int) → xs = ns.map V.int := by
      intro xs ns
      induction ns generalizing xs with
      | nil => intro h; cases h; rfl
      | cons n r ih =>
        intro h
        cases h with
        | cons h1 h2 =>
          cases h1
          rw [ih h2]
          rfl
    rw [← e r]
    exact q
/-- so many different numbers below a bound: not more than the bound -/
theorem nodup_below : ∀ (k : Nat) (l : List Nat), l.Nodup → (∀ x ∈ l, x < k) → l.length ≤ k
  | 0, l, _, h => by
    cases l with
    | nil => exact Nat.le_refl _
    | cons x r => exact absurd (h x List.mem_cons_self) (Nat.not_lt_zero _)
  | k + 1, l, hn, h => by
    have hn2 : (l.erase k).Nodup := hn.erase k
    have ih := nodup_below k (l.erase k) hn2 fun x hx => by
      have h1 := h x (List.mem_of_mem_erase hx)
      have h2 : x ≠ k := fun e => by
        subst e
        exact (List.Nodup.not_mem_erase hn) hx
      omega
    have e := List.length_erase (a := k) (l := l)
    by_cases hm : k ∈ l
    · rw [if_pos hm] at e
      omega
    · rw [if_neg hm] at e
      omega
end Sw
set_option Elab.async false
set_option linter.all false
set_option maxRecDepth 100000
set_option maxHeartbeats 4000000
/-! Skies, attitudes, commands, motions: what each def tells, as plain functions of integers, and its promise. -/
namespace Sw
open PySem PySem.Spec PyProof.Rows L2
def turnX (q x y : Int) : Int := if q % 4 = 1 then -y else if q % 4 = 2 then -x else if q % 4 = 3 then y else x
def turnY (q x y : Int) : Int := if q % 4 = 1 then x else if q % 4 = 2 then -y else if q % 4 = 3 then -x else y
def isPose (n : Int) : List Int → Bool
  | [x, y, q] => decide (0 ≤ x ∧ x < n ∧ 0 ≤ y ∧ y < n ∧ 0 ≤ q ∧ q ≤ 3)
  | _ => false
def isCmd (n : Int) : List Int → Bool
  | [x, y, q] => decide (-n < x ∧ x < n ∧ -n < y ∧ y < n ∧ 0 ≤ q ∧ q ≤ 3)
  | _ => false
def isCam (n : Int) : List Int → Bool
  | [r, b, g, l] => decide (0 ≤ r ∧ r ≤ 4 ∧ 0 ≤ b ∧ b ≤ 2 ∧ 0 ≤ g ∧ g ≤ 2 ∧ 1 ≤ l ∧ l ≤ 9 ∧ b ≤ r ∧ 2 * (r + b) + 1 ≤ n)
  | _ => false
def isStar (n : Int) : List Int → Bool
  | [x, y, b] => decide (0 ≤ x ∧ x < n ∧ 0 ≤ y ∧ y < n ∧ 1 ≤ b ∧ b ≤ 9)
  | _ => false
def comp (n : Int) : List Int → List Int → List Int
  | [a, b, c], [d, e, g] => [(turnX g a b + d) % n, (turnY g a b + e) % n, (c + g) % 4]
  | _, _ => []
def inv (n : Int) : List Int → List Int
  | [a, b, c] => [turnX (2 - c) a b % n, turnY (2 - c) a b % n, (4 - c) % 4]
  | _ => []
def near (n part : Int) : Int := (part + n / 2) % n - n / 2
theorem pose_form {n : Int} {ns : List Int} (h : isPose n ns = true) : ∃ x y q, ns = [x, y, q] ∧ 0 ≤ x ∧ x < n ∧ 0 ≤ y ∧ y < n ∧ 0 ≤ q ∧ q ≤ 3 := by
  match ns, h with
  | [x, y, q], h =>
    have z := of_decide_eq_true h
    exact ⟨x, y, q, rfl, z⟩
theorem cmd_form {n : Int} {ns : List Int} (h : isCmd n ns = true) : ∃ x y q, ns = [x, y, q] ∧ -n < x ∧ x < n ∧ -n < y ∧ y < n ∧ 0 ≤ q ∧ q ≤ 3 := by
  match ns, h with
  | [x, y, q], h =>
    have z := of_decide_eq_true h
    exact ⟨x, y, q, rfl, z⟩
/-- the attributes of a sky, in the order in which they are stored -/
def skyF (n : Int) (ts tc : Addr) : List (Str × V) := putF "_camera" (.ref tc) (putF "_stars" (.ref ts) (putF "_side" (.int n) []))
theorem skyF_side (n : Int) (ts tc : Addr) : (skyF n ts tc).lookup ("_side" : Str) = some (.int n) := by
  unfold skyF
  rw [lookup_putF, if_neg (by decide +kernel), lookup_putF, if_neg (by decide +kernel), lookup_putF, if_pos rfl]
theorem skyF_stars (n : Int) (ts tc : Addr) : (skyF n ts tc).lookup ("_stars" : Str) = some (.ref ts) := by
  unfold skyF
  rw [lookup_putF, if_neg (by decide +kernel), lookup_putF, if_pos rfl]
theorem skyF_camera (n : Int) (ts tc : Addr) : (skyF n ts tc).lookup ("_camera" : Str) = some (.ref tc) := by
  unfold skyF
  rw [lookup_putF, if_pos rfl]
theorem skyF_two (n : Int) (ts : Addr) : (putF "_stars" (V.ref ts) (putF "_side" (.int n) [])).length < 1000 := by
  show (if ("_side" : Str) = "_stars" then _ else _ : List (Str × V)).length < 1000
  rw [if_neg (by decide +kernel)]
  show 2 < 1000
  decide
/-- a sky stands at p -/
def SkyAt (K : PySem.W.Frag) (C : Addr) (H : Hp) (p : Addr) (n : Int) (st : List V) (cam : List Int) : Prop :=
  ∃ dx ts tc, H p = some (.ins C dx (skyF n ts tc)) ∧ SqT K H ts st ∧ SqT K H tc (cam.map V.int)
theorem sky_up {K : PySem.W.Frag} {C : Addr} {H H' : Hp} {p : Addr} {n : Int} {st : List V} {cam : List Int} (s : Same H H') : SkyAt K C H p n st cam → SkyAt K C H' p n st cam := fun ⟨dx, ts, tc, h1, h2, h3⟩ =>
  ⟨dx, ts, tc, s _ _ h1, sqT_up s h2, sqT_up s h3⟩
def spTurn (K : PySem.W.Frag) : Sp := fun vs H Q _ => ∃ (q x y : Int) (p : Addr), vs = [.int q, .ref p] ∧ SqT K H p [.int x, .int y] ∧
  ∀ (H' : Hp) (p' : Addr), Same H H' → SqT K H' p' [.int (turnX q x y), .int (turnY q x y)] → Q (.ref p') H'
def spIs (K : PySem.W.Frag) (ok : Int → List Int → Bool) : Sp := fun vs H Q _ => ∃ (n : Int) (p : Addr) (ns : List Int), vs = [.int n, .ref p] ∧ SqT K H p (ns.map V.int) ∧ Q (.bl (ok n ns)) H
def spComp (K : PySem.W.Frag) : Sp := fun vs H Q _ => ∃ (n a b c d e g : Int) (p q : Addr), vs = [.int n, .ref p, .ref q] ∧ 0 < n ∧ SqT K H p [.int a, .int b, .int c] ∧ SqT K H q [.int d, .int e, .int g] ∧
  ∀ (H' : Hp) (p' : Addr), Same H H' → SqT K H' p' ((comp n [a, b, c] [d, e, g]).map V.int) → Q (.ref p') H'
def spInv (K : PySem.W.Frag) : Sp := fun vs H Q _ => ∃ (n a b c : Int) (p : Addr), vs = [.int n, .ref p] ∧ 0 < n ∧ SqT K H p [.int a, .int b, .int c] ∧
  ∀ (H' : Hp) (p' : Addr), Same H H' → SqT K H' p' ((inv n [a, b, c]).map V.int) → Q (.ref p') H'
def spSide : Sp := fun vs H Q _ => ∃ n : Int, vs = [.int n] ∧ Q (.bl (decide (4 ≤ n ∧ n ≤ 9))) H
def spNear : Sp := fun vs H Q _ => ∃ n k : Int, vs = [.int n, .int k] ∧ 0 < n ∧ Q (.int (near n k)) H
/-- a sky is made of no stars, all else as the rules ask -/
def spCheck0 (K : PySem.W.Frag) : Sp := fun vs H Q _ => ∃ (n : Int) (p c : Addr) (cam : List Int), vs = [.int n, .ref p, .ref c] ∧ SqL K H p [] ∧ SqT K H c (cam.map V.int) ∧ 4 ≤ n ∧ n ≤ 9 ∧ isCam n cam = true ∧ ∀ H', Same H H' → Q .non H'
def spInit0 (K : PySem.W.Frag) (C : Addr) : Sp := fun vs H Q _ => ∃ (x dx : Addr) (n : Int) (p c : Addr) (cam : List Int), vs = [.ref x, .int n, .ref p, .ref c] ∧ H x = some (.ins C dx []) ∧ SqL K H p [] ∧ SqT K H c (cam.map V.int) ∧ 4 ≤ n ∧ n ≤ 9 ∧ isCam n cam = true ∧
  ∀ H', SkyAt K C H' x n [] cam → (∀ b o, H b = some o → b ≠ x → H' b = some o) → Q .non H'
/-- a property of a sky that is an attribute -/
def spProp (K : PySem.W.Frag) (C : Addr) (f : Int → List V → List Int → V → Hp → Prop) : Sp := fun vs H Q _ => ∃ (p : Addr) (n : Int) (st : List V) (cam : List Int), vs = [.ref p] ∧ SkyAt K C H p n st cam ∧ ∀ v, f n st cam v H → Q v H
def spOfSide (K : PySem.W.Frag) (C : Addr) : Sp := fun vs H Q _ => ∃ (p : Addr) (n : Int) (st : List V) (cam : List Int), vs = [.ref p] ∧ SkyAt K C H p n st cam ∧ Q (.int n) H
/-- a tuple is asked of a sky: nothing comes back, or the error with the tuple -/
def spAsk (K : PySem.W.Frag) (C D : Addr) (fld : Str) (ok : Int → List Int → Bool) : Sp := fun vs H Q E => ∃ (p q : Addr) (n : Int) (st : List V) (cam ns : List Int), vs = [.ref p, .ref q] ∧ SkyAt K C H p n st cam ∧ SqT K H q (ns.map V.int) ∧
  (ok n ns = true → Q .non H) ∧ (ok n ns = false → ∀ (d : Addr) (H' : Hp), Same H H' → H' d = some (.xd [(fld, .ref q)]) → E (.ref D) (some d) H')
def spAsk2 (K : PySem.W.Frag) (C D : Addr) : Sp := fun vs H Q E => ∃ (p q r : Addr) (n : Int) (st : List V) (cam ns ms : List Int), vs = [.ref p, .ref q, .ref r] ∧ SkyAt K C H p n st cam ∧ SqT K H q (ns.map V.int) ∧ SqT K H r (ms.map V.int) ∧
  (isPose n ns = true → isPose n ms = true → Q .non H) ∧ (isPose n ns = false → ∀ (d : Addr) (H' : Hp), Same H H' → H' d = some (.xd [("attitude", .ref q)]) → E (.ref D) (some d) H') ∧
  (isPose n ns = true → isPose n ms = false → ∀ (d : Addr) (H' : Hp), Same H H' → H' d = some (.xd [("attitude", .ref r)]) → E (.ref D) (some d) H')
/-- an attitude, and a tuple of another kind done to it -/
def spDone (K : PySem.W.Frag) (C D F : Addr) (fld : Str) (ok : Int → List Int → Bool) (f : Int → List Int → List Int → List Int) : Sp := fun vs H Q E => ∃ (p q r : Addr) (n : Int) (st : List V) (cam ns ms : List Int), vs = [.ref p, .ref q, .ref r] ∧ SkyAt K C H p n st cam ∧ 0 < n ∧ SqT K H q (ns.map V.int) ∧ SqT K H r (ms.map V.int) ∧
  (isPose n ns = true → ok n ms = true → ∀ (H' : Hp) (p' : Addr), Same H H' → SqT K H' p' ((f n ns ms).map V.int) → Q (.ref p') H') ∧
  (isPose n ns = false → ∀ (d : Addr) (H' : Hp), Same H H' → H' d = some (.xd [("attitude", .ref q)]) → E (.ref D) (some d) H') ∧
  (isPose n ns = true → ok n ms = false → ∀ (d : Addr) (H' : Hp), Same H H' → H' d = some (.xd [(fld, .ref r)]) → E (.ref F) (some d) H')
def spBack (K : PySem.W.Frag) (C F : Addr) (fld : Str) (ok : Int → List Int → Bool) : Sp := fun vs H Q E => ∃ (p q : Addr) (n : Int) (st : List V) (cam ns : List Int), vs = [.ref p, .ref q] ∧ SkyAt K C H p n st cam ∧ 0 < n ∧ SqT K H q (ns.map V.int) ∧
  (ok n ns = true → ∀ (H' : Hp) (p' : Addr), Same H H' → SqT K H' p' ((inv n ns).map V.int) → Q (.ref p') H') ∧
  (ok n ns = false → ∀ (d : Addr) (H' : Hp), Same H H' → H' d = some (.xd [(fld, .ref q)]) → E (.ref F) (some d) H')
def iabs (x : Int) : Int := if x < 0 then -x else x
def imax (x y : Int) : Int := if y > x then y else x
/-- how far two attitudes are apart, none for unlike quarters -/
def apartI (n : Int) : List Int → List Int → Option Int
  | [a, b, c], [d, e, g] => if c = g then some (imax (iabs (near n (a - d))) (iabs (near n (b - e)))) else none
  | _, _ => none
def optV : Option Int → V
  | some i => .int i
  | none => .non
def farI (n s : Int) (a b : List Int) : Bool := match apartI n a b with
  | some k => decide (s < k)
  | none => true
def spApart (K : PySem.W.Frag) (C D : Addr) : Sp := fun vs H Q E => ∃ (p q r : Addr) (n : Int) (st : List V) (cam ns ms : List Int), vs = [.ref p, .ref q, .ref r] ∧ SkyAt K C H p n st cam ∧ 0 < n ∧ SqT K H q (ns.map V.int) ∧ SqT K H r (ms.map V.int) ∧
  (isPose n ns = true → isPose n ms = true → Q (optV (apartI n ns ms)) H) ∧ (isPose n ns = false → ∀ (d : Addr) (H' : Hp), Same H H' → H' d = some (.xd [("attitude", .ref q)]) → E (.ref D) (some d) H') ∧
  (isPose n ns = true → isPose n ms = false → ∀ (d : Addr) (H' : Hp), Same H H' → H' d = some (.xd [("attitude", .ref r)]) → E (.ref D) (some d) H')
def spFar (K : PySem.W.Frag) (C D : Addr) : Sp := fun vs H Q E => ∃ (p q r : Addr) (n s : Int) (st : List V) (cam ns ms : List Int), vs = [.ref p, .ref q, .ref r, .int s] ∧ SkyAt K C H p n st cam ∧ 0 < n ∧ SqT K H q (ns.map V.int) ∧ SqT K H r (ms.map V.int) ∧
  (isPose n ns = true → isPose n ms = true → Q (.bl (farI n s ns ms)) H) ∧ (isPose n ns = false → ∀ (d : Addr) (H' : Hp), Same H H' → H' d = some (.xd [("attitude", .ref q)]) → E (.ref D) (some d) H') ∧
  (isPose n ns = true → isPose n ms = false → ∀ (d : Addr) (H' : Hp), Same H H' → H' d = some (.xd [("attitude", .ref r)]) → E (.ref D) (some d) H')
end Sw
namespace Sw
open PySem PySem.Spec PyProof.Rows L2
theorem pose_len {n : Int} {ns : List Int} (h : ((ns.length : Nat) : Int) ≠ 3) : isPose n ns = false := by
  match ns, h with
  | [], _ => rfl
  | [_], _ => rfl
  | [_, _], _ => rfl
  | [_, _, _], h => exact absurd (by simp) h
  | _ :: _ :: _ :: _ :: _, _ => rfl
theorem cmd_len {n : Int} {ns : List Int} (h : ((ns.length : Nat) : Int) ≠ 3) : isCmd n ns = false := by
  match ns, h with
  | [], _ => rfl
  | [_], _ => rfl
  | [_, _], _ => rfl
  | [_, _, _], h => exact absurd (by simp) h
  | _ :: _ :: _ :: _ :: _, _ => rfl
theorem star_len {n : Int} {ns : List Int} (h : ((ns.length : Nat) : Int) ≠ 3) : isStar n ns = false := by
  match ns, h with
  | [], _ => rfl
  | [_], _ => rfl
  | [_, _], _ => rfl
  | [_, _, _], h => exact absurd (by simp) h
  | _ :: _ :: _ :: _ :: _, _ => rfl
theorem cam_len {n : Int} {ns : List Int} (h : ((ns.length : Nat) : Int) ≠ 4) : isCam n ns = false := by
  match ns, h with
  | [], _ => rfl
  | [_], _ => rfl
  | [_, _], _ => rfl
  | [_, _, _], _ => rfl
  | [_, _, _, _], h => exact absurd (by simp) h
  | _ :: _ :: _ :: _ :: _ :: _, _ => rfl
end Sw
namespace Sw
open PySem PySem.Spec PyProof.Rows L2
/-! ### what the law about commands reckons by itself -/
def spLTurn (K : PySem.W.Frag) : Sp := fun vs H Q _ => ∃ (q x y : Int) (p : Addr), vs = [.int q, .ref p] ∧ (SqT K H p [.int x, .int y] ∨ SqL K H p [.int x, .int y]) ∧ 0 ≤ q ∧ q ≤ 3 ∧
  ∀ (H' : Hp) (p' : Addr), Same H H' → SqT K H' p' [.int (turnX q x y), .int (turnY q x y)] → Q (.ref p') H'
def spWalked (K : PySem.W.Frag) : Sp := fun vs H Q _ => ∃ (n x y q i j l : Int) (p r : Addr), vs = [.int n, .ref p, .ref r] ∧ SqT K H p [.int x, .int y, .int q] ∧ SqT K H r [.int i, .int j, .int l] ∧ isPose n [x, y, q] = true ∧ 0 ≤ l ∧ l ≤ 3 ∧ -100 ≤ i ∧ i ≤ 100 ∧ -100 ≤ j ∧ j ≤ 100 ∧
  ∀ (H' : Hp) (p' : Addr), Same H H' → SqT K H' p' ((comp n [i, j, l] [x, y, q]).map V.int) → Q (.ref p') H'
def toldC (n : Int) (ns ms : List Int) : Int × List Int := if isPose n ns then (if isCmd n ms then (0, comp n ms ns) else (2, ms)) else (1, ns)
def spToldC (K : PySem.W.Frag) (C : Addr) : Sp := fun vs H Q _ => ∃ (p q r : Addr) (n : Int) (st : List V) (cam ns ms : List Int), vs = [.ref p, .ref q, .ref r] ∧ SkyAt K C H p n st cam ∧ 0 < n ∧ SqT K H q (ns.map V.int) ∧ SqT K H r (ms.map V.int) ∧
  ∀ (H' : Hp) (t b : Addr), Same H H' → SqT K H' t [.int (toldC n ns ms).1, .ref b] → SqT K H' b ((toldC n ns ms).2.map V.int) → Q (.ref t) H'
def backC (n : Int) (ns : List Int) : Int × List Int := if isCmd n ns then (0, inv n ns) else (2, ns)
def spBackC (K : PySem.W.Frag) (C : Addr) : Sp := fun vs H Q _ => ∃ (p q : Addr) (n : Int) (st : List V) (cam ns : List Int), vs = [.ref p, .ref q] ∧ SkyAt K C H p n st cam ∧ 0 < n ∧ SqT K H q (ns.map V.int) ∧
  ∀ (H' : Hp) (t b : Addr), Same H H' → SqT K H' t [.int (backC n ns).1, .ref b] → SqT K H' b ((backC n ns).2.map V.int) → Q (.ref t) H'
def orTI (ok : Bool) (ns : List Int) : PyData := if ok then .none else dTI ns
def spChecksC (K : PySem.W.Frag) (C : Addr) : Sp := fun vs H Q _ => ∃ (p q r : Addr) (n : Int) (st : List V) (cam ns ms : List Int), vs = [.ref p, .ref q, .ref r] ∧ SkyAt K C H p n st cam ∧ SqT K H q (ns.map V.int) ∧ SqT K H r (ms.map V.int) ∧
  ∀ (H' : Hp) (l : Addr) (x y : V), Same H H' → H' l = some (.lst [x, y]) → Dp K H' x (orTI (isPose n ns) ns) → Dp K H' y (orTI (isCmd n ms) ms) → Q (.ref l) H'
end Sw
namespace Sw
open PySem PySem.Spec PyProof.Rows L2
def chkV (ok : Bool) (q : Addr) : V := if ok then .non else .ref q
theorem chk_dp {K : PySem.W.Frag} {H : Hp} {q : Addr} {ns : List Int} (ok : Bool) (h : SqT K H q (ns.map V.int)) : Dp K H (chkV ok q) (orTI ok ns) := by
  cases ok with
  | true => exact .non
  | false => exact dp_ti h
theorem turnX_zero (q : Int) : turnX q 0 0 = 0 := by unfold turnX; split <;> (try split) <;> (try split) <;> rfl
theorem turnY_zero (q : Int) : turnY q 0 0 = 0 := by unfold turnY; split <;> (try split) <;> (try split) <;> rfl
theorem turnX_add (q a b c d : Int) : turnX q (a + c) (b + d) = turnX q a b + turnX q c d := by unfold turnX; split <;> (try split) <;> (try split) <;> omega
theorem turnY_add (q a b c d : Int) : turnY q (a + c) (b + d) = turnY q a b + turnY q c d := by unfold turnY; split <;> (try split) <;> (try split) <;> omega
end Sw
namespace Sw
open PySem PySem.Spec PyProof.Rows L2
theorem quarter_cases {q : Int} (h0 : 0 ≤ q) (h3 : q ≤ 3) : q = 0 ∨ q = 1 ∨ q = 2 ∨ q = 3 := by omega
theorem side_cases {n : Int} (h0 : 4 ≤ n) (h3 : n ≤ 9) : n = 4 ∨ n = 5 ∨ n = 6 ∨ n = 7 ∨ n = 8 ∨ n = 9 := by omega
theorem tX0 (x y : Int) : turnX 0 x y = x := rfl
theorem tX1 (x y : Int) : turnX 1 x y = -y := rfl
theorem tX2 (x y : Int) : turnX 2 x y = -x := rfl
theorem tX3 (x y : Int) : turnX 3 x y = y := rfl
theorem tY0 (x y : Int) : turnY 0 x y = y := rfl
theorem tY1 (x y : Int) : turnY 1 x y = x := rfl
theorem tY2 (x y : Int) : turnY 2 x y = -y := rfl
theorem tY3 (x y : Int) : turnY 3 x y = -x := rfl
theorem tXm (q x y : Int) : turnX q x y = turnX (q % 4) x y := by unfold turnX; rw [Int.emod_emod_of_dvd q (Int.dvd_refl 4)]
theorem tYm (q x y : Int) : turnY q x y = turnY (q % 4) x y := by unfold turnY; rw [Int.emod_emod_of_dvd q (Int.dvd_refl 4)]
theorem undo1 {n u v z x : Int} (h : (u % n + (v + x) % n) % n = z) (e : u + v = 0) (h0 : 0 ≤ x) (h1 : x < n) : z = x := by
  rw [← h, ← Int.add_emod, ← Int.add_assoc, e, Int.zero_add]
  exact Int.emod_eq_of_lt h0 h1
theorem neg_emod' (a n : Int) : (-(a % n)) % n = (-a) % n := by
  rw [← Int.emod_emod_of_dvd (-a) (Int.dvd_refl n)]
  conv => rhs; rw [← Int.mul_ediv_add_emod a n]
  rw [Int.neg_add, ← Int.mul_neg, Int.emod_emod_of_dvd _ (Int.dvd_refl n), Int.add_comm, Int.add_mul_emod_self_left]
theorem back_ok {n x y q i j l : Int} (hp : isPose n [x, y, q] = true) (l0 : 0 ≤ l) (l3 : l ≤ 3) : comp n (inv n [i, j, l]) (comp n [i, j, l] [x, y, q]) = [x, y, q] := by
  have h := of_decide_eq_true hp
  have key : ∀ u v w : Int, (w = u % n ∨ w = -(-u % n)) → u + v = 0 → ∀ z, 0 ≤ z → z < n → (w + (v + z) % n) % n = z := fun u v w hw e z z0 z1 => by
    have e1 : w % n = u % n := by
      rcases hw with rfl | rfl
      · exact Int.emod_emod_of_dvd u (Int.dvd_refl n)
      · rw [neg_emod', Int.neg_neg]
    rw [Int.add_emod, e1, Int.emod_emod_of_dvd _ (Int.dvd_refl n), ← Int.add_emod, ← Int.add_assoc, e, Int.zero_add]
    exact Int.emod_eq_of_lt z0 z1
  show [(turnX ((l + q) % 4) (turnX (2 - l) i j % n) (turnY (2 - l) i j % n) + (turnX q i j + x) % n) % n, (turnY ((l + q) % 4) (turnX (2 - l) i j % n) (turnY (2 - l) i j % n) + (turnY q i j + y) % n) % n, ((4 - l) % 4 + (l + q) % 4) % 4] = [x, y, q]
  have hq : ((4 - l) % 4 + (l + q) % 4) % 4 = q := by omega
  rw [hq]
  have X : (turnX ((l + q) % 4) (turnX (2 - l) i j % n) (turnY (2 - l) i j % n) + (turnX q i j + x) % n) % n = x := by
    refine key (-(turnX q i j)) _ _ ?_ (by omega) x h.1 h.2.1
    rcases quarter_cases l0 l3 with rfl | rfl | rfl | rfl <;> rcases quarter_cases h.2.2.2.2.1 h.2.2.2.2.2 with rfl | rfl | rfl | rfl <;> simp [turnX, turnY]
  have Y : (turnY ((l + q) % 4) (turnX (2 - l) i j % n) (turnY (2 - l) i j % n) + (turnY q i j + y) % n) % n = y := by
    refine key (-(turnY q i j)) _ _ ?_ (by omega) y h.2.2.1 h.2.2.2.1
    rcases quarter_cases l0 l3 with rfl | rfl | rfl | rfl <;> rcases quarter_cases h.2.2.2.2.1 h.2.2.2.2.2 with rfl | rfl | rfl | rfl <;> simp [turnX, turnY]
  rw [X, Y]
theorem comp_pose {n i j l x y q : Int} (hn : 0 < n) : isPose n (comp n [i, j, l] [x, y, q]) = true := by
  refine decide_eq_true ⟨Int.emod_nonneg _ (by omega), Int.emod_lt_of_pos _ hn, Int.emod_nonneg _ (by omega), Int.emod_lt_of_pos _ hn, by omega, by omega⟩
theorem inv_cmd {n i j l : Int} (hn : 0 < n) : isCmd n (inv n [i, j, l]) = true := by
  have a0 := Int.emod_nonneg (turnX (2 - l) i j) (show n ≠ 0 by omega)
  have a1 := Int.emod_lt_of_pos (turnX (2 - l) i j) hn
  have b0 := Int.emod_nonneg (turnY (2 - l) i j) (show n ≠ 0 by omega)
  have b1 := Int.emod_lt_of_pos (turnY (2 - l) i j) hn
  exact decide_eq_true ⟨by omega, a1, by omega, b1, by omega, by omega⟩
theorem turn_mod8 (q x y : Int) : turnX ((q + 8) % 4) x y = turnX q x y ∧ turnY ((q + 8) % 4) x y = turnY q x y := by
  rw [tXm q, tYm q, show (q + 8) % 4 = q % 4 by omega]
  exact ⟨rfl, rfl⟩
end Sw
namespace Sw
theorem poseF {n x y q : Int} (h : ¬ (0 ≤ x ∧ x < n ∧ 0 ≤ y ∧ y < n ∧ 0 ≤ q ∧ q ≤ 3)) : isPose n [x, y, q] = false := decide_eq_false h
theorem cmdF {n x y q : Int} (h : ¬ (-n < x ∧ x < n ∧ -n < y ∧ y < n ∧ 0 ≤ q ∧ q ≤ 3)) : isCmd n [x, y, q] = false := decide_eq_false h
theorem poseT {n x y q : Int} (h : 0 ≤ x ∧ x < n ∧ 0 ≤ y ∧ y < n ∧ 0 ≤ q ∧ q ≤ 3) : isPose n [x, y, q] = true := decide_eq_true h
end Sw
set_option Elab.async false
set_option linter.all false
set_option maxRecDepth 100000
set_option maxHeartbeats 4000000
/-! How far two places are apart around the sky: rings of places, and the same number by the nearest differences. -/
namespace Sw
open PySem PySem.Spec PyProof.Rows L2
def gap (n a b : Int) : Int := iabs (near n (a - b))
def dist (n a b c d : Int) : Int := imax (gap n a c) (gap n b d)
theorem gap_nn (n a b : Int) : 0 ≤ gap n a b := by unfold gap iabs; split <;> omega
theorem gap_zero {n a b : Int} (h4 : 4 ≤ n) (h9 : n ≤ 9) (a0 : 0 ≤ a) (a1 : a < n) (b0 : 0 ≤ b) (b1 : b < n) : gap n a b ≤ 0 ↔ a = b := by
  unfold gap iabs near
  rcases side_cases h4 h9 with rfl | rfl | rfl | rfl | rfl | rfl <;> constructor <;> intro h <;> (try split at h) <;> (try split) <;> omega
theorem gap_lt {n a b : Int} (h4 : 4 ≤ n) (h9 : n ≤ 9) : gap n a b < n := by
  unfold gap iabs near
  rcases side_cases h4 h9 with rfl | rfl | rfl | rfl | rfl | rfl <;> split <;> omega
theorem gap_step {n a b d m : Int} (h4 : 4 ≤ n) (h9 : n ≤ 9) (d0 : -1 ≤ d) (d1 : d ≤ 1) (h : gap n a b ≤ m) : gap n a ((b + d + n) % n) ≤ m + 1 := by
  unfold gap iabs near at *
  rcases side_cases h4 h9 with rfl | rfl | rfl | rfl | rfl | rfl <;> (split at h) <;> split <;> omega
theorem gap_back {n a b m : Int} (h4 : 4 ≤ n) (h9 : n ≤ 9) (b0 : 0 ≤ b) (b1 : b < n) (hm : 0 ≤ m) (h : gap n a b ≤ m + 1) : ∃ c d, 0 ≤ c ∧ c < n ∧ -1 ≤ d ∧ d ≤ 1 ∧ gap n a c ≤ m ∧ (c + d + n) % n = b := by
  by_cases hz : gap n a b ≤ m
  · refine ⟨b, 0, b0, b1, by decide, by decide, hz, ?_⟩
    rcases side_cases h4 h9 with rfl | rfl | rfl | rfl | rfl | rfl <;> omega
  · by_cases hp : 0 < near n (a - b)
    · refine ⟨(b + 1) % n, -1, Int.emod_nonneg _ (by omega), Int.emod_lt_of_pos _ (by omega), by decide, by decide, ?_, ?_⟩
      · unfold gap iabs near at *
        rcases side_cases h4 h9 with rfl | rfl | rfl | rfl | rfl | rfl <;> (split at h) <;> split <;> omega
      · rcases side_cases h4 h9 with rfl | rfl | rfl | rfl | rfl | rfl <;> omega
    · refine ⟨(b + n - 1) % n, 1, Int.emod_nonneg _ (by omega), Int.emod_lt_of_pos _ (by omega), by decide, by decide, ?_, ?_⟩
      · unfold gap iabs near at *
        rcases side_cases h4 h9 with rfl | rfl | rfl | rfl | rfl | rfl <;> (split at h) <;> split <;> omega
      · rcases side_cases h4 h9 with rfl | rfl | rfl | rfl | rfl | rfl <;> omega
theorem imax_le {x y m : Int} : imax x y ≤ m ↔ x ≤ m ∧ y ≤ m := by unfold imax; split <;> omega
end Sw
namespace Sw
open PySem PySem.Spec PyProof.Rows L2
abbrev Pl := Int × Int
def dP (p : Pl) : PyData := dTI [p.1, p.2]
def addNew (qs : List Pl) (p : Pl) : List Pl := if p ∈ qs then qs else qs ++ [p]
def steps3 : List Int := [-1, 0, 1]
def pt (n : Int) (r : Pl) (dx dy : Int) : Pl := ((r.1 + dx + n) % n, (r.2 + dy + n) % n)
def rowP (n : Int) (r : Pl) (dx : Int) : List Pl := steps3.map (pt n r dx)
def nine (n : Int) (r : Pl) : List Pl := steps3.flatMap (rowP n r)
def Valid (n : Int) (p : Pl) : Prop := 0 ≤ p.1 ∧ p.1 < n ∧ 0 ≤ p.2 ∧ p.2 < n
theorem mem_add {p x : Pl} {qs : List Pl} : x ∈ addNew qs p ↔ x ∈ qs ∨ x = p := by
  unfold addNew
  by_cases h : p ∈ qs
  · rw [if_pos h]
    exact ⟨.inl, fun z => z.elim id fun e => e ▸ h⟩
  · rw [if_neg h, List.mem_append, List.mem_singleton]
theorem mem_adds {x : Pl} : ∀ {l : List Pl} {qs : List Pl}, x ∈ l.foldl addNew qs ↔ x ∈ qs ∨ x ∈ l
  | [], qs => by simp
  | p :: r, qs => by
    rw [List.foldl_cons, mem_adds (l := r), mem_add, List.mem_cons, or_assoc]
theorem nodup_add {p : Pl} {qs : List Pl} (h : qs.Nodup) : (addNew qs p).Nodup := by
  unfold addNew
  by_cases hp : p ∈ qs
  · rw [if_pos hp]
    exact h
  · rw [if_neg hp]
    refine List.nodup_append.mpr ⟨h, by simp, fun a ha b hb e => ?_⟩
    rw [List.mem_singleton.mp hb] at e
    exact hp (e ▸ ha)
theorem nodup_adds : ∀ {l : List Pl} {qs : List Pl}, qs.Nodup → (l.foldl addNew qs).Nodup
  | [], _, h => h
  | _ :: r, _, h => nodup_adds (l := r) (nodup_add h)
theorem pairs_len {n : Int} {qs : List Pl} (h9 : n ≤ 9) (hn : qs.Nodup) (hv : ∀ p ∈ qs, Valid n p) : qs.length ≤ 81 := by
  have h1 : (qs.map fun p : Pl => (p.1 * 9 + p.2).toNat).Nodup := by
    refine List.pairwise_map.mpr (List.Pairwise.imp_of_mem (fun {p q} hp hq ne e => ?_) hn)
    obtain ⟨a1, a2, a3, a4⟩ := hv p hp
    obtain ⟨b1, b2, b3, b4⟩ := hv q hq
    exact ne (Prod.ext (by omega) (by omega))
  have h2 := nodup_below 81 _ h1 fun x hx => by
    obtain ⟨p, hp, rfl⟩ := List.mem_map.mp hx
    obtain ⟨a1, a2, a3, a4⟩ := hv p hp
    omega
  rw [List.length_map] at h2
  exact h2
theorem pt_valid {n : Int} (hn : 0 < n) (r : Pl) (dx dy : Int) : Valid n (pt n r dx dy) := ⟨Int.emod_nonneg _ (by omega), Int.emod_lt_of_pos _ hn, Int.emod_nonneg _ (by omega), Int.emod_lt_of_pos _ hn⟩
theorem mem_steps {d : Int} : d ∈ steps3 ↔ -1 ≤ d ∧ d ≤ 1 := by
  unfold steps3
  simp only [List.mem_cons, List.not_mem_nil, or_false]
  omega
theorem mem_nine {n : Int} {r x : Pl} : x ∈ nine n r ↔ ∃ dx dy, (-1 ≤ dx ∧ dx ≤ 1) ∧ (-1 ≤ dy ∧ dy ≤ 1) ∧ x = pt n r dx dy := by
  unfold nine rowP
  simp only [List.mem_flatMap, List.mem_map, mem_steps]
  constructor
  · rintro ⟨dx, h1, dy, h2, e⟩
    exact ⟨dx, dy, h1, h2, e.symm⟩
  · rintro ⟨dx, dy, h1, h2, e⟩
    exact ⟨dx, h1, dy, h2, e.symm⟩
/-- the places around those that are so near are those that are one step farther at most -/
theorem ring_step {n a b m : Int} {ps : List Pl} (h4 : 4 ≤ n) (h9 : n ≤ 9) (hm : 0 ≤ m) (h : ∀ p : Pl, p ∈ ps ↔ Valid n p ∧ dist n a b p.1 p.2 ≤ m) (p : Pl) :
    p ∈ ps.flatMap (nine n) ↔ Valid n p ∧ dist n a b p.1 p.2 ≤ m + 1 := by
  rw [List.mem_flatMap]
  constructor
  · rintro ⟨r, hr, hp⟩
    obtain ⟨dx, dy, h1, h2, rfl⟩ := mem_nine.mp hp
    obtain ⟨hv, hd⟩ := (h r).mp hr
    obtain ⟨g1, g2⟩ := imax_le.mp hd
    exact ⟨pt_valid (by omega) r dx dy, imax_le.mpr ⟨gap_step h4 h9 h1.1 h1.2 g1, gap_step h4 h9 h2.1 h2.2 g2⟩⟩
  · rintro ⟨hv, hd⟩
    obtain ⟨g1, g2⟩ := imax_le.mp hd
    obtain ⟨c1, d1, u1, u2, u3, u4, u5, u6⟩ := gap_back h4 h9 hv.1 hv.2.1 hm g1
    obtain ⟨c2, d2, w1, w2, w3, w4, w5, w6⟩ := gap_back h4 h9 hv.2.2.1 hv.2.2.2 hm g2
    refine ⟨(c1, c2), (h _).mpr ⟨⟨u1, u2, w1, w2⟩, imax_le.mpr ⟨u5, w5⟩⟩, mem_nine.mpr ⟨d1, d2, ⟨u3, u4⟩, ⟨w3, w4⟩, ?_⟩⟩
    exact Prod.ext u6.symm w6.symm
theorem ring_start {n a b : Int} (h4 : 4 ≤ n) (h9 : n ≤ 9) (hv : Valid n (a, b)) (p : Pl) : p ∈ [(a, b)] ↔ Valid n p ∧ dist n a b p.1 p.2 ≤ 0 := by
  rw [List.mem_singleton]
  constructor
  · rintro rfl
    exact ⟨hv, imax_le.mpr ⟨(gap_zero h4 h9 hv.1 hv.2.1 hv.1 hv.2.1).mpr rfl, (gap_zero h4 h9 hv.2.2.1 hv.2.2.2 hv.2.2.1 hv.2.2.2).mpr rfl⟩⟩
  · rintro ⟨w, hd⟩
    obtain ⟨g1, g2⟩ := imax_le.mp hd
    have e1 := (gap_zero h4 h9 hv.1 hv.2.1 w.1 w.2.1).mp g1
    have e2 := (gap_zero h4 h9 hv.2.2.1 hv.2.2.2 w.2.2.1 w.2.2.2).mp g2
    exact Prod.ext e1.symm e2.symm
theorem eqv_pair (a b c d : Int) : PyData.eqv (dTI [a, b]) (dTI [c, d]) = decide ((a, b) = (c, d)) := by
  show ((a == c) && ((b == d) && true)) = _
  by_cases h1 : a = c <;> by_cases h2 : b = d <;> simp [h1, h2]
theorem any_pair (ps : List Pl) (p : Pl) : ((ps.map dP).any fun z => PyData.eqv z (dP p)) = decide (p ∈ ps) := by
  induction ps with
  | nil => rfl
  | cons q r ih =>
    rw [List.map_cons, List.any_cons, ih]
    show (PyData.eqv (dTI [q.1, q.2]) (dTI [p.1, p.2]) || _) = _
    rw [eqv_pair]
    by_cases h : q = p
    · subst h
      simp
    · have h' : ¬ ((q.1, q.2) : Pl) = (p.1, p.2) := h
      rw [decide_eq_false h', Bool.false_or]
      by_cases hm : p ∈ r
      · rw [decide_eq_true hm, decide_eq_true (List.mem_cons_of_mem _ hm)]
      · rw [decide_eq_false hm, decide_eq_false (fun z => (List.mem_cons.mp z).elim (fun e => h e.symm) hm)]
theorem noLs_pl : ∀ ps : List Pl, noLs (ps.map dP) = true
  | [] => rfl
  | p :: r => by
    show (noL (dP p) && noLs (r.map dP)) = true
    rw [noLs_pl r, show noL (dP p) = true from noL_ti _]
    rfl
theorem lay_pl (ps : List Pl) : Lay 2 (.list (ps.map dP)) := lay_list fun d hd => by
  obtain ⟨p, _, rfl⟩ := List.mem_map.mp hd
  exact lay_ti _
def spRings (K : PySem.W.Frag) : Sp := fun vs H Q _ => ∃ (n a b c d : Int) (p q : Addr), vs = [.int n, .ref p, .ref q] ∧ 4 ≤ n ∧ n ≤ 9 ∧ Valid n (a, b) ∧ Valid n (c, d) ∧ SqT K H p [.int a, .int b] ∧ SqT K H q [.int c, .int d] ∧ ∀ H', Same H H' → Q (.int (dist n a b c d)) H'
end Sw
namespace Sw
open PySem PySem.Spec PyProof.Rows L2
def noD (ns : List Int) : PyData := .tuple [.str "no", dTI ns]
def optD : Option Int → PyData
  | some i => .int i
  | none => .none
def d1D (n : Int) (ns ms : List Int) : PyData := if isPose n ns then (if isPose n ms then optD (apartI n ns ms) else noD ms) else noD ns
def d2D (n s : Int) (ns ms : List Int) : PyData := if isPose n ns then (if isPose n ms then .bool (farI n s ns ms) else noD ms) else noD ns
theorem noL_no (ns : List Int) : noL (noD ns) = true := by
  show (noL (.str "no") && (noL (dTI ns) && true)) = true
  rw [noL_ti]
  rfl
theorem noL_opt (o : Option Int) : noL (optD o) = true := by cases o <;> rfl
theorem dp_opt {K : PySem.W.Frag} {H : Hp} (o : Option Int) : Dp K H (optV o) (optD o) := by
  cases o with
  | none => exact .non
  | some i => exact .int i
theorem noL_d1 (n : Int) (ns ms : List Int) : noL (d1D n ns ms) = true := by
  unfold d1D
  split
  · split
    · exact noL_opt _
    · exact noL_no _
  · exact noL_no _
theorem noL_d2 (n s : Int) (ns ms : List Int) : noL (d2D n s ns ms) = true := by
  unfold d2D
  split
  · split
    · rfl
    · exact noL_no _
  · exact noL_no _
theorem str_no : (PyData.str "no").canLay0 = true := by decide +kernel
theorem lay_no (ns : List Int) : Lay 2 (noD ns) := lay_tuple (lay_2 ⟨str_no, Nat.zero_le _⟩ (lay_ti _))
theorem lay_opt (k : Nat) (o : Option Int) : Lay k (optD o) := by
  cases o with
  | none => exact lay_non k
  | some i => exact lay_int k i
def spToldD (K : PySem.W.Frag) (C : Addr) : Sp := fun vs H Q _ => ∃ (p q r : Addr) (n s : Int) (st : List V) (cam ns ms : List Int), vs = [.ref p, .ref q, .ref r, .int s] ∧ SkyAt K C H p n st cam ∧ 0 < n ∧ SqT K H q (ns.map V.int) ∧ SqT K H r (ms.map V.int) ∧
  ∀ (H' : Hp) (l : Addr) (x y : V), Same H H' → H' l = some (.lst [x, y]) → Dp K H' x (d1D n ns ms) → Dp K H' y (d2D n s ns ms) → Q (.ref l) H'
/-! ### what stays: commands and motions keep how far two attitudes are apart -/
theorem near_abs_neg {n z : Int} (h4 : 4 ≤ n) (h9 : n ≤ 9) : iabs (near n (-z)) = iabs (near n z) := by
  unfold iabs near
  rcases side_cases h4 h9 with rfl | rfl | rfl | rfl | rfl | rfl <;> split <;> split <;> omega
theorem near_cong {n y z : Int} (h : y % n = z % n) : near n y = near n z := by
  unfold near
  rw [Int.add_emod y, h, ← Int.add_emod]
theorem diff_cong {n u x y : Int} : ((u + x) % n - (u + y) % n) % n = (x - y) % n := by
  rw [Int.sub_emod, Int.emod_emod_of_dvd _ (Int.dvd_refl n), Int.emod_emod_of_dvd _ (Int.dvd_refl n), ← Int.sub_emod]
  congr 1
  omega
theorem diff_cong2 {n u x y : Int} : ((x + u) % n - (y + u) % n) % n = (x - y) % n := by
  rw [Int.add_comm x, Int.add_comm y]
  exact diff_cong
theorem apart_cmd {n x y q i j l u v w : Int} (q0 : 0 ≤ q) (q3 : q ≤ 3) (w0 : 0 ≤ w) (w3 : w ≤ 3) :
    apartI n (comp n [i, j, l] [x, y, q]) (comp n [i, j, l] [u, v, w]) = apartI n [x, y, q] [u, v, w] := by
  show (if (l + q) % 4 = (l + w) % 4 then _ else _) = (if q = w then _ else _)
  by_cases h : q = w
  · subst h
    rw [if_pos rfl, if_pos rfl]
    show some (imax (iabs (near n ((turnX q i j + x) % n - (turnX q i j + u) % n))) (iabs (near n ((turnY q i j + y) % n - (turnY q i j + v) % n)))) = _
    rw [near_cong (diff_cong (u := turnX q i j)), near_cong (diff_cong (u := turnY q i j))]
  · rw [if_neg h, if_neg (by omega)]
theorem imax_comm (x y : Int) : imax x y = imax y x := by unfold imax; split <;> split <;> omega
theorem apart_mot {n x y q i j l u v w : Int} (h4 : 4 ≤ n) (h9 : n ≤ 9) (q0 : 0 ≤ q) (q3 : q ≤ 3) (w0 : 0 ≤ w) (w3 : w ≤ 3) (l0 : 0 ≤ l) (l3 : l ≤ 3) :
    apartI n (comp n [x, y, q] [i, j, l]) (comp n [u, v, w] [i, j, l]) = apartI n [x, y, q] [u, v, w] := by
  show (if (q + l) % 4 = (w + l) % 4 then _ else _) = (if q = w then _ else _)
  by_cases h : q = w
  · subst h
    rw [if_pos rfl, if_pos rfl]
    show some (imax (iabs (near n ((turnX l x y + i) % n - (turnX l u v + i) % n))) (iabs (near n ((turnY l x y + j) % n - (turnY l u v + j) % n)))) = some (imax (iabs (near n (x - u))) (iabs (near n (y - v))))
    rw [near_cong (diff_cong2 (u := i)), near_cong (diff_cong2 (u := j))]
    have e : ∀ s t : Int, -s - -t = -(s - t) := fun s t => by omega
    rcases quarter_cases l0 l3 with rfl | rfl | rfl | rfl
    · rfl
    · rw [tX1, tX1, tY1, tY1, e, near_abs_neg h4 h9, imax_comm]
    · rw [tX2, tX2, tY2, tY2, e, e, near_abs_neg h4 h9, near_abs_neg h4 h9]
    · rw [tX3, tX3, tY3, tY3, e, near_abs_neg h4 h9, imax_comm]
  · rw [if_neg h, if_neg (by omega)]
theorem apart_comm {n x y q u v w : Int} (h4 : 4 ≤ n) (h9 : n ≤ 9) : apartI n [u, v, w] [x, y, q] = apartI n [x, y, q] [u, v, w] := by
  show (if w = q then _ else _) = (if q = w then _ else _)
  by_cases h : q = w
  · subst h
    rw [if_pos rfl, if_pos rfl]
    rw [show u - x = -(x - u) by omega, show v - y = -(y - v) by omega, near_abs_neg h4 h9, near_abs_neg h4 h9]
  · rw [if_neg h, if_neg (fun z => h z.symm)]
theorem far_of {n s : Int} {a b c d : List Int} (h : apartI n a b = apartI n c d) : farI n s a b = farI n s c d := by
  unfold farI
  rw [h]
end Sw
namespace SwT
open PySem PySem.Spec PyProof.Rows L2 Sw
/-! ### the text by places -/
def topS (i : Nat) : Stmt := PySem.Challenge.pw_starward_k07_how_far_attitudes_are.main.body.getD i (.Pass ⟨0, 0, 0, 0⟩)
abbrev s_quarter_turned : Stmt := topS 8
theorem sc_quarter_turned : FnScope ["quarters", "pair", "x", "y", "count"] ["quarters", "pair"] (defScope s_quarter_turned) := ⟨rfl, rfl, rfl, by decide +kernel, rfl, by decide +kernel, by decide +kernel⟩
abbrev s_is_pose : Stmt := topS 9
theorem sc_is_pose : FnScope ["side", "told", "x", "y", "quarter"] ["side", "told"] (defScope s_is_pose) := ⟨rfl, rfl, rfl, by decide +kernel, rfl, by decide +kernel, by decide +kernel⟩
abbrev s_composed : Stmt := topS 10
theorem sc_composed : FnScope ["side", "first", "second", "x", "y"] ["side", "first", "second"] (defScope s_composed) := ⟨rfl, rfl, rfl, by decide +kernel, rfl, by decide +kernel, by decide +kernel⟩
abbrev s_is_side : Stmt := topS 14
theorem sc_is_side : FnScope ["side"] ["side"] (defScope s_is_side) := ⟨rfl, rfl, rfl, by decide +kernel, rfl, by decide +kernel, by decide +kernel⟩
abbrev s_is_star : Stmt := topS 15
theorem sc_is_star : FnScope ["side", "star", "x", "y", "brightness"] ["side", "star"] (defScope s_is_star) := ⟨rfl, rfl, rfl, by decide +kernel, rfl, by decide +kernel, by decide +kernel⟩
abbrev s_is_camera : Stmt := topS 16
theorem sc_is_camera : FnScope ["side", "camera", "reach", "blur", "glare", "limit"] ["side", "camera"] (defScope s_is_camera) := ⟨rfl, rfl, rfl, by decide +kernel, rfl, by decide +kernel, by decide +kernel⟩
abbrev s__check_sky : Stmt := topS 17
theorem sc__check_sky : FnScope ["side", "stars", "camera", "star"] ["side", "stars", "camera"] (defScope s__check_sky) := ⟨rfl, rfl, rfl, by decide +kernel, rfl, by decide +kernel, by decide +kernel⟩
abbrev s_Skyx_initx : Stmt := inClass (topS 18) 0
theorem sc_Skyx_initx : FnScope ["self", "side", "stars", "camera"] ["self", "side", "stars", "camera"] (defScope s_Skyx_initx) := ⟨rfl, rfl, rfl, by decide +kernel, rfl, by decide +kernel, by decide +kernel⟩
abbrev s_Sky_side : Stmt := inClass (topS 18) 1
theorem sc_Sky_side : FnScope ["self"] ["self"] (defScope s_Sky_side) := ⟨rfl, rfl, rfl, by decide +kernel, rfl, by decide +kernel, by decide +kernel⟩
abbrev s_check_attitude : Stmt := topS 20
theorem sc_check_attitude : FnScope ["sky", "attitude"] ["sky", "attitude"] (defScope s_check_attitude) := ⟨rfl, rfl, rfl, by decide +kernel, rfl, by decide +kernel, by decide +kernel⟩
abbrev s_check_command : Stmt := topS 21
theorem sc_check_command : FnScope ["sky", "command"] ["sky", "command"] (defScope s_check_command) := ⟨rfl, rfl, rfl, by decide +kernel, rfl, by decide +kernel, by decide +kernel⟩
abbrev s_check_motion : Stmt := topS 22
theorem sc_check_motion : FnScope ["sky", "motion"] ["sky", "motion"] (defScope s_check_motion) := ⟨rfl, rfl, rfl, by decide +kernel, rfl, by decide +kernel, by decide +kernel⟩
abbrev s_check_two : Stmt := topS 23
theorem sc_check_two : FnScope ["sky", "one", "other"] ["sky", "one", "other"] (defScope s_check_two) := ⟨rfl, rfl, rfl, by decide +kernel, rfl, by decide +kernel, by decide +kernel⟩
abbrev s__is_command : Stmt := topS 24
theorem sc__is_command : FnScope ["side", "command", "dx", "dy", "quarter"] ["side", "command"] (defScope s__is_command) := ⟨rfl, rfl, rfl, by decide +kernel, rfl, by decide +kernel, by decide +kernel⟩
abbrev s__nearest : Stmt := topS 25
theorem sc__nearest : FnScope ["side", "part", "half"] ["side", "part"] (defScope s__nearest) := ⟨rfl, rfl, rfl, by decide +kernel, rfl, by decide +kernel, by decide +kernel⟩
abbrev s_commanded : Stmt := topS 26
theorem sc_commanded : FnScope ["sky", "attitude", "command"] ["sky", "attitude", "command"] (defScope s_commanded) := ⟨rfl, rfl, rfl, by decide +kernel, rfl, by decide +kernel, by decide +kernel⟩
abbrev s_moved : Stmt := topS 27
theorem sc_moved : FnScope ["sky", "attitude", "motion"] ["sky", "attitude", "motion"] (defScope s_moved) := ⟨rfl, rfl, rfl, by decide +kernel, rfl, by decide +kernel, by decide +kernel⟩
abbrev s_apart : Stmt := topS 28
theorem sc_apart : FnScope ["sky", "one", "other"] ["sky", "one", "other"] (defScope s_apart) := ⟨rfl, rfl, rfl, by decide +kernel, rfl, by decide +kernel, by decide +kernel⟩
abbrev s_are_far : Stmt := topS 29
theorem sc_are_far : FnScope ["sky", "one", "other", "slack", "steps"] ["sky", "one", "other", "slack"] (defScope s_are_far) := ⟨rfl, rfl, rfl, by decide +kernel, rfl, by decide +kernel, by decide +kernel⟩
abbrev s__law_row : Stmt := topS 31
theorem sc__law_row : FnScope ["cell", "many", "row", "rest", "state", "k"] ["cell", "many"] (defScope s__law_row) := ⟨rfl, rfl, rfl, by decide +kernel, rfl, by decide +kernel, by decide +kernel⟩
abbrev s__law_numbers : Stmt := topS 32
theorem sc__law_numbers : FnScope ["script", "many", "cells", "each", "numbers", "cell", "number"] ["script", "many"] (defScope s__law_numbers) := ⟨rfl, rfl, rfl, by decide +kernel, rfl, by decide +kernel, by decide +kernel⟩
abbrev s__law_rings : Stmt := topS 33
theorem sc__law_rings : FnScope ["side", "one", "other", "ring", "many", "wider", "x", "y", "dx", "dy", "place"] ["side", "one", "other"] (defScope s__law_rings) := ⟨rfl, rfl, rfl, by decide +kernel, rfl, by decide +kernel, by decide +kernel⟩
abbrev s__law_told : Stmt := topS 34
theorem sc__law_told : FnScope ["sky", "one", "other", "slack", "found", "kind", "error"] ["sky", "one", "other", "slack"] (defScope s__law_told) := ⟨rfl, rfl, rfl, by decide +kernel, rfl, by decide +kernel, by decide +kernel⟩
abbrev s_law : Stmt := topS 35
theorem sc_law : FnScope ["script", "numbers", "side", "sky", "k", "at", "one", "other", "slack", "due", "far", "motion", "command", "strange", "wrong"] ["script"] (defScope s_law) := ⟨rfl, rfl, rfl, by decide +kernel, rfl, by decide +kernel, by decide +kernel⟩
/-- where the top has put each of them -/
structure Ad where
  f_quarter_turned : Addr
  fd_quarter_turned : FuncData
  f_is_pose : Addr
  fd_is_pose : FuncData
  f_composed : Addr
  fd_composed : FuncData
  f_is_side : Addr
  fd_is_side : FuncData
  f_is_star : Addr
  fd_is_star : FuncData
  f_is_camera : Addr
  fd_is_camera : FuncData
  f__check_sky : Addr
  fd__check_sky : FuncData
  f_Skyx_initx : Addr
  fd_Skyx_initx : FuncData
  f_Sky_side : Addr
  fd_Sky_side : FuncData
  f_check_attitude : Addr
  fd_check_attitude : FuncData
  f_check_command : Addr
  fd_check_command : FuncData
  f_check_motion : Addr
  fd_check_motion : FuncData
  f_check_two : Addr
  fd_check_two : FuncData
  f__is_command : Addr
  fd__is_command : FuncData
  f__nearest : Addr
  fd__nearest : FuncData
  f_commanded : Addr
  fd_commanded : FuncData
  f_moved : Addr
  fd_moved : FuncData
  f_apart : Addr
  fd_apart : FuncData
  f_are_far : Addr
  fd_are_far : FuncData
  f__law_row : Addr
  fd__law_row : FuncData
  f__law_numbers : Addr
  fd__law_numbers : FuncData
  f__law_rings : Addr
  fd__law_rings : FuncData
  f__law_told : Addr
  fd__law_told : FuncData
  f_law : Addr
  fd_law : FuncData
  c_InvalidAttitude : Addr
  i_InvalidAttitude : Addr
  c_InvalidCommand : Addr
  i_InvalidCommand : Addr
  c_InvalidMotion : Addr
  i_InvalidMotion : Addr
  c_InvalidSky : Addr
  c_Sky : Addr
  g_Sky_side : Addr
  u_MOST_STARS : Value
  u_BRIGHTEST : Value
/-- what the top has written -/
structure Txt (P : Program) (K : PySem.W.Frag) (mg : Str → Option Value) (a : Ad) : Prop where
  F_quarter_turned : Fun K "quarter_turned" "quarter_turned" s_quarter_turned a.f_quarter_turned a.fd_quarter_turned
  b_quarter_turned : Binds K a.fd_quarter_turned ["quarters", "pair"] []
  m_quarter_turned : mg "quarter_turned" = some (.ref a.f_quarter_turned)
  F_is_pose : Fun K "is_pose" "is_pose" s_is_pose a.f_is_pose a.fd_is_pose
  b_is_pose : Binds K a.fd_is_pose ["side", "told"] []
  m_is_pose : mg "is_pose" = some (.ref a.f_is_pose)
  F_composed : Fun K "composed" "composed" s_composed a.f_composed a.fd_composed
  b_composed : Binds K a.fd_composed ["side", "first", "second"] []
  m_composed : mg "composed" = some (.ref a.f_composed)
  F_is_side : Fun K "is_side" "is_side" s_is_side a.f_is_side a.fd_is_side
  b_is_side : Binds K a.fd_is_side ["side"] []
  m_is_side : mg "is_side" = some (.ref a.f_is_side)
  F_is_star : Fun K "is_star" "is_star" s_is_star a.f_is_star a.fd_is_star
  b_is_star : Binds K a.fd_is_star ["side", "star"] []
  m_is_star : mg "is_star" = some (.ref a.f_is_star)
  F_is_camera : Fun K "is_camera" "is_camera" s_is_camera a.f_is_camera a.fd_is_camera
  b_is_camera : Binds K a.fd_is_camera ["side", "camera"] []
  m_is_camera : mg "is_camera" = some (.ref a.f_is_camera)
  F__check_sky : Fun K "_check_sky" "_check_sky" s__check_sky a.f__check_sky a.fd__check_sky
  b__check_sky : Binds K a.fd__check_sky ["side", "stars", "camera"] []
  m__check_sky : mg "_check_sky" = some (.ref a.f__check_sky)
  F_Skyx_initx : Fun K "__init__" "Sky.__init__" s_Skyx_initx a.f_Skyx_initx a.fd_Skyx_initx
  b_Skyx_initx : Binds K a.fd_Skyx_initx ["self", "side", "stars", "camera"] []
  F_Sky_side : Fun K "side" "Sky.side" s_Sky_side a.f_Sky_side a.fd_Sky_side
  b_Sky_side : Binds K a.fd_Sky_side ["self"] []
  p_Sky_side : PropOf K a.c_Sky "side" a.g_Sky_side a.f_Sky_side
  F_check_attitude : Fun K "check_attitude" "check_attitude" s_check_attitude a.f_check_attitude a.fd_check_attitude
  b_check_attitude : Binds K a.fd_check_attitude ["sky", "attitude"] []
  m_check_attitude : mg "check_attitude" = some (.ref a.f_check_attitude)
  F_check_command : Fun K "check_command" "check_command" s_check_command a.f_check_command a.fd_check_command
  b_check_command : Binds K a.fd_check_command ["sky", "command"] []
  m_check_command : mg "check_command" = some (.ref a.f_check_command)
  F_check_motion : Fun K "check_motion" "check_motion" s_check_motion a.f_check_motion a.fd_check_motion
  b_check_motion : Binds K a.fd_check_motion ["sky", "motion"] []
  m_check_motion : mg "check_motion" = some (.ref a.f_check_motion)
  F_check_two : Fun K "check_two" "check_two" s_check_two a.f_check_two a.fd_check_two
  b_check_two : Binds K a.fd_check_two ["sky", "one", "other"] []
  m_check_two : mg "check_two" = some (.ref a.f_check_two)
  F__is_command : Fun K "_is_command" "_is_command" s__is_command a.f__is_command a.fd__is_command
  b__is_command : Binds K a.fd__is_command ["side", "command"] []
  m__is_command : mg "_is_command" = some (.ref a.f__is_command)
  F__nearest : Fun K "_nearest" "_nearest" s__nearest a.f__nearest a.fd__nearest
  b__nearest : Binds K a.fd__nearest ["side", "part"] []
  m__nearest : mg "_nearest" = some (.ref a.f__nearest)
  F_commanded : Fun K "commanded" "commanded" s_commanded a.f_commanded a.fd_commanded
  b_commanded : Binds K a.fd_commanded ["sky", "attitude", "command"] []
  m_commanded : mg "commanded" = some (.ref a.f_commanded)
  F_moved : Fun K "moved" "moved" s_moved a.f_moved a.fd_moved
  b_moved : Binds K a.fd_moved ["sky", "attitude", "motion"] []
  m_moved : mg "moved" = some (.ref a.f_moved)
  F_apart : Fun K "apart" "apart" s_apart a.f_apart a.fd_apart
  b_apart : Binds K a.fd_apart ["sky", "one", "other"] []
  m_apart : mg "apart" = some (.ref a.f_apart)
  F_are_far : Fun K "are_far" "are_far" s_are_far a.f_are_far a.fd_are_far
  b_are_far : Binds K a.fd_are_far ["sky", "one", "other", "slack"] []
  m_are_far : mg "are_far" = some (.ref a.f_are_far)
  F__law_row : Fun K "_law_row" "_law_row" s__law_row a.f__law_row a.fd__law_row
  b__law_row : Binds K a.fd__law_row ["cell", "many"] []
  m__law_row : mg "_law_row" = some (.ref a.f__law_row)
  F__law_numbers : Fun K "_law_numbers" "_law_numbers" s__law_numbers a.f__law_numbers a.fd__law_numbers
  b__law_numbers : Binds K a.fd__law_numbers ["script", "many"] []
  m__law_numbers : mg "_law_numbers" = some (.ref a.f__law_numbers)
  F__law_rings : Fun K "_law_rings" "_law_rings" s__law_rings a.f__law_rings a.fd__law_rings
  b__law_rings : Binds K a.fd__law_rings ["side", "one", "other"] []
  m__law_rings : mg "_law_rings" = some (.ref a.f__law_rings)
  F__law_told : Fun K "_law_told" "_law_told" s__law_told a.f__law_told a.fd__law_told
  b__law_told : Binds K a.fd__law_told ["sky", "one", "other", "slack"] []
  m__law_told : mg "_law_told" = some (.ref a.f__law_told)
  F_law : Fun K "law" "law" s_law a.f_law a.fd_law
  cl_Sky : Cls K a.c_Sky
  m_Sky : mg "Sky" = some (.ref a.c_Sky)
  M_Sky : Mk K a.c_Sky a.f_Skyx_initx
  n_Sky__side : NoAttr K a.c_Sky "_side"
  n_Sky__stars : NoAttr K a.c_Sky "_stars"
  n_Sky__camera : NoAttr K a.c_Sky "_camera"
  S_InvalidAttitude : PySem.SwX.SErr P K mg "InvalidAttitude" "attitude" a.c_InvalidAttitude a.i_InvalidAttitude
  S_InvalidCommand : PySem.SwX.SErr P K mg "InvalidCommand" "command" a.c_InvalidCommand a.i_InvalidCommand
  S_InvalidMotion : PySem.SwX.SErr P K mg "InvalidMotion" "motion" a.c_InvalidMotion a.i_InvalidMotion
  m_MOST_STARS : mg "MOST_STARS" = some a.u_MOST_STARS
  v_MOST_STARS : ∃ t, a.u_MOST_STARS = .int 20 t
  m_BRIGHTEST : mg "BRIGHTEST" = some a.u_BRIGHTEST
  v_BRIGHTEST : ∃ t, a.u_BRIGHTEST = .int 9 t
  z_len : mg "len" = none
  z_abs : mg "abs" = none
  z_int : mg "int" = none
  z_max : mg "max" = none
  z_range : mg "range" = none
  z_tuple : mg "tuple" = none
  z_isinstance : mg "isinstance" = none
  z_sorted : mg "sorted" = none
  z_set : mg "set" = none
  z_bool : mg "bool" = none
section
variable {P : Program} {w : World} {K : PySem.W.Frag} {mg : Str → Option Value} {base : Heap} {a : Ad}
theorem ok_quarter_turned (T : Txt P K mg a) : FnOk P w K mg base CX0 1 a.f_quarter_turned a.fd_quarter_turned ["quarters", "pair"] (spTurn K) := by
  refine T.F_quarter_turned.ok sc_quarter_turned (fun vs H Q E h => ?_) (fun cdv A outer s H vs Q E hr h => ?_)
  · obtain ⟨q, x, y, p, rfl, _⟩ := h
    rfl
  · obtain ⟨q, x, y, p, rfl, hS, k⟩ := h
    refine ⟨_, (pss_cons (ps_asg (pv 1) (pg_tup rfl (pgs_cons (pg_name (i := 2) sc_quarter_turned.nd rfl (.inl rfl)) (pgs_cons (pg_name (i := 3) sc_quarter_turned.nd rfl (.inl rfl)) pgs_nil))))
      (pss_cons (ps_set (i := 4) sc_quarter_turned.nd rfl (.inl rfl) (pe_op op_mod (pv 0) pe_int))
      (pss_cons (ps_if (pt_cmpR op_eq (pv 4) pe_int (nomark _)) (pss_one (ps_ret (pe_tupM (pa_cons (pe_un un_neg (pv 3)) (pa_cons (pv 2) pa_nil))))) pss_nil)
      (pss_cons (ps_if (pt_cmpR op_eq (pv 4) pe_int (nomark _)) (pss_one (ps_ret (pe_tupM (pa_cons (pe_un un_neg (pv 2)) (pa_cons (pe_un un_neg (pv 3)) pa_nil))))) pss_nil)
      (pss_cons (ps_if (pt_cmpR op_eq (pv 4) pe_int (nomark _)) (pss_one (ps_ret (pe_tupM (pa_cons (pv 3) (pa_cons (pe_un un_neg (pv 2)) pa_nil))))) pss_nil)
      (pss_one (ps_ret (pe_tupM (pa_cons (pv 2) (pa_cons (pv 3) pa_nil)))))))))), ?_⟩
    refine ⟨.ref p, rfl, p, _, rfl, hS, rfl, _, _, rfl, _, _, rfl, rfl, ?_⟩
    refine ⟨_, rfl, _, _, rfl, rfl, (by show (0 : Int) < 4; decide), ?_⟩
    refine ⟨_, rfl, rfl, _, rfl, ite2 (fun hg => ?_) (fun hg => ?_)⟩
    · have e : q % 4 = 1 := V.int.inj (of_decide_eq_true hg)
      refine ⟨_, rfl, _, rfl, _, rfl, (by show 2 ≤ sizeLine; decide), fun p' H' s1 t1 => k H' p' s1 ?_⟩
      unfold turnX turnY
      rw [if_pos e, if_pos e]
      exact t1
    have n1 : ¬ q % 4 = 1 := fun z => hg (decide_eq_true (congrArg V.int z))
    refine ⟨_, rfl, rfl, _, rfl, ite2 (fun hg => ?_) (fun hg => ?_)⟩
    · have e : q % 4 = 2 := V.int.inj (of_decide_eq_true hg)
      refine ⟨_, rfl, _, rfl, _, rfl, _, rfl, (by show 2 ≤ sizeLine; decide), fun p' H' s1 t1 => k H' p' s1 ?_⟩
      unfold turnX turnY
      rw [if_neg n1, if_neg n1, if_pos e, if_pos e]
      exact t1
    have n2 : ¬ q % 4 = 2 := fun z => hg (decide_eq_true (congrArg V.int z))
    refine ⟨_, rfl, rfl, _, rfl, ite2 (fun hg => ?_) (fun hg => ?_)⟩
    · have e : q % 4 = 3 := V.int.inj (of_decide_eq_true hg)
      refine ⟨_, rfl, _, rfl, _, rfl, (by show 2 ≤ sizeLine; decide), fun p' H' s1 t1 => k H' p' s1 ?_⟩
      unfold turnX turnY
      rw [if_neg n1, if_neg n1, if_neg n2, if_neg n2, if_pos e, if_pos e]
      exact t1
    have n3 : ¬ q % 4 = 3 := fun z => hg (decide_eq_true (congrArg V.int z))
    refine ⟨_, rfl, _, rfl, (by show 2 ≤ sizeLine; decide), fun p' H' s1 t1 => k H' p' s1 ?_⟩
    unfold turnX turnY
    rw [if_neg n1, if_neg n1, if_neg n2, if_neg n2, if_neg n3, if_neg n3]
    exact t1

theorem ok_is_pose (T : Txt P K mg a) : FnOk P w K mg base CX0 1 a.f_is_pose a.fd_is_pose ["side", "told"] (spIs K isPose) := by
  refine T.F_is_pose.ok sc_is_pose (fun vs H Q E h => ?_) (fun cdv A outer s H vs Q E hr h => ?_)
  · obtain ⟨n, p, ns, rfl, _⟩ := h
    rfl
  · obtain ⟨n, p, ns, rfl, hS, k⟩ := h
    refine ⟨_, (pss_cons (ps_if (pt_cmpR op_ne (pe_callB call_len_seq (by rfl) T.z_len (by decide +kernel) (pa_cons (pv 1) pa_nil)) pe_int (nomark _)) (pss_one (ps_ret pe_bl)) pss_nil)
      (pss_cons (ps_asg (pv 1) (pg_tup rfl (pgs_cons (pg_name (i := 2) sc_is_pose.nd rfl (.inl rfl)) (pgs_cons (pg_name (i := 3) sc_is_pose.nd rfl (.inl rfl)) (pgs_cons (pg_name (i := 4) sc_is_pose.nd rfl (.inl rfl)) pgs_nil)))))
      (pss_one (ps_ret (pe_and (pe_chain op_le op_lt pe_int (pv 2) (pv 0)) (pe_and (pe_chain op_le op_lt pe_int (pv 3) (pv 0)) (pe_one (pe_chain op_le op_le pe_int (pv 4) pe_int)))))))), ?_⟩
    refine ⟨.ref p, rfl, p, _, rfl, .inr hS, rfl, _, rfl, ite2 (fun hg => ?_) (fun hg => ?_)⟩
    · have e : isPose n ns = false := pose_len (by have z := int_ne hg; rw [List.length_map] at z; exact z)
      exact e ▸ k
    · obtain ⟨x, y, q, rfl⟩ := of3 (by have z := int_eq hg; rw [List.length_map] at z; exact z)
      refine ⟨.ref p, rfl, p, _, rfl, hS, rfl, _, _, rfl, _, _, rfl, _, _, rfl, rfl, ?_⟩
      have fin : ∀ b : Bool, isPose n [x, y, q] = b → Q (.bl b) H := fun b e => e ▸ k
      have no : ∀ {c : Prop} [Decidable c], ¬ (decide c = true) → ¬ c := fun h z => h (decide_eq_true z)
      have F : (¬ (0 ≤ x ∧ x < n ∧ 0 ≤ y ∧ y < n ∧ 0 ≤ q ∧ q ≤ 3)) → Q (.bl false) H := fun z => fin _ (decide_eq_false z)
      refine ⟨_, rfl, _, _, rfl, rfl, _, rfl, ite2 (fun h1 => ?_) (fun h1 => ⟨_, rfl, iteF (F fun z => h1 (decide_eq_true z.1))⟩)⟩
      refine ⟨_, rfl, _, _, rfl, rfl, _, rfl, ite2 (fun h2 => ?_) (fun h2 => F fun z => h2 (decide_eq_true z.2.1))⟩
      refine ⟨_, rfl, _, _, rfl, rfl, _, rfl, ite2 (fun h3 => ?_) (fun h3 => ⟨_, rfl, iteF (F fun z => h3 (decide_eq_true z.2.2.1))⟩)⟩
      refine ⟨_, rfl, _, _, rfl, rfl, _, rfl, ite2 (fun h4 => ?_) (fun h4 => F fun z => h4 (decide_eq_true z.2.2.2.1))⟩
      refine ⟨_, rfl, _, _, rfl, rfl, _, rfl, ite2 (fun h5 => ?_) (fun h5 => F fun z => h5 (decide_eq_true z.2.2.2.2.1))⟩
      refine ⟨_, _, rfl, rfl, ?_⟩
      refine fin _ ?_
      show decide _ = decide _
      have a1 := of_decide_eq_true h1
      have a2 := of_decide_eq_true h2
      have a3 := of_decide_eq_true h3
      have a4 := of_decide_eq_true h4
      have a5 := of_decide_eq_true h5
      by_cases z : q ≤ 3
      · rw [decide_eq_true z, decide_eq_true ⟨a1, a2, a3, a4, a5, z⟩]
      · rw [decide_eq_false z, decide_eq_false (fun w => z w.2.2.2.2.2)]

theorem ok_composed (T : Txt P K mg a) : FnOk P w K mg base CX0 2 a.f_composed a.fd_composed ["side", "first", "second"] (spComp K) := by
  refine T.F_composed.ok sc_composed (fun vs H Q E h => ?_) (fun cdv A outer s H vs Q E hr h => ?_)
  · obtain ⟨n, i, b, c, d, e, g, p, q, rfl, _⟩ := h
    rfl
  · obtain ⟨n, i, b, c, d, e, g, p, q, rfl, hn, hp, hq, k⟩ := h
    refine ⟨_, (pss_cons (ps_asg (pe_call (ok_quarter_turned T) (hr.mono (by decide)) (by rfl) T.m_quarter_turned T.F_quarter_turned.kp T.b_quarter_turned .nil pass0 (pa_cons (pe_ix ix_seq (pv 2) pe_int (fun _ _ => rfl)) (pa_cons (pe_tupM (pa_cons (pe_ix ix_seq (pv 1) pe_int (fun _ _ => rfl)) (pa_cons (pe_ix ix_seq (pv 1) pe_int (fun _ _ => rfl)) pa_nil))) pa_nil))) (pg_tup rfl (pgs_cons (pg_name (i := 3) sc_composed.nd rfl (.inl rfl)) (pgs_cons (pg_name (i := 4) sc_composed.nd rfl (.inl rfl)) pgs_nil))))
      (pss_one (ps_ret (pe_tupM (pa_cons (pe_op op_mod (pe_op op_add (pv 3) (pe_ix ix_seq (pv 2) pe_int (fun _ _ => rfl))) (pv 0)) (pa_cons (pe_op op_mod (pe_op op_add (pv 4) (pe_ix ix_seq (pv 2) pe_int (fun _ _ => rfl))) (pv 0)) (pa_cons (pe_op op_mod (pe_op op_add (pe_ix ix_seq (pv 1) pe_int (fun _ _ => rfl)) (pe_ix ix_seq (pv 2) pe_int (fun _ _ => rfl))) pe_int) pa_nil))))))), ?_⟩
    refine ⟨.ref q, rfl, .inr (.inl ⟨q, _, 2, .int g, rfl, rfl, hq, rfl, ?_⟩)⟩
    refine ⟨.ref p, rfl, .inr (.inl ⟨p, _, 0, .int i, rfl, rfl, hp, rfl, .ref p, rfl, .inr (.inl ⟨p, _, 1, .int b, rfl, rfl, hp, rfl, ?_⟩)⟩)⟩
    refine ⟨(by show 2 ≤ sizeLine; decide), fun p1 H1 s1 t1 => ?_⟩
    refine ⟨g, i, b, p1, rfl, t1, fun H2 p2 s2 t2 => ?_⟩
    refine ⟨p2, _, rfl, t2, rfl, _, _, rfl, _, _, rfl, rfl, ?_⟩
    have s12 := s1.trans s2
    refine ⟨_, rfl, .ref q, rfl, .inr (.inl ⟨q, _, 0, .int d, rfl, rfl, sqT_up s12 hq, rfl, _, _, rfl, rfl, _, rfl, _, _, rfl, rfl, hn, ?_⟩)⟩
    refine ⟨_, rfl, .ref q, rfl, .inr (.inl ⟨q, _, 1, .int e, rfl, rfl, sqT_up s12 hq, rfl, _, _, rfl, rfl, _, rfl, _, _, rfl, rfl, hn, ?_⟩)⟩
    refine ⟨.ref p, rfl, .inr (.inl ⟨p, _, 2, .int c, rfl, rfl, sqT_up s12 hp, rfl, .ref q, rfl, .inr (.inl ⟨q, _, 2, .int g, rfl, rfl, sqT_up s12 hq, rfl, _, _, rfl, rfl, _, _, rfl, rfl, (by show (0 : Int) < 4; decide), ?_⟩)⟩)⟩
    exact ⟨(by show 3 ≤ sizeLine; decide), fun p3 H3 s3 t3 => k H3 p3 (s12.trans s3) t3⟩

theorem ok_is_side (T : Txt P K mg a) : FnOk P w K mg base CX0 1 a.f_is_side a.fd_is_side ["side"] spSide := by
  refine T.F_is_side.ok sc_is_side (fun vs H Q E h => ?_) (fun cdv A outer s H vs Q E hr h => ?_)
  · obtain ⟨n, rfl, _⟩ := h
    rfl
  · obtain ⟨n, rfl, k⟩ := h
    refine ⟨_, (pss_one (ps_ret (pe_chain op_le op_le pe_int (pv 0) pe_int))), ?_⟩
    refine ⟨_, rfl, _, _, rfl, rfl, _, rfl, ite2 (fun h1 => ⟨_, _, rfl, rfl, ?_⟩) (fun h1 => ?_)⟩
    · have a1 : 4 ≤ n := of_decide_eq_true h1
      show Q (.bl (decide (n ≤ 9))) H
      by_cases z : n ≤ 9
      · rw [decide_eq_true z]
        rw [decide_eq_true ⟨a1, z⟩] at k
        exact k
      · rw [decide_eq_false z]
        rw [decide_eq_false (fun y => z y.2)] at k
        exact k
    · rw [decide_eq_false (fun y => h1 (decide_eq_true y.1))] at k
      exact k

theorem ok_is_star (T : Txt P K mg a) : FnOk P w K mg base CX0 1 a.f_is_star a.fd_is_star ["side", "star"] (spIs K isStar) := by
  refine T.F_is_star.ok sc_is_star (fun vs H Q E h => ?_) (fun cdv A outer s H vs Q E hr h => ?_)
  · obtain ⟨n, p, ns, rfl, _⟩ := h
    rfl
  · obtain ⟨n, p, ns, rfl, hS, k⟩ := h
    refine ⟨_, (pss_cons (ps_if (pt_cmpR op_ne (pe_callB call_len_seq (by rfl) T.z_len (by decide +kernel) (pa_cons (pv 1) pa_nil)) pe_int (nomark _)) (pss_one (ps_ret pe_bl)) pss_nil)
      (pss_cons (ps_asg (pv 1) (pg_tup rfl (pgs_cons (pg_name (i := 2) sc_is_star.nd rfl (.inl rfl)) (pgs_cons (pg_name (i := 3) sc_is_star.nd rfl (.inl rfl)) (pgs_cons (pg_name (i := 4) sc_is_star.nd rfl (.inl rfl)) pgs_nil)))))
      (pss_one (ps_ret (pe_and (pe_chain op_le op_lt pe_int (pv 2) (pv 0)) (pe_and (pe_chain op_le op_lt pe_int (pv 3) (pv 0)) (pe_one (pe_chain op_le op_le pe_int (pv 4) (pe_glob (v := .int 9) rfl T.m_BRIGHTEST T.v_BRIGHTEST))))))))), ?_⟩
    refine ⟨.ref p, rfl, p, _, rfl, .inr hS, rfl, _, rfl, ite2 (fun hg => ?_) (fun hg => ?_)⟩
    · have e : isStar n ns = false := star_len (by have z := int_ne hg; rw [List.length_map] at z; exact z)
      exact e ▸ k
    · obtain ⟨x, y, q, rfl⟩ := of3 (by have z := int_eq hg; rw [List.length_map] at z; exact z)
      refine ⟨.ref p, rfl, p, _, rfl, hS, rfl, _, _, rfl, _, _, rfl, _, _, rfl, rfl, ?_⟩
      have fin : ∀ b : Bool, isStar n [x, y, q] = b → Q (.bl b) H := fun b e => e ▸ k
      have no : ∀ {c : Prop} [Decidable c], ¬ (decide c = true) → ¬ c := fun h z => h (decide_eq_true z)
      have F : (¬ (0 ≤ x ∧ x < n ∧ 0 ≤ y ∧ y < n ∧ 1 ≤ q ∧ q ≤ 9)) → Q (.bl false) H := fun z => fin _ (decide_eq_false z)
      refine ⟨_, rfl, _, _, rfl, rfl, _, rfl, ite2 (fun h1 => ?_) (fun h1 => ⟨_, rfl, iteF (F fun z => h1 (decide_eq_true z.1))⟩)⟩
      refine ⟨_, rfl, _, _, rfl, rfl, _, rfl, ite2 (fun h2 => ?_) (fun h2 => F fun z => h2 (decide_eq_true z.2.1))⟩
      refine ⟨_, rfl, _, _, rfl, rfl, _, rfl, ite2 (fun h3 => ?_) (fun h3 => ⟨_, rfl, iteF (F fun z => h3 (decide_eq_true z.2.2.1))⟩)⟩
      refine ⟨_, rfl, _, _, rfl, rfl, _, rfl, ite2 (fun h4 => ?_) (fun h4 => F fun z => h4 (decide_eq_true z.2.2.2.1))⟩
      refine ⟨_, rfl, _, _, rfl, rfl, _, rfl, ite2 (fun h5 => ?_) (fun h5 => F fun z => h5 (decide_eq_true z.2.2.2.2.1))⟩
      refine ⟨_, _, rfl, rfl, ?_⟩
      refine fin _ ?_
      show decide _ = decide _
      have a1 := of_decide_eq_true h1
      have a2 := of_decide_eq_true h2
      have a3 := of_decide_eq_true h3
      have a4 := of_decide_eq_true h4
      have a5 := of_decide_eq_true h5
      by_cases z : q ≤ 9
      · rw [decide_eq_true z, decide_eq_true ⟨a1, a2, a3, a4, a5, z⟩]
      · rw [decide_eq_false z, decide_eq_false (fun w => z w.2.2.2.2.2)]

theorem ok_is_camera (T : Txt P K mg a) : FnOk P w K mg base CX0 1 a.f_is_camera a.fd_is_camera ["side", "camera"] (spIs K isCam) := by
  refine T.F_is_camera.ok sc_is_camera (fun vs H Q E h => ?_) (fun cdv A outer s H vs Q E hr h => ?_)
  · obtain ⟨n, p, ns, rfl, _⟩ := h
    rfl
  · obtain ⟨n, p, ns, rfl, hS, k⟩ := h
    refine ⟨_, (pss_cons (ps_if (pt_cmpR op_ne (pe_callB call_len_seq (by rfl) T.z_len (by decide +kernel) (pa_cons (pv 1) pa_nil)) pe_int (nomark _)) (pss_one (ps_ret pe_bl)) pss_nil)
      (pss_cons (ps_asg (pv 1) (pg_tup rfl (pgs_cons (pg_name (i := 2) sc_is_camera.nd rfl (.inl rfl)) (pgs_cons (pg_name (i := 3) sc_is_camera.nd rfl (.inl rfl)) (pgs_cons (pg_name (i := 4) sc_is_camera.nd rfl (.inl rfl)) (pgs_cons (pg_name (i := 5) sc_is_camera.nd rfl (.inl rfl)) pgs_nil))))))
      (pss_cons (ps_if (pt_not (PW.pt (pw_and (pt_chain op_le op_le pe_int (pv 2) pe_int) (pw_and (pt_chain op_le op_le pe_int (pv 3) pe_int) (pw_and (pt_chain op_le op_le pe_int (pv 4) pe_int) (pw_and1 (pt_chain op_le op_le pe_int (pv 5) (pe_glob (v := .int 9) rfl T.m_BRIGHTEST T.v_BRIGHTEST)))))))) (pss_one (ps_ret pe_bl)) pss_nil)
      (pss_one (ps_ret (pe_and (pe_cmpR op_le (pv 3) (pv 2) (nomark _)) (pe_one (pe_cmpR op_le (pe_op op_add (pe_op op_mul pe_int (pe_op op_add (pv 2) (pv 3))) pe_int) (pv 0) (nomark _))))))))), ?_⟩
    refine ⟨.ref p, rfl, p, _, rfl, .inr hS, rfl, _, rfl, ite2 (fun hg => ?_) (fun hg => ?_)⟩
    · have e : isCam n ns = false := cam_len (by have z := int_ne hg; rw [List.length_map] at z; exact z)
      exact e ▸ k
    · obtain ⟨r, b, g, l, rfl⟩ := of4 (by have z := int_eq hg; rw [List.length_map] at z; exact z)
      refine ⟨.ref p, rfl, p, _, rfl, hS, rfl, _, _, rfl, _, _, rfl, _, _, rfl, _, _, rfl, rfl, ?_⟩
      have F : ¬ (0 ≤ r ∧ r ≤ 4 ∧ 0 ≤ b ∧ b ≤ 2 ∧ 0 ≤ g ∧ g ≤ 2 ∧ 1 ≤ l ∧ l ≤ 9 ∧ b ≤ r ∧ 2 * (r + b) + 1 ≤ n) → Q (.bl false) H := fun z => (show isCam n [r, b, g, l] = false from decide_eq_false z) ▸ k
      refine ⟨_, rfl, _, _, rfl, rfl, _, rfl, ite2 (fun h1 => ⟨_, _, rfl, rfl, _, rfl, ?_⟩) (fun h1 => ⟨_, rfl, iteF (iteT (F fun z => h1 (decide_eq_true z.1)))⟩)⟩
      refine ite2 (fun h2 => ?_) (fun h2 => iteT (F fun z => h2 (decide_eq_true z.2.1)))
      refine ⟨_, rfl, _, _, rfl, rfl, _, rfl, ite2 (fun h3 => ⟨_, _, rfl, rfl, _, rfl, ?_⟩) (fun h3 => ⟨_, rfl, iteF (iteT (F fun z => h3 (decide_eq_true z.2.2.1)))⟩)⟩
      refine ite2 (fun h4 => ?_) (fun h4 => iteT (F fun z => h4 (decide_eq_true z.2.2.2.1)))
      refine ⟨_, rfl, _, _, rfl, rfl, _, rfl, ite2 (fun h5 => ⟨_, _, rfl, rfl, _, rfl, ?_⟩) (fun h5 => ⟨_, rfl, iteF (iteT (F fun z => h5 (decide_eq_true z.2.2.2.2.1)))⟩)⟩
      refine ite2 (fun h6 => ?_) (fun h6 => iteT (F fun z => h6 (decide_eq_true z.2.2.2.2.2.1)))
      refine ⟨_, rfl, _, _, rfl, rfl, _, rfl, ite2 (fun h7 => ⟨_, _, rfl, rfl, _, rfl, ?_⟩) (fun h7 => ⟨_, rfl, iteT (F fun z => h7 (decide_eq_true z.2.2.2.2.2.2.1))⟩)⟩
      refine ite2 (fun hz => F fun z => ?_) (fun hz => ?_)
      · rw [decide_eq_true z.2.2.2.2.2.2.2.1] at hz
        cases hz
      have h8 : l ≤ 9 := by
        by_cases z : l ≤ 9
        · exact z
        · exact absurd (by rw [decide_eq_false z]; rfl) hz
      refine ⟨_, rfl, _, rfl, _, _, rfl, rfl, _, rfl, ite2 (fun h9 => ?_) (fun h9 => F fun z => h9 (decide_eq_true z.2.2.2.2.2.2.2.2.1))⟩
      refine ⟨_, rfl, _, rfl, _, _, rfl, rfl, _, _, rfl, rfl, .inl (by constructor <;> decide), _, _, rfl, rfl, _, rfl, _, _, rfl, rfl, ?_⟩
      have a1 := of_decide_eq_true h1
      have a2 := of_decide_eq_true h2
      have a3 := of_decide_eq_true h3
      have a4 := of_decide_eq_true h4
      have a5 := of_decide_eq_true h5
      have a6 := of_decide_eq_true h6
      have a7 := of_decide_eq_true h7
      have a9 := of_decide_eq_true h9
      show Q (.bl (decide (2 * (r + b) + 1 ≤ n))) H
      by_cases z : 2 * (r + b) + 1 ≤ n
      · rw [decide_eq_true z]
        exact (show isCam n [r, b, g, l] = true from decide_eq_true ⟨a1, a2, a3, a4, a5, a6, a7, h8, a9, z⟩) ▸ k
      · rw [decide_eq_false z]
        exact F fun y => z y.2.2.2.2.2.2.2.2.2

theorem ok__check_sky (T : Txt P K mg a) : FnOk P w K mg base CX0 2 a.f__check_sky a.fd__check_sky ["side", "stars", "camera"] (spCheck0 K) := by
  refine T.F__check_sky.ok sc__check_sky (fun vs H Q E h => ?_) (fun cdv A outer s H vs Q E hr h => ?_)
  · obtain ⟨n, p, c, cam, rfl, _⟩ := h
    rfl
  · obtain ⟨n, p, c, cam, rfl, hp, hc, h4, h9, hcam, k⟩ := h
    refine ⟨_, (pss_cons (ps_if (pt_not (pt_val (pe_call (ok_is_side T) (hr.mono (by decide)) (by rfl) T.m_is_side T.F_is_side.kp T.b_is_side .nil pass0 (pa_cons (pv 0) pa_nil)))) (pss_one ps_never) pss_nil)
      (pss_cons (ps_for PassesOwn.never rfl (pi_list (pv 1)) (pg_name (i := 3) sc__check_sky.nd rfl (.inl rfl)) (pss_one (ps_if (pt_not (pt_val (pe_call (ok_is_star T) (hr.mono (by decide)) (by rfl) T.m_is_star T.F_is_star.kp T.b_is_star .nil pass0 (pa_cons (pv 0) (pa_cons (pv 3) pa_nil))))) (pss_one ps_never) pss_nil)))
      (pss_cons (ps_if (pt_cmpR op_lt (pe_lenSet rfl (by rfl) T.z_len (by rfl) T.z_set (pv 1)) (pe_callB call_len_seq (by rfl) T.z_len (by decide +kernel) (pa_cons (pv 1) pa_nil)) (nomark _)) (pss_one ps_never) pss_nil)
      (pss_cons (ps_if (pt_cmpR op_gt (pe_callB call_len_seq (by rfl) T.z_len (by decide +kernel) (pa_cons (pv 1) pa_nil)) (pe_glob (v := .int 20) rfl T.m_MOST_STARS T.v_MOST_STARS) (nomark _)) (pss_one ps_never) pss_nil)
      (pss_one (ps_if (pt_not (pt_val (pe_call (ok_is_camera T) (hr.mono (by decide)) (by rfl) T.m_is_camera T.F_is_camera.kp T.b_is_camera .nil pass0 (pa_cons (pv 0) (pa_cons (pv 2) pa_nil))))) (pss_one ps_never) pss_nil)))))), ?_⟩
    refine ⟨_, rfl, n, rfl, _, rfl, ?_⟩
    rw [decide_eq_true ⟨h4, h9⟩]
    refine iteF ?_
    refine ⟨.ref p, rfl, p, rfl, ⟨_, hp⟩, for_list (K := K) (a := p) (xs := []) (fun i σ H2 => σ = [some (.int n), some (.ref p), some (.ref c), none] ∧ H2 = H) ⟨rfl, rfl⟩ (fun i σ H2 _ ⟨_, e⟩ => by rw [e]; exact hp) (fun i y σ H2 hi => by cases hi) ?_⟩
    rintro σ H2 ⟨rfl, rfl⟩
    refine ⟨.ref p, rfl, p, [], rfl, .inl hp, Nat.zero_le _, .ref p, rfl, p, _, rfl, .inl hp, _, _, rfl, rfl, _, rfl, ?_⟩
    refine iteF ?_
    refine ⟨.ref p, rfl, p, _, rfl, .inl hp, _, _, rfl, rfl, _, rfl, ?_⟩
    refine iteF ?_
    refine ⟨_, rfl, .ref c, rfl, n, c, cam, rfl, hc, _, rfl, ?_⟩
    rw [hcam]
    exact iteF (k _ (Same.refl _))

theorem ok_Skyx_initx (T : Txt P K mg a) : FnOk P w K mg base CX0 3 a.f_Skyx_initx a.fd_Skyx_initx ["self", "side", "stars", "camera"] (spInit0 K a.c_Sky) := by
  refine T.F_Skyx_initx.ok sc_Skyx_initx (fun vs H Q E h => ?_) (fun cdv A outer s H vs Q E hr h => ?_)
  · obtain ⟨x, dx, n, p, c, cam, rfl, _⟩ := h
    rfl
  · obtain ⟨x, dx, n, p, c, cam, rfl, hx, hp, hc, h4, h9, hcam, k⟩ := h
    refine ⟨_, (pss_cons (ps_expr (pe_call (ok__check_sky T) (hr.mono (by decide)) (by rfl) T.m__check_sky T.F__check_sky.kp T.b__check_sky .nil pass0 (pa_cons (pv 1) (pa_cons (pv 2) (pa_cons (pv 3) pa_nil)))))
      (pss_cons (ps_fld (pv 0) (pv 1) rfl)
      (pss_cons (ps_fld (pv 0) (pe_callTy call_tuple_of (by rfl) T.z_tuple (by decide +kernel) (pa_cons (pe_callB cr_sorted (by rfl) T.z_sorted (by decide +kernel) (pa_cons (pv 2) pa_nil)) pa_nil)) rfl)
      (pss_one (ps_fld (pv 0) (pv 3) rfl))))), ?_⟩
    refine ⟨_, rfl, .ref p, rfl, .ref c, rfl, n, p, c, cam, rfl, hp, hc, h4, h9, hcam, fun H1 s1 => ?_⟩
    refine ⟨_, rfl, .ref x, rfl, x, a.c_Sky, dx, [], rfl, s1 _ _ hx, T.cl_Sky, T.n_Sky__side, (by show 0 < 1000; decide), ?_⟩
    -- self._stars = tuple(sorted(stars))
    have hx1 := s1 _ _ hx
    generalize e2 : upd H1 x (.ins a.c_Sky dx (putF "_side" (.int n) [])) = H2
    have hx2 : H2 x = some (.ins a.c_Sky dx (putF "_side" (.int n) [])) := by rw [← e2]; exact upd_same
    have hp2 : SqL K H2 p [] := by rw [← e2]; exact sqL_ins hx1 (s1.seq hp)
    have hc2 : SqT K H2 c (cam.map V.int) := by rw [← e2]; exact sqT_ins hx1 (sqT_up s1 hc)
    refine ⟨.ref p, rfl, p, [], rfl, hp2, (by show 0 < 64; decide), fun ns' l hperm _ nl => ?_⟩
    obtain rfl : ns' = [] := List.Perm.eq_nil hperm
    refine ⟨l, [], rfl, .inl ⟨.inl (.inl upd_same), fun t nt => ?_⟩⟩
    have s3 : Same H2 (upd (upd H2 l (.lst (List.map V.int []))) t (.tup [])) := (same_new nl).trans (same_new nt)
    generalize e3 : upd (upd H2 l (.lst (List.map V.int []))) t (.tup []) = H3 at s3 ⊢
    have ht3 : SqT K H3 t [] := by rw [← e3]; exact .inl (.inl upd_same)
    have hx3 := s3 _ _ hx2
    refine ⟨.ref x, rfl, x, a.c_Sky, dx, _, rfl, hx3, T.cl_Sky, T.n_Sky__stars, (by show 1 < 1000; decide), ?_⟩
    -- self._camera = camera
    generalize e4 : upd H3 x (.ins a.c_Sky dx (putF "_stars" (.ref t) (putF "_side" (.int n) []))) = H4
    have hx4 : H4 x = some (.ins a.c_Sky dx (putF "_stars" (.ref t) (putF "_side" (.int n) []))) := by rw [← e4]; exact upd_same
    have ht4 : SqT K H4 t [] := by rw [← e4]; exact sqT_ins hx3 ht3
    have hc4 : SqT K H4 c (cam.map V.int) := by rw [← e4]; exact sqT_ins hx3 (sqT_up s3 hc2)
    refine ⟨_, rfl, .ref x, rfl, x, a.c_Sky, dx, _, rfl, hx4, T.cl_Sky, T.n_Sky__camera, skyF_two n t, ?_⟩
    refine k _ ⟨dx, t, c, upd_same, sqT_ins hx4 ht4, sqT_ins hx4 hc4⟩ (fun b o hb hn => ?_)
    rw [upd_ne hn, ← e4, upd_ne hn]
    refine s3 _ _ ?_
    rw [← e2, upd_ne hn]
    exact s1 _ _ hb

theorem ok_Sky_side (T : Txt P K mg a) : FnOk P w K mg base CX0 1 a.f_Sky_side a.fd_Sky_side ["self"] (spOfSide K a.c_Sky) := by
  refine T.F_Sky_side.ok sc_Sky_side (fun vs H Q E h => ?_) (fun cdv A outer s H vs Q E hr h => ?_)
  · obtain ⟨p, n, st, cam, rfl, _⟩ := h
    rfl
  · obtain ⟨p, n, st, cam, rfl, ⟨dx, ts, tc, h1, _⟩, k⟩ := h
    refine ⟨_, (pss_one (ps_ret (pe_fld (pv 0) rfl))), ?_⟩
    exact ⟨.ref p, rfl, p, a.c_Sky, dx, _, _, rfl, h1, T.cl_Sky, T.n_Sky__side, skyF_side n ts tc, k⟩

theorem ok_check_attitude (T : Txt P K mg a) : FnOk P w K mg base (L2.CX P w) 3 a.f_check_attitude a.fd_check_attitude ["sky", "attitude"] (spAsk K a.c_Sky a.c_InvalidAttitude "attitude" isPose) := by
  refine T.F_check_attitude.okX sc_check_attitude (fun vs H Q E h => ?_) (fun cdv A outer s H vs Q E hr h => ?_)
  · obtain ⟨p, q, n, st, cam, ns, rfl, _⟩ := h
    rfl
  · obtain ⟨p, q, n, st, cam, ns, rfl, hK, hq, k1, k2⟩ := h
    refine ⟨_, (pss_one (ps_if (pt_not (pt_val (pe_call (ok_is_pose T) (hr.mono (by decide)) (by rfl) T.m_is_pose T.F_is_pose.kp T.b_is_pose .nil pass0 (pa_cons (pe_prop (pv 0) T.cl_Sky T.p_Sky_side (ok_Sky_side T) (hr.mono (by decide)) T.b_Sky_side .nil pass0 rfl) (pa_cons (pv 1) pa_nil))))) (pss_one (ps_raiseS rfl T.S_InvalidAttitude hr (takes_of rfl rfl rfl rfl) (by exact (pa_cons (pv 1) pa_nil)))) pss_nil)), ?_⟩
    obtain ⟨dx, ts, tc, h1, _⟩ := id hK
    refine ⟨.ref p, rfl, p, dx, _, rfl, h1, p, n, st, cam, rfl, hK, ?_⟩
    refine ⟨_, rfl, n, q, ns, rfl, hq, _, rfl, ?_⟩
    cases e : isPose n ns with
    | true => exact iteF (k1 e)
    | false => exact iteT ⟨_, rfl, _, rfl, fun d hd => k2 e d _ (same_new hd) upd_same⟩

theorem ok__is_command (T : Txt P K mg a) : FnOk P w K mg base CX0 1 a.f__is_command a.fd__is_command ["side", "command"] (spIs K isCmd) := by
  refine T.F__is_command.ok sc__is_command (fun vs H Q E h => ?_) (fun cdv A outer s H vs Q E hr h => ?_)
  · obtain ⟨n, p, ns, rfl, _⟩ := h
    rfl
  · obtain ⟨n, p, ns, rfl, hS, k⟩ := h
    refine ⟨_, (pss_cons (ps_if (pt_cmpR op_ne (pe_callB call_len_seq (by rfl) T.z_len (by decide +kernel) (pa_cons (pv 1) pa_nil)) pe_int (nomark _)) (pss_one (ps_ret pe_bl)) pss_nil)
      (pss_cons (ps_asg (pv 1) (pg_tup rfl (pgs_cons (pg_name (i := 2) sc__is_command.nd rfl (.inl rfl)) (pgs_cons (pg_name (i := 3) sc__is_command.nd rfl (.inl rfl)) (pgs_cons (pg_name (i := 4) sc__is_command.nd rfl (.inl rfl)) pgs_nil)))))
      (pss_one (ps_ret (pe_and (pe_cmpR op_lt (pe_callB call_abs (by rfl) T.z_abs (by decide +kernel) (pa_cons (pv 2) pa_nil)) (pv 0) (nomark _)) (pe_and (pe_cmpR op_lt (pe_callB call_abs (by rfl) T.z_abs (by decide +kernel) (pa_cons (pv 3) pa_nil)) (pv 0) (nomark _)) (pe_one (pe_chain op_le op_le pe_int (pv 4) pe_int)))))))), ?_⟩
    refine ⟨.ref p, rfl, p, _, rfl, .inr hS, rfl, _, rfl, ite2 (fun hg => ?_) (fun hg => ?_)⟩
    · have e : isCmd n ns = false := cmd_len (by have z := int_ne hg; rw [List.length_map] at z; exact z)
      exact e ▸ k
    · obtain ⟨x, y, q, rfl⟩ := of3 (by have z := int_eq hg; rw [List.length_map] at z; exact z)
      refine ⟨.ref p, rfl, p, _, rfl, hS, rfl, _, _, rfl, _, _, rfl, _, _, rfl, rfl, ?_⟩
      have fin : ∀ b : Bool, isCmd n [x, y, q] = b → Q (.bl b) H := fun b e => e ▸ k
      have no : ∀ {c : Prop} [Decidable c], ¬ (decide c = true) → ¬ c := fun h z => h (decide_eq_true z)
      have F : (¬ (-n < x ∧ x < n ∧ -n < y ∧ y < n ∧ 0 ≤ q ∧ q ≤ 3)) → Q (.bl false) H := fun z => fin _ (decide_eq_false z)
      refine ⟨_, rfl, x, rfl, _, rfl, _, _, rfl, rfl, _, rfl, ite2 (fun h1 => ?_) (fun h1 => F fun z => h1 (decide_eq_true (by split <;> omega)))⟩
      refine ⟨_, rfl, y, rfl, _, rfl, _, _, rfl, rfl, _, rfl, ite2 (fun h2 => ?_) (fun h2 => F fun z => h2 (decide_eq_true (by split <;> omega)))⟩
      refine ⟨_, rfl, _, _, rfl, rfl, _, rfl, ite2 (fun h5 => ?_) (fun h5 => F fun z => h5 (decide_eq_true z.2.2.2.2.1))⟩
      refine ⟨_, _, rfl, rfl, ?_⟩
      refine fin _ ?_
      show decide _ = decide _
      have a1 : (if x < 0 then -x else x) < n := of_decide_eq_true h1
      have a2 : (if y < 0 then -y else y) < n := of_decide_eq_true h2
      have a5 := of_decide_eq_true h5
      have b1 : -n < x ∧ x < n := by split at a1 <;> omega
      have b2 : -n < y ∧ y < n := by split at a2 <;> omega
      by_cases z : q ≤ 3
      · rw [decide_eq_true z, decide_eq_true ⟨b1.1, b1.2, b2.1, b2.2, a5, z⟩]
      · rw [decide_eq_false z, decide_eq_false (fun w => z w.2.2.2.2.2)]

theorem ok_check_command (T : Txt P K mg a) : FnOk P w K mg base (L2.CX P w) 3 a.f_check_command a.fd_check_command ["sky", "command"] (spAsk K a.c_Sky a.c_InvalidCommand "command" isCmd) := by
  refine T.F_check_command.okX sc_check_command (fun vs H Q E h => ?_) (fun cdv A outer s H vs Q E hr h => ?_)
  · obtain ⟨p, q, n, st, cam, ns, rfl, _⟩ := h
    rfl
  · obtain ⟨p, q, n, st, cam, ns, rfl, hK, hq, k1, k2⟩ := h
    refine ⟨_, (pss_one (ps_if (pt_not (pt_val (pe_call (ok__is_command T) (hr.mono (by decide)) (by rfl) T.m__is_command T.F__is_command.kp T.b__is_command .nil pass0 (pa_cons (pe_prop (pv 0) T.cl_Sky T.p_Sky_side (ok_Sky_side T) (hr.mono (by decide)) T.b_Sky_side .nil pass0 rfl) (pa_cons (pv 1) pa_nil))))) (pss_one (ps_raiseS rfl T.S_InvalidCommand hr (takes_of rfl rfl rfl rfl) (by exact (pa_cons (pv 1) pa_nil)))) pss_nil)), ?_⟩
    obtain ⟨dx, ts, tc, h1, _⟩ := id hK
    refine ⟨.ref p, rfl, p, dx, _, rfl, h1, p, n, st, cam, rfl, hK, ?_⟩
    refine ⟨_, rfl, n, q, ns, rfl, hq, _, rfl, ?_⟩
    cases e : isCmd n ns with
    | true => exact iteF (k1 e)
    | false => exact iteT ⟨_, rfl, _, rfl, fun d hd => k2 e d _ (same_new hd) upd_same⟩

theorem ok_check_motion (T : Txt P K mg a) : FnOk P w K mg base (L2.CX P w) 3 a.f_check_motion a.fd_check_motion ["sky", "motion"] (spAsk K a.c_Sky a.c_InvalidMotion "motion" isPose) := by
  refine T.F_check_motion.okX sc_check_motion (fun vs H Q E h => ?_) (fun cdv A outer s H vs Q E hr h => ?_)
  · obtain ⟨p, q, n, st, cam, ns, rfl, _⟩ := h
    rfl
  · obtain ⟨p, q, n, st, cam, ns, rfl, hK, hq, k1, k2⟩ := h
    refine ⟨_, (pss_one (ps_if (pt_not (pt_val (pe_call (ok_is_pose T) (hr.mono (by decide)) (by rfl) T.m_is_pose T.F_is_pose.kp T.b_is_pose .nil pass0 (pa_cons (pe_prop (pv 0) T.cl_Sky T.p_Sky_side (ok_Sky_side T) (hr.mono (by decide)) T.b_Sky_side .nil pass0 rfl) (pa_cons (pv 1) pa_nil))))) (pss_one (ps_raiseS rfl T.S_InvalidMotion hr (takes_of rfl rfl rfl rfl) (by exact (pa_cons (pv 1) pa_nil)))) pss_nil)), ?_⟩
    obtain ⟨dx, ts, tc, h1, _⟩ := id hK
    refine ⟨.ref p, rfl, p, dx, _, rfl, h1, p, n, st, cam, rfl, hK, ?_⟩
    refine ⟨_, rfl, n, q, ns, rfl, hq, _, rfl, ?_⟩
    cases e : isPose n ns with
    | true => exact iteF (k1 e)
    | false => exact iteT ⟨_, rfl, _, rfl, fun d hd => k2 e d _ (same_new hd) upd_same⟩

theorem ok_check_two (T : Txt P K mg a) : FnOk P w K mg base (L2.CX P w) 4 a.f_check_two a.fd_check_two ["sky", "one", "other"] (spAsk2 K a.c_Sky a.c_InvalidAttitude) := by
  refine T.F_check_two.okX sc_check_two (fun vs H Q E h => ?_) (fun cdv A outer s H vs Q E hr h => ?_)
  · obtain ⟨p, q, r, n, st, cam, ns, ms, rfl, _⟩ := h
    rfl
  · obtain ⟨p, q, r, n, st, cam, ns, ms, rfl, hK, hq, hm, k1, k2, k3⟩ := h
    refine ⟨_, (pss_cons (ps_expr (pe_call (ok_check_attitude T) (hr.mono (by decide)) (by rfl) T.m_check_attitude T.F_check_attitude.kp T.b_check_attitude .nil (passes_call (takes_of rfl rfl rfl rfl) (fun _ _ _ _ h => h)) (pa_cons (pv 0) (pa_cons (pv 1) pa_nil))))
      (pss_one (ps_expr (pe_call (ok_check_attitude T) (hr.mono (by decide)) (by rfl) T.m_check_attitude T.F_check_attitude.kp T.b_check_attitude .nil (passes_call (takes_of rfl rfl rfl rfl) (fun _ _ _ _ h => h)) (pa_cons (pv 0) (pa_cons (pv 2) pa_nil)))))), ?_⟩
    refine ⟨.ref p, rfl, .ref q, rfl, p, q, n, st, cam, ns, rfl, hK, hq, fun e => ?_, fun e d H' s1 h1 => k2 e d H' s1 h1⟩
    exact ⟨.ref p, rfl, .ref r, rfl, p, r, n, st, cam, ms, rfl, hK, hm, fun e2 => k1 e e2, fun e2 d H' s1 h1 => k3 e e2 d H' s1 h1⟩

theorem ok__nearest (T : Txt P K mg a) : FnOk P w K mg base CX0 1 a.f__nearest a.fd__nearest ["side", "part"] spNear := by
  refine T.F__nearest.ok sc__nearest (fun vs H Q E h => ?_) (fun cdv A outer s H vs Q E hr h => ?_)
  · obtain ⟨n, i, rfl, _⟩ := h
    rfl
  · obtain ⟨n, i, rfl, hn, k⟩ := h
    refine ⟨_, (pss_cons (ps_set (i := 2) sc__nearest.nd rfl (.inl rfl) (pe_op op_fdiv (pv 0) pe_int))
      (pss_one (ps_ret (pe_op op_sub (pe_op op_mod (pe_op op_add (pv 1) (pv 2)) (pv 0)) (pv 2))))), ?_⟩
    exact ⟨_, rfl, _, _, rfl, rfl, ⟨by decide, by decide⟩, _, rfl, _, rfl, _, _, rfl, rfl, _, rfl, _, _, rfl, rfl, hn, _, rfl, _, _, rfl, rfl, k⟩

theorem ok_commanded (T : Txt P K mg a) : FnOk P w K mg base (L2.CX P w) 4 a.f_commanded a.fd_commanded ["sky", "attitude", "command"] (spDone K a.c_Sky a.c_InvalidAttitude a.c_InvalidCommand "command" isCmd fun n ns ms => comp n ms ns) := by
  refine T.F_commanded.okX sc_commanded (fun vs H Q E h => ?_) (fun cdv A outer s H vs Q E hr h => ?_)
  · obtain ⟨p, q, r, n, st, cam, ns, ms, rfl, _⟩ := h
    rfl
  · obtain ⟨p, q, r, n, st, cam, ns, ms, rfl, hK, hn, hq, hm, k1, k2, k3⟩ := h
    refine ⟨_, (pss_cons (ps_expr (pe_call (ok_check_attitude T) (hr.mono (by decide)) (by rfl) T.m_check_attitude T.F_check_attitude.kp T.b_check_attitude .nil (passes_call (takes_of rfl rfl rfl rfl) (fun _ _ _ _ h => h)) (pa_cons (pv 0) (pa_cons (pv 1) pa_nil))))
      (pss_cons (ps_expr (pe_call (ok_check_command T) (hr.mono (by decide)) (by rfl) T.m_check_command T.F_check_command.kp T.b_check_command .nil (passes_call (takes_of rfl rfl rfl rfl) (fun _ _ _ _ h => h)) (pa_cons (pv 0) (pa_cons (pv 2) pa_nil))))
      (pss_one (ps_ret (pe_call (ok_composed T) (hr.mono (by decide)) (by rfl) T.m_composed T.F_composed.kp T.b_composed .nil pass0 (pa_cons (pe_prop (pv 0) T.cl_Sky T.p_Sky_side (ok_Sky_side T) (hr.mono (by decide)) T.b_Sky_side .nil pass0 rfl) (pa_cons (pv 2) (pa_cons (pv 1) pa_nil)))))))), ?_⟩
    refine ⟨.ref p, rfl, .ref q, rfl, p, q, n, st, cam, ns, rfl, hK, hq, fun e => ?_, fun e d H' s1 h1 => k2 e d H' s1 h1⟩
    refine ⟨.ref p, rfl, .ref r, rfl, p, r, n, st, cam, ms, rfl, hK, hm, fun e2 => ?_, fun e2 d H' s1 h1 => k3 e e2 d H' s1 h1⟩
    obtain ⟨dx, ts, tc, h1, _⟩ := id hK
    refine ⟨.ref p, rfl, p, dx, _, rfl, h1, p, n, st, cam, rfl, hK, ?_⟩
    obtain ⟨x, y, z, rfl, _⟩ := pose_form e
    obtain ⟨i, j, l, rfl, _⟩ := cmd_form e2
    exact ⟨_, rfl, _, rfl, n, i, j, l, x, y, z, r, q, rfl, hn, hm, hq, fun H' p' s' t' => k1 e e2 H' p' s' t'⟩

theorem ok_moved (T : Txt P K mg a) : FnOk P w K mg base (L2.CX P w) 4 a.f_moved a.fd_moved ["sky", "attitude", "motion"] (spDone K a.c_Sky a.c_InvalidAttitude a.c_InvalidMotion "motion" isPose fun n ns ms => comp n ns ms) := by
  refine T.F_moved.okX sc_moved (fun vs H Q E h => ?_) (fun cdv A outer s H vs Q E hr h => ?_)
  · obtain ⟨p, q, r, n, st, cam, ns, ms, rfl, _⟩ := h
    rfl
  · obtain ⟨p, q, r, n, st, cam, ns, ms, rfl, hK, hn, hq, hm, k1, k2, k3⟩ := h
    refine ⟨_, (pss_cons (ps_expr (pe_call (ok_check_attitude T) (hr.mono (by decide)) (by rfl) T.m_check_attitude T.F_check_attitude.kp T.b_check_attitude .nil (passes_call (takes_of rfl rfl rfl rfl) (fun _ _ _ _ h => h)) (pa_cons (pv 0) (pa_cons (pv 1) pa_nil))))
      (pss_cons (ps_expr (pe_call (ok_check_motion T) (hr.mono (by decide)) (by rfl) T.m_check_motion T.F_check_motion.kp T.b_check_motion .nil (passes_call (takes_of rfl rfl rfl rfl) (fun _ _ _ _ h => h)) (pa_cons (pv 0) (pa_cons (pv 2) pa_nil))))
      (pss_one (ps_ret (pe_call (ok_composed T) (hr.mono (by decide)) (by rfl) T.m_composed T.F_composed.kp T.b_composed .nil pass0 (pa_cons (pe_prop (pv 0) T.cl_Sky T.p_Sky_side (ok_Sky_side T) (hr.mono (by decide)) T.b_Sky_side .nil pass0 rfl) (pa_cons (pv 1) (pa_cons (pv 2) pa_nil)))))))), ?_⟩
    refine ⟨.ref p, rfl, .ref q, rfl, p, q, n, st, cam, ns, rfl, hK, hq, fun e => ?_, fun e d H' s1 h1 => k2 e d H' s1 h1⟩
    refine ⟨.ref p, rfl, .ref r, rfl, p, r, n, st, cam, ms, rfl, hK, hm, fun e2 => ?_, fun e2 d H' s1 h1 => k3 e e2 d H' s1 h1⟩
    obtain ⟨dx, ts, tc, h1, _⟩ := id hK
    refine ⟨.ref p, rfl, p, dx, _, rfl, h1, p, n, st, cam, rfl, hK, ?_⟩
    obtain ⟨x, y, z, rfl, _⟩ := pose_form e
    obtain ⟨i, j, l, rfl, _⟩ := pose_form e2
    exact ⟨_, rfl, _, rfl, n, x, y, z, i, j, l, q, r, rfl, hn, hq, hm, fun H' p' s' t' => k1 e e2 H' p' s' t'⟩

theorem ok_apart (T : Txt P K mg a) : FnOk P w K mg base (L2.CX P w) 5 a.f_apart a.fd_apart ["sky", "one", "other"] (spApart K a.c_Sky a.c_InvalidAttitude) := by
  refine T.F_apart.okX sc_apart (fun vs H Q E h => ?_) (fun cdv A outer s H vs Q E hr h => ?_)
  · obtain ⟨p, q, r, n, st, cam, ns, ms, rfl, _⟩ := h
    rfl
  · obtain ⟨p, q, r, n, st, cam, ns, ms, rfl, hK, hn, hq, hm, k1, k2, k3⟩ := h
    refine ⟨_, (pss_cons (ps_expr (pe_call (ok_check_two T) (hr.mono (by decide)) (by rfl) T.m_check_two T.F_check_two.kp T.b_check_two .nil (passes_call (takes_of rfl rfl rfl rfl) (fun _ _ _ _ h => h)) (pa_cons (pv 0) (pa_cons (pv 1) (pa_cons (pv 2) pa_nil)))))
      (pss_cons (ps_if (pt_cmpR op_ne (pe_ix ix_seq (pv 1) pe_int (fun _ _ => rfl)) (pe_ix ix_seq (pv 2) pe_int (fun _ _ => rfl)) (nomark _)) (pss_one (ps_ret pe_non)) pss_nil)
      (pss_one (ps_ret (pe_callB (call_max2 rfl) (by rfl) T.z_max (by decide +kernel) (pa_cons (pe_callB call_abs (by rfl) T.z_abs (by decide +kernel) (pa_cons (pe_call (ok__nearest T) (hr.mono (by decide)) (by rfl) T.m__nearest T.F__nearest.kp T.b__nearest .nil pass0 (pa_cons (pe_prop (pv 0) T.cl_Sky T.p_Sky_side (ok_Sky_side T) (hr.mono (by decide)) T.b_Sky_side .nil pass0 rfl) (pa_cons (pe_op op_sub (pe_ix ix_seq (pv 1) pe_int (fun _ _ => rfl)) (pe_ix ix_seq (pv 2) pe_int (fun _ _ => rfl))) pa_nil))) pa_nil)) (pa_cons (pe_callB call_abs (by rfl) T.z_abs (by decide +kernel) (pa_cons (pe_call (ok__nearest T) (hr.mono (by decide)) (by rfl) T.m__nearest T.F__nearest.kp T.b__nearest .nil pass0 (pa_cons (pe_prop (pv 0) T.cl_Sky T.p_Sky_side (ok_Sky_side T) (hr.mono (by decide)) T.b_Sky_side .nil pass0 rfl) (pa_cons (pe_op op_sub (pe_ix ix_seq (pv 1) pe_int (fun _ _ => rfl)) (pe_ix ix_seq (pv 2) pe_int (fun _ _ => rfl))) pa_nil))) pa_nil)) pa_nil))))))), ?_⟩
    refine ⟨.ref p, rfl, .ref q, rfl, .ref r, rfl, p, q, r, n, st, cam, ns, ms, rfl, hK, hq, hm, fun e1 e2 => ?_, k2, k3⟩
    have k := k1 e1 e2
    obtain ⟨dx, ts, tc, h1, _⟩ := id hK
    obtain ⟨i, j, l, rfl, _⟩ := pose_form e1
    obtain ⟨x, y, z, rfl, _⟩ := pose_form e2
    refine ⟨.ref q, rfl, .inr (.inl ⟨q, _, 2, .int l, rfl, rfl, hq, rfl, .ref r, rfl, .inr (.inl ⟨r, _, 2, .int z, rfl, rfl, hm, rfl, rfl, _, rfl, ite2 (fun hg => ?_) (fun hg => ?_)⟩)⟩)⟩
    · have e : l ≠ z := int_ne hg
      have e' : apartI n [i, j, l] [x, y, z] = none := if_neg e
      rw [e'] at k
      exact k
    · have e : l = z := int_eq hg
      have e' : apartI n [i, j, l] [x, y, z] = some (imax (iabs (near n (i - x))) (iabs (near n (j - y)))) := if_pos e
      rw [e'] at k
      refine ⟨.ref p, rfl, p, dx, _, rfl, h1, p, n, st, cam, rfl, hK, ?_⟩
      refine ⟨.ref q, rfl, .inr (.inl ⟨q, _, 0, .int i, rfl, rfl, hq, rfl, .ref r, rfl, .inr (.inl ⟨r, _, 0, .int x, rfl, rfl, hm, rfl, _, _, rfl, rfl, n, i - x, rfl, hn, _, rfl, ?_⟩)⟩)⟩
      refine ⟨.ref p, rfl, p, dx, _, rfl, h1, p, n, st, cam, rfl, hK, ?_⟩
      refine ⟨.ref q, rfl, .inr (.inl ⟨q, _, 1, .int j, rfl, rfl, hq, rfl, .ref r, rfl, .inr (.inl ⟨r, _, 1, .int y, rfl, rfl, hm, rfl, _, _, rfl, rfl, n, j - y, rfl, hn, _, rfl, ?_⟩)⟩)⟩
      exact ⟨_, _, rfl, k⟩

theorem ok_are_far (T : Txt P K mg a) : FnOk P w K mg base (L2.CX P w) 6 a.f_are_far a.fd_are_far ["sky", "one", "other", "slack"] (spFar K a.c_Sky a.c_InvalidAttitude) := by
  refine T.F_are_far.okX sc_are_far (fun vs H Q E h => ?_) (fun cdv A outer s H vs Q E hr h => ?_)
  · obtain ⟨p, q, r, n, z, st, cam, ns, ms, rfl, _⟩ := h
    rfl
  · obtain ⟨p, q, r, n, z, st, cam, ns, ms, rfl, hK, hn, hq, hm, k1, k2, k3⟩ := h
    refine ⟨_, (pss_cons (ps_set (i := 4) sc_are_far.nd rfl (.inl rfl) (pe_call (ok_apart T) (hr.mono (by decide)) (by rfl) T.m_apart T.F_apart.kp T.b_apart .nil (passes_call (takes_of rfl rfl rfl rfl) (fun _ _ _ _ h => h)) (pa_cons (pv 0) (pa_cons (pv 1) (pa_cons (pv 2) pa_nil)))))
      (pss_one (ps_ret (pe_or (pe_cmpR op_isN (pv 4) pe_non (nomark _)) (pe_one (pe_cmpR op_gt (pv 4) (pv 3) (nomark _))))))), ?_⟩
    refine ⟨.ref p, rfl, .ref q, rfl, .ref r, rfl, p, q, r, n, st, cam, ns, ms, rfl, hK, hn, hq, hm, fun e1 e2 => ?_, k2, k3⟩
    have k := k1 e1 e2
    unfold farI at k
    cases e : apartI n ns ms with
    | none =>
      rw [e] at k
      exact ⟨_, rfl, rfl, _, rfl, iteT k⟩
    | some i =>
      rw [e] at k
      exact ⟨_, rfl, rfl, _, rfl, iteF ⟨_, rfl, _, rfl, _, _, rfl, rfl, k⟩⟩

theorem ok__law_row (T : Txt P K mg a) : FnOk P w K mg base CX0 1 a.f__law_row a.fd__law_row ["cell", "many"] (spRow K) := by
  refine T.F__law_row.ok sc__law_row (fun vs H Q E h => ?_) (fun cdv A outer s H vs Q E hr h => ?_)
  · obtain ⟨c, m, rfl, _⟩ := h
    rfl
  · obtain ⟨c, many, rfl, h0, h1, q⟩ := h
    refine ⟨_, (pss_cons (ps_set (i := 2) sc__law_row.nd rfl (.inl rfl) (pe_lst pa_nil))
      (pss_cons (ps_set (i := 3) sc__law_row.nd rfl (.inl rfl) pe_int)
      (C8.pss_cut (ps_if (pt_cmpR op_ge (pe_callB call_abs (by rfl) T.z_abs (by decide +kernel) (pa_cons (pv 0) pa_nil)) (pe_op op_pow pe_int pe_int) (nomark _)) (pss_one (ps_set (i := 3) sc__law_row.nd rfl (.inl rfl) (pe_callB call_abs (by rfl) T.z_abs (by decide +kernel) (pa_cons (pv 0) pa_nil)))) pss_nil)
      (pss_cons (ps_set (i := 4) sc__law_row.nd rfl (.inl rfl) (pe_op op_mod (pe_callTy call_int1 (by rfl) T.z_int (by decide +kernel) (pa_cons (pe_callB call_abs (by rfl) T.z_abs (by decide +kernel) (pa_cons (pv 0) pa_nil)) pa_nil)) pe_int))
      (pss_cons (ps_for PassesOwn.never rfl (pi_range1 (by rfl) T.z_range (pa_cons (pv 1) pa_nil)) (pg_name (i := 5) sc__law_row.nd rfl (.inl rfl)) (pss_cons (ps_set (i := 4) sc__law_row.nd rfl (.inl rfl) (pe_op op_mod (pe_callTy call_int1 (by rfl) T.z_int (by decide +kernel) (pa_cons (pe_op op_add (pe_op op_mul (pe_op op_add (pv 4) pe_int) pe_int) (pe_op op_mul pe_int (pv 5))) pa_nil)) pe_int))
      (pss_one (ps_if (pt_cmpR op_gt (pv 3) pe_int (nomark _)) (pss_cons (ps_expr (pe_bm PySem.F.plainAttrs_list PySem.F.slot_list_append PySem.F.type_list_append mt_append (pv 2) (pa_cons (pe_op op_mod (pe_callTy call_int1 (by rfl) T.z_int (by decide +kernel) (pa_cons (pv 3) pa_nil)) pe_int) pa_nil)))
      (pss_one (ps_set (i := 3) sc__law_row.nd rfl (.inl rfl) (pe_op op_fdiv (pv 3) pe_int)))) (pss_one (ps_expr (pe_bm PySem.F.plainAttrs_list PySem.F.slot_list_append PySem.F.type_list_append mt_append (pv 2) (pa_cons (pe_op op_mod (pe_callTy call_int1 (by rfl) T.z_int (by decide +kernel) (pa_cons (pe_op op_fdiv (pv 4) pe_int) pa_nil)) pe_int) pa_nil))))))))
      (pss_one (ps_ret (pv 2)))))))), ?_⟩
    refine ⟨Nat.zero_le _, fun o no => ?_⟩
    refine ⟨fun σ' H' => ∃ r : Int, σ' = [some (.int c), some (.int many), some (.ref o), some (.int r), none, none] ∧ 0 ≤ r ∧ H' = upd H o (.lst []), ?_, ?_⟩
    · refine ⟨_, rfl, c, rfl, _, _, rfl, rfl, ⟨by decide, by decide, by decide⟩, _, _, rfl, rfl, _, rfl, ite2 (fun hg => ?_) (fun hg => ⟨0, rfl, by decide, rfl⟩)⟩
      exact ⟨_, rfl, c, rfl, _, rfl, by split <;> omega, rfl⟩
    · rintro σ' H' ⟨r, rfl, hr0, rfl⟩
      refine ⟨_, rfl, c, rfl, .inl ⟨_, rfl, _, _, rfl, rfl, (by show (0 : Int) < 2147483647; decide), ?_⟩⟩
      refine ⟨_, rfl, many, rfl, by omega, by omega, for_range (lo := 0) (n := many.toNat) (fun i σ H2 => ∃ (r s : Int) (k : Option V) (ns : List Int), σ = [some (.int c), some (.int many), some (.ref o), some (.int r), some (.int s), k] ∧ 0 ≤ r ∧ Same H H2 ∧ H2 o = some (.lst (ns.map V.int)) ∧ ns.length = i ∧ ∀ n ∈ ns, Num n)
        ⟨r, _, none, [], rfl, hr0, same_new no, upd_same, rfl, fun n hn => by cases hn⟩ ?_ ?_⟩
      · rintro i σ H2 hi ⟨r, s, k, ns, rfl, hr0, s2, eo, el, hN⟩
        refine ⟨_, rfl, _, _, rfl, rfl, _, _, rfl, rfl, .inr (by constructor <;> decide), _, rfl, _, _, rfl, rfl, .inl (by constructor <;> decide), _, _, rfl, rfl, .inl ⟨_, rfl, _, _, rfl, rfl, (by show (0 : Int) < 2147483647; decide), ?_⟩⟩
        have hlen : (ns.map V.int).length < sizeLine := by
          rw [List.length_map]
          exact sizeN (by omega)
        have fin : ∀ (z r' s' : Int), 0 ≤ r' → Num z → ∃ (r s : Int) (k : Option V) (ns' : List Int), [some (V.int c), some (.int many), some (.ref o), some (.int r'), some (.int s'), some (V.int (0 + (i : Nat)))] = [some (V.int c), some (.int many), some (.ref o), some (.int r), some (.int s), k] ∧ 0 ≤ r ∧ Same H (upd H2 o (.lst (ns.map V.int ++ [V.int z]))) ∧ (upd H2 o (.lst (ns.map V.int ++ [V.int z]))) o = some (.lst (ns'.map V.int)) ∧ ns'.length = i + 1 ∧ ∀ n ∈ ns', Num n := fun z r' s' hr' hz => by
          refine ⟨r', s', _, ns ++ [z], rfl, hr', same_put no s2, ?_, ?_, fun n hn => ?_⟩
          · rw [upd_same, List.map_append]
            rfl
          · rw [List.length_append, el]
            rfl
          · rcases List.mem_append.mp hn with hn | hn
            · exact hN n hn
            · rw [List.mem_singleton.mp hn]
              exact hz
        refine ⟨_, rfl, _, _, rfl, rfl, _, rfl, ite2 (fun hg => ?_) (fun hg => ?_)⟩
        · refine ⟨.ref o, rfl, .inl ⟨rfl, _, .inl (.inl eo)⟩, _, rfl, .inl ⟨_, rfl, _, _, rfl, rfl, (by show (0 : Int) < 1009; decide), o, _, _, rfl, rfl, eo, hlen, ?_⟩⟩
          refine ⟨_, rfl, _, _, rfl, rfl, ⟨by decide, by decide⟩, ?_⟩
          exact fin _ _ _ (Int.ediv_nonneg hr0 (by decide)) ⟨Int.emod_nonneg _ (by decide), Int.emod_lt_of_pos _ (by decide)⟩
        · refine ⟨.ref o, rfl, .inl ⟨rfl, _, .inl (.inl eo)⟩, _, rfl, _, _, rfl, rfl, ⟨by decide, by decide⟩, .inl ⟨_, rfl, _, _, rfl, rfl, (by show (0 : Int) < 1009; decide), o, _, _, rfl, rfl, eo, hlen, ?_⟩⟩
          exact fin _ _ _ hr0 ⟨Int.emod_nonneg _ (by decide), Int.emod_lt_of_pos _ (by decide)⟩
      · rintro σ H2 ⟨r, s, k, ns, rfl, hr0, s2, eo, el, hN⟩
        exact ⟨_, rfl, q H2 o ns s2 no eo (by omega) hN⟩

theorem ok__law_numbers (T : Txt P K mg a) : FnOk P w K mg base CX0 2 a.f__law_numbers a.fd__law_numbers ["script", "many"] (spNums K) := by
  refine T.F__law_numbers.ok sc__law_numbers (fun vs H Q E h => ?_) (fun cdv A outer s H vs Q E hr h => ?_)
  · obtain ⟨p, xs, m, rfl, _⟩ := h
    rfl
  · obtain ⟨b, xs, many, rfl, hS, hx, h0, h1, q⟩ := h
    refine ⟨_, (pss_cons (ps_set (i := 2) sc__law_numbers.nd rfl (.inl rfl) (pe_slice sl_list (pv 0) po_none (po_some pe_int)))
      (pss_cons (ps_set (i := 3) sc__law_numbers.nd rfl (.inl rfl) (pe_op op_add pe_int (pe_op op_fdiv (pv 1) (pe_callB (call_max2 rfl) (by rfl) T.z_max (by decide +kernel) (pa_cons pe_int (pa_cons (pe_callB call_len_seq (by rfl) T.z_len (by decide +kernel) (pa_cons (pv 2) pa_nil)) pa_nil))))))
      (pss_cons (ps_set (i := 4) sc__law_numbers.nd rfl (.inl rfl) (pe_lst pa_nil))
      (pss_cons (ps_for PassesOwn.never rfl (pi_list (pv 2)) (pg_name (i := 5) sc__law_numbers.nd rfl (.inl rfl)) (pss_one (ps_for PassesOwn.never rfl (pi_list (pe_call (ok__law_row T) (hr.mono (by decide)) (by rfl) T.m__law_row T.F__law_row.kp T.b__law_row .nil pass0 (pa_cons (pv 5) (pa_cons (pv 3) pa_nil)))) (pg_name (i := 6) sc__law_numbers.nd rfl (.inl rfl)) (pss_one (ps_expr (pe_bm PySem.F.plainAttrs_list PySem.F.slot_list_append PySem.F.type_list_append mt_append (pv 4) (pa_cons (pv 6) pa_nil)))))))
      (pss_cons (ps_while PassesOwn.never (pt_cmpR op_lt (pe_callB call_len_seq (by rfl) T.z_len (by decide +kernel) (pa_cons (pv 4) pa_nil)) (pv 1) (nomark _)) (pss_one (ps_expr (pe_bm PySem.F.plainAttrs_list PySem.F.slot_list_append PySem.F.type_list_append mt_append (pv 4) (pa_cons pe_int pa_nil)))))
      (pss_one (ps_ret (pe_slice sl_list (pv 4) po_none (po_some (pv 1)))))))))), ?_⟩
    refine ⟨.ref b, rfl, 63, rfl, b, xs.map V.int, rfl, hS, fun c nc => ?_⟩
    have ec : cutV (xs.map V.int) none (some 63) = xs.map V.int := by
      rw [show (63 : Int) = ((63 : Nat) : Int) from rfl, cut_to, List.take_of_length_le (by rw [List.length_map]; exact hx)]
    rw [ec]
    have sc1 := same_new (o := .lst (xs.map V.int)) nc
    refine ⟨_, rfl, .ref c, rfl, c, xs.map V.int, rfl, .inl (.inl (.inl upd_same)), _, _, rfl, ?_⟩
    rw [List.length_map]
    generalize hm : (if ((xs.length : Nat) : Int) > 1 then ((xs.length : Nat) : Int) else 1) = mx
    have hm1 : 1 ≤ mx := by rw [← hm]; split <;> omega
    have hm2 : mx ≤ 63 := by rw [← hm]; split <;> omega
    refine ⟨_, _, rfl, rfl, ⟨by omega, by omega⟩, _, _, rfl, rfl, Nat.zero_le _, fun o no => ?_⟩
    have hd0 : 0 ≤ many / mx := Int.ediv_nonneg h0 (by omega)
    have hd1 : many / mx ≤ many := Int.ediv_le_self _ h0
    have noc : o ≠ c := fun e => by rw [e, upd_same] at no; cases no
    have noH : H o = none := by rw [upd_ne noc] at no; exact no
    refine ⟨.ref c, rfl, c, rfl, ⟨xs.map V.int, .inl (.inl (by rw [upd_ne noc.symm]; exact upd_same))⟩, for_list (K := K) (a := c) (xs := xs.map V.int) (fun i σ H2 => ∃ (k5 k6 : Option V) (ns : List Int), σ = [some (.ref b), some (.int many), some (.ref c), some (.int (1 + many / mx)), some (.ref o), k5, k6] ∧ Same H H2 ∧ H2 c = some (.lst (xs.map V.int)) ∧ H2 o = some (.lst (ns.map V.int)) ∧ ns.length = i * (1 + many / mx).toNat ∧ ∀ n ∈ ns, Num n)
      ⟨none, none, [], rfl, sc1.trans (same_new no), by rw [upd_ne noc.symm]; exact upd_same, upd_same, by simp, fun n hn => by cases hn⟩ (fun i σ H2 _ ⟨_, _, _, _, _, e, _⟩ => .inl (.inl e)) ?_ ?_⟩
    · rintro i y σ H2 hi ⟨k5, k6, ns, rfl, s2, ec2, eo, el, hN⟩
      obtain ⟨z, hz, rfl⟩ := map_at hi
      have hil : i < xs.length := (List.getElem?_eq_some_iff.mp hz).1
      refine ⟨_, rfl, _, rfl, z, _, rfl, by omega, by omega, fun H3 p ms s3 np ep em hM => ?_⟩
      have npo : p ≠ o := fun e => by rw [e, eo] at np; cases np
      refine ⟨p, rfl, ⟨_, .inl (.inl ep)⟩, for_list (K := K) (a := p) (xs := ms.map V.int) (fun j σ H4 => ∃ (k6 : Option V) (ns : List Int), σ = [some (.ref b), some (.int many), some (.ref c), some (.int (1 + many / mx)), some (.ref o), some (.int z), k6] ∧ Same H H4 ∧ H4 c = some (.lst (xs.map V.int)) ∧ H4 p = some (.lst (ms.map V.int)) ∧ H4 o = some (.lst (ns.map V.int)) ∧ ns.length = i * (1 + many / mx).toNat + j ∧ ∀ n ∈ ns, Num n)
        ⟨k6, ns, rfl, s2.trans s3, s3 _ _ ec2, ep, s3 _ _ eo, el, hN⟩ (fun i σ H2 _ ⟨_, _, _, _, _, e, _⟩ => .inl (.inl e)) ?_ ?_⟩
      · rintro j y σ H4 hj ⟨k6, ns, rfl, s4, ec4, ep4, eo4, el4, hN4⟩
        obtain ⟨m, hm', rfl⟩ := map_at hj
        have hjl : j < ms.length := (List.getElem?_eq_some_iff.mp hm').1
        have nco : c ≠ o := noc.symm
        have hb1 : i * (1 + many / mx).toNat ≤ 63 * 1901 := Nat.mul_le_mul (by omega) (by omega)
        refine ⟨.ref o, rfl, .inl ⟨rfl, _, .inl (.inl eo4)⟩, _, rfl, o, _, _, rfl, rfl, eo4, ?_, ?_⟩
        · rw [List.length_map]
          exact sizeN (by omega)
        · refine ⟨_, ns ++ [m], rfl, same_put noH s4, by rw [upd_ne nco]; exact ec4, by rw [upd_ne npo]; exact ep4, by rw [upd_same, map_push], ?_, num_push hN4 (hM m (List.mem_of_getElem? hm'))⟩
          rw [List.length_append, el4]
          rfl
      · rintro σ H4 ⟨k6, ns, rfl, s4, ec4, ep4, eo4, el4, hN4⟩
        refine ⟨_, _, ns, rfl, s4, ec4, eo4, ?_, hN4⟩
        rw [el4, List.length_map, Nat.succ_mul]
        omega
    · rintro σ H2 ⟨k5, k6, ns, rfl, s2, ec2, eo, el, hN⟩
      have hb1 : (xs.map V.int).length * (1 + many / mx).toNat ≤ 63 * 1901 := Nat.mul_le_mul (by rw [List.length_map]; omega) (by omega)
      refine while_by (fun σ H3 => ∃ (ns : List Int), σ = [some (.ref b), some (.int many), some (.ref c), some (.int (1 + many / mx)), some (.ref o), k5, k6] ∧ Same H H3 ∧ H3 o = some (.lst (ns.map V.int)) ∧ ns.length ≤ 130000 ∧ ∀ n ∈ ns, Num n)
        (fun σ H3 => match H3 o with | some (.lst l) => many.toNat - l.length | _ => 0) ⟨ns, rfl, s2, eo, by omega, hN⟩ ?_ ?_
      · rintro σ H3 ⟨ns, rfl, s3, eo3, el3, hN3⟩
        refine ⟨.ref o, rfl, o, _, rfl, .inl (.inl (.inl eo3)), _, rfl, _, _, rfl, rfl, _, rfl, ite2 (fun hg => ?_) (fun hg => ?_)⟩
        · have hg' : (((ns.map V.int).length : Nat) : Int) < many := of_decide_eq_true hg
          rw [List.length_map] at hg'
          refine ⟨.ref o, rfl, .inl ⟨rfl, _, .inl (.inl eo3)⟩, o, _, _, rfl, rfl, eo3, ?_, ?_⟩
          · rw [List.length_map]
            exact sizeN (by omega)
          · refine ⟨⟨ns ++ [0], rfl, same_put noH s3, by rw [upd_same, map_push], by rw [List.length_append]; show ns.length + 1 ≤ _; omega, num_push hN3 ⟨by decide, by decide⟩⟩, ?_⟩
            rw [eo3, upd_same]
            show many.toNat - (ns.map V.int ++ [V.int 0]).length < many.toNat - (ns.map V.int).length
            rw [List.length_append, List.length_map]
            show many.toNat - (ns.length + 1) < _
            omega
        · have hg' : ¬ (((ns.map V.int).length : Nat) : Int) < many := fun z => hg (decide_eq_true z)
          rw [List.length_map] at hg'
          refine ⟨.ref o, rfl, _, rfl, many, rfl, o, _, rfl, .inl (.inl eo3), fun p np => ?_⟩
          rw [show many = ((many.toNat : Nat) : Int) by omega, cut_to, ← List.map_take]
          refine q _ p (ns.take many.toNat) (s3.trans (same_new np)) (s3.free np) upd_same ?_ (fun n hn => hN3 n (List.mem_of_mem_take hn))
          rw [List.length_take]
          omega
      · rintro σ H3 Q1 Q2 hQ ⟨v, e1, p, ys, e2, e3, m, e4, i, j, e5, e6, k, e7, e8⟩
        exact ⟨v, e1, p, ys, e2, e3, m, e4, i, j, e5, e6, k, e7, hQ _ _ e8⟩

theorem ok__law_rings (T : Txt P K mg a) : FnOk P w K mg base CX0 1 a.f__law_rings a.fd__law_rings ["side", "one", "other"] (spRings K) := by
  refine T.F__law_rings.ok sc__law_rings (fun vs H Q E h => ?_) (fun cdv A outer s H vs Q E hr h => ?_)
  · obtain ⟨n, i, b, c, d, p, q, rfl, _⟩ := h
    rfl
  · obtain ⟨n, ia, ib, ic, id', p, q, rfl, h4, h9, hv, hw, hp, hq, k⟩ := h
    have hu65 : (A.deeper (envOfC "_law_rings" (defScope s__law_rings) s.heap.objs.size a.f__law_rings cdv)).units + 65 < cLine := by
      have := hr.un
      omega
    refine ⟨_, (pss_cons (ps_set (i := 3) sc__law_rings.nd rfl (.inl rfl) (pe_lstM (pa_cons (pv 1) pa_nil)))
      (pss_cons (ps_for PassesOwn.never rfl (pi_range1 (by rfl) T.z_range (pa_cons (pv 0) pa_nil)) (pg_name (i := 4) sc__law_rings.nd rfl (.inl rfl)) (pss_cons (ps_if (pt_cmpR (op_inD hu65) (pv 2) (pv 3) (by rfl)) (pss_one (ps_ret (pv 4))) pss_nil)
      (pss_cons (ps_set (i := 5) sc__law_rings.nd rfl (.inl rfl) (pe_lstM pa_nil))
      (pss_cons (ps_for PassesOwn.never rfl (pi_list (pv 3)) (pg_tup rfl (pgs_cons (pg_name (i := 6) sc__law_rings.nd rfl (.inl rfl)) (pgs_cons (pg_name (i := 7) sc__law_rings.nd rfl (.inl rfl)) pgs_nil))) (pss_one (ps_for PassesOwn.never rfl (pi_list (pe_lstM (pa_cons (pe_un un_neg pe_int) (pa_cons pe_int (pa_cons pe_int pa_nil))))) (pg_name (i := 8) sc__law_rings.nd rfl (.inl rfl)) (pss_one (ps_for PassesOwn.never rfl (pi_list (pe_lstM (pa_cons (pe_un un_neg pe_int) (pa_cons pe_int (pa_cons pe_int pa_nil))))) (pg_name (i := 9) sc__law_rings.nd rfl (.inl rfl)) (pss_cons (ps_set (i := 10) sc__law_rings.nd rfl (.inl rfl) (pe_tupM (pa_cons (pe_op op_mod (pe_callTy call_int1 (by rfl) T.z_int (by decide +kernel) (pa_cons (pe_op op_add (pe_op op_add (pv 6) (pv 8)) (pv 0)) pa_nil)) (pv 0)) (pa_cons (pe_op op_mod (pe_callTy call_int1 (by rfl) T.z_int (by decide +kernel) (pa_cons (pe_op op_add (pe_op op_add (pv 7) (pv 9)) (pv 0)) pa_nil)) (pv 0)) pa_nil))))
      (pss_one (ps_if (pt_cmpR (op_notInD hu65) (pv 10) (pv 5) (by rfl)) (pss_one (ps_expr (pe_bm PySem.F.plainAttrs_list PySem.F.slot_list_append PySem.F.type_list_append mt_append (pv 5) (pa_cons (pv 10) pa_nil)))) pss_nil))))))))
      (pss_one (ps_set (i := 3) sc__law_rings.nd rfl (.inl rfl) (pv 5)))))))
      (pss_one (ps_ret (pv 0))))), ?_⟩
    have hn : 0 < n := by omega
    refine ⟨.ref p, rfl, (by show 1 ≤ sizeLine; decide), fun r0 H1 s1 _ e1 => ?_⟩
    refine ⟨_, rfl, n, rfl, by omega, by omega, for_range (lo := 0) (n := n.toNat) (fun m σ H2 => ∃ (rp : Addr) (vs : List V) (ps : List Pl) (k4 k5 k6 k7 k8 k9 k10 : Option V), σ = [some (.int n), some (.ref p), some (.ref q), some (.ref rp), k4, k5, k6, k7, k8, k9, k10] ∧ Same H H2 ∧ H2 rp = some (.lst vs) ∧ DpAll K H2 vs (ps.map dP) ∧ (∀ x : Pl, x ∈ ps ↔ Valid n x ∧ dist n ia ib x.1 x.2 ≤ (m : Int)) ∧ (m : Int) ≤ dist n ia ib ic id') ?_ ?_ ?_⟩
    · exact ⟨r0, [.ref p], [(ia, ib)], none, none, none, none, none, none, none, rfl, s1, e1, .cons (dp_ti (ns := [ia, ib]) (sqT_up s1 hp)) .nil, ring_start h4 h9 hv, by unfold dist imax; have := gap_nn n ia ic; have := gap_nn n ib id'; split <;> omega⟩
    · rintro m σ H2 hm ⟨rp, vs, ps, k4, k5, k6, k7, k8, k9, k10, rfl, s2, er, dr, hps, hmd⟩
      have hq2 : Dp K H2 (.ref q) (dP (ic, id')) := dp_ti (ns := [ic, id']) (sqT_up s2 hq)
      -- if other in ring: return many
      refine ⟨.ref q, rfl, .ref rp, rfl, _, _, hq2, dp_l er dr, shaped_of (lay_ti _) (by decide), shaped_of (lay_pl ps) (by decide), _, rfl, ?_⟩
      rw [any_pair]
      refine ite2 (fun hg => ?_) (fun hg => ?_)
      · have hin := (hps _).mp (of_decide_eq_true hg)
        refine ⟨_, rfl, ?_⟩
        have z : dist n ia ib ic id' ≤ (m : Int) := hin.2
        have e : (0 : Int) + (m : Nat) = dist n ia ib ic id' := by omega
        show Q (.int (0 + (m : Nat))) H2
        rw [e]
        exact k H2 s2
      have hnot : ¬ dist n ia ib ic id' ≤ (m : Int) := fun z => hg (decide_eq_true ((hps _).mpr ⟨hw, z⟩))
      -- wider = []
      refine ⟨Nat.zero_le _, fun wp H3 s3 nw ew => ?_⟩
      have er3 := s3 _ _ er
      have dr3 := dpAll_up s3 dr
      have nrw : rp ≠ wp := ne_of_none er nw
      have nwH : H wp = none := s2.free nw
      refine ⟨.ref rp, rfl, rp, rfl, ⟨_, .inl (.inl er3)⟩, for_list (K := K) (a := rp) (xs := vs) (fun i σ H4 => ∃ (us : List V) (qs : List Pl) (k6 k7 k8 k9 k10 : Option V), σ = [some (.int n), some (.ref p), some (.ref q), some (.ref rp), some (.int (0 + (m : Nat))), some (.ref wp), k6, k7, k8, k9, k10] ∧ Same H H4 ∧ H4 rp = some (.lst vs) ∧ DpAll K H4 vs (ps.map dP) ∧ H4 wp = some (.lst us) ∧ DpAll K H4 us (qs.map dP) ∧ qs = ((ps.take i).flatMap (nine n)).foldl addNew [])
        ⟨[], [], k6, k7, k8, k9, k10, rfl, s2.trans s3, er3, dr3, ew, .nil, rfl⟩ (fun i σ H4 _ ⟨_, _, _, _, _, _, _, _, _, e, _⟩ => .inl (.inl e)) ?_ ?_⟩
      · rintro i y σ H4 hi ⟨us, qs, k6, k7, k8, k9, k10, rfl, s4, er4, dr4, ew4, dw4, eqs⟩
        obtain ⟨dy0, hdy, hyd⟩ := dpAll_get dr4 hi
        obtain ⟨r, hr1, rfl⟩ : ∃ r : Pl, ps[i]? = some r ∧ dy0 = dP r := by
          rw [List.getElem?_map] at hdy
          cases e : ps[i]? with
          | none => rw [e] at hdy; cases hdy
          | some r => rw [e] at hdy; exact ⟨r, rfl, (Option.some.inj hdy).symm⟩
        obtain ⟨t, rfl, ht⟩ := dp_ti_inv hyd
        refine ⟨t, _, rfl, ht, rfl, _, _, rfl, _, _, rfl, rfl, ?_⟩
        -- for dx in [-1, 0, 1]
        refine ⟨_, rfl, (by show 3 ≤ sizeLine; decide), fun lx H5 s5 nx ex => ⟨lx, rfl, ⟨_, .inl (.inl ex)⟩, for_list (K := K) (a := lx) (xs := steps3.map V.int) (fun j σ H6 => ∃ (us : List V) (qs : List Pl) (k8 k9 k10 : Option V), σ = [some (.int n), some (.ref p), some (.ref q), some (.ref rp), some (.int (0 + (m : Nat))), some (.ref wp), some (.int r.1), some (.int r.2), k8, k9, k10] ∧ Same H H6 ∧ H6 rp = some (.lst vs) ∧ DpAll K H6 vs (ps.map dP) ∧ H6 lx = some (.lst (steps3.map V.int)) ∧ H6 wp = some (.lst us) ∧ DpAll K H6 us (qs.map dP) ∧ qs = ((steps3.take j).flatMap (rowP n r)).foldl addNew (((ps.take i).flatMap (nine n)).foldl addNew []))
          ⟨us, qs, k8, k9, k10, rfl, s4.trans s5, s5 _ _ er4, dpAll_up s5 dr4, ex, s5 _ _ ew4, dpAll_up s5 dw4, eqs⟩ (fun i σ H4 _ ⟨_, _, _, _, _, _, _, _, _, e, _⟩ => .inl (.inl e)) ?_ ?_⟩⟩
        · rintro j y σ H6 hj ⟨us, qs, k8, k9, k10, rfl, s6, er6, dr6, ex6, ew6, dw6, eqs⟩
          have nxw : lx ≠ wp := fun z => by rw [z] at nx; rw [nx] at ew4; cases ew4
          obtain ⟨dx, hdx, rfl⟩ := map_at hj
          -- for dy in [-1, 0, 1]
          refine ⟨_, rfl, (by show 3 ≤ sizeLine; decide), fun ly H7 s7 ny ey => ⟨ly, rfl, ⟨_, .inl (.inl ey)⟩, for_list (K := K) (a := ly) (xs := steps3.map V.int) (fun l σ H8 => ∃ (us : List V) (qs : List Pl) (k9 k10 : Option V), σ = [some (.int n), some (.ref p), some (.ref q), some (.ref rp), some (.int (0 + (m : Nat))), some (.ref wp), some (.int r.1), some (.int r.2), some (.int dx), k9, k10] ∧ Same H H8 ∧ H8 rp = some (.lst vs) ∧ DpAll K H8 vs (ps.map dP) ∧ H8 lx = some (.lst (steps3.map V.int)) ∧ H8 ly = some (.lst (steps3.map V.int)) ∧ H8 wp = some (.lst us) ∧ DpAll K H8 us (qs.map dP) ∧ qs = ((steps3.take l).map (pt n r dx)).foldl addNew (((steps3.take j).flatMap (rowP n r)).foldl addNew (((ps.take i).flatMap (nine n)).foldl addNew [])))
            ⟨us, qs, k9, k10, rfl, s6.trans s7, s7 _ _ er6, dpAll_up s7 dr6, s7 _ _ ex6, ey, s7 _ _ ew6, dpAll_up s7 dw6, eqs⟩ (fun i σ H4 _ ⟨_, _, _, _, _, _, _, _, _, e, _⟩ => .inl (.inl e)) ?_ ?_⟩⟩
          · rintro l y σ H8 hl ⟨us, qs, k9, k10, rfl, s8, er8, dr8, ex8, ey8, ew8, dw8, eqs⟩
            have nyw : ly ≠ wp := fun z => by rw [z] at ny; rw [ny] at ew6; cases ew6
            obtain ⟨dy, hdy2, rfl⟩ := map_at hl
            refine ⟨_, rfl, _, rfl, _, _, rfl, rfl, _, rfl, _, _, rfl, rfl, .inl ⟨_, rfl, _, rfl, _, _, rfl, rfl, hn, ?_⟩⟩
            refine ⟨_, rfl, _, rfl, _, _, rfl, rfl, _, rfl, _, _, rfl, rfl, .inl ⟨_, rfl, _, rfl, _, _, rfl, rfl, hn, ?_⟩⟩
            refine ⟨(by show 2 ≤ sizeLine; decide), fun t9 H9 s9 t9' => ?_⟩
            have dt9 : Dp K H9 (.ref t9) (dP (pt n r dx dy)) := dp_ti (ns := [(r.1 + dx + n) % n, (r.2 + dy + n) % n]) t9'
            have ew9 := s9 _ _ ew8
            have next : ((steps3.take (l + 1)).map (pt n r dx)).foldl addNew (((steps3.take j).flatMap (rowP n r)).foldl addNew (((ps.take i).flatMap (nine n)).foldl addNew [])) = addNew qs (pt n r dx dy) := by
              rw [List.take_add_one, hdy2, eqs]
              simp [List.foldl_append]
            refine ⟨.ref t9, rfl, .ref wp, rfl, _, _, dt9, dp_l ew9 (dpAll_up s9 dw8), shaped_of (lay_ti _) (by decide), shaped_of (lay_pl qs) (by decide), _, rfl, ?_⟩
            rw [any_pair]
            refine ite2 (fun hg => ?_) (fun hg => ?_)
            · have hg' : ¬ pt n r dx dy ∈ qs := fun z => by rw [decide_eq_true z] at hg; cases hg
              have hlen : us.length ≤ 81 := by
                rw [dpAll_len dw8, List.length_map]
                refine pairs_len h9 (eqs ▸ nodup_adds (nodup_adds (nodup_adds List.nodup_nil))) fun x hx => ?_
                rw [eqs] at hx
                rcases mem_adds.mp hx with hx | hx
                · rcases mem_adds.mp hx with hx | hx
                  · rcases mem_adds.mp hx with hx | hx
                    · cases hx
                    · obtain ⟨r', _, hx⟩ := List.mem_flatMap.mp hx
                      obtain ⟨u, v, _, _, rfl⟩ := mem_nine.mp hx
                      exact pt_valid hn _ _ _
                  · obtain ⟨u, _, hx⟩ := List.mem_flatMap.mp hx
                    obtain ⟨v, _, rfl⟩ := List.mem_map.mp hx
                    exact pt_valid hn _ _ _
                · obtain ⟨v, _, rfl⟩ := List.mem_map.mp hx
                  exact pt_valid hn _ _ _
              refine ⟨.ref wp, rfl, .inl ⟨rfl, _, .inl (.inl ew9)⟩, .ref t9, rfl, wp, _, _, rfl, rfl, ew9, sizeN (by omega), ?_⟩
              refine ⟨us ++ [.ref t9], qs ++ [pt n r dx dy], _, _, rfl, same_put nwH (s8.trans s9), by rw [upd_ne nrw]; exact s9 _ _ er8, dpAll_put ew9 (noLs_pl ps) (dpAll_up s9 dr8), by rw [upd_ne nxw]; exact s9 _ _ ex8, by rw [upd_ne nyw]; exact s9 _ _ ey8, upd_same, ?_, ?_⟩
              · rw [List.map_append]
                exact dpAll_push (dpAll_put ew9 (noLs_pl qs) (dpAll_up s9 dw8)) (dp_put ew9 (noL_ti _) dt9)
              · rw [next]
                unfold addNew
                rw [if_neg hg']
            · have hg' : pt n r dx dy ∈ qs := Classical.byContradiction fun z => hg (by rw [decide_eq_false z]; rfl)
              refine ⟨us, qs, _, _, rfl, s8.trans s9, s9 _ _ er8, dpAll_up s9 dr8, s9 _ _ ex8, s9 _ _ ey8, ew9, dpAll_up s9 dw8, ?_⟩
              rw [next]
              unfold addNew
              rw [if_pos hg']
          · rintro σ H8 ⟨us, qs, k9, k10, rfl, s8, er8, dr8, ex8, ey8, ew8, dw8, eqs⟩
            refine ⟨us, qs, _, _, _, rfl, s8, er8, dr8, ex8, ew8, dw8, ?_⟩
            rw [List.take_add_one, hdx, eqs]
            simp [List.foldl_append, rowP, steps3]
        · rintro σ H6 ⟨us, qs, k8, k9, k10, rfl, s6, er6, dr6, ex6, ew6, dw6, eqs⟩
          refine ⟨us, qs, _, _, _, _, _, rfl, s6, er6, dr6, ew6, dw6, ?_⟩
          rw [List.take_add_one, hr1, eqs]
          simp [List.foldl_append, nine, steps3]
      · rintro σ H4 ⟨us, qs, k6, k7, k8, k9, k10, rfl, s4, er4, dr4, ew4, dw4, eqs⟩
        refine ⟨.ref wp, rfl, wp, us, qs, _, _, _, _, _, _, _, rfl, s4, ew4, dw4, fun x => ?_, by omega⟩
        have hl : vs.length = ps.length := by rw [dpAll_len dr4, List.length_map]
        rw [eqs, hl, List.take_length, mem_adds]
        have z := ring_step h4 h9 (by omega) hps x
        constructor
        · rintro (h | h)
          · cases h
          · exact z.mp h
        · exact fun h => .inr (z.mpr h)
    · rintro σ H2 ⟨rp, vs, ps, k4, k5, k6, k7, k8, k9, k10, rfl, s2, er, dr, hps, hmd⟩
      exfalso
      have g1 := gap_lt (a := ia) (b := ic) h4 h9
      have g2 := gap_lt (a := ib) (b := id') h4 h9
      have : dist n ia ib ic id' < n := by unfold dist imax; split <;> omega
      omega

theorem ok__law_told (T : Txt P K mg a) : FnOk P w K mg base CX0 7 a.f__law_told a.fd__law_told ["sky", "one", "other", "slack"] (spToldD K a.c_Sky) := by
  refine T.F__law_told.ok sc__law_told (fun vs H Q E h => ?_) (fun cdv A outer s H vs Q E hr h => ?_)
  · obtain ⟨p, q, r, n, z, st, cam, ns, ms, rfl, _⟩ := h
    rfl
  · obtain ⟨p, q, r, n, z, st, cam, ns, ms, rfl, hK, hn, hq, hm, k⟩ := h
    refine ⟨_, (pss_cons (ps_set (i := 4) sc__law_told.nd rfl (.inl rfl) (pe_lstM pa_nil))
      (pss_cons (ps_for PassesOwn.never rfl (pi_list (pe_lstM (pa_cons pe_int (pa_cons pe_int pa_nil)))) (pg_name (i := 5) sc__law_told.nd rfl (.inl rfl)) (pss_one (ps_try_one (i := 6) (tb := fun W => (tDrop (tBM K "list" rAppend (tVar 4) (tCons (tIf (tTest (tOp (rEq) (tVar 5) (tC (.int 0)))) (tCallS (spApart K a.c_Sky a.c_InvalidAttitude) (WE W) (tCons (tVar 0) (tCons (tVar 1) (tCons (tVar 2) tNil)))) (tCallS (spFar K a.c_Sky a.c_InvalidAttitude) (WE W) (tCons (tVar 0) (tCons (tVar 1) (tCons (tVar 2) (tCons (tVar 3) tNil)))))) tNil)))) (ts := (fun ea cls d => (tDrop (tBM K "list" rAppend (tVar 4) (tCons (tTupM K (tCons (tC (.str "no")) (tCons (tErrFld a.c_InvalidAttitude "attitude" ea cls d (tVar 6)) tNil))) tNil))))) (Wout := fun _ _ _ _ => False) rfl rfl sc__law_told.nd rfl rfl ⟨rfl, by decide, Or.inl T.S_InvalidAttitude.gC⟩ takes0 (fun W pn xe tk _ => (pss_one (ps_expr (pe_bm PySem.F.plainAttrs_list PySem.F.slot_list_append PySem.F.type_list_append mt_append (pv 4) (pa_cons (pe_ifExp (pt_cmpR op_eq (pv 5) pe_int (nomark _)) (pe_callS (ok_apart T) (hr.mono (by decide)) (by rfl) T.m_apart T.F_apart.kp T.b_apart (fun σ => passAt tk σ) (by exact (pa_cons (pv 0) (pa_cons (pv 1) (pa_cons (pv 2) pa_nil))))) (pe_callS (ok_are_far T) (hr.mono (by decide)) (by rfl) T.m_are_far T.F_are_far.kp T.b_are_far (fun σ => passAt tk σ) (by exact (pa_cons (pv 0) (pa_cons (pv 1) (pa_cons (pv 2) (pa_cons (pv 3) pa_nil))))))) pa_nil))))) (fun ea oe cls d pn hz hf => (pss_one (ps_expr (pe_bm PySem.F.plainAttrs_list PySem.F.slot_list_append PySem.F.type_list_append mt_append (pv 4) (pa_cons (pe_tupM (pa_cons pe_str (pa_cons (by exact (pe_errFld T.S_InvalidAttitude hz hf (pv 6))) pa_nil))) pa_nil))))))))
      (pss_one (ps_ret (pv 4))))), ?_⟩
    refine ⟨Nat.zero_le _, fun l H1 s1 nl el => ?_⟩
    refine ⟨(by show 2 ≤ sizeLine; decide), fun ll H2 s2 nll ell => ⟨ll, rfl, ⟨_, .inl (.inl ell)⟩, for_list (K := K) (a := ll) (xs := [.int 0, .int 1]) (fun i σ H3 => ∃ (s5 : Option V) (xs : List V), σ = [some (.ref p), some (.ref q), some (.ref r), some (.int z), some (.ref l), s5, none] ∧ Same H H3 ∧ H3 ll = some (.lst [.int 0, .int 1]) ∧ H3 l = some (.lst xs) ∧ DpAll K H3 xs ([d1D n ns ms, d2D n z ns ms].take i))
      ⟨none, [], rfl, s1.trans s2, ell, s2 _ _ el, .nil⟩ (fun i σ H3 _ ⟨_, _, _, _, e, _⟩ => .inl (.inl e)) ?_ ?_⟩⟩
    · have nlll : ll ≠ l := fun e => by rw [e] at nll; rw [nll] at el; cases el
      rintro i v σ H3 hi ⟨s5, xs, rfl, s3, e3, el3, dx⟩
      have hxs : xs.length < sizeLine := by
        have e := dpAll_len dx
        have : ([d1D n ns ms, d2D n z ns ms].take i).length ≤ 2 := by rw [List.length_take]; show min i 2 ≤ 2; omega
        exact sizeN (by omega)
      have nds : noLs ([d1D n ns ms, d2D n z ns ms].take i) = true := by
        match i with
        | 0 => rfl
        | 1 => show (noL (d1D n ns ms) && true) = true; rw [noL_d1]; rfl
        | j + 2 => show (noL (d1D n ns ms) && (noL (d2D n z ns ms) && noLs (List.take j []))) = true; rw [noL_d1, noL_d2, List.take_nil]; rfl
      -- what is put: a value with its data
      have put : ∀ (H4 : Hp) (y : V) (d : PyData), [d1D n ns ms, d2D n z ns ms][i]? = some d → Same H3 H4 → Dp K H4 y d → ∃ (s5' : Option V) (xs' : List V), [some (.ref p), some (.ref q), some (.ref r), some (.int z), some (.ref l), some v, none] = [some (.ref p), some (.ref q), some (.ref r), some (.int z), some (.ref l), s5', (none : Option V)] ∧ Same H (upd H4 l (.lst (xs ++ [y]))) ∧ (upd H4 l (.lst (xs ++ [y]))) ll = some (.lst [.int 0, .int 1]) ∧ (upd H4 l (.lst (xs ++ [y]))) l = some (.lst xs') ∧ DpAll K (upd H4 l (.lst (xs ++ [y]))) xs' ([d1D n ns ms, d2D n z ns ms].take (i + 1)) := fun H4 y d hd s4 dy => by
        have el4 := s4 _ _ el3
        refine ⟨some v, xs ++ [y], rfl, same_put nl (s3.trans s4), by rw [upd_ne nlll]; exact s4 _ _ e3, upd_same, ?_⟩
        rw [List.take_add_one, hd]
        refine dpAll_push (dpAll_put el4 nds (dpAll_up s4 dx)) (dp_put el4 ?_ dy)
        match i, hd with
        | 0, hd => rw [← Option.some.inj hd]; exact noL_d1 _ _ _
        | 1, hd => rw [← Option.some.inj hd]; exact noL_d2 _ _ _ _
      refine ⟨.ref l, rfl, .inl ⟨rfl, _, .inl (.inl el3)⟩, ?_⟩
      match i, hi with
      | 0, hi =>
        obtain rfl : V.int 0 = v := Option.some.inj hi
        refine ⟨_, rfl, rfl, _, rfl, iteD rfl ?_⟩
        refine ⟨.ref p, rfl, .ref q, rfl, .ref r, rfl, p, q, r, n, st, cam, ns, ms, rfl, sky_up s3 hK, hn, sqT_up s3 hq, sqT_up s3 hm, fun e1 e2 => ?_, fun e1 d H4 s4 h4 => ?_, fun e1 e2 d H4 s4 h4 => ?_⟩
        · exact ⟨l, _, _, rfl, rfl, el3, hxs, put H3 _ _ rfl (Same.refl _) (by unfold d1D; rw [e1, e2]; exact dp_opt _)⟩
        · refine ⟨true, T.S_InvalidAttitude.te, fun _ ea na => ?_, fun y => Bool.noConfusion y⟩
          have el4 := s4 _ _ el3
          refine ⟨.ref l, rfl, .inl ⟨rfl, _, .inl (.inl el4)⟩, _, rfl, rfl, rfl, d, _, rfl, h4, (by show 2 ≤ sizeLine; decide), fun t H5 s5 t5 => ?_⟩
          exact ⟨l, _, _, rfl, rfl, s5 _ _ el4, hxs, put H5 _ _ rfl (s4.trans s5) (by unfold d1D; rw [e1]; exact dp_t t5 (.cons (.str _) (.cons (dp_ti (sqT_up ((s3.trans s4).trans s5) hq)) .nil)))⟩
        · refine ⟨true, T.S_InvalidAttitude.te, fun _ ea na => ?_, fun y => Bool.noConfusion y⟩
          have el4 := s4 _ _ el3
          refine ⟨.ref l, rfl, .inl ⟨rfl, _, .inl (.inl el4)⟩, _, rfl, rfl, rfl, d, _, rfl, h4, (by show 2 ≤ sizeLine; decide), fun t H5 s5 t5 => ?_⟩
          exact ⟨l, _, _, rfl, rfl, s5 _ _ el4, hxs, put H5 _ _ rfl (s4.trans s5) (by unfold d1D; rw [e1, e2]; exact dp_t t5 (.cons (.str _) (.cons (dp_ti (sqT_up ((s3.trans s4).trans s5) hm)) .nil)))⟩
      | 1, hi =>
        obtain rfl : V.int 1 = v := Option.some.inj hi
        refine ⟨_, rfl, rfl, _, rfl, ite2 (fun hg => absurd (V.int.inj (of_decide_eq_true hg)) (by decide)) (fun _ => ?_)⟩
        refine ⟨.ref p, rfl, .ref q, rfl, .ref r, rfl, _, rfl, p, q, r, n, z, st, cam, ns, ms, rfl, sky_up s3 hK, hn, sqT_up s3 hq, sqT_up s3 hm, fun e1 e2 => ?_, fun e1 d H4 s4 h4 => ?_, fun e1 e2 d H4 s4 h4 => ?_⟩
        · exact ⟨l, _, _, rfl, rfl, el3, hxs, put H3 _ _ rfl (Same.refl _) (by unfold d2D; rw [e1, e2]; exact .bl _)⟩
        · refine ⟨true, T.S_InvalidAttitude.te, fun _ ea na => ?_, fun y => Bool.noConfusion y⟩
          have el4 := s4 _ _ el3
          refine ⟨.ref l, rfl, .inl ⟨rfl, _, .inl (.inl el4)⟩, _, rfl, rfl, rfl, d, _, rfl, h4, (by show 2 ≤ sizeLine; decide), fun t H5 s5 t5 => ?_⟩
          exact ⟨l, _, _, rfl, rfl, s5 _ _ el4, hxs, put H5 _ _ rfl (s4.trans s5) (by unfold d2D; rw [e1]; exact dp_t t5 (.cons (.str _) (.cons (dp_ti (sqT_up ((s3.trans s4).trans s5) hq)) .nil)))⟩
        · refine ⟨true, T.S_InvalidAttitude.te, fun _ ea na => ?_, fun y => Bool.noConfusion y⟩
          have el4 := s4 _ _ el3
          refine ⟨.ref l, rfl, .inl ⟨rfl, _, .inl (.inl el4)⟩, _, rfl, rfl, rfl, d, _, rfl, h4, (by show 2 ≤ sizeLine; decide), fun t H5 s5 t5 => ?_⟩
          exact ⟨l, _, _, rfl, rfl, s5 _ _ el4, hxs, put H5 _ _ rfl (s4.trans s5) (by unfold d2D; rw [e1, e2]; exact dp_t t5 (.cons (.str _) (.cons (dp_ti (sqT_up ((s3.trans s4).trans s5) hm)) .nil)))⟩
    · rintro σ H3 ⟨s5, xs, rfl, s3, e3, el3, dx⟩
      match xs, dx with
      | [x, y], .cons d1 (.cons d2 .nil) => exact ⟨.ref l, rfl, k H3 l x y s3 el3 d1 d2⟩

theorem ok_law (T : Txt P K mg a) : FnOk P w K mg base CX0 8 a.f_law a.fd_law ["script"] (spLaw K) := by
  refine T.F_law.ok sc_law (fun vs H Q E h => ?_) (fun cdv A outer s H vs Q E hr h => ?_)
  · obtain ⟨b, xs, rfl, _⟩ := h
    rfl
  · obtain ⟨b, xs, rfl, hS, hx, k⟩ := h
    refine ⟨_, (pss_cons (ps_set (i := 1) sc_law.nd rfl (.inl rfl) (pe_call (ok__law_numbers T) (hr.mono (by decide)) (by rfl) T.m__law_numbers T.F__law_numbers.kp T.b__law_numbers .nil pass0 (pa_cons (pv 0) (pa_cons pe_int pa_nil))))
      (C8.pss_cut (ps_set (i := 2) sc_law.nd rfl (.inl rfl) (pe_op op_add pe_int (pe_op op_mod (pe_callTy call_int1 (by rfl) T.z_int (by decide +kernel) (pa_cons (pe_ix ix_seq (pv 1) pe_int (fun _ _ => rfl)) pa_nil)) pe_int)))
      (pss_cons (ps_set (i := 3) sc_law.nd rfl (.inl rfl) (pe_make T.M_Sky (ok_Skyx_initx T) (hr.mono (by decide)) (by rfl) T.m_Sky T.b_Skyx_initx .nil pass0 (pa_cons (pv 2) (pa_cons (pe_lstM pa_nil) (pa_cons (pe_tupM (pa_cons pe_int (pa_cons pe_int (pa_cons pe_int (pa_cons pe_int pa_nil))))) pa_nil)))))
      (pss_cons (ps_for PassesOwn.never rfl (pi_range1 (by rfl) T.z_range (pa_cons pe_int pa_nil)) (pg_name (i := 4) sc_law.nd rfl (.inl rfl)) (pss_cons (ps_set (i := 5) sc_law.nd rfl (.inl rfl) (pe_op op_add pe_int (pe_op op_mul pe_int (pv 4))))
      (C8.pss_cut (ps_set (i := 6) sc_law.nd rfl (.inl rfl) (pe_tupM (pa_cons (pe_op op_mod (pe_callTy call_int1 (by rfl) T.z_int (by decide +kernel) (pa_cons (pe_ix ix_seq (pv 1) (pv 5) (fun _ _ => rfl)) pa_nil)) (pv 2)) (pa_cons (pe_op op_mod (pe_callTy call_int1 (by rfl) T.z_int (by decide +kernel) (pa_cons (pe_ix ix_seq (pv 1) (pe_op op_add (pv 5) pe_int) (fun _ _ => rfl)) pa_nil)) (pv 2)) (pa_cons (pe_op op_mod (pe_callTy call_int1 (by rfl) T.z_int (by decide +kernel) (pa_cons (pe_ix ix_seq (pv 1) (pe_op op_add (pv 5) pe_int) (fun _ _ => rfl)) pa_nil)) pe_int) pa_nil)))))
      (C8.pss_cut (ps_set (i := 7) sc_law.nd rfl (.inl rfl) (pe_tupM (pa_cons (pe_op op_mod (pe_callTy call_int1 (by rfl) T.z_int (by decide +kernel) (pa_cons (pe_ix ix_seq (pv 1) (pe_op op_add (pv 5) pe_int) (fun _ _ => rfl)) pa_nil)) (pv 2)) (pa_cons (pe_op op_mod (pe_callTy call_int1 (by rfl) T.z_int (by decide +kernel) (pa_cons (pe_ix ix_seq (pv 1) (pe_op op_add (pv 5) pe_int) (fun _ _ => rfl)) pa_nil)) (pv 2)) (pa_cons (pe_op op_mod (pe_callTy call_int1 (by rfl) T.z_int (by decide +kernel) (pa_cons (pe_ix ix_seq (pv 1) (pe_op op_add (pv 5) pe_int) (fun _ _ => rfl)) pa_nil)) pe_int) pa_nil)))))
      (C8.pss_cut (ps_if (pt_cmpR op_gt (pe_op op_mod (pe_callTy call_int1 (by rfl) T.z_int (by decide +kernel) (pa_cons (pe_ix ix_seq (pv 1) (pe_op op_add (pv 5) pe_int) (fun _ _ => rfl)) pa_nil)) pe_int) pe_int (nomark _)) (pss_one (ps_set (i := 7) sc_law.nd rfl (.inl rfl) (pe_op op_catTM (pe_slice sl_tupM (pv 7) po_none (po_some pe_int)) (pe_slice sl_tupM (pv 6) (po_some pe_int) po_none)))) pss_nil)
      (C8.pss_cut (ps_if (pt_cmpR op_gt (pe_op op_mod (pe_callTy call_int1 (by rfl) T.z_int (by decide +kernel) (pa_cons (pe_ix ix_seq (pv 1) (pe_op op_add (pv 5) pe_int) (fun _ _ => rfl)) pa_nil)) pe_int) pe_int (nomark _)) (pss_one (ps_set (i := 7) sc_law.nd rfl (.inl rfl) (pe_tupM (pa_cons (pe_op op_mod (pe_callTy call_int1 (by rfl) T.z_int (by decide +kernel) (pa_cons (pe_op op_sub (pe_op op_add (pe_op op_add (pe_ix ix_seq (pv 6) pe_int (fun _ _ => rfl)) (pe_op op_mod (pe_callTy call_int1 (by rfl) T.z_int (by decide +kernel) (pa_cons (pe_ix ix_seq (pv 1) (pe_op op_add (pv 5) pe_int) (fun _ _ => rfl)) pa_nil)) pe_int)) (pv 2)) pe_int) pa_nil)) (pv 2)) (pa_cons (pe_op op_mod (pe_callTy call_int1 (by rfl) T.z_int (by decide +kernel) (pa_cons (pe_op op_sub (pe_op op_add (pe_op op_add (pe_ix ix_seq (pv 6) pe_int (fun _ _ => rfl)) (pe_op op_mod (pe_callTy call_int1 (by rfl) T.z_int (by decide +kernel) (pa_cons (pe_ix ix_seq (pv 1) (pe_op op_add (pv 5) pe_int) (fun _ _ => rfl)) pa_nil)) pe_int)) (pv 2)) pe_int) pa_nil)) (pv 2)) (pa_cons (pe_ix ix_seq (pv 6) pe_int (fun _ _ => rfl)) pa_nil)))))) pss_nil)
      (C8.pss_cut (ps_set (i := 8) sc_law.nd rfl (.inl rfl) (pe_op op_mod (pe_callTy call_int1 (by rfl) T.z_int (by decide +kernel) (pa_cons (pe_ix ix_seq (pv 1) (pe_op op_add (pv 5) pe_int) (fun _ _ => rfl)) pa_nil)) pe_int))
      (pss_cons (ps_set (i := 9) sc_law.nd rfl (.inl rfl) pe_non)
      (C8.pss_cut (ps_if (pt_cmpR op_eq (pe_ix ix_seq (pv 6) pe_int (fun _ _ => rfl)) (pe_ix ix_seq (pv 7) pe_int (fun _ _ => rfl)) (nomark _)) (pss_one (ps_set (i := 9) sc_law.nd rfl (.inl rfl) (pe_call (ok__law_rings T) (hr.mono (by decide)) (by rfl) T.m__law_rings T.F__law_rings.kp T.b__law_rings .nil pass0 (pa_cons (pv 2) (pa_cons (pe_slice sl_tupM (pv 6) po_none (po_some pe_int)) (pa_cons (pe_slice sl_tupM (pv 7) po_none (po_some pe_int)) pa_nil)))))) pss_nil)
      (C8.pss_cut (ps_set (i := 10) sc_law.nd rfl (.inl rfl) (pe_or (pe_cmpR op_isN (pv 9) pe_non (nomark _)) (pe_one (pe_cmpR op_gt (pv 9) (pv 8) (nomark _)))))
      (pss_cons (ps_if (PW.pt (pw_or (pt_cmpR (op_neD hr.units) (pe_call (ok__law_told T) (hr.mono (by decide)) (by rfl) T.m__law_told T.F__law_told.kp T.b__law_told .nil pass0 (pa_cons (pv 3) (pa_cons (pv 6) (pa_cons (pv 7) (pa_cons (pv 8) pa_nil))))) (pe_lstM (pa_cons (pv 9) (pa_cons (pv 10) pa_nil))) (nomark _)) (pw_or1 (pt_cmpR (op_neD hr.units) (pe_call (ok__law_told T) (hr.mono (by decide)) (by rfl) T.m__law_told T.F__law_told.kp T.b__law_told .nil pass0 (pa_cons (pv 3) (pa_cons (pv 7) (pa_cons (pv 6) (pa_cons (pv 8) pa_nil))))) (pe_lstM (pa_cons (pv 9) (pa_cons (pv 10) pa_nil))) (nomark _))))) (pss_one (ps_ret pe_bl)) pss_nil)
      (pss_cons (ps_if (pt_not (pt_val (pe_callB call_isi (by rfl) T.z_isinstance (by decide +kernel) (pa_cons (pe_call (ok_are_far T) (hr.mono (by decide)) (by rfl) T.m_are_far T.F_are_far.kp T.b_are_far .nil passL (pa_cons (pv 3) (pa_cons (pv 6) (pa_cons (pv 7) (pa_cons (pv 8) pa_nil))))) (pa_cons (pe_bltn (v := .ty "bool") (by rfl) T.z_bool (by decide +kernel) rfl) pa_nil))))) (pss_one (ps_ret pe_bl)) pss_nil)
      (C8.pss_cut (ps_set (i := 11) sc_law.nd rfl (.inl rfl) (pe_tupM (pa_cons (pe_op op_mod (pe_callTy call_int1 (by rfl) T.z_int (by decide +kernel) (pa_cons (pe_ix ix_seq (pv 1) (pe_op op_add (pv 5) pe_int) (fun _ _ => rfl)) pa_nil)) (pv 2)) (pa_cons (pe_op op_mod (pe_callTy call_int1 (by rfl) T.z_int (by decide +kernel) (pa_cons (pe_ix ix_seq (pv 1) (pe_op op_add (pv 5) pe_int) (fun _ _ => rfl)) pa_nil)) (pv 2)) (pa_cons (pe_op op_mod (pe_callTy call_int1 (by rfl) T.z_int (by decide +kernel) (pa_cons (pe_ix ix_seq (pv 1) (pe_op op_add (pv 5) pe_int) (fun _ _ => rfl)) pa_nil)) pe_int) pa_nil)))))
      (pss_cons (ps_if (pt_cmpR (op_neD hr.units) (pe_call (ok__law_told T) (hr.mono (by decide)) (by rfl) T.m__law_told T.F__law_told.kp T.b__law_told .nil pass0 (pa_cons (pv 3) (pa_cons (pe_call (ok_moved T) (hr.mono (by decide)) (by rfl) T.m_moved T.F_moved.kp T.b_moved .nil passL (pa_cons (pv 3) (pa_cons (pv 6) (pa_cons (pv 11) pa_nil)))) (pa_cons (pe_call (ok_moved T) (hr.mono (by decide)) (by rfl) T.m_moved T.F_moved.kp T.b_moved .nil passL (pa_cons (pv 3) (pa_cons (pv 7) (pa_cons (pv 11) pa_nil)))) (pa_cons (pv 8) pa_nil))))) (pe_lstM (pa_cons (pv 9) (pa_cons (pv 10) pa_nil))) (nomark _)) (pss_one (ps_ret pe_bl)) pss_nil)
      (C8.pss_cut (ps_set (i := 12) sc_law.nd rfl (.inl rfl) (pe_tupM (pa_cons (pe_op op_mod (pe_callTy call_int1 (by rfl) T.z_int (by decide +kernel) (pa_cons (pe_ix ix_seq (pv 1) (pe_op op_add (pv 5) pe_int) (fun _ _ => rfl)) pa_nil)) (pv 2)) (pa_cons (pe_op op_mod (pe_callTy call_int1 (by rfl) T.z_int (by decide +kernel) (pa_cons (pe_ix ix_seq (pv 1) (pe_op op_add (pv 5) pe_int) (fun _ _ => rfl)) pa_nil)) (pv 2)) (pa_cons (pe_op op_mod (pe_callTy call_int1 (by rfl) T.z_int (by decide +kernel) (pa_cons (pe_ix ix_seq (pv 1) (pe_op op_add (pv 5) pe_int) (fun _ _ => rfl)) pa_nil)) pe_int) pa_nil)))))
      (pss_one (ps_if (pt_cmpR (op_neD hr.units) (pe_call (ok__law_told T) (hr.mono (by decide)) (by rfl) T.m__law_told T.F__law_told.kp T.b__law_told .nil pass0 (pa_cons (pv 3) (pa_cons (pe_call (ok_commanded T) (hr.mono (by decide)) (by rfl) T.m_commanded T.F_commanded.kp T.b_commanded .nil passL (pa_cons (pv 3) (pa_cons (pv 6) (pa_cons (pv 12) pa_nil)))) (pa_cons (pe_call (ok_commanded T) (hr.mono (by decide)) (by rfl) T.m_commanded T.F_commanded.kp T.b_commanded .nil passL (pa_cons (pv 3) (pa_cons (pv 7) (pa_cons (pv 12) pa_nil)))) (pa_cons (pv 8) pa_nil))))) (pe_lstM (pa_cons (pv 9) (pa_cons (pv 10) pa_nil))) (nomark _)) (pss_one (ps_ret pe_bl)) pss_nil)))))))))))))))))
      (C8.pss_cut (ps_set (i := 13) sc_law.nd rfl (.inl rfl) (pe_ix ix_seq (pe_lstM (pa_cons (pe_tupM (pa_cons (pv 2) (pa_cons pe_int (pa_cons pe_int pa_nil)))) (pa_cons (pe_tupM (pa_cons pe_int (pa_cons (pe_un un_neg pe_int) (pa_cons pe_int pa_nil)))) (pa_cons (pe_tupM (pa_cons pe_int (pa_cons pe_int (pa_cons pe_int pa_nil)))) (pa_cons (pe_tupM (pa_cons pe_int (pa_cons pe_int pa_nil))) pa_nil))))) (pe_op op_mod (pe_callTy call_int1 (by rfl) T.z_int (by decide +kernel) (pa_cons (pe_ix ix_seq (pv 1) pe_int (fun _ _ => rfl)) pa_nil)) pe_int) (fun _ _ => rfl)))
      (C8.pss_cut (ps_set (i := 14) sc_law.nd rfl (.inl rfl) (pe_ix ix_seq (pe_lstM (pa_cons (pe_tupM (pa_cons pe_int (pa_cons (pv 2) (pa_cons pe_int pa_nil)))) (pa_cons (pe_tupM (pa_cons pe_int (pa_cons pe_int (pa_cons (pe_un un_neg pe_int) pa_nil)))) (pa_cons (pe_tupM (pa_cons pe_int (pa_cons pe_int (pa_cons pe_int (pa_cons pe_int pa_nil))))) pa_nil)))) (pe_op op_mod (pe_callTy call_int1 (by rfl) T.z_int (by decide +kernel) (pa_cons (pe_ix ix_seq (pv 1) pe_int (fun _ _ => rfl)) pa_nil)) pe_int) (fun _ _ => rfl)))
      (pss_cons (ps_if (pt_cmpR (op_neD hr.units) (pe_call (ok__law_told T) (hr.mono (by decide)) (by rfl) T.m__law_told T.F__law_told.kp T.b__law_told .nil pass0 (pa_cons (pv 3) (pa_cons (pv 13) (pa_cons (pv 14) (pa_cons pe_int pa_nil))))) (pe_op op_repM (pe_lstM (pa_cons (pe_tupM (pa_cons pe_str (pa_cons (pv 13) pa_nil))) pa_nil)) pe_int) (nomark _)) (pss_one (ps_ret pe_bl)) pss_nil)
      (pss_one (ps_ret (pe_cmpR (op_eqD hr.units) (pe_call (ok__law_told T) (hr.mono (by decide)) (by rfl) T.m__law_told T.F__law_told.kp T.b__law_told .nil pass0 (pa_cons (pv 3) (pa_cons (pe_tupM (pa_cons pe_int (pa_cons pe_int (pa_cons pe_int pa_nil)))) (pa_cons (pv 14) (pa_cons pe_int pa_nil))))) (pe_op op_repM (pe_lstM (pa_cons (pe_tupM (pa_cons pe_str (pa_cons (pv 14) pa_nil))) pa_nil)) pe_int) (nomark _))))))))))), ?_⟩
    refine ⟨.ref b, rfl, b, xs, 60, rfl, hS, hx, by decide, by decide, fun H1 p1 ns s1 np1 e1 hlen hN => ?_⟩
    have hL1 : SqL K H1 p1 (ns.map V.int) := .inl (.inl e1)
    -- side
    refine ⟨fun σ H2 => ∃ n : Int, 4 ≤ n ∧ n ≤ 9 ∧ H1 = H2 ∧ σ = [some (.ref b), some (.ref p1), some (.int n), none, none, none, none, none, none, none, none, none, none, none, none], ?_, ?_⟩
    · exact ⟨.ref p1, rfl, .inl ⟨p1, _, _, _, rfl, rfl, hL1, nthI (by omega) (by omega), .inl ⟨_, rfl, _, _, rfl, rfl, (by show (0 : Int) < 6; decide), _, _, rfl, rfl, _, by omega, by omega, rfl, rfl⟩⟩⟩
    rintro σ2 H2 ⟨n, hn4, hn9, rfl, rfl⟩
    have hn : 0 < n := by omega
    -- sky
    refine ⟨_, rfl, Nat.zero_le _, fun pl H2 s2 _ el => ⟨(by show 4 ≤ sizeLine; decide), fun pc H3 s3 tc => ?_⟩⟩
    intro x dx nx ndx nex
    have s4 : Same H3 (upd (upd H3 dx (.own x)) x (.ins a.c_Sky dx [])) := fun q o e => by
      rw [upd_ne (ne_of_none e nx), upd_ne (ne_of_none e ndx)]
      exact e
    refine ⟨x, dx, n, pl, pc, [0, 0, 0, 1], rfl, upd_same, .inl (.inl (s4 _ _ (s3 _ _ el))), sqT_up s4 tc, hn4, hn9, decide_eq_true (by omega), fun H4 K4 kp => ⟨rfl, ?_⟩⟩
    have s14 : Same H1 H4 := (s2.trans s3).trans fun q o e => kp _ _ (s4 _ _ e) (ne_of_none e nx)
    -- for k in range(4)
    refine ⟨4, rfl, by decide, by decide, for_range (lo := 0) (n := 4) (fun i σ H5 => ∃ z4 z5 z6 z7 z8 z9 z10 z11 z12 : Option V, σ = [some (.ref b), some (.ref p1), some (.int n), some (.ref x), z4, z5, z6, z7, z8, z9, z10, z11, z12, none, none] ∧ Same H4 H5) ⟨_, _, _, _, _, _, _, _, _, rfl, Same.refl _⟩ ?_ ?_⟩
    · rintro i σ H5 hi ⟨z4, z5, z6, z7, z8, z9, z10, z11, z12, rfl, s5⟩
      have hL5 : SqL K H5 p1 (ns.map V.int) := (s14.trans s5).seq hL1
      refine ⟨_, rfl, _, _, rfl, rfl, .inl (by constructor <;> decide), _, _, rfl, rfl, ?_⟩
      -- one
      refine ⟨fun σ H6 => ∃ (px py pq : Int) (pA : Addr), Same H5 H6 ∧ isPose n [px, py, pq] = true ∧ SqT K H6 pA [.int px, .int py, .int pq] ∧ σ = [some (.ref b), some (.ref p1), some (.int n), some (.ref x), some (.int (0 + (i : Int))), some (.int (1 + 12 * (0 + (i : Int)))), some (.ref pA), z7, z8, z9, z10, z11, z12, none, none], ?_, ?_⟩
      · refine ⟨.ref p1, rfl, _, rfl, .inl ⟨p1, _, _, _, rfl, rfl, hL5, nthI (by omega) (by omega), .inl ⟨_, rfl, _, rfl, _, _, rfl, rfl, hn, ?_⟩⟩⟩
        refine ⟨.ref p1, rfl, _, rfl, _, _, rfl, rfl, .inl ⟨p1, _, _, _, rfl, rfl, hL5, nthI (by omega) (by omega), .inl ⟨_, rfl, _, rfl, _, _, rfl, rfl, hn, ?_⟩⟩⟩
        refine ⟨.ref p1, rfl, _, rfl, _, _, rfl, rfl, .inl ⟨p1, _, _, _, rfl, rfl, hL5, nthI (by omega) (by omega), .inl ⟨_, rfl, _, _, rfl, rfl, (by show (0 : Int) < 4; decide), ?_⟩⟩⟩
        refine ⟨(by show 3 ≤ sizeLine; decide), fun pA H6 s6 tA => ⟨_, _, _, pA, s6, ?_, tA, rfl⟩⟩
        exact poseT ⟨Int.emod_nonneg _ (by omega), Int.emod_lt_of_pos _ hn, Int.emod_nonneg _ (by omega), Int.emod_lt_of_pos _ hn, Int.emod_nonneg _ (by decide), by omega⟩
      rintro σ6 H6 ⟨px, py, pq, pA, s6, hpose, tA, rfl⟩
      have hp := of_decide_eq_true hpose
      have hL6 := s6.seq hL5
      -- other
      refine ⟨fun σ H7 => ∃ (u v w : Int) (pB : Addr), Same H6 H7 ∧ isPose n [u, v, w] = true ∧ SqT K H7 pB [.int u, .int v, .int w] ∧ σ = [some (.ref b), some (.ref p1), some (.int n), some (.ref x), some (.int (0 + (i : Int))), some (.int (1 + 12 * (0 + (i : Int)))), some (.ref pA), some (.ref pB), z8, z9, z10, z11, z12, none, none], ?_, ?_⟩
      · refine ⟨.ref p1, rfl, _, rfl, _, _, rfl, rfl, .inl ⟨p1, _, _, _, rfl, rfl, hL6, nthI (by omega) (by omega), .inl ⟨_, rfl, _, rfl, _, _, rfl, rfl, hn, ?_⟩⟩⟩
        refine ⟨.ref p1, rfl, _, rfl, _, _, rfl, rfl, .inl ⟨p1, _, _, _, rfl, rfl, hL6, nthI (by omega) (by omega), .inl ⟨_, rfl, _, rfl, _, _, rfl, rfl, hn, ?_⟩⟩⟩
        refine ⟨.ref p1, rfl, _, rfl, _, _, rfl, rfl, .inl ⟨p1, _, _, _, rfl, rfl, hL6, nthI (by omega) (by omega), .inl ⟨_, rfl, _, _, rfl, rfl, (by show (0 : Int) < 4; decide), ?_⟩⟩⟩
        refine ⟨(by show 3 ≤ sizeLine; decide), fun pB H7 s7 tB => ⟨_, _, _, pB, s7, ?_, tB, rfl⟩⟩
        exact poseT ⟨Int.emod_nonneg _ (by omega), Int.emod_lt_of_pos _ hn, Int.emod_nonneg _ (by omega), Int.emod_lt_of_pos _ hn, Int.emod_nonneg _ (by decide), by omega⟩
      rintro σ7 H7 ⟨u, v, w, pB, s7, hposB, tB, rfl⟩
      have hL7 := s7.seq hL6
      have hB := of_decide_eq_true hposB
      have tA7 := sqT_up s7 tA
      -- perhaps of the same quarter
      refine ⟨fun σ H8 => ∃ (u v w : Int) (pB : Addr), Same H7 H8 ∧ isPose n [u, v, w] = true ∧ SqT K H8 pB [.int u, .int v, .int w] ∧ σ = [some (.ref b), some (.ref p1), some (.int n), some (.ref x), some (.int (0 + (i : Int))), some (.int (1 + 12 * (0 + (i : Int)))), some (.ref pA), some (.ref pB), z8, z9, z10, z11, z12, none, none], ?_, ?_⟩
      · refine ⟨.ref p1, rfl, _, rfl, _, _, rfl, rfl, .inl ⟨p1, _, _, _, rfl, rfl, hL7, nthI (by omega) (by omega), .inl ⟨_, rfl, _, _, rfl, rfl, (by show (0 : Int) < 4; decide), _, _, rfl, rfl, _, rfl, ite2 (fun _ => ?_) (fun _ => ⟨u, v, w, pB, Same.refl _, hposB, tB, rfl⟩)⟩⟩⟩
        refine ⟨.ref pB, rfl, 2, rfl, pB, _, rfl, tB, (by intro z; exact absurd z.2 (show ¬ HT.sIx 3 3 (some 2) = 3 by decide)), fun p8 H8 s8 t8 => ?_⟩
        refine ⟨.ref pA, rfl, 2, rfl, pA, _, rfl, sqT_up s8 tA7, (by intro z; exact absurd z.1 (show ¬ HT.sIx 3 0 (some 2) = 0 by decide)), fun p9 H9 s9 t9 => ?_⟩
        refine ⟨p8, p9, _, _, rfl, rfl, sqT_up s9 t8, t9, (by intro z; cases z), (by intro z; cases z), (by show 3 ≤ sizeLine; decide), fun p10 H10 s10 t10 => ?_⟩
        exact ⟨u, v, pq, p10, (s8.trans s9).trans s10, poseT ⟨hB.1, hB.2.1, hB.2.2.1, hB.2.2.2.1, hp.2.2.2.2.1, hp.2.2.2.2.2⟩, t10, rfl⟩
      clear tB hposB hB hL7
      rintro σ8 H8 ⟨u, v, w, pB, s8, hposB, tB, rfl⟩
      have S8 : Same H5 H8 := (s6.trans s7).trans s8
      have hL8 := S8.seq hL5
      have tA8 := sqT_up s8 tA7
      -- perhaps near
      refine ⟨fun σ H9 => ∃ (u v w : Int) (pB : Addr), Same H8 H9 ∧ isPose n [u, v, w] = true ∧ SqT K H9 pB [.int u, .int v, .int w] ∧ σ = [some (.ref b), some (.ref p1), some (.int n), some (.ref x), some (.int (0 + (i : Int))), some (.int (1 + 12 * (0 + (i : Int)))), some (.ref pA), some (.ref pB), z8, z9, z10, z11, z12, none, none], ?_, ?_⟩
      · refine ⟨.ref p1, rfl, _, rfl, _, _, rfl, rfl, .inl ⟨p1, _, _, _, rfl, rfl, hL8, nthI (by omega) (by omega), .inl ⟨_, rfl, _, _, rfl, rfl, (by show (0 : Int) < 4; decide), _, _, rfl, rfl, _, rfl, ite2 (fun _ => ?_) (fun _ => ⟨u, v, w, pB, Same.refl _, hposB, tB, rfl⟩)⟩⟩⟩
        refine ⟨.ref pA, rfl, .inr (.inl ⟨pA, _, 0, _, rfl, rfl, tA8, rfl, ?_⟩)⟩
        refine ⟨.ref p1, rfl, _, rfl, _, _, rfl, rfl, .inl ⟨p1, _, _, _, rfl, rfl, hL8, nthI (by omega) (by omega), .inl ⟨_, rfl, _, _, rfl, rfl, (by show (0 : Int) < 3; decide), _, _, rfl, rfl, _, rfl, _, _, rfl, rfl, _, _, rfl, rfl, .inl ⟨_, rfl, _, rfl, _, _, rfl, rfl, hn, ?_⟩⟩⟩⟩
        refine ⟨.ref pA, rfl, .inr (.inl ⟨pA, _, 1, _, rfl, rfl, tA8, rfl, ?_⟩)⟩
        refine ⟨.ref p1, rfl, _, rfl, _, _, rfl, rfl, .inl ⟨p1, _, _, _, rfl, rfl, hL8, nthI (by omega) (by omega), .inl ⟨_, rfl, _, _, rfl, rfl, (by show (0 : Int) < 3; decide), _, _, rfl, rfl, _, rfl, _, _, rfl, rfl, _, _, rfl, rfl, .inl ⟨_, rfl, _, rfl, _, _, rfl, rfl, hn, ?_⟩⟩⟩⟩
        refine ⟨.ref pA, rfl, .inr (.inl ⟨pA, _, 2, _, rfl, rfl, tA8, rfl, ?_⟩)⟩
        refine ⟨(by show 3 ≤ sizeLine; decide), fun p9 H9 s9 t9 => ⟨_, _, _, p9, s9, ?_, t9, rfl⟩⟩
        exact poseT ⟨Int.emod_nonneg _ (by omega), Int.emod_lt_of_pos _ hn, Int.emod_nonneg _ (by omega), Int.emod_lt_of_pos _ hn, hp.2.2.2.2.1, hp.2.2.2.2.2⟩
      clear tB hposB hL8
      rintro σ9 H9 ⟨u, v, w, pB, s9, hposB, tB, rfl⟩
      have hB := of_decide_eq_true hposB
      have S9 : Same H5 H9 := S8.trans s9
      have hL9 := S9.seq hL5
      have tA9 := sqT_up s9 tA8
      -- slack
      refine ⟨fun σ H10 => ∃ sl : Int, H9 = H10 ∧ σ = [some (.ref b), some (.ref p1), some (.int n), some (.ref x), some (.int (0 + (i : Int))), some (.int (1 + 12 * (0 + (i : Int)))), some (.ref pA), some (.ref pB), some (.int sl), z9, z10, z11, z12, none, none], ?_, ?_⟩
      · exact ⟨.ref p1, rfl, _, rfl, _, _, rfl, rfl, .inl ⟨p1, _, _, _, rfl, rfl, hL9, nthI (by omega) (by omega), .inl ⟨_, rfl, _, _, rfl, rfl, (by show (0 : Int) < 10; decide), _, rfl, rfl⟩⟩⟩
      rintro σ10 H10 ⟨sl, rfl, rfl⟩
      -- due
      refine ⟨fun σ H11 => Same H9 H11 ∧ σ = [some (.ref b), some (.ref p1), some (.int n), some (.ref x), some (.int (0 + (i : Int))), some (.int (1 + 12 * (0 + (i : Int)))), some (.ref pA), some (.ref pB), some (.int sl), some (optV (apartI n [px, py, pq] [u, v, w])), z10, z11, z12, none, none], ?_, ?_⟩
      · refine ⟨.ref pA, rfl, .inr (.inl ⟨pA, _, 2, .int pq, rfl, rfl, tA9, rfl, .ref pB, rfl, .inr (.inl ⟨pB, _, 2, .int w, rfl, rfl, tB, rfl, rfl, _, rfl, ite2 (fun hg => ?_) (fun hg => ?_)⟩)⟩)⟩
        · have e : pq = w := V.int.inj (of_decide_eq_true hg)
          have e' : apartI n [px, py, pq] [u, v, w] = some (dist n px py u v) := if_pos e
          rw [e']
          refine ⟨_, rfl, .ref pA, rfl, 2, rfl, pA, _, rfl, tA9, (by intro z; exact absurd z.2 (show ¬ HT.sIx 3 3 (some 2) = 3 by decide)), fun p11 H11 s11 t11 => ?_⟩
          refine ⟨.ref pB, rfl, 2, rfl, pB, _, rfl, sqT_up s11 tB, (by intro z; exact absurd z.2 (show ¬ HT.sIx 3 3 (some 2) = 3 by decide)), fun p12 H12 s12 t12 => ?_⟩
          exact ⟨n, px, py, u, v, p11, p12, rfl, hn4, hn9, ⟨hp.1, hp.2.1, hp.2.2.1, hp.2.2.2.1⟩, ⟨hB.1, hB.2.1, hB.2.2.1, hB.2.2.2.1⟩, sqT_up s12 t11, t12, fun H13 s13 => ⟨(s11.trans s12).trans s13, rfl⟩⟩
        · have e : ¬ pq = w := fun z => hg (decide_eq_true (congrArg V.int z))
          have e' : apartI n [px, py, pq] [u, v, w] = none := if_neg e
          rw [e']
          exact ⟨Same.refl _, rfl⟩
      rintro σ11 H11 ⟨s11, rfl⟩
      -- far
      refine ⟨fun σ H12 => H11 = H12 ∧ σ = [some (.ref b), some (.ref p1), some (.int n), some (.ref x), some (.int (0 + (i : Int))), some (.int (1 + 12 * (0 + (i : Int)))), some (.ref pA), some (.ref pB), some (.int sl), some (optV (apartI n [px, py, pq] [u, v, w])), some (.bl (farI n sl [px, py, pq] [u, v, w])), z11, z12, none, none], ?_, ?_⟩
      · unfold farI
        cases apartI n [px, py, pq] [u, v, w] with
        | none => exact ⟨_, rfl, rfl, _, rfl, iteT ⟨rfl, rfl⟩⟩
        | some d => exact ⟨_, rfl, rfl, _, rfl, iteF ⟨_, rfl, _, rfl, _, _, rfl, rfl, rfl, rfl⟩⟩
      rintro σ12 H12 ⟨rfl, rfl⟩
      have S11 : Same H5 H11 := S9.trans s11
      have SK : Same H4 H11 := s5.trans S11
      have tA11 := sqT_up s11 tA9
      have tB11 := sqT_up s11 tB
      have lay : Lay 1 (.list [optD (apartI n [px, py, pq] [u, v, w]), .bool (farI n sl [px, py, pq] [u, v, w])]) := lay_list (lay_2 (lay_opt _ _) (lay_bool _ _))
      -- what the four calls tell
      have told : ∀ (c d : List Int), isPose n c = true → isPose n d = true → apartI n c d = apartI n [px, py, pq] [u, v, w] → d1D n c d = optD (apartI n [px, py, pq] [u, v, w]) ∧ d2D n sl c d = .bool (farI n sl [px, py, pq] [u, v, w]) := fun c d e1 e2 e3 => by
        unfold d1D d2D
        rw [e1, e2, far_of e3, e3]
        exact ⟨rfl, rfl⟩
      refine ⟨.ref x, rfl, .ref pA, rfl, .ref pB, rfl, _, rfl, x, pA, pB, n, sl, [], [0, 0, 0, 1], [px, py, pq], [u, v, w], rfl, sky_up SK K4, hn, tA11, tB11, fun H13 l13 x13 y13 s13 e13 dx13 dy13 => ?_⟩
      rw [(told _ _ hpose hposB rfl).1] at dx13
      rw [(told _ _ hpose hposB rfl).2] at dy13
      refine ⟨_, rfl, _, rfl, (by show 2 ≤ sizeLine; decide), fun l14 H14 s14' _ e14 => ?_⟩
      refine ne_same lay (by decide) (dp_l (s14' _ _ e13) (.cons (dp_up s14' dx13) (.cons (dp_up s14' dy13) .nil))) (dp_l e14 (.cons (dp_opt _) (.cons (.bl _) .nil))) ⟨_, rfl, iteF ?_⟩
      have S14 := s13.trans s14'
      refine ⟨.ref x, rfl, .ref pB, rfl, .ref pA, rfl, _, rfl, x, pB, pA, n, sl, [], [0, 0, 0, 1], [u, v, w], [px, py, pq], rfl, sky_up (SK.trans S14) K4, hn, sqT_up S14 tB11, sqT_up S14 tA11, fun H15 l15 x15 y15 s15 e15 dx15 dy15 => ?_⟩
      rw [(told _ _ hposB hpose (apart_comm hn4 hn9)).1] at dx15
      rw [(told _ _ hposB hpose (apart_comm hn4 hn9)).2] at dy15
      refine ⟨_, rfl, _, rfl, (by show 2 ≤ sizeLine; decide), fun l16 H16 s16 _ e16 => ?_⟩
      refine ne_same lay (by decide) (dp_l (s16 _ _ e15) (.cons (dp_up s16 dx15) (.cons (dp_up s16 dy15) .nil))) (dp_l e16 (.cons (dp_opt _) (.cons (.bl _) .nil))) ⟨_, rfl, iteF ?_⟩
      have S16 := (S14.trans s15).trans s16
      have no : ∀ {z : Bool} {A : Prop}, z = true → z = false → A := fun h1 h2 => by rw [h1] at h2; cases h2
      -- isinstance
      refine ⟨.ref x, rfl, .ref pA, rfl, .ref pB, rfl, _, rfl, x, pA, pB, n, sl, [], [0, 0, 0, 1], [px, py, pq], [u, v, w], rfl, sky_up (SK.trans S16) K4, hn, sqT_up S16 tA11, sqT_up S16 tB11, fun _ _ => ?_, fun z => no hpose z, fun _ z => no hposB z⟩
      refine ⟨_, _, .type "bool", .type "bool", true, rfl, .ty _, .base (.bl _), kit_ty (by decide +kernel), _, rfl, iteF ?_⟩
      -- motion
      have hL16 : SqL K H16 p1 (ns.map V.int) := (S11.trans S16).seq hL5
      refine ⟨fun σ H17 => ∃ (i1 j1 l1 : Int) (pM : Addr), Same H16 H17 ∧ isPose n [i1, j1, l1] = true ∧ SqT K H17 pM [.int i1, .int j1, .int l1] ∧ σ = [some (.ref b), some (.ref p1), some (.int n), some (.ref x), some (.int (0 + (i : Int))), some (.int (1 + 12 * (0 + (i : Int)))), some (.ref pA), some (.ref pB), some (.int sl), some (optV (apartI n [px, py, pq] [u, v, w])), some (.bl (farI n sl [px, py, pq] [u, v, w])), some (.ref pM), z12, none, none], ?_, ?_⟩
      · refine ⟨.ref p1, rfl, _, rfl, _, _, rfl, rfl, .inl ⟨p1, _, _, _, rfl, rfl, hL16, nthI (by omega) (by omega), .inl ⟨_, rfl, _, rfl, _, _, rfl, rfl, hn, ?_⟩⟩⟩
        refine ⟨.ref p1, rfl, _, rfl, _, _, rfl, rfl, .inl ⟨p1, _, _, _, rfl, rfl, hL16, nthI (by omega) (by omega), .inl ⟨_, rfl, _, rfl, _, _, rfl, rfl, hn, ?_⟩⟩⟩
        refine ⟨.ref p1, rfl, _, rfl, _, _, rfl, rfl, .inl ⟨p1, _, _, _, rfl, rfl, hL16, nthI (by omega) (by omega), .inl ⟨_, rfl, _, _, rfl, rfl, (by show (0 : Int) < 4; decide), ?_⟩⟩⟩
        refine ⟨(by show 3 ≤ sizeLine; decide), fun pM H17 s17 tM => ⟨_, _, _, pM, s17, ?_, tM, rfl⟩⟩
        exact poseT ⟨Int.emod_nonneg _ (by omega), Int.emod_lt_of_pos _ hn, Int.emod_nonneg _ (by omega), Int.emod_lt_of_pos _ hn, Int.emod_nonneg _ (by decide), by omega⟩
      rintro σ17 H17 ⟨i1, j1, l1, pM, s17, hposM, tM, rfl⟩
      have hM := of_decide_eq_true hposM
      have S17 := S16.trans s17
      refine ⟨.ref x, rfl, .ref x, rfl, .ref pA, rfl, .ref pM, rfl, x, pA, pM, n, [], [0, 0, 0, 1], [px, py, pq], [i1, j1, l1], rfl, sky_up (SK.trans S17) K4, hn, sqT_up S17 tA11, tM, fun _ _ H18 p18 s18 t18 => ?_, fun z => no hpose z, fun _ z => no hposM z⟩
      refine ⟨.ref x, rfl, .ref pB, rfl, .ref pM, rfl, x, pB, pM, n, [], [0, 0, 0, 1], [u, v, w], [i1, j1, l1], rfl, sky_up (SK.trans (S17.trans s18)) K4, hn, sqT_up (S17.trans s18) tB11, sqT_up s18 tM, fun _ _ H19 p19 s19 t19 => ?_, fun z => no hposB z, fun _ z => no hposM z⟩
      have S19 := (S17.trans s18).trans s19
      refine ⟨_, rfl, x, p18, p19, n, sl, [], [0, 0, 0, 1], _, _, rfl, sky_up (SK.trans S19) K4, hn, sqT_up s19 t18, t19, fun H20 l20 x20 y20 s20 e20 dx20 dy20 => ?_⟩
      have tm := told _ _ (comp_pose (n := n) (i := px) (j := py) (l := pq) (x := i1) (y := j1) (q := l1) hn) (comp_pose (n := n) (i := u) (j := v) (l := w) (x := i1) (y := j1) (q := l1) hn) (apart_mot hn4 hn9 hp.2.2.2.2.1 hp.2.2.2.2.2 hB.2.2.2.2.1 hB.2.2.2.2.2 hM.2.2.2.2.1 hM.2.2.2.2.2)
      rw [tm.1] at dx20
      rw [tm.2] at dy20
      refine ⟨_, rfl, _, rfl, (by show 2 ≤ sizeLine; decide), fun l21 H21 s21 _ e21 => ?_⟩
      refine ne_same lay (by decide) (dp_l (s21 _ _ e20) (.cons (dp_up s21 dx20) (.cons (dp_up s21 dy20) .nil))) (dp_l e21 (.cons (dp_opt _) (.cons (.bl _) .nil))) ⟨_, rfl, iteF ?_⟩
      have S21 := (S19.trans s20).trans s21
      -- command
      have hL21 : SqL K H21 p1 (ns.map V.int) := (S11.trans S21).seq hL5
      refine ⟨fun σ H22 => ∃ (i2 j2 l2 : Int) (pC : Addr), Same H21 H22 ∧ isPose n [i2, j2, l2] = true ∧ SqT K H22 pC [.int i2, .int j2, .int l2] ∧ σ = [some (.ref b), some (.ref p1), some (.int n), some (.ref x), some (.int (0 + (i : Int))), some (.int (1 + 12 * (0 + (i : Int)))), some (.ref pA), some (.ref pB), some (.int sl), some (optV (apartI n [px, py, pq] [u, v, w])), some (.bl (farI n sl [px, py, pq] [u, v, w])), some (.ref pM), some (.ref pC), none, none], ?_, ?_⟩
      · refine ⟨.ref p1, rfl, _, rfl, _, _, rfl, rfl, .inl ⟨p1, _, _, _, rfl, rfl, hL21, nthI (by omega) (by omega), .inl ⟨_, rfl, _, rfl, _, _, rfl, rfl, hn, ?_⟩⟩⟩
        refine ⟨.ref p1, rfl, _, rfl, _, _, rfl, rfl, .inl ⟨p1, _, _, _, rfl, rfl, hL21, nthI (by omega) (by omega), .inl ⟨_, rfl, _, rfl, _, _, rfl, rfl, hn, ?_⟩⟩⟩
        refine ⟨.ref p1, rfl, _, rfl, _, _, rfl, rfl, .inl ⟨p1, _, _, _, rfl, rfl, hL21, nthI (by omega) (by omega), .inl ⟨_, rfl, _, _, rfl, rfl, (by show (0 : Int) < 4; decide), ?_⟩⟩⟩
        refine ⟨(by show 3 ≤ sizeLine; decide), fun pC H22 s22 tC => ⟨_, _, _, pC, s22, ?_, tC, rfl⟩⟩
        exact poseT ⟨Int.emod_nonneg _ (by omega), Int.emod_lt_of_pos _ hn, Int.emod_nonneg _ (by omega), Int.emod_lt_of_pos _ hn, Int.emod_nonneg _ (by decide), by omega⟩
      rintro σ22 H22 ⟨i2, j2, l2, pC, s22, hposC, tC, rfl⟩
      have hC := of_decide_eq_true hposC
      have hcmd : isCmd n [i2, j2, l2] = true := decide_eq_true ⟨by omega, hC.2.1, by omega, hC.2.2.2.1, hC.2.2.2.2.1, hC.2.2.2.2.2⟩
      have S22 := S21.trans s22
      refine ⟨.ref x, rfl, .ref x, rfl, .ref pA, rfl, .ref pC, rfl, x, pA, pC, n, [], [0, 0, 0, 1], [px, py, pq], [i2, j2, l2], rfl, sky_up (SK.trans S22) K4, hn, sqT_up S22 tA11, tC, fun _ _ H23 p23 s23 t23 => ?_, fun z => no hpose z, fun _ z => no hcmd z⟩
      refine ⟨.ref x, rfl, .ref pB, rfl, .ref pC, rfl, x, pB, pC, n, [], [0, 0, 0, 1], [u, v, w], [i2, j2, l2], rfl, sky_up (SK.trans (S22.trans s23)) K4, hn, sqT_up (S22.trans s23) tB11, sqT_up s23 tC, fun _ _ H24 p24 s24 t24 => ?_, fun z => no hposB z, fun _ z => no hcmd z⟩
      have S24 := (S22.trans s23).trans s24
      refine ⟨_, rfl, x, p23, p24, n, sl, [], [0, 0, 0, 1], _, _, rfl, sky_up (SK.trans S24) K4, hn, sqT_up s24 t23, t24, fun H25 l25 x25 y25 s25 e25 dx25 dy25 => ?_⟩
      have tc' := told _ _ (comp_pose (n := n) (i := i2) (j := j2) (l := l2) (x := px) (y := py) (q := pq) hn) (comp_pose (n := n) (i := i2) (j := j2) (l := l2) (x := u) (y := v) (q := w) hn) (apart_cmd hp.2.2.2.2.1 hp.2.2.2.2.2 hB.2.2.2.2.1 hB.2.2.2.2.2)
      rw [tc'.1] at dx25
      rw [tc'.2] at dy25
      refine ⟨_, rfl, _, rfl, (by show 2 ≤ sizeLine; decide), fun l26 H26 s26 _ e26 => ?_⟩
      refine ne_same lay (by decide) (dp_l (s26 _ _ e25) (.cons (dp_up s26 dx25) (.cons (dp_up s26 dy25) .nil))) (dp_l e26 (.cons (dp_opt _) (.cons (.bl _) .nil))) ⟨_, rfl, iteF ?_⟩
      exact ⟨_, _, _, _, _, _, _, _, _, rfl, SK.trans ((S24.trans s25).trans s26)⟩
    · rintro σ H5 ⟨z4, z5, z6, z7, z8, z9, z10, z11, z12, rfl, s5⟩
      have hLs : SqL K H5 p1 (ns.map V.int) := (s14.trans s5).seq hL1
      refine ⟨fun σ H6 => ∃ (s : Addr) (ms : List Int), Same H5 H6 ∧ SqT K H6 s (ms.map V.int) ∧ isPose n ms = false ∧ σ = [some (.ref b), some (.ref p1), some (.int n), some (.ref x), z4, z5, z6, z7, z8, z9, z10, z11, z12, some (.ref s), none], ?_, ?_⟩
      · refine ⟨_, rfl, (by show 3 ≤ sizeLine; decide), fun q0 G0 g0 t0 => ?_⟩
        refine ⟨_, rfl, (by show 3 ≤ sizeLine; decide), fun q1 G1 g1 t1 => ?_⟩
        refine ⟨(by show 3 ≤ sizeLine; decide), fun q2 G2 g2 t2 => ?_⟩
        refine ⟨(by show 2 ≤ sizeLine; decide), fun q3 G3 g3 t3 => ?_⟩
        refine ⟨(by show 4 ≤ sizeLine; decide), fun ql G4 g4 _ el => ?_⟩
        have gAll : Same H5 G4 := g0.trans (g1.trans (g2.trans (g3.trans (g4))))
        refine ⟨.ref p1, rfl, .inl ⟨p1, _, _, _, rfl, rfl, gAll.seq hLs, nthI (by omega) (by omega), .inl ⟨_, rfl, _, _, rfl, rfl, (by show (0 : Int) < 4; decide), .inl ?_⟩⟩⟩
        obtain ⟨s, ms, e, ts, hs⟩ : ∃ s ms, atI [V.ref q0, V.ref q1, V.ref q2, V.ref q3] (numI ns 50 % 4) = some (.ref s) ∧ SqT K G4 s (ms.map V.int) ∧ isPose n ms = false := by
          have hj : numI ns 50 % 4 = 0 ∨ numI ns 50 % 4 = 1 ∨ numI ns 50 % 4 = 2 ∨ numI ns 50 % 4 = 3 := by omega
          rcases hj with hj | hj | hj | hj
          · exact ⟨q0, [n, 0, 0], by rw [hj]; rfl, sqT_up (g1.trans (g2.trans (g3.trans (g4)))) t0, poseF (by omega)⟩
          · exact ⟨q1, [0, -1, 0], by rw [hj]; rfl, sqT_up (g2.trans (g3.trans (g4))) t1, poseF (by omega)⟩
          · exact ⟨q2, [0, 0, 4], by rw [hj]; rfl, sqT_up (g3.trans (g4)) t2, poseF (by omega)⟩
          · exact ⟨q3, [0, 0], by rw [hj]; rfl, sqT_up (g4) t3, rfl⟩
        exact ⟨ql, _, _, _, rfl, rfl, .inl (.inl el), e, s, ms, gAll, ts, hs, rfl⟩
      rintro σ6 H6 ⟨s, ms, s6, ts, hs, rfl⟩
      clear hLs
      have hLs : SqL K H6 p1 (ns.map V.int) := ((s14.trans s5).trans s6).seq hL1
      refine ⟨fun σ H7 => ∃ (r : Addr) (ws : List Int), Same H6 H7 ∧ SqT K H7 r (ws.map V.int) ∧ isPose n ws = false ∧ σ = [some (.ref b), some (.ref p1), some (.int n), some (.ref x), z4, z5, z6, z7, z8, z9, z10, z11, z12, some (.ref s), some (.ref r)], ?_, ?_⟩
      · refine ⟨_, rfl, (by show 3 ≤ sizeLine; decide), fun q0 G0 g0 t0 => ?_⟩
        refine ⟨_, rfl, (by show 3 ≤ sizeLine; decide), fun q1 G1 g1 t1 => ?_⟩
        refine ⟨(by show 4 ≤ sizeLine; decide), fun q2 G2 g2 t2 => ?_⟩
        refine ⟨(by show 3 ≤ sizeLine; decide), fun ql G3 g3 _ el => ?_⟩
        have gAll : Same H6 G3 := g0.trans (g1.trans (g2.trans (g3)))
        refine ⟨.ref p1, rfl, .inl ⟨p1, _, _, _, rfl, rfl, gAll.seq hLs, nthI (by omega) (by omega), .inl ⟨_, rfl, _, _, rfl, rfl, (by show (0 : Int) < 3; decide), .inl ?_⟩⟩⟩
        obtain ⟨s, ms, e, ts, hs⟩ : ∃ s ms, atI [V.ref q0, V.ref q1, V.ref q2] (numI ns 51 % 3) = some (.ref s) ∧ SqT K G3 s (ms.map V.int) ∧ isPose n ms = false := by
          have hj : numI ns 51 % 3 = 0 ∨ numI ns 51 % 3 = 1 ∨ numI ns 51 % 3 = 2 := by omega
          rcases hj with hj | hj | hj
          · exact ⟨q0, [0, n, 0], by rw [hj]; rfl, sqT_up (g1.trans (g2.trans (g3))) t0, poseF (by omega)⟩
          · exact ⟨q1, [0, 0, -1], by rw [hj]; rfl, sqT_up (g2.trans (g3)) t1, poseF (by omega)⟩
          · exact ⟨q2, [0, 0, 0, 0], by rw [hj]; rfl, sqT_up (g3) t2, rfl⟩
        exact ⟨ql, _, _, _, rfl, rfl, .inl (.inl el), e, s, ms, gAll, ts, hs, rfl⟩
      rintro σ7 H7 ⟨r, ws, s7, tw, hw, rfl⟩
      have S7 := (s5.trans s6).trans s7
      have ts7 := sqT_up s7 ts
      have lay2 : ∀ zs : List Int, Lay 3 (.list [noD zs, noD zs]) := fun zs => lay_list (lay_2 (lay_no zs) (lay_no zs))
      refine ⟨.ref x, rfl, .ref s, rfl, .ref r, rfl, x, s, r, n, 0, [], [0, 0, 0, 1], ms, ws, rfl, sky_up S7 K4, hn, ts7, tw, fun H8 l8 x8 y8 s8 e8 dx8 dy8 => ?_⟩
      rw [show d1D n ms ws = noD ms by unfold d1D; rw [hs]; rfl] at dx8
      rw [show d2D n 0 ms ws = noD ms by unfold d2D; rw [hs]; rfl] at dy8
      refine ⟨.ref s, rfl, (by show 2 ≤ sizeLine; decide), fun p9 H9 s9 t9 => ⟨(by show 1 ≤ sizeLine; decide), fun l9 H10 s10 _ e10 => ?_⟩⟩
      refine ⟨l9, 2, _, rfl, rfl, e10, by decide, by decide, (by show 2 ≤ sizeLine; decide), fun l11 H11 s11 _ e11 => ?_⟩
      have S11 := (s9.trans s10).trans s11
      have dn : Dp K H11 (.ref p9) (noD ms) := dp_t (sqT_up (s10.trans s11) t9) (.cons (.str _) (.cons (dp_ti (sqT_up (s8.trans S11) ts7)) .nil))
      refine ne_same (lay2 ms) (by decide) (dp_l (S11 _ _ e8) (.cons (dp_up S11 dx8) (.cons (dp_up S11 dy8) .nil))) (dp_l e11 (.cons dn (.cons dn .nil))) ⟨_, rfl, iteF ?_⟩
      have T11 := s8.trans S11
      refine ⟨.ref x, rfl, (by show 3 ≤ sizeLine; decide), fun p12 H12 s12 t12 => ?_⟩
      have T12 := T11.trans s12
      refine ⟨.ref r, rfl, x, p12, r, n, 9, [], [0, 0, 0, 1], [0, 0, 0], ws, rfl, sky_up (S7.trans T12) K4, hn, t12, sqT_up T12 tw, fun H13 l13 x13 y13 s13 e13 dx13 dy13 => ?_⟩
      have h0 : isPose n [0, 0, 0] = true := poseT (by omega)
      rw [show d1D n [0, 0, 0] ws = noD ws by unfold d1D; rw [h0, hw]; rfl] at dx13
      rw [show d2D n 9 [0, 0, 0] ws = noD ws by unfold d2D; rw [h0, hw]; rfl] at dy13
      refine ⟨.ref r, rfl, (by show 2 ≤ sizeLine; decide), fun p14 H14 s14' t14 => ⟨(by show 1 ≤ sizeLine; decide), fun l14 H15 s15 _ e15 => ?_⟩⟩
      refine ⟨l14, 2, _, rfl, rfl, e15, by decide, by decide, (by show 2 ≤ sizeLine; decide), fun l16 H16 s16 _ e16 => ?_⟩
      have S16 := (s14'.trans s15).trans s16
      have dn' : Dp K H16 (.ref p14) (noD ws) := dp_t (sqT_up (s15.trans s16) t14) (.cons (.str _) (.cons (dp_ti (sqT_up ((T12.trans s13).trans S16) tw)) .nil))
      exact eq_same (lay2 ws) (by decide) (dp_l (S16 _ _ e13) (.cons (dp_up S16 dx13) (.cons (dp_up S16 dy13) .nil))) (dp_l e16 (.cons dn' (.cons dn' .nil))) (k _)

end
/-! ### what the top has written -/
set_option maxHeartbeats 8000000 in
theorem all_mk {w : World} {K : PySem.W.Frag} {h : Heap} {mg : Str → Option Value} {fa f1 f2 f3 f4 f5 f6 f7 f8 f9 f10 f11 f12 f13 f14 f15 f16 f17 f18 f19 f20 f21 f22 f23 f24 s1 g9 e1 ei1 eN1 ecd1 ecc1 e2 ei2 eN2 ecd2 ecc2 e3 ei3 eN3 ecd3 ecc3 q1 : Addr} (X : K.In h) (G : h.Ns mainGlobals mg) (hfa : mg "law" = some (.ref fa))
    {od1 an1 od2 an2 od3 an3 od4 an4 od5 an5 od6 an6 od7 an7 od8 an8 od9 an9 od10 an10 od11 an11 od12 an12 od13 an13 od14 an14 od15 an15 od16 an16 od17 an17 od18 an18 od19 an19 od20 an20 od21 an21 od22 an22 od23 an23 od24 an24 edd1 eod1 ean1 ecdd1 ecld1 edd2 eod2 ean2 ecdd2 ecld2 edd3 eod3 ean3 ecdd3 ecld3 : Option Addr} {sl1 sl2 sl3 sl4 sl5 sl6 sl7 sl8 sl9 sl10 sl11 sl12 sl13 sl14 sl15 sl16 sl17 sl18 sl19 sl20 sl21 sl22 sl23 sl24 eosl1 eccs1 ecsl1 eosl2 eccs2 ecsl2 eosl3 eccs3 ecsl3 : Array (Option Value)} {oc1 kV1 dc1 pm1 cd1 ct1 oc2 kV2 dc2 pm2 cd2 ct2 oc3 kV3 dc3 pm3 cd3 ct3 oc4 kV4 dc4 pm4 cd4 ct4 oc5 kV5 dc5 pm5 cd5 ct5 oc6 kV6 dc6 pm6 cd6 ct6 oc7 kV7 dc7 pm7 cd7 ct7 oc8 kV8 dc8 pm8 cd8 ct8 oc9 kV9 dc9 pm9 cd9 ct9 oc10 kV10 dc10 pm10 cd10 ct10 oc11 kV11 dc11 pm11 cd11 ct11 oc12 kV12 dc12 pm12 cd12 ct12 oc13 kV13 dc13 pm13 cd13 ct13 oc14 kV14 dc14 pm14 cd14 ct14 oc15 kV15 dc15 pm15 cd15 ct15 oc16 kV16 dc16 pm16 cd16 ct16 oc17 kV17 dc17 pm17 cd17 ct17 oc18 kV18 dc18 pm18 cd18 ct18 oc19 kV19 dc19 pm19 cd19 ct19 oc20 kV20 dc20 pm20 cd20 ct20 oc21 kV21 dc21 pm21 cd21 ct21 oc22 kV22 dc22 pm22 cd22 ct22 oc23 kV23 dc23 pm23 cd23 ct23 oc24 kV24 dc24 pm24 cd24 ct24 eoc1 edc1 epm1 ect1 eccl1 ecl1 eoc2 edc2 epm2 ect2 eccl2 ecl2 eoc3 edc3 epm3 ect3 eccl3 ecl3 : Value} {rs9 : List Value} {enm1 eq1 efl1 enm2 eq2 efl2 enm3 eq3 efl3 : Str} {ebs1 esub1 ebm1 ebs2 esub2 ebm2 ebs3 esub3 ebm3 : List Value} {eab1 eab2 eab3 : Bool} {eco1 eco2 eco3 : Option Bool} {ek1_0 ek1_1 ek1_2 ek1_3 ek1_4 ek2_0 ek2_1 ek2_2 ek2_3 ek2_4 ek3_0 ek3_1 ek3_2 ek3_3 ek3_4 : Option Value} {esn1 esn2 esn3 : List Str} {evs1 evs2 evs3 : Array Value} {etf1 etf2 etf3 : Tok} {ut0 ut1 : Tok}
    (a1 : PySem.W.nsIn K mainGlobals "quarter_turned" = some (some (.ref f1)))
    (l1 : K.lookup f1 = some ⟨oc1, od1, .func (PySem.W.fnOf "quarter_turned" "quarter_turned" (defArgs s_quarter_turned) (defBody s_quarter_turned) (defScope s_quarter_turned) .none kV1 dc1 pm1 an1 cd1 ct1), sl1⟩)
    (c1 : PySem.W.codeIn K cd1 "quarter_turned" = true)
    (k1 : PySem.W.keepIn K (.ref f1) = true)
    (a2 : PySem.W.nsIn K mainGlobals "is_pose" = some (some (.ref f2)))
    (l2 : K.lookup f2 = some ⟨oc2, od2, .func (PySem.W.fnOf "is_pose" "is_pose" (defArgs s_is_pose) (defBody s_is_pose) (defScope s_is_pose) .none kV2 dc2 pm2 an2 cd2 ct2), sl2⟩)
    (c2 : PySem.W.codeIn K cd2 "is_pose" = true)
    (k2 : PySem.W.keepIn K (.ref f2) = true)
    (a3 : PySem.W.nsIn K mainGlobals "composed" = some (some (.ref f3)))
    (l3 : K.lookup f3 = some ⟨oc3, od3, .func (PySem.W.fnOf "composed" "composed" (defArgs s_composed) (defBody s_composed) (defScope s_composed) .none kV3 dc3 pm3 an3 cd3 ct3), sl3⟩)
    (c3 : PySem.W.codeIn K cd3 "composed" = true)
    (k3 : PySem.W.keepIn K (.ref f3) = true)
    (a4 : PySem.W.nsIn K mainGlobals "is_side" = some (some (.ref f4)))
    (l4 : K.lookup f4 = some ⟨oc4, od4, .func (PySem.W.fnOf "is_side" "is_side" (defArgs s_is_side) (defBody s_is_side) (defScope s_is_side) .none kV4 dc4 pm4 an4 cd4 ct4), sl4⟩)
    (c4 : PySem.W.codeIn K cd4 "is_side" = true)
    (k4 : PySem.W.keepIn K (.ref f4) = true)
    (a5 : PySem.W.nsIn K mainGlobals "is_star" = some (some (.ref f5)))
    (l5 : K.lookup f5 = some ⟨oc5, od5, .func (PySem.W.fnOf "is_star" "is_star" (defArgs s_is_star) (defBody s_is_star) (defScope s_is_star) .none kV5 dc5 pm5 an5 cd5 ct5), sl5⟩)
    (c5 : PySem.W.codeIn K cd5 "is_star" = true)
    (k5 : PySem.W.keepIn K (.ref f5) = true)
    (a6 : PySem.W.nsIn K mainGlobals "is_camera" = some (some (.ref f6)))
    (l6 : K.lookup f6 = some ⟨oc6, od6, .func (PySem.W.fnOf "is_camera" "is_camera" (defArgs s_is_camera) (defBody s_is_camera) (defScope s_is_camera) .none kV6 dc6 pm6 an6 cd6 ct6), sl6⟩)
    (c6 : PySem.W.codeIn K cd6 "is_camera" = true)
    (k6 : PySem.W.keepIn K (.ref f6) = true)
    (a7 : PySem.W.nsIn K mainGlobals "_check_sky" = some (some (.ref f7)))
    (l7 : K.lookup f7 = some ⟨oc7, od7, .func (PySem.W.fnOf "_check_sky" "_check_sky" (defArgs s__check_sky) (defBody s__check_sky) (defScope s__check_sky) .none kV7 dc7 pm7 an7 cd7 ct7), sl7⟩)
    (c7 : PySem.W.codeIn K cd7 "_check_sky" = true)
    (k7 : PySem.W.keepIn K (.ref f7) = true)
    (l8 : K.lookup f8 = some ⟨oc8, od8, .func (PySem.W.fnOf "__init__" "Sky.__init__" (defArgs s_Skyx_initx) (defBody s_Skyx_initx) (defScope s_Skyx_initx) .none kV8 dc8 pm8 an8 cd8 ct8), sl8⟩)
    (c8 : PySem.W.codeIn K cd8 "Sky.__init__" = true)
    (k8 : PySem.W.keepIn K (.ref f8) = true)
    (l9 : K.lookup f9 = some ⟨oc9, od9, .func (PySem.W.fnOf "side" "Sky.side" (defArgs s_Sky_side) (defBody s_Sky_side) (defScope s_Sky_side) .none kV9 dc9 pm9 an9 cd9 ct9), sl9⟩)
    (c9 : PySem.W.codeIn K cd9 "Sky.side" = true)
    (k9 : PySem.W.keepIn K (.ref f9) = true)
    (a10 : PySem.W.nsIn K mainGlobals "check_attitude" = some (some (.ref f10)))
    (l10 : K.lookup f10 = some ⟨oc10, od10, .func (PySem.W.fnOf "check_attitude" "check_attitude" (defArgs s_check_attitude) (defBody s_check_attitude) (defScope s_check_attitude) .none kV10 dc10 pm10 an10 cd10 ct10), sl10⟩)
    (c10 : PySem.W.codeIn K cd10 "check_attitude" = true)
    (k10 : PySem.W.keepIn K (.ref f10) = true)
    (a11 : PySem.W.nsIn K mainGlobals "check_command" = some (some (.ref f11)))
    (l11 : K.lookup f11 = some ⟨oc11, od11, .func (PySem.W.fnOf "check_command" "check_command" (defArgs s_check_command) (defBody s_check_command) (defScope s_check_command) .none kV11 dc11 pm11 an11 cd11 ct11), sl11⟩)
    (c11 : PySem.W.codeIn K cd11 "check_command" = true)
    (k11 : PySem.W.keepIn K (.ref f11) = true)
    (a12 : PySem.W.nsIn K mainGlobals "check_motion" = some (some (.ref f12)))
    (l12 : K.lookup f12 = some ⟨oc12, od12, .func (PySem.W.fnOf "check_motion" "check_motion" (defArgs s_check_motion) (defBody s_check_motion) (defScope s_check_motion) .none kV12 dc12 pm12 an12 cd12 ct12), sl12⟩)
    (c12 : PySem.W.codeIn K cd12 "check_motion" = true)
    (k12 : PySem.W.keepIn K (.ref f12) = true)
    (a13 : PySem.W.nsIn K mainGlobals "check_two" = some (some (.ref f13)))
    (l13 : K.lookup f13 = some ⟨oc13, od13, .func (PySem.W.fnOf "check_two" "check_two" (defArgs s_check_two) (defBody s_check_two) (defScope s_check_two) .none kV13 dc13 pm13 an13 cd13 ct13), sl13⟩)
    (c13 : PySem.W.codeIn K cd13 "check_two" = true)
    (k13 : PySem.W.keepIn K (.ref f13) = true)
    (a14 : PySem.W.nsIn K mainGlobals "_is_command" = some (some (.ref f14)))
    (l14 : K.lookup f14 = some ⟨oc14, od14, .func (PySem.W.fnOf "_is_command" "_is_command" (defArgs s__is_command) (defBody s__is_command) (defScope s__is_command) .none kV14 dc14 pm14 an14 cd14 ct14), sl14⟩)
    (c14 : PySem.W.codeIn K cd14 "_is_command" = true)
    (k14 : PySem.W.keepIn K (.ref f14) = true)
    (a15 : PySem.W.nsIn K mainGlobals "_nearest" = some (some (.ref f15)))
    (l15 : K.lookup f15 = some ⟨oc15, od15, .func (PySem.W.fnOf "_nearest" "_nearest" (defArgs s__nearest) (defBody s__nearest) (defScope s__nearest) .none kV15 dc15 pm15 an15 cd15 ct15), sl15⟩)
    (c15 : PySem.W.codeIn K cd15 "_nearest" = true)
    (k15 : PySem.W.keepIn K (.ref f15) = true)
    (a16 : PySem.W.nsIn K mainGlobals "commanded" = some (some (.ref f16)))
    (l16 : K.lookup f16 = some ⟨oc16, od16, .func (PySem.W.fnOf "commanded" "commanded" (defArgs s_commanded) (defBody s_commanded) (defScope s_commanded) .none kV16 dc16 pm16 an16 cd16 ct16), sl16⟩)
    (c16 : PySem.W.codeIn K cd16 "commanded" = true)
    (k16 : PySem.W.keepIn K (.ref f16) = true)
    (a17 : PySem.W.nsIn K mainGlobals "moved" = some (some (.ref f17)))
    (l17 : K.lookup f17 = some ⟨oc17, od17, .func (PySem.W.fnOf "moved" "moved" (defArgs s_moved) (defBody s_moved) (defScope s_moved) .none kV17 dc17 pm17 an17 cd17 ct17), sl17⟩)
    (c17 : PySem.W.codeIn K cd17 "moved" = true)
    (k17 : PySem.W.keepIn K (.ref f17) = true)
    (a18 : PySem.W.nsIn K mainGlobals "apart" = some (some (.ref f18)))
    (l18 : K.lookup f18 = some ⟨oc18, od18, .func (PySem.W.fnOf "apart" "apart" (defArgs s_apart) (defBody s_apart) (defScope s_apart) .none kV18 dc18 pm18 an18 cd18 ct18), sl18⟩)
    (c18 : PySem.W.codeIn K cd18 "apart" = true)
    (k18 : PySem.W.keepIn K (.ref f18) = true)
    (a19 : PySem.W.nsIn K mainGlobals "are_far" = some (some (.ref f19)))
    (l19 : K.lookup f19 = some ⟨oc19, od19, .func (PySem.W.fnOf "are_far" "are_far" (defArgs s_are_far) (defBody s_are_far) (defScope s_are_far) .none kV19 dc19 pm19 an19 cd19 ct19), sl19⟩)
    (c19 : PySem.W.codeIn K cd19 "are_far" = true)
    (k19 : PySem.W.keepIn K (.ref f19) = true)
    (a20 : PySem.W.nsIn K mainGlobals "_law_row" = some (some (.ref f20)))
    (l20 : K.lookup f20 = some ⟨oc20, od20, .func (PySem.W.fnOf "_law_row" "_law_row" (defArgs s__law_row) (defBody s__law_row) (defScope s__law_row) .none kV20 dc20 pm20 an20 cd20 ct20), sl20⟩)
    (c20 : PySem.W.codeIn K cd20 "_law_row" = true)
    (k20 : PySem.W.keepIn K (.ref f20) = true)
    (a21 : PySem.W.nsIn K mainGlobals "_law_numbers" = some (some (.ref f21)))
    (l21 : K.lookup f21 = some ⟨oc21, od21, .func (PySem.W.fnOf "_law_numbers" "_law_numbers" (defArgs s__law_numbers) (defBody s__law_numbers) (defScope s__law_numbers) .none kV21 dc21 pm21 an21 cd21 ct21), sl21⟩)
    (c21 : PySem.W.codeIn K cd21 "_law_numbers" = true)
    (k21 : PySem.W.keepIn K (.ref f21) = true)
    (a22 : PySem.W.nsIn K mainGlobals "_law_rings" = some (some (.ref f22)))
    (l22 : K.lookup f22 = some ⟨oc22, od22, .func (PySem.W.fnOf "_law_rings" "_law_rings" (defArgs s__law_rings) (defBody s__law_rings) (defScope s__law_rings) .none kV22 dc22 pm22 an22 cd22 ct22), sl22⟩)
    (c22 : PySem.W.codeIn K cd22 "_law_rings" = true)
    (k22 : PySem.W.keepIn K (.ref f22) = true)
    (a23 : PySem.W.nsIn K mainGlobals "_law_told" = some (some (.ref f23)))
    (l23 : K.lookup f23 = some ⟨oc23, od23, .func (PySem.W.fnOf "_law_told" "_law_told" (defArgs s__law_told) (defBody s__law_told) (defScope s__law_told) .none kV23 dc23 pm23 an23 cd23 ct23), sl23⟩)
    (c23 : PySem.W.codeIn K cd23 "_law_told" = true)
    (k23 : PySem.W.keepIn K (.ref f23) = true)
    (a24 : PySem.W.nsIn K mainGlobals "law" = some (some (.ref f24)))
    (l24 : K.lookup f24 = some ⟨oc24, od24, .func (PySem.W.fnOf "law" "law" (defArgs s_law) (defBody s_law) (defScope s_law) .none kV24 dc24 pm24 an24 cd24 ct24), sl24⟩)
    (c24 : PySem.W.codeIn K cd24 "law" = true)
    (k24 : PySem.W.keepIn K (.ref f24) = true)
    (sa1 : PySem.W.nsIn K mainGlobals "Sky" = some (some (.ref s1)))
    (sp1 : PySem.W.plainGet K s1 Str.empty = true)
    (sh1 : PySem.W.hasDictIn K s1 = true)
    (so1 : PySem.W.plainOver K s1 = true)
    (ss1 : PySem.W.findIn K (.ref s1) "__setattr__" = some (some (.builtin "object.__setattr__")))
    (sm1 : PySem.W.makesIn K s1 = true)
    (sk1 : PySem.W.keepIn K (.ref s1) = true)
    (si1 : PySem.W.findIn K (.ref s1) "__init__" = some (some (.ref f8)))
    (sf1 : PySem.W.isFn K (.ref f8) = true)
    (sn1_0 : PySem.W.findIn K (.ref s1) "_side" = some none)
    (sn1_1 : PySem.W.findIn K (.ref s1) "_stars" = some none)
    (sn1_2 : PySem.W.findIn K (.ref s1) "_camera" = some none)
    (pa9 : PySem.W.findIn K (.ref s1) "side" = some (some (.ref g9)))
    (pg9 : PySem.W.specialIn K (.ref g9) "__get__" = some (some (.builtin "property.__get__")))
    (pt9 : PySem.W.takesIn K (.ref g9) = some true)
    (pr9 : PySem.W.recIn K g9 "property" = some (.ref f9 :: rs9))
    (ea1 : PySem.W.nsIn K mainGlobals "InvalidAttitude" = some (some (.ref e1)))
    (ex1 : K.lookup e1 = some (excClassObj enm1 eq1 e1 eN1 ebs1 ebm1 true esn1 esub1 eab1 eco1 edd1 ek1_0 ek1_1 ek1_2 ek1_3 ek1_4 "ValueError.__new__"))
    (er1 : PySem.HandSPX.refsVE ebm1 = true)
    (esa1 : PySem.W.findIn K (.ref e1) "__setattr__" = some (some (.builtin "object.__setattr__")))
    (ega1 : PySem.W.findIn K (.ref e1) "__getattribute__" = some (some (.builtin "BaseException.__getattribute__")))
    (egg1 : PySem.W.findIn K (.ref e1) "__getattr__" = some none)
    (enf1 : PySem.W.findIn K (.ref e1) "attitude" = some none)
    (eic1 : PySem.W.findIn K (.ref e1) "__init__" = some (some (.ref ei1)))
    (etc1 : PySem.W.typeIn K (.ref ei1) = some (.type "function"))
    (ekc1 : PySem.W.keepIn K (.ref e1) = true)
    (exc1 : PySem.W.subIn K (.ref e1) (.type "BaseException") = some true)
    (eve1 : PySem.W.subIn K (.ref e1) (.type "ValueError") = some true)
    (ety1 : PySem.W.typeIn K (.ref e1) = some (.type "type"))
    (ehd1 : PySem.W.hasDictIn K e1 = true)
    (ecl_1 : PySem.W.isClsIn K e1 = true)
    (ess1 : PySem.W.subIn K (.ref e1) (.ref e1) = some true)
    (eal1 : PySem.W.ks_superIn K e1 e1 "__init__" = some (some (.builtin "ValueError.__init__")))
    (ems1 : PySem.W.mroIn K e1 (.ref e1) = some true)
    (elf1 : K.lookup ei1 = some ⟨eoc1, eod1, .func (PySem.W.ksFn "__init__" "InvalidAttitude.__init__" (PySem.SwX.iA "attitude" ⟨11, 17, 11, 21⟩ ⟨11, 23, 11, 31⟩) (PySem.SwX.iB "no attitude of the sky" "attitude" 0 ⟨12, 8, 12, 13⟩ ⟨12, 8, 12, 15⟩ ⟨12, 8, 12, 24⟩ ⟨12, 25, 12, 49⟩ ⟨12, 8, 12, 50⟩ ⟨12, 8, 12, 50⟩ ⟨13, 8, 13, 12⟩ ⟨13, 8, 13, 21⟩ ⟨13, 24, 13, 32⟩ ⟨13, 8, 13, 32⟩) (PySem.SwX.iS "attitude") .none .none edc1 epm1 ean1 (.ref ecd1) ect1 ecc1), eosl1⟩)
    (ecI1 : PySem.W.codeIn K (.ref ecd1) "InvalidAttitude.__init__" = true)
    (ecL1 : K.lookup ecd1 = some ⟨eccl1, ecdd1, .fields evs1, eccs1⟩)
    (ecV1 : evs1[2]? = some (.str efl1 etf1))
    (ecF1 : ((PySem.Challenge.pw_starward_k07_how_far_attitudes_are.main.file : Str) == efl1) = true)
    (ecC1 : K.lookup ecc1 = some ⟨ecl1, ecld1, .cell (some (.ref e1)), ecsl1⟩)
    (ea2 : PySem.W.nsIn K mainGlobals "InvalidCommand" = some (some (.ref e2)))
    (ex2 : K.lookup e2 = some (excClassObj enm2 eq2 e2 eN2 ebs2 ebm2 true esn2 esub2 eab2 eco2 edd2 ek2_0 ek2_1 ek2_2 ek2_3 ek2_4 "ValueError.__new__"))
    (er2 : PySem.HandSPX.refsVE ebm2 = true)
    (esa2 : PySem.W.findIn K (.ref e2) "__setattr__" = some (some (.builtin "object.__setattr__")))
    (ega2 : PySem.W.findIn K (.ref e2) "__getattribute__" = some (some (.builtin "BaseException.__getattribute__")))
    (egg2 : PySem.W.findIn K (.ref e2) "__getattr__" = some none)
    (enf2 : PySem.W.findIn K (.ref e2) "command" = some none)
    (eic2 : PySem.W.findIn K (.ref e2) "__init__" = some (some (.ref ei2)))
    (etc2 : PySem.W.typeIn K (.ref ei2) = some (.type "function"))
    (ekc2 : PySem.W.keepIn K (.ref e2) = true)
    (exc2 : PySem.W.subIn K (.ref e2) (.type "BaseException") = some true)
    (eve2 : PySem.W.subIn K (.ref e2) (.type "ValueError") = some true)
    (ety2 : PySem.W.typeIn K (.ref e2) = some (.type "type"))
    (ehd2 : PySem.W.hasDictIn K e2 = true)
    (ecl_2 : PySem.W.isClsIn K e2 = true)
    (ess2 : PySem.W.subIn K (.ref e2) (.ref e2) = some true)
    (eal2 : PySem.W.ks_superIn K e2 e2 "__init__" = some (some (.builtin "ValueError.__init__")))
    (ems2 : PySem.W.mroIn K e2 (.ref e2) = some true)
    (elf2 : K.lookup ei2 = some ⟨eoc2, eod2, .func (PySem.W.ksFn "__init__" "InvalidCommand.__init__" (PySem.SwX.iA "command" ⟨16, 17, 16, 21⟩ ⟨16, 23, 16, 30⟩) (PySem.SwX.iB "no command for the sky" "command" 0 ⟨17, 8, 17, 13⟩ ⟨17, 8, 17, 15⟩ ⟨17, 8, 17, 24⟩ ⟨17, 25, 17, 49⟩ ⟨17, 8, 17, 50⟩ ⟨17, 8, 17, 50⟩ ⟨18, 8, 18, 12⟩ ⟨18, 8, 18, 20⟩ ⟨18, 23, 18, 30⟩ ⟨18, 8, 18, 30⟩) (PySem.SwX.iS "command") .none .none edc2 epm2 ean2 (.ref ecd2) ect2 ecc2), eosl2⟩)
    (ecI2 : PySem.W.codeIn K (.ref ecd2) "InvalidCommand.__init__" = true)
    (ecL2 : K.lookup ecd2 = some ⟨eccl2, ecdd2, .fields evs2, eccs2⟩)
    (ecV2 : evs2[2]? = some (.str efl2 etf2))
    (ecF2 : ((PySem.Challenge.pw_starward_k07_how_far_attitudes_are.main.file : Str) == efl2) = true)
    (ecC2 : K.lookup ecc2 = some ⟨ecl2, ecld2, .cell (some (.ref e2)), ecsl2⟩)
    (ea3 : PySem.W.nsIn K mainGlobals "InvalidMotion" = some (some (.ref e3)))
    (ex3 : K.lookup e3 = some (excClassObj enm3 eq3 e3 eN3 ebs3 ebm3 true esn3 esub3 eab3 eco3 edd3 ek3_0 ek3_1 ek3_2 ek3_3 ek3_4 "ValueError.__new__"))
    (er3 : PySem.HandSPX.refsVE ebm3 = true)
    (esa3 : PySem.W.findIn K (.ref e3) "__setattr__" = some (some (.builtin "object.__setattr__")))
    (ega3 : PySem.W.findIn K (.ref e3) "__getattribute__" = some (some (.builtin "BaseException.__getattribute__")))
    (egg3 : PySem.W.findIn K (.ref e3) "__getattr__" = some none)
    (enf3 : PySem.W.findIn K (.ref e3) "motion" = some none)
    (eic3 : PySem.W.findIn K (.ref e3) "__init__" = some (some (.ref ei3)))
    (etc3 : PySem.W.typeIn K (.ref ei3) = some (.type "function"))
    (ekc3 : PySem.W.keepIn K (.ref e3) = true)
    (exc3 : PySem.W.subIn K (.ref e3) (.type "BaseException") = some true)
    (eve3 : PySem.W.subIn K (.ref e3) (.type "ValueError") = some true)
    (ety3 : PySem.W.typeIn K (.ref e3) = some (.type "type"))
    (ehd3 : PySem.W.hasDictIn K e3 = true)
    (ecl_3 : PySem.W.isClsIn K e3 = true)
    (ess3 : PySem.W.subIn K (.ref e3) (.ref e3) = some true)
    (eal3 : PySem.W.ks_superIn K e3 e3 "__init__" = some (some (.builtin "ValueError.__init__")))
    (ems3 : PySem.W.mroIn K e3 (.ref e3) = some true)
    (elf3 : K.lookup ei3 = some ⟨eoc3, eod3, .func (PySem.W.ksFn "__init__" "InvalidMotion.__init__" (PySem.SwX.iA "motion" ⟨21, 17, 21, 21⟩ ⟨21, 23, 21, 29⟩) (PySem.SwX.iB "no motion of the sky" "motion" 0 ⟨22, 8, 22, 13⟩ ⟨22, 8, 22, 15⟩ ⟨22, 8, 22, 24⟩ ⟨22, 25, 22, 47⟩ ⟨22, 8, 22, 48⟩ ⟨22, 8, 22, 48⟩ ⟨23, 8, 23, 12⟩ ⟨23, 8, 23, 19⟩ ⟨23, 22, 23, 28⟩ ⟨23, 8, 23, 28⟩) (PySem.SwX.iS "motion") .none .none edc3 epm3 ean3 (.ref ecd3) ect3 ecc3), eosl3⟩)
    (ecI3 : PySem.W.codeIn K (.ref ecd3) "InvalidMotion.__init__" = true)
    (ecL3 : K.lookup ecd3 = some ⟨eccl3, ecdd3, .fields evs3, eccs3⟩)
    (ecV3 : evs3[2]? = some (.str efl3 etf3))
    (ecF3 : ((PySem.Challenge.pw_starward_k07_how_far_attitudes_are.main.file : Str) == efl3) = true)
    (ecC3 : K.lookup ecc3 = some ⟨ecl3, ecld3, .cell (some (.ref e3)), ecsl3⟩)
    (eopq : PySem.W.nsIn K cStatics "thirdparty.any" = some none)
    (esup : PySem.W.nsIn K mainGlobals "super" = some none)
    (qa1 : PySem.W.nsIn K mainGlobals "InvalidSky" = some (some (.ref q1)))
    (uc0 : PySem.W.nsIn K mainGlobals "MOST_STARS" = some (some (.int 20 ut0)))
    (uc1 : PySem.W.nsIn K mainGlobals "BRIGHTEST" = some (some (.int 9 ut1)))
    (z0 : PySem.W.nsIn K mainGlobals "len" = some none)
    (z1 : PySem.W.nsIn K mainGlobals "abs" = some none)
    (z2 : PySem.W.nsIn K mainGlobals "int" = some none)
    (z3 : PySem.W.nsIn K mainGlobals "max" = some none)
    (z4 : PySem.W.nsIn K mainGlobals "range" = some none)
    (z5 : PySem.W.nsIn K mainGlobals "tuple" = some none)
    (z6 : PySem.W.nsIn K mainGlobals "isinstance" = some none)
    (z7 : PySem.W.nsIn K mainGlobals "sorted" = some none)
    (z8 : PySem.W.nsIn K mainGlobals "set" = some none)
    (z9 : PySem.W.nsIn K mainGlobals "bool" = some none) :
    ∃ fd : FuncData, (∀ (s : Shared) (v : Value), BindsTo s fd ⟨[v], []⟩ [("script", v)]) ∧ ∀ base : Heap, K.In base → base.Ns mainGlobals mg → FnOk PySem.Challenge.pw_starward_k07_how_far_attitudes_are w K mg base CX0 8 fa fd ["script"] (spLaw K) := by
  have e := hfa.symm.trans (PySem.W.mg_of X G a24)
  cases e
  have F1 := fun_mk (st := s_quarter_turned) l1 c1 k1
  have F2 := fun_mk (st := s_is_pose) l2 c2 k2
  have F3 := fun_mk (st := s_composed) l3 c3 k3
  have F4 := fun_mk (st := s_is_side) l4 c4 k4
  have F5 := fun_mk (st := s_is_star) l5 c5 k5
  have F6 := fun_mk (st := s_is_camera) l6 c6 k6
  have F7 := fun_mk (st := s__check_sky) l7 c7 k7
  have F8 := fun_mk (st := s_Skyx_initx) l8 c8 k8
  have F9 := fun_mk (st := s_Sky_side) l9 c9 k9
  have F10 := fun_mk (st := s_check_attitude) l10 c10 k10
  have F11 := fun_mk (st := s_check_command) l11 c11 k11
  have F12 := fun_mk (st := s_check_motion) l12 c12 k12
  have F13 := fun_mk (st := s_check_two) l13 c13 k13
  have F14 := fun_mk (st := s__is_command) l14 c14 k14
  have F15 := fun_mk (st := s__nearest) l15 c15 k15
  have F16 := fun_mk (st := s_commanded) l16 c16 k16
  have F17 := fun_mk (st := s_moved) l17 c17 k17
  have F18 := fun_mk (st := s_apart) l18 c18 k18
  have F19 := fun_mk (st := s_are_far) l19 c19 k19
  have F20 := fun_mk (st := s__law_row) l20 c20 k20
  have F21 := fun_mk (st := s__law_numbers) l21 c21 k21
  have F22 := fun_mk (st := s__law_rings) l22 c22 k22
  have F23 := fun_mk (st := s__law_told) l23 c23 k23
  have F24 := fun_mk (st := s_law) l24 c24 k24
  have T : Txt PySem.Challenge.pw_starward_k07_how_far_attitudes_are K mg { f_quarter_turned := f1, fd_quarter_turned := PySem.W.fnOf "quarter_turned" "quarter_turned" (defArgs s_quarter_turned) (defBody s_quarter_turned) (defScope s_quarter_turned) .none kV1 dc1 pm1 an1 cd1 ct1, f_is_pose := f2, fd_is_pose := PySem.W.fnOf "is_pose" "is_pose" (defArgs s_is_pose) (defBody s_is_pose) (defScope s_is_pose) .none kV2 dc2 pm2 an2 cd2 ct2, f_composed := f3, fd_composed := PySem.W.fnOf "composed" "composed" (defArgs s_composed) (defBody s_composed) (defScope s_composed) .none kV3 dc3 pm3 an3 cd3 ct3, f_is_side := f4, fd_is_side := PySem.W.fnOf "is_side" "is_side" (defArgs s_is_side) (defBody s_is_side) (defScope s_is_side) .none kV4 dc4 pm4 an4 cd4 ct4, f_is_star := f5, fd_is_star := PySem.W.fnOf "is_star" "is_star" (defArgs s_is_star) (defBody s_is_star) (defScope s_is_star) .none kV5 dc5 pm5 an5 cd5 ct5, f_is_camera := f6, fd_is_camera := PySem.W.fnOf "is_camera" "is_camera" (defArgs s_is_camera) (defBody s_is_camera) (defScope s_is_camera) .none kV6 dc6 pm6 an6 cd6 ct6, f__check_sky := f7, fd__check_sky := PySem.W.fnOf "_check_sky" "_check_sky" (defArgs s__check_sky) (defBody s__check_sky) (defScope s__check_sky) .none kV7 dc7 pm7 an7 cd7 ct7, f_Skyx_initx := f8, fd_Skyx_initx := PySem.W.fnOf "__init__" "Sky.__init__" (defArgs s_Skyx_initx) (defBody s_Skyx_initx) (defScope s_Skyx_initx) .none kV8 dc8 pm8 an8 cd8 ct8, f_Sky_side := f9, fd_Sky_side := PySem.W.fnOf "side" "Sky.side" (defArgs s_Sky_side) (defBody s_Sky_side) (defScope s_Sky_side) .none kV9 dc9 pm9 an9 cd9 ct9, f_check_attitude := f10, fd_check_attitude := PySem.W.fnOf "check_attitude" "check_attitude" (defArgs s_check_attitude) (defBody s_check_attitude) (defScope s_check_attitude) .none kV10 dc10 pm10 an10 cd10 ct10, f_check_command := f11, fd_check_command := PySem.W.fnOf "check_command" "check_command" (defArgs s_check_command) (defBody s_check_command) (defScope s_check_command) .none kV11 dc11 pm11 an11 cd11 ct11, f_check_motion := f12, fd_check_motion := PySem.W.fnOf "check_motion" "check_motion" (defArgs s_check_motion) (defBody s_check_motion) (defScope s_check_motion) .none kV12 dc12 pm12 an12 cd12 ct12, f_check_two := f13, fd_check_two := PySem.W.fnOf "check_two" "check_two" (defArgs s_check_two) (defBody s_check_two) (defScope s_check_two) .none kV13 dc13 pm13 an13 cd13 ct13, f__is_command := f14, fd__is_command := PySem.W.fnOf "_is_command" "_is_command" (defArgs s__is_command) (defBody s__is_command) (defScope s__is_command) .none kV14 dc14 pm14 an14 cd14 ct14, f__nearest := f15, fd__nearest := PySem.W.fnOf "_nearest" "_nearest" (defArgs s__nearest) (defBody s__nearest) (defScope s__nearest) .none kV15 dc15 pm15 an15 cd15 ct15, f_commanded := f16, fd_commanded := PySem.W.fnOf "commanded" "commanded" (defArgs s_commanded) (defBody s_commanded) (defScope s_commanded) .none kV16 dc16 pm16 an16 cd16 ct16, f_moved := f17, fd_moved := PySem.W.fnOf "moved" "moved" (defArgs s_moved) (defBody s_moved) (defScope s_moved) .none kV17 dc17 pm17 an17 cd17 ct17, f_apart := f18, fd_apart := PySem.W.fnOf "apart" "apart" (defArgs s_apart) (defBody s_apart) (defScope s_apart) .none kV18 dc18 pm18 an18 cd18 ct18, f_are_far := f19, fd_are_far := PySem.W.fnOf "are_far" "are_far" (defArgs s_are_far) (defBody s_are_far) (defScope s_are_far) .none kV19 dc19 pm19 an19 cd19 ct19, f__law_row := f20, fd__law_row := PySem.W.fnOf "_law_row" "_law_row" (defArgs s__law_row) (defBody s__law_row) (defScope s__law_row) .none kV20 dc20 pm20 an20 cd20 ct20, f__law_numbers := f21, fd__law_numbers := PySem.W.fnOf "_law_numbers" "_law_numbers" (defArgs s__law_numbers) (defBody s__law_numbers) (defScope s__law_numbers) .none kV21 dc21 pm21 an21 cd21 ct21, f__law_rings := f22, fd__law_rings := PySem.W.fnOf "_law_rings" "_law_rings" (defArgs s__law_rings) (defBody s__law_rings) (defScope s__law_rings) .none kV22 dc22 pm22 an22 cd22 ct22, f__law_told := f23, fd__law_told := PySem.W.fnOf "_law_told" "_law_told" (defArgs s__law_told) (defBody s__law_told) (defScope s__law_told) .none kV23 dc23 pm23 an23 cd23 ct23, f_law := fa, fd_law := PySem.W.fnOf "law" "law" (defArgs s_law) (defBody s_law) (defScope s_law) .none kV24 dc24 pm24 an24 cd24 ct24, c_Sky := s1, g_Sky_side := g9, c_InvalidAttitude := e1, i_InvalidAttitude := ei1, c_InvalidCommand := e2, i_InvalidCommand := ei2, c_InvalidMotion := e3, i_InvalidMotion := ei3, c_InvalidSky := q1, u_MOST_STARS := .int 20 ut0, u_BRIGHTEST := .int 9 ut1 } := {
    F_quarter_turned := F1,
    b_quarter_turned := F1.binds (ps := ["quarters", "pair"]) fun _ _ _ _ _ _ us hl => match us, hl with | [_, _], _ => rfl,
    m_quarter_turned := PySem.W.mg_of X G a1,
    F_is_pose := F2,
    b_is_pose := F2.binds (ps := ["side", "told"]) fun _ _ _ _ _ _ us hl => match us, hl with | [_, _], _ => rfl,
    m_is_pose := PySem.W.mg_of X G a2,
    F_composed := F3,
    b_composed := F3.binds (ps := ["side", "first", "second"]) fun _ _ _ _ _ _ us hl => match us, hl with | [_, _, _], _ => rfl,
    m_composed := PySem.W.mg_of X G a3,
    F_is_side := F4,
    b_is_side := F4.binds (ps := ["side"]) fun _ _ _ _ _ _ us hl => match us, hl with | [_], _ => rfl,
    m_is_side := PySem.W.mg_of X G a4,
    F_is_star := F5,
    b_is_star := F5.binds (ps := ["side", "star"]) fun _ _ _ _ _ _ us hl => match us, hl with | [_, _], _ => rfl,
    m_is_star := PySem.W.mg_of X G a5,
    F_is_camera := F6,
    b_is_camera := F6.binds (ps := ["side", "camera"]) fun _ _ _ _ _ _ us hl => match us, hl with | [_, _], _ => rfl,
    m_is_camera := PySem.W.mg_of X G a6,
    F__check_sky := F7,
    b__check_sky := F7.binds (ps := ["side", "stars", "camera"]) fun _ _ _ _ _ _ us hl => match us, hl with | [_, _, _], _ => rfl,
    m__check_sky := PySem.W.mg_of X G a7,
    F_Skyx_initx := F8,
    b_Skyx_initx := F8.binds (ps := ["self", "side", "stars", "camera"]) fun _ _ _ _ _ _ us hl => match us, hl with | [_, _, _, _], _ => rfl,
    F_Sky_side := F9,
    b_Sky_side := F9.binds (ps := ["self"]) fun _ _ _ _ _ _ us hl => match us, hl with | [_], _ => rfl,
    F_check_attitude := F10,
    b_check_attitude := F10.binds (ps := ["sky", "attitude"]) fun _ _ _ _ _ _ us hl => match us, hl with | [_, _], _ => rfl,
    m_check_attitude := PySem.W.mg_of X G a10,
    F_check_command := F11,
    b_check_command := F11.binds (ps := ["sky", "command"]) fun _ _ _ _ _ _ us hl => match us, hl with | [_, _], _ => rfl,
    m_check_command := PySem.W.mg_of X G a11,
    F_check_motion := F12,
    b_check_motion := F12.binds (ps := ["sky", "motion"]) fun _ _ _ _ _ _ us hl => match us, hl with | [_, _], _ => rfl,
    m_check_motion := PySem.W.mg_of X G a12,
    F_check_two := F13,
    b_check_two := F13.binds (ps := ["sky", "one", "other"]) fun _ _ _ _ _ _ us hl => match us, hl with | [_, _, _], _ => rfl,
    m_check_two := PySem.W.mg_of X G a13,
    F__is_command := F14,
    b__is_command := F14.binds (ps := ["side", "command"]) fun _ _ _ _ _ _ us hl => match us, hl with | [_, _], _ => rfl,
    m__is_command := PySem.W.mg_of X G a14,
    F__nearest := F15,
    b__nearest := F15.binds (ps := ["side", "part"]) fun _ _ _ _ _ _ us hl => match us, hl with | [_, _], _ => rfl,
    m__nearest := PySem.W.mg_of X G a15,
    F_commanded := F16,
    b_commanded := F16.binds (ps := ["sky", "attitude", "command"]) fun _ _ _ _ _ _ us hl => match us, hl with | [_, _, _], _ => rfl,
    m_commanded := PySem.W.mg_of X G a16,
    F_moved := F17,
    b_moved := F17.binds (ps := ["sky", "attitude", "motion"]) fun _ _ _ _ _ _ us hl => match us, hl with | [_, _, _], _ => rfl,
    m_moved := PySem.W.mg_of X G a17,
    F_apart := F18,
    b_apart := F18.binds (ps := ["sky", "one", "other"]) fun _ _ _ _ _ _ us hl => match us, hl with | [_, _, _], _ => rfl,
    m_apart := PySem.W.mg_of X G a18,
    F_are_far := F19,
    b_are_far := F19.binds (ps := ["sky", "one", "other", "slack"]) fun _ _ _ _ _ _ us hl => match us, hl with | [_, _, _, _], _ => rfl,
    m_are_far := PySem.W.mg_of X G a19,
    F__law_row := F20,
    b__law_row := F20.binds (ps := ["cell", "many"]) fun _ _ _ _ _ _ us hl => match us, hl with | [_, _], _ => rfl,
    m__law_row := PySem.W.mg_of X G a20,
    F__law_numbers := F21,
    b__law_numbers := F21.binds (ps := ["script", "many"]) fun _ _ _ _ _ _ us hl => match us, hl with | [_, _], _ => rfl,
    m__law_numbers := PySem.W.mg_of X G a21,
    F__law_rings := F22,
    b__law_rings := F22.binds (ps := ["side", "one", "other"]) fun _ _ _ _ _ _ us hl => match us, hl with | [_, _, _], _ => rfl,
    m__law_rings := PySem.W.mg_of X G a22,
    F__law_told := F23,
    b__law_told := F23.binds (ps := ["sky", "one", "other", "slack"]) fun _ _ _ _ _ _ us hl => match us, hl with | [_, _, _, _], _ => rfl,
    m__law_told := PySem.W.mg_of X G a23,
    F_law := F24,
    cl_Sky := ⟨sp1, sh1, so1, ss1⟩,
    m_Sky := PySem.W.mg_of X G sa1,
    M_Sky := ⟨sm1, si1, sf1, sk1⟩,
    n_Sky__side := sn1_0,
    n_Sky__stars := sn1_1,
    n_Sky__camera := sn1_2,
    p_Sky_side := ⟨pa9, pg9, pt9, ⟨_, pr9⟩⟩,
    S_InvalidAttitude := { gC := PySem.W.mg_of X G ea1, cls := ⟨_, _, _, _, _, _, _, _, _, _, _, _, _, _, _, ex1, er1⟩, sa := esa1, ga := ega1, gg := egg1, noF := enf1, iC := eic1, tC := etc1, kC := ekc1, exC := exc1, veC := eve1, tyC := ety1, hdC := ehd1, te := exm_of exc1 ecl_1 ety1 ess1, al := eal1, self_ := ems1, opq := eopq, nsS := PySem.W.mg_none_of X G esup, okf := by decide +kernel, okc := by decide +kernel, oks := by decide +kernel, okv := by decide +kernel, okd := by decide +kernel, fn := ⟨_, _, _, _, _, _, _, _, _, _, _, _, _, _, _, _, _, _, _, _, _, _, _, _, elf1, ecI1, ⟨_, _, _, _, _, _, ecL1, ecV1, ecF1⟩, ⟨_, _, _, ecC1⟩, fun _ _ => rfl, ⟨_, fun _ => rfl⟩⟩, top := by decide +kernel },
    S_InvalidCommand := { gC := PySem.W.mg_of X G ea2, cls := ⟨_, _, _, _, _, _, _, _, _, _, _, _, _, _, _, ex2, er2⟩, sa := esa2, ga := ega2, gg := egg2, noF := enf2, iC := eic2, tC := etc2, kC := ekc2, exC := exc2, veC := eve2, tyC := ety2, hdC := ehd2, te := exm_of exc2 ecl_2 ety2 ess2, al := eal2, self_ := ems2, opq := eopq, nsS := PySem.W.mg_none_of X G esup, okf := by decide +kernel, okc := by decide +kernel, oks := by decide +kernel, okv := by decide +kernel, okd := by decide +kernel, fn := ⟨_, _, _, _, _, _, _, _, _, _, _, _, _, _, _, _, _, _, _, _, _, _, _, _, elf2, ecI2, ⟨_, _, _, _, _, _, ecL2, ecV2, ecF2⟩, ⟨_, _, _, ecC2⟩, fun _ _ => rfl, ⟨_, fun _ => rfl⟩⟩, top := by decide +kernel },
    S_InvalidMotion := { gC := PySem.W.mg_of X G ea3, cls := ⟨_, _, _, _, _, _, _, _, _, _, _, _, _, _, _, ex3, er3⟩, sa := esa3, ga := ega3, gg := egg3, noF := enf3, iC := eic3, tC := etc3, kC := ekc3, exC := exc3, veC := eve3, tyC := ety3, hdC := ehd3, te := exm_of exc3 ecl_3 ety3 ess3, al := eal3, self_ := ems3, opq := eopq, nsS := PySem.W.mg_none_of X G esup, okf := by decide +kernel, okc := by decide +kernel, oks := by decide +kernel, okv := by decide +kernel, okd := by decide +kernel, fn := ⟨_, _, _, _, _, _, _, _, _, _, _, _, _, _, _, _, _, _, _, _, _, _, _, _, elf3, ecI3, ⟨_, _, _, _, _, _, ecL3, ecV3, ecF3⟩, ⟨_, _, _, ecC3⟩, fun _ _ => rfl, ⟨_, fun _ => rfl⟩⟩, top := by decide +kernel },
    m_MOST_STARS := PySem.W.mg_of X G uc0,
    v_MOST_STARS := ⟨_, rfl⟩,
    m_BRIGHTEST := PySem.W.mg_of X G uc1,
    v_BRIGHTEST := ⟨_, rfl⟩,
    z_len := PySem.W.mg_none_of X G z0,
    z_abs := PySem.W.mg_none_of X G z1,
    z_int := PySem.W.mg_none_of X G z2,
    z_max := PySem.W.mg_none_of X G z3,
    z_range := PySem.W.mg_none_of X G z4,
    z_tuple := PySem.W.mg_none_of X G z5,
    z_isinstance := PySem.W.mg_none_of X G z6,
    z_sorted := PySem.W.mg_none_of X G z7,
    z_set := PySem.W.mg_none_of X G z8,
    z_bool := PySem.W.mg_none_of X G z9 }
  exact ⟨_, fun s v => .of_eq rfl, fun base _ _ => ok_law T⟩
end SwT
open PySem PySem.W PyProof.Rows
set_option maxRecDepth 100000 in
set_option maxHeartbeats 0 in
theorem PySem.Challenge.cw_starward_k07_how_far_attitudes_are_holds : PySem.Challenge.rw_starward_k07_how_far_attitudes_are.Holds := by
  w_on; o_law; k_head; (case hw => w_witness2)
  k_fill
  refine L2.walk_of (l := PySem.Challenge.rw_starward_k07_how_far_attitudes_are) (n := 63) (k := 8) (x := "script") (CX := fun _ => L2.CX0) (sp := fun w => Sw.spLaw _) rfl (by decide) rfl ⟨rfl, by decide, by decide⟩ (fun w h Y => PySem.W.kIn_of Y) ?F (fun _ _ a ns hl _ hS => ⟨a, ns, rfl, hS, hl, fun _ => rfl⟩) (fun _ _ _ _ _ h => h)
  case F =>
    intro w mg fa h KX G hmg
    refine' SwT.all_mk KX G hmg ?a1 ?l1 ?c1 ?k1 ?a2 ?l2 ?c2 ?k2 ?a3 ?l3 ?c3 ?k3 ?a4 ?l4 ?c4 ?k4 ?a5 ?l5 ?c5 ?k5 ?a6 ?l6 ?c6 ?k6 ?a7 ?l7 ?c7 ?k7 ?l8 ?c8 ?k8 ?l9 ?c9 ?k9 ?a10 ?l10 ?c10 ?k10 ?a11 ?l11 ?c11 ?k11 ?a12 ?l12 ?c12 ?k12 ?a13 ?l13 ?c13 ?k13 ?a14 ?l14 ?c14 ?k14 ?a15 ?l15 ?c15 ?k15 ?a16 ?l16 ?c16 ?k16 ?a17 ?l17 ?c17 ?k17 ?a18 ?l18 ?c18 ?k18 ?a19 ?l19 ?c19 ?k19 ?a20 ?l20 ?c20 ?k20 ?a21 ?l21 ?c21 ?k21 ?a22 ?l22 ?c22 ?k22 ?a23 ?l23 ?c23 ?k23 ?a24 ?l24 ?c24 ?k24 ?sa1 ?sp1 ?sh1 ?so1 ?ss1 ?sm1 ?sk1 ?si1 ?sf1 ?sn1_0 ?sn1_1 ?sn1_2 ?pa9 ?pg9 ?pt9 ?pr9 ?ea1 ?ex1 ?er1 ?esa1 ?ega1 ?egg1 ?enf1 ?eic1 ?etc1 ?ekc1 ?exc1 ?eve1 ?ety1 ?ehd1 ?ecl_1 ?ess1 ?eal1 ?ems1 ?elf1 ?ecI1 ?ecL1 ?ecV1 ?ecF1 ?ecC1 ?ea2 ?ex2 ?er2 ?esa2 ?ega2 ?egg2 ?enf2 ?eic2 ?etc2 ?ekc2 ?exc2 ?eve2 ?ety2 ?ehd2 ?ecl_2 ?ess2 ?eal2 ?ems2 ?elf2 ?ecI2 ?ecL2 ?ecV2 ?ecF2 ?ecC2 ?ea3 ?ex3 ?er3 ?esa3 ?ega3 ?egg3 ?enf3 ?eic3 ?etc3 ?ekc3 ?exc3 ?eve3 ?ety3 ?ehd3 ?ecl_3 ?ess3 ?eal3 ?ems3 ?elf3 ?ecI3 ?ecL3 ?ecV3 ?ecF3 ?ecC3 ?eopq ?esup ?qa1 ?uc0 ?uc1 ?z0 ?z1 ?z2 ?z3 ?z4 ?z5 ?z6 ?z7 ?z8 ?z9
    (case a1 => k_is)
    (case a2 => k_is)
    (case a3 => k_is)
    (case a4 => k_is)
    (case a5 => k_is)
    (case a6 => k_is)
    (case a7 => k_is)
    (case a10 => k_is)
    (case a11 => k_is)
    (case a12 => k_is)
    (case a13 => k_is)
    (case a14 => k_is)
    (case a15 => k_is)
    (case a16 => k_is)
    (case a17 => k_is)
    (case a18 => k_is)
    (case a19 => k_is)
    (case a20 => k_is)
    (case a21 => k_is)
    (case a22 => k_is)
    (case a23 => k_is)
    (case a24 => k_is)
    (case sa1 => k_is)
    (case pa9 => k_is)
    (case ea1 => k_is)
    (case ea2 => k_is)
    (case ea3 => k_is)
    (case qa1 => k_is)
    (case uc0 => k_is)
    (case uc1 => k_is)
    (case si1 => k_is)
    (case pr9 => k_is)
    (case eic1 => k_is)
    (case eic2 => k_is)
    (case eic3 => k_is)
    (case elf1 => k_is)
    (case elf2 => k_is)
    (case elf3 => k_is)
    (case l1 => k_is)
    (case c1 => k_is)
    (case k1 => k_is)
    (case l2 => k_is)
    (case c2 => k_is)
    (case k2 => k_is)
    (case l3 => k_is)
    (case c3 => k_is)
    (case k3 => k_is)
    (case l4 => k_is)
    (case c4 => k_is)
    (case k4 => k_is)
    (case l5 => k_is)
    (case c5 => k_is)
    (case k5 => k_is)
    (case l6 => k_is)
    (case c6 => k_is)
    (case k6 => k_is)
    (case l7 => k_is)
    (case c7 => k_is)
    (case k7 => k_is)
    (case l8 => k_is)
    (case c8 => k_is)
    (case k8 => k_is)
    (case l9 => k_is)
    (case c9 => k_is)
    (case k9 => k_is)
    (case l10 => k_is)
    (case c10 => k_is)
    (case k10 => k_is)
    (case l11 => k_is)
    (case c11 => k_is)
    (case k11 => k_is)
    (case l12 => k_is)
    (case c12 => k_is)
    (case k12 => k_is)
    (case l13 => k_is)
    (case c13 => k_is)
    (case k13 => k_is)
    (case l14 => k_is)
    (case c14 => k_is)
    (case k14 => k_is)
    (case l15 => k_is)
    (case c15 => k_is)
    (case k15 => k_is)
    (case l16 => k_is)
    (case c16 => k_is)
    (case k16 => k_is)
    (case l17 => k_is)
    (case c17 => k_is)
    (case k17 => k_is)
    (case l18 => k_is)
    (case c18 => k_is)
    (case k18 => k_is)
    (case l19 => k_is)
    (case c19 => k_is)
    (case k19 => k_is)
    (case l20 => k_is)
    (case c20 => k_is)
    (case k20 => k_is)
    (case l21 => k_is)
    (case c21 => k_is)
    (case k21 => k_is)
    (case l22 => k_is)
    (case c22 => k_is)
    (case k22 => k_is)
    (case l23 => k_is)
    (case c23 => k_is)
    (case k23 => k_is)
    (case l24 => k_is)
    (case c24 => k_is)
    (case k24 => k_is)
    (case sp1 => k_is)
    (case sh1 => k_is)
    (case so1 => k_is)
    (case ss1 => k_is)
    (case sm1 => k_is)
    (case sk1 => k_is)
    (case sf1 => k_is)
    (case sn1_0 => k_is)
    (case sn1_1 => k_is)
    (case sn1_2 => k_is)
    (case pg9 => k_is)
    (case pt9 => k_is)
    (case ex1 => k_is)
    (case er1 => decide +kernel)
    (case esa1 => k_is)
    (case ega1 => k_is)
    (case egg1 => k_is)
    (case enf1 => k_is)
    (case etc1 => k_is)
    (case ekc1 => k_is)
    (case exc1 => k_is)
    (case eve1 => k_is)
    (case ety1 => k_is)
    (case ehd1 => k_is)
    (case ecl_1 => k_is)
    (case ess1 => first | rfl | k_is)
    (case eal1 => first | k_is | ks_is)
    (case ems1 => k_is)
    (case ecI1 => k_is)
    (case ecL1 => k_is)
    (case ecV1 => rfl)
    (case ecF1 => decide +kernel)
    (case ecC1 => k_is)
    (case ex2 => k_is)
    (case er2 => decide +kernel)
    (case esa2 => k_is)
    (case ega2 => k_is)
    (case egg2 => k_is)
    (case enf2 => k_is)
    (case etc2 => k_is)
    (case ekc2 => k_is)
    (case exc2 => k_is)
    (case eve2 => k_is)
    (case ety2 => k_is)
    (case ehd2 => k_is)
    (case ecl_2 => k_is)
    (case ess2 => first | rfl | k_is)
    (case eal2 => first | k_is | ks_is)
    (case ems2 => k_is)
    (case ecI2 => k_is)
    (case ecL2 => k_is)
    (case ecV2 => rfl)
    (case ecF2 => decide +kernel)
    (case ecC2 => k_is)
    (case ex3 => k_is)
    (case er3 => decide +kernel)
    (case esa3 => k_is)
    (case ega3 => k_is)
    (case egg3 => k_is)
    (case enf3 => k_is)
    (case etc3 => k_is)
    (case ekc3 => k_is)
    (case exc3 => k_is)
    (case eve3 => k_is)
    (case ety3 => k_is)
    (case ehd3 => k_is)
    (case ecl_3 => k_is)
    (case ess3 => first | rfl | k_is)
    (case eal3 => first | k_is | ks_is)
    (case ems3 => k_is)
    (case ecI3 => k_is)
    (case ecL3 => k_is)
    (case ecV3 => rfl)
    (case ecF3 => decide +kernel)
    (case ecC3 => k_is)
    (case eopq => k_is)
    (case esup => k_is)
    (case z0 => k_is)
    (case z1 => k_is)
    (case z2 => k_is)
    (case z3 => k_is)
    (case z4 => k_is)
    (case z5 => k_is)
    (case z6 => k_is)
    (case z7 => k_is)
    (case z8 => k_is)
    (case z9 => k_is)
#print axioms PySem.Challenge.cw_starward_k07_how_far_attitudes_are_holds

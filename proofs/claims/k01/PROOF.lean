import PyProof.Rows.All
import Wide.All
import OpenK.AllK
import Wide.FinOn
import KE.KExcSuper
import HandS.ForMost
import HandS.ForExc
import HandS.Property
import HandS.Codes
import HandS.TryMany
import HandS.Strs
import HandS.Deep
import HandS.IsInst
import HandS.TupSets
import HandS.Flt
import HandS.TryOnly
import HandS.TupAny
import HandS.Style
import HandS.Call
import HandS.Exc
import PySem.Challenge.RW_starward_k01_skies_taken_and_refused
set_option Elab.async false
set_option linter.all false
set_option maxRecDepth 100000
set_option maxHeartbeats 4000000
set_option Elab.async false
set_option linter.all false
set_option maxRecDepth 100000
set_option maxHeartbeats 4000000
/-! An error class of the program over ValueError, at any depth, whose making says super's making of a text and keeps one field. -/
namespace PySem
namespace SwX
open PySem.W PySem.Calls PyProof.Rows PySem.HandSPX
def iA (fld : Str) (p1 p2 : Pos) : Arguments := { posonlyargs := [], args := [{ arg := "self", annotation := none, pos := p1 }, { arg := fld, annotation := none, pos := p2 }], vararg := none, kwonlyargs := [], kw_defaults := [], kwarg := none, defaults := [] }
def iB (txt fld : Str) (kx : Nat) (q1 q2 q3 q4 q5 q6 r1 r2 r3 r4 : Pos) : List Stmt :=
  [.Expr (.Call (.Attribute (.Call (.Name "super" q1) [] [] q2) "__init__" q3) [.Constant (.str txt) kx q4] [] q5) q6, .Assign [.Attribute (.Name "self" r1) fld r2] (.Name fld r3) r4]
def iS (fld : Str) : Scope := { kind := .function, names := [(PySem.Str.ofString "self", .local), (fld, .local), (PySem.Str.ofString "__class__", .free), (PySem.Str.ofString "super", .globalImplicit)], isGenerator := false, isCoroutine := false, more := [] }
/-- the call of super's making, read step by step -/
def SupEv (txt : Str) (kx : Nat) (q1 q2 q3 q4 q5 : Pos) : Prop := ∃ pl : Env → Sem Bool, ∀ env : Env, eval (.Call (.Attribute (.Call (.Name "super" q1) [] [] q2) "__init__" q3) [.Constant (.str txt) kx q4] [] q5) env = (do
    let ov ← attributeBase (.Call (.Name "super" q1) [] [] q2) "__init__" env (eval (.Call (.Name "super" q1) [] [] q2) env)
    standAt q3.atName
    let (f, first) ← holding [ov] (getMethod ov "__init__" (pl env))
    callWith q5 f first (backTo q5 (starEach [.Constant (.str txt) kx q4] env)) [])
example : SupEv "no attitude" 0 ⟨27, 8, 27, 13⟩ ⟨27, 8, 27, 15⟩ ⟨27, 8, 27, 24⟩ ⟨27, 25, 27, 49⟩ ⟨27, 8, 27, 50⟩ := ⟨_, fun _ => rfl⟩
structure SErr (P : Program) (K : Frag) (mg : Str → Option Value) (x fld : Str) (C fI : Addr) : Prop where
  gC : mg x = some (.ref C)
  cls : ∃ nm q N bs bm sn sub ab col dd k0 k1 k2 k3 k5, K.lookup C = some (excClassObj nm q C N bs bm true sn sub ab col dd k0 k1 k2 k3 k5 "ValueError.__new__") ∧ refsVE bm = true
  sa : findIn K (.ref C) "__setattr__" = some (some (.builtin "object.__setattr__"))
  ga : findIn K (.ref C) "__getattribute__" = some (some (.builtin "BaseException.__getattribute__"))
  gg : findIn K (.ref C) "__getattr__" = some none
  noF : findIn K (.ref C) fld = some none
  iC : findIn K (.ref C) "__init__" = some (some (.ref fI))
  tC : typeIn K (.ref fI) = some (.type "function")
  kC : keepIn K (.ref C) = true
  exC : subIn K (.ref C) (.type "BaseException") = some true
  veC : subIn K (.ref C) (.type "ValueError") = some true
  tyC : typeIn K (.ref C) = some (.type "type")
  hdC : hasDictIn K C = true
  te : exmOne K (.ref C) (.ref C) = some true
  al : ks_superIn K C C "__init__" = some (some (.builtin "ValueError.__init__"))
  self_ : mroIn K C (.ref C) = some true
  opq : nsIn K cStatics "thirdparty.any" = some none
  nsS : mg "super" = none
  okf : (fld == ("self" : Str)) = false
  okc : (("__class__" : Str) == fld) = false
  oks : (("super" : Str) == fld) = false
  okv : (("self" : Str) == fld) = false
  okd : (fld == ("__debug__" : Str)) = false
  fn : ∃ (oc : Value) (od : Option Addr) (doc pm : Value) (an : Option Addr) (cda cc : Addr) (ct : Value) (qual txt : Str) (kx : Nat) (osl : Array (Option Value)) (p1 p2 q1 q2 q3 q4 q5 q6 r1 r2 r3 r4 : Pos),
    K.lookup fI = some ⟨oc, od, .func (ksFn "__init__" qual (iA fld p1 p2) (iB txt fld kx q1 q2 q3 q4 q5 q6 r1 r2 r3 r4) (iS fld) .none .none doc pm an (.ref cda) ct cc), osl⟩ ∧ codeIn K (.ref cda) qual = true ∧
    (∃ ccl cdd vs ccs file tf, K.lookup cda = some ⟨ccl, cdd, .fields vs, ccs⟩ ∧ vs[2]? = some (.str file tf) ∧ ((P.main.file : Str) == file) = true) ∧
    (∃ cl cld csl, K.lookup cc = some ⟨cl, cld, .cell (some (.ref C)), csl⟩) ∧
    (∀ (x : Addr) (v : Value), bindArgs (ksFn "__init__" qual (iA fld p1 p2) (iB txt fld kx q1 q2 q3 q4 q5 q6 r1 r2 r3 r4) (iS fld) .none .none doc pm an (.ref cda) ct cc) ⟨[.ref x, v], []⟩ = pure [(("self" : Str), Value.ref x), (fld, v)]) ∧ SupEv txt kx q1 q2 q3 q4 q5
  top : (P.main.scope.names.lookup ("super" : Str)).isSome = false
theorem one_size (v : Value) : [v].length ≤ sizeLine := by
  rw [sizeLine_eq]
  exact (by decide : 1 ≤ 16777216)
/-- what the making leaves of a fresh exception at x -/
structure InitEnd (h h' : Heap) (x C dx t1 : Addr) (fld : Str) (v : Value) : Prop where
  keep : ∀ b o, b ≠ x → h.get? b = some o → h'.get? b = some o
  obj : h'.get? x = some { cls := .ref C, dict := some dx, data := .fields #[.ref t1, .none, .none, .none, .bool false, .none] }
  dbig : h.objs.size ≤ dx
  dne : dx ≠ x
  ns : h'.Ns1 dx (fun y => if y = fld then some v else none)
structure OwnMade (h h' : Heap) (e C d : Addr) (fld : Str) (v : Value) : Prop where
  keep : ∀ b o, h.get? b = some o → h'.get? b = some o
  new : h.objs.size ≤ e
  obj : ∃ t1 : Addr, h'.get? e = some ({ cls := .ref C, dict := some d, data := .fields #[.ref t1, .none, .none, .none, .bool false, .none] } : Obj)
  dbig : h.objs.size ≤ d
  dne : d ≠ e
  ns : h'.Ns1 d (fun y => if y = fld then some v else none)
section
variable {prog : Program} {w : World} {A : Around} {E : Value → Shared → Prop} {R : Result → Shared → Prop} {s : Shared} {K : Frag} {mg mb : Str → Option Value} {C fI : Addr} {xn fld : Str}
theorem sup_init (T : SErr prog K mg xn fld C fI) {x t0 : Addr} {v : Value} (X : K.In s.heap) (hlim : s.heap.NoLimit) (hg : s.heap.Ns mainGlobals mg) (hb : s.heap.Ns builtinsNs mb) (hbs : mb "super" = bootBuiltins "super")
    (hx : s.heap.get? x = some (excO C t0)) (hnx : K.lookup x = none) (hroom : A.depth < recursionLimit)
    (hq : ∀ h' tk dx t1, InitEnd s.heap h' x C dx t1 fld v → R (.ok (.ret .none)) { s with heap := h', toks := tk }) :
    codeAny (model prog w) A (.call (.ref fI) ⟨[.ref x, v], []⟩) R s := by
  obtain ⟨oc, od, doc, pm, an, cda, cc, ct, qual, txt, kx, osl, p1, p2, q1, q2, q3, q4, q5, q6, r1, r2, r3, r4, ho, hcd, ⟨ccl, cdd, vs, ccs, file, tf, hcode, hvs, hfile⟩, ⟨cl, cld, csl, hcell⟩, hbnd, ⟨pl, hev⟩⟩ := T.fn
  obtain ⟨nm, q, N, bs, bm, sn, sub, ab, col, dd, k0, k1, k2, k3, k5, hC, hbm⟩ := T.cls
  have hcl : clsIn K C = some { name := nm, bases := bs, mro := .ref C :: bm, ns := N, qualname := q, hasDict := true, slotNames := sn, subclasses := sub, abstract := ab, collection := col, hasDel := false } := by unfold clsIn; rw [hC] <;> rfl
  have hf1 : fld ≠ "self" := by simpa using T.okf
  have hlk : (iS fld).names.lookup fld = some .local := by
    show (List.lookup fld [(PySem.Str.ofString "self", NameKind.local), (fld, .local), (PySem.Str.ofString "__class__", .free), (PySem.Str.ofString "super", .globalImplicit)]) = some .local
    rw [List.lookup_cons]
    rw [show (fld == PySem.Str.ofString "self") = false from T.okf]
    simp
  have hkS : (iS fld).names.lookup ("super" : Str) = some .globalImplicit := by
    show (List.lookup ("super" : Str) [(PySem.Str.ofString "self", NameKind.local), (fld, .local), (PySem.Str.ofString "__class__", .free), (PySem.Str.ofString "super", .globalImplicit)]) = some .globalImplicit
    rw [List.lookup_cons, show (("super" : Str) == PySem.Str.ofString "self") = false by decide +kernel]
    simp only
    rw [List.lookup_cons, T.oks]
    rfl
  have hkC : (iS fld).names.lookup ("__class__" : Str) = some .free := by
    show (List.lookup ("__class__" : Str) [(PySem.Str.ofString "self", NameKind.local), (fld, .local), (PySem.Str.ofString "__class__", .free), (PySem.Str.ofString "super", .globalImplicit)]) = some .free
    rw [List.lookup_cons, show (("__class__" : Str) == PySem.Str.ofString "self") = false by decide +kernel]
    simp only
    rw [List.lookup_cons, T.okc]
    rfl
  have hself : List.lookup ("self" : Str) [(("self" : Str), Value.ref x), (fld, v)].reverse = some (Value.ref x) := by
    show List.lookup ("self" : Str) [(fld, v), (("self" : Str), Value.ref x)] = some (Value.ref x)
    rw [List.lookup_cons, T.okv]
    rfl
  have hfld : List.lookup fld [(("self" : Str), Value.ref x), (fld, v)].reverse = some v := by
    show List.lookup fld [(fld, v), (("self" : Str), Value.ref x)] = some v
    rw [List.lookup_cons, show (fld == fld) = true by simp]
  refine ks_codeAny_call_defAt (fd := ksFn "__init__" qual (iA fld p1 p2) (iB txt fld kx q1 q2 q3 q4 q5 q6 r1 r2 r3 r4) (iS fld) .none .none doc pm an (.ref cda) ct cc) (body := iB txt fld kx q1 q2 q3 q4 q5 q6 r1 r2 r3 r4) (binds := [(("self" : Str), Value.ref x), (fld, v)]) hroom (X _ _ ho) rfl hlim (codeRec_of X hcd) rfl
    (BindsTo.of_eq (hbnd x v)) ?_ ?_ (fun h₁ hn hk₁ => ?_) rfl rfl rfl
  · intro y hy
    simp only [iS, List.mem_cons, List.not_mem_nil, or_false] at hy
    rcases hy with rfl | rfl | rfl | rfl <;> simp
  · intro y hy
    rcases List.mem_cons.mp hy with rfl | hy
    · rfl
    rcases List.mem_cons.mp hy with rfl | hy
    · exact hlk
    · cases hy
  · have X₁ : K.In h₁ := X.keeps hk₁
    have hx₁ := hk₁ _ _ hx
    have hL : s.heap.objs.size ≠ x := Nat.ne_of_gt (Heap.lt_size hx)
    obtain ⟨hp, g, d, t, os⟩ := s
    obtain ⟨oD, hD1, hD2⟩ : ∃ oD, h₁.get? C = some oD ∧ oD.data = .cls { name := nm, bases := bs, mro := .ref C :: bm, ns := N, qualname := q, hasDict := true, slotNames := sn, subclasses := sub, abstract := ab, collection := col, hasDel := false } := ⟨_, X₁ _ _ hC, rfl⟩
    have xC : x ≠ C := fun z => by
      rw [z, X₁ _ _ hC] at hx₁
      cases hx₁
    refine ks_wpAt_execs_cons (ks_wpAt_Expr_any (ks_wpAt_MethodCall ?_ (hev _)))
    refine ks_wpAt_super_base (oc := ⟨ccl, cdd, .fields vs, ccs⟩) hkS hkC rfl rfl (X₁ _ _ ho) rfl rfl rfl (X₁ _ _ hcode) rfl hvs hfile T.top ?_
    refine ks_loadName_global rfl hkS (loadGlobal_builtin (hg.keeps hk₁) T.nsS (hb.keeps hk₁) (hbs.trans (by decide +kernel)) ⟨rfl, ?_⟩)
    refine wpAny_loadName_free rfl hkC rfl ⟨_, X₁ _ _ hcell, rfl⟩ ?_
    refine wpAny_loadName_local rfl rfl hn (v := .ref x) hself ?_
    refine ks_wpAny_isType_cls hD1 hD2 ⟨rfl, ?_⟩
    refine ks_wpAny_call_super hD1 hD2 hx₁ rfl (fun c e => by cases e) (looks_mroIn X₁ T.self_) (fun h2 e2 k2 => ?_)
    have X2 : K.In h2 := X₁.keeps k2
    have hx2 := k2 _ _ hx₁
    have I2 : InstAt h2 x (excO C t0) C none := ⟨hx2, rfl, rfl, trivial⟩
    refine kxs_getMethod kxs_ValueError e2 (looks_opaque X2 T.opq) (l₀ := .ref C :: bm) (fun A Q E s k q => wpAny_bind ((looks_clsIn X2 hcl) A _ E s k (wpAny_pure q))) rfl X2 ?_ (I2.type.andThen (looks_subIn X2 T.veC)) xC rfl ?_
    · have z := T.al
      unfold ks_superIn at z
      rw [hcl] at z
      exact z
    -- the wrapper is called with the text
    have hu0 : (h2.push (kxs_mw "ValueError.__init__" x)).get? h2.objs.size = some (kxs_mw "ValueError.__init__" x) := Heap.get?_push_at rfl rfl
    have k3 : ∀ b o, h2.get? b = some o → (h2.push (kxs_mw "ValueError.__init__" x)).get? b = some o := fun b o e => Heap.get?_push_of_some _ e
    refine kxs_callWith (i := "ValueError.__init__") (x := x) (by rfl) ?_
    refine evalArgs_plain ?_
    refine Calls.spliced_cons ?_
    show wpAny _ _ (eval (.Constant (.str txt) kx q4) _) _ _ _
    refine Calls.Constant_str ?_
    refine Calls.spliced_nil ⟨hu0, ?_⟩
    refine wpAny_call (codeAny_of_tree ?_)
    show wpAny _ _ (callAny (.ref h2.objs.size) ⟨[Value.str txt _], []⟩) _ _ _
    simp only [callAny]
    refine wpAny_bind (wpAny_load hu0 ?_)
    simp only [kxs_mw, show (Value.type "method-wrapper" == Value.type "method" || Value.type "method-wrapper" == Value.type "builtin_function_or_method" || Value.type "method-wrapper" == Value.type "method-wrapper") = true by decide, if_true]
    refine KFB.if_so (by decide) ?_
    refine wpAny_bind (check_bound_init F.excBase_ValueError.toExcCallFacts (k3 _ _ (X2 _ _ hC)) (k3 _ _ hx2) rfl ?_)
    refine wpAny_bind (wpAny_pure (wpAny_pure ?_))
    refine ⟨plainId_quiet F.excBase_ValueError.init.plain _, codeAny_builtin F.excBase_ValueError.initEntry ?_⟩
    refine exc_init_tree (cls := .ref C) (t0 := t0) (dv := none) (c2 := .none) (c3 := .none) (b4 := .bool false) (k3 _ _ hx2) (one_size _) (fun h4 k4 e4 t4 => ?_)
    -- self.fld = fld
    show wpAt _ _ _ (execs _ _) _ _ _
    have up : ∀ b o, b ≠ x → h₁.get? b = some o → h4.get? b = some o := fun b o hb e => k4 b o hb (k3 _ _ (k2 _ _ e))
    have X4 : K.In h4 := fun b o e => up b o (fun z => by rw [z, hnx] at e; cases e) (X₁ _ _ e)
    have hn4 : h4.Ns hp.objs.size (fun y => List.lookup y [(("self" : Str), Value.ref x), (fld, v)].reverse) := hn.at (fun o e => up _ o hL e)
    refine ks_wpAt_execs_cons (ks_wpAt_Assign_Attr (wpAt_of_wpAny (wpAny_Name (wpAny_loadName_local rfl hlk hn4 hfld (wpAny_Name (wpAny_loadName_local rfl rfl hn4 hself ?_) rfl)) ?_)))
    · refine set_plain X4 (ox := excO C _) (od := none) ⟨e4, rfl, rfl, trivial⟩ T.sa ?_
      refine exc_osa X4 e4 hcl (show refsVE (.ref C :: bm) = true from hbm) rfl T.noF (fun h5 tk5 dx k5 dn dne hx5 hn5 => ?_)
      show wpAt _ _ _ (execs _ _) _ _ _
      have z : hp.objs.size < h4.objs.size := hn4.lt
      exact wpAt_of_wpAny (wpAny_execs_nil (hq h5 tk5 dx _ ⟨fun b o hb e => k5 b o hb (up b o hb (hk₁ b o e)), hx5, Nat.le_of_lt (Nat.lt_of_lt_of_le z dn), dne, hn5⟩))
    · exact T.okd
theorem sup_made (T : SErr prog K mg xn fld C fI) {v : Value} (X : K.In s.heap) (hlim : s.heap.NoLimit) (hg : s.heap.Ns mainGlobals mg) (hb : s.heap.Ns builtinsNs mb) (hbs : mb "super" = bootBuiltins "super") (hroom : A.depth + 1 < recursionLimit)
    (hq : ∀ h' tk e d, OwnMade s.heap h' e C d fld v → R (.ok (.ret (.ref e))) { s with heap := h', toks := tk }) :
    codeAny (model prog w) A (.call (.ref C) ⟨[v], []⟩) R s := by
  obtain ⟨nm, q, N, bs, bm, sn, sub, ab, col, dd, k0, k1, k2, k3, k5, hC, hbm⟩ := T.cls
  obtain ⟨hp, g, dr, tk, os⟩ := s
  have k : ∀ b o, hp.get? b = some o → ((hp.push (kdv_tup [v])).push (excO C hp.objs.size)).get? b = some o := fun b o e => Heap.get?_push_of_some _ (Heap.get?_push_of_some _ e)
  have hget : ((hp.push (kdv_tup [v])).push (excO C hp.objs.size)).get? (hp.objs.size + 1) = some (excO C hp.objs.size) := by heap_get
  have hnx : K.lookup (hp.objs.size + 1) = none := by
    cases e : K.lookup (hp.objs.size + 1) with
    | none => rfl
    | some o =>
      have z : hp.get? (hp.objs.size + 1) = some o := X _ _ e
      exact absurd (Nat.lt_of_succ_lt (Heap.lt_size z)) (Nat.lt_irrefl _)
  refine call_own F.excBase_ValueError (fun Y => refsVE_contains Y bm hbm) (X _ _ hC) (looks_findIn X T.iC) (fun self => bind_fn X self T.tC) (one_size v) ?_
  refine sup_init (s := ⟨(hp.push (kdv_tup [v])).push (excO C hp.objs.size), g, dr, tk, os⟩) T (X.keeps k) (hlim.keeps k) (hg.keeps k) (hb.keeps k) hbs hget hnx ?_ fun h' tk' dx t1 ⟨k', hx, dn, dne, hns⟩ => ?_
  · show A.depth + 1 < recursionLimit
    exact hroom
  · have old : ∀ b o, hp.get? b = some o → h'.get? b = some o := fun b o e => k' b o (Nat.ne_of_lt (Nat.lt_succ_of_lt (Heap.lt_size e))) (k b o e)
    have z : hp.objs.size + 1 + 1 ≤ dx := by
      first
        | (simpa only [Heap.size_push] using dn)
        | exact dn
        | (have q := dn; rw [Heap.size_push, Heap.size_push] at q; exact q)
    exact ⟨rfl, hq h' tk' (hp.objs.size + 1) dx ⟨old, Nat.le_succ _, ⟨_, hx⟩, Nat.le_trans (Nat.le_trans (Nat.le_succ _) (Nat.le_succ _)) z, dne, hns⟩⟩

end
end SwX
end PySem
namespace L2
open PySem PySem.Spec PyProof.Rows
theorem relO_one {f g : Str} {v : V} {u : Value} (r : RelV v u) : RelO (List.lookup g [(f, v)]) (if g = f then some u else none) := by
  by_cases hw : g = f
  · subst hw
    rw [if_pos rfl, show List.lookup g [(g, v)] = some v by simp [List.lookup]]
    exact r
  · rw [if_neg hw, show List.lookup g [(f, v)] = none by
      have qw : (g == f) = false := by simpa using hw
      simp [List.lookup, qw]]
    trivial
section
variable {X : Cx} {C fI : Addr} {xn fld : Str}
/-- X(e), X such a class: its own dict d, new, keeps the field -/
def tMkS (C : Addr) (fld : Str) (ta : TA) : St → Hp → XK → Prop := fun σ H Q => ta σ H fun vs H1 => ∃ v, vs = [v] ∧ ∀ d, H1 d = none → Q (.ref C) (some d) (upd H1 d (.xd [(fld, v)]))
theorem pmk_sup {a : Expr} {ta : TA} {p pos : Pos} {k : Nat} (T : PySem.SwX.SErr X.prog X.K X.mg xn fld C fI) (hr : Room k X.A) (ha : PA X [a] ta) (hg : Gl X xn := by rfl) (hdb : (xn == ("__debug__" : Str)) = false := by decide)
    (he : starEach (a :: []) X.env = (false, eval a X.env) :: starEach [] X.env := by rfl) (hpl : (backTo pos (starEach [] X.env)).any (·.1) = false := by rfl) :
    PMk X (.Call (.Name xn p) [a] [] pos) (tMkS C fld ta) := by
  intro pins s σ H Q I h
  refine wpAny_Call_Name_kw (ld_glob I hg T.gC ?_ hdb)
  refine PySem.W.callWith_K (h₀ := X.base) I.ok.mod.kin T.kC (thn (ha.run pos pins s σ H _ I h) fun us s1 hh => ?_) he hpl
  obtain ⟨vs, H1, I1, r1, v, ev, q1⟩ := hh
  subst ev
  refine ⟨I1.kIn, ?_⟩
  cases r1 with
  | cons rv rn =>
    rename_i v' us'
    cases rn
    show wpAny _ _ (call (.ref C) [v']) _ _ _
    have hlim := I1.nolimit
    obtain ⟨mb, hb1, hb2⟩ := I1.mod.blt
    have hgl := I1.mod.glob.keeps I1.bk
    have hbl := hb1.keeps I1.bk
    have hkin := I1.kIn
    obtain ⟨hp, g, dr, tk, os⟩ := s1
    refine wpAny_call (PySem.SwX.sup_made T hkin hlim hgl hbl (hb2 _ (by decide)) (by have := hr.dp; omega) fun h' tk' e d M => ?_)
    show MkP X pins σ Q (.ref e) ⟨h', g, dr, tk', os⟩
    obtain ⟨t1, hoe⟩ := M.obj
    have hns := M.ns
    obtain ⟨G', g1, g2⟩ := restrict h' fun b => decide (b ≠ e)
    have gk : ∀ b, b ≠ e → G'.get? b = h'.get? b := fun b hb => g1 b (decide_eq_true hb)
    have ge : G'.get? e = none := g2 e (by simp)
    have old : ∀ b o, hp.get? b = some o → G'.get? b = some o := fun b o q => (gk b (Nat.ne_of_lt (Nat.lt_of_lt_of_le (Heap.lt_size q) M.new))).trans (M.keep b o q)
    have ob : ObjOk X.prog X.w (upd H1 d (.xd [(fld, v)])) G' d (.xd [(fld, v)]) :=
      ⟨_, hns.at (fun o q => (gk d M.dne).trans q), fun f => relO_one rv⟩
    have J : Inv X pins σ (upd H1 d (.xd [(fld, v)])) ⟨G', g, dr, tk', os⟩ := I1.laid (t' := tk') old M.dbig ob
    refine ⟨e, _, _, ⟨G', g, dr, tk', os⟩, _, .ref C, some d, rfl, J, fun b o q => ?_, ge, hoe, ⟨rfl, rfl⟩, rfl, rfl, ?_, rfl, I1.bare, raises_own T.exC T.tyC, q1 d (I1.hok.fresh M.dbig)⟩
    · by_cases hb : b = e
      · have q' : G'.get? b = some o := q
        rw [hb, ge] at q'; cases q'
      · exact (gk b hb).symm.trans q
    · rw [upd_ne (Ne.symm M.dne)]
      exact I1.hok.fresh M.new
/-- raise X(e) -/
def tRaiseS (C : Addr) (fld : Str) (W : WX) (ta : TA) : TS := fun _ σ H => tMkS C fld ta σ H fun cls d H' => W cls d σ H'
theorem ps_raiseS {a : Expr} {ta : TA} {W : WX} {p pos pos2 : Pos} {k : Nat} (hc : X.calm = true) (T : PySem.SwX.SErr X.prog X.K X.mg xn fld C fI) (hr : Room k X.A) (tk : Takes X W) (ha : PA X [a] ta) (hg : Gl X xn := by rfl) (hdb : (xn == ("__debug__" : Str)) = false := by decide)
    (he : starEach (a :: []) X.env = (false, eval a X.env) :: starEach [] X.env := by rfl) (hpl : (backTo pos (starEach [] X.env)).any (·.1) = false := by rfl) :
    PS X (.Raise (some (.Call (.Name xn p) [a] [] pos)) none pos2) (tRaiseS C fld W ta) := ps_raise hc tk (pmk_sup T hr ha hg hdb he hpl)
/-- n.fld, n the exception that the suite holds (at a; its class cls, its dict d) -/
def tErrFld (C : Addr) (fld : Str) (a : Addr) (cls : Value) (d : Option Addr) (te : TE) : TE := fun σ H Q => te σ H fun x H1 => x = .ref a ∧ cls = .ref C ∧ ∃ (dd : Addr) (v : V), d = some dd ∧ H1 dd = some (.xd [(fld, v)]) ∧ Q v H1
theorem pe_errFld {a : Addr} {oe : Obj} {cls : Value} {d : Option Addr} {pn : List (Addr × Obj)} {e : Expr} {te : TE} {pos : Pos} (T : PySem.SwX.SErr X.prog X.K X.mg xn fld C fI) (hz : Zc cls d oe) (hf : ∃ vs, oe.data = .fields vs) (he : PE (X.suite a ((a, oe) :: pn)) e te)
    (hb : attributeBase e fld X.env (eval e X.env) = eval e X.env := by rfl) :
    PE (X.suite a ((a, oe) :: pn)) (.Attribute e fld pos) (tErrFld C fld a cls d te) := by
  refine ⟨fun pins s σ H Q I h => ?_⟩
  refine attr_of hb (thn (he.run pins s σ H _ I h) fun u s1 hh => ?_)
  obtain ⟨x, H1, I1, rx, ex, ec, dd, v, ed, ea, q⟩ := hh
  subst ex
  obtain rfl : u = Value.ref a := rx
  subst ec
  subst ed
  obtain ⟨ha, _⟩ := I1.pin (a, oe) (List.mem_append_left _ List.mem_cons_self)
  obtain ⟨vs, hd⟩ := hf
  have hx : ObjOk X.prog X.w H1 s1.heap dd (.xd [(fld, v)]) := I1.hok dd _ ea
  obtain ⟨mA, hns, hr⟩ := hx
  obtain ⟨od, ho, hl⟩ := lookIn_ns hns
  have l : List.lookup fld [(fld, v)] = some v := by simp [List.lookup]
  obtain ⟨u, hu, ru⟩ := RelO.some_of (v := v) (o := mA fld) (by rw [← l]; exact hr fld)
  have J : PySem.W.InstAt s1.heap a oe C (some od) := ⟨ha, hz.1, by unfold PySem.W.notCls; rw [hd] <;> rfl, by rw [hz.2]; exact ho⟩
  exact HandSPX.exc_get I1.kIn J T.ga T.gg T.exC (PySem.W.findObj_own T.hdC T.noF rfl (by rw [hl, hu])) (handed_of ru) ⟨v, H1, I1.tok _, ru, q⟩
end
end L2
set_option Elab.async false
set_option linter.all false
set_option maxRecDepth 100000
set_option maxHeartbeats 4000000
/-! try with several clauses that all hand the error to one name. -/
namespace L2
open PySem PySem.Spec PyProof.Rows
/-- what follows a suite: the name is gone again -/
def noName (i : Nat) (D : Ends) : Ends := { nx := fun σ' H' => D.nx (σ'.set i none) H', rt := D.rt, bk := fun σ' H' => D.bk (σ'.set i none) H', ct := fun σ' H' => D.ct (σ'.set i none) H' }
abbrev ClauseT := Value × Bool × (Addr → Value → Option Addr → TS)
def wEach (K : PySem.W.Frag) (i : Nat) (Wout : WX) (D : Ends) : List ClauseT → WX
  | [] => Wout
  | (c, true, ts) :: r => fun cls d σ H => ∃ b, PySem.W.exmOne K cls c = some b ∧ (b = true → ∀ a, H a = none → ts a cls d (noName i D) (σ.set i (some (.ref a))) H) ∧ (b = false → wEach K i Wout D r cls d σ H)
  | (c, false, ts) :: r => fun cls d σ H => ∃ b, PySem.W.exmOne K cls c = some b ∧ (b = true → ∀ a, H a = none → ts a cls d D σ H) ∧ (b = false → wEach K i Wout D r cls d σ H)
inductive Clauses (X : Cx) (n : Str) : List ExceptHandler → List ClauseT → Prop
  | nil : Clauses X n [] []
  | cons {x : Str} {c : Value} {ts : Addr → Value → Option Addr → TS} {b₀ : Stmt} {suite : List Stmt} {np pos' : Pos} {hds : List ExceptHandler} {l : List ClauseT} (hc : Names X x c)
      (hsu : ∀ (a : Addr) (oe : Obj) (cls : Value) (d : Option Addr) (pn : List (Addr × Obj)), Zc cls d oe → (∃ vs, oe.data = .fields vs) → PSs (X.suite a ((a, oe) :: pn)) (b₀ :: suite) (ts a cls d)) (r : Clauses X n hds l) :
      Clauses X n (.ExceptHandler (some (.Name x np)) (some n) (b₀ :: suite) pos' :: hds) ((c, true, ts) :: l)
  | bare {x : Str} {c : Value} {ts : Addr → Value → Option Addr → TS} {b₀ : Stmt} {suite : List Stmt} {np pos' : Pos} {hds : List ExceptHandler} {l : List ClauseT} (hc : Names X x c)
      (hsu : ∀ (a : Addr) (oe : Obj) (cls : Value) (d : Option Addr) (pn : List (Addr × Obj)), Zc cls d oe → (∃ vs, oe.data = .fields vs) → PSs (X.suite a ((a, oe) :: pn)) (b₀ :: suite) (ts a cls d)) (r : Clauses X n hds l) :
      Clauses X n (.ExceptHandler (some (.Name x np)) none (b₀ :: suite) pos' :: hds) ((c, false, ts) :: l)
section
variable {X : Cx} {n : Str} {i : Nat} {body : List Stmt} {h₀ : ExceptHandler} {hds : List ExceptHandler} {l : List ClauseT} {pos : Pos} {tb : WX → TS} {Wout : WX}
/-- the clauses, one after the other, at an error that was met -/
theorem each_ok (hN : X.N.Nodup) (hi : X.N[i]? = some n) (hln : X.env.kindOf n = some .local) (hf : X.env.frame = some X.env.locals) (hs : X.stack = X.env :: X.outer) (tk : Takes X Wout) (ok : X.Ok)
    {a : Addr} {B : Heap} {cls : Value} {d : Option Addr} {pins : List (Addr × Obj)} {σ' : St} {H' : Hp} {D : Ends} {sI s' : Shared} {h3 : Heap} (J : Inv X pins σ' H' sI) (nb : ∀ b o, sI.heap.get? b = some o → b ∉ frs X.stack → B.get? b = some o)
    (up : sI.heap.UpToSlots s'.heap) (up3 : s'.heap.UpToSlots h3) (na : H' a = none) (os : s'.os = sI.os) (ag : AllBare s'.gens)
    (fl3 : HandSPX.FlyingZ B (X.env :: X.outer) a (Zc cls d) h3) (nL : a ≠ X.env.locals) (nF : a ∉ X.fs) : ∀ {hs' : List ExceptHandler} {l' : List ClauseT}, Clauses X n hs' l' → wEach X.K i Wout D l' cls d σ' H' →
      wpAny (model X.prog X.w) X.A (handleBy (.ref a) X.env hs') (SP X pins D) X.xe { s' with heap := h3 } := by
  have J3 : Inv X pins σ' H' { s' with heap := h3 } := J.landed nb fl3.1 (up.trans up3) os ag
  obtain ⟨oe3, vs3, he3, hz3, hd3⟩ := fl3.there
  have S3 := J3.suite he3 hd3 na nL nF
  intro hs' l' hk
  induction hk with
  | nil =>
    intro w
    apply wpAny_handleBy_nil
    obtain ⟨k1, k2, k3, oe, vs, T, oT, ts', he, hz, hd, h1, hr⟩ := id fl3
    unfold PySem.passOn
    apply wpAny_bind
    refine wpAny_field he hd h1 ?_
    rw [if_neg (show ¬ ((Value.ref T == Value.none) = true) from by simp)]
    have fin : wpAny (model X.prog X.w) X.A (setFlight (.ref a) X.env.frame) (fun _ s4 => wpAny (model X.prog X.w) X.A (throw (.ref a) : Sem Flow) (SP X pins D) X.xe s4) X.xe { s' with heap := h3 } := by
      rw [hf]
      refine HandSPX.setFlight_upZ fl3 fun h4 hh4 up4 => wpAny_throw (tk _ _ ?_)
      refine ⟨a, B, sI, pins, σ', H', cls, d, rfl, J, nb, (up.trans up3).trans up4, .inr (.inr ?_), na, os, ag, w⟩
      rw [hs]
      exact hh4
    first
      | exact wpAny_bind (wpAny_pure (wpAny_bind fin))
      | exact wpAny_bind fin
  | @cons x c ts b₀ suite np pos' hds2 l2 hc hsu r ih =>
    rintro ⟨b, hb1, hyes, hno⟩
    refine wpAny_handleBy_cons (codeAny_handlers_test ?_) (by intro q; cases q)
    have LT : PySem.W.Looks (model X.prog X.w) h3 (typeOf (.ref a)) cls := fun A Q E s k q => wpAny_typeOf_ref (k _ _ he3) (by rw [hz3.1]; exact q)
    have LM := PySem.W.exm_one (M := model X.prog X.w) (J3.kIn) LT hb1
    have test : ∀ {Q : Value → Shared → Prop} {E : Value → Shared → Prop}, Q c { s' with heap := h3 } → wpAny (model X.prog X.w) (X.A.mark (some (.ref a))) (eval (.Name x np) X.env) Q E { s' with heap := h3 } := by
      intro Q E q
      obtain ⟨hg, hdbg, hm | ⟨hm, hv, hnn⟩⟩ := hc
      · exact ld_glob (X := X.suite a ((a, oe3) :: (X.pn ++ pins))) S3 hg hm q hdbg
      · exact ld_blt (X := X.suite a ((a, oe3) :: (X.pn ++ pins))) S3 hg hm hv q hnn hdbg
    refine test (LM.here ?_)
    cases b with
    | false =>
      show wpAny _ X.A (handleBy (.ref a) X.env hds2) _ _ _
      exact ih (hno rfl)
    | true =>
      apply codeAny_handlers_suite_as
      refine HandSPX.lands_againZ fl3 fun h4 fl4 up4 => ?_
      have J4 : Inv X pins σ' H' { s' with heap := h4 } := J.landed nb fl4.1 ((up.trans up3).trans up4) os ag
      obtain ⟨oe4, vs4, he4, hz4, hd4⟩ := fl4.there
      have S4 := J4.suite he4 hd4 na nL nF
      refine store_ok (X := X.suite a ((a, oe4) :: (X.pn ++ pins))) (v := .ref a) S4 hN hi (.inl hln) rfl (fun s5 S5 => ?_) (.inr hln)
      have run := (hsu a oe4 cls d (X.pn ++ pins) hz4 ⟨_, hd4⟩).run [] s5 _ H' _ S5 (hyes rfl a na)
      refine wpAny_mono run (fun f s6 hsp => ?_) (fun _ _ z => z.elim)
      have gone : ∀ {σ6 : St} {H6 : Hp} {Q : Shared → Prop}, Inv (X.suite a ((a, oe4) :: (X.pn ++ pins))) [] σ6 H6 s6 → (∀ s7, Inv X pins (σ6.set i none) H6 s7 → Q s7) →
          wpAny (model X.prog X.w) X.A (do bindName X.env n .none; unbindBehindTheSuite X.env n pos') (fun _ s7 => Q s7) X.xe s6 := fun S6 hq => gone_ok (S6.unsuite ok) hN hi hln hq
      cases f with
      | ret u =>
        obtain ⟨v6, σ6, H6, S6, r6, q6⟩ := hsp
        exact gone S6 fun s7 J7 => ⟨_, _, _, J7, r6, q6⟩
      | next =>
        obtain ⟨σ6, H6, S6, q6⟩ := hsp
        exact gone S6 fun s7 J7 => ⟨_, _, J7, q6⟩
      | brk =>
        obtain ⟨σ6, H6, S6, q6⟩ := hsp
        exact gone S6 fun s7 J7 => ⟨_, _, J7, q6⟩
      | cont =>
        obtain ⟨σ6, H6, S6, q6⟩ := hsp
        exact gone S6 fun s7 J7 => ⟨_, _, J7, q6⟩
  | @bare x c ts b₀ suite np pos' hds2 l2 hc hsu r ih =>
    rintro ⟨b, hb1, hyes, hno⟩
    refine wpAny_handleBy_cons (codeAny_handlers_test ?_) (by intro q; cases q)
    have LT : PySem.W.Looks (model X.prog X.w) h3 (typeOf (.ref a)) cls := fun A Q E s k q => wpAny_typeOf_ref (k _ _ he3) (by rw [hz3.1]; exact q)
    have LM := PySem.W.exm_one (M := model X.prog X.w) (J3.kIn) LT hb1
    have test : ∀ {Q : Value → Shared → Prop} {E : Value → Shared → Prop}, Q c { s' with heap := h3 } → wpAny (model X.prog X.w) (X.A.mark (some (.ref a))) (eval (.Name x np) X.env) Q E { s' with heap := h3 } := by
      intro Q E q
      obtain ⟨hg, hdbg, hm | ⟨hm, hv, hnn⟩⟩ := hc
      · exact ld_glob (X := X.suite a ((a, oe3) :: (X.pn ++ pins))) S3 hg hm q hdbg
      · exact ld_blt (X := X.suite a ((a, oe3) :: (X.pn ++ pins))) S3 hg hm hv q hnn hdbg
    refine test (LM.here ?_)
    cases b with
    | false =>
      show wpAny _ X.A (handleBy (.ref a) X.env hds2) _ _ _
      exact ih (hno rfl)
    | true =>
      apply codeAny_handlers_suite
      refine HandSPX.lands_againZ fl3 fun h4 fl4 up4 => ?_
      have J4 : Inv X pins σ' H' { s' with heap := h4 } := J.landed nb fl4.1 ((up.trans up3).trans up4) os ag
      obtain ⟨oe4, vs4, he4, hz4, hd4⟩ := fl4.there
      have S4 := J4.suite he4 hd4 na nL nF
      have run := (hsu a oe4 cls d (X.pn ++ pins) hz4 ⟨_, hd4⟩).run [] _ _ H' _ S4 (hyes rfl a na)
      refine wpAny_mono run (fun f s6 hsp => ?_) (fun _ _ z => z.elim)
      cases f with
      | ret u =>
        obtain ⟨v6, σ6, H6, S6, r6, q6⟩ := hsp
        exact ⟨_, _, _, S6.unsuite ok, r6, q6⟩
      | next =>
        obtain ⟨σ6, H6, S6, q6⟩ := hsp
        exact ⟨_, _, S6.unsuite ok, q6⟩
      | brk =>
        obtain ⟨σ6, H6, S6, q6⟩ := hsp
        exact ⟨_, _, S6.unsuite ok, q6⟩
      | cont =>
        obtain ⟨σ6, H6, S6, q6⟩ := hsp
        exact ⟨_, _, S6.unsuite ok, q6⟩
/-- the reading of such a try, and of one with a single clause -/
def tTryEach (K : PySem.W.Frag) (i : Nat) (l : List ClauseT) (Wout : WX) (tb : WX → TS) : TS := fun D σ H => tb (wEach K i Wout D l) D σ H
def tTryAs (K : PySem.W.Frag) (c : Value) (i : Nat) (ts : Addr → Value → Option Addr → TS) (Wout : WX) (tb : WX → TS) : TS := fun D σ H => tb (wAs K c i ts Wout D) D σ H
theorem ps_try_one {x : Str} {c : Value} {b₀ : Stmt} {suite : List Stmt} {np pos' : Pos} {ts : Addr → Value → Option Addr → TS} (hs : X.stack = X.env :: X.outer) (hf : X.env.frame = some X.env.locals) (hN : X.N.Nodup) (hi : X.N[i]? = some n) (hln : X.env.kindOf n = some .local) (hc : Names X x c) (tk : Takes X Wout)
    (hb : ∀ (W : WX) (pn : List (Addr × Obj)) (xe : Value → Shared → Prop), Takes (X.tr pn xe) W → PassesOwn (model X.prog X.w) X.A X.env xe → PSs (X.tr pn xe) body (tb W))
    (hsu : ∀ (a : Addr) (oe : Obj) (cls : Value) (d : Option Addr) (pn : List (Addr × Obj)), Zc cls d oe → (∃ vs, oe.data = .fields vs) → PSs (X.suite a ((a, oe) :: pn)) (b₀ :: suite) (ts a cls d)) :
    PS X (.Try body [.ExceptHandler (some (.Name x np)) (some n) (b₀ :: suite) pos'] [] [] pos) (tTryAs X.K c i ts Wout tb) := ps_try_as hs hf hN hi hln hc tk hb hsu
theorem ps_try_each (hs : X.stack = X.env :: X.outer) (hf : X.env.frame = some X.env.locals) (hN : X.N.Nodup) (hi : X.N[i]? = some n) (hln : X.env.kindOf n = some .local) (tk : Takes X Wout)
    (hb : ∀ (W : WX) (pn : List (Addr × Obj)) (xe : Value → Shared → Prop), Takes (X.tr pn xe) W → PassesOwn (model X.prog X.w) X.A X.env xe → PSs (X.tr pn xe) body (tb W))
    (hh : Clauses X n (h₀ :: hds) l) : PS X (.Try body (h₀ :: hds) [] [] pos) (tTryEach X.K i l Wout tb) := by
  constructor
  intro pins s σ H D I h
  have ok := I.ok
  have hfr : X.A.frames = some (X.env :: X.outer) := by rw [ok.frames, hs]
  apply wpAny_Try_except
  have run := (hb (wEach X.K i Wout D l) (X.pn ++ pins) (fun e s₁ => wpAny (model X.prog X.w) X.A (noteFrame e X.env) (fun _ s₂ => wpAny (model X.prog X.w) X.A (setFlight e none) (fun _ s₃ =>
    wpAny (model X.prog X.w) X.A (handleBy e X.env (h₀ :: hds)) (SP X pins D) X.xe s₃) X.xe s₂) X.xe s₁) (fun u s' xx => ?_) PassesOwn.looking).run [] s σ H D (I.toTry _) h
  · refine wpAny_mono run (fun f s1 hsp => ?_) (fun e s1 he => he)
    cases f with
    | ret u =>
      obtain ⟨v, σ', H', J', r, q⟩ := hsp
      exact ⟨v, σ', H', J'.ofTry ok, r, q⟩
    | next =>
      obtain ⟨σ', H', J', q⟩ := hsp
      exact wpAny_execs_nil ⟨σ', H', J'.ofTry ok, q⟩
    | brk =>
      obtain ⟨σ', H', J', q⟩ := hsp
      exact ⟨σ', H', J'.ofTry ok, q⟩
    | cont =>
      obtain ⟨σ', H', J', q⟩ := hsp
      exact ⟨σ', H', J'.ofTry ok, q⟩
  · obtain ⟨a, B, sI, pins', σ', H', cls, d, rfl, J', nb, up, sky, na, os, ag, w⟩ := xx
    have J : Inv X pins σ' H' sI := J'.ofTry ok
    have sky' : Sky B (X.env :: X.outer) a (Zc cls d) X.env.locals s'.heap := by rw [← hs]; exact sky
    show wpAny (model X.prog X.w) X.A (noteFrame (.ref a) X.env) _ _ _
    refine Sky.land Zc.steady hfr hf sky' fun h3 fl3 up3 => ?_
    obtain ⟨oe3, vs3, he3, hz3, hd3⟩ := fl3.there
    have nfr : a ∉ frs (X.env :: X.outer) := fun hm => by
      obtain ⟨_, o', e', hnf⟩ := Heap.FunFrames.mem fl3.2.2.1 hm
      rw [he3] at e'
      cases e'
      exact hnf _ hd3
    have nL : a ≠ X.env.locals := fun z => nfr (List.mem_filterMap.mpr ⟨X.env, List.mem_cons_self, by rw [hf, z]⟩)
    have nF : a ∉ X.fs := fun hm => by
      obtain ⟨e, he, q⟩ := List.mem_filterMap.mp hm
      exact nfr (List.mem_filterMap.mpr ⟨e, List.mem_cons_of_mem _ he, q⟩)
    exact each_ok hN hi hln hf hs tk ok J nb up up3 na os ag fl3 nL nF hh w
end
end L2
set_option Elab.async false
set_option linter.all false
set_option maxRecDepth 100000
set_option maxHeartbeats 4000000
/-! What every text here shares: heaps that only grow, data that stay, the drawn numbers. -/
namespace Sw
open PySem PySem.Spec PyProof.Rows L2
theorem same_new {H : Hp} {p : Addr} {o : HO} (h : H p = none) : Same H (upd H p o) := fun b x e => by
  rw [upd_ne (ne_of_none e h)]
  exact e
theorem sqT_up {K : PySem.W.Frag} {H H' : Hp} {a : Addr} {xs : List V} (s : Same H H') (h : SqT K H a xs) : SqT K H' a xs := by
  rcases h with (h | ⟨o, h⟩) | h
  · exact .inl (.inl (s _ _ h))
  · exact .inl (.inr ⟨o, s _ _ h⟩)
  · exact .inr h
mutual
theorem dp_up {K : PySem.W.Frag} {H H' : Hp} (s : Same H H') : ∀ {v : V} {d : PyData}, Dp K H v d → Dp K H' v d
  | _, _, .non => .non
  | _, _, .bl b => .bl b
  | _, _, .int i => .int i
  | _, _, .str x => .str x
  | _, _, .lst q r => .lst (s.seq q) (dpAll_up s r)
  | _, _, .tup q r => .tup (sqT_up s q) (dpAll_up s r)
theorem dpAll_up {K : PySem.W.Frag} {H H' : Hp} (s : Same H H') : ∀ {vs : List V} {ds : List PyData}, DpAll K H vs ds → DpAll K H' vs ds
  | _, _, .nil => .nil
  | _, _, .cons q r => .cons (dp_up s q) (dpAll_up s r)
end
/-- a new tuple, told by what stays true -/
theorem tup_new {K : PySem.W.Frag} {H : Hp} {xs : List V} {Q : V → Hp → Prop} (h : ∀ (p : Addr) (H' : Hp), Same H H' → SqT K H' p xs → Q (.ref p) H') : ∀ p, H p = none → Q (.ref p) (upd H p (.tup xs)) :=
  fun p hp => h p _ (same_new hp) (.inl (.inl upd_same))
theorem lst_new {K : PySem.W.Frag} {H : Hp} {xs : List V} {Q : V → Hp → Prop} (h : ∀ (p : Addr) (H' : Hp), H p = none → Same H H' → H' p = some (.lst xs) → SqL K H' p xs → Q (.ref p) H') : ∀ p, H p = none → Q (.ref p) (upd H p (.lst xs)) :=
  fun p hp => h p _ hp (same_new hp) upd_same (.inl (.inl upd_same))
/-- one list of ours changed: all that stood before it was made stands -/
theorem same_put {H H1 : Hp} {p : Addr} {o : HO} (h0 : H p = none) (s : Same H H1) : Same H (upd H1 p o) := fun b x e => by
  rw [upd_ne (ne_of_none e h0)]
  exact s b x e
def Num (n : Int) : Prop := 0 ≤ n ∧ n < 1009
theorem sizeN {n : Nat} (h : n ≤ 200000) : n < sizeLine := Nat.lt_of_le_of_lt h (by decide)
theorem map_at {ns : List Int} {i : Nat} {x : V} (h : (ns.map V.int)[i]? = some x) : ∃ z, ns[i]? = some z ∧ x = V.int z := by
  rw [List.getElem?_map] at h
  cases e : ns[i]? with
  | none => rw [e] at h; cases h
  | some z => rw [e] at h; exact ⟨z, rfl, (Option.some.inj h).symm⟩
/-- law's row: a list of so many drawn numbers -/
def spRow (K : PySem.W.Frag) : Sp := fun vs H Q _ => ∃ c many : Int, vs = [.int c, .int many] ∧ 0 ≤ many ∧ many ≤ 2000 ∧
  ∀ (H' : Hp) (p : Addr) (ns : List Int), Same H H' → H p = none → H' p = some (.lst (ns.map V.int)) → (ns.length : Int) = many → (∀ n ∈ ns, Num n) → Q (.ref p) H'
def spNums (K : PySem.W.Frag) : Sp := fun vs H Q _ => ∃ (a : Addr) (xs : List Int) (many : Int), vs = [.ref a, .int many] ∧ SqL K H a (xs.map V.int) ∧ xs.length ≤ 63 ∧ 0 ≤ many ∧ many ≤ 1900 ∧
  ∀ (H' : Hp) (p : Addr) (ns : List Int), Same H H' → H p = none → H' p = some (.lst (ns.map V.int)) → (ns.length : Int) = many → (∀ n ∈ ns, Num n) → Q (.ref p) H'
end Sw
namespace Sw
open PySem PySem.Spec PyProof.Rows L2
/-- an error class over ValueError that keeps nothing of its own -/
structure PlainErr (K : PySem.W.Frag) (mg : Str → Option Value) (x : Str) (C : Addr) : Prop where
  g : mg x = some (.ref C)
  x : PySem.W.excIn K C [.type "ValueError", .type "Exception", .type "BaseException", .type "object"] "ValueError.__new__" = true
  k : PySem.W.keepIn K (.ref C) = true
  b : PySem.W.subIn K (.ref C) (.type "BaseException") = some true
  t : PySem.W.typeIn K (.ref C) = some (.type "type")
def spLaw (K : PySem.W.Frag) : Sp := fun vs H Q _ => ∃ (a : Addr) (ns : List Int), vs = [.ref a] ∧ SqL K H a (ns.map V.int) ∧ ns.length ≤ 63 ∧ ∀ H', Q (.bl true) H'
end Sw
namespace Sw
open PySem PySem.Spec PyProof.Rows L2
theorem cut_to {xs : List V} {j : Nat} : cutV xs none (some (j : Int)) = xs.take j := by
  unfold cutV
  rw [HT.sIx_none, HT.sIx_nat]
  show (xs.drop 0).take (min j xs.length - 0) = xs.take j
  rw [List.drop_zero, Nat.sub_zero]
  by_cases h : j ≤ xs.length
  · rw [Nat.min_eq_left h]
  · rw [Nat.min_eq_right (by omega), List.take_length, List.take_of_length_le (by omega)]
theorem cut_from {xs : List V} {j : Nat} : cutV xs (some (j : Int)) none = xs.drop j := by
  unfold cutV
  rw [HT.sIx_none, HT.sIx_nat]
  by_cases h : j ≤ xs.length
  · rw [Nat.min_eq_left h, ← List.length_drop, List.take_length]
  · rw [Nat.min_eq_right (by omega), List.drop_length, List.drop_of_length_le (by omega)]
    simp
theorem num_push {ns : List Int} {z : Int} (h : ∀ n ∈ ns, Num n) (hz : Num z) : ∀ n ∈ ns ++ [z], Num n := fun n hn => by
  rcases List.mem_append.mp hn with hn | hn
  · exact h n hn
  · rw [List.mem_singleton.mp hn]
    exact hz
theorem map_push (ns : List Int) (z : Int) : ns.map V.int ++ [V.int z] = (ns ++ [z]).map V.int := by
  rw [List.map_append]
  rfl
end Sw
namespace Sw
open PySem PySem.Spec PyProof.Rows L2
/-- an except clause that names a class at S asks whether the error's class lies under it -/
theorem exm_of {K : PySem.W.Frag} {D S : Addr} {b : Bool} (h1 : PySem.W.subIn K (.ref S) (.type "BaseException") = some true) (h2 : PySem.W.isClsIn K S = true) (h3 : PySem.W.typeIn K (.ref S) = some (.type "type")) (h4 : PySem.W.subIn K (.ref D) (.ref S) = some b) :
    PySem.W.exmOne K (.ref D) (.ref S) = some b := by
  have e1 : (PySem.W.subIn K (.ref S) (.type "BaseException") == some true) = true := by rw [h1] <;> rfl
  have e2 : ((PySem.W.clsIn K S).isSome && PySem.W.typeIn K (.ref S) == some (.type "type")) = true := by
    rw [show (PySem.W.clsIn K S).isSome = true from h2, h3] <;> rfl
  show (if (PySem.W.subIn K (.ref S) (.type "BaseException") == some true) = true then (if ((PySem.W.clsIn K S).isSome && PySem.W.typeIn K (.ref S) == some (.type "type")) = true then PySem.W.subIn K (.ref D) (.ref S) else none) else none) = some b
  rw [if_pos e1, if_pos e2]
  exact h4
end Sw
namespace Sw
open PySem PySem.Spec PyProof.Rows L2
theorem int_ne {i j : Int} (h : (!decide (V.int i = V.int j)) = true) : i ≠ j := fun e => by
  rw [e, decide_eq_true rfl] at h
  cases h
theorem int_eq {i j : Int} (h : ¬ (!decide (V.int i = V.int j)) = true) : i = j := by
  by_cases e : V.int i = V.int j
  · exact V.int.inj e
  · rw [decide_eq_false e] at h
    exact absurd rfl h
theorem of3 {α : Type} {l : List α} (h : ((l.length : Nat) : Int) = 3) : ∃ x y z, l = [x, y, z] := by
  match l, h with
  | [x, y, z], _ => exact ⟨x, y, z, rfl⟩
  | [], h => exact absurd h (by simp)
  | [_], h => exact absurd h (by simp)
  | [_, _], h => exact absurd h (by simp)
  | _ :: _ :: _ :: _ :: l, h => simp at h; omega
theorem of4 {α : Type} {l : List α} (h : ((l.length : Nat) : Int) = 4) : ∃ x y z u, l = [x, y, z, u] := by
  match l, h with
  | [x, y, z, u], _ => exact ⟨x, y, z, u, rfl⟩
  | [], h => exact absurd h (by simp)
  | [_], h => exact absurd h (by simp)
  | [_, _], h => exact absurd h (by simp)
  | [_, _, _], h => exact absurd h (by simp)
  | _ :: _ :: _ :: _ :: _ :: l, h => simp at h; omega
end Sw
namespace Sw
open PySem PySem.Spec PyProof.Rows L2
/-! ### the same rules, told by what stays true -/
def nTup (K : PySem.W.Frag) (H : Hp) (xs : List V) (Q : VK) : Prop := ∀ (p : Addr) (H2 : Hp), Same H H2 → SqT K H2 p xs → Q (.ref p) H2
def nLst (H : Hp) (xs : List V) (Q : VK) : Prop := ∀ (p : Addr) (H2 : Hp), Same H H2 → H p = none → H2 p = some (.lst xs) → Q (.ref p) H2
theorem nTup.at {K : PySem.W.Frag} {H : Hp} {xs : List V} {Q : VK} (h : nTup K H xs Q) (p : Addr) (n : H p = none) : Q (.ref p) (upd H p (.tup xs)) := h p _ (same_new n) (.inl (.inl upd_same))
theorem nLst.at {H : Hp} {xs : List V} {Q : VK} (h : nLst H xs Q) (p : Addr) (n : H p = none) : Q (.ref p) (upd H p (.lst xs)) := h p _ (same_new n) n upd_same
def tTupM (K : PySem.W.Frag) (t : TA) : TE := fun σ H Q => t σ H fun xs H1 => xs.length ≤ sizeLine ∧ nTup K H1 xs Q
def tLstM (t : TA) : TE := fun σ H Q => t σ H fun xs H1 => xs.length ≤ sizeLine ∧ nLst H1 xs Q
section
variable {X : Cx} {es : List Expr} {t : TA} {pos : Pos}
theorem pe_tupM {x1} (h : PA X es t) : PE X (.Tuple es x1 pos) (tTupM X.K t) := by
  constructor
  intro pins s σ H Q I hq
  apply wpAny_Tuple_spliced
  refine thn (h.run pos pins s σ H _ I hq) ?_
  rintro us s1 ⟨xs, H1, I1, r, z, q⟩
  refine ⟨r.length ▸ z, ?_⟩
  have hf : H1 s1.heap.objs.size = none := I1.hok.fresh (Nat.le_refl _)
  have J := I1.laid (t' := s1.toks) (a := s1.heap.objs.size) (o := .tup xs) (fun b u e => Heap.get?_push_of_some { cls := .type "tuple", data := .seq us.toArray } e) (Nat.le_refl _) ⟨z, us, r, ⟨_, Heap.get?_push_size _ rfl, rfl, _, rfl⟩⟩
  exact ⟨.ref _, _, J, rfl, q.at _ hf⟩
theorem pe_lstM (h : PA X es t) : PE X (.List es pos) (tLstM t) := by
  constructor
  intro pins s σ H Q I hq
  apply wpAny_List_spliced
  refine thn (h.run pos pins s σ H _ I hq) ?_
  rintro us s1 ⟨xs, H1, I1, r, z, q⟩
  refine ⟨r.length ▸ z, ?_⟩
  have hf : H1 s1.heap.objs.size = none := I1.hok.fresh (Nat.le_refl _)
  have J := I1.laid (t' := s1.toks) (a := s1.heap.objs.size) (o := .lst xs) (fun b u e => Heap.get?_push_of_some { cls := .type "list", data := .seq us.toArray } e) (Nat.le_refl _) ⟨z, us, 0, r, Heap.get?_push_size _ rfl⟩
  exact ⟨.ref _, _, J, rfl, q.at _ hf⟩
/-- t[lo:hi], not the whole of t -/
def rSlTM (K : PySem.W.Frag) : V → Option Int → Option Int → Hp → VK → Prop := fun x lo hi H Q => ∃ a xs, x = .ref a ∧ SqT K H a xs ∧ ¬ (HT.sIx xs.length 0 lo = 0 ∧ HT.sIx xs.length xs.length hi = xs.length) ∧ nTup K H (cutV xs lo hi) Q
theorem sl_tupM : SlR X (rSlTM X.K) := fun pins s σ H x v vl vu lo hi sl Q I rx hs pl pu ⟨b, xs, e, h1, h2, q⟩ => sl_tup pins s σ H x v vl vu lo hi sl Q I rx hs pl pu ⟨b, xs, e, h1, h2, q.at⟩
def rSlLM (K : PySem.W.Frag) : V → Option Int → Option Int → Hp → VK → Prop := fun x lo hi H Q => ∃ a xs, x = .ref a ∧ SqL K H a xs ∧ nLst H (cutV xs lo hi) Q
theorem sl_listM : SlR X (rSlLM X.K) := fun pins s σ H x v vl vu lo hi sl Q I rx hs pl pu ⟨b, xs, e, h1, q⟩ => sl_list pins s σ H x v vl vu lo hi sl Q I rx hs pl pu ⟨b, xs, e, h1, q.at⟩
def rCatTM (K : PySem.W.Frag) : R2 := fun x y H Q => ∃ a b xs ys, x = .ref a ∧ y = .ref b ∧ SqT K H a xs ∧ SqT K H b ys ∧ xs ≠ [] ∧ ys ≠ [] ∧ xs.length + ys.length ≤ sizeLine ∧ nTup K H (xs ++ ys) Q
theorem op_catTM : OpR X (binaryOp .Add) (rCatTM X.K) := fun pins s σ H x y v u Q I rx ry ⟨c, b, xs, ys, e1, e2, h1, h2, h3, h4, h5, q⟩ => op_catT pins s σ H x y v u Q I rx ry ⟨c, b, xs, ys, e1, e2, h1, h2, h3, h5, fun z => absurd z h4, fun _ => q.at⟩
def rCatM : R2 := fun x y H Q => ∃ l b xs zs, x = .ref l ∧ y = .ref b ∧ H l = some (.lst xs) ∧ H b = some (.lst zs) ∧ xs.length + zs.length ≤ sizeLine ∧ nLst H (xs ++ zs) Q
theorem op_catM : OpR X (binaryOp .Add) rCatM := fun pins s σ H x y v u Q I rx ry ⟨c, b, xs, ys, e1, e2, h1, h2, h3, q⟩ => op_cat pins s σ H x y v u Q I rx ry ⟨c, b, xs, ys, e1, e2, h1, h2, h3, q.at⟩
def rRepM : R2 := fun x y H Q => ∃ l k xs, x = .ref l ∧ y = .int k ∧ H l = some (.lst xs) ∧ -(2 ^ 63) ≤ k ∧ k < 2 ^ 63 ∧ xs.length * k.toNat ≤ sizeLine ∧ nLst H (List.replicate k.toNat xs).flatten Q
theorem op_repM : OpR X (binaryOp .Mult) rRepM := fun pins s σ H x y v u Q I rx ry ⟨c, k, xs, e1, e2, h1, h2, h3, h4, q⟩ => op_rep pins s σ H x y v u Q I rx ry ⟨c, k, xs, e1, e2, h1, h2, h3, h4, q.at⟩
end
end Sw
namespace Sw
open PySem PySem.Spec PyProof.Rows L2
/-- an instance is changed: lists and tuples stand -/
theorem sqL_ins {K : PySem.W.Frag} {H : Hp} {x C dx p : Addr} {fs : List (Str × V)} {o : HO} {xs : List V} (hx : H x = some (.ins C dx fs)) (h : SqL K H p xs) : SqL K (upd H x o) p xs := by
  rcases h with (h | ⟨u, h⟩) | h
  · exact .inl (.inl (by rw [upd_ne (fun z => by rw [z, hx] at h; cases h)]; exact h))
  · exact .inl (.inr ⟨u, by rw [upd_ne (fun z => by rw [z, hx] at h; cases h)]; exact h⟩)
  · exact .inr h
theorem sqT_ins {K : PySem.W.Frag} {H : Hp} {x C dx p : Addr} {fs : List (Str × V)} {o : HO} {xs : List V} (hx : H x = some (.ins C dx fs)) (h : SqT K H p xs) : SqT K (upd H x o) p xs := by
  rcases h with (h | ⟨u, h⟩) | h
  · exact .inl (.inl (by rw [upd_ne (fun z => by rw [z, hx] at h; cases h)]; exact h))
  · exact .inl (.inr ⟨u, by rw [upd_ne (fun z => by rw [z, hx] at h; cases h)]; exact h⟩)
  · exact .inr h
end Sw
namespace Sw
open PySem PySem.Spec PyProof.Rows L2
/-! ### data, and == of data -/
def dTI (ns : List Int) : PyData := .tuple (ns.map .int)
theorem dpAll_ints {K : PySem.W.Frag} {H : Hp} : ∀ ns : List Int, DpAll K H (ns.map V.int) (ns.map PyData.int)
  | [] => .nil
  | _ :: r => .cons (.int _) (dpAll_ints r)
theorem dp_ti {K : PySem.W.Frag} {H : Hp} {p : Addr} {ns : List Int} (h : SqT K H p (ns.map V.int)) : Dp K H (.ref p) (dTI ns) := .tup h (dpAll_ints ns)
theorem dp_t {K : PySem.W.Frag} {H : Hp} {p : Addr} {xs : List V} {ds : List PyData} (h : SqT K H p xs) (r : DpAll K H xs ds) : Dp K H (.ref p) (.tuple ds) := .tup h r
theorem dp_l {K : PySem.W.Frag} {H : Hp} {p : Addr} {xs : List V} {ds : List PyData} (h : H p = some (.lst xs)) (r : DpAll K H xs ds) : Dp K H (.ref p) (.list ds) := .lst (.inl (.inl h)) r
/-- data that can be compared, of a depth -/
def Lay (k : Nat) (d : PyData) : Prop := d.canLay0 = true ∧ d.depth ≤ k
theorem lay_int (k : Nat) (i : Int) : Lay k (.int i) := ⟨rfl, Nat.zero_le _⟩
theorem lay_non (k : Nat) : Lay k .none := ⟨rfl, Nat.zero_le _⟩
theorem lay_bool (k : Nat) (b : Bool) : Lay k (.bool b) := ⟨rfl, Nat.zero_le _⟩
theorem lay_all {k : Nat} : ∀ {ds : List PyData}, (∀ d ∈ ds, Lay k d) → PyData.canLayAll0 ds = true ∧ PyData.depthAll ds ≤ k
  | [], _ => ⟨rfl, Nat.zero_le _⟩
  | d :: r, h => by
    obtain ⟨a1, a2⟩ := h d List.mem_cons_self
    obtain ⟨b1, b2⟩ := lay_all (ds := r) fun x hx => h x (List.mem_cons_of_mem _ hx)
    refine ⟨?_, ?_⟩
    · show (d.canLay0 && PyData.canLayAll0 r) = true
      rw [a1, b1]
      rfl
    · show max d.depth (PyData.depthAll r) ≤ k
      omega
theorem lay_tuple {k : Nat} {ds : List PyData} (h : ∀ d ∈ ds, Lay k d) : Lay (k + 1) (.tuple ds) := by
  obtain ⟨a, b⟩ := lay_all h
  exact ⟨a, Nat.succ_le_succ b⟩
theorem lay_list {k : Nat} {ds : List PyData} (h : ∀ d ∈ ds, Lay k d) : Lay (k + 1) (.list ds) := by
  obtain ⟨a, b⟩ := lay_all h
  exact ⟨a, Nat.succ_le_succ b⟩
theorem lay_up {j k : Nat} {d : PyData} (h : Lay j d) (l : j ≤ k) : Lay k d := ⟨h.1, Nat.le_trans h.2 l⟩
theorem lay_ti (ns : List Int) : Lay 1 (dTI ns) := lay_tuple fun d hd => by
  obtain ⟨i, _, rfl⟩ := List.mem_map.mp hd
  exact lay_int 0 i
theorem lay_2 {k : Nat} {d e : PyData} (h1 : Lay k d) (h2 : Lay k e) : ∀ x ∈ [d, e], Lay k x := fun x hx => by
  rcases List.mem_cons.mp hx with rfl | hx
  · exact h1
  · rw [List.mem_singleton.mp hx]
    exact h2
theorem shaped_of {k : Nat} {d : PyData} (h : Lay k d) (hk : k ≤ 64) : SeqAt.shaped d = true := by
  unfold SeqAt.shaped
  rw [h.1, decide_eq_true (Nat.le_trans h.2 hk)]
  rfl
theorem ne_same {K : PySem.W.Frag} {k : Nat} {x y : V} {d : PyData} {H : Hp} {Q : VK} (l : Lay k d) (hk : k ≤ 64) (hx : Dp K H x d) (hy : Dp K H y d) (q : Q (.bl false) H) : rNeD K x y H Q :=
  ⟨d, d, hx, hy, shaped_of l hk, shaped_of l hk, by rw [SeqAt.eqv_refl d l.1]; exact q⟩
theorem eq_same {K : PySem.W.Frag} {k : Nat} {x y : V} {d : PyData} {H : Hp} {Q : VK} (l : Lay k d) (hk : k ≤ 64) (hx : Dp K H x d) (hy : Dp K H y d) (q : Q (.bl true) H) : rEqD K x y H Q :=
  ⟨d, d, hx, hy, shaped_of l hk, shaped_of l hk, by rw [SeqAt.eqv_refl d l.1]; exact q⟩
/-! ### a, b = e where e is a tuple or a list -/
def gSeq (K : PySem.W.Frag) (n : Nat) (t : TGs) : TG := fun v σ H Q => ∃ a xs, v = .ref a ∧ (SqT K H a xs ∨ SqL K H a xs) ∧ xs.length = n ∧ t xs σ H Q
theorem pg_seq {X : Cx} {es : List Expr} {k : Nat} {t : TGs} {n : Nat} {pos : Pos} (hc : X.calm = true) (h : PGs X es t)
    (hn : (assignEach es X.env).length = n := by rfl) (hst : (assignEach es X.env).findIdx? (·.1) = none := by rfl) : PG X (.Tuple es k pos) (gSeq X.K n t) := by
  constructor
  rintro pins s σ H v u Q I r ⟨b, xs, e, hq | hq, hl, w⟩
  · exact (pg_tup hc h hn hst).run pins s σ H v u Q I r ⟨b, xs, e, hq, hl, w⟩
  · exact (pg_lst hc h hn hst).run pins s σ H v u Q I r ⟨b, xs, e, hq, hl, w⟩
theorem emod_step (z d n : Int) : (z % n + d + n) % n = (z + d) % n := by
  rw [Int.add_emod_right, Int.emod_add_emod]
end Sw
namespace Sw
open PySem PySem.Spec PyProof.Rows L2
def numI (ns : List Int) (j : Int) : Int := ns.getD j.toNat 0
theorem nthI {ns : List Int} {j : Int} (h0 : 0 ≤ j) (h1 : j < (ns.length : Int)) : atI (ns.map V.int) j = some (.int (numI ns j)) := by
  obtain ⟨k, rfl⟩ := Int.eq_ofNat_of_zero_le h0
  refine atI_nat ?_
  have hk : k < ns.length := by omega
  rw [List.getElem?_map, List.getElem?_eq_getElem hk]
  show some (V.int ns[k]) = some (V.int (ns.getD k 0))
  rw [List.getD_eq_getElem?_getD, List.getElem?_eq_getElem hk]
  rfl
theorem num_at {ns : List Int} (h : ∀ n ∈ ns, Num n) (j : Int) : Num (numI ns j) := by
  unfold numI
  rw [List.getD_eq_getElem?_getD]
  cases e : ns[j.toNat]? with
  | none => exact ⟨by decide, by decide⟩
  | some z => exact h z (List.mem_of_getElem? e)
theorem iteD {c A B : Prop} [Decidable c] (hc : c) (h : A) : if decide c = true then A else B := by
  rw [if_pos (decide_eq_true hc)]
  exact h
end Sw
namespace Sw
open PySem PySem.Spec PyProof.Rows L2
/-! ### data without lists stand where a list is changed -/
theorem sqT_lst {K : PySem.W.Frag} {H : Hp} {l p : Addr} {xs ys : List V} {o : HO} (hl : H l = some (.lst xs)) (h : SqT K H p ys) : SqT K (upd H l o) p ys := by
  rcases h with (h | ⟨u, h⟩) | h
  · exact .inl (.inl (by rw [upd_ne (fun z => by rw [z, hl] at h; cases h)]; exact h))
  · exact .inl (.inr ⟨u, by rw [upd_ne (fun z => by rw [z, hl] at h; cases h)]; exact h⟩)
  · exact .inr h
mutual
def noL : PyData → Bool
  | .tuple ds => noLs ds
  | .list _ => false
  | .dict _ => false
  | _ => true
def noLs : List PyData → Bool
  | [] => true
  | d :: r => noL d && noLs r
end
mutual
theorem dp_put {K : PySem.W.Frag} {H : Hp} {l : Addr} {xs : List V} {o : HO} (hl : H l = some (.lst xs)) : ∀ {v : V} {d : PyData}, noL d = true → Dp K H v d → Dp K (upd H l o) v d
  | _, _, _, .non => .non
  | _, _, _, .bl b => .bl b
  | _, _, _, .int i => .int i
  | _, _, _, .str x => .str x
  | _, _, n, .lst q r => nomatch n
  | _, _, n, .tup q r => .tup (sqT_lst hl q) (dpAll_put hl n r)
theorem dpAll_put {K : PySem.W.Frag} {H : Hp} {l : Addr} {xs : List V} {o : HO} (hl : H l = some (.lst xs)) : ∀ {vs : List V} {ds : List PyData}, noLs ds = true → DpAll K H vs ds → DpAll K (upd H l o) vs ds
  | _, _, _, .nil => .nil
  | _, _, n, .cons q r => .cons (dp_put hl (Bool.and_eq_true_iff.mp n).1 q) (dpAll_put hl (Bool.and_eq_true_iff.mp n).2 r)
end
theorem noLs_ints : ∀ ns : List Int, noLs (ns.map PyData.int) = true
  | [] => rfl
  | _ :: r => by
    show (noL (.int _) && noLs (r.map PyData.int)) = true
    rw [noLs_ints r]
    rfl
theorem noL_ti (ns : List Int) : noL (dTI ns) = true := noLs_ints ns
theorem dpAll_push {K : PySem.W.Frag} {H : Hp} {v : V} {d : PyData} : ∀ {vs : List V} {ds : List PyData}, DpAll K H vs ds → Dp K H v d → DpAll K H (vs ++ [v]) (ds ++ [d])
  | _, _, .nil, h => .cons h .nil
  | _, _, .cons q r, h => .cons q (dpAll_push r h)
theorem dpAll_len {K : PySem.W.Frag} {H : Hp} : ∀ {vs : List V} {ds : List PyData}, DpAll K H vs ds → vs.length = ds.length
  | _, _, .nil => rfl
  | _, _, .cons _ r => congrArg (· + 1) (dpAll_len r)
theorem dpAll_get {K : PySem.W.Frag} {H : Hp} : ∀ {vs : List V} {ds : List PyData} {i : Nat} {v : V}, DpAll K H vs ds → vs[i]? = some v → ∃ d, ds[i]? = some d ∧ Dp K H v d
  | _, _, 0, _, .cons q _, h => ⟨_, rfl, Option.some.inj h ▸ q⟩
  | _, _, i + 1, _, .cons _ r, h => dpAll_get (i := i) r h
theorem dp_ti_inv {K : PySem.W.Frag} {H : Hp} {v : V} {ns : List Int} (h : Dp K H v (dTI ns)) : ∃ p, v = .ref p ∧ SqT K H p (ns.map V.int) := by
  cases h with
  | @tup p xs ds q r =>
    refine ⟨p, rfl, ?_⟩
    have e : ∀ {xs : List V} {ns : List Int}, DpAll K H xs (ns.map PyData.int) → xs = ns.map V.int := by
      intro xs ns
      induction ns generalizing xs with
      | nil => intro h; cases h; rfl
      | cons n r ih =>
        intro h
        cases h with
        | cons h1 h2 =>
          cases h1
          rw [ih h2]
          rfl
    rw [← e r]
    exact q
/-- so many different numbers below a bound: not more than the bound -/
theorem nodup_below : ∀ (k : Nat) (l : List Nat), l.Nodup → (∀ x ∈ l, x < k) → l.length ≤ k
  | 0, l, _, h => by
    cases l with
    | nil => exact Nat.le_refl _
    | cons x r => exact absurd (h x List.mem_cons_self) (Nat.not_lt_zero _)
  | k + 1, l, hn, h => by
    have hn2 : (l.erase k).Nodup := hn.erase k
    have ih := nodup_below k (l.erase k) hn2 fun x hx => by
      have h1 := h x (List.mem_of_mem_erase hx)
      have h2 : x ≠ k := fun e => by
        subst e
        exact (List.Nodup.not_mem_erase hn) hx
      omega
    have e := List.length_erase (a := k) (l := l)
    by_cases hm : k ∈ l
    · rw [if_pos hm] at e
      omega
    · rw [if_neg hm] at e
      omega
end Sw
set_option Elab.async false
set_option linter.all false
set_option maxRecDepth 100000
set_option maxHeartbeats 4000000
/-! Skies, attitudes, commands, motions: what each def tells, as plain functions of integers, and its promise. -/
namespace Sw
open PySem PySem.Spec PyProof.Rows L2
def turnX (q x y : Int) : Int := if q % 4 = 1 then -y else if q % 4 = 2 then -x else if q % 4 = 3 then y else x
def turnY (q x y : Int) : Int := if q % 4 = 1 then x else if q % 4 = 2 then -y else if q % 4 = 3 then -x else y
def isPose (n : Int) : List Int → Bool
  | [x, y, q] => decide (0 ≤ x ∧ x < n ∧ 0 ≤ y ∧ y < n ∧ 0 ≤ q ∧ q ≤ 3)
  | _ => false
def isCmd (n : Int) : List Int → Bool
  | [x, y, q] => decide (-n < x ∧ x < n ∧ -n < y ∧ y < n ∧ 0 ≤ q ∧ q ≤ 3)
  | _ => false
def isCam (n : Int) : List Int → Bool
  | [r, b, g, l] => decide (0 ≤ r ∧ r ≤ 4 ∧ 0 ≤ b ∧ b ≤ 2 ∧ 0 ≤ g ∧ g ≤ 2 ∧ 1 ≤ l ∧ l ≤ 9 ∧ b ≤ r ∧ 2 * (r + b) + 1 ≤ n)
  | _ => false
def isStar (n : Int) : List Int → Bool
  | [x, y, b] => decide (0 ≤ x ∧ x < n ∧ 0 ≤ y ∧ y < n ∧ 1 ≤ b ∧ b ≤ 9)
  | _ => false
def comp (n : Int) : List Int → List Int → List Int
  | [a, b, c], [d, e, g] => [(turnX g a b + d) % n, (turnY g a b + e) % n, (c + g) % 4]
  | _, _ => []
def inv (n : Int) : List Int → List Int
  | [a, b, c] => [turnX (2 - c) a b % n, turnY (2 - c) a b % n, (4 - c) % 4]
  | _ => []
def near (n part : Int) : Int := (part + n / 2) % n - n / 2
theorem pose_form {n : Int} {ns : List Int} (h : isPose n ns = true) : ∃ x y q, ns = [x, y, q] ∧ 0 ≤ x ∧ x < n ∧ 0 ≤ y ∧ y < n ∧ 0 ≤ q ∧ q ≤ 3 := by
  match ns, h with
  | [x, y, q], h =>
    have z := of_decide_eq_true h
    exact ⟨x, y, q, rfl, z⟩
theorem cmd_form {n : Int} {ns : List Int} (h : isCmd n ns = true) : ∃ x y q, ns = [x, y, q] ∧ -n < x ∧ x < n ∧ -n < y ∧ y < n ∧ 0 ≤ q ∧ q ≤ 3 := by
  match ns, h with
  | [x, y, q], h =>
    have z := of_decide_eq_true h
    exact ⟨x, y, q, rfl, z⟩
/-- the attributes of a sky, in the order in which they are stored -/
def skyF (n : Int) (ts tc : Addr) : List (Str × V) := putF "_camera" (.ref tc) (putF "_stars" (.ref ts) (putF "_side" (.int n) []))
theorem skyF_side (n : Int) (ts tc : Addr) : (skyF n ts tc).lookup ("_side" : Str) = some (.int n) := by
  unfold skyF
  rw [lookup_putF, if_neg (by decide +kernel), lookup_putF, if_neg (by decide +kernel), lookup_putF, if_pos rfl]
theorem skyF_stars (n : Int) (ts tc : Addr) : (skyF n ts tc).lookup ("_stars" : Str) = some (.ref ts) := by
  unfold skyF
  rw [lookup_putF, if_neg (by decide +kernel), lookup_putF, if_pos rfl]
theorem skyF_camera (n : Int) (ts tc : Addr) : (skyF n ts tc).lookup ("_camera" : Str) = some (.ref tc) := by
  unfold skyF
  rw [lookup_putF, if_pos rfl]
theorem skyF_two (n : Int) (ts : Addr) : (putF "_stars" (V.ref ts) (putF "_side" (.int n) [])).length < 1000 := by
  show (if ("_side" : Str) = "_stars" then _ else _ : List (Str × V)).length < 1000
  rw [if_neg (by decide +kernel)]
  show 2 < 1000
  decide
/-- a sky stands at p -/
def SkyAt (K : PySem.W.Frag) (C : Addr) (H : Hp) (p : Addr) (n : Int) (st : List V) (cam : List Int) : Prop :=
  ∃ dx ts tc, H p = some (.ins C dx (skyF n ts tc)) ∧ SqT K H ts st ∧ SqT K H tc (cam.map V.int)
theorem sky_up {K : PySem.W.Frag} {C : Addr} {H H' : Hp} {p : Addr} {n : Int} {st : List V} {cam : List Int} (s : Same H H') : SkyAt K C H p n st cam → SkyAt K C H' p n st cam := fun ⟨dx, ts, tc, h1, h2, h3⟩ =>
  ⟨dx, ts, tc, s _ _ h1, sqT_up s h2, sqT_up s h3⟩
def spTurn (K : PySem.W.Frag) : Sp := fun vs H Q _ => ∃ (q x y : Int) (p : Addr), vs = [.int q, .ref p] ∧ SqT K H p [.int x, .int y] ∧
  ∀ (H' : Hp) (p' : Addr), Same H H' → SqT K H' p' [.int (turnX q x y), .int (turnY q x y)] → Q (.ref p') H'
def spIs (K : PySem.W.Frag) (ok : Int → List Int → Bool) : Sp := fun vs H Q _ => ∃ (n : Int) (p : Addr) (ns : List Int), vs = [.int n, .ref p] ∧ SqT K H p (ns.map V.int) ∧ Q (.bl (ok n ns)) H
def spComp (K : PySem.W.Frag) : Sp := fun vs H Q _ => ∃ (n a b c d e g : Int) (p q : Addr), vs = [.int n, .ref p, .ref q] ∧ 0 < n ∧ SqT K H p [.int a, .int b, .int c] ∧ SqT K H q [.int d, .int e, .int g] ∧
  ∀ (H' : Hp) (p' : Addr), Same H H' → SqT K H' p' ((comp n [a, b, c] [d, e, g]).map V.int) → Q (.ref p') H'
def spInv (K : PySem.W.Frag) : Sp := fun vs H Q _ => ∃ (n a b c : Int) (p : Addr), vs = [.int n, .ref p] ∧ 0 < n ∧ SqT K H p [.int a, .int b, .int c] ∧
  ∀ (H' : Hp) (p' : Addr), Same H H' → SqT K H' p' ((inv n [a, b, c]).map V.int) → Q (.ref p') H'
def spSide : Sp := fun vs H Q _ => ∃ n : Int, vs = [.int n] ∧ Q (.bl (decide (4 ≤ n ∧ n ≤ 9))) H
def spNear : Sp := fun vs H Q _ => ∃ n k : Int, vs = [.int n, .int k] ∧ 0 < n ∧ Q (.int (near n k)) H
/-- a sky is made of no stars, all else as the rules ask -/
def spCheck0 (K : PySem.W.Frag) : Sp := fun vs H Q _ => ∃ (n : Int) (p c : Addr) (cam : List Int), vs = [.int n, .ref p, .ref c] ∧ SqL K H p [] ∧ SqT K H c (cam.map V.int) ∧ 4 ≤ n ∧ n ≤ 9 ∧ isCam n cam = true ∧ ∀ H', Same H H' → Q .non H'
def spInit0 (K : PySem.W.Frag) (C : Addr) : Sp := fun vs H Q _ => ∃ (x dx : Addr) (n : Int) (p c : Addr) (cam : List Int), vs = [.ref x, .int n, .ref p, .ref c] ∧ H x = some (.ins C dx []) ∧ SqL K H p [] ∧ SqT K H c (cam.map V.int) ∧ 4 ≤ n ∧ n ≤ 9 ∧ isCam n cam = true ∧
  ∀ H', SkyAt K C H' x n [] cam → (∀ b o, H b = some o → b ≠ x → H' b = some o) → Q .non H'
/-- a property of a sky that is an attribute -/
def spProp (K : PySem.W.Frag) (C : Addr) (f : Int → List V → List Int → V → Hp → Prop) : Sp := fun vs H Q _ => ∃ (p : Addr) (n : Int) (st : List V) (cam : List Int), vs = [.ref p] ∧ SkyAt K C H p n st cam ∧ ∀ v, f n st cam v H → Q v H
def spOfSide (K : PySem.W.Frag) (C : Addr) : Sp := fun vs H Q _ => ∃ (p : Addr) (n : Int) (st : List V) (cam : List Int), vs = [.ref p] ∧ SkyAt K C H p n st cam ∧ Q (.int n) H
/-- a tuple is asked of a sky: nothing comes back, or the error with the tuple -/
def spAsk (K : PySem.W.Frag) (C D : Addr) (fld : Str) (ok : Int → List Int → Bool) : Sp := fun vs H Q E => ∃ (p q : Addr) (n : Int) (st : List V) (cam ns : List Int), vs = [.ref p, .ref q] ∧ SkyAt K C H p n st cam ∧ SqT K H q (ns.map V.int) ∧
  (ok n ns = true → Q .non H) ∧ (ok n ns = false → ∀ (d : Addr) (H' : Hp), Same H H' → H' d = some (.xd [(fld, .ref q)]) → E (.ref D) (some d) H')
def spAsk2 (K : PySem.W.Frag) (C D : Addr) : Sp := fun vs H Q E => ∃ (p q r : Addr) (n : Int) (st : List V) (cam ns ms : List Int), vs = [.ref p, .ref q, .ref r] ∧ SkyAt K C H p n st cam ∧ SqT K H q (ns.map V.int) ∧ SqT K H r (ms.map V.int) ∧
  (isPose n ns = true → isPose n ms = true → Q .non H) ∧ (isPose n ns = false → ∀ (d : Addr) (H' : Hp), Same H H' → H' d = some (.xd [("attitude", .ref q)]) → E (.ref D) (some d) H') ∧
  (isPose n ns = true → isPose n ms = false → ∀ (d : Addr) (H' : Hp), Same H H' → H' d = some (.xd [("attitude", .ref r)]) → E (.ref D) (some d) H')
/-- an attitude, and a tuple of another kind done to it -/
def spDone (K : PySem.W.Frag) (C D F : Addr) (fld : Str) (ok : Int → List Int → Bool) (f : Int → List Int → List Int → List Int) : Sp := fun vs H Q E => ∃ (p q r : Addr) (n : Int) (st : List V) (cam ns ms : List Int), vs = [.ref p, .ref q, .ref r] ∧ SkyAt K C H p n st cam ∧ 0 < n ∧ SqT K H q (ns.map V.int) ∧ SqT K H r (ms.map V.int) ∧
  (isPose n ns = true → ok n ms = true → ∀ (H' : Hp) (p' : Addr), Same H H' → SqT K H' p' ((f n ns ms).map V.int) → Q (.ref p') H') ∧
  (isPose n ns = false → ∀ (d : Addr) (H' : Hp), Same H H' → H' d = some (.xd [("attitude", .ref q)]) → E (.ref D) (some d) H') ∧
  (isPose n ns = true → ok n ms = false → ∀ (d : Addr) (H' : Hp), Same H H' → H' d = some (.xd [(fld, .ref r)]) → E (.ref F) (some d) H')
def spBack (K : PySem.W.Frag) (C F : Addr) (fld : Str) (ok : Int → List Int → Bool) : Sp := fun vs H Q E => ∃ (p q : Addr) (n : Int) (st : List V) (cam ns : List Int), vs = [.ref p, .ref q] ∧ SkyAt K C H p n st cam ∧ 0 < n ∧ SqT K H q (ns.map V.int) ∧
  (ok n ns = true → ∀ (H' : Hp) (p' : Addr), Same H H' → SqT K H' p' ((inv n ns).map V.int) → Q (.ref p') H') ∧
  (ok n ns = false → ∀ (d : Addr) (H' : Hp), Same H H' → H' d = some (.xd [(fld, .ref q)]) → E (.ref F) (some d) H')
def iabs (x : Int) : Int := if x < 0 then -x else x
def imax (x y : Int) : Int := if y > x then y else x
/-- how far two attitudes are apart, none for unlike quarters -/
def apartI (n : Int) : List Int → List Int → Option Int
  | [a, b, c], [d, e, g] => if c = g then some (imax (iabs (near n (a - d))) (iabs (near n (b - e)))) else none
  | _, _ => none
def optV : Option Int → V
  | some i => .int i
  | none => .non
def farI (n s : Int) (a b : List Int) : Bool := match apartI n a b with
  | some k => decide (s < k)
  | none => true
def spApart (K : PySem.W.Frag) (C D : Addr) : Sp := fun vs H Q E => ∃ (p q r : Addr) (n : Int) (st : List V) (cam ns ms : List Int), vs = [.ref p, .ref q, .ref r] ∧ SkyAt K C H p n st cam ∧ 0 < n ∧ SqT K H q (ns.map V.int) ∧ SqT K H r (ms.map V.int) ∧
  (isPose n ns = true → isPose n ms = true → Q (optV (apartI n ns ms)) H) ∧ (isPose n ns = false → ∀ (d : Addr) (H' : Hp), Same H H' → H' d = some (.xd [("attitude", .ref q)]) → E (.ref D) (some d) H') ∧
  (isPose n ns = true → isPose n ms = false → ∀ (d : Addr) (H' : Hp), Same H H' → H' d = some (.xd [("attitude", .ref r)]) → E (.ref D) (some d) H')
def spFar (K : PySem.W.Frag) (C D : Addr) : Sp := fun vs H Q E => ∃ (p q r : Addr) (n s : Int) (st : List V) (cam ns ms : List Int), vs = [.ref p, .ref q, .ref r, .int s] ∧ SkyAt K C H p n st cam ∧ 0 < n ∧ SqT K H q (ns.map V.int) ∧ SqT K H r (ms.map V.int) ∧
  (isPose n ns = true → isPose n ms = true → Q (.bl (farI n s ns ms)) H) ∧ (isPose n ns = false → ∀ (d : Addr) (H' : Hp), Same H H' → H' d = some (.xd [("attitude", .ref q)]) → E (.ref D) (some d) H') ∧
  (isPose n ns = true → isPose n ms = false → ∀ (d : Addr) (H' : Hp), Same H H' → H' d = some (.xd [("attitude", .ref r)]) → E (.ref D) (some d) H')
end Sw
namespace Sw
open PySem PySem.Spec PyProof.Rows L2
theorem pose_len {n : Int} {ns : List Int} (h : ((ns.length : Nat) : Int) ≠ 3) : isPose n ns = false := by
  match ns, h with
  | [], _ => rfl
  | [_], _ => rfl
  | [_, _], _ => rfl
  | [_, _, _], h => exact absurd (by simp) h
  | _ :: _ :: _ :: _ :: _, _ => rfl
theorem cmd_len {n : Int} {ns : List Int} (h : ((ns.length : Nat) : Int) ≠ 3) : isCmd n ns = false := by
  match ns, h with
  | [], _ => rfl
  | [_], _ => rfl
  | [_, _], _ => rfl
  | [_, _, _], h => exact absurd (by simp) h
  | _ :: _ :: _ :: _ :: _, _ => rfl
theorem star_len {n : Int} {ns : List Int} (h : ((ns.length : Nat) : Int) ≠ 3) : isStar n ns = false := by
  match ns, h with
  | [], _ => rfl
  | [_], _ => rfl
  | [_, _], _ => rfl
  | [_, _, _], h => exact absurd (by simp) h
  | _ :: _ :: _ :: _ :: _, _ => rfl
theorem cam_len {n : Int} {ns : List Int} (h : ((ns.length : Nat) : Int) ≠ 4) : isCam n ns = false := by
  match ns, h with
  | [], _ => rfl
  | [_], _ => rfl
  | [_, _], _ => rfl
  | [_, _, _], _ => rfl
  | [_, _, _, _], h => exact absurd (by simp) h
  | _ :: _ :: _ :: _ :: _ :: _, _ => rfl
end Sw
namespace Sw
open PySem PySem.Spec PyProof.Rows L2
/-! ### what the law about commands reckons by itself -/
def spLTurn (K : PySem.W.Frag) : Sp := fun vs H Q _ => ∃ (q x y : Int) (p : Addr), vs = [.int q, .ref p] ∧ (SqT K H p [.int x, .int y] ∨ SqL K H p [.int x, .int y]) ∧ 0 ≤ q ∧ q ≤ 3 ∧
  ∀ (H' : Hp) (p' : Addr), Same H H' → SqT K H' p' [.int (turnX q x y), .int (turnY q x y)] → Q (.ref p') H'
def spWalked (K : PySem.W.Frag) : Sp := fun vs H Q _ => ∃ (n x y q i j l : Int) (p r : Addr), vs = [.int n, .ref p, .ref r] ∧ SqT K H p [.int x, .int y, .int q] ∧ SqT K H r [.int i, .int j, .int l] ∧ isPose n [x, y, q] = true ∧ 0 ≤ l ∧ l ≤ 3 ∧ -100 ≤ i ∧ i ≤ 100 ∧ -100 ≤ j ∧ j ≤ 100 ∧
  ∀ (H' : Hp) (p' : Addr), Same H H' → SqT K H' p' ((comp n [i, j, l] [x, y, q]).map V.int) → Q (.ref p') H'
def toldC (n : Int) (ns ms : List Int) : Int × List Int := if isPose n ns then (if isCmd n ms then (0, comp n ms ns) else (2, ms)) else (1, ns)
def spToldC (K : PySem.W.Frag) (C : Addr) : Sp := fun vs H Q _ => ∃ (p q r : Addr) (n : Int) (st : List V) (cam ns ms : List Int), vs = [.ref p, .ref q, .ref r] ∧ SkyAt K C H p n st cam ∧ 0 < n ∧ SqT K H q (ns.map V.int) ∧ SqT K H r (ms.map V.int) ∧
  ∀ (H' : Hp) (t b : Addr), Same H H' → SqT K H' t [.int (toldC n ns ms).1, .ref b] → SqT K H' b ((toldC n ns ms).2.map V.int) → Q (.ref t) H'
def backC (n : Int) (ns : List Int) : Int × List Int := if isCmd n ns then (0, inv n ns) else (2, ns)
def spBackC (K : PySem.W.Frag) (C : Addr) : Sp := fun vs H Q _ => ∃ (p q : Addr) (n : Int) (st : List V) (cam ns : List Int), vs = [.ref p, .ref q] ∧ SkyAt K C H p n st cam ∧ 0 < n ∧ SqT K H q (ns.map V.int) ∧
  ∀ (H' : Hp) (t b : Addr), Same H H' → SqT K H' t [.int (backC n ns).1, .ref b] → SqT K H' b ((backC n ns).2.map V.int) → Q (.ref t) H'
def orTI (ok : Bool) (ns : List Int) : PyData := if ok then .none else dTI ns
def spChecksC (K : PySem.W.Frag) (C : Addr) : Sp := fun vs H Q _ => ∃ (p q r : Addr) (n : Int) (st : List V) (cam ns ms : List Int), vs = [.ref p, .ref q, .ref r] ∧ SkyAt K C H p n st cam ∧ SqT K H q (ns.map V.int) ∧ SqT K H r (ms.map V.int) ∧
  ∀ (H' : Hp) (l : Addr) (x y : V), Same H H' → H' l = some (.lst [x, y]) → Dp K H' x (orTI (isPose n ns) ns) → Dp K H' y (orTI (isCmd n ms) ms) → Q (.ref l) H'
end Sw
namespace Sw
open PySem PySem.Spec PyProof.Rows L2
def chkV (ok : Bool) (q : Addr) : V := if ok then .non else .ref q
theorem chk_dp {K : PySem.W.Frag} {H : Hp} {q : Addr} {ns : List Int} (ok : Bool) (h : SqT K H q (ns.map V.int)) : Dp K H (chkV ok q) (orTI ok ns) := by
  cases ok with
  | true => exact .non
  | false => exact dp_ti h
theorem turnX_zero (q : Int) : turnX q 0 0 = 0 := by unfold turnX; split <;> (try split) <;> (try split) <;> rfl
theorem turnY_zero (q : Int) : turnY q 0 0 = 0 := by unfold turnY; split <;> (try split) <;> (try split) <;> rfl
theorem turnX_add (q a b c d : Int) : turnX q (a + c) (b + d) = turnX q a b + turnX q c d := by unfold turnX; split <;> (try split) <;> (try split) <;> omega
theorem turnY_add (q a b c d : Int) : turnY q (a + c) (b + d) = turnY q a b + turnY q c d := by unfold turnY; split <;> (try split) <;> (try split) <;> omega
end Sw
namespace Sw
open PySem PySem.Spec PyProof.Rows L2
theorem quarter_cases {q : Int} (h0 : 0 ≤ q) (h3 : q ≤ 3) : q = 0 ∨ q = 1 ∨ q = 2 ∨ q = 3 := by omega
theorem side_cases {n : Int} (h0 : 4 ≤ n) (h3 : n ≤ 9) : n = 4 ∨ n = 5 ∨ n = 6 ∨ n = 7 ∨ n = 8 ∨ n = 9 := by omega
theorem tX0 (x y : Int) : turnX 0 x y = x := rfl
theorem tX1 (x y : Int) : turnX 1 x y = -y := rfl
theorem tX2 (x y : Int) : turnX 2 x y = -x := rfl
theorem tX3 (x y : Int) : turnX 3 x y = y := rfl
theorem tY0 (x y : Int) : turnY 0 x y = y := rfl
theorem tY1 (x y : Int) : turnY 1 x y = x := rfl
theorem tY2 (x y : Int) : turnY 2 x y = -y := rfl
theorem tY3 (x y : Int) : turnY 3 x y = -x := rfl
theorem tXm (q x y : Int) : turnX q x y = turnX (q % 4) x y := by unfold turnX; rw [Int.emod_emod_of_dvd q (Int.dvd_refl 4)]
theorem tYm (q x y : Int) : turnY q x y = turnY (q % 4) x y := by unfold turnY; rw [Int.emod_emod_of_dvd q (Int.dvd_refl 4)]
theorem undo1 {n u v z x : Int} (h : (u % n + (v + x) % n) % n = z) (e : u + v = 0) (h0 : 0 ≤ x) (h1 : x < n) : z = x := by
  rw [← h, ← Int.add_emod, ← Int.add_assoc, e, Int.zero_add]
  exact Int.emod_eq_of_lt h0 h1
theorem neg_emod' (a n : Int) : (-(a % n)) % n = (-a) % n := by
  rw [← Int.emod_emod_of_dvd (-a) (Int.dvd_refl n)]
  conv => rhs; rw [← Int.mul_ediv_add_emod a n]
  rw [Int.neg_add, ← Int.mul_neg, Int.emod_emod_of_dvd _ (Int.dvd_refl n), Int.add_comm, Int.add_mul_emod_self_left]
theorem back_ok {n x y q i j l : Int} (hp : isPose n [x, y, q] = true) (l0 : 0 ≤ l) (l3 : l ≤ 3) : comp n (inv n [i, j, l]) (comp n [i, j, l] [x, y, q]) = [x, y, q] := by
  have h := of_decide_eq_true hp
  have key : ∀ u v w : Int, (w = u % n ∨ w = -(-u % n)) → u + v = 0 → ∀ z, 0 ≤ z → z < n → (w + (v + z) % n) % n = z := fun u v w hw e z z0 z1 => by
    have e1 : w % n = u % n := by
      rcases hw with rfl | rfl
      · exact Int.emod_emod_of_dvd u (Int.dvd_refl n)
      · rw [neg_emod', Int.neg_neg]
    rw [Int.add_emod, e1, Int.emod_emod_of_dvd _ (Int.dvd_refl n), ← Int.add_emod, ← Int.add_assoc, e, Int.zero_add]
    exact Int.emod_eq_of_lt z0 z1
  show [(turnX ((l + q) % 4) (turnX (2 - l) i j % n) (turnY (2 - l) i j % n) + (turnX q i j + x) % n) % n, (turnY ((l + q) % 4) (turnX (2 - l) i j % n) (turnY (2 - l) i j % n) + (turnY q i j + y) % n) % n, ((4 - l) % 4 + (l + q) % 4) % 4] = [x, y, q]
  have hq : ((4 - l) % 4 + (l + q) % 4) % 4 = q := by omega
  rw [hq]
  have X : (turnX ((l + q) % 4) (turnX (2 - l) i j % n) (turnY (2 - l) i j % n) + (turnX q i j + x) % n) % n = x := by
    refine key (-(turnX q i j)) _ _ ?_ (by omega) x h.1 h.2.1
    rcases quarter_cases l0 l3 with rfl | rfl | rfl | rfl <;> rcases quarter_cases h.2.2.2.2.1 h.2.2.2.2.2 with rfl | rfl | rfl | rfl <;> simp [turnX, turnY]
  have Y : (turnY ((l + q) % 4) (turnX (2 - l) i j % n) (turnY (2 - l) i j % n) + (turnY q i j + y) % n) % n = y := by
    refine key (-(turnY q i j)) _ _ ?_ (by omega) y h.2.2.1 h.2.2.2.1
    rcases quarter_cases l0 l3 with rfl | rfl | rfl | rfl <;> rcases quarter_cases h.2.2.2.2.1 h.2.2.2.2.2 with rfl | rfl | rfl | rfl <;> simp [turnX, turnY]
  rw [X, Y]
theorem comp_pose {n i j l x y q : Int} (hn : 0 < n) : isPose n (comp n [i, j, l] [x, y, q]) = true := by
  refine decide_eq_true ⟨Int.emod_nonneg _ (by omega), Int.emod_lt_of_pos _ hn, Int.emod_nonneg _ (by omega), Int.emod_lt_of_pos _ hn, by omega, by omega⟩
theorem inv_cmd {n i j l : Int} (hn : 0 < n) : isCmd n (inv n [i, j, l]) = true := by
  have a0 := Int.emod_nonneg (turnX (2 - l) i j) (show n ≠ 0 by omega)
  have a1 := Int.emod_lt_of_pos (turnX (2 - l) i j) hn
  have b0 := Int.emod_nonneg (turnY (2 - l) i j) (show n ≠ 0 by omega)
  have b1 := Int.emod_lt_of_pos (turnY (2 - l) i j) hn
  exact decide_eq_true ⟨by omega, a1, by omega, b1, by omega, by omega⟩
theorem turn_mod8 (q x y : Int) : turnX ((q + 8) % 4) x y = turnX q x y ∧ turnY ((q + 8) % 4) x y = turnY q x y := by
  rw [tXm q, tYm q, show (q + 8) % 4 = q % 4 by omega]
  exact ⟨rfl, rfl⟩
end Sw
namespace Sw
theorem poseF {n x y q : Int} (h : ¬ (0 ≤ x ∧ x < n ∧ 0 ≤ y ∧ y < n ∧ 0 ≤ q ∧ q ≤ 3)) : isPose n [x, y, q] = false := decide_eq_false h
theorem cmdF {n x y q : Int} (h : ¬ (-n < x ∧ x < n ∧ -n < y ∧ y < n ∧ 0 ≤ q ∧ q ≤ 3)) : isCmd n [x, y, q] = false := decide_eq_false h
theorem poseT {n x y q : Int} (h : 0 ≤ x ∧ x < n ∧ 0 ≤ y ∧ y < n ∧ 0 ≤ q ∧ q ≤ 3) : isPose n [x, y, q] = true := decide_eq_true h
end Sw
set_option Elab.async false
set_option linter.all false
set_option maxRecDepth 100000
set_option maxHeartbeats 4000000
/-! Lists of tuples of integers: stars and spots. -/
namespace Sw
open PySem PySem.Spec PyProof.Rows L2
abbrev Tups := List (Addr × List Int)
def refs (ks : Tups) : List V := ks.map fun p => V.ref p.1
def keys (ks : Tups) : List (List Int) := ks.map (·.2)
def TupsAt (K : PySem.W.Frag) (H : Hp) (ks : Tups) : Prop := ∀ p ∈ ks, SqT K H p.1 (p.2.map V.int)
theorem tups_up {K : PySem.W.Frag} {H H' : Hp} {ks : Tups} (s : Same H H') (h : TupsAt K H ks) : TupsAt K H' ks := fun p hp => sqT_up s (h p hp)
theorem refs_len (ks : Tups) : (refs ks).length = ks.length := List.length_map ..
theorem keys_len (ks : Tups) : (keys ks).length = ks.length := List.length_map ..
theorem dp_tups {K : PySem.W.Frag} {H : Hp} : ∀ {ks : Tups}, TupsAt K H ks → DpAll K H (refs ks) ((keys ks).map dTI)
  | [], _ => .nil
  | p :: r, h => .cons (dp_ti (h p List.mem_cons_self)) (dp_tups fun q hq => h q (List.mem_cons_of_mem _ hq))
/-- len of a set of such -/
def rLenT (P : Program) (w : World) : List V → Hp → VK → Prop := fun xs H Q => ∃ (b : Addr) (L : Tups), xs = [.ref b] ∧ H b = some (SetTO P w b L) ∧ ((keys L).Nodup → Q (.int L.length) H)
theorem cr_lenT {X : Cx} : CallR X (.builtin "len") (rLenT X.prog X.w) := by
  intro pins s σ H xs us Q I hv ⟨b, L, ex, hb, q⟩
  subst ex
  cases hv with
  | cons r1 r2 =>
    cases r2
    rename_i u1
    obtain rfl : u1 = Value.ref b := r1
    have z : ObjOk X.prog X.w H s.heap b (SetTO X.prog X.w b L) := I.hok b _ hb
    obtain ⟨⟨⟨es, ep, t, ⟨o, g1, g2, g3⟩, h1, h2, h3, _, _, h4, h5⟩⟩, _⟩ := z
    have hsz : es.size = L.length := by
      rw [← Array.length_toList, h1]
      exact List.length_map ..
    have hdm : t.dummies.size = 0 := by rw [h2.dm]; rfl
    have hps : t.place.size = L.length := by rw [h2.sz, List.length_map]
    have hf : t.fits es.size = true := by
      unfold PySem.SetTable.fits
      rw [Bool.and_eq_true]
      refine ⟨by rw [hps, hsz]; exact beq_self_eq_true _, decide_eq_true ?_⟩
      unfold PySem.SetTable.fill
      omega
    refine call_len_set g1 g2 g3 hf (by rw [hsz]; omega) ?_
    rw [hsz]
    exact ⟨.int L.length, H, (I.tok _).tok _, ⟨_, rfl⟩, q h3⟩
theorem len_le_of_sub {α : Type} [DecidableEq α] : ∀ {l m : List α}, l.Nodup → (∀ x ∈ l, x ∈ m) → l.length ≤ m.length
  | [], _, _, _ => Nat.zero_le _
  | x :: r, m, hn, hs => by
    have hn' := List.nodup_cons.mp hn
    have hx : x ∈ m := hs x List.mem_cons_self
    have := len_le_of_sub (l := r) (m := m.erase x) hn'.2 fun y hy => (List.mem_erase_of_ne (fun e => hn'.1 (by rw [← e]; exact hy))).mpr (hs y (List.mem_cons_of_mem _ hy))
    rw [List.length_erase_of_mem hx] at this
    have := List.length_pos_of_mem hx
    simp only [List.length_cons]
    omega
theorem shorter {α : Type} [DecidableEq α] : ∀ {l : List α}, ¬ l.Nodup → ∃ m : List α, m.length < l.length ∧ ∀ x ∈ l, x ∈ m
  | [], h => absurd List.nodup_nil h
  | x :: r, h => by
    by_cases hx : x ∈ r
    · exact ⟨r, by simp, fun y hy => by
        rcases List.mem_cons.mp hy with rfl | hy
        · exact hx
        · exact hy⟩
    · obtain ⟨m, h1, h2⟩ := shorter (l := r) fun hr => h (List.nodup_cons.mpr ⟨hx, hr⟩)
      exact ⟨x :: m, by simpa using h1, fun y hy => by
        rcases List.mem_cons.mp hy with rfl | hy
        · exact List.mem_cons_self
        · exact List.mem_cons_of_mem _ (h2 y hy)⟩
theorem set_len {ks L : Tups} (h1 : ∀ p ∈ L, p ∈ ks) (h2 : ∀ p ∈ ks, p.2 ∈ L.map (·.2)) (hn : (keys L).Nodup) : (L.length < ks.length) ↔ ¬ (keys ks).Nodup := by
  have s1 : ∀ x ∈ keys L, x ∈ keys ks := fun x hx => by
    obtain ⟨p, hp, rfl⟩ := List.mem_map.mp hx
    exact List.mem_map_of_mem (h1 p hp)
  have s2 : ∀ x ∈ keys ks, x ∈ keys L := fun x hx => by
    obtain ⟨p, hp, rfl⟩ := List.mem_map.mp hx
    exact h2 p hp
  constructor
  · intro hl hk
    have := len_le_of_sub hk s2
    rw [keys_len, keys_len] at this
    omega
  · intro hk
    obtain ⟨m, hm, hs⟩ := shorter hk
    have := len_le_of_sub hn fun x hx => hs x (s1 x hx)
    rw [keys_len] at this hm
    omega
theorem perm_map_inv {α β : Type} {f : α → β} {l m : List β} (h : l.Perm m) : ∀ {ks : List α}, m = ks.map f → ∃ ks' : List α, ks'.Perm ks ∧ l = ks'.map f := by
  induction h with
  | nil =>
    intro ks e
    refine ⟨[], ?_, rfl⟩
    rw [show ks = [] by simpa using e.symm]
  | cons x _ ih =>
    intro ks e
    cases ks with
    | nil => cases e
    | cons k r =>
      rw [List.map_cons] at e
      injection e with e1 e2
      obtain ⟨r', h1, h2⟩ := ih e2
      exact ⟨k :: r', .cons _ h1, by rw [e1, h2]; rfl⟩
  | swap x y _ =>
    intro ks e
    match ks, e with
    | a :: b :: r, e =>
      rw [List.map_cons, List.map_cons] at e
      injection e with e1 e2
      injection e2 with e2 e3
      exact ⟨b :: a :: r, .swap .., by rw [e1, e2, e3]; rfl⟩
  | trans _ _ ih1 ih2 =>
    intro ks e
    obtain ⟨k1, h1, e1⟩ := ih2 e
    obtain ⟨k2, h2, e2⟩ := ih1 e1
    exact ⟨k2, h2.trans h1, e2⟩
theorem code_inj {B : Int} : ∀ {a b : List Int}, a.length = b.length → TS.Bd B a → TS.Bd B b → TS.code B a = TS.code B b → a = b
  | [], [], _, _, _, _ => rfl
  | d :: r, e :: q, hl, ha, hb, hc => by
    have hl' : r.length = q.length := by simpa using hl
    by_cases h1 : d < e
    · have := TS.code_lt hl' ha.tail hb.tail h1
      omega
    by_cases h2 : e < d
    · have := TS.code_lt hl'.symm hb.tail ha.tail h2
      omega
    obtain rfl : d = e := by omega
    have z1 := mt (TS.code_same (B := B) (d := d) hl').mpr (by omega)
    have z2 := mt (TS.code_same (B := B) (d := d) hl'.symm).mpr (by omega)
    rw [code_inj hl' ha.tail hb.tail (by omega)]
/-- tuples in their order -/
def Asc (B : Int) (l : List (List Int)) : Prop := l.Pairwise fun a b => TS.code B a ≤ TS.code B b
def Fit (d : Nat) (B : Int) (l : List (List Int)) : Prop := ∀ a ∈ l, a.length = d ∧ TS.Bd B a
theorem asc_unique {d : Nat} {B : Int} {l m : List (List Int)} (hl : Asc B l) (hm : Asc B m) (hp : l.Perm m) (hf : Fit d B l) : l = m :=
  List.Perm.eq_of_pairwise (le := fun a b => TS.code B a ≤ TS.code B b) (fun a b ha hb h1 h2 => by
    obtain ⟨a1, a2⟩ := hf a ha
    obtain ⟨b1, b2⟩ := hf b (hp.mem_iff.mpr hb)
    exact code_inj (a1.trans b1.symm) a2 b2 (by omega)) hl hm hp
/-- sorted(l), l a list of tuples of d integers from 0 to below B -/
def rSortM (K : PySem.W.Frag) (d : Nat) (B : Int) : List V → Hp → VK → Prop := fun vs H Q => ∃ (b : Addr) (ks : Tups), vs = [.ref b] ∧ SqL K H b (refs ks) ∧ TupsAt K H ks ∧ ks.length < 64 ∧ Fit d B (keys ks) ∧
  ∀ (p : Addr) (ks' : Tups) (H' : Hp), Same H H' → H p = none → H' p = some (.lst (refs ks')) → ks'.Perm ks → Asc B (keys ks') → Q (.ref p) H'
theorem tupI_unique {X : Cx} {pins : List (Addr × Obj)} {σ : L2.St} {H : Hp} {s : Shared} (I : Inv X pins σ H s) {p : Addr} {a b : List Int} (h1 : SqT X.K H p (a.map V.int)) (h2 : SqT X.K H p (b.map V.int)) : a = b := by
  have e := I.tuple_inj h1 h2
  have inj : ∀ {a b : List Int}, a.map V.int = b.map V.int → a = b := by
    intro a
    induction a with
    | nil => intro b h; cases b with
      | nil => rfl
      | cons _ _ => cases h
    | cons x r ih =>
      intro b h
      cases b with
      | nil => cases h
      | cons y q =>
        rw [List.map_cons, List.map_cons] at h
        injection h with h1 h2
        rw [V.int.inj h1, ih h2]
  exact inj e
theorem cr_sortM {X : Cx} {d : Nat} {B : Int} (hd : 1 ≤ d) : CallR X (.builtin "sorted") (rSortM X.K d B) := by
  intro pins s σ H xs us Q I hv ⟨b, ks, ex, hb, ht, hl, hf, q⟩
  refine cr_sortT (d := d) (B := B) hd pins s σ H xs us Q I hv ⟨b, refs ks, ex, hb, by rw [refs_len]; exact hl, fun x hx => ?_, fun ys p hp hw np => ?_⟩
  · obtain ⟨k, hk, rfl⟩ := List.mem_map.mp hx
    obtain ⟨z1, z2⟩ := hf k.2 (List.mem_map_of_mem hk)
    exact ⟨k.2, ⟨k.1, rfl, ht k hk⟩, z1, z2⟩
  · obtain ⟨ks', h1, rfl⟩ := perm_map_inv (f := fun p : Addr × List Int => V.ref p.1) hp (ks := ks) rfl
    refine q p ks' _ (same_new np) np upd_same h1 ?_
    have hw' := List.pairwise_map.mp hw
    refine List.pairwise_map.mpr ?_
    have mem : ∀ k ∈ ks', TupI X.K H (V.ref k.1) k.2 := fun k hk => ⟨k.1, rfl, ht k (h1.mem_iff.mp hk)⟩
    exact hw'.imp_of_mem fun {x y} hx hy z => z _ _ (mem x hx) (mem y hy)
/-! what a sky may be -/
def isSky (n : Int) (kk : List (List Int)) (cam : List Int) : Bool := decide (4 ≤ n ∧ n ≤ 9) && kk.all (isStar n) && decide kk.Nodup && decide (kk.length ≤ 20) && isCam n cam
theorem star_fit {n : Int} {a : List Int} (h : isStar n a = true) (h9 : n ≤ 9) : a.length = 3 ∧ TS.Bd 10 a := by
  match a, h with
  | [x, y, b], h =>
    have z := of_decide_eq_true h
    refine ⟨rfl, fun m hm => ?_⟩
    simp only [List.mem_cons, List.not_mem_nil, or_false] at hm
    rcases hm with rfl | rfl | rfl <;> omega
theorem stars_fit {n : Int} {l : List (List Int)} (h : l.all (isStar n) = true) (h9 : n ≤ 9) : Fit 3 10 l := fun a ha => star_fit (List.all_eq_true.mp h a ha) h9
theorem sky_parts {n : Int} {kk : List (List Int)} {cam : List Int} (h : isSky n kk cam = true) : (4 ≤ n ∧ n ≤ 9) ∧ kk.all (isStar n) = true ∧ kk.Nodup ∧ kk.length ≤ 20 ∧ isCam n cam = true := by
  unfold isSky at h
  simp only [Bool.and_eq_true, decide_eq_true_eq] at h
  obtain ⟨⟨⟨⟨h1, h2⟩, h3⟩, h4⟩, h5⟩ := h
  exact ⟨h1, h2, h3, h4, h5⟩
theorem isSky_perm {n : Int} {kk mm : List (List Int)} {cam : List Int} (h : kk.Perm mm) : isSky n kk cam = isSky n mm cam := by
  unfold isSky
  rw [h.length_eq, show kk.all (isStar n) = mm.all (isStar n) from Bool.eq_iff_iff.mpr (by rw [List.all_eq_true, List.all_eq_true]; exact ⟨fun z x hx => z x (h.mem_iff.mpr hx), fun z x hx => z x (h.mem_iff.mp hx)⟩), show decide kk.Nodup = decide mm.Nodup from decide_eq_decide.mpr h.nodup_iff]
/-- the checks of a sky -/
def spCheck (K : PySem.W.Frag) (D : Addr) : Sp := fun vs H Q E => ∃ (n : Int) (l c : Addr) (ks : Tups) (cam : List Int), vs = [.int n, .ref l, .ref c] ∧ SqL K H l (refs ks) ∧ TupsAt K H ks ∧ SqT K H c (cam.map V.int) ∧ ks.length < 64 ∧
  (isSky n (keys ks) cam = true → ∀ H', Same H H' → Q .non H') ∧ (isSky n (keys ks) cam = false → ∀ H', Same H H' → E (.ref D) none H')
def SkyS (K : PySem.W.Frag) (C : Addr) (H : Hp) (p : Addr) (n : Int) (ks : Tups) (cam : List Int) : Prop := SkyAt K C H p n (refs ks) cam ∧ TupsAt K H ks
theorem skyS_up {K : PySem.W.Frag} {C : Addr} {H H' : Hp} {p : Addr} {n : Int} {ks : Tups} {cam : List Int} (s : Same H H') (h : SkyS K C H p n ks cam) : SkyS K C H' p n ks cam := ⟨sky_up s h.1, tups_up s h.2⟩
def spInit (K : PySem.W.Frag) (C D : Addr) : Sp := fun vs H Q E => ∃ (x dx : Addr) (n : Int) (l c : Addr) (ks : Tups) (cam : List Int), vs = [.ref x, .int n, .ref l, .ref c] ∧ H x = some (.ins C dx []) ∧ SqL K H l (refs ks) ∧ TupsAt K H ks ∧ SqT K H c (cam.map V.int) ∧ ks.length < 64 ∧
  (isSky n (keys ks) cam = true → ∀ (H' : Hp) (ks' : Tups), SkyS K C H' x n ks' cam → ks'.Perm ks → Asc 10 (keys ks') → (∀ b o, H b = some o → b ≠ x → H' b = some o) → Q .non H') ∧
  (isSky n (keys ks) cam = false → ∀ H', Same H H' → E (.ref D) none H')
end Sw
namespace L2
open PySem PySem.Spec PyProof.Rows
def tTryOnly (K : PySem.W.Frag) (c : Value) (ts : Addr → Value → Option Addr → TS) (Wout : WX) (tb : WX → TS) : TS := fun D σ H => tb (wOnly K c ts Wout D) D σ H
theorem ps_try_only1 {X : Cx} {x : Str} {c : Value} {body suite : List Stmt} {b₀ : Stmt} {np pos pos' : Pos} {tb : WX → TS} {ts : Addr → Value → Option Addr → TS} {Wout : WX} (hs : X.stack = X.env :: X.outer) (hf : X.env.frame = some X.env.locals) (hc : Names X x c) (tk : Takes X Wout)
    (hb : ∀ (W : WX) (pn : List (Addr × Obj)) (xe : Value → Shared → Prop), Takes (X.tr pn xe) W → PassesOwn (model X.prog X.w) X.A X.env xe → PSs (X.tr pn xe) body (tb W))
    (hsu : ∀ (a : Addr) (oe : Obj) (cls : Value) (d : Option Addr) (pn : List (Addr × Obj)), Zc cls d oe → (∃ vs, oe.data = .fields vs) → PSs (X.suite a ((a, oe) :: pn)) (b₀ :: suite) (ts a cls d)) :
    PS X (.Try body [.ExceptHandler (some (.Name x np)) none (b₀ :: suite) pos'] [] [] pos) (tTryOnly X.K c ts Wout tb) := ps_try_only hs hf hc tk hb hsu
end L2
namespace Sw
open PySem PySem.Spec PyProof.Rows L2
theorem iteD2 {c A B : Prop} [Decidable c] (hc : c) (h : A) : if decide c = true then A else B := by
  rw [if_pos (decide_eq_true hc)]
  exact h
theorem iteD3 {c A B : Prop} [Decidable c] (hc : ¬ c) (h : B) : if decide c = true then A else B := by
  rw [if_neg (by rw [decide_eq_false hc]; decide)]
  exact h
end Sw
namespace Sw
open PySem PySem.Spec PyProof.Rows L2
theorem pickI {zs : List Int} {j : Int} {P : Int → Prop} (h : ∀ z ∈ zs, P z) (h0 : 0 ≤ j) (h1 : j < (zs.length : Int)) : ∃ z, atI (zs.map V.int) j = some (.int z) ∧ P z := by
  refine ⟨_, nthI h0 h1, ?_⟩
  unfold numI
  rw [List.getD_eq_getElem?_getD, List.getElem?_eq_getElem (by omega)]
  exact h _ (List.getElem_mem _)
/-- the drawn parts of a sky -/
def spParts (K : PySem.W.Frag) : Sp := fun vs H Q _ => ∃ (p1 : Addr) (ns : List Int) (at' most : Int), vs = [.ref p1, .int at', .int most] ∧ SqL K H p1 (ns.map V.int) ∧ (∀ n ∈ ns, Num n) ∧ 0 ≤ at' ∧ 0 ≤ most ∧ most ≤ 20 ∧ at' + 6 + 3 * most ≤ (ns.length : Int) ∧
  ∀ (H' : Hp) (t l c : Addr) (n : Int) (ks : Tups) (cam : List Int), Same H H' → SqT K H' t [.int n, .ref l, .ref c] → H l = none → H' l = some (.lst (refs ks)) → TupsAt K H' ks → SqT K H' c (cam.map V.int) →
    isSky n (keys ks) cam = true → (ks.length : Int) ≤ most → Asc 10 (keys ks) → Q (.ref t) H'
end Sw
namespace Sw
open PySem PySem.Spec PyProof.Rows L2
theorem min2I (a b : Int) : nuMin2 (.int a) (.int b) = some (.int (if b < a then b else a)) := by
  show some (if decide (b < a) = true then V.int b else V.int a) = _
  by_cases h : b < a
  · rw [decide_eq_true h, if_pos h]
    rfl
  · rw [decide_eq_false h, if_neg h]
    rfl
def rMin3I : List V → Hp → VK → Prop := fun xs H Q => ∃ a b c : Int, xs = [.int a, .int b, .int c] ∧ ∀ m : Int, m ≤ a → m ≤ b → m ≤ c → (m = a ∨ m = b ∨ m = c) → Q (.int m) H
theorem call_min3I {X : Cx} (hc : X.calm = true) : CallR X (.builtin "min") rMin3I := fun pins s σ H xs us Q I hv ⟨a, b, c, e, q⟩ => by
  refine call_min3Nu hc pins s σ H xs us Q I hv ⟨.int a, .int b, .int c, .int (if c < (if b < a then b else a) then c else (if b < a then b else a)), e, ?_, q _ ?_ ?_ ?_ ?_⟩
  · show (nuMin2 (.int a) (.int b)).bind (fun m => nuMin2 m (.int c)) = _
    rw [min2I]
    exact min2I _ _
  all_goals (repeat' split) <;> omega
end Sw
namespace Sw
open PySem PySem.Spec PyProof.Rows L2
theorem eqvAll_ints : ∀ a b : List Int, PyData.eqvAll (a.map .int) (b.map .int) = decide (a = b)
  | [], [] => rfl
  | [], _ :: _ => rfl
  | _ :: _, [] => rfl
  | x :: r, y :: q => by
    show ((x == y) && PyData.eqvAll (r.map .int) (q.map .int)) = _
    rw [eqvAll_ints r q]
    by_cases h : x = y <;> by_cases h2 : r = q <;> simp [h, h2]
theorem eqv_ti (a b : List Int) : PyData.eqv (dTI a) (dTI b) = decide (a = b) := eqvAll_ints a b
theorem any_tups (kk : List (List Int)) (k : List Int) : ((kk.map dTI).any fun z => PyData.eqv z (dTI k)) = decide (k ∈ kk) := by
  induction kk with
  | nil => rfl
  | cons q r ih =>
    rw [List.map_cons, List.any_cons, ih, eqv_ti]
    by_cases h : q = k
    · subst h
      simp
    · rw [decide_eq_false h, Bool.false_or]
      by_cases hm : k ∈ r
      · rw [decide_eq_true hm, decide_eq_true (List.mem_cons_of_mem _ hm)]
      · rw [decide_eq_false hm, decide_eq_false (fun z => (List.mem_cons.mp z).elim (fun e => h e.symm) hm)]
theorem lay_tups (kk : List (List Int)) : Lay 2 (.list (kk.map dTI)) := lay_list fun d hd => by
  obtain ⟨p, _, rfl⟩ := List.mem_map.mp hd
  exact lay_ti _
theorem refs_push (ks : Tups) (p : Addr × List Int) : refs ks ++ [V.ref p.1] = refs (ks ++ [p]) := by
  unfold refs
  rw [List.map_append]
  rfl
theorem keys_push (ks : Tups) (p : Addr × List Int) : keys (ks ++ [p]) = keys ks ++ [p.2] := by
  unfold keys
  rw [List.map_append]
  rfl
theorem tups_put {K : PySem.W.Frag} {H : Hp} {l : Addr} {xs : List V} {o : HO} {ks : Tups} (hl : H l = some (.lst xs)) (h : TupsAt K H ks) : TupsAt K (upd H l o) ks := fun p hp => sqT_lst hl (h p hp)
theorem nodup_push {α : Type} {l : List α} {x : α} (h : l.Nodup) (hx : x ∉ l) : (l ++ [x]).Nodup := by
  rw [List.nodup_append]
  refine ⟨h, by simp, fun a ha b hb => ?_⟩
  rw [List.mem_singleton.mp hb]
  intro e
  exact hx (e ▸ ha)
end Sw
namespace Sw
open PySem PySem.Spec PyProof.Rows L2
def spOfStars (K : PySem.W.Frag) (C : Addr) : Sp := fun vs H Q _ => ∃ (p : Addr) (n : Int) (st : List V) (cam : List Int), vs = [.ref p] ∧ SkyAt K C H p n st cam ∧ ∀ ts, SqT K H ts st → Q (.ref ts) H
def spOfCamera (K : PySem.W.Frag) (C : Addr) : Sp := fun vs H Q _ => ∃ (p : Addr) (n : Int) (st : List V) (cam : List Int), vs = [.ref p] ∧ SkyAt K C H p n st cam ∧ ∀ tc, SqT K H tc (cam.map V.int) → Q (.ref tc) H
def spOfPart (K : PySem.W.Frag) (C : Addr) (i : Nat) : Sp := fun vs H Q _ => ∃ (p : Addr) (n : Int) (st : List V) (cam : List Int) (z : Int), vs = [.ref p] ∧ SkyAt K C H p n st cam ∧ cam[i]? = some z ∧ Q (.int z) H
theorem cam_form {n : Int} {cam : List Int} (h : isCam n cam = true) : ∃ r b g l, cam = [r, b, g, l] ∧ 0 ≤ r ∧ r ≤ 4 ∧ 0 ≤ b ∧ b ≤ 2 ∧ 0 ≤ g ∧ g ≤ 2 ∧ 1 ≤ l ∧ l ≤ 9 ∧ b ≤ r ∧ 2 * (r + b) + 1 ≤ n := by
  match cam, h with
  | [r, b, g, l], h => exact ⟨r, b, g, l, rfl, of_decide_eq_true h⟩
/-- a sky is tried: none, or what it tells -/
def skyD (n : Int) (kk : List (List Int)) (cam : List Int) : PyData := .tuple [.int n, .tuple (kk.map dTI), dTI cam, dTI cam]
def spToldS (K : PySem.W.Frag) : Sp := fun vs H Q _ => ∃ (n : Int) (l c : Addr) (ks : Tups) (cam : List Int), vs = [.int n, .ref l, .ref c] ∧ SqL K H l (refs ks) ∧ TupsAt K H ks ∧ SqT K H c (cam.map V.int) ∧ ks.length < 64 ∧
  (isSky n (keys ks) cam = false → ∀ H', Same H H' → Q .non H') ∧
  (isSky n (keys ks) cam = true → ∀ (H' : Hp) (t : Addr) (ks' : Tups), Same H H' → ks'.Perm ks → Asc 10 (keys ks') → Dp K H' (.ref t) (skyD n (keys ks') cam) → Q (.ref t) H')
def spIsSky (K : PySem.W.Frag) : Sp := fun vs H Q _ => ∃ (n : Int) (l c : Addr) (ks : Tups) (cam : List Int), vs = [.int n, .ref l, .ref c] ∧ SqL K H l (refs ks) ∧ TupsAt K H ks ∧ SqT K H c (cam.map V.int) ∧ ks.length < 64 ∧
  ∀ H', Same H H' → Q (.bl (isSky n (keys ks) cam)) H'
def spBroken (K : PySem.W.Frag) : Sp := fun vs H Q _ => ∃ (n : Int) (l c p1 : Addr) (at' : Int) (ks : Tups) (cam ns : List Int), vs = [.int n, .ref l, .ref c, .ref p1, .int at'] ∧ H l = some (.lst (refs ks)) ∧ TupsAt K H ks ∧ SqT K H c (cam.map V.int) ∧ ks.length ≤ 6 ∧ isCam n cam = true ∧
  SqL K H p1 (ns.map V.int) ∧ (∀ z ∈ ns, Num z) ∧ 0 ≤ at' ∧ at' + 1 < (ns.length : Int) ∧
  ∀ (H' : Hp) (t l' c' : Addr) (n' : Int) (ks' : Tups) (cam' : List Int), Same H H' → SqT K H' t [.int n', .ref l', .ref c'] → SqL K H' l' (refs ks') → TupsAt K H' ks' → SqT K H' c' (cam'.map V.int) → ks'.length < 64 → Q (.ref t) H'
theorem dp_tup_tups {K : PySem.W.Frag} {H : Hp} {t : Addr} {ks : Tups} (h : SqT K H t (refs ks)) (ht : TupsAt K H ks) : Dp K H (.ref t) (.tuple ((keys ks).map dTI)) := dp_t h (dp_tups ht)
end Sw
namespace Sw
open PySem PySem.Spec PyProof.Rows L2
def rCatAM (K : PySem.W.Frag) : R2 := fun x y H Q => ∃ a b xs ys, x = .ref a ∧ y = .ref b ∧ SqT K H a xs ∧ SqT K H b ys ∧ xs.length + ys.length ≤ sizeLine ∧ nTup K H (xs ++ ys) Q
theorem op_catAM {X : Cx} : OpR X (binaryOp .Add) (rCatAM X.K) := fun pins s σ H x y v u Q I rx ry ⟨c, b, xs, ys, e1, e2, h1, h2, h5, q⟩ =>
  op_catA pins s σ H x y v u Q I rx ry ⟨c, b, xs, ys, e1, e2, h1, h2, h5, fun z => q b H (Same.refl _) (by rw [z]; exact h2), fun _ z => q c H (Same.refl _) (by rw [z, List.append_nil]; exact h1), fun _ _ p np => q.at p np⟩
end Sw
namespace Sw
open PySem PySem.Spec PyProof.Rows L2
def rSlAM (K : PySem.W.Frag) : V → Option Int → Option Int → Hp → VK → Prop := fun x lo hi H Q => ∃ a xs, x = .ref a ∧ SqT K H a xs ∧ nTup K H (cutV xs lo hi) Q
theorem sl_tupAM {X : Cx} : SlR X (rSlAM X.K) := fun pins s σ H x v vl vu lo hi sl Q I rx hs pl pu ⟨b, xs, e, h1, q⟩ =>
  sl_tupA pins s σ H x v vl vu lo hi sl Q I rx hs pl pu ⟨b, xs, e, h1, fun z => q b H (Same.refl _) (by
    unfold cutV
    rw [z.1, z.2, Nat.sub_zero, List.drop_zero, List.take_length]
    exact h1), fun _ p np => q.at p np⟩
theorem cut_ints (zs : List Int) (lo hi : Option Int) : ∃ ys : List Int, cutV (zs.map V.int) lo hi = ys.map V.int ∧ ys.length ≤ zs.length := by
  unfold cutV
  rw [← List.map_drop, ← List.map_take]
  refine ⟨_, rfl, ?_⟩
  rw [List.length_take, List.length_drop]
  omega
theorem sizeL {n : Nat} (h : n ≤ 200000) : n ≤ sizeLine := Nat.le_of_lt (sizeN h)
theorem ints_app (a b : List Int) : a.map V.int ++ b.map V.int = (a ++ b).map V.int := List.map_append.symm
theorem cut_refs (ks : Tups) (lo hi : Option Int) : ∃ ks2 : Tups, cutV (refs ks) lo hi = refs ks2 ∧ (∀ p ∈ ks2, p ∈ ks) ∧ ks2.length ≤ ks.length := by
  unfold cutV refs
  rw [← List.map_drop, ← List.map_take]
  refine ⟨_, rfl, fun p hp => List.mem_of_mem_drop (List.mem_of_mem_take hp), ?_⟩
  rw [List.length_take, List.length_drop]
  omega
theorem refs_app (a b : Tups) : refs a ++ refs b = refs (a ++ b) := List.map_append.symm
theorem tups_app {K : PySem.W.Frag} {H : Hp} {a b : Tups} (h1 : TupsAt K H a) (h2 : TupsAt K H b) : TupsAt K H (a ++ b) := fun p hp => (List.mem_append.mp hp).elim (h1 p) (h2 p)
theorem tups_one {K : PySem.W.Frag} {H : Hp} {p : Addr} {k : List Int} (h : SqT K H p (k.map V.int)) : TupsAt K H [(p, k)] := fun q hq => by
  rw [List.mem_singleton.mp hq]
  exact h
end Sw
namespace Sw
open PySem PySem.Spec PyProof.Rows L2
theorem tyx_tup {K : PySem.W.Frag} {H : Hp} {p : Addr} {xs : List V} (h : SqT K H p xs) : TyX K H (.ref p) (.type "tuple") := by
  rcases h with (h | ⟨o, h⟩) | ⟨o, its, n, h1, h2, _⟩
  · exact .base (.tup h)
  · exact .fTuple h
  · exact .kTuple h1 h2
end Sw
namespace Sw
open PySem PySem.Spec PyProof.Rows L2
theorem lay_tupt (kk : List (List Int)) : Lay 2 (.tuple (kk.map dTI)) := lay_tuple fun d hd => by
  obtain ⟨p, _, rfl⟩ := List.mem_map.mp hd
  exact lay_ti _
theorem lay_sky (n : Int) (kk : List (List Int)) (cam : List Int) : Lay 3 (skyD n kk cam) := lay_tuple fun d hd => by
  simp only [List.mem_cons, List.not_mem_nil, or_false] at hd
  rcases hd with rfl | rfl | rfl | rfl
  · exact lay_int _ _
  · exact lay_tupt kk
  · exact lay_up (lay_ti _) (by decide)
  · exact lay_up (lay_ti _) (by decide)
end Sw
namespace Sw
open PySem PySem.Spec PyProof.Rows L2
/-! ### what is seen from where -/
def keyAt (kk : List (List Int)) (j : Int) : Option (List Int) := if 0 ≤ j then kk[j.toNat]? else none
def spStarAt (K : PySem.W.Frag) (C D : Addr) : Sp := fun vs H Q E => ∃ (p : Addr) (n : Int) (ks : Tups) (cam : List Int) (j : Int), vs = [.ref p, .int j] ∧ SkyS K C H p n ks cam ∧ ks.length ≤ 20 ∧
  (∀ q, 0 ≤ j → ks[j.toNat]? = some q → Q (.ref q.1) H) ∧ ((j < 0 ∨ (ks.length : Int) ≤ j) → ∀ (d : Addr) (H' : Hp), Same H H' → H' d = some (.xd [("number", .int j)]) → E (.ref D) (some d) H')
/-- the offset of a star at an attitude, none if it is not in reach -/
def offI (n : Int) : List Int → List Int → List Int → Option (Int × Int)
  | [r, b, _, _], [x, y, q], [sx, sy, _] =>
    let u := turnX (4 - q) (near n (sx - x)) (near n (sy - y))
    let v := turnY (4 - q) (near n (sx - x)) (near n (sy - y))
    if iabs u > r + b ∨ iabs v > r + b then none else some (u, v)
  | _, _, _ => none
def spOffOf (K : PySem.W.Frag) (C : Addr) : Sp := fun vs H Q _ => ∃ (p : Addr) (n : Int) (st : List V) (r b g l x y q sx sy bb : Int) (pa ps : Addr), vs = [.ref p, .ref pa, .ref ps] ∧ SkyAt K C H p n st [r, b, g, l] ∧ 0 < n ∧ SqT K H pa [.int x, .int y, .int q] ∧ SqT K H ps [.int sx, .int sy, .int bb] ∧
  (offI n [r, b, g, l] [x, y, q] [sx, sy, bb] = none → ∀ H', Same H H' → Q .non H') ∧
  (∀ u v, offI n [r, b, g, l] [x, y, q] [sx, sy, bb] = some (u, v) → ∀ (H' : Hp) (t : Addr), Same H H' → SqT K H' t [.int u, .int v] → Q (.ref t) H')
end Sw
namespace Sw
open PySem PySem.Spec PyProof.Rows L2
/-- offset of a star by its number, with its errors -/
def spOffset (K : PySem.W.Frag) (C D F : Addr) : Sp := fun vs H Q E => ∃ (p pa : Addr) (n : Int) (ks : Tups) (cam at_ : List Int) (j : Int), vs = [.ref p, .ref pa, .int j] ∧ SkyS K C H p n ks cam ∧ isSky n (keys ks) cam = true ∧ SqT K H pa (at_.map V.int) ∧
  (isPose n at_ = false → ∀ (d : Addr) (H' : Hp), Same H H' → H' d = some (.xd [("attitude", .ref pa)]) → E (.ref D) (some d) H') ∧
  (isPose n at_ = true → (j < 0 ∨ (ks.length : Int) ≤ j) → ∀ (d : Addr) (H' : Hp), Same H H' → H' d = some (.xd [("number", .int j)]) → E (.ref F) (some d) H') ∧
  (isPose n at_ = true → ∀ k : List Int, 0 ≤ j → (keys ks)[j.toNat]? = some k →
    (offI n cam at_ k = none → ∀ H', Same H H' → Q .non H') ∧ (∀ u v, offI n cam at_ k = some (u, v) → ∀ (H' : Hp) (t : Addr), Same H H' → SqT K H' t [.int u, .int v] → Q (.ref t) H'))
theorem star_form {n : Int} {k : List Int} (h : isStar n k = true) : ∃ x y b, k = [x, y, b] ∧ 0 ≤ x ∧ x < n ∧ 0 ≤ y ∧ y < n ∧ 1 ≤ b ∧ b ≤ 9 := by
  match k, h with
  | [x, y, b], h => exact ⟨x, y, b, rfl, of_decide_eq_true h⟩
end Sw
namespace SwT
open PySem PySem.Spec PyProof.Rows L2 Sw
/-! ### the text by places -/
def topS (i : Nat) : Stmt := PySem.Challenge.pw_starward_k01_skies_taken_and_refused.main.body.getD i (.Pass ⟨0, 0, 0, 0⟩)
abbrev s_is_side : Stmt := topS 7
theorem sc_is_side : FnScope ["side"] ["side"] (defScope s_is_side) := ⟨rfl, rfl, rfl, by decide +kernel, rfl, by decide +kernel, by decide +kernel⟩
abbrev s_is_star : Stmt := topS 8
theorem sc_is_star : FnScope ["side", "star", "x", "y", "brightness"] ["side", "star"] (defScope s_is_star) := ⟨rfl, rfl, rfl, by decide +kernel, rfl, by decide +kernel, by decide +kernel⟩
abbrev s_is_camera : Stmt := topS 9
theorem sc_is_camera : FnScope ["side", "camera", "reach", "blur", "glare", "limit"] ["side", "camera"] (defScope s_is_camera) := ⟨rfl, rfl, rfl, by decide +kernel, rfl, by decide +kernel, by decide +kernel⟩
abbrev s__check_sky : Stmt := topS 10
theorem sc__check_sky : FnScope ["side", "stars", "camera", "star"] ["side", "stars", "camera"] (defScope s__check_sky) := ⟨rfl, rfl, rfl, by decide +kernel, rfl, by decide +kernel, by decide +kernel⟩
abbrev s_Skyx_initx : Stmt := inClass (topS 11) 0
theorem sc_Skyx_initx : FnScope ["self", "side", "stars", "camera"] ["self", "side", "stars", "camera"] (defScope s_Skyx_initx) := ⟨rfl, rfl, rfl, by decide +kernel, rfl, by decide +kernel, by decide +kernel⟩
abbrev s_Sky_side : Stmt := inClass (topS 11) 1
theorem sc_Sky_side : FnScope ["self"] ["self"] (defScope s_Sky_side) := ⟨rfl, rfl, rfl, by decide +kernel, rfl, by decide +kernel, by decide +kernel⟩
abbrev s_Sky_stars : Stmt := inClass (topS 11) 2
theorem sc_Sky_stars : FnScope ["self"] ["self"] (defScope s_Sky_stars) := ⟨rfl, rfl, rfl, by decide +kernel, rfl, by decide +kernel, by decide +kernel⟩
abbrev s_Sky_camera : Stmt := inClass (topS 11) 3
theorem sc_Sky_camera : FnScope ["self"] ["self"] (defScope s_Sky_camera) := ⟨rfl, rfl, rfl, by decide +kernel, rfl, by decide +kernel, by decide +kernel⟩
abbrev s_Sky_reach : Stmt := inClass (topS 11) 4
theorem sc_Sky_reach : FnScope ["self"] ["self"] (defScope s_Sky_reach) := ⟨rfl, rfl, rfl, by decide +kernel, rfl, by decide +kernel, by decide +kernel⟩
abbrev s_Sky_blur : Stmt := inClass (topS 11) 5
theorem sc_Sky_blur : FnScope ["self"] ["self"] (defScope s_Sky_blur) := ⟨rfl, rfl, rfl, by decide +kernel, rfl, by decide +kernel, by decide +kernel⟩
abbrev s_Sky_glare : Stmt := inClass (topS 11) 6
theorem sc_Sky_glare : FnScope ["self"] ["self"] (defScope s_Sky_glare) := ⟨rfl, rfl, rfl, by decide +kernel, rfl, by decide +kernel, by decide +kernel⟩
abbrev s_Sky_limit : Stmt := inClass (topS 11) 7
theorem sc_Sky_limit : FnScope ["self"] ["self"] (defScope s_Sky_limit) := ⟨rfl, rfl, rfl, by decide +kernel, rfl, by decide +kernel, by decide +kernel⟩
abbrev s__law_row : Stmt := topS 13
theorem sc__law_row : FnScope ["cell", "many", "row", "rest", "state", "k"] ["cell", "many"] (defScope s__law_row) := ⟨rfl, rfl, rfl, by decide +kernel, rfl, by decide +kernel, by decide +kernel⟩
abbrev s__law_numbers : Stmt := topS 14
theorem sc__law_numbers : FnScope ["script", "many", "cells", "each", "numbers", "cell", "number"] ["script", "many"] (defScope s__law_numbers) := ⟨rfl, rfl, rfl, by decide +kernel, rfl, by decide +kernel, by decide +kernel⟩
abbrev s__law_parts : Stmt := topS 15
theorem sc__law_parts : FnScope ["numbers", "at", "most", "side", "half", "reach", "blur", "camera", "stars", "k", "place", "star"] ["numbers", "at", "most"] (defScope s__law_parts) := ⟨rfl, rfl, rfl, by decide +kernel, rfl, by decide +kernel, by decide +kernel⟩
abbrev s__law_is_sky : Stmt := topS 16
theorem sc__law_is_sky : FnScope ["side", "stars", "camera", "k", "star"] ["side", "stars", "camera"] (defScope s__law_is_sky) := ⟨rfl, rfl, rfl, by decide +kernel, rfl, by decide +kernel, by decide +kernel⟩
abbrev s__law_broken : Stmt := topS 17
theorem sc__law_broken : FnScope ["side", "stars", "camera", "numbers", "at", "choice", "number", "place", "star", "many", "k"] ["side", "stars", "camera", "numbers", "at"] (defScope s__law_broken) := ⟨rfl, rfl, rfl, by decide +kernel, rfl, by decide +kernel, by decide +kernel⟩
abbrev s__law_told : Stmt := topS 18
theorem sc__law_told : FnScope ["side", "stars", "camera", "sky"] ["side", "stars", "camera"] (defScope s__law_told) := ⟨rfl, rfl, rfl, by decide +kernel, rfl, by decide +kernel, by decide +kernel⟩
abbrev s_law : Stmt := topS 19
theorem sc_law : FnScope ["script", "numbers", "side", "stars", "camera", "one", "handed", "told", "sky"] ["script"] (defScope s_law) := ⟨rfl, rfl, rfl, by decide +kernel, rfl, by decide +kernel, by decide +kernel⟩
/-- where the top has put each of them -/
structure Ad where
  f_is_side : Addr
  fd_is_side : FuncData
  f_is_star : Addr
  fd_is_star : FuncData
  f_is_camera : Addr
  fd_is_camera : FuncData
  f__check_sky : Addr
  fd__check_sky : FuncData
  f_Skyx_initx : Addr
  fd_Skyx_initx : FuncData
  f_Sky_side : Addr
  fd_Sky_side : FuncData
  f_Sky_stars : Addr
  fd_Sky_stars : FuncData
  f_Sky_camera : Addr
  fd_Sky_camera : FuncData
  f_Sky_reach : Addr
  fd_Sky_reach : FuncData
  f_Sky_blur : Addr
  fd_Sky_blur : FuncData
  f_Sky_glare : Addr
  fd_Sky_glare : FuncData
  f_Sky_limit : Addr
  fd_Sky_limit : FuncData
  f__law_row : Addr
  fd__law_row : FuncData
  f__law_numbers : Addr
  fd__law_numbers : FuncData
  f__law_parts : Addr
  fd__law_parts : FuncData
  f__law_is_sky : Addr
  fd__law_is_sky : FuncData
  f__law_broken : Addr
  fd__law_broken : FuncData
  f__law_told : Addr
  fd__law_told : FuncData
  f_law : Addr
  fd_law : FuncData
  c_InvalidSky : Addr
  c_Sky : Addr
  g_Sky_side : Addr
  g_Sky_stars : Addr
  g_Sky_camera : Addr
  g_Sky_reach : Addr
  g_Sky_blur : Addr
  g_Sky_glare : Addr
  g_Sky_limit : Addr
  u_MOST_STARS : Value
  u_BRIGHTEST : Value
/-- what the top has written -/
structure Txt (P : Program) (K : PySem.W.Frag) (mg : Str → Option Value) (a : Ad) : Prop where
  F_is_side : Fun K "is_side" "is_side" s_is_side a.f_is_side a.fd_is_side
  b_is_side : Binds K a.fd_is_side ["side"] []
  m_is_side : mg "is_side" = some (.ref a.f_is_side)
  F_is_star : Fun K "is_star" "is_star" s_is_star a.f_is_star a.fd_is_star
  b_is_star : Binds K a.fd_is_star ["side", "star"] []
  m_is_star : mg "is_star" = some (.ref a.f_is_star)
  F_is_camera : Fun K "is_camera" "is_camera" s_is_camera a.f_is_camera a.fd_is_camera
  b_is_camera : Binds K a.fd_is_camera ["side", "camera"] []
  m_is_camera : mg "is_camera" = some (.ref a.f_is_camera)
  F__check_sky : Fun K "_check_sky" "_check_sky" s__check_sky a.f__check_sky a.fd__check_sky
  b__check_sky : Binds K a.fd__check_sky ["side", "stars", "camera"] []
  m__check_sky : mg "_check_sky" = some (.ref a.f__check_sky)
  F_Skyx_initx : Fun K "__init__" "Sky.__init__" s_Skyx_initx a.f_Skyx_initx a.fd_Skyx_initx
  b_Skyx_initx : Binds K a.fd_Skyx_initx ["self", "side", "stars", "camera"] []
  F_Sky_side : Fun K "side" "Sky.side" s_Sky_side a.f_Sky_side a.fd_Sky_side
  b_Sky_side : Binds K a.fd_Sky_side ["self"] []
  p_Sky_side : PropOf K a.c_Sky "side" a.g_Sky_side a.f_Sky_side
  F_Sky_stars : Fun K "stars" "Sky.stars" s_Sky_stars a.f_Sky_stars a.fd_Sky_stars
  b_Sky_stars : Binds K a.fd_Sky_stars ["self"] []
  p_Sky_stars : PropOf K a.c_Sky "stars" a.g_Sky_stars a.f_Sky_stars
  F_Sky_camera : Fun K "camera" "Sky.camera" s_Sky_camera a.f_Sky_camera a.fd_Sky_camera
  b_Sky_camera : Binds K a.fd_Sky_camera ["self"] []
  p_Sky_camera : PropOf K a.c_Sky "camera" a.g_Sky_camera a.f_Sky_camera
  F_Sky_reach : Fun K "reach" "Sky.reach" s_Sky_reach a.f_Sky_reach a.fd_Sky_reach
  b_Sky_reach : Binds K a.fd_Sky_reach ["self"] []
  p_Sky_reach : PropOf K a.c_Sky "reach" a.g_Sky_reach a.f_Sky_reach
  F_Sky_blur : Fun K "blur" "Sky.blur" s_Sky_blur a.f_Sky_blur a.fd_Sky_blur
  b_Sky_blur : Binds K a.fd_Sky_blur ["self"] []
  p_Sky_blur : PropOf K a.c_Sky "blur" a.g_Sky_blur a.f_Sky_blur
  F_Sky_glare : Fun K "glare" "Sky.glare" s_Sky_glare a.f_Sky_glare a.fd_Sky_glare
  b_Sky_glare : Binds K a.fd_Sky_glare ["self"] []
  p_Sky_glare : PropOf K a.c_Sky "glare" a.g_Sky_glare a.f_Sky_glare
  F_Sky_limit : Fun K "limit" "Sky.limit" s_Sky_limit a.f_Sky_limit a.fd_Sky_limit
  b_Sky_limit : Binds K a.fd_Sky_limit ["self"] []
  p_Sky_limit : PropOf K a.c_Sky "limit" a.g_Sky_limit a.f_Sky_limit
  F__law_row : Fun K "_law_row" "_law_row" s__law_row a.f__law_row a.fd__law_row
  b__law_row : Binds K a.fd__law_row ["cell", "many"] []
  m__law_row : mg "_law_row" = some (.ref a.f__law_row)
  F__law_numbers : Fun K "_law_numbers" "_law_numbers" s__law_numbers a.f__law_numbers a.fd__law_numbers
  b__law_numbers : Binds K a.fd__law_numbers ["script", "many"] []
  m__law_numbers : mg "_law_numbers" = some (.ref a.f__law_numbers)
  F__law_parts : Fun K "_law_parts" "_law_parts" s__law_parts a.f__law_parts a.fd__law_parts
  b__law_parts : Binds K a.fd__law_parts ["numbers", "at", "most"] []
  m__law_parts : mg "_law_parts" = some (.ref a.f__law_parts)
  F__law_is_sky : Fun K "_law_is_sky" "_law_is_sky" s__law_is_sky a.f__law_is_sky a.fd__law_is_sky
  b__law_is_sky : Binds K a.fd__law_is_sky ["side", "stars", "camera"] []
  m__law_is_sky : mg "_law_is_sky" = some (.ref a.f__law_is_sky)
  F__law_broken : Fun K "_law_broken" "_law_broken" s__law_broken a.f__law_broken a.fd__law_broken
  b__law_broken : Binds K a.fd__law_broken ["side", "stars", "camera", "numbers", "at"] []
  m__law_broken : mg "_law_broken" = some (.ref a.f__law_broken)
  F__law_told : Fun K "_law_told" "_law_told" s__law_told a.f__law_told a.fd__law_told
  b__law_told : Binds K a.fd__law_told ["side", "stars", "camera"] []
  m__law_told : mg "_law_told" = some (.ref a.f__law_told)
  F_law : Fun K "law" "law" s_law a.f_law a.fd_law
  cl_Sky : Cls K a.c_Sky
  m_Sky : mg "Sky" = some (.ref a.c_Sky)
  M_Sky : Mk K a.c_Sky a.f_Skyx_initx
  n_Sky__side : NoAttr K a.c_Sky "_side"
  n_Sky__stars : NoAttr K a.c_Sky "_stars"
  n_Sky__camera : NoAttr K a.c_Sky "_camera"
  E_InvalidSky : PlainErr K mg "InvalidSky" a.c_InvalidSky
  E_InvalidSky_te : PySem.W.exmOne K (.ref a.c_InvalidSky) (.ref a.c_InvalidSky) = some true
  m_MOST_STARS : mg "MOST_STARS" = some a.u_MOST_STARS
  v_MOST_STARS : ∃ t, a.u_MOST_STARS = .int 20 t
  m_BRIGHTEST : mg "BRIGHTEST" = some a.u_BRIGHTEST
  v_BRIGHTEST : ∃ t, a.u_BRIGHTEST = .int 9 t
  z_len : mg "len" = none
  z_abs : mg "abs" = none
  z_int : mg "int" = none
  z_max : mg "max" = none
  z_min : mg "min" = none
  z_range : mg "range" = none
  z_list : mg "list" = none
  z_tuple : mg "tuple" = none
  z_isinstance : mg "isinstance" = none
  z_sorted : mg "sorted" = none
  z_set : mg "set" = none
section
variable {P : Program} {w : World} {K : PySem.W.Frag} {mg : Str → Option Value} {base : Heap} {a : Ad}
theorem ok_is_side (T : Txt P K mg a) : FnOk P w K mg base CX0 1 a.f_is_side a.fd_is_side ["side"] spSide := by
  refine T.F_is_side.ok sc_is_side (fun vs H Q E h => ?_) (fun cdv A outer s H vs Q E hr h => ?_)
  · obtain ⟨n, rfl, _⟩ := h
    rfl
  · obtain ⟨n, rfl, k⟩ := h
    refine ⟨_, (pss_one (ps_ret (pe_chain op_le op_le pe_int (pv 0) pe_int))), ?_⟩
    refine ⟨_, rfl, _, _, rfl, rfl, _, rfl, ite2 (fun h1 => ⟨_, _, rfl, rfl, ?_⟩) (fun h1 => ?_)⟩
    · have a1 : 4 ≤ n := of_decide_eq_true h1
      show Q (.bl (decide (n ≤ 9))) H
      by_cases z : n ≤ 9
      · rw [decide_eq_true z]
        rw [decide_eq_true ⟨a1, z⟩] at k
        exact k
      · rw [decide_eq_false z]
        rw [decide_eq_false (fun y => z y.2)] at k
        exact k
    · rw [decide_eq_false (fun y => h1 (decide_eq_true y.1))] at k
      exact k

theorem ok_is_star (T : Txt P K mg a) : FnOk P w K mg base CX0 1 a.f_is_star a.fd_is_star ["side", "star"] (spIs K isStar) := by
  refine T.F_is_star.ok sc_is_star (fun vs H Q E h => ?_) (fun cdv A outer s H vs Q E hr h => ?_)
  · obtain ⟨n, p, ns, rfl, _⟩ := h
    rfl
  · obtain ⟨n, p, ns, rfl, hS, k⟩ := h
    refine ⟨_, (pss_cons (ps_if (pt_cmpR op_ne (pe_callB call_len_seq (by rfl) T.z_len (by decide +kernel) (pa_cons (pv 1) pa_nil)) pe_int (nomark _)) (pss_one (ps_ret pe_bl)) pss_nil)
      (pss_cons (ps_asg (pv 1) (pg_tup rfl (pgs_cons (pg_name (i := 2) sc_is_star.nd rfl (.inl rfl)) (pgs_cons (pg_name (i := 3) sc_is_star.nd rfl (.inl rfl)) (pgs_cons (pg_name (i := 4) sc_is_star.nd rfl (.inl rfl)) pgs_nil)))))
      (pss_one (ps_ret (pe_and (pe_chain op_le op_lt pe_int (pv 2) (pv 0)) (pe_and (pe_chain op_le op_lt pe_int (pv 3) (pv 0)) (pe_one (pe_chain op_le op_le pe_int (pv 4) (pe_glob (v := .int 9) rfl T.m_BRIGHTEST T.v_BRIGHTEST))))))))), ?_⟩
    refine ⟨.ref p, rfl, p, _, rfl, .inr hS, rfl, _, rfl, ite2 (fun hg => ?_) (fun hg => ?_)⟩
    · have e : isStar n ns = false := star_len (by have z := int_ne hg; rw [List.length_map] at z; exact z)
      exact e ▸ k
    · obtain ⟨x, y, q, rfl⟩ := of3 (by have z := int_eq hg; rw [List.length_map] at z; exact z)
      refine ⟨.ref p, rfl, p, _, rfl, hS, rfl, _, _, rfl, _, _, rfl, _, _, rfl, rfl, ?_⟩
      have fin : ∀ b : Bool, isStar n [x, y, q] = b → Q (.bl b) H := fun b e => e ▸ k
      have no : ∀ {c : Prop} [Decidable c], ¬ (decide c = true) → ¬ c := fun h z => h (decide_eq_true z)
      have F : (¬ (0 ≤ x ∧ x < n ∧ 0 ≤ y ∧ y < n ∧ 1 ≤ q ∧ q ≤ 9)) → Q (.bl false) H := fun z => fin _ (decide_eq_false z)
      refine ⟨_, rfl, _, _, rfl, rfl, _, rfl, ite2 (fun h1 => ?_) (fun h1 => ⟨_, rfl, iteF (F fun z => h1 (decide_eq_true z.1))⟩)⟩
      refine ⟨_, rfl, _, _, rfl, rfl, _, rfl, ite2 (fun h2 => ?_) (fun h2 => F fun z => h2 (decide_eq_true z.2.1))⟩
      refine ⟨_, rfl, _, _, rfl, rfl, _, rfl, ite2 (fun h3 => ?_) (fun h3 => ⟨_, rfl, iteF (F fun z => h3 (decide_eq_true z.2.2.1))⟩)⟩
      refine ⟨_, rfl, _, _, rfl, rfl, _, rfl, ite2 (fun h4 => ?_) (fun h4 => F fun z => h4 (decide_eq_true z.2.2.2.1))⟩
      refine ⟨_, rfl, _, _, rfl, rfl, _, rfl, ite2 (fun h5 => ?_) (fun h5 => F fun z => h5 (decide_eq_true z.2.2.2.2.1))⟩
      refine ⟨_, _, rfl, rfl, ?_⟩
      refine fin _ ?_
      show decide _ = decide _
      have a1 := of_decide_eq_true h1
      have a2 := of_decide_eq_true h2
      have a3 := of_decide_eq_true h3
      have a4 := of_decide_eq_true h4
      have a5 := of_decide_eq_true h5
      by_cases z : q ≤ 9
      · rw [decide_eq_true z, decide_eq_true ⟨a1, a2, a3, a4, a5, z⟩]
      · rw [decide_eq_false z, decide_eq_false (fun w => z w.2.2.2.2.2)]

theorem ok_is_camera (T : Txt P K mg a) : FnOk P w K mg base CX0 1 a.f_is_camera a.fd_is_camera ["side", "camera"] (spIs K isCam) := by
  refine T.F_is_camera.ok sc_is_camera (fun vs H Q E h => ?_) (fun cdv A outer s H vs Q E hr h => ?_)
  · obtain ⟨n, p, ns, rfl, _⟩ := h
    rfl
  · obtain ⟨n, p, ns, rfl, hS, k⟩ := h
    refine ⟨_, (pss_cons (ps_if (pt_cmpR op_ne (pe_callB call_len_seq (by rfl) T.z_len (by decide +kernel) (pa_cons (pv 1) pa_nil)) pe_int (nomark _)) (pss_one (ps_ret pe_bl)) pss_nil)
      (pss_cons (ps_asg (pv 1) (pg_tup rfl (pgs_cons (pg_name (i := 2) sc_is_camera.nd rfl (.inl rfl)) (pgs_cons (pg_name (i := 3) sc_is_camera.nd rfl (.inl rfl)) (pgs_cons (pg_name (i := 4) sc_is_camera.nd rfl (.inl rfl)) (pgs_cons (pg_name (i := 5) sc_is_camera.nd rfl (.inl rfl)) pgs_nil))))))
      (pss_cons (ps_if (pt_not (PW.pt (pw_and (pt_chain op_le op_le pe_int (pv 2) pe_int) (pw_and (pt_chain op_le op_le pe_int (pv 3) pe_int) (pw_and (pt_chain op_le op_le pe_int (pv 4) pe_int) (pw_and1 (pt_chain op_le op_le pe_int (pv 5) (pe_glob (v := .int 9) rfl T.m_BRIGHTEST T.v_BRIGHTEST)))))))) (pss_one (ps_ret pe_bl)) pss_nil)
      (pss_one (ps_ret (pe_and (pe_cmpR op_le (pv 3) (pv 2) (nomark _)) (pe_one (pe_cmpR op_le (pe_op op_add (pe_op op_mul pe_int (pe_op op_add (pv 2) (pv 3))) pe_int) (pv 0) (nomark _))))))))), ?_⟩
    refine ⟨.ref p, rfl, p, _, rfl, .inr hS, rfl, _, rfl, ite2 (fun hg => ?_) (fun hg => ?_)⟩
    · have e : isCam n ns = false := cam_len (by have z := int_ne hg; rw [List.length_map] at z; exact z)
      exact e ▸ k
    · obtain ⟨r, b, g, l, rfl⟩ := of4 (by have z := int_eq hg; rw [List.length_map] at z; exact z)
      refine ⟨.ref p, rfl, p, _, rfl, hS, rfl, _, _, rfl, _, _, rfl, _, _, rfl, _, _, rfl, rfl, ?_⟩
      have F : ¬ (0 ≤ r ∧ r ≤ 4 ∧ 0 ≤ b ∧ b ≤ 2 ∧ 0 ≤ g ∧ g ≤ 2 ∧ 1 ≤ l ∧ l ≤ 9 ∧ b ≤ r ∧ 2 * (r + b) + 1 ≤ n) → Q (.bl false) H := fun z => (show isCam n [r, b, g, l] = false from decide_eq_false z) ▸ k
      refine ⟨_, rfl, _, _, rfl, rfl, _, rfl, ite2 (fun h1 => ⟨_, _, rfl, rfl, _, rfl, ?_⟩) (fun h1 => ⟨_, rfl, iteF (iteT (F fun z => h1 (decide_eq_true z.1)))⟩)⟩
      refine ite2 (fun h2 => ?_) (fun h2 => iteT (F fun z => h2 (decide_eq_true z.2.1)))
      refine ⟨_, rfl, _, _, rfl, rfl, _, rfl, ite2 (fun h3 => ⟨_, _, rfl, rfl, _, rfl, ?_⟩) (fun h3 => ⟨_, rfl, iteF (iteT (F fun z => h3 (decide_eq_true z.2.2.1)))⟩)⟩
      refine ite2 (fun h4 => ?_) (fun h4 => iteT (F fun z => h4 (decide_eq_true z.2.2.2.1)))
      refine ⟨_, rfl, _, _, rfl, rfl, _, rfl, ite2 (fun h5 => ⟨_, _, rfl, rfl, _, rfl, ?_⟩) (fun h5 => ⟨_, rfl, iteF (iteT (F fun z => h5 (decide_eq_true z.2.2.2.2.1)))⟩)⟩
      refine ite2 (fun h6 => ?_) (fun h6 => iteT (F fun z => h6 (decide_eq_true z.2.2.2.2.2.1)))
      refine ⟨_, rfl, _, _, rfl, rfl, _, rfl, ite2 (fun h7 => ⟨_, _, rfl, rfl, _, rfl, ?_⟩) (fun h7 => ⟨_, rfl, iteT (F fun z => h7 (decide_eq_true z.2.2.2.2.2.2.1))⟩)⟩
      refine ite2 (fun hz => F fun z => ?_) (fun hz => ?_)
      · rw [decide_eq_true z.2.2.2.2.2.2.2.1] at hz
        cases hz
      have h8 : l ≤ 9 := by
        by_cases z : l ≤ 9
        · exact z
        · exact absurd (by rw [decide_eq_false z]; rfl) hz
      refine ⟨_, rfl, _, rfl, _, _, rfl, rfl, _, rfl, ite2 (fun h9 => ?_) (fun h9 => F fun z => h9 (decide_eq_true z.2.2.2.2.2.2.2.2.1))⟩
      refine ⟨_, rfl, _, rfl, _, _, rfl, rfl, _, _, rfl, rfl, .inl (by constructor <;> decide), _, _, rfl, rfl, _, rfl, _, _, rfl, rfl, ?_⟩
      have a1 := of_decide_eq_true h1
      have a2 := of_decide_eq_true h2
      have a3 := of_decide_eq_true h3
      have a4 := of_decide_eq_true h4
      have a5 := of_decide_eq_true h5
      have a6 := of_decide_eq_true h6
      have a7 := of_decide_eq_true h7
      have a9 := of_decide_eq_true h9
      show Q (.bl (decide (2 * (r + b) + 1 ≤ n))) H
      by_cases z : 2 * (r + b) + 1 ≤ n
      · rw [decide_eq_true z]
        exact (show isCam n [r, b, g, l] = true from decide_eq_true ⟨a1, a2, a3, a4, a5, a6, a7, h8, a9, z⟩) ▸ k
      · rw [decide_eq_false z]
        exact F fun y => z y.2.2.2.2.2.2.2.2.2

theorem ok__check_sky (T : Txt P K mg a) : FnOk P w K mg base (L2.CX P w) 2 a.f__check_sky a.fd__check_sky ["side", "stars", "camera"] (spCheck K a.c_InvalidSky) := by
  refine T.F__check_sky.okX sc__check_sky (fun vs H Q E h => ?_) (fun cdv A outer s H vs Q E hr h => ?_)
  · obtain ⟨n, l, c, ks, cam, rfl, _⟩ := h
    rfl
  · obtain ⟨n, l, c, ks, cam, rfl, hl, ht, hc, hk, k1, k2⟩ := h
    refine ⟨_, (pss_cons (ps_if (pt_not (pt_val (pe_call (ok_is_side T) (hr.mono (by decide)) (by rfl) T.m_is_side T.F_is_side.kp T.b_is_side .nil pass0 (pa_cons (pv 0) pa_nil)))) (pss_one (ps_raise rfl (takes_of rfl rfl rfl rfl) (pmk_own PySem.F.excBase_ValueError T.E_InvalidSky.x T.E_InvalidSky.g T.E_InvalidSky.k (raises_own T.E_InvalidSky.b T.E_InvalidSky.t) rfl))) pss_nil)
      (pss_cons (ps_for (passes_of rfl) rfl (pi_list (pv 1)) (pg_name (i := 3) sc__check_sky.nd rfl (.inl rfl)) (pss_one (ps_if (pt_not (pt_val (pe_call (ok_is_star T) (hr.mono (by decide)) (by rfl) T.m_is_star T.F_is_star.kp T.b_is_star .nil pass0 (pa_cons (pv 0) (pa_cons (pv 3) pa_nil))))) (pss_one (ps_raise rfl (takes_of rfl rfl rfl rfl) (pmk_own PySem.F.excBase_ValueError T.E_InvalidSky.x T.E_InvalidSky.g T.E_InvalidSky.k (raises_own T.E_InvalidSky.b T.E_InvalidSky.t) rfl))) pss_nil)))
      (pss_cons (ps_if (pt_cmpR op_lt (pe_callB cr_lenT (by rfl) T.z_len (by decide +kernel) (pa_cons (pe_callTy (cr_setOfT rfl hr.units) (by rfl) T.z_set (by decide +kernel) (pa_cons (pv 1) pa_nil)) pa_nil)) (pe_callB call_len_seq (by rfl) T.z_len (by decide +kernel) (pa_cons (pv 1) pa_nil)) (nomark _)) (pss_one (ps_raise rfl (takes_of rfl rfl rfl rfl) (pmk_own PySem.F.excBase_ValueError T.E_InvalidSky.x T.E_InvalidSky.g T.E_InvalidSky.k (raises_own T.E_InvalidSky.b T.E_InvalidSky.t) rfl))) pss_nil)
      (pss_cons (ps_if (pt_cmpR op_gt (pe_callB call_len_seq (by rfl) T.z_len (by decide +kernel) (pa_cons (pv 1) pa_nil)) (pe_glob (v := .int 20) rfl T.m_MOST_STARS T.v_MOST_STARS) (nomark _)) (pss_one (ps_raise rfl (takes_of rfl rfl rfl rfl) (pmk_own PySem.F.excBase_ValueError T.E_InvalidSky.x T.E_InvalidSky.g T.E_InvalidSky.k (raises_own T.E_InvalidSky.b T.E_InvalidSky.t) rfl))) pss_nil)
      (pss_one (ps_if (pt_not (pt_val (pe_call (ok_is_camera T) (hr.mono (by decide)) (by rfl) T.m_is_camera T.F_is_camera.kp T.b_is_camera .nil pass0 (pa_cons (pv 0) (pa_cons (pv 2) pa_nil))))) (pss_one (ps_raise rfl (takes_of rfl rfl rfl rfl) (pmk_own PySem.F.excBase_ValueError T.E_InvalidSky.x T.E_InvalidSky.g T.E_InvalidSky.k (raises_own T.E_InvalidSky.b T.E_InvalidSky.t) rfl))) pss_nil)))))), ?_⟩
    refine ⟨_, rfl, n, rfl, _, rfl, ?_⟩
    by_cases hn : 4 ≤ n ∧ n ≤ 9
    rotate_left
    · have bad : isSky n (keys ks) cam = false := by unfold isSky; rw [decide_eq_false hn]; rfl
      rw [decide_eq_false hn]
      exact iteT (k2 bad _ (Same.refl _))
    rw [decide_eq_true hn]
    refine iteF ?_
    refine ⟨.ref l, rfl, l, rfl, ⟨_, hl⟩, for_list (K := K) (a := l) (xs := refs ks) (fun i σ H2 => ∃ z : Option V, σ = [some (.int n), some (.ref l), some (.ref c), z] ∧ H2 = H ∧ ∀ p ∈ ks.take i, isStar n p.2 = true) ⟨_, rfl, rfl, fun p hp => by cases hp⟩ (fun i σ H2 _ ⟨_, _, e, _⟩ => by rw [e]; exact hl) ?_ ?_⟩
    · rintro i y σ H2 hi ⟨z, rfl, rfl, hs⟩
      obtain ⟨p, hp, rfl⟩ : ∃ p, ks[i]? = some p ∧ y = V.ref p.1 := by
        unfold refs at hi
        rw [List.getElem?_map] at hi
        cases e : ks[i]? with
        | none => rw [e] at hi; cases hi
        | some p => rw [e] at hi; exact ⟨p, rfl, (Option.some.inj hi).symm⟩
      refine ⟨_, rfl, .ref p.1, rfl, n, p.1, p.2, rfl, ht p (List.mem_of_getElem? hp), _, rfl, ?_⟩
      cases e : isStar n p.2 with
      | true =>
        refine iteF ⟨_, rfl, rfl, fun q hq => ?_⟩
        rw [List.take_add_one, hp] at hq
        rcases List.mem_append.mp hq with hq | hq
        · exact hs q hq
        · simp at hq
          rw [hq]
          exact e
      | false =>
        have bad : isSky n (keys ks) cam = false := by
          have z : (keys ks).all (isStar n) = false := by
            rw [List.all_eq_false]
            exact ⟨p.2, List.mem_map_of_mem (List.mem_of_getElem? hp), by rw [e]; simp⟩
          unfold isSky
          rw [z, Bool.and_false]
          rfl
        exact iteT (k2 bad _ (Same.refl _))
    · rintro σ H2 ⟨z, rfl, rfl, hs⟩
      have hall : (keys ks).all (isStar n) = true := List.all_eq_true.mpr fun x hx => by
        obtain ⟨p, hp, rfl⟩ := List.mem_map.mp hx
        exact hs p (by rw [List.take_of_length_le (by rw [refs_len]; exact Nat.le_refl _)]; exact hp)
      refine ⟨.ref l, rfl, l, ks, rfl, hl, ht, hk, fun b L nb h1 h2 => ⟨b, L, rfl, upd_same, fun hnd => ?_⟩⟩
      have s3 : Same H2 (upd H2 b (SetTO P w b L)) := same_new nb
      refine ⟨.ref l, rfl, l, _, rfl, .inl (s3.seq hl), _, _, rfl, rfl, _, rfl, ?_⟩
      have sl := set_len h1 h2 hnd
      by_cases hd : (keys ks).Nodup
      rotate_left
      · have bad : isSky n (keys ks) cam = false := by
          unfold isSky
          rw [decide_eq_false hd, Bool.and_false]
          rfl
        have g : ((L.length : Nat) : Int) < (((refs ks).length : Nat) : Int) := by
          rw [refs_len]
          have := sl.mpr hd
          omega
        exact iteD2 g (k2 bad _ s3)
      have g : ¬ ((L.length : Nat) : Int) < (((refs ks).length : Nat) : Int) := by
        rw [refs_len]
        intro z
        exact sl.mp (by omega) hd
      refine iteD3 g ?_
      refine ⟨.ref l, rfl, l, _, rfl, .inl (s3.seq hl), _, _, rfl, rfl, _, rfl, ?_⟩
      by_cases h20 : ks.length ≤ 20
      rotate_left
      · have bad : isSky n (keys ks) cam = false := by
          unfold isSky
          rw [show decide ((keys ks).length ≤ 20) = false from decide_eq_false (by rw [keys_len]; exact h20), Bool.and_false]
          rfl
        exact iteD2 (by rw [refs_len]; omega) (k2 bad _ s3)
      refine iteD3 (by rw [refs_len]; omega) ?_
      refine ⟨_, rfl, .ref c, rfl, n, c, cam, rfl, sqT_up s3 hc, _, rfl, ?_⟩
      have e : isSky n (keys ks) cam = isCam n cam := by
        unfold isSky
        rw [decide_eq_true hn, hall, decide_eq_true hd, show decide ((keys ks).length ≤ 20) = true from decide_eq_true (by rw [keys_len]; exact h20)]
        rfl
      cases ec : isCam n cam with
      | true => exact iteF (k1 (e.trans ec) _ s3)
      | false => exact iteT (k2 (e.trans ec) _ s3)

theorem ok_Skyx_initx (T : Txt P K mg a) : FnOk P w K mg base (L2.CX P w) 3 a.f_Skyx_initx a.fd_Skyx_initx ["self", "side", "stars", "camera"] (spInit K a.c_Sky a.c_InvalidSky) := by
  refine T.F_Skyx_initx.okX sc_Skyx_initx (fun vs H Q E h => ?_) (fun cdv A outer s H vs Q E hr h => ?_)
  · obtain ⟨x, dx, n, p, c, ks, cam, rfl, _⟩ := h
    rfl
  · obtain ⟨x, dx, n, p, c, ks, cam, rfl, hx, hp, ht, hc, hk, k, kE⟩ := h
    refine ⟨_, (pss_cons (ps_expr (pe_call (ok__check_sky T) (hr.mono (by decide)) (by rfl) T.m__check_sky T.F__check_sky.kp T.b__check_sky .nil (passes_call (takes_of rfl rfl rfl rfl) (fun _ _ _ _ h => h)) (pa_cons (pv 1) (pa_cons (pv 2) (pa_cons (pv 3) pa_nil)))))
      (pss_cons (ps_fld (pv 0) (pv 1) rfl)
      (pss_cons (ps_fld (pv 0) (pe_callTy call_tuple_of (by rfl) T.z_tuple (by decide +kernel) (pa_cons (pe_callB (cr_sortM (d := 3) (B := 10) (by decide)) (by rfl) T.z_sorted (by decide +kernel) (pa_cons (pv 2) pa_nil)) pa_nil)) rfl)
      (pss_one (ps_fld (pv 0) (pv 3) rfl))))), ?_⟩
    refine ⟨_, rfl, .ref p, rfl, .ref c, rfl, n, p, c, ks, cam, rfl, hp, ht, hc, hk, fun hsky H1 s1 => ?_, fun hbad H1 s1 => kE hbad _ s1⟩
    obtain ⟨⟨h4, h9⟩, hstars, hnd, h20, hcam⟩ := sky_parts hsky
    refine ⟨_, rfl, .ref x, rfl, x, a.c_Sky, dx, [], rfl, s1 _ _ hx, T.cl_Sky, T.n_Sky__side, (by show 0 < 1000; decide), ?_⟩
    -- self._stars = tuple(sorted(stars))
    have hx1 := s1 _ _ hx
    generalize e2 : upd H1 x (.ins a.c_Sky dx (putF "_side" (.int n) [])) = H2
    have hx2 : H2 x = some (.ins a.c_Sky dx (putF "_side" (.int n) [])) := by rw [← e2]; exact upd_same
    have hp2 : SqL K H2 p (refs ks) := by rw [← e2]; exact sqL_ins hx1 (s1.seq hp)
    have hc2 : SqT K H2 c (cam.map V.int) := by rw [← e2]; exact sqT_ins hx1 (sqT_up s1 hc)
    have ht2 : TupsAt K H2 ks := fun q hq => by rw [← e2]; exact sqT_ins hx1 (sqT_up s1 (ht q hq))
    refine ⟨.ref p, rfl, p, ks, rfl, hp2, ht2, hk, stars_fit hstars h9, fun l ks' H3 s3 nl el hperm hasc => ?_⟩
    refine ⟨l, _, rfl, .inl ⟨.inl (.inl el), fun t nt => ?_⟩⟩
    have s4 : Same H2 (upd H3 t (.tup (refs ks'))) := s3.trans (same_new nt)
    generalize e4 : upd H3 t (.tup (refs ks')) = H4 at s4 ⊢
    have ht4 : SqT K H4 t (refs ks') := by rw [← e4]; exact .inl (.inl upd_same)
    have hx4 := s4 _ _ hx2
    refine ⟨.ref x, rfl, x, a.c_Sky, dx, _, rfl, hx4, T.cl_Sky, T.n_Sky__stars, (by show 1 < 1000; decide), ?_⟩
    -- self._camera = camera
    generalize e5 : upd H4 x (.ins a.c_Sky dx (putF "_stars" (.ref t) (putF "_side" (.int n) []))) = H5
    have hx5 : H5 x = some (.ins a.c_Sky dx (putF "_stars" (.ref t) (putF "_side" (.int n) []))) := by rw [← e5]; exact upd_same
    have ht5 : SqT K H5 t (refs ks') := by rw [← e5]; exact sqT_ins hx4 ht4
    have hc5 : SqT K H5 c (cam.map V.int) := by rw [← e5]; exact sqT_ins hx4 (sqT_up s4 hc2)
    have hk5 : TupsAt K H5 ks := fun q hq => by rw [← e5]; exact sqT_ins hx4 (sqT_up s4 (ht2 q hq))
    refine ⟨_, rfl, .ref x, rfl, x, a.c_Sky, dx, _, rfl, hx5, T.cl_Sky, T.n_Sky__camera, skyF_two n t, ?_⟩
    refine k hsky _ ks' ⟨⟨dx, t, c, upd_same, sqT_ins hx5 ht5, sqT_ins hx5 hc5⟩, fun q hq => sqT_ins hx5 (hk5 q (hperm.mem_iff.mp hq))⟩ hperm hasc (fun b o hb hn => ?_)
    rw [upd_ne hn, ← e5, upd_ne hn]
    refine s4 _ _ ?_
    rw [← e2, upd_ne hn]
    exact s1 _ _ hb

theorem ok_Sky_side (T : Txt P K mg a) : FnOk P w K mg base CX0 1 a.f_Sky_side a.fd_Sky_side ["self"] (spOfSide K a.c_Sky) := by
  refine T.F_Sky_side.ok sc_Sky_side (fun vs H Q E h => ?_) (fun cdv A outer s H vs Q E hr h => ?_)
  · obtain ⟨p, n, st, cam, rfl, _⟩ := h
    rfl
  · obtain ⟨p, n, st, cam, rfl, ⟨dx, ts, tc, h1, _⟩, k⟩ := h
    refine ⟨_, (pss_one (ps_ret (pe_fld (pv 0) rfl))), ?_⟩
    exact ⟨.ref p, rfl, p, a.c_Sky, dx, _, _, rfl, h1, T.cl_Sky, T.n_Sky__side, skyF_side n ts tc, k⟩

theorem ok_Sky_stars (T : Txt P K mg a) : FnOk P w K mg base CX0 1 a.f_Sky_stars a.fd_Sky_stars ["self"] (spOfStars K a.c_Sky) := by
  refine T.F_Sky_stars.ok sc_Sky_stars (fun vs H Q E h => ?_) (fun cdv A outer s H vs Q E hr h => ?_)
  · obtain ⟨p, n, st, cam, rfl, _⟩ := h
    rfl
  · obtain ⟨p, n, st, cam, rfl, ⟨dx, ts, tc, h1, h2, h3⟩, k⟩ := h
    refine ⟨_, (pss_one (ps_ret (pe_fld (pv 0) rfl))), ?_⟩
    exact ⟨.ref p, rfl, p, a.c_Sky, dx, _, _, rfl, h1, T.cl_Sky, T.n_Sky__stars, skyF_stars n ts tc, k _ h2⟩

theorem ok_Sky_camera (T : Txt P K mg a) : FnOk P w K mg base CX0 1 a.f_Sky_camera a.fd_Sky_camera ["self"] (spOfCamera K a.c_Sky) := by
  refine T.F_Sky_camera.ok sc_Sky_camera (fun vs H Q E h => ?_) (fun cdv A outer s H vs Q E hr h => ?_)
  · obtain ⟨p, n, st, cam, rfl, _⟩ := h
    rfl
  · obtain ⟨p, n, st, cam, rfl, ⟨dx, ts, tc, h1, h2, h3⟩, k⟩ := h
    refine ⟨_, (pss_one (ps_ret (pe_fld (pv 0) rfl))), ?_⟩
    exact ⟨.ref p, rfl, p, a.c_Sky, dx, _, _, rfl, h1, T.cl_Sky, T.n_Sky__camera, skyF_camera n ts tc, k _ h3⟩

theorem ok_Sky_reach (T : Txt P K mg a) : FnOk P w K mg base CX0 1 a.f_Sky_reach a.fd_Sky_reach ["self"] (spOfPart K a.c_Sky 0) := by
  refine T.F_Sky_reach.ok sc_Sky_reach (fun vs H Q E h => ?_) (fun cdv A outer s H vs Q E hr h => ?_)
  · obtain ⟨p, n, st, cam, z, rfl, _⟩ := h
    rfl
  · obtain ⟨p, n, st, cam, z, rfl, ⟨dx, ts, tc, h1, h2, h3⟩, hz, k⟩ := h
    refine ⟨_, (pss_one (ps_ret (pe_ix ix_seq (pe_fld (pv 0) rfl) pe_int (fun _ _ => rfl)))), ?_⟩
    exact ⟨.ref p, rfl, p, a.c_Sky, dx, _, _, rfl, h1, T.cl_Sky, T.n_Sky__camera, skyF_camera n ts tc, .inr (.inl ⟨tc, _, _, _, rfl, rfl, h3, atI_nat (by rw [List.getElem?_map, hz]; rfl), k⟩)⟩

theorem ok_Sky_blur (T : Txt P K mg a) : FnOk P w K mg base CX0 1 a.f_Sky_blur a.fd_Sky_blur ["self"] (spOfPart K a.c_Sky 1) := by
  refine T.F_Sky_blur.ok sc_Sky_blur (fun vs H Q E h => ?_) (fun cdv A outer s H vs Q E hr h => ?_)
  · obtain ⟨p, n, st, cam, z, rfl, _⟩ := h
    rfl
  · obtain ⟨p, n, st, cam, z, rfl, ⟨dx, ts, tc, h1, h2, h3⟩, hz, k⟩ := h
    refine ⟨_, (pss_one (ps_ret (pe_ix ix_seq (pe_fld (pv 0) rfl) pe_int (fun _ _ => rfl)))), ?_⟩
    exact ⟨.ref p, rfl, p, a.c_Sky, dx, _, _, rfl, h1, T.cl_Sky, T.n_Sky__camera, skyF_camera n ts tc, .inr (.inl ⟨tc, _, _, _, rfl, rfl, h3, atI_nat (by rw [List.getElem?_map, hz]; rfl), k⟩)⟩

theorem ok_Sky_glare (T : Txt P K mg a) : FnOk P w K mg base CX0 1 a.f_Sky_glare a.fd_Sky_glare ["self"] (spOfPart K a.c_Sky 2) := by
  refine T.F_Sky_glare.ok sc_Sky_glare (fun vs H Q E h => ?_) (fun cdv A outer s H vs Q E hr h => ?_)
  · obtain ⟨p, n, st, cam, z, rfl, _⟩ := h
    rfl
  · obtain ⟨p, n, st, cam, z, rfl, ⟨dx, ts, tc, h1, h2, h3⟩, hz, k⟩ := h
    refine ⟨_, (pss_one (ps_ret (pe_ix ix_seq (pe_fld (pv 0) rfl) pe_int (fun _ _ => rfl)))), ?_⟩
    exact ⟨.ref p, rfl, p, a.c_Sky, dx, _, _, rfl, h1, T.cl_Sky, T.n_Sky__camera, skyF_camera n ts tc, .inr (.inl ⟨tc, _, _, _, rfl, rfl, h3, atI_nat (by rw [List.getElem?_map, hz]; rfl), k⟩)⟩

theorem ok_Sky_limit (T : Txt P K mg a) : FnOk P w K mg base CX0 1 a.f_Sky_limit a.fd_Sky_limit ["self"] (spOfPart K a.c_Sky 3) := by
  refine T.F_Sky_limit.ok sc_Sky_limit (fun vs H Q E h => ?_) (fun cdv A outer s H vs Q E hr h => ?_)
  · obtain ⟨p, n, st, cam, z, rfl, _⟩ := h
    rfl
  · obtain ⟨p, n, st, cam, z, rfl, ⟨dx, ts, tc, h1, h2, h3⟩, hz, k⟩ := h
    refine ⟨_, (pss_one (ps_ret (pe_ix ix_seq (pe_fld (pv 0) rfl) pe_int (fun _ _ => rfl)))), ?_⟩
    exact ⟨.ref p, rfl, p, a.c_Sky, dx, _, _, rfl, h1, T.cl_Sky, T.n_Sky__camera, skyF_camera n ts tc, .inr (.inl ⟨tc, _, _, _, rfl, rfl, h3, atI_nat (by rw [List.getElem?_map, hz]; rfl), k⟩)⟩

theorem ok__law_row (T : Txt P K mg a) : FnOk P w K mg base CX0 1 a.f__law_row a.fd__law_row ["cell", "many"] (spRow K) := by
  refine T.F__law_row.ok sc__law_row (fun vs H Q E h => ?_) (fun cdv A outer s H vs Q E hr h => ?_)
  · obtain ⟨c, m, rfl, _⟩ := h
    rfl
  · obtain ⟨c, many, rfl, h0, h1, q⟩ := h
    refine ⟨_, (pss_cons (ps_set (i := 2) sc__law_row.nd rfl (.inl rfl) (pe_lst pa_nil))
      (pss_cons (ps_set (i := 3) sc__law_row.nd rfl (.inl rfl) pe_int)
      (C8.pss_cut (ps_if (pt_cmpR op_ge (pe_callB call_abs (by rfl) T.z_abs (by decide +kernel) (pa_cons (pv 0) pa_nil)) (pe_op op_pow pe_int pe_int) (nomark _)) (pss_one (ps_set (i := 3) sc__law_row.nd rfl (.inl rfl) (pe_callB call_abs (by rfl) T.z_abs (by decide +kernel) (pa_cons (pv 0) pa_nil)))) pss_nil)
      (pss_cons (ps_set (i := 4) sc__law_row.nd rfl (.inl rfl) (pe_op op_mod (pe_callTy call_int1 (by rfl) T.z_int (by decide +kernel) (pa_cons (pe_callB call_abs (by rfl) T.z_abs (by decide +kernel) (pa_cons (pv 0) pa_nil)) pa_nil)) pe_int))
      (pss_cons (ps_for PassesOwn.never rfl (pi_range1 (by rfl) T.z_range (pa_cons (pv 1) pa_nil)) (pg_name (i := 5) sc__law_row.nd rfl (.inl rfl)) (pss_cons (ps_set (i := 4) sc__law_row.nd rfl (.inl rfl) (pe_op op_mod (pe_callTy call_int1 (by rfl) T.z_int (by decide +kernel) (pa_cons (pe_op op_add (pe_op op_mul (pe_op op_add (pv 4) pe_int) pe_int) (pe_op op_mul pe_int (pv 5))) pa_nil)) pe_int))
      (pss_one (ps_if (pt_cmpR op_gt (pv 3) pe_int (nomark _)) (pss_cons (ps_expr (pe_bm PySem.F.plainAttrs_list PySem.F.slot_list_append PySem.F.type_list_append mt_append (pv 2) (pa_cons (pe_op op_mod (pe_callTy call_int1 (by rfl) T.z_int (by decide +kernel) (pa_cons (pv 3) pa_nil)) pe_int) pa_nil)))
      (pss_one (ps_set (i := 3) sc__law_row.nd rfl (.inl rfl) (pe_op op_fdiv (pv 3) pe_int)))) (pss_one (ps_expr (pe_bm PySem.F.plainAttrs_list PySem.F.slot_list_append PySem.F.type_list_append mt_append (pv 2) (pa_cons (pe_op op_mod (pe_callTy call_int1 (by rfl) T.z_int (by decide +kernel) (pa_cons (pe_op op_fdiv (pv 4) pe_int) pa_nil)) pe_int) pa_nil))))))))
      (pss_one (ps_ret (pv 2)))))))), ?_⟩
    refine ⟨Nat.zero_le _, fun o no => ?_⟩
    refine ⟨fun σ' H' => ∃ r : Int, σ' = [some (.int c), some (.int many), some (.ref o), some (.int r), none, none] ∧ 0 ≤ r ∧ H' = upd H o (.lst []), ?_, ?_⟩
    · refine ⟨_, rfl, c, rfl, _, _, rfl, rfl, ⟨by decide, by decide, by decide⟩, _, _, rfl, rfl, _, rfl, ite2 (fun hg => ?_) (fun hg => ⟨0, rfl, by decide, rfl⟩)⟩
      exact ⟨_, rfl, c, rfl, _, rfl, by split <;> omega, rfl⟩
    · rintro σ' H' ⟨r, rfl, hr0, rfl⟩
      refine ⟨_, rfl, c, rfl, .inl ⟨_, rfl, _, _, rfl, rfl, (by show (0 : Int) < 2147483647; decide), ?_⟩⟩
      refine ⟨_, rfl, many, rfl, by omega, by omega, for_range (lo := 0) (n := many.toNat) (fun i σ H2 => ∃ (r s : Int) (k : Option V) (ns : List Int), σ = [some (.int c), some (.int many), some (.ref o), some (.int r), some (.int s), k] ∧ 0 ≤ r ∧ Same H H2 ∧ H2 o = some (.lst (ns.map V.int)) ∧ ns.length = i ∧ ∀ n ∈ ns, Num n)
        ⟨r, _, none, [], rfl, hr0, same_new no, upd_same, rfl, fun n hn => by cases hn⟩ ?_ ?_⟩
      · rintro i σ H2 hi ⟨r, s, k, ns, rfl, hr0, s2, eo, el, hN⟩
        refine ⟨_, rfl, _, _, rfl, rfl, _, _, rfl, rfl, .inr (by constructor <;> decide), _, rfl, _, _, rfl, rfl, .inl (by constructor <;> decide), _, _, rfl, rfl, .inl ⟨_, rfl, _, _, rfl, rfl, (by show (0 : Int) < 2147483647; decide), ?_⟩⟩
        have hlen : (ns.map V.int).length < sizeLine := by
          rw [List.length_map]
          exact sizeN (by omega)
        have fin : ∀ (z r' s' : Int), 0 ≤ r' → Num z → ∃ (r s : Int) (k : Option V) (ns' : List Int), [some (V.int c), some (.int many), some (.ref o), some (.int r'), some (.int s'), some (V.int (0 + (i : Nat)))] = [some (V.int c), some (.int many), some (.ref o), some (.int r), some (.int s), k] ∧ 0 ≤ r ∧ Same H (upd H2 o (.lst (ns.map V.int ++ [V.int z]))) ∧ (upd H2 o (.lst (ns.map V.int ++ [V.int z]))) o = some (.lst (ns'.map V.int)) ∧ ns'.length = i + 1 ∧ ∀ n ∈ ns', Num n := fun z r' s' hr' hz => by
          refine ⟨r', s', _, ns ++ [z], rfl, hr', same_put no s2, ?_, ?_, fun n hn => ?_⟩
          · rw [upd_same, List.map_append]
            rfl
          · rw [List.length_append, el]
            rfl
          · rcases List.mem_append.mp hn with hn | hn
            · exact hN n hn
            · rw [List.mem_singleton.mp hn]
              exact hz
        refine ⟨_, rfl, _, _, rfl, rfl, _, rfl, ite2 (fun hg => ?_) (fun hg => ?_)⟩
        · refine ⟨.ref o, rfl, .inl ⟨rfl, _, .inl (.inl eo)⟩, _, rfl, .inl ⟨_, rfl, _, _, rfl, rfl, (by show (0 : Int) < 1009; decide), o, _, _, rfl, rfl, eo, hlen, ?_⟩⟩
          refine ⟨_, rfl, _, _, rfl, rfl, ⟨by decide, by decide⟩, ?_⟩
          exact fin _ _ _ (Int.ediv_nonneg hr0 (by decide)) ⟨Int.emod_nonneg _ (by decide), Int.emod_lt_of_pos _ (by decide)⟩
        · refine ⟨.ref o, rfl, .inl ⟨rfl, _, .inl (.inl eo)⟩, _, rfl, _, _, rfl, rfl, ⟨by decide, by decide⟩, .inl ⟨_, rfl, _, _, rfl, rfl, (by show (0 : Int) < 1009; decide), o, _, _, rfl, rfl, eo, hlen, ?_⟩⟩
          exact fin _ _ _ hr0 ⟨Int.emod_nonneg _ (by decide), Int.emod_lt_of_pos _ (by decide)⟩
      · rintro σ H2 ⟨r, s, k, ns, rfl, hr0, s2, eo, el, hN⟩
        exact ⟨_, rfl, q H2 o ns s2 no eo (by omega) hN⟩

theorem ok__law_numbers (T : Txt P K mg a) : FnOk P w K mg base CX0 2 a.f__law_numbers a.fd__law_numbers ["script", "many"] (spNums K) := by
  refine T.F__law_numbers.ok sc__law_numbers (fun vs H Q E h => ?_) (fun cdv A outer s H vs Q E hr h => ?_)
  · obtain ⟨p, xs, m, rfl, _⟩ := h
    rfl
  · obtain ⟨b, xs, many, rfl, hS, hx, h0, h1, q⟩ := h
    refine ⟨_, (pss_cons (ps_set (i := 2) sc__law_numbers.nd rfl (.inl rfl) (pe_slice sl_list (pv 0) po_none (po_some pe_int)))
      (pss_cons (ps_set (i := 3) sc__law_numbers.nd rfl (.inl rfl) (pe_op op_add pe_int (pe_op op_fdiv (pv 1) (pe_callB (call_max2 rfl) (by rfl) T.z_max (by decide +kernel) (pa_cons pe_int (pa_cons (pe_callB call_len_seq (by rfl) T.z_len (by decide +kernel) (pa_cons (pv 2) pa_nil)) pa_nil))))))
      (pss_cons (ps_set (i := 4) sc__law_numbers.nd rfl (.inl rfl) (pe_lst pa_nil))
      (pss_cons (ps_for PassesOwn.never rfl (pi_list (pv 2)) (pg_name (i := 5) sc__law_numbers.nd rfl (.inl rfl)) (pss_one (ps_for PassesOwn.never rfl (pi_list (pe_call (ok__law_row T) (hr.mono (by decide)) (by rfl) T.m__law_row T.F__law_row.kp T.b__law_row .nil pass0 (pa_cons (pv 5) (pa_cons (pv 3) pa_nil)))) (pg_name (i := 6) sc__law_numbers.nd rfl (.inl rfl)) (pss_one (ps_expr (pe_bm PySem.F.plainAttrs_list PySem.F.slot_list_append PySem.F.type_list_append mt_append (pv 4) (pa_cons (pv 6) pa_nil)))))))
      (pss_cons (ps_while PassesOwn.never (pt_cmpR op_lt (pe_callB call_len_seq (by rfl) T.z_len (by decide +kernel) (pa_cons (pv 4) pa_nil)) (pv 1) (nomark _)) (pss_one (ps_expr (pe_bm PySem.F.plainAttrs_list PySem.F.slot_list_append PySem.F.type_list_append mt_append (pv 4) (pa_cons pe_int pa_nil)))))
      (pss_one (ps_ret (pe_slice sl_list (pv 4) po_none (po_some (pv 1)))))))))), ?_⟩
    refine ⟨.ref b, rfl, 63, rfl, b, xs.map V.int, rfl, hS, fun c nc => ?_⟩
    have ec : cutV (xs.map V.int) none (some 63) = xs.map V.int := by
      rw [show (63 : Int) = ((63 : Nat) : Int) from rfl, cut_to, List.take_of_length_le (by rw [List.length_map]; exact hx)]
    rw [ec]
    have sc1 := same_new (o := .lst (xs.map V.int)) nc
    refine ⟨_, rfl, .ref c, rfl, c, xs.map V.int, rfl, .inl (.inl (.inl upd_same)), _, _, rfl, ?_⟩
    rw [List.length_map]
    generalize hm : (if ((xs.length : Nat) : Int) > 1 then ((xs.length : Nat) : Int) else 1) = mx
    have hm1 : 1 ≤ mx := by rw [← hm]; split <;> omega
    have hm2 : mx ≤ 63 := by rw [← hm]; split <;> omega
    refine ⟨_, _, rfl, rfl, ⟨by omega, by omega⟩, _, _, rfl, rfl, Nat.zero_le _, fun o no => ?_⟩
    have hd0 : 0 ≤ many / mx := Int.ediv_nonneg h0 (by omega)
    have hd1 : many / mx ≤ many := Int.ediv_le_self _ h0
    have noc : o ≠ c := fun e => by rw [e, upd_same] at no; cases no
    have noH : H o = none := by rw [upd_ne noc] at no; exact no
    refine ⟨.ref c, rfl, c, rfl, ⟨xs.map V.int, .inl (.inl (by rw [upd_ne noc.symm]; exact upd_same))⟩, for_list (K := K) (a := c) (xs := xs.map V.int) (fun i σ H2 => ∃ (k5 k6 : Option V) (ns : List Int), σ = [some (.ref b), some (.int many), some (.ref c), some (.int (1 + many / mx)), some (.ref o), k5, k6] ∧ Same H H2 ∧ H2 c = some (.lst (xs.map V.int)) ∧ H2 o = some (.lst (ns.map V.int)) ∧ ns.length = i * (1 + many / mx).toNat ∧ ∀ n ∈ ns, Num n)
      ⟨none, none, [], rfl, sc1.trans (same_new no), by rw [upd_ne noc.symm]; exact upd_same, upd_same, by simp, fun n hn => by cases hn⟩ (fun i σ H2 _ ⟨_, _, _, _, _, e, _⟩ => .inl (.inl e)) ?_ ?_⟩
    · rintro i y σ H2 hi ⟨k5, k6, ns, rfl, s2, ec2, eo, el, hN⟩
      obtain ⟨z, hz, rfl⟩ := map_at hi
      have hil : i < xs.length := (List.getElem?_eq_some_iff.mp hz).1
      refine ⟨_, rfl, _, rfl, z, _, rfl, by omega, by omega, fun H3 p ms s3 np ep em hM => ?_⟩
      have npo : p ≠ o := fun e => by rw [e, eo] at np; cases np
      refine ⟨p, rfl, ⟨_, .inl (.inl ep)⟩, for_list (K := K) (a := p) (xs := ms.map V.int) (fun j σ H4 => ∃ (k6 : Option V) (ns : List Int), σ = [some (.ref b), some (.int many), some (.ref c), some (.int (1 + many / mx)), some (.ref o), some (.int z), k6] ∧ Same H H4 ∧ H4 c = some (.lst (xs.map V.int)) ∧ H4 p = some (.lst (ms.map V.int)) ∧ H4 o = some (.lst (ns.map V.int)) ∧ ns.length = i * (1 + many / mx).toNat + j ∧ ∀ n ∈ ns, Num n)
        ⟨k6, ns, rfl, s2.trans s3, s3 _ _ ec2, ep, s3 _ _ eo, el, hN⟩ (fun i σ H2 _ ⟨_, _, _, _, _, e, _⟩ => .inl (.inl e)) ?_ ?_⟩
      · rintro j y σ H4 hj ⟨k6, ns, rfl, s4, ec4, ep4, eo4, el4, hN4⟩
        obtain ⟨m, hm', rfl⟩ := map_at hj
        have hjl : j < ms.length := (List.getElem?_eq_some_iff.mp hm').1
        have nco : c ≠ o := noc.symm
        have hb1 : i * (1 + many / mx).toNat ≤ 63 * 1901 := Nat.mul_le_mul (by omega) (by omega)
        refine ⟨.ref o, rfl, .inl ⟨rfl, _, .inl (.inl eo4)⟩, _, rfl, o, _, _, rfl, rfl, eo4, ?_, ?_⟩
        · rw [List.length_map]
          exact sizeN (by omega)
        · refine ⟨_, ns ++ [m], rfl, same_put noH s4, by rw [upd_ne nco]; exact ec4, by rw [upd_ne npo]; exact ep4, by rw [upd_same, map_push], ?_, num_push hN4 (hM m (List.mem_of_getElem? hm'))⟩
          rw [List.length_append, el4]
          rfl
      · rintro σ H4 ⟨k6, ns, rfl, s4, ec4, ep4, eo4, el4, hN4⟩
        refine ⟨_, _, ns, rfl, s4, ec4, eo4, ?_, hN4⟩
        rw [el4, List.length_map, Nat.succ_mul]
        omega
    · rintro σ H2 ⟨k5, k6, ns, rfl, s2, ec2, eo, el, hN⟩
      have hb1 : (xs.map V.int).length * (1 + many / mx).toNat ≤ 63 * 1901 := Nat.mul_le_mul (by rw [List.length_map]; omega) (by omega)
      refine while_by (fun σ H3 => ∃ (ns : List Int), σ = [some (.ref b), some (.int many), some (.ref c), some (.int (1 + many / mx)), some (.ref o), k5, k6] ∧ Same H H3 ∧ H3 o = some (.lst (ns.map V.int)) ∧ ns.length ≤ 130000 ∧ ∀ n ∈ ns, Num n)
        (fun σ H3 => match H3 o with | some (.lst l) => many.toNat - l.length | _ => 0) ⟨ns, rfl, s2, eo, by omega, hN⟩ ?_ ?_
      · rintro σ H3 ⟨ns, rfl, s3, eo3, el3, hN3⟩
        refine ⟨.ref o, rfl, o, _, rfl, .inl (.inl (.inl eo3)), _, rfl, _, _, rfl, rfl, _, rfl, ite2 (fun hg => ?_) (fun hg => ?_)⟩
        · have hg' : (((ns.map V.int).length : Nat) : Int) < many := of_decide_eq_true hg
          rw [List.length_map] at hg'
          refine ⟨.ref o, rfl, .inl ⟨rfl, _, .inl (.inl eo3)⟩, o, _, _, rfl, rfl, eo3, ?_, ?_⟩
          · rw [List.length_map]
            exact sizeN (by omega)
          · refine ⟨⟨ns ++ [0], rfl, same_put noH s3, by rw [upd_same, map_push], by rw [List.length_append]; show ns.length + 1 ≤ _; omega, num_push hN3 ⟨by decide, by decide⟩⟩, ?_⟩
            rw [eo3, upd_same]
            show many.toNat - (ns.map V.int ++ [V.int 0]).length < many.toNat - (ns.map V.int).length
            rw [List.length_append, List.length_map]
            show many.toNat - (ns.length + 1) < _
            omega
        · have hg' : ¬ (((ns.map V.int).length : Nat) : Int) < many := fun z => hg (decide_eq_true z)
          rw [List.length_map] at hg'
          refine ⟨.ref o, rfl, _, rfl, many, rfl, o, _, rfl, .inl (.inl eo3), fun p np => ?_⟩
          rw [show many = ((many.toNat : Nat) : Int) by omega, cut_to, ← List.map_take]
          refine q _ p (ns.take many.toNat) (s3.trans (same_new np)) (s3.free np) upd_same ?_ (fun n hn => hN3 n (List.mem_of_mem_take hn))
          rw [List.length_take]
          omega
      · rintro σ H3 Q1 Q2 hQ ⟨v, e1, p, ys, e2, e3, m, e4, i, j, e5, e6, k, e7, e8⟩
        exact ⟨v, e1, p, ys, e2, e3, m, e4, i, j, e5, e6, k, e7, hQ _ _ e8⟩

theorem ok__law_parts (T : Txt P K mg a) : FnOk P w K mg base CX0 1 a.f__law_parts a.fd__law_parts ["numbers", "at", "most"] (spParts K) := by
  refine T.F__law_parts.ok sc__law_parts (fun vs H Q E h => ?_) (fun cdv A outer s H vs Q E hr h => ?_)
  · obtain ⟨p1, ns, at', most, rfl, _⟩ := h
    rfl
  · obtain ⟨p1, ns, at', most, rfl, hL, hN, ha, hm0, hm1, hlen, k⟩ := h
    have hu65 : (A.deeper (envOfC "_law_parts" (defScope s__law_parts) s.heap.objs.size a.f__law_parts cdv)).units + 65 < cLine := by
      have := hr.un
      omega
    refine ⟨_, (pss_cons (ps_set (i := 3) sc__law_parts.nd rfl (.inl rfl) (pe_ix ix_seq (pe_lstM (pa_cons pe_int (pa_cons pe_int (pa_cons pe_int (pa_cons pe_int (pa_cons pe_int (pa_cons pe_int pa_nil))))))) (pe_op op_mod (pe_callTy call_int1 (by rfl) T.z_int (by decide +kernel) (pa_cons (pe_ix ix_seq (pv 0) (pv 1) (fun _ _ => rfl)) pa_nil)) pe_int) (fun _ _ => rfl)))
      (pss_cons (ps_set (i := 4) sc__law_parts.nd rfl (.inl rfl) (pe_op op_fdiv (pe_op op_sub (pv 3) pe_int) pe_int))
      (pss_cons (ps_set (i := 5) sc__law_parts.nd rfl (.inl rfl) (pe_callB (call_min2 rfl) (by rfl) T.z_min (by decide +kernel) (pa_cons (pv 4) (pa_cons (pe_ix ix_seq (pe_lstM (pa_cons pe_int (pa_cons pe_int (pa_cons pe_int (pa_cons pe_int (pa_cons pe_int pa_nil)))))) (pe_op op_mod (pe_callTy call_int1 (by rfl) T.z_int (by decide +kernel) (pa_cons (pe_ix ix_seq (pv 0) (pe_op op_add (pv 1) pe_int) (fun _ _ => rfl)) pa_nil)) pe_int) (fun _ _ => rfl)) pa_nil))))
      (pss_cons (ps_set (i := 6) sc__law_parts.nd rfl (.inl rfl) (pe_op op_mod (pe_callTy call_int1 (by rfl) T.z_int (by decide +kernel) (pa_cons (pe_ix ix_seq (pv 0) (pe_op op_add (pv 1) pe_int) (fun _ _ => rfl)) pa_nil)) (pe_op op_add pe_int (pe_callB (call_min3I rfl) (by rfl) T.z_min (by decide +kernel) (pa_cons pe_int (pa_cons (pv 5) (pa_cons (pe_op op_sub (pv 4) (pv 5)) pa_nil)))))))
      (pss_cons (ps_set (i := 7) sc__law_parts.nd rfl (.inl rfl) (pe_tupM (pa_cons (pv 5) (pa_cons (pv 6) (pa_cons (pe_op op_mod (pe_callTy call_int1 (by rfl) T.z_int (by decide +kernel) (pa_cons (pe_ix ix_seq (pv 0) (pe_op op_add (pv 1) pe_int) (fun _ _ => rfl)) pa_nil)) pe_int) (pa_cons (pe_ix ix_seq (pe_lstM (pa_cons pe_int (pa_cons pe_int (pa_cons pe_int (pa_cons pe_int (pa_cons pe_int pa_nil)))))) (pe_op op_mod (pe_callTy call_int1 (by rfl) T.z_int (by decide +kernel) (pa_cons (pe_ix ix_seq (pv 0) (pe_op op_add (pv 1) pe_int) (fun _ _ => rfl)) pa_nil)) pe_int) (fun _ _ => rfl)) pa_nil))))))
      (pss_cons (ps_set (i := 8) sc__law_parts.nd rfl (.inl rfl) (pe_lstM pa_nil))
      (pss_cons (ps_for PassesOwn.never rfl (pi_range1 (by rfl) T.z_range (pa_cons (pe_op op_mod (pe_callTy call_int1 (by rfl) T.z_int (by decide +kernel) (pa_cons (pe_ix ix_seq (pv 0) (pe_op op_add (pv 1) pe_int) (fun _ _ => rfl)) pa_nil)) (pe_op op_add (pv 2) pe_int)) pa_nil)) (pg_name (i := 9) sc__law_parts.nd rfl (.inl rfl)) (pss_cons (ps_set (i := 10) sc__law_parts.nd rfl (.inl rfl) (pe_op op_add (pe_op op_add (pv 1) pe_int) (pe_op op_mul pe_int (pv 9))))
      (pss_cons (ps_set (i := 11) sc__law_parts.nd rfl (.inl rfl) (pe_tupM (pa_cons (pe_op op_mod (pe_callTy call_int1 (by rfl) T.z_int (by decide +kernel) (pa_cons (pe_ix ix_seq (pv 0) (pv 10) (fun _ _ => rfl)) pa_nil)) (pv 3)) (pa_cons (pe_op op_mod (pe_callTy call_int1 (by rfl) T.z_int (by decide +kernel) (pa_cons (pe_ix ix_seq (pv 0) (pe_op op_add (pv 10) pe_int) (fun _ _ => rfl)) pa_nil)) (pv 3)) (pa_cons (pe_op op_add pe_int (pe_op op_mod (pe_callTy call_int1 (by rfl) T.z_int (by decide +kernel) (pa_cons (pe_ix ix_seq (pv 0) (pe_op op_add (pv 10) pe_int) (fun _ _ => rfl)) pa_nil)) pe_int)) pa_nil)))))
      (pss_one (ps_if (pt_cmpR (op_notInD hu65) (pv 11) (pv 8) (by rfl)) (pss_one (ps_expr (pe_bm PySem.F.plainAttrs_list PySem.F.slot_list_append PySem.F.type_list_append mt_append (pv 8) (pa_cons (pv 11) pa_nil)))) pss_nil)))))
      (pss_one (ps_ret (pe_tupM (pa_cons (pv 3) (pa_cons (pe_callB (cr_sortM (d := 3) (B := 10) (by decide)) (by rfl) T.z_sorted (by decide +kernel) (pa_cons (pv 8) pa_nil)) (pa_cons (pv 7) pa_nil))))))))))))), ?_⟩
    -- side
    refine ⟨(by show 6 ≤ sizeLine; decide), fun l1 H1 s1 _ el1 => ?_⟩
    have hL1 := s1.seq hL
    refine ⟨.ref p1, rfl, _, rfl, .inl ⟨p1, _, _, _, rfl, rfl, hL1, nthI (by omega) (by omega), .inl ⟨_, rfl, _, _, rfl, rfl, (by show (0 : Int) < 6; decide), ?_⟩⟩⟩
    obtain ⟨n, en, hn⟩ := pickI (zs := [5, 4, 6, 7, 8, 9]) (j := numI ns at' % 6) (P := fun z => 4 ≤ z ∧ z ≤ 9) (by decide) (Int.emod_nonneg _ (by decide)) (Int.emod_lt_of_pos _ (by decide))
    refine .inl ⟨l1, _, _, _, rfl, rfl, .inl (.inl el1), en, ?_⟩
    have hn0 : 0 < n := by omega
    -- half
    refine ⟨_, rfl, _, _, rfl, rfl, _, _, rfl, rfl, ⟨by decide, by decide⟩, ?_⟩
    -- reach
    refine ⟨_, rfl, (by show 5 ≤ sizeLine; decide), fun l2 H2 s2 _ el2 => ?_⟩
    have hL2 := s2.seq hL1
    refine ⟨.ref p1, rfl, _, rfl, _, _, rfl, rfl, .inl ⟨p1, _, _, _, rfl, rfl, hL2, nthI (by omega) (by omega), .inl ⟨_, rfl, _, _, rfl, rfl, (by show (0 : Int) < 5; decide), ?_⟩⟩⟩
    obtain ⟨r0, er, hr0⟩ := pickI (zs := [1, 2, 0, 3, 4]) (j := numI ns (at' + 1) % 5) (P := fun z => 0 ≤ z ∧ z ≤ 4) (by decide) (Int.emod_nonneg _ (by decide)) (Int.emod_lt_of_pos _ (by decide))
    refine .inl ⟨l2, _, _, _, rfl, rfl, .inl (.inl el2), er, _, _, rfl, ?_⟩
    obtain ⟨r, hr', r1, r2, r3⟩ : ∃ r, (if r0 < (n - 1) / 2 then r0 else (n - 1) / 2) = r ∧ 0 ≤ r ∧ r ≤ 4 ∧ r ≤ (n - 1) / 2 := by
      refine ⟨_, rfl, ?_⟩
      split <;> omega
    rw [hr']
    -- blur
    refine ⟨.ref p1, rfl, _, rfl, _, _, rfl, rfl, .inl ⟨p1, _, _, _, rfl, rfl, hL2, nthI (by omega) (by omega), .inl ⟨_, rfl, ?_⟩⟩⟩
    refine ⟨_, rfl, _, rfl, _, rfl, _, _, rfl, rfl, _, _, _, rfl, fun m m1 m2 m3 hm => ?_⟩
    have hmp : 0 ≤ m := by omega
    refine ⟨_, _, rfl, rfl, _, _, rfl, rfl, (by show (0 : Int) < 1 + m; omega), ?_⟩
    have hb : 0 ≤ numI ns (at' + 2) % (1 + m) ∧ numI ns (at' + 2) % (1 + m) ≤ m := ⟨Int.emod_nonneg _ (by omega), by have := Int.emod_lt_of_pos (numI ns (at' + 2)) (show (0 : Int) < 1 + m by omega); omega⟩
    -- camera
    refine ⟨_, rfl, _, rfl, .ref p1, rfl, _, rfl, _, _, rfl, rfl, .inl ⟨p1, _, _, _, rfl, rfl, hL2, nthI (by omega) (by omega), .inl ⟨_, rfl, _, _, rfl, rfl, (by show (0 : Int) < 3; decide), ?_⟩⟩⟩
    refine ⟨(by show 5 ≤ sizeLine; decide), fun l3 H3 s3 _ el3 => ?_⟩
    have hL3 := s3.seq hL2
    refine ⟨.ref p1, rfl, _, rfl, _, _, rfl, rfl, .inl ⟨p1, _, _, _, rfl, rfl, hL3, nthI (by omega) (by omega), .inl ⟨_, rfl, _, _, rfl, rfl, (by show (0 : Int) < 5; decide), ?_⟩⟩⟩
    obtain ⟨li, eli, hli⟩ := pickI (zs := [1, 2, 3, 5, 9]) (j := numI ns (at' + 4) % 5) (P := fun z => 1 ≤ z ∧ z ≤ 9) (by decide) (Int.emod_nonneg _ (by decide)) (Int.emod_lt_of_pos _ (by decide))
    refine .inl ⟨l3, _, _, _, rfl, rfl, .inl (.inl el3), eli, (by show 4 ≤ sizeLine; decide), fun pc H4 s4 tc => ?_⟩
    have hgl : 0 ≤ numI ns (at' + 3) % 3 ∧ numI ns (at' + 3) % 3 ≤ 2 := by omega
    have tc' : SqT K H4 pc ([r, numI ns (at' + 2) % (1 + m), numI ns (at' + 3) % 3, li].map V.int) := tc
    have hcam : isCam n [r, numI ns (at' + 2) % (1 + m), numI ns (at' + 3) % 3, li] = true := decide_eq_true (by omega)
    generalize [r, numI ns (at' + 2) % (1 + m), numI ns (at' + 3) % 3, li] = cam at tc' hcam
    clear tc
    have hL4 := s4.seq hL3
    have S4 : Same H H4 := ((s1.trans s2).trans s3).trans s4
    -- stars
    refine ⟨Nat.zero_le _, fun ls H5 s5 nls els => ?_⟩
    refine ⟨.ref p1, rfl, _, rfl, _, _, rfl, rfl, .inl ⟨p1, _, _, _, rfl, rfl, s5.seq hL4, nthI (by omega) (by omega), .inl ⟨_, rfl, _, rfl, _, _, rfl, rfl, _, _, rfl, rfl, (by show (0 : Int) < most + 1; omega), ?_⟩⟩⟩
    have hm' : 0 ≤ numI ns (at' + 5) % (most + 1) ∧ numI ns (at' + 5) % (most + 1) ≤ most := ⟨Int.emod_nonneg _ (by omega), by have := Int.emod_lt_of_pos (numI ns (at' + 5)) (show (0 : Int) < most + 1 by omega); omega⟩
    refine ⟨_, rfl, (by show -2 ^ 62 ≤ numI ns (at' + 5) % (most + 1); omega), (by show numI ns (at' + 5) % (most + 1) < _; omega), for_range (lo := 0) (n := (numI ns (at' + 5) % (most + 1)).toNat) (fun i σ H6 => ∃ (z9 z10 z11 : Option V) (ks : Tups), σ = [some (.ref p1), some (.int at'), some (.int most), some (.int n), some (.int ((n - 1) / 2)), some (.int r), some (.int (numI ns (at' + 2) % (1 + m))), some (.ref pc), some (.ref ls), z9, z10, z11] ∧ Same H4 H6 ∧ H6 ls = some (.lst (refs ks)) ∧ TupsAt K H6 ks ∧ ks.length ≤ i ∧ (keys ks).Nodup ∧ ∀ x ∈ keys ks, isStar n x = true)
      ⟨none, none, none, [], rfl, s5, els, (fun p hp => by cases hp), Nat.le_refl _, List.nodup_nil, fun x hx => by cases hx⟩ ?_ ?_⟩
    · rintro i σ H6 hi ⟨z9, z10, z11, ks, rfl, s6, e6, t6, hlen6, hnd, hst⟩
      have hL6 := s6.seq hL4
      refine ⟨_, rfl, _, _, rfl, rfl, _, rfl, _, _, rfl, rfl, .inl (by constructor <;> decide), _, _, rfl, rfl, ?_⟩
      refine ⟨.ref p1, rfl, _, rfl, .inl ⟨p1, _, _, _, rfl, rfl, hL6, nthI (by omega) (by omega), .inl ⟨_, rfl, _, rfl, _, _, rfl, rfl, hn0, ?_⟩⟩⟩
      refine ⟨.ref p1, rfl, _, rfl, _, _, rfl, rfl, .inl ⟨p1, _, _, _, rfl, rfl, hL6, nthI (by omega) (by omega), .inl ⟨_, rfl, _, rfl, _, _, rfl, rfl, hn0, ?_⟩⟩⟩
      refine ⟨.ref p1, rfl, _, rfl, _, _, rfl, rfl, .inl ⟨p1, _, _, _, rfl, rfl, hL6, nthI (by omega) (by omega), .inl ⟨_, rfl, _, _, rfl, rfl, (by show (0 : Int) < 9; decide), _, _, rfl, rfl, ?_⟩⟩⟩
      refine ⟨(by show 3 ≤ sizeLine; decide), fun pt H7 s7 tt => ?_⟩
      obtain ⟨k3, tt', hk3⟩ : ∃ k3 : List Int, SqT K H7 pt (k3.map V.int) ∧ isStar n k3 = true := ⟨[_, _, _], tt, decide_eq_true ⟨Int.emod_nonneg _ (by omega), Int.emod_lt_of_pos _ hn0, Int.emod_nonneg _ (by omega), Int.emod_lt_of_pos _ hn0, by omega, by omega⟩⟩
      clear tt
      have e7 := s7 _ _ e6
      have t7 := tups_up s7 t6
      refine ⟨.ref pt, rfl, .ref ls, rfl, _, _, dp_ti tt', dp_l e7 (dp_tups t7), shaped_of (lay_ti _) (by decide), shaped_of (lay_tups _) (by decide), _, rfl, ?_⟩
      rw [any_tups]
      by_cases hin : k3 ∈ keys ks
      · rw [decide_eq_true hin]
        exact iteF ⟨_, _, _, ks, rfl, s6.trans s7, e7, t7, by omega, hnd, hst⟩
      · rw [decide_eq_false hin]
        have hlt : (refs ks).length < sizeLine := by
          rw [refs_len]
          exact sizeN (by omega)
        refine iteT ⟨.ref ls, rfl, .inl ⟨rfl, _, .inl (.inl e7)⟩, .ref pt, rfl, ls, _, _, rfl, rfl, e7, hlt, ?_⟩
        refine ⟨_, _, _, ks ++ [(pt, k3)], rfl, ?_, by rw [upd_same, ← refs_push], ?_, by rw [List.length_append]; show ks.length + 1 ≤ _; omega, by rw [keys_push]; exact nodup_push hnd hin, fun x hx => ?_⟩
        · have nH : H4 ls = none := nls
          exact same_put nH (s6.trans s7)
        · intro p hp
          rcases List.mem_append.mp hp with hp | hp
          · exact tups_put e7 t7 p hp
          · rw [List.mem_singleton.mp hp]
            exact sqT_lst e7 tt'
        · rw [keys_push] at hx
          rcases List.mem_append.mp hx with hx | hx
          · exact hst x hx
          · rw [List.mem_singleton.mp hx]
            exact hk3
    · rintro σ H6 ⟨z9, z10, z11, ks, rfl, s6, e6, t6, hlen6, hnd, hst⟩
      have hall : (keys ks).all (isStar n) = true := List.all_eq_true.mpr hst
      refine ⟨_, rfl, .ref ls, rfl, ls, ks, rfl, .inl (.inl e6), t6, by omega, stars_fit hall hn.2, fun l ks' H7 s7 nl el hperm hasc => ?_⟩
      refine ⟨.ref pc, rfl, (by show 3 ≤ sizeLine; decide), fun t H8 s8 tt => ?_⟩
      have S8 : Same H4 H8 := (s6.trans s7).trans s8
      have hsky : isSky n (keys ks') cam = true := by
        rw [isSky_perm (kk := keys ks') (mm := keys ks) (hperm.map _)]
        unfold isSky
        rw [decide_eq_true hn, hall, decide_eq_true hnd, hcam, show decide ((keys ks).length ≤ 20) = true from decide_eq_true (by rw [keys_len]; omega)]
        rfl
      exact k H8 t l pc n ks' cam (S4.trans S8) tt ((S4.trans (s6)).free nl) (s8 _ _ el) (fun p hp => sqT_up (s7.trans s8) (t6 p (hperm.mem_iff.mp hp))) (sqT_up S8 tc') hsky (by have := hperm.length_eq; omega) hasc

theorem ok__law_is_sky (T : Txt P K mg a) : FnOk P w K mg base CX0 1 a.f__law_is_sky a.fd__law_is_sky ["side", "stars", "camera"] (spIsSky K) := by
  refine T.F__law_is_sky.ok sc__law_is_sky (fun vs H Q E h => ?_) (fun cdv A outer s H vs Q E hr h => ?_)
  · obtain ⟨n, l, c, ks, cam, rfl, _⟩ := h
    rfl
  · obtain ⟨n, l, c, ks, cam, rfl, hl, ht, hc, hk, k⟩ := h
    have hu65 : (A.deeper (envOfC "_law_is_sky" (defScope s__law_is_sky) s.heap.objs.size a.f__law_is_sky cdv)).units + 65 < cLine := by
      have := hr.un
      omega
    refine ⟨_, (pss_cons (ps_if (PW.pt (pw_or (pt_not (pt_chain op_le op_le pe_int (pv 0) pe_int)) (pw_or (pt_cmpR op_ne (pe_callB call_len_seq (by rfl) T.z_len (by decide +kernel) (pa_cons (pv 2) pa_nil)) pe_int (nomark _)) (pw_or1 (pt_cmpR op_gt (pe_callB call_len_seq (by rfl) T.z_len (by decide +kernel) (pa_cons (pv 1) pa_nil)) pe_int (nomark _)))))) (pss_one (ps_ret pe_bl)) pss_nil)
      (pss_cons (ps_if (PW.pt (pw_or (pt_not (pt_chain op_le op_le pe_int (pe_ix ix_seq (pv 2) pe_int (fun _ _ => rfl)) pe_int)) (pw_or (pt_not (pt_chain op_le op_le pe_int (pe_ix ix_seq (pv 2) pe_int (fun _ _ => rfl)) pe_int)) (pw_or (pt_not (pt_chain op_le op_le pe_int (pe_ix ix_seq (pv 2) pe_int (fun _ _ => rfl)) pe_int)) (pw_or1 (pt_not (pt_chain op_le op_le pe_int (pe_ix ix_seq (pv 2) pe_int (fun _ _ => rfl)) pe_int))))))) (pss_one (ps_ret pe_bl)) pss_nil)
      (pss_cons (ps_if (PW.pt (pw_or (pt_cmpR op_gt (pe_ix ix_seq (pv 2) pe_int (fun _ _ => rfl)) (pe_ix ix_seq (pv 2) pe_int (fun _ _ => rfl)) (nomark _)) (pw_or1 (pt_cmpR op_gt (pe_op op_add (pe_op op_mul pe_int (pe_op op_add (pe_ix ix_seq (pv 2) pe_int (fun _ _ => rfl)) (pe_ix ix_seq (pv 2) pe_int (fun _ _ => rfl)))) pe_int) (pv 0) (nomark _))))) (pss_one (ps_ret pe_bl)) pss_nil)
      (pss_cons (ps_for PassesOwn.never rfl (pi_range1 (by rfl) T.z_range (pa_cons (pe_callB call_len_seq (by rfl) T.z_len (by decide +kernel) (pa_cons (pv 1) pa_nil)) pa_nil)) (pg_name (i := 3) sc__law_is_sky.nd rfl (.inl rfl)) (pss_cons (ps_set (i := 4) sc__law_is_sky.nd rfl (.inl rfl) (pe_ix ix_seq (pv 1) (pv 3) (fun _ _ => rfl)))
      (pss_one (ps_if (PW.pt (pw_or (pt_cmpR op_ne (pe_callB call_len_seq (by rfl) T.z_len (by decide +kernel) (pa_cons (pv 4) pa_nil)) pe_int (nomark _)) (pw_or (pt_cmpR (op_inD hu65) (pv 4) (pe_slice sl_listM (pv 1) po_none (po_some (pv 3))) (by rfl)) (pw_or (pt_not (pt_chain op_le op_lt pe_int (pe_ix ix_seq (pv 4) pe_int (fun _ _ => rfl)) (pv 0))) (pw_or (pt_not (pt_chain op_le op_lt pe_int (pe_ix ix_seq (pv 4) pe_int (fun _ _ => rfl)) (pv 0))) (pw_or1 (pt_not (pt_chain op_le op_le pe_int (pe_ix ix_seq (pv 4) pe_int (fun _ _ => rfl)) pe_int)))))))) (pss_one (ps_ret pe_bl)) pss_nil))))
      (pss_one (ps_ret pe_bl)))))), ?_⟩
    have F : isSky n (keys ks) cam = false → ∀ H', Same H H' → Q (.bl false) H' := fun e H' s' => by have z := k H' s'; rw [e] at z; exact z
    have Fn : ¬ (4 ≤ n ∧ n ≤ 9) → isSky n (keys ks) cam = false := fun z => by unfold isSky; rw [decide_eq_false z]; rfl
    have Fc : isCam n cam = false → isSky n (keys ks) cam = false := fun z => by unfold isSky; rw [z, Bool.and_false]
    have Fl : ¬ ks.length ≤ 20 → isSky n (keys ks) cam = false := fun z => by unfold isSky; rw [show decide ((keys ks).length ≤ 20) = false from decide_eq_false (by rw [keys_len]; exact z), Bool.and_false]; rfl
    refine ⟨_, rfl, _, _, rfl, rfl, _, rfl, ite2 (fun h1 => ⟨_, _, rfl, rfl, _, rfl, ite2 (fun h2 => ?_) (fun h2 => ?_)⟩) (fun h1 => ⟨_, rfl, iteT (iteT (F (Fn fun z => h1 (decide_eq_true z.1)) _ (Same.refl _)))⟩)⟩
    · exact iteT (F (Fn fun z => by rw [decide_eq_true z.2] at h2; cases h2) _ (Same.refl _))
    have hn : 4 ≤ n ∧ n ≤ 9 := ⟨of_decide_eq_true h1, by
      by_cases z : n ≤ 9
      · exact z
      · exact absurd (by rw [decide_eq_false z]; rfl) h2⟩
    refine ⟨.ref c, rfl, c, _, rfl, .inr hc, rfl, _, rfl, ite2 (fun hg => ?_) (fun hg => ?_)⟩
    · exact iteT (F (Fc (cam_len (by have z := int_ne hg; rw [List.length_map] at z; exact z))) _ (Same.refl _))
    obtain ⟨r, b, g, li, rfl⟩ := of4 (by have z := int_eq hg; rw [List.length_map] at z; exact z)
    refine ⟨.ref l, rfl, l, _, rfl, .inl hl, _, _, rfl, rfl, _, rfl, ite2 (fun hg => ?_) (fun hg => ?_)⟩
    · exact F (Fl (by have z := of_decide_eq_true hg; rw [refs_len] at z; omega)) _ (Same.refl _)
    have h20 : ks.length ≤ 20 := by
      have z : ¬ ((20 : Int) < ((refs ks).length : Nat)) := fun z => hg (decide_eq_true z)
      rw [refs_len] at z
      omega
    have Fk : ¬ (0 ≤ r ∧ r ≤ 4 ∧ 0 ≤ b ∧ b ≤ 2 ∧ 0 ≤ g ∧ g ≤ 2 ∧ 1 ≤ li ∧ li ≤ 9 ∧ b ≤ r ∧ 2 * (r + b) + 1 ≤ n) → Q (.bl false) H := fun z => F (Fc (decide_eq_false z)) _ (Same.refl _)
    have nn : ∀ {x y : Int}, (!decide (x ≤ y)) = true → ¬ x ≤ y := fun {x y} h z => by rw [decide_eq_true z] at h; cases h
    have pp : ∀ {x y : Int}, ¬ (!decide (x ≤ y)) = true → x ≤ y := fun {x y} h => by
      by_cases z : x ≤ y
      · exact z
      · exact absurd (by rw [decide_eq_false z]; rfl) h
    -- the parts of the camera
    refine ⟨.ref c, rfl, .inr (.inl ⟨c, _, 0, .int r, rfl, rfl, hc, rfl, _, _, rfl, rfl, _, rfl, ite2 (fun a1 => ⟨_, _, rfl, rfl, _, rfl, ite2 (fun a2 => ?_) (fun a2 => ?_)⟩) (fun a1 => ⟨_, rfl, iteT (iteT (Fk fun z => a1 (decide_eq_true z.1)))⟩)⟩)⟩
    · exact iteT (Fk fun z => nn a2 z.2.1)
    refine ⟨.ref c, rfl, .inr (.inl ⟨c, _, 1, .int b, rfl, rfl, hc, rfl, _, _, rfl, rfl, _, rfl, ite2 (fun a3 => ⟨_, _, rfl, rfl, _, rfl, ite2 (fun a4 => ?_) (fun a4 => ?_)⟩) (fun a3 => ⟨_, rfl, iteT (iteT (Fk fun z => a3 (decide_eq_true z.2.2.1)))⟩)⟩)⟩
    · exact iteT (Fk fun z => nn a4 z.2.2.2.1)
    refine ⟨.ref c, rfl, .inr (.inl ⟨c, _, 2, .int g, rfl, rfl, hc, rfl, _, _, rfl, rfl, _, rfl, ite2 (fun a5 => ⟨_, _, rfl, rfl, _, rfl, ite2 (fun a6 => ?_) (fun a6 => ?_)⟩) (fun a5 => ⟨_, rfl, iteT (iteT (Fk fun z => a5 (decide_eq_true z.2.2.2.2.1)))⟩)⟩)⟩
    · exact iteT (Fk fun z => nn a6 z.2.2.2.2.2.1)
    refine ⟨.ref c, rfl, .inr (.inl ⟨c, _, 3, .int li, rfl, rfl, hc, rfl, _, _, rfl, rfl, _, rfl, ite2 (fun a7 => ⟨_, _, rfl, rfl, _, rfl, ite2 (fun a8 => ?_) (fun a8 => ?_)⟩) (fun a7 => ⟨_, rfl, iteT (Fk fun z => a7 (decide_eq_true z.2.2.2.2.2.2.1))⟩)⟩)⟩
    · exact Fk fun z => nn a8 z.2.2.2.2.2.2.2.1
    refine ⟨.ref c, rfl, .inr (.inl ⟨c, _, 1, .int b, rfl, rfl, hc, rfl, .ref c, rfl, .inr (.inl ⟨c, _, 0, .int r, rfl, rfl, hc, rfl, _, _, rfl, rfl, _, rfl, ite2 (fun a9 => ?_) (fun a9 => ?_)⟩)⟩)⟩
    · exact iteT (Fk fun z => by have y := of_decide_eq_true a9; omega)
    refine ⟨.ref c, rfl, .inr (.inl ⟨c, _, 0, .int r, rfl, rfl, hc, rfl, .ref c, rfl, .inr (.inl ⟨c, _, 1, .int b, rfl, rfl, hc, rfl, _, _, rfl, rfl, _, _, rfl, rfl, .inl (by constructor <;> decide), _, _, rfl, rfl, _, rfl, _, _, rfl, rfl, _, rfl, ite2 (fun a10 => ?_) (fun a10 => ?_)⟩)⟩)⟩
    · exact Fk fun z => by have y := of_decide_eq_true a10; omega
    have hcam : isCam n [r, b, g, li] = true := decide_eq_true ⟨of_decide_eq_true a1, pp a2, of_decide_eq_true a3, pp a4, of_decide_eq_true a5, pp a6, of_decide_eq_true a7, pp a8, by
      by_cases z : r < b
      · exact absurd (decide_eq_true z) a9
      · omega, by
      by_cases z : n < 2 * (r + b) + 1
      · exact absurd (decide_eq_true z) a10
      · omega⟩
    -- the stars
    refine ⟨.ref l, rfl, l, _, rfl, .inl hl, _, rfl, (by rw [refs_len]; omega), (by rw [refs_len]; omega), for_range (lo := 0) (n := (refs ks).length) (fun i σ H2 => ∃ z3 z4 : Option V, σ = [some (.int n), some (.ref l), some (.ref c), z3, z4] ∧ Same H H2 ∧ (∀ x ∈ (keys ks).take i, isStar n x = true) ∧ ((keys ks).take i).Nodup) ⟨_, _, rfl, Same.refl _, (fun x hx => by cases hx), List.nodup_nil⟩ ?_ ?_⟩
    · rintro i σ H2 hi ⟨z3, z4, rfl, s2, hst, hnd⟩
      have hi' : i < ks.length := by rw [refs_len] at hi; exact hi
      obtain ⟨p, hp⟩ : ∃ p, ks[i]? = some p := ⟨_, List.getElem?_eq_getElem hi'⟩
      have hpm : p ∈ ks := List.mem_of_getElem? hp
      have hat : atI (refs ks) (0 + (i : Nat)) = some (.ref p.1) := by
        rw [Int.zero_add]
        exact atI_nat (by unfold refs; rw [List.getElem?_map, hp]; rfl)
      have hkey : (keys ks)[i]? = some p.2 := by unfold keys; rw [List.getElem?_map, hp]; rfl
      have Fs : isStar n p.2 = false → isSky n (keys ks) [r, b, g, li] = false := fun z => by
        have y : (keys ks).all (isStar n) = false := by
          rw [List.all_eq_false]
          exact ⟨p.2, List.mem_map_of_mem hpm, by rw [z]; simp⟩
        unfold isSky
        rw [y, Bool.and_false]
        rfl
      have hp2 := sqT_up s2 (ht p hpm)
      refine ⟨.ref l, rfl, _, rfl, .inl ⟨l, _, _, _, rfl, rfl, s2.seq hl, hat, ?_⟩⟩
      refine ⟨.ref p.1, rfl, p.1, _, rfl, .inr hp2, rfl, _, rfl, ite2 (fun hg => ?_) (fun hg => ?_)⟩
      · exact iteT (F (Fs (star_len (by have z := int_ne hg; rw [List.length_map] at z; exact z))) _ s2)
      obtain ⟨x, y, bb, e3⟩ := of3 (by have z := int_eq hg; rw [List.length_map] at z; exact z)
      rw [e3] at hp2 hkey Fs
      refine ⟨.ref p.1, rfl, .ref l, rfl, _, rfl, _, rfl, l, refs ks, rfl, s2.seq hl, fun lz H3 s3 _ elz => ?_⟩
      have ecut : cutV (refs ks) none (some (0 + (i : Nat))) = refs (ks.take i) := by
        rw [Int.zero_add, cut_to]
        exact List.map_take.symm
      rw [ecut] at elz
      have S3 := s2.trans s3
      have hp3 := sqT_up s3 hp2
      refine ⟨dTI [x, y, bb], _, dp_ti hp3, dp_l elz (dp_tups fun q hq => sqT_up S3 (ht q (List.mem_of_mem_take hq))), shaped_of (lay_ti _) (by decide), shaped_of (lay_tups _) (by decide), _, rfl, ?_⟩
      rw [any_tups]
      have ek : keys (ks.take i) = (keys ks).take i := List.map_take
      rw [ek]
      refine ite2 (fun hg => ?_) (fun hg => ?_)
      · have hin := of_decide_eq_true hg
        have hd : ¬ (keys ks).Nodup := fun hnd' => by
          obtain ⟨j, hj2⟩ := List.getElem?_of_mem hin
          have hji : j < i := by
            have := (List.getElem?_eq_some_iff.mp hj2).1
            rw [List.length_take] at this
            omega
          rw [List.getElem?_take_of_lt hji] at hj2
          obtain ⟨q1, q2⟩ := List.getElem?_eq_some_iff.mp hj2
          obtain ⟨q3, q4⟩ := List.getElem?_eq_some_iff.mp hkey
          exact List.pairwise_iff_getElem.mp hnd' j i q1 q3 hji (q2.trans q4.symm)
        exact iteT (F (by unfold isSky; rw [decide_eq_false hd, Bool.and_false]; rfl) _ S3)
      have hnin : [x, y, bb] ∉ (keys ks).take i := fun z => hg (decide_eq_true z)
      have Fq : ¬ (0 ≤ x ∧ x < n ∧ 0 ≤ y ∧ y < n ∧ 1 ≤ bb ∧ bb ≤ 9) → Q (.bl false) H3 := fun z => F (Fs (decide_eq_false z)) _ S3
      have ll : ∀ {x y : Int}, (!decide (x < y)) = true → ¬ x < y := fun {x y} h z => by rw [decide_eq_true z] at h; cases h
      have qq : ∀ {x y : Int}, ¬ (!decide (x < y)) = true → x < y := fun {x y} h => by
        by_cases z : x < y
        · exact z
        · exact absurd (by rw [decide_eq_false z]; rfl) h
      refine ⟨.ref p.1, rfl, .inr (.inl ⟨p.1, _, 0, .int x, rfl, rfl, hp3, rfl, _, _, rfl, rfl, _, rfl, ite2 (fun a1 => ⟨_, rfl, _, _, rfl, rfl, _, rfl, ite2 (fun a2 => ?_) (fun a2 => ?_)⟩) (fun a1 => ⟨_, rfl, iteT (iteT (Fq fun z => a1 (decide_eq_true z.1)))⟩)⟩)⟩
      · exact iteT (Fq fun z => ll a2 z.2.1)
      refine ⟨.ref p.1, rfl, .inr (.inl ⟨p.1, _, 1, .int y, rfl, rfl, hp3, rfl, _, _, rfl, rfl, _, rfl, ite2 (fun a3 => ⟨_, rfl, _, _, rfl, rfl, _, rfl, ite2 (fun a4 => ?_) (fun a4 => ?_)⟩) (fun a3 => ⟨_, rfl, iteT (iteT (Fq fun z => a3 (decide_eq_true z.2.2.1)))⟩)⟩)⟩
      · exact iteT (Fq fun z => ll a4 z.2.2.2.1)
      refine ⟨.ref p.1, rfl, .inr (.inl ⟨p.1, _, 2, .int bb, rfl, rfl, hp3, rfl, _, _, rfl, rfl, _, rfl, ite2 (fun a5 => ⟨_, _, rfl, rfl, _, rfl, ite2 (fun a6 => ?_) (fun a6 => ?_)⟩) (fun a5 => ⟨_, rfl, iteT (Fq fun z => a5 (decide_eq_true z.2.2.2.2.1))⟩)⟩)⟩
      · exact Fq fun z => nn a6 z.2.2.2.2.2
      refine ⟨_, _, rfl, S3, ?_, ?_⟩
      · intro q hq
        rw [List.take_add_one, hkey] at hq
        rcases List.mem_append.mp hq with hq | hq
        · exact hst q hq
        · simp at hq
          rw [hq]
          exact decide_eq_true ⟨of_decide_eq_true a1, qq a2, of_decide_eq_true a3, qq a4, of_decide_eq_true a5, pp a6⟩
      · rw [List.take_add_one, hkey]
        exact nodup_push hnd hnin
    · rintro σ H2 ⟨z3, z4, rfl, s2, hst, hnd⟩
      rw [List.take_of_length_le (by rw [refs_len, keys_len]; exact Nat.le_refl _)] at hst hnd
      have e : isSky n (keys ks) [r, b, g, li] = true := by
        unfold isSky
        rw [decide_eq_true hn, List.all_eq_true.mpr hst, decide_eq_true hnd, hcam, show decide ((keys ks).length ≤ 20) = true from decide_eq_true (by rw [keys_len]; exact h20)]
        rfl
      have z := k H2 s2
      rw [e] at z
      exact z

theorem ok__law_broken (T : Txt P K mg a) : FnOk P w K mg base CX0 1 a.f__law_broken a.fd__law_broken ["side", "stars", "camera", "numbers", "at"] (spBroken K) := by
  refine T.F__law_broken.ok sc__law_broken (fun vs H Q E h => ?_) (fun cdv A outer s H vs Q E hr h => ?_)
  · obtain ⟨n, l, c, p1, at', ks, cam, ns, rfl, _⟩ := h
    rfl
  · obtain ⟨n, l, c, p1, at', ks, cam, ns, rfl, hl, ht, hc, hk, hcam, hL, hN, ha, hlen, k⟩ := h
    refine ⟨_, (pss_cons (ps_set (i := 5) sc__law_broken.nd rfl (.inl rfl) (pe_op op_mod (pe_callTy call_int1 (by rfl) T.z_int (by decide +kernel) (pa_cons (pe_ix ix_seq (pv 3) (pv 4) (fun _ _ => rfl)) pa_nil)) pe_int))
      (pss_cons (ps_set (i := 6) sc__law_broken.nd rfl (.inl rfl) (pe_callTy call_int1 (by rfl) T.z_int (by decide +kernel) (pa_cons (pe_ix ix_seq (pv 3) (pe_op op_add (pv 4) pe_int) (fun _ _ => rfl)) pa_nil)))
      (pss_cons (ps_set (i := 7) sc__law_broken.nd rfl (.inl rfl) (pe_op op_mod (pv 6) (pe_op op_add (pe_callB call_len_seq (by rfl) T.z_len (by decide +kernel) (pa_cons (pv 1) pa_nil)) pe_int)))
      (pss_cons (ps_if (pt_cmpR op_lt (pv 5) pe_int (nomark _)) (pss_one (ps_ret (pe_tupM (pa_cons (pv 0) (pa_cons (pv 1) (pa_cons (pe_op op_catAM (pe_op op_catAM (pe_slice sl_tupAM (pv 2) po_none (po_some (pv 5))) (pe_tupM (pa_cons (pe_ix ix_seq (pe_lstM (pa_cons (pe_un un_neg pe_int) (pa_cons pe_int (pa_cons pe_int (pa_cons pe_int (pa_cons pe_int (pa_cons pe_int (pa_cons pe_int (pa_cons pe_int pa_nil))))))))) (pe_op op_mod (pv 6) pe_int) (fun _ _ => rfl)) pa_nil))) (pe_slice sl_tupAM (pv 2) (po_some (pe_op op_add (pv 5) pe_int)) po_none)) pa_nil)))))) pss_nil)
      (pss_cons (ps_if (pt_cmpR op_eq (pv 5) pe_int (nomark _)) (pss_one (ps_ret (pe_tupM (pa_cons (pe_ix ix_seq (pe_lstM (pa_cons pe_int (pa_cons pe_int (pa_cons pe_int (pa_cons pe_int (pa_cons pe_int pa_nil)))))) (pe_op op_mod (pv 6) pe_int) (fun _ _ => rfl)) (pa_cons (pv 1) (pa_cons (pv 2) pa_nil)))))) pss_nil)
      (pss_cons (ps_if (pt_cmpR op_eq (pv 5) pe_int (nomark _)) (pss_one (ps_ret (pe_tupM (pa_cons (pv 0) (pa_cons (pv 1) (pa_cons (pe_ix ix_seq (pe_lstM (pa_cons (pe_slice sl_tupAM (pv 2) po_none (po_some pe_int)) (pa_cons (pe_op op_catAM (pv 2) (pe_tupM (pa_cons pe_int pa_nil))) (pa_cons (pv 2) pa_nil)))) (pe_op op_mod (pv 6) pe_int) (fun _ _ => rfl)) pa_nil)))))) pss_nil)
      (C8.pss_cut (ps_set (i := 8) sc__law_broken.nd rfl (.inl rfl) (pe_ix ix_seq (pe_lstM (pa_cons (pe_tupM (pa_cons pe_int (pa_cons pe_int (pa_cons pe_int pa_nil)))) (pa_cons (pe_tupM (pa_cons pe_int (pa_cons pe_int (pa_cons pe_int pa_nil)))) (pa_cons (pe_tupM (pa_cons (pv 0) (pa_cons pe_int (pa_cons pe_int pa_nil)))) (pa_cons (pe_tupM (pa_cons pe_int (pa_cons (pv 0) (pa_cons pe_int pa_nil)))) (pa_cons (pe_tupM (pa_cons (pe_un un_neg pe_int) (pa_cons pe_int (pa_cons pe_int pa_nil)))) (pa_cons (pe_tupM (pa_cons pe_int (pa_cons (pe_un un_neg pe_int) (pa_cons pe_int pa_nil)))) (pa_cons (pe_tupM (pa_cons pe_int (pa_cons pe_int pa_nil))) (pa_cons (pe_tupM (pa_cons pe_int (pa_cons pe_int (pa_cons pe_int (pa_cons pe_int pa_nil))))) (pa_cons (pe_tupM (pa_cons pe_int (pa_cons pe_int (pa_cons pe_int pa_nil)))) pa_nil)))))))))) (pe_op op_mod (pv 6) pe_int) (fun _ _ => rfl)))
      (pss_cons (ps_if (pt_cmpR op_lt (pv 5) pe_int (nomark _)) (pss_one (ps_ret (pe_tupM (pa_cons (pv 0) (pa_cons (pe_op op_catM (pe_op op_catM (pe_slice sl_listM (pv 1) po_none (po_some (pv 7))) (pe_lstM (pa_cons (pv 8) pa_nil))) (pe_slice sl_listM (pv 1) (po_some (pv 7)) po_none)) (pa_cons (pv 2) pa_nil)))))) pss_nil)
      (C8.pss_cut (ps_if (PW.pt (pw_and (pt_cmpR op_eq (pv 5) pe_int (nomark _)) (pw_and1 (pt_cmpR op_gt (pe_callB call_len_seq (by rfl) T.z_len (by decide +kernel) (pa_cons (pv 1) pa_nil)) pe_int (nomark _))))) (pss_one (ps_ret (pe_tupM (pa_cons (pv 0) (pa_cons (pe_op op_catM (pv 1) (pe_lstM (pa_cons (pe_ix ix_seq (pv 1) (pe_op op_mod (pv 7) (pe_callB call_len_seq (by rfl) T.z_len (by decide +kernel) (pa_cons (pv 1) pa_nil))) (fun _ _ => rfl)) pa_nil))) (pa_cons (pv 2) pa_nil)))))) pss_nil)
      (pss_cons (ps_setLc (i := 9) rfl sc__law_broken.nd rfl rfl (sw_true rfl rfl rfl (by decide +kernel)) (g := gName 10) (tt := tYes) (own := [("k", 10)]) (pi_range1 (by rfl) T.z_range (pa_cons (pe_op op_add pe_int (pe_op op_mod (pv 6) pe_int)) pa_nil)) (blkOk_by (own := [("k", 10)]) (N := ["side", "stars", "camera", "numbers", "at", "choice", "number", "place", "star", "many", "k"]) (sc := defScope s__law_broken) (by decide +kernel)) (fun _ _ _ _ _ => (pg_name (i := 10) sc__law_broken.nd rfl (.inl rfl))) (fun _ _ _ _ _ => pts_nil) (fun _ _ _ _ _ => (pe_tup (pa_cons (pe_op op_mod (pv 10) pe_int) (pa_cons (pe_op op_mod (pe_callTy call_int1 (by rfl) T.z_int (by decide +kernel) (pa_cons (pe_op op_fdiv (pv 10) pe_int) pa_nil)) pe_int) (pa_cons (pe_op op_add pe_int (pe_op op_fdiv (pv 10) pe_int)) pa_nil))))))
      (pss_one (ps_ret (pe_tupM (pa_cons (pv 0) (pa_cons (pe_ifExp (pt_cmpR op_eq (pv 5) pe_int (nomark _)) (pv 9) (pv 1)) (pa_cons (pv 2) pa_nil)))))))))))))))), ?_⟩
    obtain ⟨cr, cb, cg, cl, rfl, _⟩ := cam_form hcam
    have hll : SqL K H l (refs ks) := .inl (.inl hl)
    refine ⟨.ref p1, rfl, _, rfl, .inl ⟨p1, _, _, _, rfl, rfl, hL, nthI (by omega) (by omega), .inl ⟨_, rfl, _, _, rfl, rfl, (by show (0 : Int) < 13; decide), ?_⟩⟩⟩
    refine ⟨.ref p1, rfl, _, rfl, _, _, rfl, rfl, .inl ⟨p1, _, _, _, rfl, rfl, hL, nthI (by omega) (by omega), .inl ⟨_, rfl, ?_⟩⟩⟩
    refine ⟨_, rfl, .ref l, rfl, l, _, rfl, .inl hll, _, _, rfl, rfl, _, _, rfl, rfl, (by show (0 : Int) < ((refs ks).length : Nat) + 1; omega), ?_⟩
    have hN1 := num_at hN (at' + 1)
    have hN0 := num_at hN at'
    have hm8 := Int.emod_lt_of_pos (numI ns (at' + 1)) (show (0 : Int) < 8 by decide)
    have hch : 0 ≤ numI ns at' % 13 ∧ numI ns at' % 13 < 13 := ⟨Int.emod_nonneg _ (by decide), Int.emod_lt_of_pos _ (by decide)⟩
    -- if choice < 4
    refine ⟨_, rfl, _, _, rfl, rfl, _, rfl, ite2 (fun h4 => ?_) (fun h4 => ?_)⟩
    · refine ⟨_, rfl, .ref l, rfl, .ref c, rfl, _, rfl, _, rfl, c, _, rfl, hc, fun pa H1 s1 ta => ?_⟩
      refine ⟨_, rfl, (by show 8 ≤ sizeLine; decide), fun l8 H2 s2 _ el8 => ?_⟩
      obtain ⟨z, ez, _⟩ := pickI (zs := [-1, 5, 3, 10, 0, 2, 1, 4]) (j := numI ns (at' + 1) % 8) (P := fun _ => True) (fun _ _ => trivial) (Int.emod_nonneg _ (by decide)) hm8
      refine ⟨_, rfl, _, _, rfl, rfl, (by show (0 : Int) < 8; decide), .inl ⟨l8, _, _, _, rfl, rfl, .inl (.inl el8), ez, (by show 1 ≤ sizeLine; decide), fun pb H3 s3 tb => ?_⟩⟩
      obtain ⟨ys, ey, yl⟩ := cut_ints [cr, cb, cg, cl] none (some (numI ns at' % 13))
      have ta0 : SqT K H1 pa (cutV ([cr, cb, cg, cl].map V.int) none (some (numI ns at' % 13))) := ta
      rw [ey] at ta0
      have tb0 : SqT K H3 pb ([z].map V.int) := tb
      have yl4 : ys.length ≤ 4 := yl
      refine ⟨pa, pb, _, _, rfl, rfl, sqT_up (s2.trans s3) ta0, tb0, sizeL (by rw [List.length_map, List.length_map]; show ys.length + 1 ≤ _; omega), fun pe H4 s4 te => ?_⟩
      rw [ints_app] at te
      have S4 := ((s1.trans s2).trans s3).trans s4
      refine ⟨.ref c, rfl, _, rfl, _, _, rfl, rfl, _, rfl, c, _, rfl, sqT_up S4 hc, fun pd H5 s5 td => ?_⟩
      obtain ⟨zs, ez', zl⟩ := cut_ints [cr, cb, cg, cl] (some (numI ns at' % 13 + 1)) none
      have td0 : SqT K H5 pd (cutV ([cr, cb, cg, cl].map V.int) (some (numI ns at' % 13 + 1)) none) := td
      rw [ez'] at td0
      have zl4 : zs.length ≤ 4 := zl
      refine ⟨pe, pd, _, _, rfl, rfl, sqT_up s5 te, td0, sizeL (by rw [List.length_map, List.length_map, List.length_append]; show ys.length + 1 + zs.length ≤ _; omega), fun pf H6 s6 tf => ?_⟩
      rw [ints_app] at tf
      refine ⟨(by show 3 ≤ sizeLine; decide), fun t H7 s7 tt => ?_⟩
      have S := ((S4.trans s5).trans s6).trans s7
      exact k H7 t l pf n ks _ S tt (S.seq hll) (tups_up S ht) (sqT_up s7 tf) (by omega)
    -- if choice == 4
    refine ⟨_, rfl, rfl, _, rfl, ite2 (fun h5 => ?_) (fun h5 => ?_)⟩
    · refine ⟨(by show 5 ≤ sizeLine; decide), fun l5 H2 s2 _ el5 => ?_⟩
      obtain ⟨z, ez, _⟩ := pickI (zs := [3, 10, 4, 9, 6]) (j := numI ns (at' + 1) % 5) (P := fun _ => True) (fun _ _ => trivial) (Int.emod_nonneg _ (by decide)) (Int.emod_lt_of_pos _ (by decide))
      refine ⟨_, rfl, _, _, rfl, rfl, (by show (0 : Int) < 5; decide), .inl ⟨l5, _, _, _, rfl, rfl, .inl (.inl el5), ez, ?_⟩⟩
      refine ⟨.ref l, rfl, .ref c, rfl, (by show 3 ≤ sizeLine; decide), fun t H7 s7 tt => ?_⟩
      have S := s2.trans s7
      exact k H7 t l c z ks _ S tt (S.seq hll) (tups_up S ht) (sqT_up S hc) (by omega)
    -- if choice == 5
    refine ⟨_, rfl, rfl, _, rfl, ite2 (fun h6 => ?_) (fun h6 => ?_)⟩
    · refine ⟨_, rfl, .ref l, rfl, .ref c, rfl, 3, rfl, c, _, rfl, hc, fun pa H1 s1 ta => ?_⟩
      refine ⟨.ref c, rfl, (by show 1 ≤ sizeLine; decide), fun pb H2 s2 tb => ?_⟩
      have tb0 : SqT K H2 pb ([1].map V.int) := tb
      refine ⟨c, pb, _, _, rfl, rfl, sqT_up (s1.trans s2) hc, tb0, (by show 5 ≤ sizeLine; decide), fun pe H3 s3 te => ?_⟩
      refine ⟨.ref c, rfl, (by show 3 ≤ sizeLine; decide), fun l3 H4 s4 _ el3 => ?_⟩
      obtain ⟨q, zs, eq', tq⟩ : ∃ (q : Addr) (zs : List Int), atI [V.ref pa, V.ref pe, V.ref c] (numI ns (at' + 1) % 3) = some (.ref q) ∧ SqT K H4 q (zs.map V.int) := by
        have hj : numI ns (at' + 1) % 3 = 0 ∨ numI ns (at' + 1) % 3 = 1 ∨ numI ns (at' + 1) % 3 = 2 := by omega
        rcases hj with hj | hj | hj
        · exact ⟨pa, [cr, cb, cg], by rw [hj]; rfl, sqT_up ((s2.trans s3).trans s4) ta⟩
        · exact ⟨pe, [cr, cb, cg, cl, 1], by rw [hj]; rfl, sqT_up s4 te⟩
        · exact ⟨c, [cr, cb, cg, cl], by rw [hj]; rfl, sqT_up (((s1.trans s2).trans s3).trans s4) hc⟩
      refine ⟨_, rfl, _, _, rfl, rfl, (by show (0 : Int) < 3; decide), .inl ⟨l3, _, _, _, rfl, rfl, .inl (.inl el3), eq', ?_⟩⟩
      refine ⟨(by show 3 ≤ sizeLine; decide), fun t H7 s7 tt => ?_⟩
      have S := (((s1.trans s2).trans s3).trans s4).trans s7
      exact k H7 t l q n ks zs S tt (S.seq hll) (tups_up S ht) (sqT_up s7 tq) (by omega)
    -- star
    refine ⟨fun σ H1 => ∃ (q : Addr) (zs : List Int), Same H H1 ∧ SqT K H1 q (zs.map V.int) ∧ σ = [some (.int n), some (.ref l), some (.ref c), some (.ref p1), some (.int at'), some (.int (numI ns at' % 13)), some (.int (numI ns (at' + 1))), some (.int (numI ns (at' + 1) % (((refs ks).length : Nat) + 1))), some (.ref q), none, none], ?_, ?_⟩
    · skip
      refine ⟨(by show 3 ≤ sizeLine; decide), fun q0 G0 g0 t0 => ?_⟩
      refine ⟨(by show 3 ≤ sizeLine; decide), fun q1 G1 g1 t1 => ?_⟩
      refine ⟨_, rfl, (by show 3 ≤ sizeLine; decide), fun q2 G2 g2 t2 => ?_⟩
      refine ⟨_, rfl, (by show 3 ≤ sizeLine; decide), fun q3 G3 g3 t3 => ?_⟩
      refine ⟨_, rfl, (by show 3 ≤ sizeLine; decide), fun q4 G4 g4 t4 => ?_⟩
      refine ⟨_, rfl, (by show 3 ≤ sizeLine; decide), fun q5 G5 g5 t5 => ?_⟩
      refine ⟨(by show 2 ≤ sizeLine; decide), fun q6 G6 g6 t6 => ?_⟩
      refine ⟨(by show 4 ≤ sizeLine; decide), fun q7 G7 g7 t7 => ?_⟩
      refine ⟨(by show 3 ≤ sizeLine; decide), fun q8 G8 g8 t8 => ?_⟩
      refine ⟨(by show 9 ≤ sizeLine; decide), fun ql Gl gl _ el => ?_⟩
      obtain ⟨q, zs, eq', tq⟩ : ∃ (q : Addr) (zs : List Int), atI [V.ref q0, V.ref q1, V.ref q2, V.ref q3, V.ref q4, V.ref q5, V.ref q6, V.ref q7, V.ref q8] (numI ns (at' + 1) % 9) = some (.ref q) ∧ SqT K Gl q (zs.map V.int) := by
        have hj : numI ns (at' + 1) % 9 = 0 ∨ numI ns (at' + 1) % 9 = 1 ∨ numI ns (at' + 1) % 9 = 2 ∨ numI ns (at' + 1) % 9 = 3 ∨ numI ns (at' + 1) % 9 = 4 ∨ numI ns (at' + 1) % 9 = 5 ∨ numI ns (at' + 1) % 9 = 6 ∨ numI ns (at' + 1) % 9 = 7 ∨ numI ns (at' + 1) % 9 = 8 := by omega
        rcases hj with hj | hj | hj | hj | hj | hj | hj | hj | hj
        · exact ⟨q0, [0, 0, 0], by rw [hj]; rfl, sqT_up (g1.trans (g2.trans (g3.trans (g4.trans (g5.trans (g6.trans (g7.trans (g8.trans gl)))))))) t0⟩
        · exact ⟨q1, [0, 0, 10], by rw [hj]; rfl, sqT_up (g2.trans (g3.trans (g4.trans (g5.trans (g6.trans (g7.trans (g8.trans gl))))))) t1⟩
        · exact ⟨q2, [n, 0, 1], by rw [hj]; rfl, sqT_up (g3.trans (g4.trans (g5.trans (g6.trans (g7.trans (g8.trans gl)))))) t2⟩
        · exact ⟨q3, [0, n, 1], by rw [hj]; rfl, sqT_up (g4.trans (g5.trans (g6.trans (g7.trans (g8.trans gl))))) t3⟩
        · exact ⟨q4, [-1, 0, 1], by rw [hj]; rfl, sqT_up (g5.trans (g6.trans (g7.trans (g8.trans gl)))) t4⟩
        · exact ⟨q5, [0, -1, 1], by rw [hj]; rfl, sqT_up (g6.trans (g7.trans (g8.trans gl))) t5⟩
        · exact ⟨q6, [0, 0], by rw [hj]; rfl, sqT_up (g7.trans (g8.trans gl)) t6⟩
        · exact ⟨q7, [0, 0, 1, 1], by rw [hj]; rfl, sqT_up (g8.trans gl) t7⟩
        · exact ⟨q8, [0, 0, 1], by rw [hj]; rfl, sqT_up gl t8⟩
      refine ⟨_, rfl, _, _, rfl, rfl, (by show (0 : Int) < 9; decide), .inl ⟨ql, _, _, _, rfl, rfl, .inl (.inl el), eq', ?_⟩⟩
      exact ⟨q, zs, (g0.trans (g1.trans (g2.trans (g3.trans (g4.trans (g5.trans (g6.trans (g7.trans (g8.trans gl))))))))), tq, rfl⟩
    rintro σ1 H1 ⟨q, zs, s1, tq, rfl⟩
    have hl1 := s1 _ _ hl
    have hll1 := s1.seq hll
    -- if choice < 10
    refine ⟨_, rfl, _, _, rfl, rfl, _, rfl, ite2 (fun h7 => ?_) (fun h7 => ?_)⟩
    · refine ⟨_, rfl, .ref l, rfl, _, rfl, _, rfl, l, refs ks, rfl, hll1, fun la H2 s2 _ ela => ?_⟩
      obtain ⟨k2, e2, m2, n2⟩ := cut_refs ks none (some (numI ns (at' + 1) % (((refs ks).length : Nat) + 1)))
      have ela0 : H2 la = some (.lst (cutV (refs ks) none (some (numI ns (at' + 1) % (((refs ks).length : Nat) + 1))))) := ela
      rw [e2] at ela0
      refine ⟨.ref q, rfl, (by show 1 ≤ sizeLine; decide), fun lb H3 s3 _ elb => ?_⟩
      have elb0 : H3 lb = some (.lst (refs [(q, zs)])) := elb
      refine ⟨la, lb, _, _, rfl, rfl, s3 _ _ ela0, elb0, sizeL (by rw [refs_len, refs_len]; show k2.length + 1 ≤ _; omega), fun lc H4 s4 _ elc => ?_⟩
      rw [refs_app] at elc
      have S4 := ((s1.trans s2).trans s3).trans s4
      refine ⟨.ref l, rfl, _, rfl, _, rfl, l, refs ks, rfl, S4.seq hll, fun ld H5 s5 _ eld => ?_⟩
      obtain ⟨k3, e3, m3, n3⟩ := cut_refs ks (some (numI ns (at' + 1) % (((refs ks).length : Nat) + 1))) none
      have eld0 : H5 ld = some (.lst (cutV (refs ks) (some (numI ns (at' + 1) % (((refs ks).length : Nat) + 1))) none)) := eld
      rw [e3] at eld0
      refine ⟨lc, ld, _, _, rfl, rfl, s5 _ _ elc, eld0, sizeL (by rw [refs_len, refs_len, List.length_append]; show k2.length + 1 + k3.length ≤ _; omega), fun le' H6 s6 _ ele => ?_⟩
      rw [refs_app] at ele
      refine ⟨.ref c, rfl, (by show 3 ≤ sizeLine; decide), fun t H7 s7 tt => ?_⟩
      have S := ((S4.trans s5).trans s6).trans s7
      have hT := tups_up S ht
      have hq7 : SqT K H7 q (zs.map V.int) := sqT_up (((((s2.trans s3).trans s4).trans s5).trans s6).trans s7) tq
      exact k H7 t le' c n (k2 ++ [(q, zs)] ++ k3) _ S tt (.inl (.inl (s7 _ _ ele))) (tups_app (tups_app (fun p hp => hT p (m2 p hp)) (tups_one hq7)) (fun p hp => hT p (m3 p hp))) (sqT_up S hc) (by rw [List.length_append, List.length_append]; show k2.length + 1 + k3.length < _; omega)
    -- if choice == 10 and len(stars) > 0
    refine ⟨fun σ H2 => H1 = H2 ∧ σ = [some (.int n), some (.ref l), some (.ref c), some (.ref p1), some (.int at'), some (.int (numI ns at' % 13)), some (.int (numI ns (at' + 1))), some (.int (numI ns (at' + 1) % (((refs ks).length : Nat) + 1))), some (.ref q), none, none], ?_, ?_⟩
    · refine ⟨_, rfl, rfl, _, rfl, ite2 (fun h8 => ?_) (fun h8 => iteF ⟨rfl, rfl⟩)⟩
      refine ⟨.ref l, rfl, l, _, rfl, .inl hll1, _, _, rfl, rfl, _, rfl, ite2 (fun h9 => ?_) (fun h9 => ⟨rfl, rfl⟩)⟩
      have hpos : (0 : Int) < ((refs ks).length : Nat) := of_decide_eq_true h9
      have hlt := Int.emod_lt_of_pos (numI ns (at' + 1) % (((refs ks).length : Nat) + 1)) hpos
      have hge := Int.emod_nonneg (numI ns (at' + 1) % (((refs ks).length : Nat) + 1)) (show (((refs ks).length : Nat) : Int) ≠ 0 by omega)
      obtain ⟨p, hp, hat⟩ : ∃ p, p ∈ ks ∧ atI (refs ks) (numI ns (at' + 1) % (((refs ks).length : Nat) + 1) % ((refs ks).length : Nat)) = some (.ref p.1) := by
        generalize numI ns (at' + 1) % (((refs ks).length : Nat) + 1) % ((refs ks).length : Nat) = j at hlt hge
        obtain ⟨m, rfl⟩ := Int.eq_ofNat_of_zero_le hge
        rw [refs_len] at hlt
        have hm : m < ks.length := by omega
        refine ⟨ks[m], List.getElem_mem hm, atI_nat ?_⟩
        unfold refs
        rw [List.getElem?_map, List.getElem?_eq_getElem hm]
        rfl
      refine ⟨_, rfl, .ref l, rfl, .ref l, rfl, _, rfl, .ref l, rfl, l, _, rfl, .inl hll1, _, _, rfl, rfl, hpos, .inl ⟨l, _, _, _, rfl, rfl, hll1, hat, ?_⟩⟩
      refine ⟨(by show 1 ≤ sizeLine; decide), fun lb H3 s3 _ elb => ?_⟩
      have elb0 : H3 lb = some (.lst (refs [(p.1, p.2)])) := elb
      refine ⟨l, lb, _, _, rfl, rfl, s3 _ _ hl1, elb0, sizeL (by rw [refs_len, refs_len]; show ks.length + 1 ≤ _; omega), fun lc H4 s4 _ elc => ?_⟩
      rw [refs_app] at elc
      refine ⟨.ref c, rfl, (by show 3 ≤ sizeLine; decide), fun t H7 s7 tt => ?_⟩
      have S := ((s1.trans s3).trans s4).trans s7
      have hT := tups_up S ht
      exact k H7 t lc c n (ks ++ [(p.1, p.2)]) _ S tt (.inl (.inl (s7 _ _ elc))) (tups_app hT (tups_one (hT p hp))) (sqT_up S hc) (by rw [List.length_append]; show ks.length + 1 < _; omega)
    rintro σ2 H2 ⟨rfl, rfl⟩
    -- many
    have hm2 : 0 ≤ numI ns (at' + 1) % 2 ∧ numI ns (at' + 1) % 2 < 2 := by omega
    refine ⟨_, rfl, _, _, rfl, rfl, (by show (0 : Int) < 2; decide), _, _, rfl, rfl, _, rfl, (by show -2 ^ 62 ≤ 20 + numI ns (at' + 1) % 2; omega), (by show 20 + numI ns (at' + 1) % 2 < _; omega), fun D nD => lc_range (lo := 0) (n := (20 + numI ns (at' + 1) % 2).toNat) (fun i H3 => ∃ k2 : Tups, Same H1 H3 ∧ H3 D = some (.lst (refs k2)) ∧ TupsAt K H3 k2 ∧ k2.length = i) ⟨[], same_new nD, upd_same, (fun p hp => by cases hp), rfl⟩ ?_ ?_⟩
    · rintro i H3 hi ⟨k2, s3, e3, t3, l3⟩
      refine ⟨rfl, ?_⟩
      refine ⟨_, rfl, _, _, rfl, rfl, (by show (0 : Int) < 4; decide), ?_⟩
      refine ⟨_, rfl, _, _, rfl, rfl, ⟨by decide, by decide⟩, .inl ⟨_, rfl, _, _, rfl, rfl, (by show (0 : Int) < 4; decide), ?_⟩⟩
      refine ⟨_, rfl, _, _, rfl, rfl, ⟨by decide, by decide⟩, _, _, rfl, rfl, (by show 3 ≤ sizeLine; decide), fun p np => ?_⟩
      have np' : p ≠ D := fun z => by rw [z, e3] at np; cases np
      refine ⟨refs k2, by rw [upd_ne (Ne.symm np')]; exact e3, sizeN (by rw [refs_len]; omega), k2 ++ [(p, [(0 + (i : Nat) : Int) % 4, (0 + (i : Nat) : Int) / 4 % 4, 1 + (0 + (i : Nat) : Int) / 16])], ?_, by rw [upd_same, ← refs_push], ?_, by rw [List.length_append, l3]; rfl⟩
      · exact same_put nD (s3.trans (same_new np))
      · have sp : Same H3 (upd H3 p (.tup [V.int ((0 + (i : Nat) : Int) % 4), V.int ((0 + (i : Nat) : Int) / 4 % 4), V.int (1 + (0 + (i : Nat) : Int) / 16)])) := same_new np
        have eD := sp _ _ e3
        exact tups_app (fun q hq => sqT_lst eD (sqT_up sp (t3 q hq))) (tups_one (sqT_lst eD (.inl (.inl upd_same))))
    · rintro H3 ⟨k2, s3, e3, t3, l3⟩
      refine ⟨_, rfl, _, rfl, rfl, _, rfl, ite2 (fun h8 => ?_) (fun h8 => ?_)⟩
      · refine ⟨.ref D, rfl, .ref c, rfl, (by show 3 ≤ sizeLine; decide), fun t H7 s7 tt => ?_⟩
        exact k H7 t D c n k2 _ ((s1.trans s3).trans s7) tt (.inl (.inl (s7 _ _ e3))) (tups_up s7 t3) (sqT_up ((s1.trans s3).trans s7) hc) (by omega)
      · refine ⟨.ref l, rfl, .ref c, rfl, (by show 3 ≤ sizeLine; decide), fun t H7 s7 tt => ?_⟩
        have S := (s1.trans s3).trans s7
        exact k H7 t l c n ks _ S tt (S.seq hll) (tups_up S ht) (sqT_up S hc) (by omega)

theorem ok__law_told (T : Txt P K mg a) : FnOk P w K mg base CX0 5 a.f__law_told a.fd__law_told ["side", "stars", "camera"] (spToldS K) := by
  refine T.F__law_told.ok sc__law_told (fun vs H Q E h => ?_) (fun cdv A outer s H vs Q E hr h => ?_)
  · obtain ⟨n, l, c, ks, cam, rfl, _⟩ := h
    rfl
  · obtain ⟨n, l, c, ks, cam, rfl, hl, ht, hc, hk, k0, k1⟩ := h
    refine ⟨_, (C8.pss_cut (ps_try_only1 (tb := fun W => (tAsg (tMake a.c_Sky (spInit K a.c_Sky a.c_InvalidSky) [] (fun cls d H => ∀ σ, W cls d σ H) (tCons (tVar 0) (tCons (tVar 1) (tCons (tVar 2) tNil)))) (gName 3))) (ts := (fun ea cls d => (tRet (tC .non)))) (Wout := fun _ _ _ _ => False) rfl rfl ⟨rfl, by decide, Or.inl T.E_InvalidSky.g⟩ takes0 (fun W pn xe tk _ => (pss_one (ps_set (i := 3) sc__law_told.nd rfl (.inl rfl) (pe_make (E := fun cls d H => ∀ σ, W cls d σ H) T.M_Sky (ok_Skyx_initx T) (hr.mono (by decide)) (by rfl) T.m_Sky T.b_Skyx_initx .nil (passes_call tk (fun _ _ _ _ h => h _)) (by exact (pa_cons (pv 0) (pa_cons (pv 1) (pa_cons (pv 2) pa_nil)))))))) (fun ea oe cls d pn hz hf => (pss_one (ps_ret pe_non))))
      (pss_one (ps_ret (pe_tupM (pa_cons (pe_prop (pv 3) T.cl_Sky T.p_Sky_side (ok_Sky_side T) (hr.mono (by decide)) T.b_Sky_side .nil pass0 rfl) (pa_cons (pe_prop (pv 3) T.cl_Sky T.p_Sky_stars (ok_Sky_stars T) (hr.mono (by decide)) T.b_Sky_stars .nil pass0 rfl) (pa_cons (pe_prop (pv 3) T.cl_Sky T.p_Sky_camera (ok_Sky_camera T) (hr.mono (by decide)) T.b_Sky_camera .nil pass0 rfl) (pa_cons (pe_tupM (pa_cons (pe_prop (pv 3) T.cl_Sky T.p_Sky_reach (ok_Sky_reach T) (hr.mono (by decide)) T.b_Sky_reach .nil pass0 rfl) (pa_cons (pe_prop (pv 3) T.cl_Sky T.p_Sky_blur (ok_Sky_blur T) (hr.mono (by decide)) T.b_Sky_blur .nil pass0 rfl) (pa_cons (pe_prop (pv 3) T.cl_Sky T.p_Sky_glare (ok_Sky_glare T) (hr.mono (by decide)) T.b_Sky_glare .nil pass0 rfl) (pa_cons (pe_prop (pv 3) T.cl_Sky T.p_Sky_limit (ok_Sky_limit T) (hr.mono (by decide)) T.b_Sky_limit .nil pass0 rfl) pa_nil))))) pa_nil)))))))), ?_⟩
    refine ⟨fun σ H1 => ∃ (x : Addr) (ks' : Tups), σ = [some (.int n), some (.ref l), some (.ref c), some (.ref x)] ∧ isSky n (keys ks) cam = true ∧ Same H H1 ∧ SkyS K a.c_Sky H1 x n ks' cam ∧ ks'.Perm ks ∧ Asc 10 (keys ks'), ?_, ?_⟩
    · refine ⟨_, rfl, .ref l, rfl, .ref c, rfl, fun x dx nx ndx nex => ?_⟩
      have s4 : Same H (upd (upd H dx (.own x)) x (.ins a.c_Sky dx [])) := fun q o e => by
        rw [upd_ne (ne_of_none e nx), upd_ne (ne_of_none e ndx)]
        exact e
      refine ⟨x, dx, n, l, c, ks, cam, rfl, upd_same, s4.seq hl, tups_up s4 ht, sqT_up s4 hc, hk, fun hsky H1 ks' hK hperm hasc kp => ?_, fun hbad H1 s1 σ => ?_⟩
      · exact ⟨rfl, x, ks', rfl, hsky, fun b o e => kp _ _ (s4 _ _ e) (ne_of_none e nx), hK, hperm, hasc⟩
      · exact ⟨true, T.E_InvalidSky_te, fun _ a' ha => k0 hbad _ (s4.trans s1), fun z => Bool.noConfusion z⟩
    · rintro σ H1 ⟨x, ks', rfl, hsky, s1, ⟨hK, ht'⟩, hperm, hasc⟩
      obtain ⟨dx, ts, tc, h1, h2, h3⟩ := id hK
      obtain ⟨r, b, g, li, rfl, _⟩ := cam_form (sky_parts hsky).2.2.2.2
      refine ⟨.ref x, rfl, x, dx, _, rfl, h1, x, n, _, _, rfl, hK, ?_⟩
      refine ⟨.ref x, rfl, x, dx, _, rfl, h1, x, n, _, _, rfl, hK, fun ts' hts => ?_⟩
      refine ⟨.ref x, rfl, x, dx, _, rfl, h1, x, n, _, _, rfl, hK, fun tc' htc => ?_⟩
      refine ⟨.ref x, rfl, x, dx, _, rfl, h1, x, n, _, _, r, rfl, hK, rfl, ?_⟩
      refine ⟨.ref x, rfl, x, dx, _, rfl, h1, x, n, _, _, b, rfl, hK, rfl, ?_⟩
      refine ⟨.ref x, rfl, x, dx, _, rfl, h1, x, n, _, _, g, rfl, hK, rfl, ?_⟩
      refine ⟨.ref x, rfl, x, dx, _, rfl, h1, x, n, _, _, li, rfl, hK, rfl, ?_⟩
      refine ⟨(by show 4 ≤ sizeLine; decide), fun t4 H2 s2 tt4 => ⟨(by show 4 ≤ sizeLine; decide), fun t H3 s3 tt => ?_⟩⟩
      have S := s2.trans s3
      exact k1 hsky H3 t ks' (s1.trans S) hperm hasc (dp_t tt (.cons (.int _) (.cons (dp_tup_tups (sqT_up S hts) (tups_up S ht')) (.cons (dp_ti (sqT_up S htc)) (.cons (dp_ti (ns := [r, b, g, li]) (sqT_up s3 tt4)) .nil)))))

theorem ok_law (T : Txt P K mg a) : FnOk P w K mg base CX0 6 a.f_law a.fd_law ["script"] (spLaw K) := by
  refine T.F_law.ok sc_law (fun vs H Q E h => ?_) (fun cdv A outer s H vs Q E hr h => ?_)
  · obtain ⟨b, xs, rfl, _⟩ := h
    rfl
  · obtain ⟨b, xs, rfl, hS, hx, k⟩ := h
    refine ⟨_, (pss_cons (ps_set (i := 1) sc_law.nd rfl (.inl rfl) (pe_call (ok__law_numbers T) (hr.mono (by decide)) (by rfl) T.m__law_numbers T.F__law_numbers.kp T.b__law_numbers .nil pass0 (pa_cons (pv 0) (pa_cons pe_int pa_nil))))
      (pss_cons (ps_asg (pe_call (ok__law_parts T) (hr.mono (by decide)) (by rfl) T.m__law_parts T.F__law_parts.kp T.b__law_parts .nil pass0 (pa_cons (pv 1) (pa_cons pe_int (pa_cons pe_int pa_nil)))) (pg_tup rfl (pgs_cons (pg_name (i := 2) sc_law.nd rfl (.inl rfl)) (pgs_cons (pg_name (i := 3) sc_law.nd rfl (.inl rfl)) (pgs_cons (pg_name (i := 4) sc_law.nd rfl (.inl rfl)) pgs_nil)))))
      (C8.pss_cut (ps_set (i := 3) sc_law.nd rfl (.inl rfl) (pe_ifExp (pt_cmpR op_eq (pe_op op_mod (pe_callTy call_int1 (by rfl) T.z_int (by decide +kernel) (pa_cons (pe_ix ix_seq (pv 1) pe_int (fun _ _ => rfl)) pa_nil)) pe_int) pe_int (nomark _)) (pe_revL (pv 3)) (pe_op op_catM (pe_slice sl_listM (pv 3) (po_some pe_int) po_none) (pe_slice sl_listM (pv 3) po_none (po_some pe_int)))))
      (pss_cons (ps_for PassesOwn.never rfl (pi_list (pe_lstM (pa_cons (pe_tupM (pa_cons (pv 2) (pa_cons (pv 3) (pa_cons (pv 4) pa_nil)))) (pa_cons (pe_call (ok__law_broken T) (hr.mono (by decide)) (by rfl) T.m__law_broken T.F__law_broken.kp T.b__law_broken .nil pass0 (pa_cons (pv 2) (pa_cons (pv 3) (pa_cons (pv 4) (pa_cons (pv 1) (pa_cons pe_int pa_nil)))))) (pa_cons (pe_call (ok__law_broken T) (hr.mono (by decide)) (by rfl) T.m__law_broken T.F__law_broken.kp T.b__law_broken .nil pass0 (pa_cons (pv 2) (pa_cons (pv 3) (pa_cons (pv 4) (pa_cons (pv 1) (pa_cons pe_int pa_nil)))))) pa_nil))))) (pg_name (i := 5) sc_law.nd rfl (.inl rfl)) (pss_cons (ps_set (i := 6) sc_law.nd rfl (.inl rfl) (pe_callTy call_list_of (by rfl) T.z_list (by decide +kernel) (pa_cons (pe_ix ix_seq (pv 5) pe_int (fun _ _ => rfl)) pa_nil)))
      (C8.pss_cut (ps_set (i := 7) sc_law.nd rfl (.inl rfl) (pe_call (ok__law_told T) (hr.mono (by decide)) (by rfl) T.m__law_told T.F__law_told.kp T.b__law_told .nil pass0 (pa_cons (pe_ix ix_seq (pv 5) pe_int (fun _ _ => rfl)) (pa_cons (pv 6) (pa_cons (pe_ix ix_seq (pv 5) pe_int (fun _ _ => rfl)) pa_nil)))))
      (pss_cons (ps_if (pt_cmpR (op_neD hr.units) (pv 6) (pe_ix ix_seq (pv 5) pe_int (fun _ _ => rfl)) (nomark _)) (pss_one (ps_ret pe_bl)) pss_nil)
      (pss_one (ps_if (pt_not (pt_val (pe_call (ok__law_is_sky T) (hr.mono (by decide)) (by rfl) T.m__law_is_sky T.F__law_is_sky.kp T.b__law_is_sky .nil pass0 (pa_cons (pe_ix ix_seq (pv 5) pe_int (fun _ _ => rfl)) (pa_cons (pe_ix ix_seq (pv 5) pe_int (fun _ _ => rfl)) (pa_cons (pe_ix ix_seq (pv 5) pe_int (fun _ _ => rfl)) pa_nil)))))) (pss_one (ps_if (pt_cmpR op_notN (pv 7) pe_non (nomark _)) (pss_one (ps_ret pe_bl)) pss_nil)) (pss_one (ps_if (pt_cmpR (op_neD hr.units) (pv 7) (pe_tupM (pa_cons (pe_ix ix_seq (pv 5) pe_int (fun _ _ => rfl)) (pa_cons (pe_callTy call_tuple_of (by rfl) T.z_tuple (by decide +kernel) (pa_cons (pe_callB (cr_sortM (d := 3) (B := 10) (by decide)) (by rfl) T.z_sorted (by decide +kernel) (pa_cons (pe_ix ix_seq (pv 5) pe_int (fun _ _ => rfl)) pa_nil)) pa_nil)) (pa_cons (pe_ix ix_seq (pv 5) pe_int (fun _ _ => rfl)) (pa_cons (pe_ix ix_seq (pv 5) pe_int (fun _ _ => rfl)) pa_nil))))) (nomark _)) (pss_one (ps_ret pe_bl)) pss_nil))))))))
      (pss_cons (ps_set (i := 6) sc_law.nd rfl (.inl rfl) (pe_callTy call_list_of (by rfl) T.z_list (by decide +kernel) (pa_cons (pv 3) pa_nil)))
      (pss_cons (ps_set (i := 8) sc_law.nd rfl (.inl rfl) (pe_make T.M_Sky (ok_Skyx_initx T) (hr.mono (by decide)) (by rfl) T.m_Sky T.b_Skyx_initx .nil passL (pa_cons (pv 2) (pa_cons (pv 6) (pa_cons (pv 4) pa_nil)))))
      (pss_cons (ps_expr (pe_bm PySem.F.plainAttrs_list PySem.F.slot_list_append PySem.F.type_list_append mt_append (pv 6) (pa_cons (pe_tupM (pa_cons pe_int (pa_cons pe_int (pa_cons pe_int pa_nil)))) pa_nil)))
      (pss_one (ps_ret (pe_and (pe_cmpR (op_eqD hr.units) (pe_prop (pv 8) T.cl_Sky T.p_Sky_stars (ok_Sky_stars T) (hr.mono (by decide)) T.b_Sky_stars .nil pass0 rfl) (pe_callTy call_tuple_of (by rfl) T.z_tuple (by decide +kernel) (pa_cons (pe_callB (cr_sortM (d := 3) (B := 10) (by decide)) (by rfl) T.z_sorted (by decide +kernel) (pa_cons (pv 3) pa_nil)) pa_nil)) (nomark _)) (pe_and (pe_callB call_isi (by rfl) T.z_isinstance (by decide +kernel) (pa_cons (pe_prop (pv 8) T.cl_Sky T.p_Sky_stars (ok_Sky_stars T) (hr.mono (by decide)) T.b_Sky_stars .nil pass0 rfl) (pa_cons (pe_bltn (v := .ty "tuple") (by rfl) T.z_tuple (by decide +kernel) rfl) pa_nil))) (pe_one (pe_callB call_isi (by rfl) T.z_isinstance (by decide +kernel) (pa_cons (pe_prop (pv 8) T.cl_Sky T.p_Sky_camera (ok_Sky_camera T) (hr.mono (by decide)) T.b_Sky_camera .nil pass0 rfl) (pa_cons (pe_bltn (v := .ty "tuple") (by rfl) T.z_tuple (by decide +kernel) rfl) pa_nil))))))))))))))), ?_⟩
    refine ⟨.ref b, rfl, b, xs, 60, rfl, hS, hx, by decide, by decide, fun H1 p1 ns s1 np1 e1 hlen hN => ?_⟩
    have hL1 : SqL K H1 p1 (ns.map V.int) := .inl (.inl e1)
    refine ⟨.ref p1, rfl, p1, ns, 0, 6, rfl, hL1, hN, by decide, by decide, by decide, by omega, fun H2 t l c n ks cam s2 tt nl el tks tc hsky hlen6 hasc => ?_⟩
    refine ⟨t, _, rfl, tt, rfl, _, _, rfl, _, _, rfl, _, _, rfl, rfl, ?_⟩
    have hL2 := s2.seq hL1
    obtain ⟨⟨h4, h9⟩, hstars, hnd, h20, hcam⟩ := sky_parts hsky
    -- stars, in another sequence
    refine ⟨fun σ H3 => ∃ (l2 : Addr) (ks2 : Tups), Same H2 H3 ∧ H3 l2 = some (.lst (refs ks2)) ∧ ks2.Perm ks ∧ σ = [some (.ref b), some (.ref p1), some (.int n), some (.ref l2), some (.ref c), none, none, none, none], ?_, ?_⟩
    · refine ⟨.ref p1, rfl, .inl ⟨p1, _, _, _, rfl, rfl, hL2, nthI (by omega) (by omega), .inl ⟨_, rfl, _, _, rfl, rfl, (by show (0 : Int) < 2; decide), rfl, _, rfl, ite2 (fun hg => ?_) (fun hg => ?_)⟩⟩⟩
      · refine ⟨.ref l, rfl, l, refs ks, rfl, .inl (.inl el), fun q nq => ⟨q, ks.reverse, same_new nq, ?_, List.reverse_perm ks, rfl⟩⟩
        rw [upd_same]
        unfold refs
        rw [List.map_reverse]
      · refine ⟨.ref l, rfl, 1, rfl, l, _, rfl, .inl (.inl el), fun la Ha sa _ ela => ?_⟩
        have ela0 : Ha la = some (.lst (refs (ks.drop 1))) := by
          rw [ela]
          show some (HO.lst (cutV (refs ks) (some ((1 : Nat) : Int)) none)) = _
          rw [cut_from]
          unfold refs
          rw [List.map_drop]
        refine ⟨.ref l, rfl, 1, rfl, l, _, rfl, .inl (.inl (sa _ _ el)), fun lb Hb sb _ elb => ?_⟩
        have elb0 : Hb lb = some (.lst (refs (ks.take 1))) := by
          rw [elb]
          show some (HO.lst (cutV (refs ks) none (some ((1 : Nat) : Int)))) = _
          rw [cut_to]
          unfold refs
          rw [List.map_take]
        refine ⟨la, lb, _, _, rfl, rfl, sb _ _ ela0, elb0, sizeL (by rw [refs_len, refs_len, List.length_drop, List.length_take]; omega), fun lc Hc sc _ elc => ?_⟩
        rw [refs_app] at elc
        exact ⟨lc, _, (sa.trans sb).trans sc, elc, List.perm_append_comm.trans (by rw [List.take_append_drop]), rfl⟩
    rintro σ3 H3 ⟨l2, ks2, s3, el2, hperm2, rfl⟩
    have t2 : TupsAt K H3 ks2 := fun p hp => sqT_up s3 (tks p (hperm2.mem_iff.mp hp))
    have hL3 := s3.seq hL2
    have tc3 := sqT_up s3 tc
    have hl6 : ks2.length ≤ 6 := by have := hperm2.length_eq; omega
    have hll3 : SqL K H3 l2 (refs ks2) := .inl (.inl el2)
    have hsky2 : isSky n (keys ks2) cam = true := by rw [isSky_perm (kk := keys ks2) (mm := keys ks) (hperm2.map _)]; exact hsky
    refine ⟨_, rfl, .ref l2, rfl, .ref c, rfl, (by show 3 ≤ sizeLine; decide), fun t1 H4 s4 tt1 => ?_⟩
    refine ⟨_, rfl, .ref l2, rfl, .ref c, rfl, .ref p1, rfl, n, l2, c, p1, 30, ks2, cam, ns, rfl, s4 _ _ el2, tups_up s4 t2, sqT_up s4 tc3, hl6, hcam, s4.seq hL3, hN, by decide, by omega, fun H5 t5 l5 c5 n5 ks5 cam5 s5 tt5 hl5 ht5 hc5 hk5 => ?_⟩
    have S5 := s4.trans s5
    refine ⟨_, rfl, .ref l2, rfl, .ref c, rfl, .ref p1, rfl, n, l2, c, p1, 33, ks2, cam, ns, rfl, S5 _ _ el2, tups_up S5 t2, sqT_up S5 tc3, hl6, hcam, S5.seq hL3, hN, by decide, by omega, fun H6 t6 l6 c6 n6 ks6 cam6 s6 tt6 hl6' ht6 hc6 hk6 => ?_⟩
    have S6 := S5.trans s6
    refine ⟨(by show 3 ≤ sizeLine; decide), fun lx H7 s7 _ elx => ?_⟩
    have S7 := S6.trans s7
    have all : ∀ y ∈ [V.ref t1, V.ref t5, V.ref t6], ∃ (t : Addr) (n' : Int) (l' c' : Addr) (ks' : Tups) (cam' : List Int), y = V.ref t ∧ SqT K H7 t [.int n', .ref l', .ref c'] ∧ SqL K H7 l' (refs ks') ∧ TupsAt K H7 ks' ∧ SqT K H7 c' (cam'.map V.int) ∧ ks'.length < 64 := by
      intro y hy
      simp only [List.mem_cons, List.not_mem_nil, or_false] at hy
      rcases hy with rfl | rfl | rfl
      · exact ⟨t1, n, l2, c, ks2, cam, rfl, sqT_up ((s5.trans s6).trans s7) tt1, S7.seq hll3, tups_up S7 t2, sqT_up S7 tc3, by omega⟩
      · exact ⟨t5, n5, l5, c5, ks5, cam5, rfl, sqT_up (s6.trans s7) tt5, (s6.trans s7).seq hl5, tups_up (s6.trans s7) ht5, sqT_up (s6.trans s7) hc5, hk5⟩
      · exact ⟨t6, n6, l6, c6, ks6, cam6, rfl, sqT_up s7 tt6, s7.seq hl6', tups_up s7 ht6, sqT_up s7 hc6, hk6⟩
    refine ⟨lx, rfl, ⟨_, .inl (.inl elx)⟩, for_list (K := K) (a := lx) (xs := _) (fun i σ H8 => ∃ z5 z6 z7 : Option V, σ = [some (.ref b), some (.ref p1), some (.int n), some (.ref l2), some (.ref c), z5, z6, z7, none] ∧ Same H7 H8) ⟨_, _, _, rfl, Same.refl _⟩ (fun i σ H8 _ ⟨_, _, _, _, s8⟩ => .inl (.inl (s8 _ _ elx))) ?_ ?_⟩
    · rintro i y σ H8 hi ⟨z5, z6, z7, rfl, s8⟩
      obtain ⟨t', n', l', c', ks', cam', rfl, tt', hl', ht', hc', hk'⟩ := all y (List.mem_of_getElem? hi)
      have tt8 := sqT_up s8 tt'
      have hl8 := s8.seq hl'
      have ht8 := tups_up s8 ht'
      have hc8 := sqT_up s8 hc'
      refine ⟨.ref t', rfl, .inr (.inl ⟨t', _, 1, .ref l', rfl, rfl, tt8, rfl, l', _, rfl, .inl hl8, fun lh nlh => ?_⟩)⟩
      have s9 : Same H8 (upd H8 lh (.lst (refs ks'))) := same_new nlh
      have elh : (upd H8 lh (.lst (refs ks'))) lh = some (.lst (refs ks')) := upd_same
      generalize upd H8 lh (.lst (refs ks')) = H9 at s9 elh ⊢
      have tt9 := sqT_up s9 tt8
      have hl9 := s9.seq hl8
      have ht9 := tups_up s9 ht8
      have hc9 := sqT_up s9 hc8
      -- told
      refine ⟨fun σ H10 => ∃ v : V, Same H9 H10 ∧ σ = [some (.ref b), some (.ref p1), some (.int n), some (.ref l2), some (.ref c), some (.ref t'), some (.ref lh), some v, none] ∧ ((isSky n' (keys ks') cam' = false ∧ v = .non) ∨ (isSky n' (keys ks') cam' = true ∧ ∃ (tq : Addr) (kq : Tups), v = .ref tq ∧ kq.Perm ks' ∧ Asc 10 (keys kq) ∧ Dp K H10 (.ref tq) (skyD n' (keys kq) cam'))), ?_, ?_⟩
      · refine ⟨.ref t', rfl, .inr (.inl ⟨t', _, 0, .int n', rfl, rfl, tt9, rfl, .ref lh, rfl, .ref t', rfl, .inr (.inl ⟨t', _, 2, .ref c', rfl, rfl, tt9, rfl, ?_⟩)⟩)⟩
        refine ⟨n', lh, c', ks', cam', rfl, .inl (.inl elh), ht9, hc9, hk', fun hbad H10 s10 => ?_, fun hok H10 tq kq s10 hp hasc' dq => ?_⟩
        · exact ⟨.non, s10, rfl, .inl ⟨hbad, rfl⟩⟩
        · exact ⟨.ref tq, s10, rfl, .inr ⟨hok, tq, kq, rfl, hp, hasc', dq⟩⟩
      rintro σ10 H10 ⟨v, s10, rfl, hv⟩
      have tt10 := sqT_up s10 tt9
      have hl10 := s10.seq hl9
      have ht10 := tups_up s10 ht9
      have hc10 := sqT_up s10 hc9
      -- handed != one[1]
      refine ⟨.ref lh, rfl, .ref t', rfl, .inr (.inl ⟨t', _, 1, .ref l', rfl, rfl, tt10, rfl, ?_⟩)⟩
      refine ne_same (lay_tups (keys ks')) (by decide) (dp_l (s10 _ _ elh) (dp_tups ht10)) (.lst hl10 (dp_tups ht10)) ⟨_, rfl, iteF ?_⟩
      refine ⟨.ref t', rfl, .inr (.inl ⟨t', _, 0, .int n', rfl, rfl, tt10, rfl, .ref t', rfl, .inr (.inl ⟨t', _, 1, .ref l', rfl, rfl, tt10, rfl, .ref t', rfl, .inr (.inl ⟨t', _, 2, .ref c', rfl, rfl, tt10, rfl, ?_⟩)⟩)⟩)⟩
      refine ⟨n', l', c', ks', cam', rfl, hl10, ht10, hc10, hk', fun H11 s11 => ⟨_, rfl, ?_⟩⟩
      rcases hv with ⟨hbad, rfl⟩ | ⟨hok, tq, kq, rfl, hp, hasc', dq⟩
      · rw [hbad]
        exact iteT ⟨_, rfl, rfl, _, rfl, iteF ⟨_, _, _, rfl, ((s9.trans s10).trans s11 |> s8.trans)⟩⟩
      · rw [hok]
        obtain ⟨⟨g4, g9⟩, gstars, _, _, _⟩ := sky_parts hok
        have S11 := s10.trans s11
        have tt11 := sqT_up S11 tt9
        have hl11 := S11.seq hl9
        have ht11 := tups_up S11 ht9
        have hc11 := sqT_up S11 hc9
        refine iteF ⟨.ref tq, rfl, .ref t', rfl, .inr (.inl ⟨t', _, 0, .int n', rfl, rfl, tt11, rfl, .ref t', rfl, .inr (.inl ⟨t', _, 1, .ref l', rfl, rfl, tt11, rfl, ?_⟩)⟩)⟩
        refine ⟨l', ks', rfl, hl11, ht11, hk', stars_fit gstars g9, fun ps kz H12 s12 np12 e12 hpz hascz => ?_⟩
        refine ⟨ps, _, rfl, .inl ⟨.inl (.inl e12), fun pt npt => ?_⟩⟩
        have s13 : Same H12 (upd H12 pt (.tup (refs kz))) := same_new npt
        have tp13 : SqT K (upd H12 pt (.tup (refs kz))) pt (refs kz) := .inl (.inl upd_same)
        generalize upd H12 pt (.tup (refs kz)) = H13 at s13 tp13 ⊢
        have S13 := s12.trans s13
        refine ⟨.ref t', rfl, .inr (.inl ⟨t', _, 2, .ref c', rfl, rfl, sqT_up S13 tt11, rfl, .ref t', rfl, .inr (.inl ⟨t', _, 2, .ref c', rfl, rfl, sqT_up S13 tt11, rfl, ?_⟩)⟩)⟩
        refine ⟨(by show 4 ≤ sizeLine; decide), fun pz H14 s14 tz => ?_⟩
        have S14 := S13.trans s14
        have hkk : keys kz = keys kq := asc_unique hascz hasc' ((hpz.map _).trans (hp.map _).symm) (fun x hx => stars_fit gstars g9 x ((hpz.map _).mem_iff.mp hx))
        have hkz : TupsAt K H14 kz := fun p hp' => sqT_up S14 (ht11 p (hpz.mem_iff.mp hp'))
        have hc14 := sqT_up S14 hc11
        have dz : Dp K H14 (.ref pz) (skyD n' (keys kq) cam') := by
          rw [← hkk]
          exact dp_t tz (.cons (.int _) (.cons (dp_tup_tups (sqT_up s14 tp13) hkz) (.cons (dp_ti hc14) (.cons (dp_ti hc14) .nil))))
        refine ne_same (lay_sky n' (keys kq) cam') (by decide) (dp_up (s11.trans S14) dq) dz ⟨_, rfl, iteF ?_⟩
        exact ⟨_, _, _, rfl, s8.trans (s9.trans (S11.trans S14))⟩
    · rintro σ H8 ⟨z5, z6, z7, rfl, s8⟩
      -- a list that is changed behind the making changes nothing
      have SA := S7.trans s8
      have el8 := SA _ _ el2
      have t8 := tups_up SA t2
      refine ⟨.ref l2, rfl, l2, _, rfl, .inl (.inl (.inl el8)), fun lh nlh => ?_⟩
      have s9 : Same H8 (upd H8 lh (.lst (refs ks2))) := same_new nlh
      have elh : (upd H8 lh (.lst (refs ks2))) lh = some (.lst (refs ks2)) := upd_same
      have nl2 : l2 ≠ lh := ne_of_none el8 nlh
      generalize upd H8 lh (.lst (refs ks2)) = H9 at s9 elh ⊢
      refine ⟨_, rfl, .ref lh, rfl, .ref c, rfl, fun x dx nx ndx nex => ?_⟩
      have s10 : Same H9 (upd (upd H9 dx (.own x)) x (.ins a.c_Sky dx [])) := fun q o e => by
        rw [upd_ne (ne_of_none e nx), upd_ne (ne_of_none e ndx)]
        exact e
      refine ⟨x, dx, n, lh, c, ks2, cam, rfl, upd_same, .inl (.inl (s10 _ _ elh)), tups_up (s9.trans s10) t8, sqT_up (SA.trans (s9.trans s10)) tc3, by omega, fun _ H11 ks9 hK hp9 hasc9 kp => ⟨rfl, ?_⟩, fun hbad => by rw [hsky2] at hbad; cases hbad⟩
      have S11 : Same H9 H11 := fun b o e => kp _ _ (s10 _ _ e) (ne_of_none e nx)
      have elh11 := S11 _ _ elh
      have el11 := S11 _ _ (s9 _ _ el8)
      refine ⟨.ref lh, rfl, .inl ⟨rfl, _, .inl (.inl elh11)⟩, (by show 3 ≤ sizeLine; decide), fun pt H12 s12 tp12 => ?_⟩
      have elh12 := s12 _ _ elh11
      refine ⟨lh, _, _, rfl, rfl, elh12, sizeN (by rw [refs_len]; omega), ?_⟩
      have hK12 := skyS_up s12 hK
      have t12 : TupsAt K H12 ks2 := tups_up ((s9.trans S11).trans s12) t8
      generalize e13 : upd H12 lh (.lst (refs ks2 ++ [.ref pt])) = H13
      have hK13 : SkyS K a.c_Sky H13 x n ks9 cam := by
        obtain ⟨⟨dx', ts', tc', q1, q2, q3⟩, q4⟩ := hK12
        rw [← e13]
        exact ⟨⟨dx', ts', tc', by rw [upd_ne (fun z => by rw [z, elh12] at q1; cases q1)]; exact q1, sqT_lst elh12 q2, sqT_lst elh12 q3⟩, tups_put elh12 q4⟩
      have t13 : TupsAt K H13 ks2 := by rw [← e13]; exact tups_put elh12 t12
      have el13 : H13 l2 = some (.lst (refs ks2)) := by rw [← e13, upd_ne nl2]; exact s12 _ _ el11
      obtain ⟨⟨dx', ts', tc', q1, q2, q3⟩, q4⟩ := id hK13
      refine ⟨.ref x, rfl, x, dx', _, rfl, q1, x, n, _, _, rfl, hK13.1, fun ts hts => ?_⟩
      refine ⟨.ref l2, rfl, l2, ks2, rfl, .inl (.inl el13), t13, by omega, (fun y hy => stars_fit hstars h9 y ((hperm2.map _).mem_iff.mp hy)), fun ps kz H14 s14 np14 e14 hpz hascz => ?_⟩
      refine ⟨ps, _, rfl, .inl ⟨.inl (.inl e14), fun pv npv => ?_⟩⟩
      have s15 : Same H14 (upd H14 pv (.tup (refs kz))) := same_new npv
      have tp15 : SqT K (upd H14 pv (.tup (refs kz))) pv (refs kz) := .inl (.inl upd_same)
      generalize upd H14 pv (.tup (refs kz)) = H15 at s15 tp15 ⊢
      have S15 := s14.trans s15
      have hkk : keys kz = keys ks9 := asc_unique hascz hasc9 ((hpz.map _).trans (hp9.map _).symm) (fun y hy => stars_fit hstars h9 y (((hpz.trans hperm2).map _).mem_iff.mp hy))
      have d1 : Dp K H15 (.ref ts) (.tuple ((keys ks9).map dTI)) := dp_tup_tups (sqT_up S15 hts) (tups_up S15 q4)
      have d2 : Dp K H15 (.ref pv) (.tuple ((keys ks9).map dTI)) := by
        rw [← hkk]
        exact dp_tup_tups tp15 (fun p hp' => sqT_up S15 (t13 p (hpz.mem_iff.mp hp')))
      refine eq_same (lay_tupt (keys ks9)) (by decide) d1 d2 ⟨_, rfl, iteT ?_⟩
      have hK15 := skyS_up S15 hK13
      have q1' := S15 _ _ q1
      refine ⟨.ref x, rfl, x, dx', _, rfl, q1', x, n, _, _, rfl, hK15.1, fun ts2 hts2 => ?_⟩
      refine ⟨_, _, .type "tuple", .type "tuple", true, rfl, .ty _, tyx_tup hts2, kit_ty (by decide +kernel), _, rfl, iteT ?_⟩
      refine ⟨.ref x, rfl, x, dx', _, rfl, q1', x, n, _, _, rfl, hK15.1, fun tc2 htc2 => ?_⟩
      exact ⟨_, _, .type "tuple", .type "tuple", true, rfl, .ty _, tyx_tup htc2, kit_ty (by decide +kernel), k _⟩

end
/-! ### what the top has written -/
set_option maxHeartbeats 8000000 in
theorem all_mk {w : World} {K : PySem.W.Frag} {h : Heap} {mg : Str → Option Value} {fa f1 f2 f3 f4 f5 f6 f7 f8 f9 f10 f11 f12 f13 f14 f15 f16 f17 f18 f19 s1 g6 g7 g8 g9 g10 g11 g12 q1 : Addr} (X : K.In h) (G : h.Ns mainGlobals mg) (hfa : mg "law" = some (.ref fa))
    {od1 an1 od2 an2 od3 an3 od4 an4 od5 an5 od6 an6 od7 an7 od8 an8 od9 an9 od10 an10 od11 an11 od12 an12 od13 an13 od14 an14 od15 an15 od16 an16 od17 an17 od18 an18 od19 an19 : Option Addr} {sl1 sl2 sl3 sl4 sl5 sl6 sl7 sl8 sl9 sl10 sl11 sl12 sl13 sl14 sl15 sl16 sl17 sl18 sl19 : Array (Option Value)} {oc1 kV1 dc1 pm1 cd1 ct1 oc2 kV2 dc2 pm2 cd2 ct2 oc3 kV3 dc3 pm3 cd3 ct3 oc4 kV4 dc4 pm4 cd4 ct4 oc5 kV5 dc5 pm5 cd5 ct5 oc6 kV6 dc6 pm6 cd6 ct6 oc7 kV7 dc7 pm7 cd7 ct7 oc8 kV8 dc8 pm8 cd8 ct8 oc9 kV9 dc9 pm9 cd9 ct9 oc10 kV10 dc10 pm10 cd10 ct10 oc11 kV11 dc11 pm11 cd11 ct11 oc12 kV12 dc12 pm12 cd12 ct12 oc13 kV13 dc13 pm13 cd13 ct13 oc14 kV14 dc14 pm14 cd14 ct14 oc15 kV15 dc15 pm15 cd15 ct15 oc16 kV16 dc16 pm16 cd16 ct16 oc17 kV17 dc17 pm17 cd17 ct17 oc18 kV18 dc18 pm18 cd18 ct18 oc19 kV19 dc19 pm19 cd19 ct19 : Value} {rs6 rs7 rs8 rs9 rs10 rs11 rs12 : List Value} {ut0 ut1 : Tok}
    (a1 : PySem.W.nsIn K mainGlobals "is_side" = some (some (.ref f1)))
    (l1 : K.lookup f1 = some ⟨oc1, od1, .func (PySem.W.fnOf "is_side" "is_side" (defArgs s_is_side) (defBody s_is_side) (defScope s_is_side) .none kV1 dc1 pm1 an1 cd1 ct1), sl1⟩)
    (c1 : PySem.W.codeIn K cd1 "is_side" = true)
    (k1 : PySem.W.keepIn K (.ref f1) = true)
    (a2 : PySem.W.nsIn K mainGlobals "is_star" = some (some (.ref f2)))
    (l2 : K.lookup f2 = some ⟨oc2, od2, .func (PySem.W.fnOf "is_star" "is_star" (defArgs s_is_star) (defBody s_is_star) (defScope s_is_star) .none kV2 dc2 pm2 an2 cd2 ct2), sl2⟩)
    (c2 : PySem.W.codeIn K cd2 "is_star" = true)
    (k2 : PySem.W.keepIn K (.ref f2) = true)
    (a3 : PySem.W.nsIn K mainGlobals "is_camera" = some (some (.ref f3)))
    (l3 : K.lookup f3 = some ⟨oc3, od3, .func (PySem.W.fnOf "is_camera" "is_camera" (defArgs s_is_camera) (defBody s_is_camera) (defScope s_is_camera) .none kV3 dc3 pm3 an3 cd3 ct3), sl3⟩)
    (c3 : PySem.W.codeIn K cd3 "is_camera" = true)
    (k3 : PySem.W.keepIn K (.ref f3) = true)
    (a4 : PySem.W.nsIn K mainGlobals "_check_sky" = some (some (.ref f4)))
    (l4 : K.lookup f4 = some ⟨oc4, od4, .func (PySem.W.fnOf "_check_sky" "_check_sky" (defArgs s__check_sky) (defBody s__check_sky) (defScope s__check_sky) .none kV4 dc4 pm4 an4 cd4 ct4), sl4⟩)
    (c4 : PySem.W.codeIn K cd4 "_check_sky" = true)
    (k4 : PySem.W.keepIn K (.ref f4) = true)
    (l5 : K.lookup f5 = some ⟨oc5, od5, .func (PySem.W.fnOf "__init__" "Sky.__init__" (defArgs s_Skyx_initx) (defBody s_Skyx_initx) (defScope s_Skyx_initx) .none kV5 dc5 pm5 an5 cd5 ct5), sl5⟩)
    (c5 : PySem.W.codeIn K cd5 "Sky.__init__" = true)
    (k5 : PySem.W.keepIn K (.ref f5) = true)
    (l6 : K.lookup f6 = some ⟨oc6, od6, .func (PySem.W.fnOf "side" "Sky.side" (defArgs s_Sky_side) (defBody s_Sky_side) (defScope s_Sky_side) .none kV6 dc6 pm6 an6 cd6 ct6), sl6⟩)
    (c6 : PySem.W.codeIn K cd6 "Sky.side" = true)
    (k6 : PySem.W.keepIn K (.ref f6) = true)
    (l7 : K.lookup f7 = some ⟨oc7, od7, .func (PySem.W.fnOf "stars" "Sky.stars" (defArgs s_Sky_stars) (defBody s_Sky_stars) (defScope s_Sky_stars) .none kV7 dc7 pm7 an7 cd7 ct7), sl7⟩)
    (c7 : PySem.W.codeIn K cd7 "Sky.stars" = true)
    (k7 : PySem.W.keepIn K (.ref f7) = true)
    (l8 : K.lookup f8 = some ⟨oc8, od8, .func (PySem.W.fnOf "camera" "Sky.camera" (defArgs s_Sky_camera) (defBody s_Sky_camera) (defScope s_Sky_camera) .none kV8 dc8 pm8 an8 cd8 ct8), sl8⟩)
    (c8 : PySem.W.codeIn K cd8 "Sky.camera" = true)
    (k8 : PySem.W.keepIn K (.ref f8) = true)
    (l9 : K.lookup f9 = some ⟨oc9, od9, .func (PySem.W.fnOf "reach" "Sky.reach" (defArgs s_Sky_reach) (defBody s_Sky_reach) (defScope s_Sky_reach) .none kV9 dc9 pm9 an9 cd9 ct9), sl9⟩)
    (c9 : PySem.W.codeIn K cd9 "Sky.reach" = true)
    (k9 : PySem.W.keepIn K (.ref f9) = true)
    (l10 : K.lookup f10 = some ⟨oc10, od10, .func (PySem.W.fnOf "blur" "Sky.blur" (defArgs s_Sky_blur) (defBody s_Sky_blur) (defScope s_Sky_blur) .none kV10 dc10 pm10 an10 cd10 ct10), sl10⟩)
    (c10 : PySem.W.codeIn K cd10 "Sky.blur" = true)
    (k10 : PySem.W.keepIn K (.ref f10) = true)
    (l11 : K.lookup f11 = some ⟨oc11, od11, .func (PySem.W.fnOf "glare" "Sky.glare" (defArgs s_Sky_glare) (defBody s_Sky_glare) (defScope s_Sky_glare) .none kV11 dc11 pm11 an11 cd11 ct11), sl11⟩)
    (c11 : PySem.W.codeIn K cd11 "Sky.glare" = true)
    (k11 : PySem.W.keepIn K (.ref f11) = true)
    (l12 : K.lookup f12 = some ⟨oc12, od12, .func (PySem.W.fnOf "limit" "Sky.limit" (defArgs s_Sky_limit) (defBody s_Sky_limit) (defScope s_Sky_limit) .none kV12 dc12 pm12 an12 cd12 ct12), sl12⟩)
    (c12 : PySem.W.codeIn K cd12 "Sky.limit" = true)
    (k12 : PySem.W.keepIn K (.ref f12) = true)
    (a13 : PySem.W.nsIn K mainGlobals "_law_row" = some (some (.ref f13)))
    (l13 : K.lookup f13 = some ⟨oc13, od13, .func (PySem.W.fnOf "_law_row" "_law_row" (defArgs s__law_row) (defBody s__law_row) (defScope s__law_row) .none kV13 dc13 pm13 an13 cd13 ct13), sl13⟩)
    (c13 : PySem.W.codeIn K cd13 "_law_row" = true)
    (k13 : PySem.W.keepIn K (.ref f13) = true)
    (a14 : PySem.W.nsIn K mainGlobals "_law_numbers" = some (some (.ref f14)))
    (l14 : K.lookup f14 = some ⟨oc14, od14, .func (PySem.W.fnOf "_law_numbers" "_law_numbers" (defArgs s__law_numbers) (defBody s__law_numbers) (defScope s__law_numbers) .none kV14 dc14 pm14 an14 cd14 ct14), sl14⟩)
    (c14 : PySem.W.codeIn K cd14 "_law_numbers" = true)
    (k14 : PySem.W.keepIn K (.ref f14) = true)
    (a15 : PySem.W.nsIn K mainGlobals "_law_parts" = some (some (.ref f15)))
    (l15 : K.lookup f15 = some ⟨oc15, od15, .func (PySem.W.fnOf "_law_parts" "_law_parts" (defArgs s__law_parts) (defBody s__law_parts) (defScope s__law_parts) .none kV15 dc15 pm15 an15 cd15 ct15), sl15⟩)
    (c15 : PySem.W.codeIn K cd15 "_law_parts" = true)
    (k15 : PySem.W.keepIn K (.ref f15) = true)
    (a16 : PySem.W.nsIn K mainGlobals "_law_is_sky" = some (some (.ref f16)))
    (l16 : K.lookup f16 = some ⟨oc16, od16, .func (PySem.W.fnOf "_law_is_sky" "_law_is_sky" (defArgs s__law_is_sky) (defBody s__law_is_sky) (defScope s__law_is_sky) .none kV16 dc16 pm16 an16 cd16 ct16), sl16⟩)
    (c16 : PySem.W.codeIn K cd16 "_law_is_sky" = true)
    (k16 : PySem.W.keepIn K (.ref f16) = true)
    (a17 : PySem.W.nsIn K mainGlobals "_law_broken" = some (some (.ref f17)))
    (l17 : K.lookup f17 = some ⟨oc17, od17, .func (PySem.W.fnOf "_law_broken" "_law_broken" (defArgs s__law_broken) (defBody s__law_broken) (defScope s__law_broken) .none kV17 dc17 pm17 an17 cd17 ct17), sl17⟩)
    (c17 : PySem.W.codeIn K cd17 "_law_broken" = true)
    (k17 : PySem.W.keepIn K (.ref f17) = true)
    (a18 : PySem.W.nsIn K mainGlobals "_law_told" = some (some (.ref f18)))
    (l18 : K.lookup f18 = some ⟨oc18, od18, .func (PySem.W.fnOf "_law_told" "_law_told" (defArgs s__law_told) (defBody s__law_told) (defScope s__law_told) .none kV18 dc18 pm18 an18 cd18 ct18), sl18⟩)
    (c18 : PySem.W.codeIn K cd18 "_law_told" = true)
    (k18 : PySem.W.keepIn K (.ref f18) = true)
    (a19 : PySem.W.nsIn K mainGlobals "law" = some (some (.ref f19)))
    (l19 : K.lookup f19 = some ⟨oc19, od19, .func (PySem.W.fnOf "law" "law" (defArgs s_law) (defBody s_law) (defScope s_law) .none kV19 dc19 pm19 an19 cd19 ct19), sl19⟩)
    (c19 : PySem.W.codeIn K cd19 "law" = true)
    (k19 : PySem.W.keepIn K (.ref f19) = true)
    (sa1 : PySem.W.nsIn K mainGlobals "Sky" = some (some (.ref s1)))
    (sp1 : PySem.W.plainGet K s1 Str.empty = true)
    (sh1 : PySem.W.hasDictIn K s1 = true)
    (so1 : PySem.W.plainOver K s1 = true)
    (ss1 : PySem.W.findIn K (.ref s1) "__setattr__" = some (some (.builtin "object.__setattr__")))
    (sm1 : PySem.W.makesIn K s1 = true)
    (sk1 : PySem.W.keepIn K (.ref s1) = true)
    (si1 : PySem.W.findIn K (.ref s1) "__init__" = some (some (.ref f5)))
    (sf1 : PySem.W.isFn K (.ref f5) = true)
    (sn1_0 : PySem.W.findIn K (.ref s1) "_side" = some none)
    (sn1_1 : PySem.W.findIn K (.ref s1) "_stars" = some none)
    (sn1_2 : PySem.W.findIn K (.ref s1) "_camera" = some none)
    (pa6 : PySem.W.findIn K (.ref s1) "side" = some (some (.ref g6)))
    (pg6 : PySem.W.specialIn K (.ref g6) "__get__" = some (some (.builtin "property.__get__")))
    (pt6 : PySem.W.takesIn K (.ref g6) = some true)
    (pr6 : PySem.W.recIn K g6 "property" = some (.ref f6 :: rs6))
    (pa7 : PySem.W.findIn K (.ref s1) "stars" = some (some (.ref g7)))
    (pg7 : PySem.W.specialIn K (.ref g7) "__get__" = some (some (.builtin "property.__get__")))
    (pt7 : PySem.W.takesIn K (.ref g7) = some true)
    (pr7 : PySem.W.recIn K g7 "property" = some (.ref f7 :: rs7))
    (pa8 : PySem.W.findIn K (.ref s1) "camera" = some (some (.ref g8)))
    (pg8 : PySem.W.specialIn K (.ref g8) "__get__" = some (some (.builtin "property.__get__")))
    (pt8 : PySem.W.takesIn K (.ref g8) = some true)
    (pr8 : PySem.W.recIn K g8 "property" = some (.ref f8 :: rs8))
    (pa9 : PySem.W.findIn K (.ref s1) "reach" = some (some (.ref g9)))
    (pg9 : PySem.W.specialIn K (.ref g9) "__get__" = some (some (.builtin "property.__get__")))
    (pt9 : PySem.W.takesIn K (.ref g9) = some true)
    (pr9 : PySem.W.recIn K g9 "property" = some (.ref f9 :: rs9))
    (pa10 : PySem.W.findIn K (.ref s1) "blur" = some (some (.ref g10)))
    (pg10 : PySem.W.specialIn K (.ref g10) "__get__" = some (some (.builtin "property.__get__")))
    (pt10 : PySem.W.takesIn K (.ref g10) = some true)
    (pr10 : PySem.W.recIn K g10 "property" = some (.ref f10 :: rs10))
    (pa11 : PySem.W.findIn K (.ref s1) "glare" = some (some (.ref g11)))
    (pg11 : PySem.W.specialIn K (.ref g11) "__get__" = some (some (.builtin "property.__get__")))
    (pt11 : PySem.W.takesIn K (.ref g11) = some true)
    (pr11 : PySem.W.recIn K g11 "property" = some (.ref f11 :: rs11))
    (pa12 : PySem.W.findIn K (.ref s1) "limit" = some (some (.ref g12)))
    (pg12 : PySem.W.specialIn K (.ref g12) "__get__" = some (some (.builtin "property.__get__")))
    (pt12 : PySem.W.takesIn K (.ref g12) = some true)
    (pr12 : PySem.W.recIn K g12 "property" = some (.ref f12 :: rs12))
    (qa1 : PySem.W.nsIn K mainGlobals "InvalidSky" = some (some (.ref q1)))
    (qx1 : PySem.W.excIn K q1 [.type "ValueError", .type "Exception", .type "BaseException", .type "object"] "ValueError.__new__" = true)
    (qk1 : PySem.W.keepIn K (.ref q1) = true)
    (qs1 : PySem.W.subIn K (.ref q1) (.type "BaseException") = some true)
    (qt1 : PySem.W.typeIn K (.ref q1) = some (.type "type"))
    (qi1 : PySem.W.isClsIn K q1 = true)
    (qss1 : PySem.W.subIn K (.ref q1) (.ref q1) = some true)
    (uc0 : PySem.W.nsIn K mainGlobals "MOST_STARS" = some (some (.int 20 ut0)))
    (uc1 : PySem.W.nsIn K mainGlobals "BRIGHTEST" = some (some (.int 9 ut1)))
    (z0 : PySem.W.nsIn K mainGlobals "len" = some none)
    (z1 : PySem.W.nsIn K mainGlobals "abs" = some none)
    (z2 : PySem.W.nsIn K mainGlobals "int" = some none)
    (z3 : PySem.W.nsIn K mainGlobals "max" = some none)
    (z4 : PySem.W.nsIn K mainGlobals "min" = some none)
    (z5 : PySem.W.nsIn K mainGlobals "range" = some none)
    (z6 : PySem.W.nsIn K mainGlobals "list" = some none)
    (z7 : PySem.W.nsIn K mainGlobals "tuple" = some none)
    (z8 : PySem.W.nsIn K mainGlobals "isinstance" = some none)
    (z9 : PySem.W.nsIn K mainGlobals "sorted" = some none)
    (z10 : PySem.W.nsIn K mainGlobals "set" = some none) :
    ∃ fd : FuncData, (∀ (s : Shared) (v : Value), BindsTo s fd ⟨[v], []⟩ [("script", v)]) ∧ ∀ base : Heap, K.In base → base.Ns mainGlobals mg → FnOk PySem.Challenge.pw_starward_k01_skies_taken_and_refused w K mg base CX0 6 fa fd ["script"] (spLaw K) := by
  have e := hfa.symm.trans (PySem.W.mg_of X G a19)
  cases e
  have F1 := fun_mk (st := s_is_side) l1 c1 k1
  have F2 := fun_mk (st := s_is_star) l2 c2 k2
  have F3 := fun_mk (st := s_is_camera) l3 c3 k3
  have F4 := fun_mk (st := s__check_sky) l4 c4 k4
  have F5 := fun_mk (st := s_Skyx_initx) l5 c5 k5
  have F6 := fun_mk (st := s_Sky_side) l6 c6 k6
  have F7 := fun_mk (st := s_Sky_stars) l7 c7 k7
  have F8 := fun_mk (st := s_Sky_camera) l8 c8 k8
  have F9 := fun_mk (st := s_Sky_reach) l9 c9 k9
  have F10 := fun_mk (st := s_Sky_blur) l10 c10 k10
  have F11 := fun_mk (st := s_Sky_glare) l11 c11 k11
  have F12 := fun_mk (st := s_Sky_limit) l12 c12 k12
  have F13 := fun_mk (st := s__law_row) l13 c13 k13
  have F14 := fun_mk (st := s__law_numbers) l14 c14 k14
  have F15 := fun_mk (st := s__law_parts) l15 c15 k15
  have F16 := fun_mk (st := s__law_is_sky) l16 c16 k16
  have F17 := fun_mk (st := s__law_broken) l17 c17 k17
  have F18 := fun_mk (st := s__law_told) l18 c18 k18
  have F19 := fun_mk (st := s_law) l19 c19 k19
  have T : Txt PySem.Challenge.pw_starward_k01_skies_taken_and_refused K mg { f_is_side := f1, fd_is_side := PySem.W.fnOf "is_side" "is_side" (defArgs s_is_side) (defBody s_is_side) (defScope s_is_side) .none kV1 dc1 pm1 an1 cd1 ct1, f_is_star := f2, fd_is_star := PySem.W.fnOf "is_star" "is_star" (defArgs s_is_star) (defBody s_is_star) (defScope s_is_star) .none kV2 dc2 pm2 an2 cd2 ct2, f_is_camera := f3, fd_is_camera := PySem.W.fnOf "is_camera" "is_camera" (defArgs s_is_camera) (defBody s_is_camera) (defScope s_is_camera) .none kV3 dc3 pm3 an3 cd3 ct3, f__check_sky := f4, fd__check_sky := PySem.W.fnOf "_check_sky" "_check_sky" (defArgs s__check_sky) (defBody s__check_sky) (defScope s__check_sky) .none kV4 dc4 pm4 an4 cd4 ct4, f_Skyx_initx := f5, fd_Skyx_initx := PySem.W.fnOf "__init__" "Sky.__init__" (defArgs s_Skyx_initx) (defBody s_Skyx_initx) (defScope s_Skyx_initx) .none kV5 dc5 pm5 an5 cd5 ct5, f_Sky_side := f6, fd_Sky_side := PySem.W.fnOf "side" "Sky.side" (defArgs s_Sky_side) (defBody s_Sky_side) (defScope s_Sky_side) .none kV6 dc6 pm6 an6 cd6 ct6, f_Sky_stars := f7, fd_Sky_stars := PySem.W.fnOf "stars" "Sky.stars" (defArgs s_Sky_stars) (defBody s_Sky_stars) (defScope s_Sky_stars) .none kV7 dc7 pm7 an7 cd7 ct7, f_Sky_camera := f8, fd_Sky_camera := PySem.W.fnOf "camera" "Sky.camera" (defArgs s_Sky_camera) (defBody s_Sky_camera) (defScope s_Sky_camera) .none kV8 dc8 pm8 an8 cd8 ct8, f_Sky_reach := f9, fd_Sky_reach := PySem.W.fnOf "reach" "Sky.reach" (defArgs s_Sky_reach) (defBody s_Sky_reach) (defScope s_Sky_reach) .none kV9 dc9 pm9 an9 cd9 ct9, f_Sky_blur := f10, fd_Sky_blur := PySem.W.fnOf "blur" "Sky.blur" (defArgs s_Sky_blur) (defBody s_Sky_blur) (defScope s_Sky_blur) .none kV10 dc10 pm10 an10 cd10 ct10, f_Sky_glare := f11, fd_Sky_glare := PySem.W.fnOf "glare" "Sky.glare" (defArgs s_Sky_glare) (defBody s_Sky_glare) (defScope s_Sky_glare) .none kV11 dc11 pm11 an11 cd11 ct11, f_Sky_limit := f12, fd_Sky_limit := PySem.W.fnOf "limit" "Sky.limit" (defArgs s_Sky_limit) (defBody s_Sky_limit) (defScope s_Sky_limit) .none kV12 dc12 pm12 an12 cd12 ct12, f__law_row := f13, fd__law_row := PySem.W.fnOf "_law_row" "_law_row" (defArgs s__law_row) (defBody s__law_row) (defScope s__law_row) .none kV13 dc13 pm13 an13 cd13 ct13, f__law_numbers := f14, fd__law_numbers := PySem.W.fnOf "_law_numbers" "_law_numbers" (defArgs s__law_numbers) (defBody s__law_numbers) (defScope s__law_numbers) .none kV14 dc14 pm14 an14 cd14 ct14, f__law_parts := f15, fd__law_parts := PySem.W.fnOf "_law_parts" "_law_parts" (defArgs s__law_parts) (defBody s__law_parts) (defScope s__law_parts) .none kV15 dc15 pm15 an15 cd15 ct15, f__law_is_sky := f16, fd__law_is_sky := PySem.W.fnOf "_law_is_sky" "_law_is_sky" (defArgs s__law_is_sky) (defBody s__law_is_sky) (defScope s__law_is_sky) .none kV16 dc16 pm16 an16 cd16 ct16, f__law_broken := f17, fd__law_broken := PySem.W.fnOf "_law_broken" "_law_broken" (defArgs s__law_broken) (defBody s__law_broken) (defScope s__law_broken) .none kV17 dc17 pm17 an17 cd17 ct17, f__law_told := f18, fd__law_told := PySem.W.fnOf "_law_told" "_law_told" (defArgs s__law_told) (defBody s__law_told) (defScope s__law_told) .none kV18 dc18 pm18 an18 cd18 ct18, f_law := fa, fd_law := PySem.W.fnOf "law" "law" (defArgs s_law) (defBody s_law) (defScope s_law) .none kV19 dc19 pm19 an19 cd19 ct19, c_Sky := s1, g_Sky_side := g6, g_Sky_stars := g7, g_Sky_camera := g8, g_Sky_reach := g9, g_Sky_blur := g10, g_Sky_glare := g11, g_Sky_limit := g12, c_InvalidSky := q1, u_MOST_STARS := .int 20 ut0, u_BRIGHTEST := .int 9 ut1 } := {
    F_is_side := F1,
    b_is_side := F1.binds (ps := ["side"]) fun _ _ _ _ _ _ us hl => match us, hl with | [_], _ => rfl,
    m_is_side := PySem.W.mg_of X G a1,
    F_is_star := F2,
    b_is_star := F2.binds (ps := ["side", "star"]) fun _ _ _ _ _ _ us hl => match us, hl with | [_, _], _ => rfl,
    m_is_star := PySem.W.mg_of X G a2,
    F_is_camera := F3,
    b_is_camera := F3.binds (ps := ["side", "camera"]) fun _ _ _ _ _ _ us hl => match us, hl with | [_, _], _ => rfl,
    m_is_camera := PySem.W.mg_of X G a3,
    F__check_sky := F4,
    b__check_sky := F4.binds (ps := ["side", "stars", "camera"]) fun _ _ _ _ _ _ us hl => match us, hl with | [_, _, _], _ => rfl,
    m__check_sky := PySem.W.mg_of X G a4,
    F_Skyx_initx := F5,
    b_Skyx_initx := F5.binds (ps := ["self", "side", "stars", "camera"]) fun _ _ _ _ _ _ us hl => match us, hl with | [_, _, _, _], _ => rfl,
    F_Sky_side := F6,
    b_Sky_side := F6.binds (ps := ["self"]) fun _ _ _ _ _ _ us hl => match us, hl with | [_], _ => rfl,
    F_Sky_stars := F7,
    b_Sky_stars := F7.binds (ps := ["self"]) fun _ _ _ _ _ _ us hl => match us, hl with | [_], _ => rfl,
    F_Sky_camera := F8,
    b_Sky_camera := F8.binds (ps := ["self"]) fun _ _ _ _ _ _ us hl => match us, hl with | [_], _ => rfl,
    F_Sky_reach := F9,
    b_Sky_reach := F9.binds (ps := ["self"]) fun _ _ _ _ _ _ us hl => match us, hl with | [_], _ => rfl,
    F_Sky_blur := F10,
    b_Sky_blur := F10.binds (ps := ["self"]) fun _ _ _ _ _ _ us hl => match us, hl with | [_], _ => rfl,
    F_Sky_glare := F11,
    b_Sky_glare := F11.binds (ps := ["self"]) fun _ _ _ _ _ _ us hl => match us, hl with | [_], _ => rfl,
    F_Sky_limit := F12,
    b_Sky_limit := F12.binds (ps := ["self"]) fun _ _ _ _ _ _ us hl => match us, hl with | [_], _ => rfl,
    F__law_row := F13,
    b__law_row := F13.binds (ps := ["cell", "many"]) fun _ _ _ _ _ _ us hl => match us, hl with | [_, _], _ => rfl,
    m__law_row := PySem.W.mg_of X G a13,
    F__law_numbers := F14,
    b__law_numbers := F14.binds (ps := ["script", "many"]) fun _ _ _ _ _ _ us hl => match us, hl with | [_, _], _ => rfl,
    m__law_numbers := PySem.W.mg_of X G a14,
    F__law_parts := F15,
    b__law_parts := F15.binds (ps := ["numbers", "at", "most"]) fun _ _ _ _ _ _ us hl => match us, hl with | [_, _, _], _ => rfl,
    m__law_parts := PySem.W.mg_of X G a15,
    F__law_is_sky := F16,
    b__law_is_sky := F16.binds (ps := ["side", "stars", "camera"]) fun _ _ _ _ _ _ us hl => match us, hl with | [_, _, _], _ => rfl,
    m__law_is_sky := PySem.W.mg_of X G a16,
    F__law_broken := F17,
    b__law_broken := F17.binds (ps := ["side", "stars", "camera", "numbers", "at"]) fun _ _ _ _ _ _ us hl => match us, hl with | [_, _, _, _, _], _ => rfl,
    m__law_broken := PySem.W.mg_of X G a17,
    F__law_told := F18,
    b__law_told := F18.binds (ps := ["side", "stars", "camera"]) fun _ _ _ _ _ _ us hl => match us, hl with | [_, _, _], _ => rfl,
    m__law_told := PySem.W.mg_of X G a18,
    F_law := F19,
    cl_Sky := ⟨sp1, sh1, so1, ss1⟩,
    m_Sky := PySem.W.mg_of X G sa1,
    M_Sky := ⟨sm1, si1, sf1, sk1⟩,
    n_Sky__side := sn1_0,
    n_Sky__stars := sn1_1,
    n_Sky__camera := sn1_2,
    p_Sky_side := ⟨pa6, pg6, pt6, ⟨_, pr6⟩⟩,
    p_Sky_stars := ⟨pa7, pg7, pt7, ⟨_, pr7⟩⟩,
    p_Sky_camera := ⟨pa8, pg8, pt8, ⟨_, pr8⟩⟩,
    p_Sky_reach := ⟨pa9, pg9, pt9, ⟨_, pr9⟩⟩,
    p_Sky_blur := ⟨pa10, pg10, pt10, ⟨_, pr10⟩⟩,
    p_Sky_glare := ⟨pa11, pg11, pt11, ⟨_, pr11⟩⟩,
    p_Sky_limit := ⟨pa12, pg12, pt12, ⟨_, pr12⟩⟩,
    E_InvalidSky_te := exm_of qs1 qi1 qt1 qss1,
    E_InvalidSky := ⟨PySem.W.mg_of X G qa1, qx1, qk1, qs1, qt1⟩,
    m_MOST_STARS := PySem.W.mg_of X G uc0,
    v_MOST_STARS := ⟨_, rfl⟩,
    m_BRIGHTEST := PySem.W.mg_of X G uc1,
    v_BRIGHTEST := ⟨_, rfl⟩,
    z_len := PySem.W.mg_none_of X G z0,
    z_abs := PySem.W.mg_none_of X G z1,
    z_int := PySem.W.mg_none_of X G z2,
    z_max := PySem.W.mg_none_of X G z3,
    z_min := PySem.W.mg_none_of X G z4,
    z_range := PySem.W.mg_none_of X G z5,
    z_list := PySem.W.mg_none_of X G z6,
    z_tuple := PySem.W.mg_none_of X G z7,
    z_isinstance := PySem.W.mg_none_of X G z8,
    z_sorted := PySem.W.mg_none_of X G z9,
    z_set := PySem.W.mg_none_of X G z10 }
  exact ⟨_, fun s v => .of_eq rfl, fun base _ _ => ok_law T⟩
end SwT
open PySem PySem.W PyProof.Rows
set_option maxRecDepth 100000 in
set_option maxHeartbeats 0 in
theorem PySem.Challenge.cw_starward_k01_skies_taken_and_refused_holds : PySem.Challenge.rw_starward_k01_skies_taken_and_refused.Holds := by
  w_on; o_law; k_head; (case hw => w_witness2)
  k_fill
  refine L2.walk_of (l := PySem.Challenge.rw_starward_k01_skies_taken_and_refused) (n := 63) (k := 6) (x := "script") (CX := fun _ => L2.CX0) (sp := fun w => Sw.spLaw _) rfl (by decide) rfl ⟨rfl, by decide, by decide⟩ (fun w h Y => PySem.W.kIn_of Y) ?F (fun _ _ a ns hl _ hS => ⟨a, ns, rfl, hS, hl, fun _ => rfl⟩) (fun _ _ _ _ _ h => h)
  case F =>
    intro w mg fa h KX G hmg
    refine' SwT.all_mk KX G hmg ?a1 ?l1 ?c1 ?k1 ?a2 ?l2 ?c2 ?k2 ?a3 ?l3 ?c3 ?k3 ?a4 ?l4 ?c4 ?k4 ?l5 ?c5 ?k5 ?l6 ?c6 ?k6 ?l7 ?c7 ?k7 ?l8 ?c8 ?k8 ?l9 ?c9 ?k9 ?l10 ?c10 ?k10 ?l11 ?c11 ?k11 ?l12 ?c12 ?k12 ?a13 ?l13 ?c13 ?k13 ?a14 ?l14 ?c14 ?k14 ?a15 ?l15 ?c15 ?k15 ?a16 ?l16 ?c16 ?k16 ?a17 ?l17 ?c17 ?k17 ?a18 ?l18 ?c18 ?k18 ?a19 ?l19 ?c19 ?k19 ?sa1 ?sp1 ?sh1 ?so1 ?ss1 ?sm1 ?sk1 ?si1 ?sf1 ?sn1_0 ?sn1_1 ?sn1_2 ?pa6 ?pg6 ?pt6 ?pr6 ?pa7 ?pg7 ?pt7 ?pr7 ?pa8 ?pg8 ?pt8 ?pr8 ?pa9 ?pg9 ?pt9 ?pr9 ?pa10 ?pg10 ?pt10 ?pr10 ?pa11 ?pg11 ?pt11 ?pr11 ?pa12 ?pg12 ?pt12 ?pr12 ?qa1 ?qx1 ?qk1 ?qs1 ?qt1 ?qi1 ?qss1 ?uc0 ?uc1 ?z0 ?z1 ?z2 ?z3 ?z4 ?z5 ?z6 ?z7 ?z8 ?z9 ?z10
    (case a1 => k_is)
    (case a2 => k_is)
    (case a3 => k_is)
    (case a4 => k_is)
    (case a13 => k_is)
    (case a14 => k_is)
    (case a15 => k_is)
    (case a16 => k_is)
    (case a17 => k_is)
    (case a18 => k_is)
    (case a19 => k_is)
    (case sa1 => k_is)
    (case pa6 => k_is)
    (case pa7 => k_is)
    (case pa8 => k_is)
    (case pa9 => k_is)
    (case pa10 => k_is)
    (case pa11 => k_is)
    (case pa12 => k_is)
    (case qa1 => k_is)
    (case uc0 => k_is)
    (case uc1 => k_is)
    (case si1 => k_is)
    (case pr6 => k_is)
    (case pr7 => k_is)
    (case pr8 => k_is)
    (case pr9 => k_is)
    (case pr10 => k_is)
    (case pr11 => k_is)
    (case pr12 => k_is)
    (case l1 => k_is)
    (case c1 => k_is)
    (case k1 => k_is)
    (case l2 => k_is)
    (case c2 => k_is)
    (case k2 => k_is)
    (case l3 => k_is)
    (case c3 => k_is)
    (case k3 => k_is)
    (case l4 => k_is)
    (case c4 => k_is)
    (case k4 => k_is)
    (case l5 => k_is)
    (case c5 => k_is)
    (case k5 => k_is)
    (case l6 => k_is)
    (case c6 => k_is)
    (case k6 => k_is)
    (case l7 => k_is)
    (case c7 => k_is)
    (case k7 => k_is)
    (case l8 => k_is)
    (case c8 => k_is)
    (case k8 => k_is)
    (case l9 => k_is)
    (case c9 => k_is)
    (case k9 => k_is)
    (case l10 => k_is)
    (case c10 => k_is)
    (case k10 => k_is)
    (case l11 => k_is)
    (case c11 => k_is)
    (case k11 => k_is)
    (case l12 => k_is)
    (case c12 => k_is)
    (case k12 => k_is)
    (case l13 => k_is)
    (case c13 => k_is)
    (case k13 => k_is)
    (case l14 => k_is)
    (case c14 => k_is)
    (case k14 => k_is)
    (case l15 => k_is)
    (case c15 => k_is)
    (case k15 => k_is)
    (case l16 => k_is)
    (case c16 => k_is)
    (case k16 => k_is)
    (case l17 => k_is)
    (case c17 => k_is)
    (case k17 => k_is)
    (case l18 => k_is)
    (case c18 => k_is)
    (case k18 => k_is)
    (case l19 => k_is)
    (case c19 => k_is)
    (case k19 => k_is)
    (case sp1 => k_is)
    (case sh1 => k_is)
    (case so1 => k_is)
    (case ss1 => k_is)
    (case sm1 => k_is)
    (case sk1 => k_is)
    (case sf1 => k_is)
    (case sn1_0 => k_is)
    (case sn1_1 => k_is)
    (case sn1_2 => k_is)
    (case pg6 => k_is)
    (case pt6 => k_is)
    (case pg7 => k_is)
    (case pt7 => k_is)
    (case pg8 => k_is)
    (case pt8 => k_is)
    (case pg9 => k_is)
    (case pt9 => k_is)
    (case pg10 => k_is)
    (case pt10 => k_is)
    (case pg11 => k_is)
    (case pt11 => k_is)
    (case pg12 => k_is)
    (case pt12 => k_is)
    (case qx1 => k_exc)
    (case qk1 => k_is)
    (case qs1 => k_is)
    (case qt1 => k_is)
    (case qi1 => k_is)
    (case qss1 => first | rfl | k_is)
    (case z0 => k_is)
    (case z1 => k_is)
    (case z2 => k_is)
    (case z3 => k_is)
    (case z4 => k_is)
    (case z5 => k_is)
    (case z6 => k_is)
    (case z7 => k_is)
    (case z8 => k_is)
    (case z9 => k_is)
    (case z10 => k_is)
#print axioms PySem.Challenge.cw_starward_k01_skies_taken_and_refused_holds

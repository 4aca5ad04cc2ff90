import PyProof.Rows.All
import Wide.All
import OpenK.AllK
import Wide.FinOn
import KE.KExcSuper
import HandS.Base
import HandS.Call
import HandS.List
import HandS.Exc
import HandS.ExcOwn
import HandS.TryOnly
import HandS.WordsExc
import HandS.ForMost
import HandS.Wide
import HandS.IsInst
import HandS.Gcd
import HandS.Property
import HandS.Defaults
import HandS.Star
import KE.KOpsOwn
import HandS.CallSlots
import HandS.SlotsOwn
import KE.KStateDown
import HandS.Ends
import HandS.Head0
import HandS.Head1
import HandS.Head2
import HandS.Head3
import HandS.HeadEnd
import HandS.HeadHook1
import HandS.HeadHook2
import HandS.Text
import HandS.Iter
import HandS.Comp
import HandS.RaiseMore
import HandS.Dict
import PyProof.ReprRoads
import HandS.MapJoin
import HandS.Rev
import HandS.RevTup
import PyProof.NeKinds
import PyProof.EqKinds
import PyProof.FactsAll.dict
import HandS.OwnEq
import KE.GoesMore
import PyProof.P3In
import HandS.Deep
import KE.KDictList
import HandS.TupAny
import HandS.StrMore
import PyProof.Rows.StrFin3
import HandS.Walk
import HandS.TryMany
import PySem.Challenge.RW_anytempo_k13_bounds_of_facts
set_option Elab.async false
set_option linter.all false
set_option maxRecDepth 100000
set_option maxHeartbeats 4000000
/-! Exception classes whose __init__ says super().__init__(a text) and stores its one argument. -/
namespace Xb
open PySem PySem.W PySem.Calls PyProof.Rows
abbrev arg2 (F : Str) (p1 p2 : Pos) : Arguments :=
  { posonlyargs := [], args := [{ arg := "self", annotation := none, pos := p1 }, { arg := F, annotation := none, pos := p2 }],
    vararg := none, kwonlyargs := [], kw_defaults := [], kwarg := none, defaults := [] }
abbrev bod2 (F txt : Str) (k : Nat) (q1 q2 q3 q4 q5 q6 q7 q8 q9 q10 : Pos) : List Stmt :=
  [.Expr (.Call (.Attribute (.Call (.Name "super" q1) [] [] q2) "__init__" q3) [.Constant (.str txt) k q4] [] q5) q6,
   .Assign [.Attribute (.Name "self" q7) F q8] (.Name F q9) q10]
abbrev sco2 (F : Str) : Scope :=
  { kind := .function, names := [(PySem.Str.ofString "self", .local), (F, .local), (PySem.Str.ofString "__class__", .free), (PySem.Str.ofString "super", .globalImplicit)],
    isGenerator := false, isCoroutine := false, more := [] }
/-- the names of the one field are no other names -/
structure Nm (F : Str) : Prop where
  s : (sco2 F).names.lookup ("super" : Str) = some .globalImplicit
  c : (sco2 F).names.lookup ("__class__" : Str) = some .free
  f : (sco2 F).names.lookup F = some .local
  l : (sco2 F).names.lookup ("self" : Str) = some .local
  ne : (F == ("self" : Str)) = false
  en : (("self" : Str) == F) = false
  db : (F == ("__debug__" : Str)) = false
  b : ∀ (q : Str) (bd : List Stmt) (kV doc pm : Value) (an : Option Addr) (cd ct : Value) (cc : Addr) (p1 p2 : Pos) (u v : Value),
    bindArgs (ksFn "__init__" q (arg2 F p1 p2) bd (sco2 F) .none kV doc pm an cd ct cc) ⟨[u, v], []⟩ = pure [(("self" : Str), u), (F, v)]
theorem mcall1 {o : Expr} {name : Str} {apos pos p4 : Pos} {txt : Str} {kk : Nat} {env : Env} (h : (apos.endLine == pos.line) = true) :
    eval (.Call (.Attribute o name apos) [.Constant (.str txt) kk p4] [] pos) env = (do
      let ov ← attributeBase o name env (eval o env)
      standAt apos.atName
      let (f, first) ← holding [ov] (getMethod ov name (do return (← importBound o env).getD true))
      callWith pos f first (backTo pos (starEach [.Constant (.str txt) kk p4] env)) []) := by
  have e : ∀ ov, methodCall o name apos pos env ov 1 (backTo pos (starEach [.Constant (.str txt) kk p4] env)) [] = (do
      let (f, first) ← holding [ov] (getMethod ov name (do return (← importBound o env).getD true))
      callWith pos f first (backTo pos (starEach [.Constant (.str txt) kk p4] env)) []) := fun ov => by
    have hf : methodCallForm 1 (backTo pos (starEach [.Constant (.str txt) kk p4] env)) [] = true := rfl
    unfold methodCall methodCallPos calleeOf
    simp only [hf, h, Bool.not_true, Bool.false_or, if_true, pure_bind]
  show (do
      let ov ← attributeBase o name env (eval o env)
      standAt apos.atName
      methodCall o name apos pos env ov 1 (backTo pos (starEach [.Constant (.str txt) kk p4] env)) []) = _
  simp only [e]
theorem nm_value : Nm "value" := ⟨rfl, rfl, rfl, rfl, by decide, by decide, by decide, fun _ _ _ _ _ _ _ _ _ _ _ _ _ => rfl⟩
/-- what the written part says of the class at C and of its __init__ at fI -/
structure Txt (file : Str) (K : Frag) (q F txt : Str) (C fI : Addr) : Prop where
  nm : Nm F
  cls : ∃ nm q' N bs bm sn sub ab col dd k0 k1 k2 k3 k5, K.lookup C = some (excClassObj nm q' C N bs bm true sn sub ab col dd k0 k1 k2 k3 k5 "ValueError.__new__") ∧ HandSPX.refsVE bm = true
  sa : findIn K (.ref C) "__setattr__" = some (some (.builtin "object.__setattr__"))
  ga : findIn K (.ref C) "__getattribute__" = some (some (.builtin "BaseException.__getattribute__"))
  gg : findIn K (.ref C) "__getattr__" = some none
  noF : findIn K (.ref C) F = some none
  iC : findIn K (.ref C) "__init__" = some (some (.ref fI))
  tC : typeIn K (.ref fI) = some (.type "function")
  kC : keepIn K (.ref C) = true
  exC : subIn K (.ref C) (.type "BaseException") = some true
  veC : subIn K (.ref C) (.type "ValueError") = some true
  tyC : typeIn K (.ref C) = some (.type "type")
  hdC : hasDictIn K C = true
  te : exmOne K (.ref C) (.ref C) = some true
  sup : ks_superIn K C C "__init__" = some (some (.builtin "ValueError.__init__"))
  slf : mroIn K C (.ref C) = some true
  gs : nsIn K mainGlobals "super" = some none
  tp : nsIn K cStatics "thirdparty.any" = some none
  fn : ∃ (oc : Value) (od : Option Addr) (kV doc pm : Value) (an : Option Addr) (cda : Addr) (ct : Value) (osl : Array (Option Value)) (cc : Addr) (p1 p2 : Pos) (kk : Nat) (q1 q2 q3 q4 q5 q6 q7 q8 q9 q10 : Pos),
    K.lookup fI = some ⟨oc, od, .func (ksFn "__init__" q (arg2 F p1 p2) (bod2 F txt kk q1 q2 q3 q4 q5 q6 q7 q8 q9 q10) (sco2 F) .none kV doc pm an (.ref cda) ct cc), osl⟩ ∧ codeIn K (.ref cda) q = true ∧ (q3.endLine == q5.line) = true ∧
    (∃ ccl cdd vs ccs tf, K.lookup cda = some ⟨ccl, cdd, .fields vs, ccs⟩ ∧ vs[2]? = some (.str file tf)) ∧ (∃ cl cld csl, K.lookup cc = some ⟨cl, cld, .cell (some (.ref C)), csl⟩)
/-- behind __init__ -/
structure Done (h h' : Heap) (x C dx t1 : Addr) (F : Str) (v : Value) : Prop where
  keep : ∀ b o, b ≠ x → h.get? b = some o → h'.get? b = some o
  obj : h'.get? x = some { cls := .ref C, dict := some dx, data := .fields #[.ref t1, .none, .none, .none, .bool false, .none] }
  dbig : h.objs.size ≤ dx
  dne : dx ≠ x
  ns : h'.Ns1 dx (fun y => if y = F then some v else none)
section
variable {prog : Program} {w : World} {A : Around} {E : Value → Shared → Prop} {h : Heap} {g : Array GenState} {d : Drawn} {t : Nat} {os : OsState}
variable {nm q : Str} {C N : Addr} {bs bm : List Value} {hdct : Bool} {sn : List Str} {sub : List Value} {ab : Bool} {col : Option Bool} {dd : Option Addr} {k0 k1 k2 k3 k5 : Option Value}
/-- the bound built-in __init__ is called -/
theorem mw_call {u e t0 : Addr} {rest : List Value} {Q : Value → Shared → Prop}
    (hC : h.get? C = some (excClassObj nm q C N bs bm hdct sn sub ab col dd k0 k1 k2 k3 k5 "ValueError.__new__")) (he : h.get? e = some (HandSPX.excO C t0))
    (hu : h.get? u = some (kxs_mw "ValueError.__init__" e)) (hz : rest.length ≤ sizeLine)
    (hq : ∀ h' t1, (∀ b o, b ≠ e → h.get? b = some o → h'.get? b = some o) → h'.get? e = some (HandSPX.excO C t1) → Q .none ⟨h', g, d, t, os⟩) :
    wpAny (model prog w) A (call (.ref u) rest) Q E ⟨h, g, d, t, os⟩ := by
  have FB := F.excBase_ValueError
  have c1 : (Value.type "method-wrapper" == Value.type "method" || Value.type "method-wrapper" == Value.type "builtin_function_or_method" || Value.type "method-wrapper" == Value.type "method-wrapper") = true := by decide
  refine wpAny_call (codeAny_of_tree ?_)
  show wpAny _ A.in1 (callAny (.ref u) ⟨rest, []⟩) _ _ _
  simp only [callAny]
  refine wpAny_bind (wpAny_load hu ?_)
  simp only [kxs_mw, c1, if_true]
  refine KFB.if_so (by decide) ?_
  refine wpAny_bind (check_bound_init (initId := "ValueError.__init__") FB.toExcCallFacts hC he rfl ?_)
  refine wpAny_bind (wpAny_pure (wpAny_pure ?_))
  refine ⟨plainId_quiet FB.init.plain _, codeAny_builtin FB.initEntry ?_⟩
  refine exc_init_tree (cls := .ref C) (t0 := t0) (dv := none) (c2 := .none) (c3 := .none) (b4 := .bool false) he hz fun h' k e' _ => ?_
  exact hq h' _ k e'
end
section
variable {prog : Program} {w : World} {A : Around} {E : Value → Shared → Prop} {R : Result → Shared → Prop} {s : Shared} {K : Frag} {q F txt : Str} {C fI : Addr} {mg mb : Str → Option Value}
theorem initX (T : Txt prog.main.file K q F txt C fI) {x t0 : Addr} {v : Value} (X : K.In s.heap) (hlim : s.heap.NoLimit) (hg : s.heap.Ns mainGlobals mg) (hb : s.heap.Ns builtinsNs mb) (hbs : mb "super" = some (.type "super"))
    (htop : (prog.main.scope.names.lookup ("super" : Str)).isSome = false) (hx : s.heap.get? x = some (HandSPX.excO C t0)) (hnx : K.lookup x = none) (hroom : A.depth < recursionLimit)
    (hq : ∀ h' tk dx t1, Done s.heap h' x C dx t1 F v → R (.ok (.ret .none)) { s with heap := h', toks := tk }) :
    codeAny (model prog w) A (.call (.ref fI) ⟨[.ref x, v], []⟩) R s := by
  obtain ⟨oc, od, kV, doc, pm, an, cda, ct, osl, cc, p1, p2, kk, q1, q2, q3, q4, q5, q6, q7, q8, q9, q10, ho, hcd, hpl, ⟨ccl, cdd, vs, ccs, tf, hcode, hvs⟩, cl, cld, csl, hcell⟩ := T.fn
  obtain ⟨nm, q', N, bs, bm, sn, sub, ab, col, dd, k0, k1, k2, k3, k5, hC, hbm⟩ := T.cls
  have hcl : clsIn K C = some { name := nm, bases := bs, mro := .ref C :: bm, ns := N, qualname := q', hasDict := true, slotNames := sn, subclasses := sub, abstract := ab, collection := col, hasDel := false } := by unfold clsIn; rw [hC] <;> rfl
  refine ks_codeAny_call_defAt (fd := ksFn "__init__" q (arg2 F p1 p2) (bod2 F txt kk q1 q2 q3 q4 q5 q6 q7 q8 q9 q10) (sco2 F) .none kV doc pm an (.ref cda) ct cc) (binds := [("self", .ref x), (F, v)]) hroom (X _ _ ho) rfl hlim (codeRec_of X hcd) rfl
    (BindsTo.of_eq (T.nm.b _ _ _ _ _ _ _ _ _ _ _ _ _)) (fun y hy => ?_) (fun y hy => ?_) (fun h₁ hns hk => ?_)
  · simp only [List.mem_cons, List.not_mem_nil, or_false] at hy
    rcases hy with rfl | rfl | rfl | rfl <;> (intro z; cases z)
  · simp only [List.mem_cons, List.not_mem_nil, or_false] at hy
    rcases hy with rfl | rfl
    · exact T.nm.l
    · exact T.nm.f
  have X1 : K.In h₁ := X.keeps hk
  have g1 : h₁.Ns mainGlobals mg := hg.keeps hk
  have b1 : h₁.Ns builtinsNs mb := hb.keeps hk
  have x1 := hk _ _ hx
  have vS : ([(PySem.Str.ofString "self", Value.ref x), (F, v)] : List (Str × Value)).reverse.lookup ("self" : Str) = some (.ref x) := by
    show List.lookup ("self" : Str) [(F, v), (("self" : Str), Value.ref x)] = _
    simp [List.lookup, T.nm.en]
  have vF : ([(PySem.Str.ofString "self", Value.ref x), (F, v)] : List (Str × Value)).reverse.lookup F = some v := by
    show List.lookup F [(F, v), (("self" : Str), Value.ref x)] = _
    simp [List.lookup]
  show _root_.PySem.wpAt _ _ _ (execs (_ :: _) _) _ _ _
  refine ks_wpAt_execs_cons (ks_wpAt_Expr_any (ks_wpAt_MethodCall ?_ (mcall1 hpl)))
  obtain ⟨oD, hD1, hD2⟩ : ∃ oD, h₁.get? C = some oD ∧ oD.data = .cls { name := nm, bases := bs, mro := .ref C :: bm, ns := N, qualname := q', hasDict := true, slotNames := sn, subclasses := sub, abstract := ab, collection := col, hasDel := false } := ⟨_, X1 _ _ hC, rfl⟩
  have I1 : InstAt h₁ x (HandSPX.excO C t0) C none := ⟨x1, rfl, rfl, trivial⟩
  refine ks_wpAt_super_base T.nm.s T.nm.c (by decide) rfl (X1 _ _ ho) rfl rfl rfl (X1 _ _ hcode) rfl hvs (beq_self_eq_true _) htop ?_
  refine ks_loadName_global rfl T.nm.s (loadGlobal_builtin g1 (mg_none_of X1 g1 T.gs) b1 hbs ⟨rfl, ?_⟩)
  refine wpAny_loadName_free rfl T.nm.c (by rfl) ⟨_, X1 _ _ hcell, rfl⟩ ?_
  refine wpAny_loadName_local rfl T.nm.l hns vS ?_
  refine ks_wpAny_isType_cls hD1 hD2 ⟨rfl, ?_⟩
  refine ks_wpAny_call_super hD1 hD2 x1 rfl (fun c e => by cases e) (looks_mroIn X1 T.slf) (fun h₂ e2 k2' => ?_)
  have X2 : K.In h₂ := X1.keeps k2'
  have x2 := k2' _ _ x1
  have n2 : h₂.Ns s.heap.objs.size (fun y => ([(PySem.Str.ofString "self", Value.ref x), (F, v)] : List (Str × Value)).reverse.lookup y) := hns.keeps k2'
  have I2 : InstAt h₂ x (HandSPX.excO C t0) C none := ⟨x2, rfl, rfl, trivial⟩
  have hxC : x ≠ C := ks_ne X2 I2 hcl
  have hsup := T.sup
  unfold ks_superIn at hsup
  rw [hcl] at hsup
  have hI : Looks (model prog w) h₂ (isInstance (.ref x) (.type "ValueError")) true := I2.type.andThen (looks_subIn X2 T.veC)
  show wpAny _ _ (getMethod (.ref h₁.objs.size) "__init__" _) _ _ _
  refine kxs_getMethod kxs_ValueError e2 (looks_opaque X2 T.tp) (l₀ := .ref C :: bm) (fun A Q E s k z => wpAny_bind ((looks_clsIn X2 hcl) A _ E s k (wpAny_pure z))) rfl X2 hsup hI hxC (by decide) ?_
  have k3' : ∀ b o, h₂.get? b = some o → (h₂.push (kxs_mw "ValueError.__init__" x)).get? b = some o := fun b o e => Heap.get?_push_of_some _ e
  have u3 : (h₂.push (kxs_mw "ValueError.__init__" x)).get? h₂.objs.size = some (kxs_mw "ValueError.__init__" x) := Heap.get?_push_size _ rfl
  refine kxs_callWith (i := "ValueError.__init__") (x := x) rfl (evalArgs_plain (spliced_cons (Constant_str (k := kk) (pos := q4) (spliced_nil ⟨u3, ?_⟩))))
  refine mw_call (k3' _ _ (X2 _ _ hC)) (k3' _ _ x2) u3 (by show 1 ≤ sizeLine; rw [sizeLine_eq]; omega) fun h₄ t1 k4 x4 => ?_
  have X4 : K.In h₄ := fun a o e => k4 a o (fun z => by rw [z, hnx] at e; cases e) (k3' _ _ (X2 _ _ e))
  have hxL : s.heap.objs.size ≠ x := Nat.ne_of_gt (Heap.lt_size hx)
  have n4 : h₄.Ns s.heap.objs.size (fun y => ([(PySem.Str.ofString "self", Value.ref x), (F, v)] : List (Str × Value)).reverse.lookup y) := by
    obtain ⟨o, es, ep, e, r⟩ := n2
    exact ⟨o, es, ep, k4 _ _ hxL (k3' _ _ e), r⟩
  show _root_.PySem.wpAt _ _ _ (execs (_ :: _) _) _ _ _
  refine wpAt_of_wpAny (wpAny_execs_cons (plainObj_wpAny_Assign_Attribute ?_))
  refine wpAny_Name (wpAny_loadName_local rfl T.nm.f n4 vF ?_) T.nm.db
  refine wpAny_Name (wpAny_loadName_local rfl T.nm.l n4 vS ?_) (by decide)
  refine set_plain X4 (ox := HandSPX.excO C t1) (od := none) ⟨x4, rfl, rfl, trivial⟩ T.sa ?_
  refine HandSPX.exc_osa X4 x4 hcl (show HandSPX.refsVE (.ref C :: bm) = true from hbm) rfl T.noF (fun h₅ tk₅ dx k₅ dn dne hx₅ hn₅ => ?_)
  show wpAny _ _ (execs _ _) _ _ _
  have z4 : ∀ b o, b ≠ x → s.heap.get? b = some o → h₄.get? b = some o := fun b o hb e => k4 b o hb (k3' _ _ (k2' _ _ (hk _ _ e)))
  refine wpAny_execs_nil (hq h₅ tk₅ dx t1 ⟨fun b o hb e => k₅ b o hb (z4 b o hb e), hx₅, ?_, dne, hn₅⟩)
  obtain ⟨o4, es4, ep4, e4, _⟩ := n4
  exact Nat.le_of_lt (Nat.lt_of_lt_of_le (Heap.lt_size e4) dn)

/-- a made one -/
structure Made (h h' : Heap) (e C d : Addr) (F : Str) (v : Value) : Prop where
  keep : ∀ b o, h.get? b = some o → h'.get? b = some o
  new : h.objs.size ≤ e
  obj : ∃ t1 : Addr, h'.get? e = some { cls := .ref C, dict := some d, data := .fields #[.ref t1, .none, .none, .none, .bool false, .none] }
  dbig : h.objs.size ≤ d
  dne : d ≠ e
  ns : h'.Ns1 d (fun y => if y = F then some v else none)
theorem madeX (T : Txt prog.main.file K q F txt C fI) {v : Value} (X : K.In s.heap) (hlim : s.heap.NoLimit) (hg : s.heap.Ns mainGlobals mg) (hb : s.heap.Ns builtinsNs mb) (hbs : mb "super" = some (.type "super"))
    (htop : (prog.main.scope.names.lookup ("super" : Str)).isSome = false) (hroom : A.depth + 1 < recursionLimit)
    (hq : ∀ h' tk e d, Made s.heap h' e C d F v → R (.ok (.ret (.ref e))) { s with heap := h', toks := tk }) :
    codeAny (model prog w) A (.call (.ref C) ⟨[v], []⟩) R s := by
  obtain ⟨nm, q', N, bs, bm, sn, sub, ab, col, dd, k0, k1, k2, k3, k5, hC, hbm⟩ := T.cls
  obtain ⟨hp, g, dr, tk, os⟩ := s
  have k : ∀ b o, hp.get? b = some o → ((hp.push (kdv_tup [v])).push (HandSPX.excO C hp.objs.size)).get? b = some o := fun b o e => Heap.get?_push_of_some _ (Heap.get?_push_of_some _ e)
  have hget : ((hp.push (kdv_tup [v])).push (HandSPX.excO C hp.objs.size)).get? (hp.objs.size + 1) = some (HandSPX.excO C hp.objs.size) := by heap_get
  have hnx : K.lookup (hp.objs.size + 1) = none := by
    cases e : K.lookup (hp.objs.size + 1) with
    | none => rfl
    | some o =>
      have z : hp.get? (hp.objs.size + 1) = some o := X _ _ e
      exact absurd (Nat.lt_of_succ_lt (Heap.lt_size z)) (Nat.lt_irrefl _)
  refine HandSPX.call_own _root_.PySem.F.excBase_ValueError (fun X => HandSPX.refsVE_contains X bm hbm) (X _ _ hC) (looks_findIn X T.iC) (fun self => bind_fn X self T.tC) (by show 1 ≤ sizeLine; rw [sizeLine_eq]; omega) ?_
  refine initX (s := ⟨(hp.push (kdv_tup [v])).push (HandSPX.excO C hp.objs.size), g, dr, tk, os⟩) T (X.keeps k) (hlim.keeps k) (hg.keeps k) (hb.keeps k) hbs htop hget hnx ?_ fun h' tk' dx t1 D => ?_
  · show A.depth + 1 < recursionLimit
    exact hroom
  · have old : ∀ b o, hp.get? b = some o → h'.get? b = some o := fun b o e => D.keep b o (Nat.ne_of_lt (Nat.lt_succ_of_lt (Heap.lt_size e))) (k b o e)
    have z : hp.objs.size + 1 + 1 ≤ dx := by
      have q := D.dbig
      simp only [Heap.size_push] at q
      exact q
    exact ⟨rfl, hq h' tk' (hp.objs.size + 1) dx ⟨old, Nat.le_succ _, ⟨_, D.obj⟩, Nat.le_trans (Nat.le_trans (Nat.le_succ _) (Nat.le_succ _)) z, D.dne, D.ns⟩⟩
end
end Xb
set_option Elab.async false
set_option linter.all false
set_option maxRecDepth 100000
set_option maxHeartbeats 4000000
namespace Xb
open PySem PySem.Spec PyProof.Rows L2
theorem boot_super : bootBuiltins "super" = some (.type "super") := by decide +kernel
theorem relO_one {F : Str} {v : V} {v' : Value} (r : RelV v v') (f : Str) : RelO (List.lookup f [(F, v)]) (if f = F then some v' else none) := by
  by_cases hw : f = F
  · subst hw
    rw [if_pos rfl]
    have q : List.lookup f [(f, v)] = some v := by simp [List.lookup]
    rw [q]
    exact r
  · rw [if_neg hw]
    have qw : (f == F) = false := by simpa using hw
    have q2 : List.lookup f [(F, v)] = none := by simp [List.lookup, qw]
    rw [q2]
    trivial
section
variable {X : Cx} {C fI : Addr} {q F txt : Str}
/-- C(e), to be raised -/
def tMkX (C : Addr) (F : Str) (ta : TA) : L2.St → Hp → XK → Prop := fun σ H Q => ta σ H fun vs H1 => ∃ v, vs = [v] ∧ ∀ d, H1 d = none → Q (.ref C) (some d) (upd H1 d (.xd [(F, v)]))
theorem pmk_x {x : Str} {a : Expr} {ta : TA} {p pos : Pos} {k : Nat} (T : Txt X.prog.main.file X.K q F txt C fI) (hm : X.mg x = some (.ref C)) (htop : (X.prog.main.scope.names.lookup ("super" : Str)).isSome = false) (hr : Room k X.A) (ha : PA X [a] ta) (hg : Gl X x := by rfl)
    (hdb : (x == ("__debug__" : Str)) = false := by decide)
    (he : starEach (a :: []) X.env = (false, eval a X.env) :: starEach [] X.env := by rfl) (hpl : (backTo pos (starEach [] X.env)).any (·.1) = false := by rfl) :
    PMk X (.Call (.Name x p) [a] [] pos) (tMkX C F ta) := by
  intro pins s σ H Q I h
  refine wpAny_Call_Name_kw (ld_glob I hg hm ?_ hdb)
  refine PySem.W.callWith_K (h₀ := X.base) I.ok.mod.kin T.kC (thn (ha.run pos pins s σ H _ I h) fun us s1 hh => ?_) he hpl
  obtain ⟨vs, H1, I1, r1, v, ev, q1⟩ := hh
  subst ev
  refine ⟨I1.kIn, ?_⟩
  cases r1 with
  | cons rv rn =>
    rename_i v' us'
    cases rn
    show wpAny _ _ (call (.ref C) [v']) _ _ _
    have hlim := I1.nolimit
    have M := I1.mod
    have hns : s1.heap.Ns mainGlobals X.mg := M.glob.keeps I1.bk
    obtain ⟨mb, hb, hbb⟩ := M.blt
    have hb1 : s1.heap.Ns builtinsNs mb := hb.keeps I1.bk
    have hbs : mb "super" = some (.type "super") := (hbb _ (by decide)).trans boot_super
    obtain ⟨hp, g, dr, tk, os⟩ := s1
    refine wpAny_call (madeX T I1.kIn hlim hns hb1 hbs htop (by have := hr.dp; omega) fun h' tk' e d M => ?_)
    show MkP X pins σ Q (.ref e) ⟨h', g, dr, tk', os⟩
    obtain ⟨t1, hoe⟩ := M.obj
    obtain ⟨G', g1, g2⟩ := restrict h' fun b => decide (b ≠ e)
    have gk : ∀ b, b ≠ e → G'.get? b = h'.get? b := fun b hb => g1 b (decide_eq_true hb)
    have ge : G'.get? e = none := g2 e (by simp)
    have old : ∀ b o, hp.get? b = some o → G'.get? b = some o := fun b o q => (gk b (Nat.ne_of_lt (Nat.lt_of_lt_of_le (Heap.lt_size q) M.new))).trans (M.keep b o q)
    have ob : ObjOk X.prog X.w (upd H1 d (.xd [(F, v)])) G' d (.xd [(F, v)]) :=
      ⟨_, M.ns.at (fun o q => (gk d M.dne).trans q), fun f => relO_one rv f⟩
    have J : Inv X pins σ (upd H1 d (.xd [(F, v)])) ⟨G', g, dr, tk', os⟩ := I1.laid (t' := tk') old M.dbig ob
    refine ⟨e, _, _, ⟨G', g, dr, tk', os⟩, _, .ref C, some d, rfl, J, fun b o q => ?_, ge, hoe, ⟨rfl, rfl⟩, rfl, rfl, ?_, rfl, I1.bare, raises_own T.exC T.tyC, q1 d (I1.hok.fresh M.dbig)⟩
    · by_cases hb : b = e
      · have q' : G'.get? b = some o := q
        rw [hb, ge] at q'; cases q'
      · exact (gk b hb).symm.trans q
    · rw [upd_ne (Ne.symm M.dne)]
      exact I1.hok.fresh M.new
/-- raise C(e) -/
def tRaiseX (C : Addr) (F : Str) (W : WX) (ta : TA) : TS := fun _ σ H => tMkX C F ta σ H fun cls d H' => W cls d σ H'
theorem ps_raiseX {x : Str} {a : Expr} {ta : TA} {W : WX} {p pos pos2 : Pos} {k : Nat} (hc : X.calm = true) (T : Txt X.prog.main.file X.K q F txt C fI) (hm : X.mg x = some (.ref C)) (htop : (X.prog.main.scope.names.lookup ("super" : Str)).isSome = false) (hr : Room k X.A) (tk : Takes X W) (ha : PA X [a] ta) (hg : Gl X x := by rfl)
    (hdb : (x == ("__debug__" : Str)) = false := by decide)
    (he : starEach (a :: []) X.env = (false, eval a X.env) :: starEach [] X.env := by rfl) (hpl : (backTo pos (starEach [] X.env)).any (·.1) = false := by rfl) :
    PS X (.Raise (some (.Call (.Name x p) [a] [] pos)) none pos2) (tRaiseX C F W ta) := ps_raise hc tk (pmk_x T hm htop hr ha hg hdb he hpl)
/-- e.F, e the exception that the suite holds (at a; its class cls, its dict d) -/
def tByX (C : Addr) (F : Str) (a : Addr) (cls : Value) (d : Option Addr) (te : TE) : TE := fun σ H Q => te σ H fun x H1 => x = .ref a ∧ cls = .ref C ∧ ∃ (dd : Addr) (v : V), d = some dd ∧ H1 dd = some (.xd [(F, v)]) ∧ Q v H1
theorem pe_byX {a : Addr} {oe : Obj} {cls : Value} {d : Option Addr} {pn : List (Addr × Obj)} {e : Expr} {te : TE} {pos : Pos} (T : Txt X.prog.main.file X.K q F txt C fI) (hz : Zc cls d oe) (hf : ∃ vs, oe.data = .fields vs) (he : PE (X.suite a ((a, oe) :: pn)) e te)
    (hb : attributeBase e F X.env (eval e X.env) = eval e X.env := by rfl) :
    PE (X.suite a ((a, oe) :: pn)) (.Attribute e F pos) (tByX C F a cls d te) := by
  refine ⟨fun pins s σ H Q I h => ?_⟩
  refine attr_of hb (thn (he.run pins s σ H _ I h) fun u s1 hh => ?_)
  obtain ⟨x, H1, I1, rx, ex, ec, dd, v, ed, ea, q⟩ := hh
  subst ex
  obtain rfl : u = Value.ref a := rx
  subst ec
  subst ed
  obtain ⟨ha, _⟩ := I1.pin (a, oe) (List.mem_append_left _ List.mem_cons_self)
  obtain ⟨vs, hd⟩ := hf
  have hx : ObjOk X.prog X.w H1 s1.heap dd (.xd [(F, v)]) := I1.hok dd _ ea
  obtain ⟨mA, hns, hr⟩ := hx
  obtain ⟨od, ho, hl⟩ := lookIn_ns hns
  have l : List.lookup F [(F, v)] = some v := by simp [List.lookup]
  obtain ⟨u, hu, ru⟩ := RelO.some_of (v := v) (o := mA F) (by rw [← l]; exact hr F)
  have J : PySem.W.InstAt s1.heap a oe C (some od) := ⟨ha, hz.1, by unfold PySem.W.notCls; rw [hd] <;> rfl, by rw [hz.2]; exact ho⟩
  exact HandSPX.exc_get I1.kIn J T.ga T.gg T.exC (PySem.W.findObj_own T.hdC T.noF rfl (by rw [hl, hu])) (handed_of ru) ⟨v, H1, I1.tok _, ru, q⟩
end
end Xb
set_option Elab.async false
set_option linter.all false
set_option maxRecDepth 100000
set_option maxHeartbeats 4000000
namespace Fa
open PySem PySem.Spec PyProof.Rows L2
/-! ### the draws of the laws: a box of three ints -/
/-- a box at p, of which fewer than n draws were taken by the second way -/
def Box (H : Hp) (p : Addr) (n : Nat) : Prop := ∃ a b c : Int, H p = some (.lst [.int a, .int b, .int c]) ∧ 0 ≤ a ∧ 0 ≤ b ∧ b < 2147483648 ∧ 0 ≤ c ∧ c ≤ (n : Int)
theorem Box.mono {H : Hp} {p : Addr} {n m : Nat} (h : Box H p n) (e : n ≤ m) : Box H p m := by
  obtain ⟨a, b, c, h1, h2, h3, h4, h5, h6⟩ := h
  exact ⟨a, b, c, h1, h2, h3, h4, h5, by omega⟩
/-- all but p is as it was -/
def But (p : Addr) (H H' : Hp) : Prop := ∀ q, q ≠ p → H' q = H q
theorem But.refl (p : Addr) (H : Hp) : But p H H := fun _ _ => rfl
theorem But.trans {p : Addr} {H H1 H2 : Hp} (a : But p H H1) (b : But p H1 H2) : But p H H2 := fun q h => (b q h).trans (a q h)
theorem But.upd {p : Addr} {H : Hp} {o : HO} : But p H (upd H p o) := fun _ h => upd_ne h
def spCel (K : PySem.W.Frag) : Sp := fun vs H Q _ => ∃ (l : Addr) (ns : List Int) (j : Nat), vs = [.ref l, .int (j : Int)] ∧ SqL K H l (ns.map V.int) ∧ j ≤ 1000 ∧ ∀ z : Int, Q (.int z) H
def spBox : Sp := fun vs H Q _ => ∃ c : Int, vs = [.int c] ∧ ∀ p H', H p = none → (∀ q, q ≠ p → H' q = H q) → Box H' p 0 → Q (.ref p) H'
def spTake : Sp := fun vs H Q _ => ∃ (p : Addr) (m : Int) (n : Nat), vs = [.ref p, .int m] ∧ Box H p n ∧ n ≤ 1000000 ∧ 0 < m ∧ m < 2 ^ 1000 ∧ ∀ (z : Int) (H' : Hp), 0 ≤ z → z < m → Box H' p (n + 1) → But p H H' → Q (.int z) H'
theorem cdivW {a m : Int} (h : 0 < m) (h2 : m < 2 ^ 1000) : CDivW a m := ⟨h, by
  have e : m.natAbs < 2 ^ 1000 := by omega
  exact Nat.lt_of_lt_of_le ((Nat.log2_lt (by omega)).mpr e) (by omega)⟩
theorem atI3 {α : Type} {a b c : α} (i : Int) (h0 : i = 0 ∨ i = 1 ∨ i = 2) : atI [a, b, c] i = some (if i = 0 then a else if i = 1 then b else c) := by
  rcases h0 with rfl | rfl | rfl <;> rfl
end Fa
set_option Elab.async false
set_option linter.all false
set_option maxRecDepth 100000
set_option maxHeartbeats 4000000
namespace K13
open PySem PySem.Spec PyProof.Rows L2 Fa
def top (i : Nat) : Stmt := PySem.Challenge.pw_anytempo_k13_bounds_of_facts.main.body.getD i (.Pass ⟨0, 0, 0, 0⟩)
abbrev FnP (K : PySem.W.Frag) (x : Str) (st : Stmt) (f : Addr) (fd : FuncData) : Prop := FunD K x x (defArgs st) (defBody st) (defScope st) [] [] f fd

abbrev sCell : Stmt := top 57
abbrev sBox : Stmt := top 58
abbrev sTake : Stmt := top 59
theorem scCell : FnScope ["_law_script", "_law_k"] ["_law_script", "_law_k"] (defScope sCell) := ⟨rfl, rfl, rfl, by decide +kernel, rfl, by decide +kernel, by decide +kernel⟩
theorem scBox : FnScope ["_law_cell_here"] ["_law_cell_here"] (defScope sBox) := ⟨rfl, rfl, rfl, by decide +kernel, rfl, by decide +kernel, by decide +kernel⟩
theorem scTake : FnScope ["_law_box_here", "_law_many", "_law_digit", "_law_mixed"] ["_law_box_here", "_law_many"] (defScope sTake) := ⟨rfl, rfl, rfl, by decide +kernel, rfl, by decide +kernel, by decide +kernel⟩
section
variable {P : Program} {w : World} {K : PySem.W.Frag} {mg : Str → Option Value} {base : Heap} {f : Addr} {fd : FuncData}
theorem ok_cell (F : FnP K "_law_cell" sCell f fd) (mL : mg "len" = none) : FnOk P w K mg base CX0 1 f fd ["_law_script", "_law_k"] (spCel K) := by
  refine F.ok scCell (fun vs H Q E h => ?_) (fun cdv A outer s H vs Q E hr h => ?_)
  · obtain ⟨l, ns, j, rfl, _⟩ := h
    rfl
  · obtain ⟨l, ns, j, rfl, hs, hj, q⟩ := h
    refine ⟨_, PSs.nox (pss_cons (ps_if (pt_cmpR op_lt (pv 1) (pe_callB call_len rfl mL boot_len (pa_cons (pv 0) pa_nil)) (nomark _)) (pss_one (ps_ret (pe_ix ix_list (pv 0) (pv 1) (fun _ _ => rfl)))) pss_nil)
      (pss_one (ps_ret (pe_op op_add (pe_op op_mul pe_int (pv 1)) pe_int)))), ?_⟩
    refine ⟨_, rfl, _, rfl, _, (ns.map V.int).length, rfl, .inl ⟨_, hs, rfl⟩, _, _, rfl, rfl, _, rfl, ?_⟩
    refine ite2 (fun c => ?_) (fun c => ?_)
    · have c2 := of_decide_eq_true c
      have c3 : j < ns.length := by
        rw [List.length_map] at c2
        omega
      have e : atI (ns.map V.int) (j : Int) = some (.int ns[j]) := atI_nat (by
        rw [List.getElem?_map, List.getElem?_eq_getElem c3]
        rfl)
      exact ⟨_, rfl, _, rfl, l, _, _, _, rfl, rfl, hs, e, q _⟩
    · refine ⟨_, rfl, _, _, rfl, rfl, .inl ⟨by decide, by decide⟩, _, _, rfl, rfl, q _⟩
theorem ok_box (F : FnP K "_law_box" sBox f fd) (mM : mg "max" = none) : FnOk P w K mg base CX0 1 f fd ["_law_cell_here"] spBox := by
  refine F.ok scBox (fun vs H Q E h => ?_) (fun cdv A outer s H vs Q E hr h => ?_)
  · obtain ⟨c, rfl, _⟩ := h
    rfl
  · obtain ⟨c, rfl, q⟩ := h
    refine ⟨_, PSs.nox (pss_one (ps_ret (pe_lst (pa_cons (pe_callB (call_max2 rfl) rfl mM (by decide +kernel) (pa_cons pe_int (pa_cons (pe_op op_sub (pv 0) (pe_op op_pow pe_int pe_int)) pa_nil)))
      (pa_cons (pe_op op_mod (pv 0) pe_int) (pa_cons pe_int pa_nil)))))), ?_⟩
    refine ⟨_, rfl, _, _, rfl, rfl, ⟨by decide, by decide, by decide⟩, _, _, rfl, rfl, _, _, rfl, ?_⟩
    refine ⟨_, rfl, _, _, rfl, rfl, (by show (0 : Int) < 2147483629; decide), (by show 3 ≤ sizeLine; decide), fun p hp => ?_⟩
    refine q p _ hp (fun z hz => upd_ne hz) ⟨_, _, _, upd_same, ?_, ?_, ?_, by decide, by decide⟩
    · split <;> omega
    · exact Int.emod_nonneg _ (by decide)
    · exact Int.lt_trans (Int.emod_lt_of_pos _ (by decide)) (by decide)
theorem ok_take (F : FnP K "_law_take" sTake f fd) : FnOk P w K mg base CX0 1 f fd ["_law_box_here", "_law_many"] spTake := by
  refine F.ok scTake (fun vs H Q E h => ?_) (fun cdv A outer s H vs Q E hr h => ?_)
  · obtain ⟨p, m, n, rfl, _⟩ := h
    rfl
  · obtain ⟨p, m, n, rfl, ⟨a, b, c, hp, ha, hb, hb2, hc, hc2⟩, hn, hm, hm2, q⟩ := h
    refine ⟨_, PSs.nox (pss_cons (ps_if (pt_cmpR op_gt (pe_ix ix_list (pv 0) pe_int (fun _ _ => rfl)) pe_int (nomark _))
        (pss_cons (ps_set (i := 2) scTake.nd rfl (Or.inl rfl) (pe_op op_mod (pe_ix ix_list (pv 0) pe_int (fun _ _ => rfl)) (pv 1)))
        (pss_cons (ps_asg (pe_op op_fdivW (pe_ix ix_list (pv 0) pe_int (fun _ _ => rfl)) (pv 1)) (pg_sub (pv 0) pe_int set_list))
        (pss_one (ps_ret (pv 2))))) pss_nil)
      (pss_cons (ps_asg (pe_op op_add (pe_ix ix_list (pv 0) pe_int (fun _ _ => rfl)) pe_int) (pg_sub (pv 0) pe_int set_list))
      (pss_cons (ps_set (i := 3) scTake.nd rfl (Or.inl rfl) (pe_op op_mod (pe_op op_pow (pe_op op_add (pe_op op_add (pe_ix ix_list (pv 0) pe_int (fun _ _ => rfl)) (pe_op op_mul pe_int (pe_ix ix_list (pv 0) pe_int (fun _ _ => rfl)))) pe_int) pe_int) pe_int))
      (pss_cons (ps_set (i := 3) scTake.nd rfl (Or.inl rfl) (pe_op op_mod (pe_op op_pow (pe_op op_add (pv 3) (pe_op op_mul pe_int (pe_ix ix_list (pv 0) pe_int (fun _ _ => rfl)))) pe_int) pe_int))
      (pss_one (ps_ret (pe_op op_mod (pe_op op_fdiv (pv 3) pe_int) (pv 1)))))))), ?_⟩
    refine ⟨_, rfl, p, _, _, _, rfl, rfl, SqL.of hp, rfl, _, _, rfl, rfl, _, rfl, ?_⟩
    refine ite2 (fun t => ?_) (fun t => ?_)
    · have t2 : (0 : Int) < a := of_decide_eq_true t
      refine ⟨_, rfl, p, _, _, _, rfl, rfl, SqL.of hp, rfl, _, rfl, _, _, rfl, rfl, hm, ?_⟩
      refine ⟨_, rfl, p, _, _, _, rfl, rfl, SqL.of hp, rfl, _, rfl, _, _, rfl, rfl, cdivW hm hm2, ?_⟩
      refine ⟨_, rfl, p, _, _, _, rfl, rfl, hp, rfl, ?_⟩
      refine ⟨_, rfl, ?_⟩
      refine q _ _ (Int.emod_nonneg _ (by omega)) (Int.emod_lt_of_pos _ hm) ⟨_, _, _, upd_same, Int.ediv_nonneg ha (by omega), hb, hb2, hc, by omega⟩ But.upd
    · refine ⟨_, rfl, p, _, _, _, rfl, rfl, SqL.of hp, rfl, _, _, rfl, rfl, _, rfl, p, _, _, _, rfl, rfl, hp, rfl, ?_⟩
      have s1 : SqL K (upd H p (.lst [.int a, .int b, .int (c + 1)])) p [.int a, .int b, .int (c + 1)] := SqL.of upd_same
      refine ⟨_, rfl, p, _, _, _, rfl, rfl, s1, rfl, _, rfl, p, _, _, _, rfl, rfl, s1, rfl, _, _, rfl, rfl, .inl ⟨by decide, by decide⟩, _, _, rfl, rfl, _, _, rfl, rfl, _, _, rfl, rfl, ⟨by decide, by decide, ?_⟩, _, _, rfl, rfl, (by show (0 : Int) < 2147483647; decide), ?_⟩
      · show (b + 15489157 * (c + 1) + 1583).natAbs < 2 ^ 64
        omega
      have g1 : 0 ≤ (b + 15489157 * (c + 1) + 1583) ^ Int.toNat 5 % 2147483647 := Int.emod_nonneg _ (by decide)
      have g2 : (b + 15489157 * (c + 1) + 1583) ^ Int.toNat 5 % 2147483647 < 2147483647 := Int.emod_lt_of_pos _ (by decide)
      refine ⟨_, rfl, _, rfl, p, _, _, _, rfl, rfl, s1, rfl, _, _, rfl, rfl, .inl ⟨by decide, by decide⟩, _, _, rfl, rfl, _, _, rfl, rfl, ⟨by decide, by decide, ?_⟩, _, _, rfl, rfl, (by show (0 : Int) < 2147483587; decide), ?_⟩
      · show ((b + 15489157 * (c + 1) + 1583) ^ Int.toNat 5 % 2147483647 + 104711 * (c + 1)).natAbs < 2 ^ 64
        omega
      refine ⟨_, rfl, _, _, rfl, rfl, ⟨by decide, by decide⟩, _, rfl, _, _, rfl, rfl, hm, ?_⟩
      exact q _ _ (Int.emod_nonneg _ (by omega)) (Int.emod_lt_of_pos _ hm) ⟨_, _, _, upd_same, ha, hb, hb2, by omega, by omega⟩ But.upd
end

end K13
set_option Elab.async false
set_option linter.all false
set_option maxRecDepth 100000
set_option maxHeartbeats 4000000
namespace Fb
open PySem PySem.W PySem.Calls PyProof.Rows
section
variable {prog : Program} {w : World} {A : Around} {E : Value → Shared → Prop} {s : Shared} {K : Frag} {x C L f : Addr} {h₀ : Heap} {m : Str → Option Value} {ox : Obj} {od : Option Obj} {T : String}
/-- x op b, x an instance with its own def for op, b of a built-in type T (b may be an object) -/
theorem bin_any {op : Operator} {b : Value} {fo ro rc : Option Value} {Q : Value → Shared → Prop}
    (X : K.In s.heap) (I : InstAt s.heap x ox C od) (hb : ∀ M : Model, Looks M s.heap (typeOf b) (.type T)) (hc : selfFirst K C = true)
    (hs : findIn K (.ref C) (PySem.dunder op.info.2) = some (some (.ref f))) (hf : isFn K (.ref f) = true)
    (hr : findIn K (.ref C) (dunderR op.info.2) = some rc) (hp : rc = none ∨ ∃ g : Addr, rc = some (.ref g))
    (h1 : findIn K (.type T) (PySem.dunder op.info.2) = some fo) (h2 : findIn K (.type T) (dunderR op.info.2) = some ro) (hsub : subIn K (.type T) (.ref C) = some false)
    (h : wpAny (model prog w) A (call (.ref f) [.ref x, b]) (W.CmpBack Q) E s) : wpAny (model prog w) A (binaryOp op (.ref x) b) Q E s := by
  obtain ⟨cd, rest, hcd, hm⟩ := ksp_first hc
  rcases hi : op.info with ⟨sym, nm⟩
  rw [hi] at hs hr h1 h2
  dsimp only at hs hr h1 h2
  have one := ksp_try X I hs hf h
  obtain ⟨hh, g, d, tt, os⟩ := s
  have A1 : Looks (model prog w) hh (typeOf (.ref x)) (.ref C) := I.type
  have A2 : Looks (model prog w) hh (typeOf b) (.type T) := hb _
  have A3 : Looks (model prog w) hh (fillsNumberSlot (.ref C) nm) true := fills_K X hcd hm hs
  have A4 := ksp_fillsT (M := model prog w) (nm := nm) (T := T) X h1 h2
  have A5 : Looks (model prog w) hh (isSubtype (.type T) (.ref C)) false := looks_subIn X hsub
  have A6 : Looks (model prog w) hh (numberSlotInPython (.ref C) nm) true := ksp_inPy X hs hr hp
  have A7 : Looks (model prog w) hh (numberSlotInPython (.type T) nm) false := Looks.of_pure rfl
  have A8 : Looks (model prog w) hh (typeLookup (.type T) (dunderR nm)) ro := looks_findIn X h2
  generalize ((fo.isSome && !isSeqSlot fo) || (ro.isSome && !isSeqSlot ro)) = rt at A4
  have ne : (Value.ref C == Value.type T) = false := Bool.eq_false_iff.mpr fun z => by cases beq_iff_eq.mp z
  simp only [binaryOp, hi]
  refine wpAny_holding (wpAny_bind ?_)
  unfold binaryOp1
  refine wpAny_bind (A1.at (wpAny_bind (A2.at (wpAny_bind (A3.at ?_)))))
  simp only [ne, Bool.false_eq_true, if_false]
  cases rt <;>
  · ksp_lk
    refine wpAny_mono one (fun r s' z => ?_) fun _ _ e => e
    obtain ⟨v, rfl, hq⟩ := z
    ksp_lk
    exact hq
end
end Fb
namespace Fb
open PySem PySem.Spec PyProof.Rows L2
/-- an own operator of the class C, at the def f -/
structure OwnOp (K : PySem.W.Frag) (C : Addr) (nm : String) (f : Addr) : Prop where
  sf : PySem.W.selfFirst K C = true
  at_ : PySem.W.findIn K (.ref C) (PySem.dunder nm) = some (some (.ref f))
  fn : PySem.W.isFn K (.ref f) = true
  nr : PySem.W.findIn K (.ref C) (dunderR nm) = some none
/-- a built-in type at the right of it -/
def TyOp (K : PySem.W.Frag) (C : Addr) (nm : String) (T : String) : Prop := ∃ fo ro, PySem.W.findIn K (.type T) (PySem.dunder nm) = some fo ∧ PySem.W.findIn K (.type T) (dunderR nm) = some ro ∧ PySem.W.subIn K (.type T) (.ref C) = some false
/-- what may stand at the right -/
def RK (K : PySem.W.Frag) (C : Addr) (nm : String) (H : Hp) (y : V) : Prop := (∃ q dy gs, y = .ref q ∧ H q = some (.ins C dy gs)) ∨ ∃ T, TyX K H y (.type T) ∧ TyOp K C nm T
def tBinX (K : PySem.W.Frag) (C : Addr) (nm : String) (sp : Sp) (E : L2.St → XK) (ta tb : TE) : TE := fun σ H Q => ta σ H fun x H1 => tb σ H1 fun y H2 => ∃ p dx fs, x = .ref p ∧ H2 p = some (.ins C dx fs) ∧ RK K C nm H2 y ∧ sp [x, y] H2 Q (E σ)
def tUnX (C : Addr) (sp : Sp) (E : L2.St → XK) (ta : TE) : TE := fun σ H Q => ta σ H fun x H1 => ∃ p dx fs, x = .ref p ∧ H1 p = some (.ins C dx fs) ∧ sp [x] H1 Q (E σ)
section
variable {X : Cx} {CX : CXT} {k : Nat} {f C : Addr} {fd : FuncData} {ps : List Str} {sp : Sp} {E : L2.St → XK} {a b : Expr} {ta tb : TE} {pos : Pos}
theorem pe_binX {op : Operator} (W : OwnOp X.K C op.info.2 f) (F : FnOk X.prog X.w X.K X.mg X.base CX k f fd ps sp) (hr : Room k X.A) (hb : Binds X.K fd ps []) (hx : ∀ σ, PassesAt CX X σ (E σ)) (ha : PE X a ta) (hb2 : PE X b tb) :
    PE X (.BinOp a op b pos) (tBinX X.K C op.info.2 sp E ta tb) := by
  refine ⟨fun pins s σ H Q I h => ?_⟩
  refine wpAny_BinOp (bin ha hb2 I h fun v u s2 x y H2 I2 rx ry q => ?_)
  obtain ⟨p, dx, fs, ex, hp, rk, q⟩ := q
  subst ex
  obtain rfl : v = Value.ref p := rx
  obtain ⟨mA, O, _⟩ := ins_get I2.hok hp
  obtain ⟨od, J, _⟩ := O.look
  have go : wpAny (model X.prog X.w) X.A (call (.ref f) [.ref p, u]) (PySem.W.CmpBack (EP X pins σ Q)) X.xe s2 :=
    wpAny_mono (run_fnSD (dvs := []) (ds := []) (us := [.ref p, u]) (vs := [.ref p, y]) F hr hb .nil (hx σ) I2 (.cons rfl (.cons ry .nil)) q) (fun z s' hz => by
      obtain ⟨z', H', I', rz, qz⟩ := hz
      exact SlX.cmpback rz ⟨z', H', I', rz, qz⟩) fun _ _ x => x
  obtain ⟨m, hF⟩ := I2.fr
  rcases rk with ⟨q', dy, gs, ey, hq'⟩ | ⟨T, ty, fo, ro, h1, h2, h3⟩
  · subst ey
    obtain rfl : u = Value.ref q' := ry
    obtain ⟨mB, O', _⟩ := ins_get I2.hok hq'
    obtain ⟨od', J', _⟩ := O'.look
    exact PySem.W.binop_K hF I2.ok.mod.kin J J'.type W.sf W.at_ W.fn go
  · obtain ⟨P, Z, hP, _⟩ := kit_of I2 ry ty
    exact bin_any I2.kIn J (fun M => Z.ty M _ I2.kIn hP) W.sf W.at_ W.fn W.nr (.inl rfl) h1 h2 h3 go
/-- -a -/
theorem pe_negX (at_ : PySem.W.findIn X.K (.ref C) "__neg__" = some (some (.ref f))) (fn : PySem.W.isFn X.K (.ref f) = true) (F : FnOk X.prog X.w X.K X.mg X.base CX k f fd ps sp) (hr : Room k X.A) (hb : Binds X.K fd ps []) (hx : ∀ σ, PassesAt CX X σ (E σ)) (ha : PE X a ta) :
    PE X (.UnaryOp .USub a pos) (tUnX C sp E ta) := by
  refine ⟨fun pins s σ H Q I h => ?_⟩
  refine UnaryOp_ (thn (ha.run pins s σ H _ I h) fun v s1 ⟨x, H1, I1, r1, q1⟩ => ?_)
  obtain ⟨p, dx, fs, ex, hp, q⟩ := q1
  subst ex
  obtain rfl : v = Value.ref p := r1
  obtain ⟨mA, O, _⟩ := ins_get I1.hok hp
  obtain ⟨od, J, _⟩ := O.look
  obtain ⟨m, hF⟩ := I1.fr
  exact PySem.W.ksp_neg hF I1.ok.mod.kin J at_ fn (run_fnSD (dvs := []) (ds := []) (us := [.ref p]) (vs := [.ref p]) F hr hb .nil (hx σ) I1 (.cons rfl .nil) q)
/-- a == b, a an instance -/
theorem pe_eqX (at_ : PySem.W.findIn X.K (.ref C) "__eq__" = some (some (.ref f))) (fn : PySem.W.isFn X.K (.ref f) = true) (F : FnOk X.prog X.w X.K X.mg X.base CX k f fd ps sp) (hr : Room k X.A) (hb : Binds X.K fd ps []) (hx : ∀ σ, PassesAt CX X σ (E σ)) (ha : PE X a ta) (hb2 : PE X b tb) :
    PC X .Eq a b (fun σ H Q => ta σ H fun x H1 => tb σ H1 fun y H2 => ∃ p dx fs, x = .ref p ∧ H2 p = some (.ins C dx fs) ∧ ((∃ q dy gs, y = .ref q ∧ H2 q = some (.ins C dy gs)) ∨ ∃ T, TyX X.K H2 y (.type T) ∧ PySem.W.subIn X.K (.type T) (.ref C) = some false) ∧ sp [x, y] H2 Q (E σ)) := by
  refine ⟨fun pins s σ H Q I h => ?_⟩
  refine bin ha hb2 I h fun v u s2 x y H2 I2 rx ry q => ?_
  obtain ⟨p, dx, fs, ex, hp, rk, q⟩ := q
  subst ex
  obtain rfl : v = Value.ref p := rx
  obtain ⟨mA, O, _⟩ := ins_get I2.hok hp
  obtain ⟨od, J, _⟩ := O.look
  have go : wpAny (model X.prog X.w) X.A (call (.ref f) [.ref p, u]) (PySem.W.CmpBack (EP X pins σ Q)) X.xe s2 :=
    wpAny_mono (run_fnSD (dvs := []) (ds := []) (us := [.ref p, u]) (vs := [.ref p, y]) F hr hb .nil (hx σ) I2 (.cons rfl (.cons ry .nil)) q) (fun z s' hz => by
      obtain ⟨z', H', I', rz, qz⟩ := hz
      exact SlX.cmpback rz ⟨z', H', I', rz, qz⟩) fun _ _ x => x
  obtain ⟨m, hF⟩ := I2.fr
  rcases rk with ⟨q', dy, gs, ey, hq'⟩ | ⟨T, ty, h3⟩
  · subst ey
    obtain rfl : u = Value.ref q' := ry
    obtain ⟨mB, O', _⟩ := ins_get I2.hok hq'
    obtain ⟨od', J', _⟩ := O'.look
    exact PySem.W.cmp_K (op := .Eq) (tb := .ref C) hr.units0 hF I2.ok.mod.kin J J'.type (by simp [PySem.W.notFirst]) at_ fn go
  · obtain ⟨P, Z, hP, _⟩ := kit_of I2 ry ty
    exact PySem.W.cmp_K (op := .Eq) (tb := .type T) hr.units0 hF I2.ok.mod.kin J (fun A Q E s k z => Z.ty _ _ I2.kIn hP A Q E s k z) (by simp [PySem.W.notFirst, h3]) at_ fn go
end
end Fb
set_option Elab.async false
set_option linter.all false
set_option maxRecDepth 100000
set_option maxHeartbeats 4000000
namespace Fb
open PySem PySem.Spec PyProof.Rows L2
section
variable {X : Cx} {CX : CXT} {k : Nat} {f C : Addr} {fd : FuncData} {ps : List Str} {sp : Sp} {E : L2.St → XK} {a b : Expr} {ta tb : TE} {pos p : Pos}
theorem pe_absX (at_ : PySem.W.findIn X.K (.ref C) "__abs__" = some (some (.ref f))) (fn : PySem.W.isFn X.K (.ref f) = true) (F : FnOk X.prog X.w X.K X.mg X.base CX k f fd ps sp) (hr : Room (k + 2) X.A) (hb : Binds X.K fd ps []) (hx : ∀ σ, PassesAt CX X σ (E σ)) (hg : Gl X "abs") (hm : X.mg "abs" = none) (ha : PE X a ta)
    (he : starEach [a] X.env = (false, eval a X.env) :: starEach [] X.env := by rfl) (hpl : (backTo pos (starEach [] X.env)).any (·.1) = false := by rfl) :
    PE X (.Call (.Name "abs" p) [a] [] pos) (tUnX C sp E ta) := by
  refine ⟨fun pins s σ H Q I h => ?_⟩
  refine wpAny_Call_Name_kw (ld_blt I hg hm (by decide +kernel : bootBuiltins "abs" = some (.builtin "abs")) ?_)
  refine PyProof.Rows.callWith_builtin1 ?_ he hpl
  rw [he]
  show wpAny _ _ (spliced ((false, eval a X.env) :: backTo pos (starEach [] X.env))) _ _ s
  refine Calls.spliced_cons (thn (ha.run pins s σ H _ I h) fun v s1 ⟨x, H1, I1, r1, q1⟩ => Calls.spliced_nil ?_)
  obtain ⟨q0, dx, fs, ex, hp, q⟩ := q1
  subst ex
  obtain rfl : v = Value.ref q0 := r1
  obtain ⟨mA, O, _⟩ := ins_get I1.hok hp
  obtain ⟨od, J, _⟩ := O.look
  refine Calls.call_function_entry kind_abs plain_abs entry_abs (args_abs _) ?_
  have hr2 : Room k X.A.in1 := (show Room (k + 1) X.A.in1 from Room.in1 hr).mono (Nat.le_succ _)
  have hl : ([Value.ref q0]).length = ps.length := by
    rw [← F.len _ _ _ _ q]
    rfl
  have go : wpAny (model X.prog X.w) X.A.in1 (call (.ref f) [.ref q0]) (EP X pins σ Q) X.xe s1 := by
    refine wpAny_call (codeAny_mono (F.run X.A.in1 X.stack s1 H1 ⟨[.ref q0], []⟩ [.ref q0] [.ref q0] Q (E σ) hr2 I1.env0.in1 (hb s1 [.ref q0] I1.kIn hl) (.cons rfl .nil) q) fun r s' hq => ?_)
    cases r with
    | error e => exact hx σ pins H1 s1 e s' I1 hq
    | ok fl =>
      cases fl with
      | ret u => exact I1.after hq
      | next => exact False.elim hq
      | brk => exact False.elim hq
      | cont => exact False.elim hq
  unfold Builtin.«abs»
  refine wpAny_bind (m := oneArg "abs" _) (wpAny_pure ?_)
  refine wpAny_bind (m := callSpecial? (.ref q0) (Str.ofString "__abs__")) (PySem.W.special_fn I1.kIn J at_ (beq_iff_eq.mp fn) (wpAny_mono go (fun v' s' hv => ?_) fun _ _ y => y))
  exact wpAny_pure ⟨_, rfl, hv⟩
end
end Fb
set_option maxRecDepth 100000
namespace Am
/-- in lowest terms, the bottom above 0 -/
def Red (t u : Int) : Prop := 0 < u ∧ Nat.gcd t.natAbs u.natAbs = 1
theorem mk (a b : Int) (hb : b ≠ 0) (c : Int) (hc : c = (if b < 0 then -((Nat.gcd a.natAbs b.natAbs : Nat) : Int) else ((Nat.gcd a.natAbs b.natAbs : Nat) : Int))) :
    c ≠ 0 ∧ c.natAbs ≤ b.natAbs ∧ Red (a.fdiv c) (b.fdiv c) ∧ a.fdiv c * b = a * b.fdiv c ∧ (a.fdiv c).natAbs ≤ a.natAbs ∧ (b.fdiv c).natAbs ≤ b.natAbs := by
  have hbp : 0 < b.natAbs := Int.natAbs_pos.mpr hb
  have hg : 0 < Nat.gcd a.natAbs b.natAbs := Nat.gcd_pos_of_pos_right _ hbp
  have hgb : Nat.gcd a.natAbs b.natAbs ≤ b.natAbs := Nat.le_of_dvd hbp (Nat.gcd_dvd_right _ _)
  have hn : c.natAbs = Nat.gcd a.natAbs b.natAbs := by
    rw [hc]
    split <;> omega
  have h0 : c ≠ 0 := by omega
  have da : c ∣ a := Int.natAbs_dvd_natAbs.mp (by rw [hn]; exact Nat.gcd_dvd_left _ _)
  have db : c ∣ b := Int.natAbs_dvd_natAbs.mp (by rw [hn]; exact Nat.gcd_dvd_right _ _)
  obtain ⟨t, ht⟩ := da
  obtain ⟨u, hu⟩ := db
  have ea : a.fdiv c = t := by
    rw [ht]
    exact Int.mul_fdiv_cancel_left _ h0
  have eb : b.fdiv c = u := by
    rw [hu]
    exact Int.mul_fdiv_cancel_left _ h0
  have na : a.natAbs = c.natAbs * t.natAbs := by rw [ht, Int.natAbs_mul]
  have nb : b.natAbs = c.natAbs * u.natAbs := by rw [hu, Int.natAbs_mul]
  have hcp : 0 < c.natAbs := by omega
  have co : Nat.gcd t.natAbs u.natAbs = 1 := by
    have e : c.natAbs = c.natAbs * Nat.gcd t.natAbs u.natAbs := by
      rw [← Nat.gcd_mul_left, ← na, ← nb]
      exact hn
    exact Nat.eq_of_mul_eq_mul_left hcp (by rw [← e, Nat.mul_one])
  rw [ea, eb]
  have up : 0 < u := by
    by_cases h : b < 0
    · have c0 : c < 0 := by
        rw [hc, if_pos h]
        omega
      have : 0 < c * u ∨ ¬ 0 < c * u := Classical.em _
      rcases Int.lt_or_le 0 u with q | q
      · exact q
      · have z : 0 ≤ c * u := Int.mul_nonneg_of_nonpos_of_nonpos (Int.le_of_lt c0) q
        omega
    · have c0 : 0 < c := by
        rw [hc, if_neg h]
        omega
      rcases Int.lt_or_le 0 u with q | q
      · exact q
      · have z : c * u ≤ 0 := Int.mul_nonpos_of_nonneg_of_nonpos (Int.le_of_lt c0) q
        omega
  refine ⟨h0, by omega, ⟨up, co⟩, ?_, ?_, ?_⟩
  · rw [ht, hu]
    rw [Int.mul_left_comm, Int.mul_assoc]
  · rw [na]
    exact Nat.le_mul_of_pos_left _ hcp
  · rw [nb]
    exact Nat.le_mul_of_pos_left _ hcp
theorem uniq {t u n d : Int} (h : Red t u) (h' : Red n d) (e : t * d = n * u) : t = n ∧ u = d := by
  obtain ⟨hu, ht⟩ := h
  obtain ⟨hd, hn⟩ := h'
  have e1 : t.natAbs * d.natAbs = n.natAbs * u.natAbs := by rw [← Int.natAbs_mul, ← Int.natAbs_mul, e]
  have d1 : u.natAbs ∣ d.natAbs := by
    have z : u.natAbs ∣ t.natAbs * d.natAbs := by
      rw [e1]
      exact Nat.dvd_mul_left _ _
    exact (Nat.Coprime.dvd_of_dvd_mul_left (show Nat.Coprime u.natAbs t.natAbs by rw [Nat.coprime_comm]; exact ht) z)
  have d2 : d.natAbs ∣ u.natAbs := by
    have z : d.natAbs ∣ n.natAbs * u.natAbs := by
      rw [← e1]
      exact Nat.dvd_mul_left _ _
    exact (Nat.Coprime.dvd_of_dvd_mul_left (show Nat.Coprime d.natAbs n.natAbs by rw [Nat.coprime_comm]; exact hn) z)
  have e2 : u.natAbs = d.natAbs := Nat.dvd_antisymm d1 d2
  have e3 : u = d := by omega
  subst e3
  exact ⟨Int.eq_of_mul_eq_mul_right (by omega) e, rfl⟩
/-- what a pair of ints is worth: (t, u) in lowest terms and (n, d), d not 0 -/
def Is (t u n d : Int) : Prop := Red t u ∧ d ≠ 0 ∧ t * d = n * u
theorem is_of {t u a b n d : Int} (h : Red t u) (hb : b ≠ 0) (e : t * b = a * u) (hd : d ≠ 0) (e2 : a * d = n * b) : Is t u n d := by
  refine ⟨h, hd, ?_⟩
  have z : (t * d) * b = (n * u) * b := by
    calc (t * d) * b = (t * b) * d := by rw [Int.mul_assoc, Int.mul_comm d b, ← Int.mul_assoc]
      _ = (a * u) * d := by rw [e]
      _ = (a * d) * u := by rw [Int.mul_assoc, Int.mul_comm u d, ← Int.mul_assoc]
      _ = (n * b) * u := by rw [e2]
      _ = (n * u) * b := by rw [Int.mul_assoc, Int.mul_comm b u, ← Int.mul_assoc]
  exact Int.eq_of_mul_eq_mul_right hb z
theorem gcd_step {x y : Nat} (hy : 0 < y) : Nat.gcd y (x % y) = Nat.gcd x y := by
  rw [Nat.gcd_comm y, ← Nat.gcd_rec, Nat.gcd_comm]
end Am
set_option Elab.async false
set_option linter.all false
set_option maxRecDepth 100000
set_option maxHeartbeats 0
namespace Hd
open PySem PySem.Spec PyProof.Rows L2
def hookB (n : Nat) (chk : PySem.W.Frag → Bool) : PySem.W.Hook where
  α := Bool
  obs := fun s => chk (He.frG s.heap.get? (He.asD s.heap.get? n))
  val := fun _ => true
  says := fun _ h => ∃ K : PySem.W.Frag, K.In h ∧ chk K = true
  of := fun _ _ e => ⟨_, He.frG_in, e⟩
  keeps := fun _ _ _ ⟨K, hK, c⟩ k => ⟨K, PySem.W.Frag.In.keeps hK k, c⟩
def obT (n : Nat) (chk : PySem.W.Frag → Bool) (s : PySem.W.SharedT) : Bool := chk (He.frG (HandSHeadRun.getT s) (He.asD (HandSHeadRun.getT s) n))
theorem obT_eq (n : Nat) (chk : PySem.W.Frag → Bool) (s : PySem.W.SharedT) : obT n chk s = (hookB n chk).obs s.abs := by
  have e : HandSHeadRun.getT s = s.abs.heap.get? := funext fun a => HandSHeadRun.getT_eq s a
  unfold obT
  rw [e]
  rfl
end Hd
set_option Elab.async false
set_option linter.all false
set_option maxRecDepth 100000
set_option maxHeartbeats 4000000
/-! The facts that a law leans on, read off the heap behind the top by one run. -/
namespace Hd
open PySem PySem.Spec PyProof.Rows L2
/-- a def of the text: where it stands, and what it is -/
structure Def where
  ad : PySem.W.Frag → Addr
  name : Str
  qual : Str
  st : Stmt
  cl : List Str := []
  dfl : List He.Dv := []
abbrev FnZ : Type := Option (Str × Str × Arguments × FuncBody × Scope × Addr × List Str × Addr)
def obs1 (K : PySem.W.Frag) (f : Addr) : FnZ := match K.lookup f with
  | some ⟨_, _, .func fd, _⟩ => some (fd.name, fd.qualname, fd.params, fd.body, fd.scope, fd.globals, fd.closure.map (·.1), fd.builtins)
  | _ => none
def Def.val (d : Def) : FnZ := some (d.name, d.qual, defArgs d.st, .stmts (defBody d.st), defScope d.st, mainGlobals, d.cl, builtinsNs)
def Def.ok (K : PySem.W.Frag) (d : Def) : Bool := PySem.W.keepIn K (.ref (d.ad K)) && (match K.lookup (d.ad K) with
  | some ⟨_, _, .func fd, _⟩ => PySem.W.codeIn K fd.code d.qual && He.dflB K fd.defaults (d.dfl.map (He.Dv.v K))
  | _ => false)
/-- what is known of one def -/
structure Got (K : PySem.W.Frag) (d : Def) (fd : FuncData) : Prop where
  kp : PySem.W.keepIn K (.ref (d.ad K)) = true
  ex : ∃ (oc : Value) (od : Option Addr) (dV kV doc pm : Value) (an : Option Addr) (cdv ct : Value) (osl : Array (Option Value)) (cl : List (Str × Addr)),
    fd = PySem.W.fnX d.name d.qual (defArgs d.st) (defBody d.st) (defScope d.st) cl dV kV doc pm an cdv ct ∧ K.lookup (d.ad K) = some ⟨oc, od, .func fd, osl⟩ ∧ PySem.W.codeIn K cdv d.qual = true ∧
    DflV K dV (d.dfl.map (He.Dv.v K)) ∧ cl.map (·.1) = d.cl
theorem got {K : PySem.W.Frag} {d : Def} (e : obs1 K (d.ad K) = d.val) (c : d.ok K = true) : ∃ fd, Got K d fd := by
  obtain ⟨kp, c2⟩ := He.ba c
  unfold obs1 at e
  cases q : K.lookup (d.ad K) with
  | none =>
    rw [q] at c2
    cases c2
  | some o =>
    obtain ⟨oc, od, dt, osl⟩ := o
    rw [q] at c2 e
    cases dt with
    | func fd =>
      obtain ⟨n1, n2, n3, n4, n5, n6, n7, n8, n9, n10, n11, n12, n13, n14, n15⟩ := fd
      have e2 : (some (n1, n2, n3, n4, n5, n6, n7.map (·.1), n15) : FnZ) = some (d.name, d.qual, defArgs d.st, .stmts (defBody d.st), defScope d.st, mainGlobals, d.cl, builtinsNs) := e
      simp only [Option.some.injEq, Prod.mk.injEq] at e2
      obtain ⟨h1, h2, h3, h4, h5, h6, h7, h8⟩ := e2
      subst h1 h2 h3 h4 h5 h6 h8
      obtain ⟨k1, k2⟩ := He.ba (show (PySem.W.codeIn K n13 d.qual && He.dflB K n8 (d.dfl.map (He.Dv.v K))) = true from c2)
      exact ⟨_, kp, oc, od, n8, n9, n10, n11, n12, n13, n14, osl, n7, rfl, q, k1, He.dflB_ok k2, h7⟩
    | _ => cases c2
theorem Got.funD {K : PySem.W.Frag} {d : Def} {fd : FuncData} (g : Got K d fd) (h : d.cl = [] := by rfl) : FunD K d.name d.qual (defArgs d.st) (defBody d.st) (defScope d.st) (d.dfl.map (He.Dv.v K)) [] (d.ad K) fd := by
  obtain ⟨oc, od, dV, kV, doc, pm, an, cdv, ct, osl, cl, h1, h2, h3, h4, h5⟩ := g.ex
  rw [h] at h5
  have h6 : cl = [] := List.map_eq_nil_iff.mp h5
  subst h6
  exact ⟨⟨oc, od, dV, kV, doc, pm, an, cdv, ct, osl, h1, h2, h3, h4, .inl rfl⟩, g.kp⟩
/-- all of them, and a further check -/
abbrev Al : Type := List FnZ × Bool × Bool
def obsK (ds : List Def) (chk : PySem.W.Frag → Bool) (K : PySem.W.Frag) : Al := (ds.map fun d => obs1 K (d.ad K), ds.all fun d => d.ok K, chk K)
def valK (ds : List Def) : Al := (ds.map Def.val, true, true)
def grow (g : Addr → Option Obj) : Nat → List Addr
  | 0 => [mainGlobals, cStatics]
  | n + 1 => He.growD g (grow g n)
def hook (n : Nat) (ds : List Def) (chk : PySem.W.Frag → Bool) : PySem.W.Hook where
  α := Al
  obs := fun s => obsK ds chk (He.frG s.heap.get? (grow s.heap.get? n))
  val := fun _ => valK ds
  says := fun _ h => ∃ K : PySem.W.Frag, K.In h ∧ obsK ds chk K = valK ds
  of := fun _ _ e => ⟨_, He.frG_in, e⟩
  keeps := fun _ _ _ ⟨K, hK, c⟩ k => ⟨K, PySem.W.Frag.In.keeps hK k, c⟩
def ob (n : Nat) (ds : List Def) (chk : PySem.W.Frag → Bool) (s : PySem.W.SharedT) : Al := obsK ds chk (He.frG (HandSHeadRun.getT s) (grow (HandSHeadRun.getT s) n))
theorem ob_eq (n : Nat) (ds : List Def) (chk : PySem.W.Frag → Bool) (s : PySem.W.SharedT) : ob n ds chk s = (hook n ds chk).obs s.abs := by
  have e : HandSHeadRun.getT s = s.abs.heap.get? := funext fun a => HandSHeadRun.getT_eq s a
  unfold ob
  rw [e]
  rfl
section
variable {K : PySem.W.Frag} {ds : List Def} {chk : PySem.W.Frag → Bool}
theorem says_def (c : obsK ds chk K = valK ds) (i : Nat) {d : Def} (h : ds[i]? = some d := by rfl) : ∃ fd, Got K d fd := by
  have e : ds.map (fun d => obs1 K (d.ad K)) = ds.map Def.val := congrArg (fun z : Al => z.1) c
  have c2 : (ds.all fun d => d.ok K) = true := congrArg (fun z : Al => z.2.1) c
  have e2 : (ds.map fun d => obs1 K (d.ad K))[i]? = (ds.map Def.val)[i]? := by rw [e]
  rw [List.getElem?_map, List.getElem?_map, h] at e2
  exact got (Option.some.inj e2) (List.all_eq_true.mp c2 d (List.mem_of_getElem? h))
theorem says_chk (c : obsK ds chk K = valK ds) : chk K = true := congrArg (fun z : Al => z.2.2) c
end
/-- a list of checks -/
def allB (l : List Bool) : Bool := l.all id
theorem allB_at {l : List Bool} (h : allB l = true) (i : Nat) {b : Bool} (e : l[i]? = some b := by rfl) : b = true := List.all_eq_true.mp h b (List.mem_of_getElem? e)
/-! ### an exception class -/
def clsVE (K : PySem.W.Frag) (C : Addr) : Bool := match K.lookup C with
  | some ⟨.type t, _, .cls cd, sl⟩ => (match cd.mro, sl.toList with
    | .ref C' :: bm, [_, _, _, _, some (.builtin n), _] => decide (t = "type") && (decide (C' = C) && (decide (n = "ValueError.__new__") && (!cd.hasDel && (cd.hasDict && HandSPX.refsVE bm))))
    | _, _ => false)
  | _ => false
theorem clsVE_ok {K : PySem.W.Frag} {C : Addr} (h : clsVE K C = true) : ∃ nm q' N bs bm sn sub ab col dd k0 k1 k2 k3 k5, K.lookup C = some (excClassObj nm q' C N bs bm true sn sub ab col dd k0 k1 k2 k3 k5 "ValueError.__new__") ∧ HandSPX.refsVE bm = true := by
  unfold clsVE at h
  split at h
  · rename_i t dd cd sl ho
    split at h
    · rename_i C' bm k0 k1 k2 k3 n k5 hm hs
      obtain ⟨h0, h⟩ := He.ba h
      obtain ⟨h1, h⟩ := He.ba h
      obtain ⟨h2, h⟩ := He.ba h
      obtain ⟨h3, h⟩ := He.ba h
      obtain ⟨h4, h5⟩ := He.ba h
      have h0 := of_decide_eq_true h0
      have h1 := of_decide_eq_true h1
      have h2 := of_decide_eq_true h2
      subst h0 h1 h2
      obtain ⟨nm, bs, mro, ns, qn, hd, sn, sub, ab, col, del⟩ := cd
      dsimp only at hm h3 h4
      subst hm h4
      have h3 : del = false := by simpa using h3
      subst h3
      have hsl : sl = #[k0, k1, k2, k3, some (.builtin "ValueError.__new__"), k5] := by
        obtain ⟨l⟩ := sl
        simp only at hs
        rw [hs]
      subst hsl
      exact ⟨_, _, _, _, _, _, _, _, _, _, _, _, _, _, _, ho, h5⟩
    · cases h
  · cases h
def fileB (file : Str) (vs : Array Value) : Bool := match vs[2]? with
  | some (Value.str fl _) => decide (fl = file)
  | _ => false
theorem fileB_ok {file : Str} {vs : Array Value} (h : fileB file vs = true) : ∃ tf, vs[2]? = some (Value.str file tf) := by
  unfold fileB at h
  split at h
  · rename_i fl tf e
    have z := of_decide_eq_true h
    subst z
    exact ⟨tf, e⟩
  · cases h
/-- the further facts of the class x whose one field is F -/
def excB (file : Str) (K : PySem.W.Frag) (x F : Str) : Bool :=
  let C := He.ga K x
  let fI := He.ma K C "__init__"
  allB [He.eqO (PySem.W.nsIn K mainGlobals x) (some (some (.ref C))), clsVE K C, He.eqO (PySem.W.findIn K (.ref C) "__setattr__") (some (some (.builtin "object.__setattr__"))),
    He.eqO (PySem.W.findIn K (.ref C) "__getattribute__") (some (some (.builtin "BaseException.__getattribute__"))), He.eqO (PySem.W.findIn K (.ref C) "__getattr__") (some none), He.eqO (PySem.W.findIn K (.ref C) F) (some none),
    He.eqO (PySem.W.findIn K (.ref C) "__init__") (some (some (.ref fI))), decide (PySem.W.typeIn K (.ref fI) = some (.type "function")), PySem.W.keepIn K (.ref C), decide (PySem.W.subIn K (.ref C) (.type "BaseException") = some true),
    decide (PySem.W.subIn K (.ref C) (.type "ValueError") = some true), decide (PySem.W.typeIn K (.ref C) = some (.type "type")), PySem.W.hasDictIn K C, decide (PySem.W.exmOne K (.ref C) (.ref C) = some true),
    He.eqO (PySem.W.ks_superIn K C C "__init__") (some (some (.builtin "ValueError.__init__"))), decide (PySem.W.mroIn K C (.ref C) = some true), He.eqO (PySem.W.nsIn K mainGlobals "super") (some none), He.eqO (PySem.W.nsIn K cStatics "thirdparty.any") (some none),
    (match K.lookup fI with
      | some ⟨_, _, .func fd, _⟩ => (match fd.code, fd.closure with
        | .ref cda, [(_, cc)] => (match K.lookup cda with
          | some ⟨_, _, .fields vs, _⟩ => fileB file vs
          | _ => false) && (match K.lookup cc with
          | some ⟨_, _, .cell (some (.ref D)), _⟩ => decide (D = C)
          | _ => false)
        | _, _ => false)
      | _ => false)]
/-- the def of its __init__ -/
def excD (x q : Str) (st : Stmt) : Def := { ad := fun K => He.ma K (He.ga K x) "__init__", name := "__init__", qual := q, st := st, cl := ["__class__"] }
theorem exc_txt {file : Str} {K : PySem.W.Frag} {x q F txt : Str} {st : Stmt} {fd : FuncData} (nm : Xb.Nm F) (g : Got K (excD x q st) fd) (c : excB file K x F = true)
    (hst : ∃ (p1 p2 : Pos) (kk : Nat) (q1 q2 q3 q4 q5 q6 q7 q8 q9 q10 : Pos), defArgs st = Xb.arg2 F p1 p2 ∧ defBody st = Xb.bod2 F txt kk q1 q2 q3 q4 q5 q6 q7 q8 q9 q10 ∧ defScope st = Xb.sco2 F ∧ (q3.endLine == q5.line) = true) :
    Xb.Txt file K q F txt (He.ga K x) (He.ma K (He.ga K x) "__init__") := by
  obtain ⟨oc, od, dV, kV, doc, pm, an, cdv, ct, osl, cl, h1, h2, h3, h4, h5⟩ := g.ex
  obtain ⟨p1, p2, kk, q1, q2, q3, q4, q5, q6, q7, q8, q9, q10, s1, s2, s3, s4⟩ := hst
  have hdV : dV = .none := by
    rcases h4 with ⟨_, e⟩ | ⟨e, _⟩
    · exact e
    · exact absurd rfl e
  have last := allB_at c 18
  have lk : K.lookup (He.ma K (He.ga K x) "__init__") = some ⟨oc, od, .func fd, osl⟩ := h2
  rw [lk] at last
  rw [h1] at last
  refine ⟨nm, clsVE_ok (allB_at c 1), He.eqO_ok (allB_at c 2), He.eqO_ok (allB_at c 3), He.eqO_ok (allB_at c 4), He.eqO_ok (allB_at c 5), He.eqO_ok (allB_at c 6), of_decide_eq_true (allB_at c 7), allB_at c 8, of_decide_eq_true (allB_at c 9), of_decide_eq_true (allB_at c 10),
    of_decide_eq_true (allB_at c 11), allB_at c 12, of_decide_eq_true (allB_at c 13), He.eqO_ok (allB_at c 14), of_decide_eq_true (allB_at c 15), He.eqO_ok (allB_at c 16), He.eqO_ok (allB_at c 17), ?_⟩
  cases cdv with
  | ref cda =>
    cases cl with
    | nil => cases h5
    | cons y r =>
      obtain ⟨y1, cc⟩ := y
      cases r with
      | cons _ _ => cases h5
      | nil =>
        have e1 : y1 = ("__class__" : Str) := (List.cons.inj h5).1
        subst e1
        obtain ⟨l1, l2⟩ := He.ba (show ((match K.lookup cda with
          | some ⟨_, _, .fields vs, _⟩ => fileB file vs
          | _ => false) && (match K.lookup cc with
          | some ⟨_, _, .cell (some (.ref D)), _⟩ => decide (D = He.ga K x)
          | _ => false)) = true from last)
        refine ⟨oc, od, kV, doc, pm, an, cda, ct, osl, cc, p1, p2, kk, q1, q2, q3, q4, q5, q6, q7, q8, q9, q10, ?_, h3, s4, ?_, ?_⟩
        · rw [lk, h1, hdV]
          show some (⟨oc, od, .func (PySem.W.fnX "__init__" q (defArgs st) (defBody st) (defScope st) [("__class__", cc)] .none kV doc pm an (.ref cda) ct), osl⟩ : Obj) = _
          rw [s1, s2, s3]
        · split at l1
          · rename_i ccl cdd vs ccs hk
            obtain ⟨tf, e⟩ := fileB_ok l1
            exact ⟨_, _, _, _, tf, hk, e⟩
          · cases l1
        · split at l2
          · rename_i a b D c2 hk
            have e := of_decide_eq_true l2
            subst e
            exact ⟨_, _, _, hk⟩
          · cases l2
  | _ => cases last
end Hd
set_option Elab.async false
set_option linter.all false
set_option maxRecDepth 100000
set_option maxHeartbeats 4000000
namespace K13
open PySem PySem.Spec PyProof.Rows L2 Fa Fb
theorem if_true_of {c : Bool} {A B : Prop} (hc : c = true) (h : A) : if c = true then A else B := by
  rw [if_pos hc]
  exact h
theorem if_false_of {c : Bool} {A B : Prop} (hc : c = false) (h : B) : if c = true then A else B := by
  rw [hc, if_neg Bool.false_ne_true]
  exact h


abbrev CA (K : PySem.W.Frag) : Addr := He.ga K "Amount"
abbrev CI (K : PySem.W.Frag) : Addr := He.ga K "InvalidInteger"
abbrev CV (K : PySem.W.Frag) : Addr := He.ga K "InvalidAmount"
abbrev aI (K : PySem.W.Frag) : Addr := He.ma K (CA K) "__init__"
abbrev sWhole : Stmt := top 23
abbrev sIsA : Stmt := top 33
abbrev sAsA : Stmt := top 34
abbrev sInit : Stmt := inClass (top 32) 0
abbrev sTop : Stmt := inClass (top 32) 1
abbrev sBot : Stmt := inClass (top 32) 2
abbrev sEq : Stmt := inClass (top 32) 3
theorem scWhole : FnScope ["value"] ["value"] (defScope sWhole) := ⟨rfl, rfl, rfl, by decide +kernel, rfl, by decide +kernel, by decide +kernel⟩
theorem scIsA : FnScope ["value"] ["value"] (defScope sIsA) := ⟨rfl, rfl, rfl, by decide +kernel, rfl, by decide +kernel, by decide +kernel⟩
theorem scAsA : FnScope ["value"] ["value"] (defScope sAsA) := ⟨rfl, rfl, rfl, by decide +kernel, rfl, by decide +kernel, by decide +kernel⟩
theorem scInit : FnScope ["self", "top", "bottom", "common"] ["self", "top", "bottom"] (defScope sInit) := ⟨rfl, rfl, rfl, by decide +kernel, rfl, by decide +kernel, by decide +kernel⟩
theorem scTop : FnScope ["self"] ["self"] (defScope sTop) := ⟨rfl, rfl, rfl, by decide +kernel, rfl, by decide +kernel, by decide +kernel⟩
theorem scBot : FnScope ["self"] ["self"] (defScope sBot) := ⟨rfl, rfl, rfl, by decide +kernel, rfl, by decide +kernel, by decide +kernel⟩
theorem scEq : FnScope ["self", "other"] ["self", "other"] (defScope sEq) := ⟨rfl, rfl, rfl, by decide +kernel, rfl, by decide +kernel, by decide +kernel⟩
/-- the fields of an amount -/
def fl (t u : Int) : List (Str × V) := putF "_bottom" (.int u) (putF "_top" (.int t) [])
theorem tb : ¬ (("_top" : Str) = "_bottom") := by decide +kernel
theorem fl_top (t u : Int) : (fl t u).lookup ("_top" : Str) = some (.int t) := by
  unfold fl
  rw [lookup_putF, if_neg tb, lookup_putF, if_pos rfl]
theorem fl_bot (t u : Int) : (fl t u).lookup ("_bottom" : Str) = some (.int u) := by
  unfold fl
  rw [lookup_putF, if_pos rfl]
theorem fl_no (t u : Int) {m : Str} (h1 : ¬ m = "_bottom") (h2 : ¬ m = "_top") : (fl t u).lookup m = none := by
  unfold fl
  rw [lookup_putF, if_neg h1, lookup_putF, if_neg h2]
  rfl
/-- x is an amount, in lowest terms, of less than n bits -/
def IsA (K : PySem.W.Frag) (H : Hp) (x : V) (t u : Int) (n : Nat) : Prop := ∃ p dx, x = .ref p ∧ H p = some (.ins (CA K) dx (fl t u)) ∧ Am.Red t u ∧ t.natAbs < 2 ^ n ∧ u.natAbs < 2 ^ n
theorem IsA.same {K : PySem.W.Frag} {H H' : Hp} {x : V} {t u : Int} {n : Nat} (h : IsA K H x t u n) (s : Same H H') : IsA K H' x t u n := by
  obtain ⟨p, dx, e, h1, h2⟩ := h
  exact ⟨p, dx, e, s _ _ h1, h2⟩
/-- whether a value counts as a whole number -/
def Wh (K : PySem.W.Frag) (H : Hp) (x : V) (b : Bool) : Prop := ∃ t b1 b2, TyX K H x t ∧ PySem.W.kitOne K t (.type "int") = some b1 ∧ PySem.W.kitOne K t (.type "bool") = some b2 ∧ b = (b1 && !b2)
theorem wh_int {K : PySem.W.Frag} {H : Hp} (i : Int) : Wh K H (.int i) true := ⟨_, true, false, .base (.int i), kit_ty (by decide +kernel), kit_ty (by decide +kernel), rfl⟩
def tys : List String := ["int", "bool", "NoneType", "str", "list", "tuple", "dict"]
/-- what the written part says of the class -/
structure AF (K : PySem.W.Frag) (mg : Str → Option Value) : Prop where
  cl : Cls K (CA K)
  noT : NoAttr K (CA K) "_top"
  noB : NoAttr K (CA K) "_bottom"
  mkA : Mk K (CA K) (aI K)
  g : mg "Amount" = some (.ref (CA K))
  isi : mg "isinstance" = none
  int : mg "int" = none
  bool : mg "bool" = none
  gcd : mg "gcd" = some (.builtin "math.gcd")
  gI : mg "InvalidInteger" = some (.ref (CI K))
  gV : mg "InvalidAmount" = some (.ref (CV K))
  kI : PySem.W.kitOne K (.ref (CA K)) (.type "int") = some false
  kB : PySem.W.kitOne K (.ref (CA K)) (.type "bool") = some false
  kS : PySem.W.kitOne K (.ref (CA K)) (.ref (CA K)) = some true
  kT : ∀ T ∈ tys, PySem.W.kitOne K (.type T) (.ref (CA K)) = some false
  ca : PySem.W.findIn K (.ref (CA K)) "__class__" = some (some (.builtin "object.__class__"))
  cn : PySem.W.specialIn K (.builtin "object.__class__") "__get__" = some (some (.builtin "getset_descriptor.__get__"))
  ct : PySem.W.takesIn K (.builtin "object.__class__") = some true
  cm : PySem.W.mroIn K (CA K) (.type "object") = some true
section
variable {K : PySem.W.Frag} {mg : Str → Option Value}
theorem AF.ty (T : AF K mg) {H : Hp} {p dx : Addr} {fs : List (Str × V)} (h : H p = some (.ins (CA K) dx fs)) : TyX K H (.ref p) (.ref (CA K)) := .base (.ins h T.cl T.ca T.cn T.ct T.cm)
theorem AF.wh (T : AF K mg) {H : Hp} {p dx : Addr} {fs : List (Str × V)} (h : H p = some (.ins (CA K) dx fs)) : Wh K H (.ref p) false := ⟨_, false, false, T.ty h, T.kI, T.kB, rfl⟩
end
def spWhole (K : PySem.W.Frag) : Sp := fun vs H Q _ => ∃ x b, vs = [x] ∧ Wh K H x b ∧ Q (.bl b) H
/-- an error of the class at C with the one field value = v -/
def Err (C : Addr) (v : V) (H : Hp) (E : XK) : Prop := ∀ d, H d = none → E (.ref C) (some d) (upd H d (.xd [("value", v)]))
def spInit (K : PySem.W.Frag) : Sp := fun vs H Q E => ∃ (p dx : Addr) (x y : V) (bx bz : Bool), vs = [.ref p, x, y] ∧ H p = some (.ins (CA K) dx []) ∧ Wh K H x bx ∧ Wh K H y bz ∧
  (bx = false → Err (CI K) x H E) ∧ (bx = true → bz = false → Err (CI K) y H E) ∧
  (bx = true → bz = true → ∃ a b : Int, x = .int a ∧ y = .int b ∧ (b = 0 → Err (CI K) y H E) ∧
    (b ≠ 0 → b.natAbs < 2 ^ 8000 ∧ ∀ t u : Int, Am.Red t u → t * b = a * u → t.natAbs ≤ a.natAbs → u.natAbs ≤ b.natAbs → Q .non (upd H p (.ins (CA K) dx (fl t u)))))
section
variable {X : Cx}
theorem op_fdivX : OpR X (binaryOp .FloorDiv) (rI (fun _ j => j ≠ 0 ∧ j.natAbs.log2 < 9000) fun i j => .int (i.fdiv j)) := opI fun _ _ _ _ _ _ _ hc q => floordiv_int hc.1 q (.inl (PyProof.noPylong_of_log2 hc.2))
theorem boot_isi : bootBuiltins "isinstance" = some (.builtin "isinstance") := by decide +kernel
theorem pe_isi {e c : Expr} {te tc : TE} {p pos : Pos} (hm : X.mg "isinstance" = none) (he : PE X e te) (hc : PE X c tc) (hg : Gl X "isinstance" := by rfl)
    (hs : starEach (e :: [c]) X.env = (false, eval e X.env) :: starEach [c] X.env := by rfl) (hs2 : starEach (c :: []) X.env = (false, eval c X.env) :: starEach [] X.env := by rfl) (hpl : (backTo pos (starEach [c] X.env)).any (·.1) = false := by rfl) : PE X (.Call (.Name "isinstance" p) [e, c] [] pos) (tCB (rIsi X.K) (tCons te (tCons tc tNil))) :=
  pe_callB call_isi hg hm boot_isi (pa_cons he (pa_cons hc pa_nil hs2) hs) (by decide) (by decide) hs hpl
theorem pe_ty {x : Str} {n : String} {p : Pos} (hm : X.mg x = none) (hv : bootBuiltins x = some (.type n)) (hg : Gl X x := by rfl) (hn : x ≠ "__name__" := by decide) (hd : (x == ("__debug__" : Str)) = false := by decide) : PE X (.Name x p) (tC (.ty n)) := pe_bltn hg hm hv rfl hn hd
theorem boot_int' : bootBuiltins "int" = some (.type "int") := by decide +kernel
theorem boot_bool' : bootBuiltins "bool" = some (.type "bool") := by decide +kernel
end
section
variable {P : Program} {w : World} {K : PySem.W.Frag} {mg : Str → Option Value} {base : Heap} {f fW : Addr} {fd fdW : FuncData} {F' : Str} {qi ti qv tv : Str} {fI fV : Addr}
theorem ok_whole (F : FnP K "is_whole" sWhole f fd) (T : AF K mg) {CX : CXT} : FnOk P w K mg base CX 1 f fd ["value"] (spWhole K) := by
  refine F.ok scWhole (fun vs H Q E h => ?_) (fun cdv A outer s H vs Q E hr h => ?_)
  · obtain ⟨x, b, rfl, _⟩ := h
    rfl
  · obtain ⟨x, b, rfl, ⟨t, b1, b2, ty, k1, k2, rfl⟩, q⟩ := h
    refine ⟨_, pss_one (ps_ret (pe_and (pe_isi T.isi (pv 0) (pe_ty T.int boot_int')) (pe_one (pe_not (pe_isi T.isi (pv 0) (pe_ty T.bool boot_bool')))))), ?_⟩
    refine ⟨_, rfl, x, _, t, _, b1, rfl, .ty "int", ty, k1, b1, rfl, ?_⟩
    cases b1 with
    | false => exact iteF q
    | true => exact iteT ⟨_, rfl, x, _, t, _, b2, rfl, .ty "bool", ty, k2, b2, rfl, q⟩
theorem ok_init (F : FunD K "__init__" "Amount.__init__" (defArgs sInit) (defBody sInit) (defScope sInit) [.int 1] [] f fd) (T : AF K mg) (FW : FnP K "is_whole" sWhole fW fdW) (gW : mg "is_whole" = some (.ref fW))
    (XI : Xb.Txt P.main.file K qi "value" ti (CI K) fI) (htop : (P.main.scope.names.lookup ("super" : Str)).isSome = false) : FnOk P w K mg base (L2.CX P w) 4 f fd ["self", "top", "bottom"] (spInit K) := by
  have GW : FnOk P w K mg base (L2.CX P w) 1 fW fdW ["value"] (spWhole K) := ok_whole FW T
  have bW : Binds K fdW ["value"] [] := FW.bindsN fun _ _ _ _ _ _ us hl => match us, hl with | [_], _ => rfl
  refine F.ok scInit (fun vs H Q E h => ?_) (fun cdv A outer s H vs Q E hr h => ?_)
  · obtain ⟨p, dx, x, y, bx, bz, rfl, _⟩ := h
    rfl
  · obtain ⟨p, dx, x, y, bx, bz, rfl, hp, wx, wy, e1, e2, e3⟩ := h
    have hr1 := hr.mono (show 1 ≤ 3 by decide)
    refine ⟨_, pss_cons (ps_if (pt_not (pt_val (pe_call GW hr1 rfl gW FW.kp bW .nil passL (pa_cons (pv 1) pa_nil)))) (pss_one (Xb.ps_raiseX (W := fun cls d _ H => E cls d H) rfl XI T.gI htop hr1 (takes_of rfl rfl rfl rfl) (pa_cons (pv 1) pa_nil))) pss_nil)
      (pss_cons (ps_if (PW.pt (pw_or (pt_not (pt_val (pe_call GW hr1 rfl gW FW.kp bW .nil passL (pa_cons (pv 2) pa_nil)))) (pw_or1 (pt_cmpR op_eq (pv 2) pe_int (nomark _)))))
        (pss_one (Xb.ps_raiseX (W := fun cls d _ H => E cls d H) rfl XI T.gI htop hr1 (takes_of rfl rfl rfl rfl) (pa_cons (pv 2) pa_nil))) pss_nil)
      (pss_cons (ps_set (i := 3) scInit.nd rfl (Or.inl rfl) (pe_callBfun cr_gcd rfl T.gcd (pa_cons (pv 1) (pa_cons (pv 2) pa_nil))))
      (pss_cons (ps_if (pt_cmpR op_lt (pv 2) pe_int (nomark _)) (pss_one (ps_set (i := 3) scInit.nd rfl (Or.inl rfl) (pe_un un_neg (pv 3)))) pss_nil)
      (pss_cons (ps_fld (pv 0) (pe_op op_fdivX (pv 1) (pv 3)) rfl)
      (pss_one (ps_fld (pv 0) (pe_op op_fdivX (pv 2) (pv 3)) rfl)))))), ?_⟩
    refine ⟨_, rfl, x, bx, rfl, wx, bx, rfl, ?_⟩
    cases bx with
    | false => exact iteT ⟨_, rfl, _, rfl, e1 rfl⟩
    | true =>
      refine iteF ⟨_, rfl, y, bz, rfl, wy, bz, rfl, ?_⟩
      cases bz with
      | false => exact iteT (iteT ⟨_, rfl, _, rfl, e2 rfl rfl⟩)
      | true =>
        obtain ⟨a, b, rfl, rfl, e4, e5⟩ := e3 rfl rfl
        refine iteF ⟨_, rfl, rfl, _, rfl, ?_⟩
        by_cases hb : b = 0
        · subst hb
          refine if_true_of (decide_eq_true rfl) ⟨_, rfl, _, rfl, e4 rfl⟩
        · refine if_false_of (decide_eq_false fun z => hb (V.int.inj z)) ?_
          obtain ⟨e6, e7⟩ := e5 hb
          obtain ⟨m1, m2, m3, m4, m5, m6⟩ := Am.mk a b hb _ rfl
          refine ⟨_, rfl, _, rfl, a, b, rfl, ?_⟩
          have fin : ∀ c : Int, c = (if b < 0 then -((Nat.gcd a.natAbs b.natAbs : Nat) : Int) else ((Nat.gcd a.natAbs b.natAbs : Nat) : Int)) →
              tSeq (sFld K (tVar 0) (tOp (rI (fun _ j => j ≠ 0 ∧ j.natAbs.log2 < 9000) fun i j => .int (i.fdiv j)) (tVar 1) (tVar 3)) "_top") (sFld K (tVar 0) (tOp (rI (fun _ j => j ≠ 0 ∧ j.natAbs.log2 < 9000) fun i j => .int (i.fdiv j)) (tVar 2) (tVar 3)) "_bottom")
                { nx := fun _ H' => Q .non H', rt := Q } [some (.ref p), some (.int a), some (.int b), some (.int c)] H := fun c hc => by
            rw [← hc] at m1 m2 m3 m4 m5 m6
            have lg : c.natAbs.log2 < 9000 := Nat.lt_trans ((Nat.log2_lt (by omega)).mpr (Nat.lt_of_le_of_lt m2 e6)) (by decide)
            refine ⟨_, rfl, _, rfl, _, _, rfl, rfl, ⟨m1, lg⟩, _, rfl, p, CA K, dx, [], rfl, hp, T.cl, T.noT, (by show 0 < 1000; decide), ?_⟩
            refine ⟨_, rfl, _, rfl, _, _, rfl, rfl, ⟨m1, lg⟩, _, rfl, p, CA K, dx, _, rfl, upd_same, T.cl, T.noB, (by show 1 < 1000; decide), ?_⟩
            rw [upd_upd]
            exact e7 _ _ m3 m4 m5 m6
          refine ⟨_, rfl, _, _, rfl, rfl, _, rfl, ?_⟩
          refine ite2 (fun c => ?_) (fun c => ?_)
          · have c2 : b < 0 := of_decide_eq_true c
            refine ⟨_, rfl, _, rfl, ?_⟩
            exact fin _ (by rw [if_pos c2])
          · have c2 : ¬ b < 0 := fun z => c (decide_eq_true z)
            exact fin _ (by rw [if_neg c2])
end

end K13
set_option Elab.async false
set_option linter.all false
set_option maxRecDepth 100000
set_option maxHeartbeats 4000000
namespace K13
open PySem PySem.Spec PyProof.Rows L2 Fa Fb


/-- an argument that counts as an amount -/
def Arg (K : PySem.W.Frag) (H : Hp) (x : V) (t u : Int) (n : Nat) : Prop := IsA K H x t u n ∨ (x = .int t ∧ u = 1 ∧ t.natAbs < 2 ^ n ∧ 1 ≤ n)
/-- one that doesn't -/
def Bad (K : PySem.W.Frag) (H : Hp) (x : V) : Prop := ∃ T, T ∈ tys ∧ TyX K H x (.type T) ∧ Wh K H x false
def spIsA (K : PySem.W.Frag) : Sp := fun vs H Q _ => ∃ x t b1 b2, vs = [x] ∧ TyX K H x t ∧ PySem.W.kitOne K t (.ref (CA K)) = some b1 ∧ Wh K H x b2 ∧ Q (.bl (b1 || b2)) H
def spAs (K : PySem.W.Frag) : Sp := fun vs H Q E => ∃ x, vs = [x] ∧ ((Bad K H x ∧ Err (CV K) x H E) ∨ ∃ t u n, Arg K H x t u n ∧ ∀ y H', Same H H' → IsA K H' y t u n → Q y H')
def spEq (K : PySem.W.Frag) : Sp := fun vs H Q _ => ∃ x y t u n, vs = [x, y] ∧ IsA K H x t u n ∧ ((∃ t2 u2 m, IsA K H y t2 u2 m ∧ Q (.bl (decide (t = t2) && decide (u = u2))) H) ∨ (∃ T, TyX K H y (.type T) ∧ PySem.W.kitOne K (.type T) (.ref (CA K)) = some false ∧ Q (.bl false) H))
section
variable {K : PySem.W.Frag} {mg : Str → Option Value}
theorem make_read (T : AF K mg) {H : Hp} {Q : VK} {E : XK} {a b : Int} {n : Nat} (hb : b ≠ 0) (hs : n ≤ 8000) (ha : a.natAbs < 2 ^ n) (hbn : b.natAbs < 2 ^ n)
    (k : ∀ y H' t u, Same H H' → IsA K H' y t u n → t * b = a * u → Q y H') : ∀ x dx, H x = none → H dx = none → dx ≠ x →
    spInit K [.ref x, .int a, .int b] (upd (upd H dx (.own x)) x (.ins (CA K) dx [])) (fun v H2 => v = .non ∧ Q (.ref x) H2) E := by
  intro x dx hx hdx hne
  refine ⟨x, dx, .int a, .int b, true, true, rfl, upd_same, wh_int _, wh_int _, (fun z => by cases z), (fun _ z => by cases z), fun _ _ => ⟨a, b, rfl, rfl, fun z => absurd z hb, fun _ => ⟨?_, fun t u r e h1 h2 => ⟨rfl, ?_⟩⟩⟩⟩
  · exact Nat.lt_of_lt_of_le hbn (Nat.pow_le_pow_right (by decide) hs)
  · refine k _ _ t u (fun c o z => ?_) ⟨x, dx, rfl, upd_same, r, Nat.lt_of_le_of_lt h1 ha, Nat.lt_of_le_of_lt h2 hbn⟩ e
    rw [upd_upd, upd_ne (ne_of_none z hx), upd_ne (ne_of_none z hdx)]
    exact z
theorem spInit_imp {vs : List V} {H : Hp} {Q Q' : VK} {E : XK} (h : spInit K vs H Q E) (k : ∀ v H2, Q v H2 → Q' v H2) : spInit K vs H Q' E := by
  obtain ⟨p, dx, x, y, bx, bz, e, hp, wx, wy, e1, e2, e3⟩ := h
  refine ⟨p, dx, x, y, bx, bz, e, hp, wx, wy, e1, e2, fun h1 h2 => ?_⟩
  obtain ⟨a, b, ea, eb, f1, f2⟩ := e3 h1 h2
  exact ⟨a, b, ea, eb, f1, fun hb => ⟨(f2 hb).1, fun t u r e4 e5 e6 => k _ _ ((f2 hb).2 t u r e4 e5 e6)⟩⟩
def MadeA (K : PySem.W.Frag) (H H2 : Hp) (x : Addr) (a b : Int) (n : Nat) : Prop := ∃ t u, Same H H2 ∧ IsA K H2 (.ref x) t u n ∧ t * b = a * u
theorem make_fact (T : AF K mg) {H : Hp} {E : XK} {a b : Int} {n : Nat} (hb : b ≠ 0) (hs : n ≤ 8000) (ha : a.natAbs < 2 ^ n) (hbn : b.natAbs < 2 ^ n) {x dx : Addr} (hx : H x = none) (hdx : H dx = none) (hne : dx ≠ x) :
    spInit K [.ref x, .int a, .int b] (upd (upd H dx (.own x)) x (.ins (CA K) dx [])) (fun v H2 => v = .non ∧ MadeA K H H2 x a b n) E := by
  refine ⟨x, dx, .int a, .int b, true, true, rfl, upd_same, wh_int _, wh_int _, (fun z => by cases z), (fun _ z => by cases z), fun _ _ => ⟨a, b, rfl, rfl, fun z => absurd z hb, fun _ => ⟨?_, fun t u r e h1 h2 => ⟨rfl, t, u, fun c o z => ?_, ⟨x, dx, rfl, upd_same, r, Nat.lt_of_le_of_lt h1 ha, Nat.lt_of_le_of_lt h2 hbn⟩, e⟩⟩⟩⟩
  · exact Nat.lt_of_lt_of_le hbn (Nat.pow_le_pow_right (by decide) hs)
  · rw [upd_upd, upd_ne (ne_of_none z hx), upd_ne (ne_of_none z hdx)]
    exact z
theorem one_pow {n : Nat} (h : 1 ≤ n) : (1 : Nat) < 2 ^ n := Nat.one_lt_two_pow (by omega)
theorem lt_pow_mul {a b n m : Nat} (h1 : a < 2 ^ n) (h2 : b < 2 ^ m) : a * b < 2 ^ (n + m) := by
  rw [Nat.pow_add]
  exact Nat.mul_lt_mul'' h1 h2
theorem mulW_of {i j : Int} {n m : Nat} (h1 : i.natAbs < 2 ^ n) (h2 : j.natAbs < 2 ^ m) (h : n + m < 900000) : CMulW i j := by
  have l : ∀ (x : Int) (k : Nat), x.natAbs < 2 ^ k → x.natAbs.log2 ≤ k := fun x k hx => by
    by_cases z : x.natAbs = 0
    · rw [z]
      exact Nat.zero_le _
    · exact Nat.le_of_lt ((Nat.log2_lt z).mpr hx)
  have a1 := l i n h1
  have a2 := l j m h2
  show i.natAbs.log2 + j.natAbs.log2 < 1000000
  omega
theorem abs_mul_lt {i j : Int} {n m : Nat} (h1 : i.natAbs < 2 ^ n) (h2 : j.natAbs < 2 ^ m) : (i * j).natAbs < 2 ^ (n + m) := by
  rw [Int.natAbs_mul]
  exact lt_pow_mul h1 h2
theorem abs_add_lt {i j : Int} {n : Nat} (h1 : i.natAbs < 2 ^ n) (h2 : j.natAbs < 2 ^ n) : (i + j).natAbs < 2 ^ (n + 1) := by
  have := Int.natAbs_add_le i j
  rw [Nat.pow_succ]
  omega
theorem abs_sub_lt {i j : Int} {n : Nat} (h1 : i.natAbs < 2 ^ n) (h2 : j.natAbs < 2 ^ n) : (i - j).natAbs < 2 ^ (n + 1) := by
  have := Int.natAbs_sub_le i j
  rw [Nat.pow_succ]
  omega
theorem pow_step {a n m : Nat} (h : a < 2 ^ n) (hm : n ≤ m) : a < 2 ^ m := Nat.lt_of_lt_of_le h (Nat.pow_le_pow_right (by decide) hm)
theorem IsA.one (h : IsA K H x t u n) : 1 ≤ n := by
  obtain ⟨p, dx, _, _, ⟨h1, _⟩, _, h2⟩ := h
  rcases Nat.eq_zero_or_pos n with z | z
  · subst z
    have : u.natAbs < 1 := h2
    omega
  · exact z
end
section
variable {P : Program} {w : World} {K : PySem.W.Frag} {mg : Str → Option Value} {base : Heap} {f fW : Addr} {fd fdW fdI fdA : FuncData} {qi ti qv tv : Str} {fI fV fAs : Addr}
theorem ok_top (F : FunD K "top" "Amount.top" (defArgs sTop) (defBody sTop) (defScope sTop) [] [] f fd) (T : AF K mg) {CX : CXT} : FnOk P w K mg base CX 1 f fd ["self"] (getSp (CA K) "_top") := by
  refine F.ok scTop (fun vs H Q E h => ?_) (fun cdv A outer s H vs Q E hr h => ?_)
  · obtain ⟨a, dx, fs, v, rfl, _⟩ := h
    rfl
  · obtain ⟨a, dx, fs, v, rfl, h1, h2, q⟩ := h
    exact ⟨_, pss_one (ps_ret (pe_fld (pv 0) rfl)), .ref a, rfl, a, CA K, dx, fs, v, rfl, h1, T.cl, T.noT, h2, q⟩
theorem ok_bot (F : FunD K "bottom" "Amount.bottom" (defArgs sBot) (defBody sBot) (defScope sBot) [] [] f fd) (T : AF K mg) {CX : CXT} : FnOk P w K mg base CX 1 f fd ["self"] (getSp (CA K) "_bottom") := by
  refine F.ok scBot (fun vs H Q E h => ?_) (fun cdv A outer s H vs Q E hr h => ?_)
  · obtain ⟨a, dx, fs, v, rfl, _⟩ := h
    rfl
  · obtain ⟨a, dx, fs, v, rfl, h1, h2, q⟩ := h
    exact ⟨_, pss_one (ps_ret (pe_fld (pv 0) rfl)), .ref a, rfl, a, CA K, dx, fs, v, rfl, h1, T.cl, T.noB, h2, q⟩
theorem ok_eq (F : FunD K "__eq__" "Amount.__eq__" (defArgs sEq) (defBody sEq) (defScope sEq) [] [] f fd) (T : AF K mg) {CX : CXT} : FnOk P w K mg base CX 1 f fd ["self", "other"] (spEq K) := by
  refine F.ok scEq (fun vs H Q E h => ?_) (fun cdv A outer s H vs Q E hr h => ?_)
  · obtain ⟨x, y, t, u, n, rfl, _⟩ := h
    rfl
  · obtain ⟨x, y, t, u, n, rfl, ⟨p, dx, rfl, hp, _⟩, q⟩ := h
    refine ⟨_, pss_one (ps_ret (pe_and (pe_isi T.isi (pv 1) (pe_glob (v := .ref (CA K)) rfl T.g rfl)) (pe_and (pe_cmpR op_eq (pe_fld (pv 0) rfl) (pe_fld (pv 1) rfl) (nomark _)) (pe_one (pe_cmpR op_eq (pe_fld (pv 0) rfl) (pe_fld (pv 1) rfl) (nomark _)))))), ?_⟩
    rcases q with ⟨t2, u2, m, ⟨p2, dx2, rfl, hp2, _⟩, q⟩ | ⟨Ty, ty, hk, q⟩
    · refine ⟨_, rfl, .ref p2, _, _, _, true, rfl, .own _, T.ty hp2, T.kS, true, rfl, iteT ?_⟩
      refine ⟨_, rfl, p, CA K, dx, _, _, rfl, hp, T.cl, T.noT, fl_top _ _, _, rfl, p2, CA K, dx2, _, _, rfl, hp2, T.cl, T.noT, fl_top _ _, rfl, decide (V.int t = V.int t2), rfl, ?_⟩
      by_cases e : t = t2
      · subst e
        refine if_true_of (decide_eq_true rfl) ?_
        refine ⟨_, rfl, p, CA K, dx, _, _, rfl, hp, T.cl, T.noB, fl_bot _ _, _, rfl, p2, CA K, dx2, _, _, rfl, hp2, T.cl, T.noB, fl_bot _ _, rfl, ?_⟩
        rw [decide_eq_true rfl, Bool.true_and] at q
        by_cases e2 : u = u2
        · subst e2
          rw [decide_eq_true rfl] at q
          show Q (.bl (decide (V.int u = V.int u))) H
          rw [decide_eq_true rfl]
          exact q
        · rw [decide_eq_false e2] at q
          show Q (.bl (decide (V.int u = V.int u2))) H
          rw [decide_eq_false fun z => e2 (V.int.inj z)]
          exact q
      · refine if_false_of (decide_eq_false fun z => e (V.int.inj z)) ?_
        rw [decide_eq_false e, Bool.false_and] at q
        exact q
    · exact ⟨_, rfl, y, _, _, _, false, rfl, .own _, ty, hk, false, rfl, iteF q⟩
theorem ok_isA (F : FnP K "is_amount" sIsA f fd) (T : AF K mg) (FW : FnP K "is_whole" sWhole fW fdW) (gW : mg "is_whole" = some (.ref fW)) : FnOk P w K mg base (L2.CX P w) 2 f fd ["value"] (spIsA K) := by
  have GW : FnOk P w K mg base (L2.CX P w) 1 fW fdW ["value"] (spWhole K) := ok_whole FW T
  have bW : Binds K fdW ["value"] [] := FW.bindsN fun _ _ _ _ _ _ us hl => match us, hl with | [_], _ => rfl
  refine F.ok scIsA (fun vs H Q E h => ?_) (fun cdv A outer s H vs Q E hr h => ?_)
  · obtain ⟨x, t, b1, b2, rfl, _⟩ := h
    rfl
  · obtain ⟨x, t, b1, b2, rfl, ty, k1, wh, q⟩ := h
    refine ⟨_, pss_one (ps_ret (pe_or (pe_isi T.isi (pv 0) (pe_glob (v := .ref (CA K)) rfl T.g rfl)) (pe_one (pe_call GW hr rfl gW FW.kp bW .nil passL (pa_cons (pv 0) pa_nil))))), ?_⟩
    refine ⟨_, rfl, x, _, t, _, b1, rfl, .own _, ty, k1, b1, rfl, ?_⟩
    cases b1 with
    | true => exact iteT q
    | false => exact iteF ⟨_, rfl, x, b2, rfl, wh, q⟩
theorem ok_as (F : FnP K "as_amount" sAsA f fd) (T : AF K mg) (FW : FnP K "is_whole" sWhole fW fdW) (gW : mg "is_whole" = some (.ref fW)) (FA : FnP K "is_amount" sIsA fAs fdA) (gA : mg "is_amount" = some (.ref fAs))
    (FI : FunD K "__init__" "Amount.__init__" (defArgs sInit) (defBody sInit) (defScope sInit) [.int 1] [] (aI K) fdI)
    (XI : Xb.Txt P.main.file K qi "value" ti (CI K) fI) (XV : Xb.Txt P.main.file K qv "value" tv (CV K) fV) (htop : (P.main.scope.names.lookup ("super" : Str)).isSome = false) : FnOk P w K mg base (L2.CX P w) 6 f fd ["value"] (spAs K) := by
  have GA : FnOk P w K mg base (L2.CX P w) 2 fAs fdA ["value"] (spIsA K) := ok_isA FA T FW gW
  have bA : Binds K fdA ["value"] [] := FA.bindsN fun _ _ _ _ _ _ us hl => match us, hl with | [_], _ => rfl
  have GI : FnOk P w K mg base (L2.CX P w) 4 (aI K) fdI ["self", "top", "bottom"] (spInit K) := ok_init FI T FW gW XI htop
  obtain ⟨ds, hds, bI⟩ := FI.binds1 (ps := ["self", "top", "bottom"]) 2 0 (by simp) rfl (fun _ _ _ _ _ _ _ us its hu hi => match us, its, hu, hi with | [_, _], [_], _, _ => ⟨_, rfl, rfl⟩)
  refine F.ok scAsA (fun vs H Q E h => ?_) (fun cdv A outer s H vs Q E hr h => ?_)
  · obtain ⟨x, rfl, _⟩ := h
    rfl
  · obtain ⟨x, rfl, q⟩ := h
    have hr1 := hr.mono (show 2 ≤ 5 by decide)
    refine ⟨_, pss_cons (ps_if (pt_not (pt_val (pe_call GA hr1 rfl gA FA.kp bA .nil passL (pa_cons (pv 0) pa_nil)))) (pss_one (Xb.ps_raiseX (W := fun cls d _ H => E cls d H) rfl XV T.gV htop hr1 (takes_of rfl rfl rfl rfl) (pa_cons (pv 0) pa_nil))) pss_nil)
      (pss_one (ps_ret (pe_ifExp (pt_val (pe_isi T.isi (pv 0) (pe_glob (v := .ref (CA K)) rfl T.g rfl))) (pv 0) (pe_make T.mkA GI hr rfl T.g bI hds passL (pa_cons (pv 0) pa_nil))))), ?_⟩
    rcases q with ⟨⟨Ty, hT, ty, wh⟩, er⟩ | ⟨t, u, n, ar, q⟩
    · refine ⟨_, rfl, x, _, false, false, rfl, ty, T.kT Ty hT, wh, false, rfl, iteT ⟨_, rfl, _, rfl, er⟩⟩
    · rcases ar with ia | ⟨rfl, rfl, hn, h1⟩
      · obtain ⟨p, dx, rfl, hp, r⟩ := id ia
        refine ⟨_, rfl, .ref p, _, true, false, rfl, T.ty hp, T.kS, T.wh hp, true, rfl, iteF ?_⟩
        exact ⟨_, rfl, .ref p, _, _, _, true, rfl, .own _, T.ty hp, T.kS, true, rfl, iteT ⟨_, rfl, q _ _ (Same.refl _) ia⟩⟩
      · have kI := T.kT "int" (by simp [tys])
        refine ⟨_, rfl, .int t, _, false, true, rfl, .base (.int t), kI, wh_int t, true, rfl, iteF ?_⟩
        refine ⟨_, rfl, .int t, _, _, _, false, rfl, .own _, .base (.int t), kI, false, rfl, iteF ⟨_, rfl, ?_⟩⟩
        intro y dy hy hdy hne
        refine ⟨y, dy, .int t, .int 1, true, true, rfl, upd_same, wh_int _, wh_int _, (fun z => by cases z), (fun _ z => by cases z), fun _ _ => ⟨t, 1, rfl, rfl, (fun z => by cases z), fun _ => ⟨by decide, fun t' u' r e h2 h3 => ⟨rfl, ?_⟩⟩⟩⟩
        have eu : u' = 1 := by
          have r0 := r.1
          have : u'.natAbs ≤ 1 := h3
          omega
        subst eu
        have et : t' = t := by omega
        subst et
        refine q _ _ (fun c o z => ?_) ⟨y, dy, rfl, upd_same, r, hn, by show (1 : Nat) < _; exact one_pow h1⟩
        rw [upd_upd, upd_ne (ne_of_none z hy), upd_ne (ne_of_none z hdy)]
        exact z
end

end K13
set_option Elab.async false
set_option linter.all false
set_option maxRecDepth 100000
set_option maxHeartbeats 4000000
set_option exponentiation.threshold 100000
namespace K13
open PySem PySem.Spec PyProof.Rows L2 Fa Fb
theorem Same.upd {H : Hp} {p : Addr} {o : HO} (h : H p = none) : Same H (upd H p o) := fun c u z => by
  rw [upd_ne (ne_of_none z h)]
  exact z
theorem same_put {H H' : Hp} {D : Addr} {o : HO} (s : Same H H') (h : H D = none) : Same H (upd H' D o) := fun c u z => by
  rw [upd_ne (ne_of_none z h)]
  exact s c u z
/-- a comprehension over a text's signs -/
theorem lc_signs {z : Str} {g : TG} {tt : TT} {te : TE} {vs : List Nat} {σ : L2.St} {H1 : Hp} {D : Addr} {Qd : Hp → Prop} (Pv : Nat → Hp → Prop) (h0 : Pv 0 (upd H1 D (.lst [])))
    (hs : ∀ i c H, z.cps[i]? = some c → Pv i H → g (.str ⟨#[c]⟩) (wipe σ vs) H fun σ2 H2 => wipe σ2 vs = wipe σ vs ∧ tt σ2 H2 fun b H3 =>
      if b = true then te σ2 H3 fun y H4 => ∃ acc, H4 D = some (.lst acc) ∧ acc.length < sizeLine ∧ Pv (i + 1) (upd H4 D (.lst (acc ++ [y]))) else Pv (i + 1) H3) (hd : ∀ H, Pv z.cps.size H → Qd H) :
    ∃ W : Nat → Nat → Hp → Prop, (∃ m, W 0 m (upd H1 D (.lst []))) ∧ ∀ i m H, W i m H →
      ((Its z).stop i H ∧ Qd H) ∨ ((Its z).go i H ∧ ∃ Nx : Hp → Prop, (∀ H', Nx H' → ∃ m', m' < m ∧ W (i + 1) m' H') ∧ ∀ x H', (Its z).yld i H x H' → g x (wipe σ vs) H' fun σ2 H2 => wipe σ2 vs = wipe σ vs ∧ tt σ2 H2 fun b H3 =>
        if b = true then te σ2 H3 fun y H4 => ∃ acc, H4 D = some (.lst acc) ∧ acc.length < sizeLine ∧ Nx (upd H4 D (.lst (acc ++ [y]))) else Nx H3) := by
  refine ⟨fun i m H => m + i = z.cps.size ∧ Pv i H, ⟨z.cps.size, rfl, h0⟩, fun i m H ⟨hm, p⟩ => ?_⟩
  rcases Nat.lt_or_ge i z.cps.size with c | c
  · refine .inr ⟨c, Pv (i + 1), fun H' p' => ⟨m - 1, by omega, by omega, p'⟩, fun x H' q => ?_⟩
    obtain ⟨eH, ch, hc, rfl⟩ := q
    cases eH
    exact hs i ch _ hc p
  · have e : i = z.cps.size := by omega
    rw [e] at p
    exact .inl ⟨c, hd H p⟩
/-- whether a value is a text -/
def Tx (K : PySem.W.Frag) (H : Hp) (x : V) (b : Bool) : Prop := ∃ t, TyX K H x t ∧ PySem.W.kitOne K t (.type "str") = some b
abbrev sHas : Stmt := top 27
abbrev sName : Stmt := top 26
abbrev sUnit : Stmt := top 28
abbrev sChk : Stmt := top 30
theorem scHas : FnScope ["text", "characters", "character"] ["text", "characters"] (defScope sHas) := ⟨rfl, rfl, rfl, by decide +kernel, rfl, by decide +kernel, by decide +kernel⟩
theorem scName : FnScope ["value"] ["value"] (defScope sName) := ⟨rfl, rfl, rfl, by decide +kernel, rfl, by decide +kernel, by decide +kernel⟩
theorem scUnit : FnScope ["value"] ["value"] (defScope sUnit) := ⟨rfl, rfl, rfl, by decide +kernel, rfl, by decide +kernel, by decide +kernel⟩
theorem scChk : FnScope ["unit"] ["unit"] (defScope sChk) := ⟨rfl, rfl, rfl, by decide +kernel, rfl, by decide +kernel, by decide +kernel⟩
/-- all signs of z stand in c -/
def only (z c : Str) : Bool := z.cps.toList.all fun x => decide (x ∈ c.cps.toList)
def spHas : Sp := fun vs H Q _ => ∃ z c : Str, vs = [.str z, .str c] ∧ z.cps.size ≤ 100000 ∧ ∀ H', Same H H' → Q (.bl (only z c)) H'
theorem boot_all : bootBuiltins "all" = some (.builtin "all") := by decide +kernel
section
variable {P : Program} {w : World} {K : PySem.W.Frag} {mg : Str → Option Value} {base : Heap} {f fW : Addr} {fd fdW : FuncData}
theorem ok_has (F : FnP K "has_only" sHas f fd) (mA : mg "all" = none) : FnOk P w K mg base (L2.CX P w) 1 f fd ["text", "characters"] spHas := by
  refine F.ok scHas (fun vs H Q E h => ?_) (fun cdv A outer s H vs Q E hr h => ?_)
  · obtain ⟨z, c, rfl, _⟩ := h
    rfl
  · obtain ⟨z, c, rfl, hz, q⟩ := h
    refine ⟨_, pss_one (ps_ret (pe_callB (cr_all rfl) rfl mA boot_all (pa_cons (pe_lc (own := [("character", 2)]) (g := gName 2) (te := tOp (fun x y H Q => ∃ (c : Nat) (z : Str), x = .str ⟨#[c]⟩ ∧ y = .str z ∧ Q (.bl (decide (c ∈ z.cps.toList))) H) (tVar 2) (tVar 1)) (by rfl) scHas.nd (pi_str (pv 0))
      (blkOk_by (own := [("character", 2)]) (N := ["text", "characters", "character"]) (sc := defScope sHas) (by decide +kernel)) (fun _ _ _ _ _ => pg_name (i := 2) scHas.nd rfl (Or.inl rfl)) (fun _ _ _ _ _ => pts_nil) (fun _ _ _ _ _ => pe_cmpR op_in_sign (pv 2) (pv 1) (by rfl))) pa_nil))), ?_⟩
    refine ⟨_, rfl, z, rfl, fun D hD => ?_⟩
    refine lc_signs (fun i H' => Same H H' ∧ H' D = some (.lst (((z.cps.toList.take i).map fun x => decide (x ∈ c.cps.toList)).map V.bl))) ⟨Same.upd hD, upd_same⟩ ?_ ?_
    · rintro i ch H1 hc ⟨s1, hl⟩
      refine ⟨rfl, _, rfl, _, rfl, ch, c, rfl, rfl, _, hl, ?_, same_put s1 hD, ?_⟩
      · have := (Array.getElem?_eq_some_iff.mp hc).1
        simp only [List.length_map, List.length_take]
        exact Nat.lt_of_le_of_lt (Nat.min_le_left _ _) (Nat.lt_of_lt_of_le this (Nat.le_trans hz (by decide)))
      · have hc2 : z.cps.toList[i]? = some ch := by rw [Array.getElem?_toList]; exact hc
        rw [upd_same, List.take_add_one, hc2]
        simp
    · rintro H1 ⟨s1, hl⟩
      have e : z.cps.toList.take z.cps.size = z.cps.toList := List.take_of_length_le (by simp)
      rw [e] at hl
      refine ⟨D, _, rfl, SqL.of hl, ?_⟩
      rw [List.all_map]
      exact q H1 s1
end
end K13

set_option Elab.async false
set_option linter.all false
set_option maxRecDepth 100000
set_option maxHeartbeats 4000000
set_option exponentiation.threshold 100000
namespace K13
open PySem PySem.Spec PyProof.Rows L2 Fa Fb
abbrev LET : Str := "abcdefghijklmnopqrstuvwxyz"
abbrev DIG : Str := "0123456789"
abbrev CU (K : PySem.W.Frag) : Addr := He.ga K "InvalidUnit"
/-- what the written part says of validation's names -/
structure VF (K : PySem.W.Frag) (mg : Str → Option Value) (aU : Addr) : Prop where
  str : mg "str" = none
  len : mg "len" = none
  all : mg "all" = none
  letters : ∃ t, mg "LETTERS" = some (.str LET t)
  digits : ∃ t, mg "DIGITS" = some (.str DIG t)
  longest : ∃ t, mg "LONGEST_NAME" = some (.int 8 t)
  units : mg "UNITS" = some (.ref aU)
  unitsT : ∀ H, SqT K H aU [.str "beats", .str "seconds"]
def isName (z : Str) : Bool := (decide (1 ≤ z.length) && decide (z.length ≤ 8)) && ((match z.cps.toList.head? with | some c => decide (c ∈ LET.cps.toList) | none => false) && only z (LET ++ DIG))
def spName (K : PySem.W.Frag) : Sp := fun vs H Q _ => ∃ x, vs = [x] ∧ ((Tx K H x false ∧ Q (.bl false) H) ∨ ∃ z : Str, x = .str z ∧ z.length ≤ 100000 ∧ ∀ H', Same H H' → Q (.bl (isName z)) H')
def isUnit (z : Str) : Bool := decide (z = "beats") || decide (z = "seconds")
def spText (K : PySem.W.Frag) (g : Str → Bool) : Sp := fun vs H Q _ => ∃ x, vs = [x] ∧ ((Tx K H x false ∧ Q (.bl false) H) ∨ ∃ z : Str, x = .str z ∧ Q (.bl (g z)) H)
theorem boot_str : bootBuiltins "str" = some (.type "str") := by decide +kernel
theorem tx_str {K : PySem.W.Frag} : PySem.W.kitOne K (.type "str") (.type "str") = some true := kit_ty (by decide +kernel)
section
variable {P : Program} {w : World} {K : PySem.W.Frag} {mg : Str → Option Value} {base : Heap} {f fW fH : Addr} {fd fdW fdH : FuncData} {aU : Addr}
theorem ok_name (F : FnP K "is_name" sName f fd) (T : AF K mg) (V : VF K mg aU) (GH : FnOk P w K mg base (L2.CX P w) 1 fH fdH ["text", "characters"] spHas) (gH : mg "has_only" = some (.ref fH)) (kH : PySem.W.keepIn K (.ref fH) = true) (bH : Binds K fdH ["text", "characters"] []) :
    FnOk P w K mg base (L2.CX P w) 2 f fd ["value"] (spName K) := by
  obtain ⟨t1, hL⟩ := V.letters
  obtain ⟨t2, hD⟩ := V.digits
  obtain ⟨t3, hN⟩ := V.longest
  refine F.ok scName (fun vs H Q E h => ?_) (fun cdv A outer s H vs Q E hr h => ?_)
  · obtain ⟨x, rfl, _⟩ := h
    rfl
  · obtain ⟨x, rfl, q⟩ := h
    refine ⟨_, pss_cons (ps_if (PW.pt (pw_or (pt_not (pt_val (pe_isi T.isi (pv 0) (pe_ty V.str boot_str)))) (pw_or1 (pt_not (pt_chain op_le op_le pe_int (pe_callB call_len_str rfl V.len PySem.boot_len (pa_cons (pv 0) pa_nil)) (pe_glob (v := .int 8) rfl hN ⟨t3, rfl⟩)))))) (pss_one (ps_ret pe_bl)) pss_nil)
      (pss_one (ps_ret (pe_and (pe_cmpR op_in_sign (pe_ix ix_str (pv 0) pe_int (fun _ _ => rfl)) (pe_glob (v := .str LET) rfl hL ⟨t1, rfl⟩) (by rfl)) (pe_one (pe_call GH hr rfl gH kH bH .nil passL (pa_cons (pv 0) (pa_cons (pe_op op_add_str (pe_glob (v := .str LET) rfl hL ⟨t1, rfl⟩) (pe_glob (v := .str DIG) rfl hD ⟨t2, rfl⟩)) pa_nil))))))), ?_⟩
    rcases q with ⟨⟨ty, h1, h2⟩, q⟩ | ⟨z, rfl, hz, q⟩
    · exact ⟨_, rfl, x, _, ty, _, false, rfl, .ty "str", h1, h2, false, rfl, iteT q⟩
    · refine ⟨_, rfl, .str z, _, _, _, true, rfl, .ty "str", TyX.base (.str z), tx_str, true, rfl, iteF ?_⟩
      have hz2 : z.length ≤ sizeLine := Nat.le_trans hz (by decide)
      refine ⟨_, rfl, z, rfl, hz2, _, _, rfl, rfl, _, rfl, ?_⟩
      by_cases c1 : 1 ≤ z.length
      · refine if_true_of (decide_eq_true (by omega)) ⟨_, _, rfl, rfl, _, rfl, ?_⟩
        by_cases c2 : z.length ≤ 8
        · rw [decide_eq_true (show (z.length : Int) ≤ 8 by omega)]
          refine iteF ?_
          have h0 : 0 < z.cps.toList.length := by
            have : z.cps.toList.length = z.length := by simp [Str.length]
            omega
          have hh : z.cps.toList.head? = some z.cps.toList[0] := by rw [List.head?_eq_getElem?, List.getElem?_eq_getElem h0]
          refine ⟨_, rfl, z, _, _, rfl, rfl, hz2, atI_nat (j := 0) (List.getElem?_eq_getElem h0), _, _, rfl, rfl, _, rfl, ?_⟩
          unfold isName at q
          rw [decide_eq_true c1, decide_eq_true c2, hh] at q
          by_cases c3 : z.cps.toList[0] ∈ LET.cps.toList
          · refine if_true_of (decide_eq_true c3) ⟨_, rfl, LET, DIG, rfl, rfl, by decide +kernel, z, LET ++ DIG, rfl, hz, fun H' s' => ?_⟩
            have q' := q H' s'
            simp only [decide_eq_true c3, Bool.true_and] at q'
            exact q'
          · refine if_false_of (decide_eq_false c3) ?_
            have q' := q H (Same.refl _)
            simp only [decide_eq_false c3, Bool.false_and, Bool.and_false] at q'
            exact q'
        · rw [decide_eq_false (show ¬ (z.length : Int) ≤ 8 by omega)]
          refine iteT ?_
          have q' := q H (Same.refl _)
          unfold isName at q'
          rw [decide_eq_false c2, Bool.and_false, Bool.false_and] at q'
          exact q'
      · refine if_false_of (decide_eq_false (by omega)) ⟨_, rfl, iteT ?_⟩
        have q' := q H (Same.refl _)
        unfold isName at q'
        rw [decide_eq_false c1, Bool.false_and, Bool.false_and] at q'
        exact q'
theorem sbeq (a z : Str) : (a == z) = decide (z = a) := by
  rw [Bool.eq_iff_iff, beq_iff_eq, decide_eq_true_iff]
  exact eq_comm
theorem inV_unit (z : Str) : inV (.str z) [.str "beats", .str "seconds"] = isUnit z := by
  unfold inV isUnit
  simp only [List.any_cons, List.any_nil, eqV, Bool.or_false, sbeq]
theorem ok_unit (F : FnP K "is_unit" sUnit f fd) (T : AF K mg) (V : VF K mg aU) : FnOk P w K mg base (L2.CX P w) 1 f fd ["value"] (spText K isUnit) := by
  refine F.ok scUnit (fun vs H Q E h => ?_) (fun cdv A outer s H vs Q E hr h => ?_)
  · obtain ⟨x, rfl, _⟩ := h
    rfl
  · obtain ⟨x, rfl, q⟩ := h
    refine ⟨_, pss_one (ps_ret (pe_and (pe_isi T.isi (pv 0) (pe_ty V.str boot_str)) (pe_one (pe_cmpR op_in_seq (pv 0) (pe_glob (v := .ref aU) rfl V.units rfl) (by rfl))))), ?_⟩
    rcases q with ⟨⟨ty, h1, h2⟩, q⟩ | ⟨z, rfl, q⟩
    · exact ⟨_, rfl, x, _, ty, _, false, rfl, .ty "str", h1, h2, false, rfl, iteF q⟩
    · refine ⟨_, rfl, .str z, _, _, _, true, rfl, .ty "str", TyX.base (.str z), tx_str, true, rfl, iteT ⟨_, rfl, aU, _, rfl, .inr (V.unitsT H), rfl, rfl, ?_⟩⟩
      rw [if_neg (by decide), inV_unit]
      exact q
/-- a unit passes; else an error -/
def spChk (K : PySem.W.Frag) : Sp := fun vs H Q E => ∃ x, vs = [x] ∧ ((Tx K H x false ∧ Err (CU K) x H E) ∨ ∃ z : Str, x = .str z ∧ (isUnit z = false → Err (CU K) x H E) ∧ (isUnit z = true → Q .non H))
theorem ok_chk {fU fI : Addr} {fdU : FuncData} {qu tu : Str} (F : FnP K "check_unit" sChk f fd) (GU : FnOk P w K mg base (L2.CX P w) 1 fU fdU ["value"] (spText K isUnit)) (gU : mg "is_unit" = some (.ref fU)) (kU : PySem.W.keepIn K (.ref fU) = true) (bU : Binds K fdU ["value"] [])
    (gE : mg "InvalidUnit" = some (.ref (CU K))) (XU : Xb.Txt P.main.file K qu "value" tu (CU K) fI) (htop : (P.main.scope.names.lookup ("super" : Str)).isSome = false) : FnOk P w K mg base (L2.CX P w) 2 f fd ["unit"] (spChk K) := by
  refine F.ok scChk (fun vs H Q E h => ?_) (fun cdv A outer s H vs Q E hr h => ?_)
  · obtain ⟨x, rfl, _⟩ := h
    rfl
  · obtain ⟨x, rfl, q⟩ := h
    refine ⟨_, pss_one (ps_if (pt_not (pt_val (pe_call GU hr rfl gU kU bU .nil passL (pa_cons (pv 0) pa_nil)))) (pss_one (Xb.ps_raiseX (W := fun cls d _ H => E cls d H) rfl XU gE htop hr (takes_of rfl rfl rfl rfl) (pa_cons (pv 0) pa_nil))) pss_nil), ?_⟩
    rcases q with ⟨tx, er⟩ | ⟨z, rfl, er, q⟩
    · exact ⟨_, rfl, x, rfl, .inl ⟨tx, false, rfl, iteT ⟨_, rfl, _, rfl, er⟩⟩⟩
    · refine ⟨_, rfl, .str z, rfl, .inr ⟨z, rfl, isUnit z, rfl, ?_⟩⟩
      cases g : isUnit z with
      | false => exact iteT ⟨_, rfl, _, rfl, er g⟩
      | true => exact iteF (q g)
end
end K13

set_option Elab.async false
set_option linter.all false
set_option maxRecDepth 100000
set_option maxHeartbeats 4000000
/-! Defs that show lists: the guards of repr stand empty around them. -/
namespace Fg
open PySem PySem.Spec PyProof.Rows L2
/-- a def's promise where no repr is under way -/
structure FnG (P : Program) (w : World) (K : PySem.W.Frag) (mg : Str → Option Value) (base : Heap) (CX : CXT) (k : Nat) (f : Addr) (fd : FuncData) (ps : List Str) (sp : Sp) : Prop where
  len : ∀ vs H Q E, sp vs H Q E → vs.length = ps.length
  run : ∀ (A : Around) (ou : List Env) (s : Shared) (H : Hp) (ar : Args) (us : List Value) (vs : List V) (Q : VK) (E : XK), A.guards = some [] → Room k A → Env0 P w K mg base A ou s H → BindsTo s fd ar (ps.zip us) →
    Vals vs us → sp vs H Q E → codeAny (model P w) A (.call (.ref f) ar) (CR CX ou P w H s Q E) s
section
variable {CX : CXT} {P : Program} {w : World} {K : PySem.W.Frag} {mg : Str → Option Value} {base : Heap} {k : Nat} {f : Addr} {fd : FuncData} {x qual : Str} {params : Arguments} {body : List Stmt} {scope : Scope} {dvs : List V} {kws : List (Str × V)} {N ps : List Str} {sp : Sp}
theorem okG (F : FunD K x qual params body scope dvs kws f fd) (S : FnScope N ps scope) (len : ∀ vs H Q E, sp vs H Q E → vs.length = ps.length)
    (hb : ∀ (cdv : Value) (A : Around) (ou : List Env) (s : Shared) (H : Hp) (vs : List V) (Q : VK) (E : XK), A.guards = some [] → Room k (A.deeper (envOfC qual scope s.heap.objs.size f cdv)) → sp vs H Q E →
      ∃ t, PSs (cxOf CX P w K mg base N qual scope f cdv A ou s H E) body t ∧ t { nx := fun _ H' => Q .non H', rt := Q } (start N vs) H) : FnG P w K mg base CX (k + 1) f fd ps sp := by
  obtain ⟨oc, od, dV, kV, doc, pm, an, cdv, ct, osl, rfl, lk, hcd, _, _⟩ := F.ex
  constructor
  · exact len
  intro A ou s H ar us vs Q E hg hr e0 bi rv hsp
  have keep : ∀ b o, base.get? b = some o → s.heap.get? b = some o := fun b o e => (e0.bs b o e).1
  have inK : K.In s.heap := e0.mod.kin.keeps keep
  have noL : s.heap.NoLimit := e0.mod.nolimit.keeps keep
  have kinds : ∀ y ∈ ps.zip us, scope.names.lookup y.1 = some .local ∨ (scope.names.lookup y.1 = some .cell ∧ ((cellsFrom (s.heap.objs.size + 1) scope.names []).lookup y.1).isSome = true) := by
    rintro ⟨n, v⟩ hy
    exact (S.par n (List.of_mem_zip hy).1).imp id fun q => ⟨q, PySem.W.cellsFrom_some _ _ _ (.inl q)⟩
  refine codeAny_call_function hr.depth (inK _ _ lk) rfl S.co S.gen rfl (PySem.W.codeRec_of inK hcd) (bi _ _ _ _ ?_)
  refine wpAny_newFunctionEnv_cells S.kind kinds fun env he s1 ic => ?_
  cases he
  refine ⟨noL.keeps ic.toInCall.keep, codeAny_func ?_⟩
  obtain ⟨t, pt, tq⟩ := hb cdv A ou s H vs Q E hg (hr.deeper _) hsp
  have J : Inv (cxOf CX P w K mg base N qual scope f cdv A ou s H E) [] (start N vs) H s1 := inv_start S hr.hd e0 (len _ _ _ _ hsp) rv ic
  refine wpAny_mono (pt.run [] s1 (start N vs) H _ J tq) (fun fl s2 h2 => ?_) fun _ _ h2 => h2
  match fl, h2 with
  | .ret u, h2 =>
    obtain ⟨v, σ2, H2, J2, ru, q2⟩ := h2
    exact ⟨v, H2, J2.os, J2.bare, J2.base, J2.hok, ru, q2⟩
  | .next, h2 =>
    obtain ⟨σ2, H2, J2, q2⟩ := h2
    exact ⟨V.non, H2, J2.os, J2.bare, J2.base, J2.hok, rfl, q2⟩
  | .brk, h2 => exact (let ⟨_, _, _, z⟩ := h2; False.elim z)
  | .cont, h2 => exact (let ⟨_, _, _, z⟩ := h2; False.elim z)
end
section
variable {X : Cx} {CX : CXT} {k : Nat} {f : Addr} {fd : FuncData} {ps : List Str} {sp : Sp} {E : L2.St → XK} {x : Str} {p pos : Pos} {e : Expr} {es : List Expr} {t : TA}
theorem run_G {pn : List (Addr × Obj)} {σ : L2.St} {H : Hp} {s : Shared} {Q : VK} {us : List Value} {vs : List V} (G : X.A.guards = some []) (F : FnG X.prog X.w X.K X.mg X.base CX k f fd ps sp) (hr : Room k X.A) (hb : Binds X.K fd ps []) (px : PassesAt CX X σ (E σ))
    (I : Inv X pn σ H s) (r : Vals vs us) (h : sp vs H Q (E σ)) : wpAny (model X.prog X.w) X.A (call (.ref f) us) (EP X pn σ Q) X.xe s := by
  have bi := hb s us I.kIn (by rw [List.append_nil, ← r.length]; exact F.len _ _ _ _ h)
  rw [List.append_nil] at bi
  refine wpAny_call (codeAny_mono (F.run X.A X.stack s H ⟨us, []⟩ us vs Q (E σ) G hr I.env0 bi r h) fun res s2 out => ?_)
  match res, out with
  | .error er, out => exact px pn H s er s2 I out
  | .ok (.ret u), out => exact I.after out
  | .ok .next, out => exact out.elim
  | .ok .brk, out => exact out.elim
  | .ok .cont, out => exact out.elim
theorem pe_callG (G : X.A.guards = some []) (F : FnG X.prog X.w X.K X.mg X.base CX k f fd ps sp) (hr : Room k X.A) (hg : Gl X x) (hm : X.mg x = some (.ref f)) (hk : PySem.W.keepIn X.K (.ref f) = true) (hb : Binds X.K fd ps []) (px : ∀ σ, PassesAt CX X σ (E σ))
    (ha : PA X (e :: es) t) (nd : (x == ("__debug__" : Str)) = false := by decide) (he : starEach (e :: es) X.env = (false, eval e X.env) :: starEach es X.env := by rfl) (hpl : (backTo pos (starEach es X.env)).any (·.1) = false := by rfl) :
    PE X (.Call (.Name x p) (e :: es) [] pos) (tCallS sp E t) := by
  constructor
  intro pn s σ H Q I h
  refine wpAny_Call_Name_kw (ld_glob I hg hm ?_ nd)
  refine PySem.W.callWith_K (h₀ := X.base) I.ok.mod.kin hk (thn (ha.run pos pn s σ H _ I h) ?_) he hpl
  rintro us s1 ⟨vs, H1, I1, r, q⟩
  exact ⟨I1.kIn, run_G G F hr hb (px σ) I1 r q⟩
theorem pe_callG0 (G : X.A.guards = some []) (F : FnG X.prog X.w X.K X.mg X.base CX k f fd ps sp) (hr : Room k X.A) (hg : Gl X x) (hm : X.mg x = some (.ref f)) (hk : PySem.W.keepIn X.K (.ref f) = true) (hb : Binds X.K fd ps []) (px : ∀ σ, PassesAt CX X σ (E σ))
    (nd : (x == ("__debug__" : Str)) = false := by decide) : PE X (.Call (.Name x p) [] [] pos) (tCallS sp E tNil) := by
  constructor
  intro pn s σ H Q I h
  exact wpAny_Call_Name_kw (ld_glob I hg hm (PySem.W.callWith_K0 I.kIn hk (run_G (us := []) G F hr hb (px σ) I .nil h)) nd)
end
/-! ### repr of what is tracked -/
/-- the object of sys.modules is a dict of the written part -/
def SysD (K : PySem.W.Frag) : Prop := ∃ c dd es ep sl, K.lookup sysModules = some ⟨c, dd, .dict es ep, sl⟩
def Sh (X : Cx) (H : Hp) (v : V) (d : PyData) : Prop := ∀ (pn : List (Addr × Obj)) (σ : L2.St) (s : Shared) (u : Value), Inv X pn σ H s → RelV v u → ∃ as, Reads s.heap u d as ∧ sysModules ∉ as
inductive ShA (X : Cx) (H : Hp) : List V → List PyData → Prop
  | nil : ShA X H [] []
  | cons {v : V} {vs : List V} {d : PyData} {ds : List PyData} : Sh X H v d → ShA X H vs ds → ShA X H (v :: vs) (d :: ds)
section
variable {X : Cx} {H : Hp}
theorem ShA.reads {pn : List (Addr × Obj)} {σ : L2.St} {s : Shared} (I : Inv X pn σ H s) : ∀ {vs : List V} {ds : List PyData} {us : List Value}, ShA X H vs ds → Vals vs us → ∃ as, ReadsAll s.heap us ds as ∧ sysModules ∉ as
  | _, _, _, .nil, .nil => ⟨[], .nil, by simp⟩
  | _, _, _, .cons h hs, .cons r rs => by
    obtain ⟨as, a1, a2⟩ := h _ _ _ _ I r
    obtain ⟨bs, b1, b2⟩ := ShA.reads I hs rs
    exact ⟨as ++ bs, .cons a1 b1, by simp [a2, b2]⟩
theorem sh_non : Sh X H .non .none := fun _ _ _ u _ r => by
  cases r
  exact ⟨[], .none, by simp⟩
theorem sh_bl (b : Bool) : Sh X H (.bl b) (.bool b) := fun _ _ _ u _ r => by
  cases r
  exact ⟨[], .bool b, by simp⟩
theorem sh_int (i : Int) : Sh X H (.int i) (.int i) := fun _ _ _ u _ ⟨t, e⟩ => by
  cases e
  exact ⟨[], .int i t, by simp⟩
theorem sh_str (x : Str) : Sh X H (.str x) (.str x) := fun _ _ _ u _ ⟨t, e⟩ => by
  cases e
  exact ⟨[], .str x t, by simp⟩
theorem sh_lst (S : SysD X.K) {a : Addr} {xs : List V} {ds : List PyData} (h : H a = some (.lst xs)) (hs : ShA X H xs ds) : Sh X H (.ref a) (.list ds) := fun pn σ s u I r => by
  cases r
  obtain ⟨its, rv, ⟨o, n, ho, hc, _, hd⟩, _⟩ := I.list (SqL.of (K := X.K) h)
  obtain ⟨as, a1, a2⟩ := hs.reads I rv
  refine ⟨a :: as, .list ho hc hd a1, fun z => ?_⟩
  rcases List.mem_cons.mp z with z | z
  · obtain ⟨c, dd, es, ep, sl, hk⟩ := S
    have h2 := I.kIn _ _ hk
    rw [z, ho] at h2
    cases h2
    cases hd
  · exact a2 z
theorem sh_tup {a : Addr} {xs : List V} {ds : List PyData} (h : H a = some (.tup xs)) (hs : ShA X H xs ds) : Sh X H (.ref a) (.tuple ds) := fun pn σ s u I r => by
  cases r
  obtain ⟨its, rv, ⟨o, ho, hc, n, hd⟩, _⟩ := I.tuple (SqT.of (K := X.K) h)
  obtain ⟨as, a1, a2⟩ := hs.reads I rv
  exact ⟨as, .tuple ho hc hd a1, a2⟩
theorem sh_dict0 {a : Addr} (h : H a = some (.dK [])) : Sh X H (.ref a) (.dict []) := fun pn σ s u I r => by
  cases r
  obtain ⟨_, h1, vs, kv, hd⟩ := dk_of I.hok h
  obtain ⟨o, es, ep, ho, hc, hdat, _, hp, _⟩ := hd
  cases kv
  have el : es.toList = [] := List.eq_nil_of_length_eq_zero hp.length
  refine ⟨a :: [] ++ [], Reads.dict ho hc.1 hdat (by rw [el]; exact .nil) (by rw [el]; exact .nil), fun z => ?_⟩
  have z2 : sysModules = a := by simpa using z
  rw [← z2] at h1
  simp at h1
mutual
/-- what is shown of a value, by the tracked heap alone -/
inductive Sv (H : Hp) : V → PyData → Prop
  | non : Sv H .non .none
  | bl (b : Bool) : Sv H (.bl b) (.bool b)
  | int (i : Int) : Sv H (.int i) (.int i)
  | str (x : Str) : Sv H (.str x) (.str x)
  | lst {a : Addr} {xs : List V} {ds : List PyData} : H a = some (.lst xs) → SvA H xs ds → Sv H (.ref a) (.list ds)
  | tup {a : Addr} {xs : List V} {ds : List PyData} : H a = some (.tup xs) → SvA H xs ds → Sv H (.ref a) (.tuple ds)
  | dic {a : Addr} : H a = some (.dK []) → Sv H (.ref a) (.dict [])
inductive SvA (H : Hp) : List V → List PyData → Prop
  | nil : SvA H [] []
  | cons {v : V} {vs : List V} {d : PyData} {ds : List PyData} : Sv H v d → SvA H vs ds → SvA H (v :: vs) (d :: ds)
end
mutual
theorem Sv.sh (S : SysD X.K) : ∀ {d : PyData} {v : V}, Sv H v d → Sh X H v d
  | _, _, .non => sh_non
  | _, _, .bl b => sh_bl b
  | _, _, .int i => sh_int i
  | _, _, .str x => sh_str x
  | _, _, .lst h hs => sh_lst S h (SvA.sh S hs)
  | _, _, .tup h hs => sh_tup h (SvA.sh S hs)
  | _, _, .dic h => sh_dict0 h
theorem SvA.sh (S : SysD X.K) : ∀ {ds : List PyData} {vs : List V}, SvA H vs ds → ShA X H vs ds
  | _, _, .nil => .nil
  | _, _, .cons h hs => .cons (Sv.sh S h) (SvA.sh S hs)
end
mutual
theorem Sv.same {H' : Hp} (s : ∀ a o, H a = some o → H' a = some o) : ∀ {d : PyData} {v : V}, Sv H v d → Sv H' v d
  | _, _, .non => .non
  | _, _, .bl b => .bl b
  | _, _, .int i => .int i
  | _, _, .str x => .str x
  | _, _, .lst h hs => .lst (s _ _ h) (SvA.same s hs)
  | _, _, .tup h hs => .tup (s _ _ h) (SvA.same s hs)
  | _, _, .dic h => .dic (s _ _ h)
theorem SvA.same {H' : Hp} (s : ∀ a o, H a = some o → H' a = some o) : ∀ {ds : List PyData} {vs : List V}, SvA H vs ds → SvA H' vs ds
  | _, _, .nil => .nil
  | _, _, .cons h hs => .cons (Sv.same s h) (SvA.same s hs)
end
theorem call_reprD (S : SysD X.K) (G : X.A.guards = some []) (hu : X.A.units + 64 < cLine) : CallR X (.builtin "repr") (fun xs H Q => ∃ a d, xs = [.ref a] ∧ Sv H (.ref a) d ∧ d.showable = true ∧ d.depth ≤ 20 ∧ d.shown.length ≤ sizeLine ∧ Q (.str d.shown) H) := by
  intro pn s σ H xs us Q I r h
  obtain ⟨a, d, rfl, sv, h1, h2, h3, q⟩ := h
  obtain ⟨u, rfl, r1⟩ := vals1 r
  obtain rfl : u = Value.ref a := r1
  obtain ⟨as, rd, ns⟩ := sv.sh S _ _ _ _ I rfl
  exact repr_of_reads' rd h1 (fun _ => ns) G (by omega) (fun _ _ e => e) (fun h' u tk hk => ⟨.str d.shown, H, I.kept (t' := tk) hk, ⟨u, rfl⟩, q⟩) h3
end
theorem deeper_guards {A : Around} {env : Env} : (A.deeper env).guards = A.guards := rfl
end Fg
set_option Elab.async false
set_option linter.all false
set_option maxRecDepth 100000
set_option maxHeartbeats 4000000
/-! A law's end where its def shows lists: no repr is under way when it is called. -/
namespace Fg
open PySem PySem.Spec PyProof.Rows L2
section
variable {P : Program} {w : World} {K : PySem.W.Frag} {mg mb : Str → Option Value} {CX : CXT} {k : Nat} {fa a : Addr} {fd : FuncData} {x : Str} {sp : Sp} {s₁ : Shared} {vs : List Value} {ns : List Int}
/-- from a heap H that tracks the script at the most -/
theorem call_from (KX : K.In s₁.heap) (hns : s₁.heap.Ns mainGlobals mg) (hb : s₁.heap.Ns builtinsNs mb) (hbb : ∀ x : Str, x ≠ "__name__" → mb x = bootBuiltins x) (hlim : s₁.heap.NoLimit) (hg : s₁.gens = #[])
    (obj : s₁.heap.get? a = some { cls := .type "list", data := .seq vs.toArray }) (hr : Room k callerA) (F : ∀ base : Heap, K.In base → base.Ns mainGlobals mg → FnG P w K mg base CX k fa fd [x] sp)
    (bind : ∀ (s : Shared) (u : Value), BindsTo s fd ⟨[u], []⟩ [(x, u)]) (noX : ∀ H e s', CX [] H s₁ (fun _ _ _ => False) e s' → False) {H : Hp} (only : Only H) (hsp : sp [.ref a] H (fun v _ => v = .bl true) fun _ _ _ => False)
    (hok : HOk P w H s₁.heap) (at_ : ∀ b, H b ≠ none → b = a) (own : H a ≠ none → K.lookup a = none) :
    codeAny (model P w) callerA (.call (.ref fa) ⟨[.ref a], []⟩) (fun r s' => r = .ok (.ret (.bool true)) ∧ OldK s₁.heap s'.heap ∧ s'.os = s₁.os ∧ AllBare s'.gens) s₁ := by
  have free : ∀ {b : Addr} {o : Obj}, s₁.heap.get? b = some o → (b = a → o ≠ { cls := .type "list", data := .seq vs.toArray }) → H b = none := by
    intro b o e ne
    cases q : H b with
    | none => rfl
    | some u =>
      have eb := at_ b (by rw [q]; exact fun z => nomatch z)
      rw [eb, obj] at e
      exact absurd (Option.some.inj e).symm (ne eb)
  have hid : ∀ {b : Addr} {o : Obj}, s₁.heap.get? b = some o → H b = none → (hidT s₁.heap H).get? b = some o := fun e n => hidT_get e n
  have nsp : ∀ {b : Addr} {m : Str → Option Value}, s₁.heap.Ns b m → (hidT s₁.heap H).Ns b m := by
    rintro b m ⟨o, es, ep, e, d, r⟩
    refine ⟨o, es, ep, hid e (free e fun _ z => ?_), d, r⟩
    rw [z] at d
    cases d
  have inB : K.In (hidT s₁.heap H) := fun b o e => hid (KX b o e) (by
    cases q : H b with
    | none => rfl
    | some u =>
      have eb := at_ b (by rw [q]; exact fun z => nomatch z)
      rw [eb] at q e
      rw [own (by rw [q]; exact fun z => nomatch z)] at e
      cases e)
  have M : Mod K mg (hidT s₁.heap H) := ⟨inB, nsp hns, ⟨mb, nsp hb, hbb⟩, hlim.imp fun _ h => ⟨nsp h.1, h.2⟩⟩
  have e0 : Env0 P w K mg (hidT s₁.heap H) callerA [] s₁ H := by
    refine ⟨rfl, M, fun b o e => of_hidT e, Nat.le_of_eq (hidT_size _ _), trivial, fun b hb => ?_, hok, .of_eq hg⟩
    exact (List.not_mem_nil hb).elim
  refine codeAny_mono ((F _ inB (nsp hns)).run callerA [] s₁ H ⟨[.ref a], []⟩ [.ref a] [.ref a] _ _ rfl hr e0 (bind s₁ (.ref a)) (.cons rfl .nil) hsp) fun res s2 out => ?_
  match res, out with
  | .error er, out => exact (noX H er s2 out).elim
  | .ok .next, out => exact out.elim
  | .ok .brk, out => exact out.elim
  | .ok .cont, out => exact out.elim
  | .ok (.ret u), out =>
    obtain ⟨v, H2, os, bare, un, hok2, ru, qv⟩ := out
    cases (show v = V.bl true from qv)
    cases ru
    refine ⟨rfl, OldK.of_keep fun b o e => ?_, os, bare⟩
    rcases only b with n | ⟨ob, xs, z⟩
    · exact un.keep b o e n (fun m => (List.not_mem_nil m).elim) (by simp)
    · obtain ⟨g1, _⟩ := hok b _ z
      obtain ⟨g2, _⟩ := hok2 b _ (un.frzs b ob _ z)
      rw [g1] at e
      rw [g2]
      exact e
theorem law_callG (KX : K.In s₁.heap) (hns : s₁.heap.Ns mainGlobals mg) (hb : s₁.heap.Ns builtinsNs mb) (hbb : ∀ x : Str, x ≠ "__name__" → mb x = bootBuiltins x) (hlim : s₁.heap.NoLimit) (hg : s₁.gens = #[])
    (obj : s₁.heap.get? a = some { cls := .type "list", data := .seq vs.toArray }) (hi : IntsAre vs ns) (hl : ns.length ≤ sizeLine) (hr : Room k callerA) (F : ∀ base : Heap, K.In base → base.Ns mainGlobals mg → FnG P w K mg base CX k fa fd [x] sp)
    (bind : ∀ (s : Shared) (u : Value), BindsTo s fd ⟨[u], []⟩ [(x, u)]) (hsp : ∀ H : Hp, Only H → SqL K H a (ns.map V.int) → sp [.ref a] H (fun v _ => v = .bl true) fun _ _ _ => False)
    (noX : ∀ H e s', CX [] H s₁ (fun _ _ _ => False) e s' → False) :
    codeAny (model P w) callerA (.call (.ref fa) ⟨[.ref a], []⟩) (fun r s' => r = .ok (.ret (.bool true)) ∧ OldK s₁.heap s'.heap ∧ s'.os = s₁.os ∧ AllBare s'.gens) s₁ := by
  have rv := vals_ints hi
  cases hk : K.lookup a with
  | some o =>
    -- the script is an object of the written part
    have e : o = { cls := .type "list", data := .seq vs.toArray } := by
      have z := KX a o hk
      rw [obj] at z
      exact (Option.some.inj z).symm
    subst e
    have sq : SqL K (fun _ => none) a (ns.map V.int) := .inr ⟨_, vs.toArray, _, hk, rfl, rfl, rfl, by rw [List.size_toArray, hi.length]; exact hl, by simpa using rv⟩
    exact call_from KX hns hb hbb hlim hg obj hr F bind noX (H := fun _ => none) (fun _ => .inl rfl) (hsp _ (fun _ => .inl rfl) sq) (fun b u z => nomatch z) (fun b z => absurd rfl z) (fun z => absurd rfl z)
  | none =>
    let H : Hp := fun b => if b = a then some (.frz { cls := .type "list", data := .seq vs.toArray } (.lst (ns.map V.int))) else none
    have ha : H a = some (.frz { cls := .type "list", data := .seq vs.toArray } (.lst (ns.map V.int))) := if_pos rfl
    have hn : ∀ {b}, b ≠ a → H b = none := fun z => if_neg z
    have only : Only H := fun b => by
      by_cases z : b = a
      · subst z
        exact .inr ⟨_, _, ha⟩
      · exact .inl (hn z)
    refine call_from KX hns hb hbb hlim hg obj hr F bind noX (H := H) only (hsp H only (.inl (.inr ⟨_, ha⟩))) (fun b u z => ?_) (fun b z => ?_) (fun _ => hk)
    · by_cases eb : b = a
      · subst eb
        cases ha.symm.trans z
        exact ⟨obj, by rw [List.length_map]; exact hl, vs, _, rv, obj⟩
      · cases (hn eb).symm.trans z
    · by_cases eb : b = a
      · exact eb
      · exact absurd (hn eb) z
end
theorem walk_ofG {l : PySem.W.OpenLaw} {n k : Nat} {q : Program} {loose : List Str} {XP : (Str → Option Value) → Heap → Prop} {YP : World → Heap → Prop} {d : DefRec} {CX : World → CXT} {x : Str}
    (hn : l.most = some n) (small : n ≤ sizeLine) (hdf : d.params.defaults = []) (hr : Room k callerA)
    (F : ∀ (w : World) (mg : Str → Option Value) (fa : Addr) (h : Heap), YP w h → h.Ns mainGlobals mg → mg d.name = some (.ref fa) → ∃ (K : PySem.W.Frag) (fd : FuncData) (sp : Sp), K.In h ∧ (∀ (s : Shared) (u : Value), BindsTo s fd ⟨[u], []⟩ [(x, u)]) ∧
        (∀ (H : Hp) (a : Addr) (ns : List Int), ns.length ≤ n → Only H → SqL K H a (ns.map V.int) → sp [.ref a] H (fun v _ => v = .bl true) fun _ _ _ => False) ∧ ∀ base : Heap, K.In base → base.Ns mainGlobals mg → FnG l.prog w K mg base (CX w) k fa fd [x] sp)
    (noX : ∀ (w : World) (H : Hp) (s : Shared) (e : Value) (s' : Shared), CX w [] H s (fun _ _ _ => False) e s' → False) : PySem.W.WalkO q loose XP YP l.row.toRowW d [] (fun f vs => PySem.call f vs) := by
  refine Att.attach_call hn hdf ?_
  intro w s₀ s₁ mg mb fa o pm cd doc a vs ns G Y ho hd hcd hmg obj hints len hg
  obtain ⟨K, fd, sp, KX, bi, hsp, hF⟩ := F w mg fa _ Y G.T.g hmg
  refine law_callG KX G.T.g G.T.b G.T.builtins G.T.nolimit hg obj hints (Nat.le_trans len small) hr hF bi ?_ (fun H e s' => noX w H s₁ e s')
  exact fun H hO hS => hsp H a ns len hO hS
end Fg
set_option Elab.async false
set_option linter.all false
set_option maxRecDepth 100000
set_option maxHeartbeats 4000000
/-! Exception classes above KeyError whose __init__ says super().__init__(a text) and stores its one argument. -/
namespace Xk
open PySem PySem.W PySem.Calls PyProof.Rows
open Xb (Nm arg2 bod2 sco2 mcall1 Done Made)
open Builtin Builtin.ObjectAttr
abbrev keTail : List Value := [.type "KeyError", .type "LookupError", .type "Exception", .type "BaseException", .type "object"]
/-- classes of one's own, then those above KeyError -/
def tailKE (l : List Value) : Bool := match l with
  | .ref _ :: r => tailKE r
  | l => l == keTail
theorem tailKE_or (l : List Value) (e : tailKE l = true) : (∃ c r, l = .ref c :: r ∧ tailKE r = true) ∨ l = keTail := by
  unfold tailKE at e
  split at e
  · exact .inl ⟨_, _, rfl, e⟩
  · exact .inr (beq_iff_eq.mp e)
theorem pass_KE (self : Value) : refuseLoop self "__setattr__" keTail = pure () := by kernel_rfl
theorem tailKE_all (self : Value) : ∀ l : List Value, tailKE l = true → refuseLoop self "__setattr__" l = pure () ∧ (∀ X : String, l.contains (.type X) = keTail.contains (.type X)) ∧ l.isEmpty = false
  | [], e => by cases e
  | a :: r, e => by
    rcases tailKE_or _ e with ⟨c, r', q, h⟩ | q
    · obtain ⟨rfl, rfl⟩ := List.cons.inj q
      obtain ⟨h1, h2, _⟩ := tailKE_all self _ h
      exact ⟨by rw [PySem.refuseLoop_ref]; exact h1, fun X => by rw [List.contains_cons, h2 X]; rfl, rfl⟩
    · rw [q]
      exact ⟨pass_KE self, fun _ => rfl, rfl⟩
theorem slot_KE : Slot "KeyError" "__init__" "KeyError.__init__" := .of (owner := "KeyError") (n := "__init__") (by rw [typeLookup_type, builtinLookup_eq_fast]; kernel_rfl) (by decide +kernel) (by decide +kernel) (by decide +kernel)
    (by first
      | exact .inl (by decide +kernel)
      | exact .inr (by decide +kernel)) (by rw [isSubtype_type]; kernel_rfl)
theorem entry_KE : entryFor table "KeyError.__init__" = some Builtin.«BaseException.__init__» := by
  refine entryFor_alias (id' := "BaseException.__init__") ?_ ?_ ?_ ?_
  · rw [fastTable_eq_tree]; kernel_rfl
  · first
    | rfl
    | decide +kernel
  · decide +kernel
  · rw [fastTable_eq_tree]; kernel_rfl
theorem kind_KE : builtinKind "KeyError.__init__" = some .slot := by kernel_rfl
theorem row_KE : Manifest.signature? "KeyError.__init__" = some ⟨.positional, "*", "KeyError", .self, [⟨"args", .varPos, false⟩]⟩ := by kernel_rfl
theorem kxs_KE : KxsFacts "KeyError" "KeyError.__init__" := by
  refine ⟨?_, ?_⟩
  · show builtinType _ = _
    rw [builtinType_eq_fast]; kernel_rfl
  · first
    | kernel_rfl
    | rfl
/-! ### the class is called: LookupError's new, then the own init -/
section
variable {prog : Program} {w : World} {A : Around} {hp : Heap} {g : Array GenState} {dr : Drawn} {tk : Nat} {os : OsState}
variable {n₁ n₂ : Str} {C nsA : Addr} {bs bm : List Value} {hdct : Bool} {sl₁ : List Str} {sb : List Value} {ab : Bool} {col : Option Bool} {dd : Option Addr} {k0 k1 k2 k3 k5 : Option Value}
abbrev Cls0 (hp : Heap) (n₁ n₂ : Str) (C nsA : Addr) (bs bm : List Value) (hdct : Bool) (sl₁ : List Str) (sb : List Value) (ab : Bool) (col : Option Bool) (dd : Option Addr) (k0 k1 k2 k3 k5 : Option Value) : Prop :=
  hp.get? C = some (excClassObj n₁ n₂ C nsA bs bm hdct sl₁ sb ab col dd k0 k1 k2 k3 k5 "LookupError.__new__")
abbrev bare (C t : Addr) : Obj := { cls := .ref C, data := .fields #[.ref t, .none, .none, .none, .bool false, .none] }
theorem has (hb : tailKE bm = true) (X : String) (b : Bool) (h : keTail.contains (.type X) = b) : (Value.ref C :: bm).contains (.type X) = b := by
  rw [List.contains_cons, (tailKE_all .none bm hb).2.1 X, h]
  cases b <;> rfl
theorem new_check (hC : Cls0 hp n₁ n₂ C nsA bs bm hdct sl₁ sb ab col dd k0 k1 k2 k3 k5) (hb : tailKE bm = true) {M : Model} {E : Value → Shared → Prop} {more : List Value} {Q : Unit → Shared → Prop} (q : Q () ⟨hp, g, dr, tk, os⟩) :
    wpAny M A (checkBuiltinCall "LookupError.__new__" ⟨.ref C :: more, []⟩) Q E ⟨hp, g, dr, tk, os⟩ := by
  have FL := _root_.PySem.F.excBase_LookupError
  have c1 : (Value.ref C :: bm).contains (.type "LookupError") = true := has hb _ _ (by decide +kernel)
  have star := FL.noStar
  simp only [checkBuiltinCall, FL.newKind, FL.newSplit, FL.newRow]
  repeat (first
    | refine wpAny_loadPart_at hC ?_
    | (refine wpAny_isSubtype_exc hC ?_; rw [c1])
    | refine wpAny_staticBase_exc hC ?_
    | refine wpAny_madeBy_exc hC ?_
    | simp only [bne_self_eq_false, Bool.false_eq_true, if_false]
    | wp_step)
  exact q
theorem new_run {R : Result → Shared → Prop} (hC : Cls0 hp n₁ n₂ C nsA bs bm hdct sl₁ sb ab col dd k0 k1 k2 k3 k5) (hb : tailKE bm = true) {more : List Value} (hz : more.length ≤ sizeLine)
    (q : R (.ok (.ret (.ref (hp.objs.size + 1)))) ⟨(hp.push (kdv_tup more)).push (bare C hp.objs.size), g, dr, tk, os⟩) :
    codeAny (model prog w) A (.builtin "LookupError.__new__" ⟨.ref C :: more, []⟩) R ⟨hp, g, dr, tk, os⟩ := by
  have FL := _root_.PySem.F.excBase_LookupError
  have ends := FL.ends
  have c1 : (Value.ref C :: bm).contains (.type "LookupError") = true := has hb _ _ (by decide +kernel)
  have c2 : (Value.ref C :: bm).contains (.type "AttributeError") = false := has hb _ _ (by decide +kernel)
  have c3 : (Value.ref C :: bm).contains (.type "NameError") = false := has hb _ _ (by decide +kernel)
  refine codeAny_builtinAt FL.entry (_root_.PySem.wpAt_bind ?_)
  show _root_.PySem.wpAt _ _ _ (stack >>= _) _ _ _
  refine _root_.PySem.wpAt_bind (_root_.PySem.wpAt_stack fun p below => _root_.PySem.wpAt_of_wpAny ?_)
  wp_walk
  refine _root_.PySem.wpAt_of_wpAny ?_
  rw [FL.owner]
  repeat (first
    | with_reducible refine wpAny_madeHere_exc FL.canon hC ?_
    | with_reducible refine wpAny_loadPart_at hC ?_
    | (with_reducible refine wpAny_isSubtype_exc hC ?_; rw [c1])
    | (with_reducible refine wpAny_isSubtype_exc hC ?_; rw [c2])
    | (with_reducible refine wpAny_isSubtype_exc hC ?_; rw [c3])
    | wp_step)
  show R _ _
  rw [Heap.size_push]
  exact q
theorem type_run {E : Value → Shared → Prop} (hC : Cls0 hp n₁ n₂ C nsA bs bm hdct sl₁ sb ab col dd k0 k1 k2 k3 k5) (hb : tailKE bm = true) {more : List Value} {own : Addr} {Q : Fin → Shared → Prop}
    (h1 : Looks (model prog w) hp (typeLookup (.ref C) "__init__") (some (.ref own))) (h2 : ∀ x, Looks (model prog w) hp (bindSpecial (.ref own) x) (.ref own, [x])) (hz : more.length ≤ sizeLine)
    (q : codeAny (model prog w) A (.call (.ref own) ⟨.ref (hp.objs.size + 1) :: more, []⟩)
      (fun r s' => match r with
        | .ok (.ret v) => v = .none ∧ Q (.done (.ret (.ref (hp.objs.size + 1)))) s'
        | .ok _ => False
        | .error e => E e s') ⟨(hp.push (kdv_tup more)).push (bare C hp.objs.size), g, dr, tk, os⟩) :
    wpAny (model prog w) A (Builtin.«type.__call__» ⟨.ref C :: more, []⟩) Q E ⟨hp, g, dr, tk, os⟩ := by
  have FL := _root_.PySem.F.excBase_LookupError
  repeat (first
    | with_reducible refine wpAny_loadPart_at hC ?_
    | with_reducible refine wpAny_madeBy_exc hC ?_
    | wp_step)
  refine codeAny_call_builtin_code (Code.quiet_builtin _ FL.quiet) (new_check hC hb (new_run hC hb hz ?_))
  show wpAny _ _ _ _ _ _
  have kp : ∀ b o, hp.get? b = some o → ((hp.push (kdv_tup more)).push (bare C hp.objs.size)).get? b = some o := fun b o e => Heap.get?_push_of_some _ (Heap.get?_push_of_some _ e)
  have gC := kp _ _ hC
  have gx : ((hp.push (kdv_tup more)).push (bare C hp.objs.size)).get? (hp.objs.size + 1) = some (bare C hp.objs.size) := by heap_get
  have cc : (Value.ref C :: bm).contains (.ref C) = true := by simp
  have j1 := h1.keeps kp
  have j2 := (h2 (.ref (hp.objs.size + 1))).keeps kp
  unfold isInstance
  repeat (first
    | with_reducible refine wpAny_loadPart_at gx ?_
    | (with_reducible refine wpAny_isSubtype_exc gC ?_; rw [cc])
    | wp_step)
  show wpAny _ _ (typeLookup (.ref C) _) _ _ _
  refine j1.at (wpAny_holding (wpAny_bind (j2.at (wpAny_bind (wpAny_call (codeAny_mono q fun r s' z => ?_))))))
  rcases r with e | (v | _ | _ | _) <;> first
    | exact z
    | exact z.elim
    | skip
  obtain ⟨rfl, z⟩ := z
  first
    | exact wpAny_pure (wpAny_pure z)
    | (wp_walk; exact z)
theorem call_run {R : Result → Shared → Prop} (hC : Cls0 hp n₁ n₂ C nsA bs bm hdct sl₁ sb ab col dd k0 k1 k2 k3 k5) (hb : tailKE bm = true) {more : List Value} {own : Addr}
    (h1 : Looks (model prog w) hp (typeLookup (.ref C) "__init__") (some (.ref own))) (h2 : ∀ x, Looks (model prog w) hp (bindSpecial (.ref own) x) (.ref own, [x])) (hz : more.length ≤ sizeLine)
    (q : codeAny (model prog w) (A.under (.builtin "type.__call__" ⟨.ref C :: more, []⟩)) (.call (.ref own) ⟨.ref (hp.objs.size + 1) :: more, []⟩) (InitBack (hp.objs.size + 1) R) ⟨(hp.push (kdv_tup more)).push (bare C hp.objs.size), g, dr, tk, os⟩) :
    codeAny (model prog w) A (.call (.ref C) ⟨more, []⟩) R ⟨hp, g, dr, tk, os⟩ := by
  have a1 := tc_lookup
  have a2 := tc_bind (.ref C)
  have ty : (⟨hp, g, dr, tk, os⟩ : Shared).TypeIs (.ref C) "type" := ⟨_, hC, rfl⟩
  refine codeAny_of_tree ?_
  show wpAny _ _ (callAny (.ref C) _) _ _ _
  repeat (any_goals (first
    | assumption
    | with_reducible refine wpAny_loadPart_at hC ?_
    | wp_step))
  refine ⟨rfl, codeAny_call_builtin_at (Code.quiet_builtin _ (by decide +kernel)) entry_typeCall (wpAny_check_type_call_sub hC (type_run hC hb h1 h2 hz ?_))⟩
  refine codeAny_mono q fun r s' z => ?_
  rcases r with e | (v | _ | _ | _) <;> exact z
/-- self.name = v, no dict yet -/
theorem set_new {R : Result → Shared → Prop} {K : Frag} {name : Str} {tn : Tok} {v : Value} {x : Addr} {fv : Array Value} {cd : ClassData} (X : K.In hp) (hx : hp.get? x = some { cls := .ref C, data := .fields fv }) (hcd : clsIn K C = some cd) (hm : tailKE cd.mro = true)
    (hh : cd.hasDict = true) (ha : findIn K (.ref C) name = some none)
    (q : ∀ h' tk' dx, (∀ b o, b ≠ x → hp.get? b = some o → h'.get? b = some o) → hp.objs.size ≤ dx → dx ≠ x → h'.get? x = some { cls := .ref C, dict := some dx, data := .fields fv } → h'.Ns1 dx (fun y => if y = name then some v else none) → R (.ok (.ret .none)) ⟨h', g, dr, tk', os⟩) :
    codeAny (model prog w) A (.call (.builtin "object.__setattr__") ⟨[.ref x, .str name tn, v], []⟩) R ⟨hp, g, dr, tk, os⟩ := by
  obtain ⟨pass, cont, ne⟩ := tailKE_all (.ref x) _ hm
  have J : InstAt hp x { cls := .ref C, data := .fields fv } C none := ⟨hx, rfl, rfl, trivial⟩
  have SO := _root_.PySem.F.store_object
  have c0 : cd.mro.contains (.type "object") = true := (cont "object").trans (by decide +kernel)
  have nx : x ≠ hp.objs.size := Nat.ne_of_lt (Heap.lt_size hx)
  have io : Looks (model prog w) hp (isInstance (.ref x) (.type "object")) true := by
    refine J.type.andThen (looks_mroIn X ?_)
    unfold mroIn
    rw [hcd, Option.bind_some, if_neg (by rw [ne]; decide), c0]
  refine codeAny_call_builtin SO.slot.plain SO.entry (@check_slot (model prog w) _ _ ⟨hp, g, dr, tk, os⟩ "object.__setattr__" "object" "__setattr__" (.ref x) [.str name tn, v] [] _ SO.kind SO.split io (SO.args (.ref x) (.str name tn) v) ?_)
  have m1 : Looks (model prog w) hp (mroOf (.ref C)) cd.mro := (looks_clsIn X hcd).andThen .now
  have m2 : Looks (model prog w) hp (storeTaker? none) none := .now
  have m3 : Looks (model prog w) hp (classData C) cd := looks_clsIn X hcd
  rw [osa_eq, refuse_eq]
  refine wpAny_bind (wpAny_bind (J.type.at (wpAny_bind (m1.at ?_))))
  rw [pass]
  refine wpAny_pure (wpAny_bind (J.type.at (wpAny_bind ((looks_findIn X ha).at (wpAny_bind (m2.at ?_))))))
  show wpAny _ _ (storeInOwnDict (.ref x) (.ref C) (.str name tn) name v false) _ _ _
  obtain ⟨y1, y2, y3, y4, y5, y6, y7, y8, y9, y10, y11⟩ := cd
  dsimp only at hh
  subst hh
  unfold storeInOwnDict ownDictForStores
  repeat (first
    | with_reducible refine HandSPX.store_in_new ?_ ?_
    | with_reducible refine wpAny_loadPart_at hx ?_
    | with_reducible refine m3.at ?_
    | wp_step)
  · have fresh := Heap.get?_push_at (h := hp) (o := { cls := .type "dict", data := .dict #[] }) rfl rfl
    exact ⟨_, #[], _, (Heap.get?_update_ne _ _ _ _ nx.symm).trans fresh, rfl, fun e he => absurd he (by simp), fun _ => rfl⟩
  · intro h' tk' hn' hs
    have px : (hp.push { cls := .type "dict", data := .dict #[] }).get? x = some { cls := .ref C, data := .fields fv } := Heap.get?_push_of_some _ hx
    refine q h' tk' hp.objs.size (fun b o hb ho => ?_) (Nat.le_refl _) nx.symm ((hs.2 x nx).trans (Heap.get?_update_self _ px rfl)) hn'
    refine (hs.2 b (Nat.ne_of_lt (Heap.lt_size ho))).trans ?_
    exact (Heap.get?_update_ne _ _ _ _ hb).trans (Heap.get?_push_of_some _ ho)
end
/-- what the written part says of the class at C and of its __init__ at fI -/
structure Txt (file : Str) (K : Frag) (q F txt : Str) (C fI : Addr) : Prop where
  nm : Nm F
  cls : ∃ nm q' N bs bm sn sub ab col dd k0 k1 k2 k3 k5, K.lookup C = some (excClassObj nm q' C N bs bm true sn sub ab col dd k0 k1 k2 k3 k5 "LookupError.__new__") ∧ tailKE bm = true
  sa : findIn K (.ref C) "__setattr__" = some (some (.builtin "object.__setattr__"))
  ga : findIn K (.ref C) "__getattribute__" = some (some (.builtin "BaseException.__getattribute__"))
  gg : findIn K (.ref C) "__getattr__" = some none
  noF : findIn K (.ref C) F = some none
  iC : findIn K (.ref C) "__init__" = some (some (.ref fI))
  tC : typeIn K (.ref fI) = some (.type "function")
  kC : keepIn K (.ref C) = true
  exC : subIn K (.ref C) (.type "BaseException") = some true
  keC : subIn K (.ref C) (.type "KeyError") = some true
  tyC : typeIn K (.ref C) = some (.type "type")
  hdC : hasDictIn K C = true
  te : exmOne K (.ref C) (.ref C) = some true
  sup : ks_superIn K C C "__init__" = some (some (.builtin "KeyError.__init__"))
  slf : mroIn K C (.ref C) = some true
  gs : nsIn K mainGlobals "super" = some none
  tp : nsIn K cStatics "thirdparty.any" = some none
  fn : ∃ (oc : Value) (od : Option Addr) (kV doc pm : Value) (an : Option Addr) (cda : Addr) (ct : Value) (osl : Array (Option Value)) (cc : Addr) (p1 p2 : Pos) (kk : Nat) (q1 q2 q3 q4 q5 q6 q7 q8 q9 q10 : Pos),
    K.lookup fI = some ⟨oc, od, .func (ksFn "__init__" q (arg2 F p1 p2) (bod2 F txt kk q1 q2 q3 q4 q5 q6 q7 q8 q9 q10) (sco2 F) .none kV doc pm an (.ref cda) ct cc), osl⟩ ∧ codeIn K (.ref cda) q = true ∧ (q3.endLine == q5.line) = true ∧
    (∃ ccl cdd vs ccs tf, K.lookup cda = some ⟨ccl, cdd, .fields vs, ccs⟩ ∧ vs[2]? = some (.str file tf)) ∧ (∃ cl cld csl, K.lookup cc = some ⟨cl, cld, .cell (some (.ref C)), csl⟩)
section
variable {M : Model} {A : Around} {E : Value → Shared → Prop} {hp : Heap} {g : Array GenState} {dr : Drawn} {tk : Nat} {os : OsState}
variable {n₁ n₂ : Str} {C nsA : Addr} {bs bm : List Value} {hdct : Bool} {sl₁ : List Str} {sb : List Value} {ab : Bool} {col : Option Bool} {dd : Option Addr} {k0 k1 k2 k3 k5 : Option Value}
theorem init_check {e : Addr} {oe : Obj} {more : List Value} {Q : Unit → Shared → Prop} (hC : Cls0 hp n₁ n₂ C nsA bs bm hdct sl₁ sb ab col dd k0 k1 k2 k3 k5) (he : hp.get? e = some oe) (hc : oe.cls = .ref C) (q : Q () ⟨hp, g, dr, tk, os⟩) :
    wpAny M A (checkBoundCall "KeyError.__init__" ⟨.ref e :: more, []⟩) Q E ⟨hp, g, dr, tk, os⟩ := by
  have star : ("KeyError" != "*") = true := by decide +kernel
  simp only [checkBoundCall, kind_KE, row_KE]
  repeat (first
    | (with_reducible refine wpAny_loadPart_at he ?_; rw [hc])
    | with_reducible refine wpAny_loadPart_at hC ?_
    | wp_step)
  refine wpAny_onRaise ?_
  have z : ∀ (a b : String) (n : Nat), Bind.check ⟨.positional, "*", "KeyError", .self, [⟨"args", .varPos, false⟩]⟩ a b n (List.map (fun x => x.fst) ({ pos := Value.ref e :: more } : Args).kw) = pure () := fun _ _ _ => check_star_args _ _ _ _ _ _
  rw [z]
  exact wpAny_pure q
end
section
variable {prog : Program} {w : World} {A : Around} {E : Value → Shared → Prop} {h : Heap} {g : Array GenState} {d : Drawn} {t : Nat} {os : OsState}
variable {nm q : Str} {C N : Addr} {bs bm : List Value} {hdct : Bool} {sn : List Str} {sub : List Value} {ab : Bool} {col : Option Bool} {dd : Option Addr} {k0 k1 k2 k3 k5 : Option Value}
/-- the bound built-in __init__ is called -/
theorem mw_call {u e t0 : Addr} {rest : List Value} {Q : Value → Shared → Prop}
    (hC : h.get? C = some (excClassObj nm q C N bs bm hdct sn sub ab col dd k0 k1 k2 k3 k5 "LookupError.__new__")) (he : h.get? e = some (HandSPX.excO C t0))
    (hu : h.get? u = some (kxs_mw "KeyError.__init__" e)) (hz : rest.length ≤ sizeLine)
    (hq : ∀ h' t1, (∀ b o, b ≠ e → h.get? b = some o → h'.get? b = some o) → h'.get? e = some (HandSPX.excO C t1) → Q .none ⟨h', g, d, t, os⟩) :
    wpAny (model prog w) A (call (.ref u) rest) Q E ⟨h, g, d, t, os⟩ := by
  have c1 : (Value.type "method-wrapper" == Value.type "method" || Value.type "method-wrapper" == Value.type "builtin_function_or_method" || Value.type "method-wrapper" == Value.type "method-wrapper") = true := by decide
  refine wpAny_call (codeAny_of_tree ?_)
  show wpAny _ A.in1 (callAny (.ref u) ⟨rest, []⟩) _ _ _
  simp only [callAny]
  refine wpAny_bind (wpAny_load hu ?_)
  simp only [kxs_mw, c1, if_true]
  refine KFB.if_so (by decide) ?_
  refine wpAny_bind (init_check hC he rfl ?_)
  refine wpAny_bind (wpAny_pure (wpAny_pure ?_))
  refine ⟨plainId_quiet slot_KE.plain _, codeAny_builtin entry_KE ?_⟩
  refine exc_init_tree (cls := .ref C) (t0 := t0) (dv := none) (c2 := .none) (c3 := .none) (b4 := .bool false) he hz fun h' k e' _ => ?_
  exact hq h' _ k e'
end
section
variable {prog : Program} {w : World} {A : Around} {E : Value → Shared → Prop} {R : Result → Shared → Prop} {s : Shared} {K : Frag} {q F txt : Str} {C fI : Addr} {mg mb : Str → Option Value}
theorem initX (T : Txt prog.main.file K q F txt C fI) {x t0 : Addr} {v : Value} (X : K.In s.heap) (hlim : s.heap.NoLimit) (hg : s.heap.Ns mainGlobals mg) (hb : s.heap.Ns builtinsNs mb) (hbs : mb "super" = some (.type "super"))
    (htop : (prog.main.scope.names.lookup ("super" : Str)).isSome = false) (hx : s.heap.get? x = some (HandSPX.excO C t0)) (hnx : K.lookup x = none) (hroom : A.depth < recursionLimit)
    (hq : ∀ h' tk dx t1, Done s.heap h' x C dx t1 F v → R (.ok (.ret .none)) { s with heap := h', toks := tk }) :
    codeAny (model prog w) A (.call (.ref fI) ⟨[.ref x, v], []⟩) R s := by
  obtain ⟨oc, od, kV, doc, pm, an, cda, ct, osl, cc, p1, p2, kk, q1, q2, q3, q4, q5, q6, q7, q8, q9, q10, ho, hcd, hpl, ⟨ccl, cdd, vs, ccs, tf, hcode, hvs⟩, cl, cld, csl, hcell⟩ := T.fn
  obtain ⟨nm, q', N, bs, bm, sn, sub, ab, col, dd, k0, k1, k2, k3, k5, hC, hbm⟩ := T.cls
  have hcl : clsIn K C = some { name := nm, bases := bs, mro := .ref C :: bm, ns := N, qualname := q', hasDict := true, slotNames := sn, subclasses := sub, abstract := ab, collection := col, hasDel := false } := by unfold clsIn; rw [hC] <;> rfl
  refine ks_codeAny_call_defAt (fd := ksFn "__init__" q (arg2 F p1 p2) (bod2 F txt kk q1 q2 q3 q4 q5 q6 q7 q8 q9 q10) (sco2 F) .none kV doc pm an (.ref cda) ct cc) (binds := [("self", .ref x), (F, v)]) hroom (X _ _ ho) rfl hlim (codeRec_of X hcd) rfl
    (BindsTo.of_eq (T.nm.b _ _ _ _ _ _ _ _ _ _ _ _ _)) (fun y hy => ?_) (fun y hy => ?_) (fun h₁ hns hk => ?_)
  · simp only [List.mem_cons, List.not_mem_nil, or_false] at hy
    rcases hy with rfl | rfl | rfl | rfl <;> (intro z; cases z)
  · simp only [List.mem_cons, List.not_mem_nil, or_false] at hy
    rcases hy with rfl | rfl
    · exact T.nm.l
    · exact T.nm.f
  have X1 : K.In h₁ := X.keeps hk
  have g1 : h₁.Ns mainGlobals mg := hg.keeps hk
  have b1 : h₁.Ns builtinsNs mb := hb.keeps hk
  have x1 := hk _ _ hx
  have vS : ([(PySem.Str.ofString "self", Value.ref x), (F, v)] : List (Str × Value)).reverse.lookup ("self" : Str) = some (.ref x) := by
    show List.lookup ("self" : Str) [(F, v), (("self" : Str), Value.ref x)] = _
    simp [List.lookup, T.nm.en]
  have vF : ([(PySem.Str.ofString "self", Value.ref x), (F, v)] : List (Str × Value)).reverse.lookup F = some v := by
    show List.lookup F [(F, v), (("self" : Str), Value.ref x)] = _
    simp [List.lookup]
  show _root_.PySem.wpAt _ _ _ (execs (_ :: _) _) _ _ _
  refine ks_wpAt_execs_cons (ks_wpAt_Expr_any (ks_wpAt_MethodCall ?_ (mcall1 hpl)))
  obtain ⟨oD, hD1, hD2⟩ : ∃ oD, h₁.get? C = some oD ∧ oD.data = .cls { name := nm, bases := bs, mro := .ref C :: bm, ns := N, qualname := q', hasDict := true, slotNames := sn, subclasses := sub, abstract := ab, collection := col, hasDel := false } := ⟨_, X1 _ _ hC, rfl⟩
  have I1 : InstAt h₁ x (HandSPX.excO C t0) C none := ⟨x1, rfl, rfl, trivial⟩
  refine ks_wpAt_super_base T.nm.s T.nm.c (by decide) rfl (X1 _ _ ho) rfl rfl rfl (X1 _ _ hcode) rfl hvs (beq_self_eq_true _) htop ?_
  refine ks_loadName_global rfl T.nm.s (loadGlobal_builtin g1 (mg_none_of X1 g1 T.gs) b1 hbs ⟨rfl, ?_⟩)
  refine wpAny_loadName_free rfl T.nm.c (by rfl) ⟨_, X1 _ _ hcell, rfl⟩ ?_
  refine wpAny_loadName_local rfl T.nm.l hns vS ?_
  refine ks_wpAny_isType_cls hD1 hD2 ⟨rfl, ?_⟩
  refine ks_wpAny_call_super hD1 hD2 x1 rfl (fun c e => by cases e) (looks_mroIn X1 T.slf) (fun h₂ e2 k2' => ?_)
  have X2 : K.In h₂ := X1.keeps k2'
  have x2 := k2' _ _ x1
  have n2 : h₂.Ns s.heap.objs.size (fun y => ([(PySem.Str.ofString "self", Value.ref x), (F, v)] : List (Str × Value)).reverse.lookup y) := hns.keeps k2'
  have I2 : InstAt h₂ x (HandSPX.excO C t0) C none := ⟨x2, rfl, rfl, trivial⟩
  have hxC : x ≠ C := ks_ne X2 I2 hcl
  have hsup := T.sup
  unfold ks_superIn at hsup
  rw [hcl] at hsup
  have hI : Looks (model prog w) h₂ (isInstance (.ref x) (.type "KeyError")) true := I2.type.andThen (looks_subIn X2 T.keC)
  show wpAny _ _ (getMethod (.ref h₁.objs.size) "__init__" _) _ _ _
  refine kxs_getMethod kxs_KE e2 (looks_opaque X2 T.tp) (l₀ := .ref C :: bm) (fun A Q E s k z => wpAny_bind ((looks_clsIn X2 hcl) A _ E s k (wpAny_pure z))) rfl X2 hsup hI hxC (by decide) ?_
  have k3' : ∀ b o, h₂.get? b = some o → (h₂.push (kxs_mw "KeyError.__init__" x)).get? b = some o := fun b o e => Heap.get?_push_of_some _ e
  have u3 : (h₂.push (kxs_mw "KeyError.__init__" x)).get? h₂.objs.size = some (kxs_mw "KeyError.__init__" x) := Heap.get?_push_size _ rfl
  refine kxs_callWith (i := "KeyError.__init__") (x := x) rfl (evalArgs_plain (spliced_cons (Constant_str (k := kk) (pos := q4) (spliced_nil ⟨u3, ?_⟩))))
  refine mw_call (k3' _ _ (X2 _ _ hC)) (k3' _ _ x2) u3 (by show 1 ≤ sizeLine; rw [sizeLine_eq]; omega) fun h₄ t1 k4 x4 => ?_
  have X4 : K.In h₄ := fun a o e => k4 a o (fun z => by rw [z, hnx] at e; cases e) (k3' _ _ (X2 _ _ e))
  have hxL : s.heap.objs.size ≠ x := Nat.ne_of_gt (Heap.lt_size hx)
  have n4 : h₄.Ns s.heap.objs.size (fun y => ([(PySem.Str.ofString "self", Value.ref x), (F, v)] : List (Str × Value)).reverse.lookup y) := by
    obtain ⟨o, es, ep, e, r⟩ := n2
    exact ⟨o, es, ep, k4 _ _ hxL (k3' _ _ e), r⟩
  show _root_.PySem.wpAt _ _ _ (execs (_ :: _) _) _ _ _
  refine wpAt_of_wpAny (wpAny_execs_cons (plainObj_wpAny_Assign_Attribute ?_))
  refine wpAny_Name (wpAny_loadName_local rfl T.nm.f n4 vF ?_) T.nm.db
  refine wpAny_Name (wpAny_loadName_local rfl T.nm.l n4 vS ?_) (by decide)
  refine set_plain X4 (ox := HandSPX.excO C t1) (od := none) ⟨x4, rfl, rfl, trivial⟩ T.sa ?_
  refine set_new X4 x4 hcl (show tailKE (.ref C :: bm) = true from hbm) rfl T.noF (fun h₅ tk₅ dx k₅ dn dne hx₅ hn₅ => ?_)
  show wpAny _ _ (execs _ _) _ _ _
  have z4 : ∀ b o, b ≠ x → s.heap.get? b = some o → h₄.get? b = some o := fun b o hb e => k4 b o hb (k3' _ _ (k2' _ _ (hk _ _ e)))
  refine wpAny_execs_nil (hq h₅ tk₅ dx t1 ⟨fun b o hb e => k₅ b o hb (z4 b o hb e), hx₅, ?_, dne, hn₅⟩)
  obtain ⟨o4, es4, ep4, e4, _⟩ := n4
  exact Nat.le_of_lt (Nat.lt_of_lt_of_le (Heap.lt_size e4) dn)

theorem madeX (T : Txt prog.main.file K q F txt C fI) {v : Value} (X : K.In s.heap) (hlim : s.heap.NoLimit) (hg : s.heap.Ns mainGlobals mg) (hb : s.heap.Ns builtinsNs mb) (hbs : mb "super" = some (.type "super"))
    (htop : (prog.main.scope.names.lookup ("super" : Str)).isSome = false) (hroom : A.depth + 1 < recursionLimit)
    (hq : ∀ h' tk e d, Made s.heap h' e C d F v → R (.ok (.ret (.ref e))) { s with heap := h', toks := tk }) :
    codeAny (model prog w) A (.call (.ref C) ⟨[v], []⟩) R s := by
  obtain ⟨nm, q', N, bs, bm, sn, sub, ab, col, dd, k0, k1, k2, k3, k5, hC, hbm⟩ := T.cls
  obtain ⟨hp, g, dr, tk, os⟩ := s
  have k : ∀ b o, hp.get? b = some o → ((hp.push (kdv_tup [v])).push (HandSPX.excO C hp.objs.size)).get? b = some o := fun b o e => Heap.get?_push_of_some _ (Heap.get?_push_of_some _ e)
  have hget : ((hp.push (kdv_tup [v])).push (HandSPX.excO C hp.objs.size)).get? (hp.objs.size + 1) = some (HandSPX.excO C hp.objs.size) := by heap_get
  have hnx : K.lookup (hp.objs.size + 1) = none := by
    cases e : K.lookup (hp.objs.size + 1) with
    | none => rfl
    | some o =>
      have z : hp.get? (hp.objs.size + 1) = some o := X _ _ e
      exact absurd (Nat.lt_of_succ_lt (Heap.lt_size z)) (Nat.lt_irrefl _)
  refine call_run (X _ _ hC) hbm (looks_findIn X T.iC) (fun self => bind_fn X self T.tC) (by show 1 ≤ sizeLine; rw [sizeLine_eq]; omega) ?_
  refine initX (s := ⟨(hp.push (kdv_tup [v])).push (HandSPX.excO C hp.objs.size), g, dr, tk, os⟩) T (X.keeps k) (hlim.keeps k) (hg.keeps k) (hb.keeps k) hbs htop hget hnx ?_ fun h' tk' dx t1 D => ?_
  · show A.depth + 1 < recursionLimit
    exact hroom
  · have old : ∀ b o, hp.get? b = some o → h'.get? b = some o := fun b o e => D.keep b o (Nat.ne_of_lt (Nat.lt_succ_of_lt (Heap.lt_size e))) (k b o e)
    have z : hp.objs.size + 1 + 1 ≤ dx := by
      have q := D.dbig
      simp only [Heap.size_push] at q
      exact q
    exact ⟨rfl, hq h' tk' (hp.objs.size + 1) dx ⟨old, Nat.le_succ _, ⟨_, D.obj⟩, Nat.le_trans (Nat.le_trans (Nat.le_succ _) (Nat.le_succ _)) z, D.dne, D.ns⟩⟩
end

end Xk
namespace Xk
open PySem PySem.Spec PyProof.Rows L2
open Xb (boot_super relO_one tMkX tRaiseX tByX Made)
section
variable {X : Cx} {C fI : Addr} {q F txt : Str}
theorem pmk_x {x : Str} {a : Expr} {ta : TA} {p pos : Pos} {k : Nat} (T : Txt X.prog.main.file X.K q F txt C fI) (hm : X.mg x = some (.ref C)) (htop : (X.prog.main.scope.names.lookup ("super" : Str)).isSome = false) (hr : Room k X.A) (ha : PA X [a] ta) (hg : Gl X x := by rfl)
    (hdb : (x == ("__debug__" : Str)) = false := by decide)
    (he : starEach (a :: []) X.env = (false, eval a X.env) :: starEach [] X.env := by rfl) (hpl : (backTo pos (starEach [] X.env)).any (·.1) = false := by rfl) :
    PMk X (.Call (.Name x p) [a] [] pos) (tMkX C F ta) := by
  intro pins s σ H Q I h
  refine wpAny_Call_Name_kw (ld_glob I hg hm ?_ hdb)
  refine PySem.W.callWith_K (h₀ := X.base) I.ok.mod.kin T.kC (thn (ha.run pos pins s σ H _ I h) fun us s1 hh => ?_) he hpl
  obtain ⟨vs, H1, I1, r1, v, ev, q1⟩ := hh
  subst ev
  refine ⟨I1.kIn, ?_⟩
  cases r1 with
  | cons rv rn =>
    rename_i v' us'
    cases rn
    show wpAny _ _ (call (.ref C) [v']) _ _ _
    have hlim := I1.nolimit
    have M := I1.mod
    have hns : s1.heap.Ns mainGlobals X.mg := M.glob.keeps I1.bk
    obtain ⟨mb, hb, hbb⟩ := M.blt
    have hb1 : s1.heap.Ns builtinsNs mb := hb.keeps I1.bk
    have hbs : mb "super" = some (.type "super") := (hbb _ (by decide)).trans boot_super
    obtain ⟨hp, g, dr, tk, os⟩ := s1
    refine wpAny_call (madeX T I1.kIn hlim hns hb1 hbs htop (by have := hr.dp; omega) fun h' tk' e d M => ?_)
    show MkP X pins σ Q (.ref e) ⟨h', g, dr, tk', os⟩
    obtain ⟨t1, hoe⟩ := M.obj
    obtain ⟨G', g1, g2⟩ := restrict h' fun b => decide (b ≠ e)
    have gk : ∀ b, b ≠ e → G'.get? b = h'.get? b := fun b hb => g1 b (decide_eq_true hb)
    have ge : G'.get? e = none := g2 e (by simp)
    have old : ∀ b o, hp.get? b = some o → G'.get? b = some o := fun b o q => (gk b (Nat.ne_of_lt (Nat.lt_of_lt_of_le (Heap.lt_size q) M.new))).trans (M.keep b o q)
    have ob : ObjOk X.prog X.w (upd H1 d (.xd [(F, v)])) G' d (.xd [(F, v)]) :=
      ⟨_, M.ns.at (fun o q => (gk d M.dne).trans q), fun f => relO_one rv f⟩
    have J : Inv X pins σ (upd H1 d (.xd [(F, v)])) ⟨G', g, dr, tk', os⟩ := I1.laid (t' := tk') old M.dbig ob
    refine ⟨e, _, _, ⟨G', g, dr, tk', os⟩, _, .ref C, some d, rfl, J, fun b o q => ?_, ge, hoe, ⟨rfl, rfl⟩, rfl, rfl, ?_, rfl, I1.bare, raises_own T.exC T.tyC, q1 d (I1.hok.fresh M.dbig)⟩
    · by_cases hb : b = e
      · have q' : G'.get? b = some o := q
        rw [hb, ge] at q'; cases q'
      · exact (gk b hb).symm.trans q
    · rw [upd_ne (Ne.symm M.dne)]
      exact I1.hok.fresh M.new
theorem ps_raiseX {x : Str} {a : Expr} {ta : TA} {W : WX} {p pos pos2 : Pos} {k : Nat} (hc : X.calm = true) (T : Txt X.prog.main.file X.K q F txt C fI) (hm : X.mg x = some (.ref C)) (htop : (X.prog.main.scope.names.lookup ("super" : Str)).isSome = false) (hr : Room k X.A) (tk : Takes X W) (ha : PA X [a] ta) (hg : Gl X x := by rfl)
    (hdb : (x == ("__debug__" : Str)) = false := by decide)
    (he : starEach (a :: []) X.env = (false, eval a X.env) :: starEach [] X.env := by rfl) (hpl : (backTo pos (starEach [] X.env)).any (·.1) = false := by rfl) :
    PS X (.Raise (some (.Call (.Name x p) [a] [] pos)) none pos2) (tRaiseX C F W ta) := ps_raise hc tk (pmk_x T hm htop hr ha hg hdb he hpl)
theorem pe_byX {a : Addr} {oe : Obj} {cls : Value} {d : Option Addr} {pn : List (Addr × Obj)} {e : Expr} {te : TE} {pos : Pos} (T : Txt X.prog.main.file X.K q F txt C fI) (hz : Zc cls d oe) (hf : ∃ vs, oe.data = .fields vs) (he : PE (X.suite a ((a, oe) :: pn)) e te)
    (hb : attributeBase e F X.env (eval e X.env) = eval e X.env := by rfl) :
    PE (X.suite a ((a, oe) :: pn)) (.Attribute e F pos) (tByX C F a cls d te) := by
  refine ⟨fun pins s σ H Q I h => ?_⟩
  refine attr_of hb (thn (he.run pins s σ H _ I h) fun u s1 hh => ?_)
  obtain ⟨x, H1, I1, rx, ex, ec, dd, v, ed, ea, q⟩ := hh
  subst ex
  obtain rfl : u = Value.ref a := rx
  subst ec
  subst ed
  obtain ⟨ha, _⟩ := I1.pin (a, oe) (List.mem_append_left _ List.mem_cons_self)
  obtain ⟨vs, hd⟩ := hf
  have hx : ObjOk X.prog X.w H1 s1.heap dd (.xd [(F, v)]) := I1.hok dd _ ea
  obtain ⟨mA, hns, hr⟩ := hx
  obtain ⟨od, ho, hl⟩ := lookIn_ns hns
  have l : List.lookup F [(F, v)] = some v := by simp [List.lookup]
  obtain ⟨u, hu, ru⟩ := RelO.some_of (v := v) (o := mA F) (by rw [← l]; exact hr F)
  have J : PySem.W.InstAt s1.heap a oe C (some od) := ⟨ha, hz.1, by unfold PySem.W.notCls; rw [hd] <;> rfl, by rw [hz.2]; exact ho⟩
  exact HandSPX.exc_get I1.kIn J T.ga T.gg T.exC (PySem.W.findObj_own T.hdC T.noF rfl (by rw [hl, hu])) (handed_of ru) ⟨v, H1, I1.tok _, ru, q⟩
end
end Xk
set_option Elab.async false
set_option linter.all false
set_option maxRecDepth 100000
set_option maxHeartbeats 4000000
namespace Hd
open PySem PySem.Spec PyProof.Rows L2
def clsKE (K : PySem.W.Frag) (C : Addr) : Bool := match K.lookup C with
  | some ⟨.type t, _, .cls cd, sl⟩ => (match cd.mro, sl.toList with
    | .ref C' :: bm, [_, _, _, _, some (.builtin n), _] => decide (t = "type") && (decide (C' = C) && (decide (n = "LookupError.__new__") && (!cd.hasDel && (cd.hasDict && Xk.tailKE bm))))
    | _, _ => false)
  | _ => false
theorem clsKE_ok {K : PySem.W.Frag} {C : Addr} (h : clsKE K C = true) : ∃ nm q' N bs bm sn sub ab col dd k0 k1 k2 k3 k5, K.lookup C = some (excClassObj nm q' C N bs bm true sn sub ab col dd k0 k1 k2 k3 k5 "LookupError.__new__") ∧ Xk.tailKE bm = true := by
  unfold clsKE at h
  split at h
  · rename_i t dd cd sl ho
    split at h
    · rename_i C' bm k0 k1 k2 k3 n k5 hm hs
      obtain ⟨h0, h⟩ := He.ba h
      obtain ⟨h1, h⟩ := He.ba h
      obtain ⟨h2, h⟩ := He.ba h
      obtain ⟨h3, h⟩ := He.ba h
      obtain ⟨h4, h5⟩ := He.ba h
      have h0 := of_decide_eq_true h0
      have h1 := of_decide_eq_true h1
      have h2 := of_decide_eq_true h2
      subst h0 h1 h2
      obtain ⟨nm, bs, mro, ns, qn, hd, sn, sub, ab, col, del⟩ := cd
      dsimp only at hm h3 h4
      subst hm h4
      have h3 : del = false := by simpa using h3
      subst h3
      have hsl : sl = #[k0, k1, k2, k3, some (.builtin "LookupError.__new__"), k5] := by
        obtain ⟨l⟩ := sl
        simp only at hs
        rw [hs]
      subst hsl
      exact ⟨_, _, _, _, _, _, _, _, _, _, _, _, _, _, _, ho, h5⟩
    · cases h
  · cases h
/-- the further facts of the class x whose one field is F -/
def excKB (file : Str) (K : PySem.W.Frag) (x F : Str) : Bool :=
  let C := He.ga K x
  let fI := He.ma K C "__init__"
  allB [He.eqO (PySem.W.nsIn K mainGlobals x) (some (some (.ref C))), clsKE K C, He.eqO (PySem.W.findIn K (.ref C) "__setattr__") (some (some (.builtin "object.__setattr__"))),
    He.eqO (PySem.W.findIn K (.ref C) "__getattribute__") (some (some (.builtin "BaseException.__getattribute__"))), He.eqO (PySem.W.findIn K (.ref C) "__getattr__") (some none), He.eqO (PySem.W.findIn K (.ref C) F) (some none),
    He.eqO (PySem.W.findIn K (.ref C) "__init__") (some (some (.ref fI))), decide (PySem.W.typeIn K (.ref fI) = some (.type "function")), PySem.W.keepIn K (.ref C), decide (PySem.W.subIn K (.ref C) (.type "BaseException") = some true),
    decide (PySem.W.subIn K (.ref C) (.type "KeyError") = some true), decide (PySem.W.typeIn K (.ref C) = some (.type "type")), PySem.W.hasDictIn K C, decide (PySem.W.exmOne K (.ref C) (.ref C) = some true),
    He.eqO (PySem.W.ks_superIn K C C "__init__") (some (some (.builtin "KeyError.__init__"))), decide (PySem.W.mroIn K C (.ref C) = some true), He.eqO (PySem.W.nsIn K mainGlobals "super") (some none), He.eqO (PySem.W.nsIn K cStatics "thirdparty.any") (some none),
    (match K.lookup fI with
      | some ⟨_, _, .func fd, _⟩ => (match fd.code, fd.closure with
        | .ref cda, [(_, cc)] => (match K.lookup cda with
          | some ⟨_, _, .fields vs, _⟩ => fileB file vs
          | _ => false) && (match K.lookup cc with
          | some ⟨_, _, .cell (some (.ref D)), _⟩ => decide (D = C)
          | _ => false)
        | _, _ => false)
      | _ => false)]
theorem exc_txtK {file : Str} {K : PySem.W.Frag} {x q F txt : Str} {st : Stmt} {fd : FuncData} (nm : Xb.Nm F) (g : Got K (excD x q st) fd) (c : excKB file K x F = true)
    (hst : ∃ (p1 p2 : Pos) (kk : Nat) (q1 q2 q3 q4 q5 q6 q7 q8 q9 q10 : Pos), defArgs st = Xb.arg2 F p1 p2 ∧ defBody st = Xb.bod2 F txt kk q1 q2 q3 q4 q5 q6 q7 q8 q9 q10 ∧ defScope st = Xb.sco2 F ∧ (q3.endLine == q5.line) = true) :
    Xk.Txt file K q F txt (He.ga K x) (He.ma K (He.ga K x) "__init__") := by
  obtain ⟨oc, od, dV, kV, doc, pm, an, cdv, ct, osl, cl, h1, h2, h3, h4, h5⟩ := g.ex
  obtain ⟨p1, p2, kk, q1, q2, q3, q4, q5, q6, q7, q8, q9, q10, s1, s2, s3, s4⟩ := hst
  have hdV : dV = .none := by
    rcases h4 with ⟨_, e⟩ | ⟨e, _⟩
    · exact e
    · exact absurd rfl e
  have last := allB_at c 18
  have lk : K.lookup (He.ma K (He.ga K x) "__init__") = some ⟨oc, od, .func fd, osl⟩ := h2
  rw [lk] at last
  rw [h1] at last
  refine ⟨nm, clsKE_ok (allB_at c 1), He.eqO_ok (allB_at c 2), He.eqO_ok (allB_at c 3), He.eqO_ok (allB_at c 4), He.eqO_ok (allB_at c 5), He.eqO_ok (allB_at c 6), of_decide_eq_true (allB_at c 7), allB_at c 8, of_decide_eq_true (allB_at c 9), of_decide_eq_true (allB_at c 10),
    of_decide_eq_true (allB_at c 11), allB_at c 12, of_decide_eq_true (allB_at c 13), He.eqO_ok (allB_at c 14), of_decide_eq_true (allB_at c 15), He.eqO_ok (allB_at c 16), He.eqO_ok (allB_at c 17), ?_⟩
  cases cdv with
  | ref cda =>
    cases cl with
    | nil => cases h5
    | cons y r =>
      obtain ⟨y1, cc⟩ := y
      cases r with
      | cons _ _ => cases h5
      | nil =>
        have e1 : y1 = ("__class__" : Str) := (List.cons.inj h5).1
        subst e1
        obtain ⟨l1, l2⟩ := He.ba (show ((match K.lookup cda with
          | some ⟨_, _, .fields vs, _⟩ => fileB file vs
          | _ => false) && (match K.lookup cc with
          | some ⟨_, _, .cell (some (.ref D)), _⟩ => decide (D = He.ga K x)
          | _ => false)) = true from last)
        refine ⟨oc, od, kV, doc, pm, an, cda, ct, osl, cc, p1, p2, kk, q1, q2, q3, q4, q5, q6, q7, q8, q9, q10, ?_, h3, s4, ?_, ?_⟩
        · rw [lk, h1, hdV]
          show some (⟨oc, od, .func (PySem.W.fnX "__init__" q (defArgs st) (defBody st) (defScope st) [("__class__", cc)] .none kV doc pm an (.ref cda) ct), osl⟩ : Obj) = _
          rw [s1, s2, s3]
        · split at l1
          · rename_i ccl cdd vs ccs hk
            obtain ⟨tf, e⟩ := fileB_ok l1
            exact ⟨_, _, _, _, tf, hk, e⟩
          · cases l1
        · split at l2
          · rename_i a b D c2 hk
            have e := of_decide_eq_true l2
            subst e
            exact ⟨_, _, _, hk⟩
          · cases l2
  | _ => cases last
end Hd
set_option Elab.async false
set_option linter.all false
set_option maxRecDepth 100000
set_option maxHeartbeats 1000000
/-! f(a, .., k = v) where what it raises is caught by the place; one keyword-only parameter. -/
namespace Gb
open PySem PySem.Spec PyProof.Rows L2
section
variable {X : Cx} {CX : CXT} {k n : Nat} {f : Addr} {fd : FuncData} {ps ks : List Str} {sp : Sp} {E : L2.St → XK} {x : Str} {p pos : Pos} {e : Expr} {es : List Expr} {kws : List Keyword} {t tk : TA} {g : List Value → List Value → List Value} {gV : List V → List V → List V}
def tCallNS (n m : Nat) (sp : Sp) (gV : List V → List V → List V) (E : L2.St → XK) (t tk : TA) : TE := fun σ H Q => t σ H fun vs H1 => tk σ H1 fun zs H2 => vs.length = n ∧ zs.length = m ∧ sp (gV vs zs) H2 Q (E σ)
theorem run_ns {pins : List (Addr × Obj)} {σ : L2.St} {H : Hp} {s : Shared} {Q : VK} {us ws : List Value} {vs zs : List V} (F : FnOk X.prog X.w X.K X.mg X.base CX k f fd ps sp) (hr : Room k X.A) (hb : KBn X.K fd ps n ks g gV) (px : PassesAt CX X σ (E σ))
    (I : Inv X pins σ H s) (r : Vals vs us) (rz : Vals zs ws) (l1 : vs.length = n) (l2 : zs.length = ks.length) (h : sp (gV vs zs) H Q (E σ)) : wpAny (model X.prog X.w) X.A (call (.ref f) us (ks.zip ws)) (EP X pins σ Q) X.xe s := by
  have r2 := hb.rel r rz
  refine wpAny_call (codeAny_mono (F.run X.A X.stack s H ⟨us, ks.zip ws⟩ (g us ws) (gV vs zs) Q (E σ) hr I.env0 (hb.to s us ws I.kIn (r.length.symm.trans l1) (rz.length.symm.trans l2)) r2 h) fun r s' hq => ?_)
  cases r with
  | error e => exact px pins H s e s' I hq
  | ok fl =>
    cases fl with
    | ret u => exact I.after hq
    | next => exact False.elim hq
    | brk => exact False.elim hq
    | cont => exact False.elim hq
theorem pe_callNS (F : FnOk X.prog X.w X.K X.mg X.base CX k f fd ps sp) (hr : Room k X.A) (hg : Gl X x) (hm : X.mg x = some (.ref f)) (hk : PySem.W.keepIn X.K (.ref f) = true) (hb : KBn X.K fd ps n ks g gV) (px : ∀ σ, PassesAt CX X σ (E σ))
    (ha : PA X (e :: es) t) (hkw : PK X kws tk) (hall : (backToKw pos (keywordEach kws X.env)).all (·.1.isSome) = true := by rfl) (hks : (backToKw pos (keywordEach kws X.env)).filterMap (·.1) = ks := by rfl)
    (hdb : (x == ("__debug__" : Str)) = false := by decide) (he : starEach (e :: es) X.env = (false, eval e X.env) :: starEach es X.env := by rfl)
    (hpl : ((backTo pos (starEach (e :: es) X.env)).any (·.1) || (backToKw pos (keywordEach kws X.env)).any (·.1.isNone)) = false := by rfl) :
    PE X (.Call (.Name x p) (e :: es) kws pos) (tCallNS n ks.length sp gV E t tk) := by
  refine ⟨fun pins s σ H Q I h => ?_⟩
  refine wpAny_Call_Name_kw (ld_glob I hg hm ?_ hdb)
  refine PySem.W.callWith_KW (h₀ := X.base) I.ok.mod.kin hk hall (thn (ha.run pos pins s σ H _ I h) fun us s1 ⟨vs, H1, I1, r, q⟩ => ?_) hpl he
  refine thn (hkw.run pos pins s1 σ H1 _ I1 q) fun ws s2 ⟨zs, H2, I2, rz, l1, l2, q2⟩ => ⟨I2.kIn, ?_⟩
  rw [hks]
  exact run_ns F hr hb (px σ) I2 r rz l1 l2 q2
end
/-- one keyword, given; no positional defaults -/
theorem kbn {K : PySem.W.Frag} {x qual : Str} {params : Arguments} {body : List Stmt} {scope : Scope} {kws : List (Str × V)} {f : Addr} {fd : FuncData} {ps : List Str} {n : Nat} {k : Str} (F : FunD K x qual params body scope [] kws f fd)
    (h : ∀ (kV doc pm : Value) (an : Option Addr) (cdv ct : Value) (us : List Value) (w : Value), us.length = n → bindArgs (PySem.W.fnOf x qual params body scope .none kV doc pm an cdv ct) ⟨us, [(k, w)]⟩ = pure (ps.zip (us ++ [w]))) : KBn K fd ps n [k] (fun us ws => us ++ ws) (fun vs zs => vs ++ zs) := by
  obtain ⟨oc, od, dV, kV, doc, pm, an, cdv, ct, osl, rfl, lk, hcd, hD, hK⟩ := F.ex
  rcases hD with ⟨_, rfl⟩ | ⟨e, _⟩
  · refine ⟨fun s us ws _ l1 l2 => ?_, fun r1 r2 => r1.append r2⟩
    match ws, l2 with
    | [w], _ => exact .of_eq (h kV doc pm an cdv ct us w l1)
  · exact absurd rfl e
/-- the keyword's default, from what stands at the def -/
def kwAt (K : PySem.W.Frag) (f : Addr) (x : Str) : Addr := match K.lookup f with
  | some ⟨_, _, .func fd, _⟩ => (match fd.kwdefaults with
    | .ref D => (match PySem.W.nsIn K D x with
      | some (some (.ref T)) => T
      | _ => 0)
    | _ => 0)
  | _ => 0
end Gb
set_option Elab.async false
set_option linter.all false
set_option maxRecDepth 100000
set_option maxHeartbeats 1000000
namespace Gb
open PySem PySem.Spec PyProof.Rows L2
def kwB (K : PySem.W.Frag) (f : Addr) (x : Str) : Bool := match K.lookup f with
  | some ⟨_, _, .func fd, _⟩ => He.kwdB K fd.kwdefaults [(x, .ref (kwAt K f x))]
  | _ => false
theorem _root_.L2.FunD.kw1 {K : PySem.W.Frag} {x qual y : Str} {params : Arguments} {body : List Stmt} {scope : Scope} {dvs : List V} {f : Addr} {fd : FuncData} (F : FunD K x qual params body scope dvs [] f fd) (h : kwB K f y = true) : FunD K x qual params body scope dvs [(y, .ref (kwAt K f y))] f fd := by
  obtain ⟨oc, od, dV, kV, doc, pm, an, cdv, ct, osl, rfl, lk, hcd, hD, hK⟩ := F.ex
  refine ⟨⟨oc, od, dV, kV, doc, pm, an, cdv, ct, osl, rfl, lk, hcd, hD, ?_⟩, F.kp⟩
  unfold kwB at h
  rw [lk] at h
  exact He.kwdB_ok h
end Gb
set_option Elab.async false
set_option linter.all false
set_option maxRecDepth 100000
set_option maxHeartbeats 0
set_option exponentiation.threshold 100000
namespace T13
open PySem PySem.Spec PyProof.Rows L2 Fa Fb K13
/-! ### where the defs stand, and what is asked of the written part -/
def pa (K : PySem.W.Frag) (f : Str) : Addr := He.ma K (CA K) f
def ga2 (K : PySem.W.Frag) (f : Str) : Addr := match PySem.W.recIn K (pa K f) "property" with
  | some (.ref g :: _) => g
  | _ => 0
open Hd in
def dG (x : Str) (i : Nat) : Def := { ad := fun K => He.ga K x, name := x, qual := x, st := top i }
open Hd in
def dM (m q : Str) (j : Nat) (dfl : List He.Dv := []) : Def := { ad := fun K => He.ma K (CA K) m, name := m, qual := q, st := inClass (top 32) j, dfl := dfl }
open Hd in
def dP (m q : Str) (j : Nat) : Def := { ad := fun K => ga2 K m, name := m, qual := q, st := inClass (top 32) j }
open Hd in
def dC (C : PySem.W.Frag → Addr) (m q : Str) (i j : Nat) (dfl : List He.Dv := []) : Def := { ad := fun K => He.ma K (C K) m, name := m, qual := q, st := inClass (top i) j, dfl := dfl }
open Hd in
def ds0 : List Hd.Def := [dC CA "__init__" "Amount.__init__" 32 0 [.int 1], dP "top" "Amount.top" 1, dP "bottom" "Amount.bottom" 2, dC CA "__eq__" "Amount.__eq__" 32 3 [], dC CA "__add__" "Amount.__add__" 32 4 [], dC CA "__neg__" "Amount.__neg__" 32 7 [], dC CA "compare" "Amount.compare" 32 10 [], dC (fun K => He.ga K "Sheet") "__init__" "Sheet.__init__" 42 0 [], dC (fun K => He.ga K "Sheet") "_tell" "Sheet._tell" 42 1 [], dC (fun K => He.ga K "Sheet") "__contains__" "Sheet.__contains__" 42 3 [], dC (fun K => He.ga K "Sheet") "moment" "Sheet.moment" 42 13 [], dC (fun K => He.ga K "Sheet") "moments" "Sheet.moments" 42 12 [], dG "_law_cell" 57, dG "_law_box" 58, dG "_law_take" 59, dG "is_whole" 23, dG "is_amount" 33, dG "as_amount" 34, dG "has_only" 27, dG "is_name" 26]
open Hd in
def ds1 : List Hd.Def := [dG "is_unit" 28, dG "check_unit" 30, dG "is_listing" 24, dG "parted" 36, dG "extended" 37, dG "_law_lowest" 60, dG "check_cue" 43, dG "check_known" 45, dG "_law_added" 61, dG "_law_led" 64, dG "_law_rows" 65, dG "_law_moments" 66, dG "_law_labels" 62, dG "_law_amount" 63, dG "_law_cues" 67, dG "_law_passed" 68, dG "is_integer" 25, dG "check_moment" 46, dG "is_word" 29, dG "_is_limit" 49]
open Hd in
def ds2 : List Hd.Def := [dG "names_of" 50, dG "has_form" 48, dG "check_sheet" 44, dG "check_fact" 51, dG "check_facts" 52, dG "sayings" 53, dG "strongest" 54, dG "bound" 55, dG "_law_far" 69, dG "_law_fact" 70, dG "_law_passed_fact" 71, dG "_law_sayings" 72, dG "_law_due" 73, dG "_law_told" 75, dG "_law_refused" 76, dG "_law_right" 74, dG "law" 77, Hd.excD "InvalidInteger" "InvalidInteger.__init__" (inClass (top 6) 0), Hd.excD "InvalidAmount" "InvalidAmount.__init__" (inClass (top 7) 0), Hd.excD "InvalidUnit" "InvalidUnit.__init__" (inClass (top 10) 0)]
open Hd in
def ds3 : List Hd.Def := [Hd.excD "InvalidSheet" "InvalidSheet.__init__" (inClass (top 13) 0), Hd.excD "InvalidPart" "InvalidPart.__init__" (inClass (top 8) 0), Hd.excD "InvalidFact" "InvalidFact.__init__" (inClass (top 14) 0), Hd.excD "UnknownCue" "UnknownCue.__init__" (inClass (top 15) 0)]
def ds : List Hd.Def := ds0 ++ ds1 ++ ds2 ++ ds3
def gloB (K : PySem.W.Frag) (x : Str) : Bool := He.eqO (PySem.W.nsIn K mainGlobals x) (some (some (.ref (He.ga K x))))
def freeB (K : PySem.W.Frag) (x : Str) : Bool := He.eqO (PySem.W.nsIn K mainGlobals x) (some none)
def clsB (K : PySem.W.Frag) (C : Addr) : Bool := Hd.allB [PySem.W.plainGet K C Str.empty, PySem.W.hasDictIn K C, PySem.W.plainOver K C, He.eqO (PySem.W.findIn K (.ref C) "__setattr__") (some (some (.builtin "object.__setattr__"))), He.eqO (PySem.W.findIn K (.ref C) "_top") (some none), He.eqO (PySem.W.findIn K (.ref C) "_bottom") (some none),
  PySem.W.makesIn K C, He.eqO (PySem.W.findIn K (.ref C) "__init__") (some (some (.ref (He.ma K C "__init__")))), PySem.W.isFn K (.ref (He.ma K C "__init__")), PySem.W.keepIn K (.ref C), He.eqO (PySem.W.nsIn K mainGlobals "gcd") (some (some (.builtin "math.gcd"))),
  decide (PySem.W.kitOne K (.ref C) (.type "int") = some false), decide (PySem.W.kitOne K (.ref C) (.type "bool") = some false), decide (PySem.W.kitOne K (.ref C) (.ref C) = some true), tys.all fun T => decide (PySem.W.kitOne K (.type T) (.ref C) = some false),
  He.eqO (PySem.W.findIn K (.ref C) "__class__") (some (some (.builtin "object.__class__"))), He.eqO (PySem.W.specialIn K (.builtin "object.__class__") "__get__") (some (some (.builtin "getset_descriptor.__get__"))), decide (PySem.W.takesIn K (.builtin "object.__class__") = some true),
  decide (PySem.W.mroIn K C (.type "object") = some true), tys.all fun T => decide (PySem.W.subIn K (.type T) (.ref C) = some false), PySem.W.selfFirst K C]
def tyopB (K : PySem.W.Frag) (nm T : String) : Bool := (PySem.W.findIn K (.type T) (PySem.dunder nm)).isSome && (PySem.W.findIn K (.type T) (dunderR nm)).isSome
def opB (K : PySem.W.Frag) (nm : String) (m : Str) : Bool := He.eqO (PySem.W.findIn K (.ref (CA K)) (PySem.dunder nm)) (some (some (.ref (He.ma K (CA K) m)))) && (PySem.W.isFn K (.ref (He.ma K (CA K) m)) && (He.eqO (PySem.W.findIn K (.ref (CA K)) (dunderR nm)) (some none) && tys.all fun T => tyopB K nm T))
def meB (K : PySem.W.Frag) (m : Str) : Bool := He.eqO (PySem.W.findIn K (.ref (CA K)) m) (some (some (.ref (He.ma K (CA K) m)))) && (PySem.W.isFn K (.ref (He.ma K (CA K) m)) && PySem.W.keepIn K (.ref (He.ma K (CA K) m)))
def prB (K : PySem.W.Frag) (f : Str) : Bool := He.eqO (PySem.W.findIn K (.ref (CA K)) f) (some (some (.ref (pa K f)))) && (He.eqO (PySem.W.specialIn K (.ref (pa K f)) "__get__") (some (some (.builtin "property.__get__"))) && (decide (PySem.W.takesIn K (.ref (pa K f)) = some true) &&
  match PySem.W.recIn K (pa K f) "property" with
  | some (.ref g :: _) => decide (g = ga2 K f)
  | _ => false))
def sysB (K : PySem.W.Frag) : Bool := match K.lookup sysModules with
  | some ⟨_, _, .dict _ _, _⟩ => true
  | _ => false
def strsB : List Value → List Str → Bool
  | [], [] => true
  | .str x _ :: l, z :: r => decide (x = z) && strsB l r
  | _, _ => false
def tupB (K : PySem.W.Frag) (a : Addr) (zs : List Str) : Bool := match K.lookup a with
  | some ⟨.type t, _, .seq its _, _⟩ => decide (t = "tuple") && (decide (its.size ≤ sizeLine) && strsB its.toList zs)
  | _ => false
def smB (K : PySem.W.Frag) (m : Str) : Bool := He.eqO (PySem.W.findIn K (.ref (He.ga K "Sheet")) m) (some (some (.ref (He.ma K (He.ga K "Sheet") m)))) && (PySem.W.isFn K (.ref (He.ma K (He.ga K "Sheet") m)) && PySem.W.keepIn K (.ref (He.ma K (He.ga K "Sheet") m)))
def sheetB (K : PySem.W.Frag) (C : Addr) : Bool := Hd.allB [PySem.W.plainGet K C Str.empty, PySem.W.hasDictIn K C, PySem.W.plainOver K C, He.eqO (PySem.W.findIn K (.ref C) "__setattr__") (some (some (.builtin "object.__setattr__"))), He.eqO (PySem.W.findIn K (.ref C) "_cues") (some none), He.eqO (PySem.W.findIn K (.ref C) "_rows") (some none), He.eqO (PySem.W.findIn K (.ref C) "_numbers") (some none),
  PySem.W.makesIn K C, He.eqO (PySem.W.findIn K (.ref C) "__init__") (some (some (.ref (He.ma K C "__init__")))), PySem.W.isFn K (.ref (He.ma K C "__init__")), PySem.W.keepIn K (.ref C)]
def glos0 : List Str := ["law", "Amount", "Sheet", "InvalidInteger", "InvalidAmount", "InvalidUnit", "InvalidSheet", "InvalidPart", "InvalidFact", "UnknownCue", "UNITS", "WORDS", "_law_cell", "_law_box", "_law_take", "is_whole", "is_amount", "as_amount", "has_only", "is_name"]
def glos1 : List Str := ["is_unit", "check_unit", "is_listing", "parted", "extended", "_law_lowest", "check_cue", "check_known", "_law_added", "_law_led", "_law_rows", "_law_moments", "_law_labels", "_law_amount", "_law_cues", "_law_passed", "is_integer", "check_moment", "is_word", "_is_limit"]
def glos2 : List Str := ["names_of", "has_form", "check_sheet", "check_fact", "check_facts", "sayings", "strongest", "bound", "_law_far", "_law_fact", "_law_passed_fact", "_law_sayings", "_law_due", "_law_told", "_law_refused", "_law_right"]
def glos : List Str := glos0 ++ glos1 ++ glos2
def frees : List Str := ["abs", "all", "bool", "int", "isinstance", "len", "list", "max", "min", "range", "repr", "str", "tuple"]
def file : Str := PySem.Challenge.pw_anytempo_k13_bounds_of_facts.main.file
def chk (K : PySem.W.Frag) : Bool := Hd.allB [glos.all (gloB K), frees.all (freeB K), clsB K (CA K), sheetB K (He.ga K "Sheet"), meB K "__eq__", He.eqO (PySem.W.findIn K (.ref (CA K)) "__ne__") (some (some (.builtin "object.__ne__"))), decide (PySem.W.subIn K (.ref (CA K)) (.type "object") = some true), opB K "add" "__add__", meB K "__neg__", meB K "compare", prB K "top", prB K "bottom", smB K "_tell", smB K "__contains__", smB K "moment", smB K "moments", decide (He.ga K "Sheet" ≠ CA K), decide (PySem.W.kitOne K (.ref (He.ga K "Sheet")) (.ref (He.ga K "Sheet")) = some true), tys.all fun T => decide (PySem.W.kitOne K (.type T) (.ref (He.ga K "Sheet")) = some false), He.eqO (PySem.W.findIn K (.ref (He.ga K "Sheet")) "__class__") (some (some (.builtin "object.__class__"))), decide (PySem.W.mroIn K (He.ga K "Sheet") (.type "object") = some true), [(He.ga K "InvalidUnit", He.ga K "InvalidSheet"), (He.ga K "InvalidInteger", He.ga K "InvalidSheet"), (He.ga K "InvalidInteger", He.ga K "InvalidUnit"), (He.ga K "InvalidPart", He.ga K "InvalidSheet"), (He.ga K "InvalidPart", He.ga K "InvalidUnit"), (He.ga K "InvalidPart", He.ga K "InvalidInteger"), (He.ga K "InvalidFact", He.ga K "InvalidSheet"), (He.ga K "InvalidFact", He.ga K "InvalidUnit"), (He.ga K "InvalidFact", He.ga K "InvalidInteger"), (He.ga K "InvalidFact", He.ga K "InvalidPart"), (He.ga K "UnknownCue", He.ga K "InvalidSheet"), (He.ga K "UnknownCue", He.ga K "InvalidUnit"), (He.ga K "UnknownCue", He.ga K "InvalidInteger"), (He.ga K "UnknownCue", He.ga K "InvalidPart"), (He.ga K "UnknownCue", He.ga K "InvalidFact")].all fun p => decide (PySem.W.exmOne K (.ref p.1) (.ref p.2) = some false), Gb.kwB K (He.ga K "bound") "facts", tupB K (Gb.kwAt K (He.ga K "bound") "facts") [], sysB K, tupB K (He.ga K "UNITS") ["beats", "seconds"], tupB K (He.ga K "WORDS") ["before", "same", "after"], (He.Fa.int "LONGEST_NAME" 8).ok K, (He.Fa.int "MOST_MOMENTS" 8).ok K, (He.Fa.str "LETTERS" LET).ok K, (He.Fa.str "DIGITS" DIG).ok K, (He.Fa.str "START" "start").ok K, Hd.excB file K "InvalidInteger" "value", Hd.excB file K "InvalidAmount" "value", Hd.excB file K "InvalidUnit" "value", Hd.excB file K "InvalidSheet" "value", Hd.excB file K "InvalidPart" "value", Hd.excB file K "InvalidFact" "value", Hd.excKB file K "UnknownCue" "label"]
end T13
set_option Elab.async false
set_option linter.all false
set_option maxRecDepth 100000
set_option maxHeartbeats 4000000
/-! As HK2's hook, the dict of sys.modules beside. -/
namespace Hd
open PySem PySem.Spec PyProof.Rows L2
def adS (g : Addr → Option Obj) (n : Nat) : List Addr := sysModules :: grow g n
def hookS (n : Nat) (ds : List Def) (chk : PySem.W.Frag → Bool) : PySem.W.Hook where
  α := Al
  obs := fun s => obsK ds chk (He.frG s.heap.get? (adS s.heap.get? n))
  val := fun _ => valK ds
  says := fun _ h => ∃ K : PySem.W.Frag, K.In h ∧ obsK ds chk K = valK ds
  of := fun _ _ e => ⟨_, He.frG_in, e⟩
  keeps := fun _ _ _ ⟨K, hK, c⟩ k => ⟨K, PySem.W.Frag.In.keeps hK k, c⟩
def obS (n : Nat) (ds : List Def) (chk : PySem.W.Frag → Bool) (s : PySem.W.SharedT) : Al := obsK ds chk (He.frG (HandSHeadRun.getT s) (adS (HandSHeadRun.getT s) n))
theorem obS_eq (n : Nat) (ds : List Def) (chk : PySem.W.Frag → Bool) (s : PySem.W.SharedT) : obS n ds chk s = (hookS n ds chk).obs s.abs := by
  have e : HandSHeadRun.getT s = s.abs.heap.get? := funext fun a => HandSHeadRun.getT_eq s a
  unfold obS
  rw [e]
  rfl
end Hd
set_option Elab.async false
set_option linter.all false
set_option maxRecDepth 100000
set_option maxHeartbeats 4000000
/-! As HK3's hook, over a list of places that is told. -/
namespace Hd
open PySem PySem.Spec PyProof.Rows L2
def hookL (as : List Addr) (ds : List Def) (chk : PySem.W.Frag → Bool) : PySem.W.Hook where
  α := Al
  obs := fun s => obsK ds chk (He.frG s.heap.get? as)
  val := fun _ => valK ds
  says := fun _ h => ∃ K : PySem.W.Frag, K.In h ∧ obsK ds chk K = valK ds
  of := fun _ _ e => ⟨_, He.frG_in, e⟩
  keeps := fun _ _ _ ⟨K, hK, c⟩ k => ⟨K, PySem.W.Frag.In.keeps hK k, c⟩
def obL (as : List Addr) (ds : List Def) (chk : PySem.W.Frag → Bool) (s : PySem.W.SharedT) : Al := obsK ds chk (He.frG (HandSHeadRun.getT s) as)
theorem obL_eq (as : List Addr) (ds : List Def) (chk : PySem.W.Frag → Bool) (s : PySem.W.SharedT) : obL as ds chk s = (hookL as ds chk).obs s.abs := by
  have e : HandSHeadRun.getT s = s.abs.heap.get? := funext fun a => HandSHeadRun.getT_eq s a
  unfold obL
  rw [e]
  rfl
end Hd
set_option Elab.async false
set_option linter.all false
set_option maxRecDepth 100000
set_option maxHeartbeats 0
namespace T13
open PySem PySem.Spec PyProof.Rows L2
def nm0 : List PySem.Str := ["_wall", "CueError", "MissingError", "StateError", "InvalidInteger", "InvalidAmount", "InvalidPart", "InvalidName", "InvalidUnit", "InvalidCue", "Duplicate", "InvalidSheet", "InvalidFact", "UnknownCue", "TooMany", "UNITS", "WORDS", "LETTERS", "DIGITS", "LONGEST_NAME", "is_whole", "is_listing", "is_integer", "is_name", "has_only"]
def nm1 : List PySem.Str := ["is_unit", "is_word", "check_unit", "Amount", "is_amount", "as_amount", "parted", "extended", "way", "START", "MOST_MOMENTS", "Sheet", "check_cue", "check_sheet", "check_known", "check_moment", "has_form", "_is_limit", "names_of", "check_fact", "check_facts", "sayings", "strongest", "bound", "_law_cell"]
def nm2 : List PySem.Str := ["_law_box", "_law_take", "_law_lowest", "_law_added", "_law_labels", "_law_amount", "_law_led", "_law_rows", "_law_moments", "_law_cues", "_law_passed", "_law_far", "_law_fact", "_law_passed_fact", "_law_sayings", "_law_due", "_law_right", "_law_told", "_law_refused"]
def nms : List PySem.Str := nm0 ++ nm1 ++ nm2
def as0 : List Addr := [1, 3, 2, 6, 4, 49, 59, 72, 85, 107, 128, 149, 170, 191, 212, 233, 254, 275, 296, 317, 320, 321, 328, 335, 342, 349, 354, 361, 368, 375]
def as1 : List Addr := [465, 476, 483, 490, 497, 504, 629, 640, 647, 654, 661, 668, 675, 682, 689, 696, 701, 708, 717, 724, 731, 738, 745, 752, 757, 764, 771, 778, 785, 790]
def as2 : List Addr := [797, 804, 809, 814, 819, 826, 831, 838, 845, 852, 16, 20, 22, 27, 33, 38, 0, 48, 58, 71, 84, 106, 127, 148, 169, 190, 211, 232, 253, 274]
def as3 : List Addr := [295, 316, 327, 334, 341, 348, 353, 360, 367, 374, 464, 475, 482, 489, 496, 503, 628, 639, 646, 653, 660, 667, 674, 681, 688, 695, 700, 707, 716, 710]
def as4 : List Addr := [723, 730, 737, 744, 751, 756, 763, 770, 777, 784, 789, 796, 803, 808, 813, 818, 825, 830, 837, 844, 851, 15, 21, 26, 32, 43, 44, 45, 46, 47]
def as5 : List Addr := [57, 60, 70, 73, 83, 86, 104, 105, 125, 126, 146, 147, 167, 168, 188, 189, 209, 210, 230, 231, 251, 252, 272, 273, 293, 294, 314, 315, 322, 323]
def as6 : List Addr := [324, 325, 326, 329, 330, 331, 332, 333, 336, 337, 338, 339, 340, 343, 344, 345, 346, 347, 350, 351, 352, 355, 356, 357, 358, 359, 362, 363, 364, 365]
def as7 : List Addr := [366, 369, 370, 371, 372, 373, 390, 398, 406, 413, 420, 427, 434, 441, 448, 455, 462, 463, 466, 467, 470, 471, 472, 473, 474, 477, 478, 479, 480, 481]
def as8 : List Addr := [484, 485, 486, 487, 488, 491, 492, 493, 494, 495, 498, 499, 500, 501, 502, 518, 525, 532, 539, 546, 551, 558, 565, 572, 579, 586, 593, 598, 605, 612]
def as9 : List Addr := [619, 626, 627, 630, 631, 634, 635, 636, 637, 638, 641, 642, 643, 644, 645, 648, 649, 650, 651, 652, 655, 656, 657, 658, 659, 662, 663, 664, 665, 666]
def as10 : List Addr := [669, 670, 671, 672, 673, 676, 677, 678, 679, 680, 683, 684, 685, 686, 687, 690, 691, 692, 693, 694, 697, 698, 699, 702, 703, 704, 705, 706, 711, 712]
def as11 : List Addr := [713, 714, 715, 709, 718, 719, 720, 721, 722, 725, 726, 727, 728, 729, 732, 733, 734, 735, 736, 739, 740, 741, 742, 743, 746, 747, 748, 749, 750, 753]
def as12 : List Addr := [754, 755, 758, 759, 760, 761, 762, 765, 766, 767, 768, 769, 772, 773, 774, 775, 776, 779, 780, 781, 782, 783, 786, 787, 788, 791, 792, 793, 794, 795]
def as13 : List Addr := [798, 799, 800, 801, 802, 805, 806, 807, 810, 811, 812, 815, 816, 817, 820, 821, 822, 823, 824, 827, 828, 829, 832, 833, 834, 835, 836, 839, 840, 841]
def as14 : List Addr := [842, 843, 846, 847, 848, 849, 850, 17, 18, 19, 23, 24, 25, 28, 34, 35, 36, 103, 92, 124, 113, 145, 134, 166, 155, 187, 176, 208, 197, 229]
def as15 : List Addr := [218, 250, 239, 271, 260, 292, 281, 313, 302, 389, 383, 397, 405, 412, 419, 426, 433, 440, 447, 454, 461, 517, 524, 531, 538, 545, 550, 557, 564, 571]
def as16 : List Addr := [578, 585, 592, 597, 604, 611, 618, 625, 98, 99, 100, 101, 102, 119, 120, 121, 122, 123, 140, 141, 142, 143, 144, 161, 162, 163, 164, 165, 182, 183]
def as17 : List Addr := [184, 185, 186, 203, 204, 205, 206, 207, 224, 225, 226, 227, 228, 245, 246, 247, 248, 249, 266, 267, 268, 269, 270, 287, 288, 289, 290, 291, 308, 309]
def as18 : List Addr := [310, 311, 312, 384, 385, 386, 387, 388, 396, 404, 407, 408, 409, 410, 411, 414, 415, 416, 417, 418, 421, 422, 423, 424, 425, 428, 429, 430, 431, 432]
def as19 : List Addr := [435, 436, 437, 438, 439, 442, 443, 444, 445, 446, 449, 450, 451, 452, 453, 456, 457, 458, 459, 460, 512, 513, 514, 515, 516, 519, 520, 521, 522, 523]
def as20 : List Addr := [526, 527, 528, 529, 530, 533, 534, 535, 536, 537, 540, 541, 542, 543, 544, 547, 548, 549, 552, 553, 554, 555, 556, 559, 560, 561, 562, 563, 566, 567]
def as21 : List Addr := [568, 569, 570, 573, 574, 575, 576, 577, 580, 581, 582, 583, 584, 587, 588, 589, 590, 591, 594, 595, 596, 599, 600, 601, 602, 603, 606, 607, 608, 609]
def as22 : List Addr := [610, 613, 614, 615, 616, 617, 620, 621, 622, 623, 624]
def asL : List Addr := as0 ++ as1 ++ as2 ++ as3 ++ as4 ++ as5 ++ as6 ++ as7 ++ as8 ++ as9 ++ as10 ++ as11 ++ as12 ++ as13 ++ as14 ++ as15 ++ as16 ++ as17 ++ as18 ++ as19 ++ as20 ++ as21 ++ as22
abbrev lawAt : Nat := 77
abbrev RR : PySem.W.OpenRow := PySem.W.OpenLaw.row PySem.Challenge.rw_anytempo_k13_bounds_of_facts
abbrev hk : PySem.W.Hook := Hd.hookL asL ds chk
theorem run (w : World) : HandSHeadRun.RunEqI RR (PySem.W.view RR.prog [0, lawAt]) hk (Hd.obL asL ds chk) 20000 nms w := by
  unfold HandSHeadRun.RunEqI
  kernel_rfl
end T13
set_option Elab.async false
set_option linter.all false
set_option maxRecDepth 100000
set_option maxHeartbeats 4000000
set_option exponentiation.threshold 100000
namespace K13
open PySem PySem.Spec PyProof.Rows L2 Fa Fb
abbrev sLow : Stmt := top 60
theorem scLow : FnScope ["_law_top", "_law_bottom", "_law_one", "_law_other"] ["_law_top", "_law_bottom"] (defScope sLow) := ⟨rfl, rfl, rfl, by decide +kernel, rfl, by decide +kernel, by decide +kernel⟩
def spLow : Sp := fun vs H Q _ => ∃ a b : Int, vs = [.int a, .int b] ∧ b ≠ 0 ∧ b.natAbs < 2 ^ 8000 ∧ ∀ p t u, H p = none → Am.Red t u → t * b = a * u → t.natAbs ≤ a.natAbs → u.natAbs ≤ b.natAbs → Q (.ref p) (upd H p (.tup [.int t, .int u]))
section
variable {P : Program} {w : World} {K : PySem.W.Frag} {mg : Str → Option Value} {base : Heap} {f : Addr} {fd : FuncData}
theorem absI (x : Int) : (if x < 0 then -x else x) = (x.natAbs : Int) := by split <;> omega
theorem ok_low (F : FnP K "_law_lowest" sLow f fd) (mA : mg "abs" = none) : FnOk P w K mg base (L2.CX P w) 1 f fd ["_law_top", "_law_bottom"] spLow := by
  refine F.ok scLow (fun vs H Q E h => ?_) (fun cdv A outer s H vs Q E hr h => ?_)
  · obtain ⟨a, b, rfl, _⟩ := h
    rfl
  · obtain ⟨a, b, rfl, hb, hB, q⟩ := h
    refine ⟨_, pss_cons (ps_par (by rfl) scLow.nd (i := 2) (j := 3) rfl rfl (by decide) rfl rfl (pa_cons (pe_callB call_abs rfl mA (by decide +kernel) (pa_cons (pv 0) pa_nil)) (pa_cons (pe_callB call_abs rfl mA (by decide +kernel) (pa_cons (pv 1) pa_nil)) pa_nil)) (by rfl))
      (pss_cons (ps_while (passes_of rfl) (pt_cmpR op_gt (pv 3) pe_int (nomark _)) (pss_one (ps_par (by rfl) scLow.nd (i := 2) (j := 3) rfl rfl (by decide) rfl rfl (pa_cons (pv 3) (pa_cons (pe_op op_mod (pv 2) (pv 3)) pa_nil)) (by rfl))))
      (pss_cons (ps_set (i := 2) scLow.nd rfl (Or.inl rfl) (pe_ifExp (pt_cmpR op_gt (pv 1) pe_int (nomark _)) (pv 2) (pe_op op_sub pe_int (pv 2))))
      (pss_one (ps_ret (pe_tup (pa_cons (pe_op op_fdivX (pv 0) (pv 2)) (pa_cons (pe_op op_fdivX (pv 1) (pv 2)) pa_nil))))))), ?_⟩
    refine ⟨_, rfl, _, rfl, _, rfl, _, rfl, _, _, rfl, ?_⟩
    refine while_by (fun σ H' => H' = H ∧ ∃ x y : Int, σ = [some (.int a), some (.int b), some (.int x), some (.int y)] ∧ 0 ≤ x ∧ 0 ≤ y ∧ Nat.gcd x.natAbs y.natAbs = Nat.gcd a.natAbs b.natAbs)
      (fun σ _ => match σ with | [_, _, _, some (.int y)] => y.toNat | _ => 0) ⟨rfl, _, _, rfl, ?_, ?_, ?_⟩ ?_ ?_
    · split <;> omega
    · split <;> omega
    · rw [absI, absI, Int.natAbs_natCast, Int.natAbs_natCast]
    · rintro σ H' ⟨rfl, x, y, rfl, hx, hy, hg⟩
      refine ⟨_, rfl, _, _, rfl, rfl, _, rfl, ?_⟩
      by_cases c : 0 < y
      · refine if_true_of (decide_eq_true c) ?_
        refine ⟨_, rfl, _, rfl, _, rfl, _, _, rfl, rfl, c, _, _, rfl, ?_⟩
        have m0 : 0 ≤ x % y := Int.emod_nonneg _ (by omega)
        have m1 : x % y < y := Int.emod_lt_of_pos _ c
        refine ⟨⟨rfl, y, x % y, rfl, hy, m0, ?_⟩, ?_⟩
        · rw [← hg, ← Am.gcd_step (show 0 < y.natAbs by omega)]
          congr 1
          rw [Int.natAbs_emod_of_nonneg hx]
        · show (x % y).toNat < y.toNat
          omega
      · refine if_false_of (decide_eq_false c) ?_
        have y0 : y = 0 := by omega
        subst y0
        have ex : x = ((Nat.gcd a.natAbs b.natAbs : Nat) : Int) := by
          have : x.natAbs = Nat.gcd a.natAbs b.natAbs := by simpa using hg
          omega
        obtain ⟨k1, k2, k3, k4, k5, k6⟩ := Am.mk a b hb _ rfl
        have lg : (if b < 0 then -((Nat.gcd a.natAbs b.natAbs : Nat) : Int) else ((Nat.gcd a.natAbs b.natAbs : Nat) : Int)).natAbs.log2 < 9000 := Nat.lt_trans ((Nat.log2_lt (by omega)).mpr (Nat.lt_of_le_of_lt k2 hB)) (by decide)
        refine ⟨_, rfl, _, _, rfl, rfl, _, rfl, ?_⟩
        by_cases c2 : 0 < b
        · rw [if_neg (show ¬ b < 0 by omega), ← ex] at k1 k3 k4 k5 k6 lg
          refine if_true_of (decide_eq_true c2) ⟨_, rfl, _, rfl, _, rfl, _, _, rfl, rfl, ⟨k1, lg⟩, _, rfl, _, rfl, _, _, rfl, rfl, ⟨k1, lg⟩, by show 2 ≤ sizeLine; decide, fun p hp => ?_⟩
          exact q p _ _ hp k3 k4 k5 k6
        · have e0 : (0 : Int) - x = -x := by omega
          rw [if_pos (show b < 0 by omega), ← ex, ← e0] at k1 k3 k4 k5 k6 lg
          refine if_false_of (decide_eq_false c2) ⟨_, rfl, _, _, rfl, rfl, ?_⟩
          refine ⟨_, rfl, _, rfl, _, _, rfl, rfl, ⟨k1, lg⟩, _, rfl, _, rfl, _, _, rfl, rfl, ⟨k1, lg⟩, by show 2 ≤ sizeLine; decide, fun p hp => ?_⟩
          exact q p _ _ hp k3 k4 k5 k6
    · intro σ H' Q1 Q2 k h
      obtain ⟨v, h1, i, j, h2, h3, b', h4, h5⟩ := h
      exact ⟨v, h1, i, j, h2, h3, b', h4, k _ _ h5⟩
end
end K13

set_option Elab.async false
set_option linter.all false
set_option maxRecDepth 100000
set_option maxHeartbeats 4000000
/-! sep.join(reversed(a list of texts)) -/
namespace Fj
open PySem PySem.Spec PyProof.Rows PySem.Builtin PySem.Builtin.Str RT
section
variable {prog : Program} {w : World} {A : Around} {E : Value → Shared → Prop} {s : Shared}
theorem join_rev {x : Str} {t : Tok} {ys : List Str} {it l : Addr} {items : Array Value} {Q : Value → Shared → Prop} (hh : A.handled = none) (hit : s.heap.IsRevIter it l ((items.size : Int) - 1)) (hl : s.heap.IsList l items) (hne : l ≠ it) (hn : items.size ≤ sizeLine)
    (hP : ∀ acc : Array Value, ItemsOf (fun i v => items[items.size - 1 - i]? = some v) acc items.size → StrsAre acc.toList ys) (hok : (ys.map (·.length)).sum + ys.length * x.length ≤ 16777216)
    (hq : ∀ h' t' k, (∀ b o, b ≠ it → s.heap.get? b = some o → h'.get? b = some o) → Q (.str (Txt.join x ys) t') { s with heap := h', toks := k }) :
    wpAny (model prog w) A (call (.builtin "str.join") [.str x t, .ref it]) Q E s := by
  refine wpAny_call (codeAny_call_builtin F.slot_str_join.plain F.entry_str_join (F.slot_str_join.check _ _ _ _ _ _ _ _ (typeIs_str _ _ _) (F.args_str_join_2 _ _) ?_))
  have ty : s.TypeIs (.ref it) "list_reverseiterator" := hit.typeIs
  rw [join_tree_other]
  refine wpAny_bind (wpAny_typeOf ty ?_)
  show wpAny _ A.in1 ((pyIter (.ref it)).tryCatch _ >>= fun z => collect z >>= fun got => joinTail x got) _ _ s
  refine wpAny_bind (wpAny_tryCatch (wpAny_pyIter_revIter hit ?_))
  refine wpAny_bind (collect_rev (A := A.in1) hh hit hl hne hn fun h' tk acc hk hacc => ?_)
  obtain ⟨vals, hv, ht⟩ := strsAre_values (hP acc hacc)
  subst ht
  rw [hv]
  have fits := joinOk_of hok
  unfold JoinOk at fits
  rw [Bool.not_eq_true'] at fits
  have made : Gives (joinTail x (strValues vals)) (joinMade x vals) := by
    have z := gives_joinTail x vals fits
    cases vals with
    | nil => exact z
    | cons p1 rest => cases rest with
      | nil => exact z
      | cons p2 rest2 => exact z
  exact made prog w A (wants Q E) _ (post_join vals ⟨joinFit_length fits, fun t' k => hq h' t' k hk⟩)
end
end Fj
namespace Fj
open PySem PySem.Spec PyProof.Rows L2
section
variable {X : Cx}
/-- sep.join(reversed(xs)), xs a list of texts -/
def tJoinRev (K : PySem.W.Frag) (to te : TE) : TE := fun σ H Q => to σ H fun x H1 => (∃ a, x = .str a) ∧ te σ H1 fun v H2 => ∃ (a : Str) (q : Addr) (ys : List Str), x = .str a ∧ v = .ref q ∧ SqL K H2 q (ys.map V.str) ∧ (ys.map (·.length)).sum + ys.length * a.length ≤ 16777216 ∧ Q (.str (Txt.join a ys.reverse)) H2
theorem sum_rev : ∀ l : List Nat, l.reverse.sum = l.sum
  | [] => rfl
  | a :: l => by
    rw [List.reverse_cons, List.sum_append, sum_rev l, List.sum_cons, List.sum_cons, List.sum_nil]
    omega
theorem pe_joinRev {o e : Expr} {to te : TE} {apos pos p pos2 : Pos} (hc : X.calm = true) (ho : PE X o to) (hg : Gl X "reversed") (hm : X.mg "reversed" = none) (he : PE X e te)
    (hs1 : starEach [.Call (.Name "reversed" p) [e] [] pos2] X.env = [(false, eval (.Call (.Name "reversed" p) [e] [] pos2) X.env)] := by rfl) (hs : starEach [e] X.env = (false, eval e X.env) :: starEach [] X.env := by rfl)
    (hbase : attributeBase o "join" X.env (eval o X.env) = eval o X.env := by rfl) (hline : (apos.endLine == pos.line) = true := by rfl) :
    PE X (.Call (.Attribute o "join" apos) [.Call (.Name "reversed" p) [e] [] pos2] [] pos) (tJoinRev X.K to te) := by
  constructor
  intro pn s σ H Q I h
  refine PySem.Call_method1 hbase hs1 hline (thn (ho.run pn s σ H _ I h) ?_)
  rintro v s1 ⟨x, H1, I1, r1, ⟨a, rfl⟩, q1⟩
  obtain ⟨t, rfl⟩ := _root_.id r1
  refine ⟨"str", _, F.plainAttrs_str, F.slot_str_join, F.type_str_join, typeIs_str _ _ _, (fun _ e => nomatch e), Calls.callWith_builtin rfl (Calls.evalArgs_plain (Calls.spliced_cons ?_))⟩
  refine Call_ (ld_blt I1 hg hm PyProof.Rows.boot_reversed (PyProof.Rows.callWith_type1 (args_cons (thn (he.run pn s1 σ H1 _ I1 q1) fun u s2 ⟨v2, H2, I2, r2, q2⟩ => args_nil ?_) hs) hs rfl))
  obtain ⟨a', q, ys, ea, rfl, hq, fits, q3⟩ := q2
  cases ea
  cases r2
  obtain ⟨its, rv, pl, hz⟩ := I2.list hq
  refine call_reversed_list pl.isList (Calls.spliced_nil ?_)
  have keep : ∀ b o, s2.heap.get? b = some o → (s2.heap.push (revObj q ((its.toArray.size : Int) - 1))).get? b = some o := fun b o e => Heap.get?_push_of_some _ e
  have J : Inv X pn σ H2 { s2 with heap := s2.heap.push (revObj q ((its.toArray.size : Int) - 1)) } := I2.kept (t' := s2.toks) keep
  obtain ⟨f0, f1, f2, f3, f4, f5⟩ := I2.fpOk (H' := H2) (b := s2.heap.objs.size) (Nat.le_refl _) (I2.hok.fresh (Nat.le_refl _))
  have hl := pl.isList
  obtain ⟨ol, hol, _⟩ := id hl
  have ne : q ≠ s2.heap.objs.size := Nat.ne_of_lt (Heap.lt_size hol)
  have hn : its.toArray.size ≤ sizeLine := by rw [List.size_toArray, ← rv.length]; exact hz
  refine join_rev (s := { s2 with heap := s2.heap.push (revObj q ((its.toArray.size : Int) - 1)) }) (ys := ys.reverse) (I2.ok.hd hc) ⟨_, Heap.get?_push_size _ rfl, rfl, rfl⟩ (hl.push _) ne hn (fun acc hacc => ?_) ?_ fun h' t' k hk => ?_
  · have z := RT.vals_rev rv hacc
    rw [← List.map_reverse] at z
    exact strs_of_vals z
  · rw [List.map_reverse, sum_rev, List.length_reverse]
    exact fits
  · exact ⟨.str _, H2, J.turned (t' := k) (fun b o hb e => hk b o hb e) f0 f1 f3 f4 f5, ⟨t', rfl⟩, q3⟩
end
end Fj
set_option Elab.async false
set_option linter.all false
set_option maxRecDepth 100000
set_option maxHeartbeats 4000000
/-! xs != [], xs == [] of lists of any items. -/
namespace Fk
open PySem PySem.Spec PyProof.Rows L2
theorem op_neNil {X : Cx} (hu : X.A.units + 64 < cLine) : OpR X (compareOp .NotEq) (fun x y H Q => ∃ (a b : Addr) (xs : List V), x = .ref a ∧ y = .ref b ∧ SqL X.K H a xs ∧ SqL X.K H b [] ∧ Q (.bl (!xs.isEmpty)) H) := by
  intro pn s σ H x y v u Q I rx ry h
  obtain ⟨a, b, xs, rfl, rfl, ha, hb, q⟩ := h
  cases rx
  cases ry
  obtain ⟨its, rv, pl, _⟩ := I.list ha
  obtain ⟨its2, rv2, pl2, _⟩ := I.list hb
  cases rv2
  show wpAny (model X.prog X.w) X.A (richCompare .NotEq (.ref a) (.ref b)) (EP X pn σ Q) X.xe s
  have hu1 : X.A.units < cLine := by omega
  cases rv with
  | nil => exact SeqAt.RcNeAt.lists (e := fun _ => true) pl.isList pl2.isList rfl hu1 (fun j h1 _ => absurd h1 (by simp)) X.prog X.w X.xe _ ⟨.bl _, H, I, rfl, q⟩
  | cons r rs => exact SeqAt.RcNeAt.lists_lengths pl.isList pl2.isList (by simp) hu1 X.prog X.w X.xe _ ⟨.bl _, H, I, rfl, q⟩
theorem op_eqNil {X : Cx} (hu : X.A.units + 64 < cLine) : OpR X (compareOp .Eq) (fun x y H Q => ∃ (a b : Addr) (xs : List V), x = .ref a ∧ y = .ref b ∧ SqL X.K H a xs ∧ SqL X.K H b [] ∧ Q (.bl xs.isEmpty) H) := by
  intro pn s σ H x y v u Q I rx ry h
  obtain ⟨a, b, xs, rfl, rfl, ha, hb, q⟩ := h
  cases rx
  cases ry
  obtain ⟨its, rv, pl, _⟩ := I.list ha
  obtain ⟨its2, rv2, pl2, _⟩ := I.list hb
  cases rv2
  show wpAny (model X.prog X.w) X.A (richCompare .Eq (.ref a) (.ref b)) (EP X pn σ Q) X.xe s
  have hu1 : X.A.units < cLine := by omega
  cases rv with
  | nil => exact SeqAt.RcAt.lists (e := fun _ => true) pl.isList pl2.isList rfl hu1 (fun j h1 _ => absurd h1 (by simp)) X.prog X.w X.xe _ ⟨.bl _, H, I, rfl, q⟩
  | cons r rs => exact SeqAt.RcAt.lists_lengths pl.isList pl2.isList (by simp) hu1 X.prog X.w X.xe _ ⟨.bl _, H, I, rfl, q⟩
end Fk
set_option Elab.async false
set_option linter.all false
set_option maxRecDepth 100000
set_option maxHeartbeats 4000000
/-! a dict == a text: False -/
namespace Fd
open PySem PySem.SeqAt
open AutoSeq1 (wpAny_loadPart')
open MeetsSeq MeetsSeq2 MeetsSeq3 SeqRoads2
theorem dict_eq_declines_str (l : Addr) (o : Obj) (b : Str) (u : Tok) :
    Meets (Builtin.«dict.__eq__» ⟨[.ref l, .str b u], []⟩) (fun _ R s => (s.heap.get? l = some o ∧ o.cls = .type "dict" ∧ ∃ es ep, o.data = .dict es ep) ∧ R (.ok (.ret .notImplemented)) s) :=
  .of_wp fun prog w A R s h => by
    obtain ⟨hp, g, d, tk, os⟩ := s
    obtain ⟨⟨hl, hc, es, ep, hd⟩, h⟩ := h
    obtain ⟨c, dd, da, sl⟩ := o
    simp only at hc hd
    subst hc hd
    have f1 := F.sub_str_dict
    wp_walk using wpAny_loadPart' hl, wpAny_load hl
    exact ⟨_, rfl, h⟩
theorem str_eq_declines_dict (l : Addr) (o : Obj) (b : Str) (u : Tok) :
    Meets (Builtin.«str.__eq__» ⟨[.str b u, .ref l], []⟩) (fun _ R s => (s.heap.get? l = some o ∧ o.cls = .type "dict" ∧ ∃ es ep, o.data = .dict es ep) ∧ R (.ok (.ret .notImplemented)) s) :=
  .of_wp fun prog w A R s h => by
    obtain ⟨hp, g, d, tk, os⟩ := s
    obtain ⟨⟨hl, hc, es, ep, hd⟩, h⟩ := h
    obtain ⟨c, dd, da, sl⟩ := o
    simp only at hc hd
    subst hc hd
    wp_walk using wpAny_loadPart' hl, wpAny_load hl
    exact ⟨_, rfl, h⟩
end Fd
namespace Fd
open PySem PySem.Spec PyProof.Rows L2
theorem op_eqDS {X : Cx} (hu : X.A.units < cLine) : OpR X (compareOp .Eq) (fun x y H Q => ∃ a kvs z, x = .ref a ∧ y = .str z ∧ H a = some (.dK kvs) ∧ Q (.bl false) H) := by
  intro pins s σ H x y v u Q I rx ry h
  obtain ⟨a, kvs, z, rfl, rfl, ha, q⟩ := h
  cases rx
  obtain ⟨t, rfl⟩ := ry
  obtain ⟨_, h1, vs, kv, hd⟩ := dk_of I.hok ha
  obtain ⟨o, es, ep, ho, hc, hdat, _⟩ := hd
  have f : s.heap.get? a = some o ∧ o.cls = .type "dict" ∧ ∃ es ep, o.data = .dict es ep := ⟨ho, hc.1, es, ep, hdat⟩
  show wpAny (model X.prog X.w) X.A (richCompare .Eq (.ref a) (.str z t)) (EP X pins σ Q) X.xe s
  exact SeqAt.rc_eq_decline_or (k := false) ⟨_, ho, hc.1⟩ (typeIs_str s z t) (by decide) F.sub_str_dict F.slot_dict_eq F.slot_str_eq_refl
    (fun _ hq => call_meets F.slot_dict_eq ⟨_, ho, hc.1⟩ F.entry_dict_eq (F.args_dict_eq_2 _ _) (dict_eq_declines_str a o z t) ⟨f, hq⟩)
    (fun _ hq => call_meets F.slot_str_eq_refl (typeIs_str s z t) F.entry_str_eq (F.args_str_eq_2 _ _) (str_eq_declines_dict a o z t) ⟨f, hq⟩)
    (fun _ hq => wpAny_of_eq (rfl : isSame (.ref a) (.str z t) = pure false) hq) (.inr hu) ⟨.bl false, H, I, rfl, q⟩
end Fd
set_option Elab.async false
set_option linter.all false
set_option maxRecDepth 100000
set_option maxHeartbeats 4000000
/-! a != b by an own == of the class, != being object's. -/
namespace PySem.W
open PySem PySem.Spec PySem.Calls PyProof.Rows
theorem one_plain : plainId "object.__ne__" = true := by decide +kernel
theorem one_entry : entryFor table "object.__ne__" = some Builtin.«object.__ne__» := entryFor_of_fast (by kernel_rfl)
theorem one_args (a b : Value) : argsOk "object.__ne__" ⟨[a, b], []⟩ := by unfold argsOk; kernel_rfl
theorem one_bind (self : Value) : bindSpecial (.builtin "object.__ne__") self = pure (.builtin "object.__ne__", [self]) :=
  (Slot.of (T := "object") (name := "__ne__") (owner := "object") (n := "__ne__") (by rw [typeLookup_type, builtinLookup_eq_fast]; kernel_rfl) (by decide +kernel) (by decide +kernel) (by decide +kernel)
    (.inl (by decide +kernel)) (by rw [isSubtype_type]; kernel_rfl)).bind self
section
variable {prog : Program} {w : World} {A A₀ : Around} {E : Value → Shared → Prop} {s : Shared} {K : Frag} {x C L f : Addr} {h₀ : Heap} {m : Str → Option Value} {ox : Obj} {od : Option Obj} {name : Str} {b tb : Value}
theorem ifBound_B {M : Model} {args : List Value} {id : String} {Q : Option Value → Shared → Prop} (X : K.In s.heap) (I : InstAt s.heap x ox C od) (hs : findIn K (.ref C) name = some (some (.builtin id))) (hb : ∀ self, bindSpecial (.builtin id) self = pure (.builtin id, [self]))
    (h : wpAny M A (call (.builtin id) (.ref x :: args)) (fun v => Q (some v)) E s) : wpAny M A (callSpecialIfBound? (.ref x) name args) Q E s := by
  simp only [callSpecialIfBound?, bindSpecialIfBound?]
  refine wpAny_holding (wpAny_bind (wpAny_bind (wpAny_bind (I.type.here ((looks_findIn X hs).here ?_)))))
  refine wpAny_bind (wpAny_askSetting (wpAny_ite ?_))
  have fin : wpAny M A (call (.builtin id) ([.ref x] ++ args) >>= fun v => pure (some v)) Q E s := wpAny_bind (wpAny_mono h (fun v s' h' => wpAny_pure h') fun _ _ h' => h')
  split
  · exact wpAny_bind (wpAny_of_eq (hb _) (wpAny_pure (by exact fin)))
  · exact wpAny_tryCatch (wpAny_bind (wpAny_of_eq (hb _) (wpAny_pure (by exact fin))))
theorem ne_call {Q : Value → Shared → Prop} (hu : A.in1.units < cLine) (X : K.In s.heap) (I : InstAt s.heap x ox C od) (ho : subIn K (.ref C) (.type "object") = some true) (hs : findIn K (.ref C) "__eq__" = some (some (.ref f))) (hf : isFn K (.ref f) = true)
    (h : wpAny (model prog w) A.in1 (call (.ref f) [.ref x, b]) (fun v s' => ∃ k, v = .bool k ∧ Q (.bool (!k)) s') E s) : wpAny (model prog w) A (call (.builtin "object.__ne__") [.ref x, b]) Q E s := by
  refine wpAny_call (codeAny_call_builtin one_plain one_entry ?_)
  refine @check_slot (model prog w) _ _ s "object.__ne__" "object" "__ne__" (.ref x) [b] [] _ (by decide +kernel) (by decide +kernel) (I.type.andThen (looks_subIn X ho)) (one_args _ _) ?_
  unfold Builtin.«object.__ne__»
  refine wpAny_bind (wpAny_of_eq (a := ((Value.ref x : Value), [b])) (by first | rfl | (simp only [slotArgs]; rfl)) ?_)
  refine wpAny_bind (wpAny_cRoomFor hu ?_)
  refine wpAny_bind (ifBound_K X I hs hf (wpAny_mono h (fun v s' hv => ?_) fun _ _ e => e))
  obtain ⟨k, rfl, q⟩ := hv
  refine wpAny_bind (wpAny_truthy_bool ?_)
  exact wpAny_pure q
theorem ne_K {Q : Value → Shared → Prop} (hu : A.units < cLine) (hu1 : A.in1.units < cLine) (X : K.In s.heap) (I : InstAt s.heap x ox C od) (hb : Looks (model prog w) s.heap (typeOf b) tb) (hn : notFirst K C tb = true)
    (hne : findIn K (.ref C) "__ne__" = some (some (.builtin "object.__ne__"))) (ho : subIn K (.ref C) (.type "object") = some true) (hs : findIn K (.ref C) "__eq__" = some (some (.ref f))) (hf : isFn K (.ref f) = true)
    (h : wpAny (model prog w) A.in1 (call (.ref f) [.ref x, b]) (fun v s' => ∃ k, v = .bool k ∧ Q (.bool (!k)) s') E s) : wpAny (model prog w) A (richCompare .NotEq (.ref x) b) Q E s := by
  have one : wpAny (model prog w) A (tryCompare (.ref x) (cmpInfo .NotEq).2.1 b) (fun r s' => ∃ v, r = some v ∧ Q v s') E s := by
    unfold tryCompare
    have two : wpAny (model prog w) A (call (.builtin "object.__ne__") [.ref x, b]) (fun v s' => ∃ k, v = .bool k ∧ Q v s') E s := ne_call hu1 X I ho hs hf (wpAny_mono h (fun v s' hv => by
      obtain ⟨k, rfl, q⟩ := hv
      exact ⟨k, rfl, _, rfl, q⟩) fun _ _ e => e)
    refine wpAny_bind (ifBound_B X I hne one_bind (wpAny_mono two (fun v s' hv => ?_) fun _ _ e => e))
    obtain ⟨k, rfl, q⟩ := hv
    exact wpAny_pure ⟨_, rfl, q⟩
  unfold richCompare
  simp only [oneThing_ref]
  refine wpAny_holding (wpAny_bind (wpAny_cRoomFor hu ?_))
  refine wpAny_bind (I.type.here (wpAny_bind (hb.here ?_)))
  split
  · rename_i q
    have e : subIn K tb (.ref C) = some false := by
      rcases Bool.or_eq_true_iff.mp hn with e | e
      · rw [beq_iff_eq.mp e] at q; simp at q
      · exact beq_iff_eq.mp e
    refine wpAny_bind ((looks_subIn X e).here ?_)
    simp only [Bool.false_eq_true, if_false]
    refine wpAny_bind (wpAny_mono one (fun r s' z => ?_) fun _ _ e => e)
    obtain ⟨v, rfl, hq⟩ := z
    exact wpAny_pure hq
  · refine wpAny_bind (wpAny_pure ?_)
    simp only [Bool.false_eq_true, if_false]
    refine wpAny_bind (wpAny_mono one (fun r s' z => ?_) fun _ _ e => e)
    obtain ⟨v, rfl, hq⟩ := z
    exact wpAny_pure hq
end
end PySem.W
namespace Fn
open PySem PySem.Spec PyProof.Rows L2
section
variable {X : Cx} {CX : CXT} {k : Nat} {f C : Addr} {fd : FuncData} {ps : List Str} {sp : Sp} {E : L2.St → XK} {a b : Expr} {ta tb : TE} {pos p : Pos}
/-- a != b, a an instance, by its own == -/
theorem pe_neX (at_ : PySem.W.findIn X.K (.ref C) "__eq__" = some (some (.ref f))) (fn : PySem.W.isFn X.K (.ref f) = true) (hne : PySem.W.findIn X.K (.ref C) "__ne__" = some (some (.builtin "object.__ne__"))) (ho : PySem.W.subIn X.K (.ref C) (.type "object") = some true)
    (F : FnOk X.prog X.w X.K X.mg X.base CX k f fd ps sp) (hr : Room (k + 2) X.A) (hb : Binds X.K fd ps []) (hx : ∀ σ, PassesAt CX X σ (E σ)) (ha : PE X a ta) (hb2 : PE X b tb) :
    PC X .NotEq a b (fun σ H Q => ta σ H fun x H1 => tb σ H1 fun y H2 => ∃ p dx fs, x = .ref p ∧ H2 p = some (.ins C dx fs) ∧ ((∃ q dy gs, y = .ref q ∧ H2 q = some (.ins C dy gs)) ∨ ∃ T, TyX X.K H2 y (.type T) ∧ PySem.W.subIn X.K (.type T) (.ref C) = some false) ∧
      sp [x, y] H2 (fun v H3 => ∃ k : Bool, v = .bl k ∧ Q (.bl (!k)) H3) (E σ)) := by
  refine ⟨fun pins s σ H Q I h => ?_⟩
  refine bin ha hb2 I h fun v u s2 x y H2 I2 rx ry q => ?_
  obtain ⟨p, dx, fs, ex, hp, rk, q⟩ := q
  subst ex
  obtain rfl : v = Value.ref p := rx
  obtain ⟨mA, O, _⟩ := ins_get I2.hok hp
  obtain ⟨od, J, _⟩ := O.look
  have hr2 : Room k X.A.in1 := (show Room (k + 1) X.A.in1 from Room.in1 hr).mono (Nat.le_succ _)
  have hl : ([V.ref p, y]).length = ps.length := F.len _ _ _ _ q
  have go : wpAny (model X.prog X.w) X.A.in1 (call (.ref f) [.ref p, u]) (fun v s' => ∃ k, v = .bool k ∧ EP X pins σ Q (.bool (!k)) s') X.xe s2 := by
    refine wpAny_call (codeAny_mono (F.run X.A.in1 X.stack s2 H2 ⟨[.ref p, u], []⟩ [.ref p, u] [.ref p, y] _ (E σ) hr2 I2.env0.in1 (by
      have z := hb s2 [.ref p, u] I2.kIn (by simpa using hl)
      simpa using z) (.cons rfl (.cons ry .nil)) q) fun r s' hq => ?_)
    cases r with
    | error e => exact hx σ pins H2 s2 e s' I2 hq
    | ok fl =>
      cases fl with
      | ret u =>
        obtain ⟨z, H', I', rz, kk, ez, q2⟩ := I2.after hq
        subst ez
        cases rz
        exact ⟨kk, rfl, .bl (!kk), H', I', rfl, q2⟩
      | next => exact False.elim hq
      | brk => exact False.elim hq
      | cont => exact False.elim hq
  obtain ⟨m, hF⟩ := I2.fr
  have u1 : X.A.in1.units < cLine := (Room.in1 (show Room (k + 1 + 1) X.A from hr)).units0
  rcases rk with ⟨q', dy, gs, ey, hq'⟩ | ⟨T, ty, h3⟩
  · subst ey
    obtain rfl : u = Value.ref q' := ry
    obtain ⟨mB, O', _⟩ := ins_get I2.hok hq'
    obtain ⟨od', J', _⟩ := O'.look
    exact PySem.W.ne_K (tb := .ref C) hr.units0 u1 I2.kIn J J'.type (by simp [PySem.W.notFirst]) hne ho at_ fn go
  · obtain ⟨P, Z, hP, _⟩ := kit_of I2 ry ty
    exact PySem.W.ne_K (tb := .type T) hr.units0 u1 I2.kIn J (fun A Q E s k z => Z.ty _ _ I2.kIn hP A Q E s k z) (by simp [PySem.W.notFirst, h3]) hne ho at_ fn go
end
end Fn
set_option Elab.async false
set_option linter.all false
set_option maxRecDepth 100000
set_option maxHeartbeats 4000000
/-! enumerate(tuple) -/
namespace PySem
open Sem (wp)
open AutoSeq1 (wpAny_loadPart')
theorem meets_enumerate_newT (l : Addr) (items : Array Value) (n : Nat) (dct : Option Addr) (sl : Array (Option Value)) :
    Meets (Builtin.«enumerate.__new__» ⟨[.type "enumerate", .ref l], []⟩) (fun _ R s => s.heap.get? l = some { cls := .type "tuple", dict := dct, data := .seq items n, slots := sl } ∧
      R (.ok (.ret (.ref (s.heap.push { cls := .type "tuple_iterator", data := .fields #[.ref l, .int 0 0] }).objs.size)))
        { s with heap := (s.heap.push { cls := .type "tuple_iterator", data := .fields #[.ref l, .int 0 0] }).push { cls := .type "enumerate", data := .fields #[.none, .bool false, .ref s.heap.objs.size, rawInt 0, .none, .none] } }) :=
  .of_wp fun prog w A R s h => by
    obtain ⟨hp, g, d, tk, os⟩ := s; obtain ⟨hl, h⟩ := h
    have hsub := sub_enumerate
    have hL : Heap.IsTuple (Shared.heap ⟨hp, g, d, tk, os⟩) l items := ⟨_, hl, rfl, n, rfl⟩
    wp_walk using wpAny_loadPart' hl
    refine wpAny_stack_any fun st => wpAny_pure ?_
    split
    · rename_i c _ _ _ _ _
      cases (c == Value.type "enumerate")
      · wp_walk using wpAny_loadPart' hl, wpAny_pyIter_tuple hL
        exact ⟨_, rfl, h⟩
      · wp_walk using wpAny_loadPart' hl, wpAny_pyIter_tuple hL
        exact ⟨_, rfl, h⟩
    · wp_walk using wpAny_loadPart' hl, wpAny_pyIter_tuple hL
      exact ⟨_, rfl, h⟩
section
variable {prog : Program} {w : World} {A : Around} {E : Value → Shared → Prop} {s : Shared}
theorem call_enumerate_tuple {l : Addr} {items : Array Value} {Q : Value → Shared → Prop} (hL : s.heap.IsTuple l items)
    (h : ∀ h', IsEnum h' (s.heap.objs.size + 1) s.heap.objs.size 0 .none → h'.IsTupleIter s.heap.objs.size l 0 → h'.objs.size = s.heap.objs.size + 2 →
      (∀ b o, s.heap.get? b = some o → h'.get? b = some o) → Q (.ref (s.heap.objs.size + 1)) { s with heap := h' }) :
    wpAny (model prog w) A (call (.type "enumerate") [.ref l]) Q E s := by
  obtain ⟨⟨c, dct, dt, sl⟩, hl, hc, n, hd⟩ := hL
  replace hc : c = .type "tuple" := hc
  replace hd : dt = .seq items n := hd
  subst hc hd
  refine callType_new F.called_enumerate (by decide) (F.typeCall_enumerate_1 _) (F.newCall_enumerate_1 _) (fun obj => F.args_object_init_2 obj _) F.entry_enumerate_new
    (meets_enumerate_newT l items n dct sl) ⟨hl, ?_⟩
  have hz : (s.heap.push { cls := .type "tuple_iterator", data := .fields #[.ref l, .int 0 0] }).objs.size = s.heap.objs.size + 1 := Heap.size_push ..
  show _ ∧ _
  rw [hz]
  have he : IsEnum ((s.heap.push { cls := .type "tuple_iterator", data := .fields #[.ref l, .int 0 0] }).push
      { cls := .type "enumerate", data := .fields #[.none, .bool false, .ref s.heap.objs.size, rawInt 0, .none, .none] }) (s.heap.objs.size + 1) s.heap.objs.size 0 .none := by
    have := Heap.get?_push_size (s.heap.push { cls := .type "tuple_iterator", data := .fields #[.ref l, .int 0 0] })
      (o := { cls := .type "enumerate", data := .fields #[.none, .bool false, .ref s.heap.objs.size, rawInt 0, .none, .none] }) rfl
    rw [hz] at this; exact this
  refine ⟨⟨_, he, rfl⟩, h _ he ⟨_, Heap.get?_push_of_some _ (Heap.get?_push_size _ rfl), rfl, rfl⟩ (by rw [Heap.size_push, hz]) fun b o x => Heap.get?_push_of_some _ (Heap.get?_push_of_some _ x)⟩
end
end PySem
namespace Fp
open PySem PySem.Spec PyProof.Rows L2
def IteT (K : PySem.W.Frag) (a : Addr) : It :=
  ⟨fun i H => ∃ (xs : List V) (x : V), SqT K H a xs ∧ xs[i]? = some x, fun i H v H' => ∃ T x, v = .ref T ∧ H T = none ∧ H' = upd H T (.tup [.int (i : Nat), x]) ∧ ∀ xs, SqT K H a xs → xs[i]? = some x, fun i H => ∃ xs : List V, SqT K H a xs ∧ xs.length ≤ i⟩
theorem turn_enumT {P : Program} {w : World} {K : PySem.W.Frag} {elts : List Expr} {kk : Nat} {tpos : Pos} (a e it : Addr) (hna : a ≠ it) (hne0 : a ≠ e) :
    Turn P w K (.Tuple elts kk tpos) (IteT K a) [e, it] e (fun i h => (∃ old, IsEnum h e it ((i : Nat) : Int) old) ∧ h.IsTupleIter it a i ∧ e ≠ it) where
  mem := by simp
  obj := fun i h st b hb => by
    obtain ⟨⟨old, he⟩, ⟨o, ho, hc, hd⟩, _⟩ := st
    have e' : b = e ∨ b = it := by simpa using hb
    rcases e' with z | z
    · rw [z]; exact ⟨_, he, fun v q => nomatch q⟩
    · rw [z]; exact ⟨o, ho, fun v q => by rw [hd] at q; cases q⟩
  keep := fun i h h' st k => let ⟨⟨old, he⟩, hi, hne⟩ := st; ⟨⟨old, k e (by simp) _ he⟩, hi.at fun o q => k it (by simp) o q, hne⟩
  item := by
    intro X hP hw hK hc i pins s σ H E I hf st hg
    subst hP hw hK
    obtain ⟨⟨old, he⟩, hit, hne⟩ := st
    obtain ⟨xs, x, hq, hx⟩ := hg
    obtain ⟨its, rv, p, hz⟩ := I.tuple hq
    obtain ⟨u, hu, ru⟩ := rv.get hx
    have hel : e < s.heap.objs.size := Heap.lt_size he
    have hil : it < s.heap.objs.size := by obtain ⟨_, q, _⟩ := hit; exact Heap.lt_size q
    have hi : i < its.toArray.size := by
      rw [List.size_toArray]
      exact (List.getElem?_eq_some_iff.mp hu).1
    have D := Draws.tuple (prog := X.prog) (w := X.w) (A := X.A.in1) (show X.A.in1.handled = none from I.ok.hd hc) it a hna its.toArray
    refine wpAny_pyNext_enum_itemD D he ⟨hit, p⟩ hi hne (by simp [hne, Ne.symm hne0]) fun x0 h' tk hP0 ho hit' hT hsz hk => ?_
    have hxu : x0 = u := by
      rw [show its.toArray[i]? = some u by simpa using hu] at hP0
      exact (Option.some.inj hP0).symm
    subst hxu
    refine ⟨_, rfl, wpAny_letOwnedTupleGo_enum (s := { s with heap := h', toks := tk + 1 }) ho fun h'' he' sb => ?_⟩
    have hT2 : h''.get? s.heap.objs.size = some { cls := .type "tuple", data := .seq #[.int i tk, x0] } := (sb.2 _ (Nat.ne_of_gt hel)).trans hT
    have new : ObjOk X.prog X.w (upd H s.heap.objs.size (.tup [.int (i : Nat), x])) h'' s.heap.objs.size (.tup [.int (i : Nat), x]) :=
      ⟨by show 2 ≤ sizeLine; decide, [.int i tk, x0], .cons ⟨_, rfl⟩ (.cons ru .nil), ⟨_, hT2, rfl, _, rfl⟩⟩
    have I1 : Inv X pins σ (upd H s.heap.objs.size (.tup [.int (i : Nat), x])) { s with heap := h'', toks := tk + 1 } :=
      I.turnedNew (ch := [e, it]) (fun b ob hb q => (sb.2 b (fun z => hb (by simp [z]))).trans (hk b ob (fun z => hb (by simp [z])) (fun z => hb (by simp [z])) q)) hf (Nat.le_refl _) new
    refine ⟨.ref s.heap.objs.size, _, I1, rfl, ⟨_, x, rfl, I.hok.fresh (Nat.le_refl _), rfl, fun ys hy => by rw [I.tuple_inj hy hq]; exact hx⟩, ⟨⟨x0, ?_⟩, hit'.1.at fun o q => (sb.2 it (Ne.symm hne)).trans q, hne⟩, fun b hb => ?_⟩
    · have e1 : ((i + 1 : Nat) : Int) = (i : Int) + 1 := by omega
      rw [e1]; exact he'
    · have hb' : b < s.heap.objs.size := by
        have e' : b = e ∨ b = it := by simpa using hb
        rcases e' with z | z
        · rw [z]; exact hel
        · rw [z]; exact hil
      rw [upd_ne (Nat.ne_of_lt hb')]
      exact (hf b hb).1
  done := by
    intro X hP hw hK hc i pins s σ H E I hf st hg
    subst hP hw hK
    obtain ⟨⟨old, he⟩, hit, hne⟩ := st
    obtain ⟨xs, hq, hx⟩ := hg
    obtain ⟨its, rv, p, hz⟩ := I.tuple hq
    obtain ⟨f0, f1, f2, f3, f4, f5⟩ := hf it (by simp)
    have hl := rv.length
    have hT : s.TypeIs (.ref e) "enumerate" := ⟨_, he, rfl⟩
    unfold pyNext
    refine wpAny_bind (wpAny_attempt (wpAny_callSpecial?_slot (name := Str.ofString "__next__") hT F.slot_enumerate_next
      (wpAny_call_entry F.slot_enumerate_next hT F.entry_enumerate_next ?_ (F.args_enumerate_next_1 _))))
    show wpAny _ _ (field (.ref e) 2 >>= _) _ _ _
    refine wpAny_bind (wpAny_field he rfl (x := .ref it) rfl ?_)
    refine wpAny_bind (wpAny_nextOf_tuple_end (show X.A.in1.handled = none from I.ok.hd hc) hit p (by simp; omega) fun h' x he' hx' => ?_)
    obtain ⟨o, ho, hc'⟩ := hx'
    refine wpAny_bind (wpAny_isInstance (T := "StopIteration") (b := true) ⟨o, ho, hc'⟩ isSubtype_stop ?_)
    exact wpAny_pure ⟨rfl, I.turned (t' := s.toks) (fun b o hb q => he' b o hb q) f0 f1 f3 f4 f5⟩
  self := fun A i s Q E st h => let ⟨⟨_, he⟩, _⟩ := st; wpAny_pyIter_enum he h
def iEnumT (K : PySem.W.Frag) (ta : TA) : TI := fun σ H R => ta σ H fun vs H1 => ∃ a xs, vs = [.ref a] ∧ SqT K H1 a xs ∧ R (IteT K a) H1
theorem pi_enumT {X : Cx} {e : Expr} {ta : TA} {p pos tpos : Pos} {elts : List Expr} {kk : Nat} (hg : Gl X "enumerate") (hm : X.mg "enumerate" = none) (ha : PA X [e] ta) (hs : starEach [e] X.env = [(false, eval e X.env)] := by rfl) :
    PI X (.Tuple elts kk tpos) (.Call (.Name "enumerate" p) [e] [] pos) (iEnumT X.K ta) := by
  refine ⟨fun pins s σ H R I h => ?_⟩
  refine Call_ (ld_blt I hg hm boot_enumerate (PyProof.Rows.callWith_type1 (thn (ha.run pos pins s σ H _ I h) fun us s1 ⟨vs, H1, I1, r1, q1⟩ => ?_) hs rfl))
  obtain ⟨a, xs, ex, hq, q⟩ := q1
  subst ex
  cases r1 with
  | cons r rr =>
    cases rr
    cases r
    obtain ⟨its, rv, p', hz⟩ := I1.tuple hq
    have hal : a < s1.heap.objs.size := by
      obtain ⟨o, ho, _⟩ := id p'
      exact Heap.lt_size ho
    refine call_enumerate_tuple p' fun h' he hit hsz hk => wpAny_pyIter_enum he ?_
    have I2 : Inv X pins σ H1 { s1 with heap := h' } := I1.kept (t' := s1.toks) hk
    refine ⟨s1.heap.objs.size + 1, [s1.heap.objs.size + 1, s1.heap.objs.size], _, _, H1, rfl, I2, turn_enumT a (s1.heap.objs.size + 1) s1.heap.objs.size (Nat.ne_of_lt hal) (Nat.ne_of_lt (Nat.lt_succ_of_lt hal)), ⟨⟨.none, he⟩, hit, Nat.succ_ne_self _⟩, fun b hb => ?_, q⟩
    have e' : b = s1.heap.objs.size + 1 ∨ b = s1.heap.objs.size := by simpa using hb
    have hle : s1.heap.objs.size ≤ b := by
      rcases e' with z | z
      · rw [z]; exact Nat.le_add_right _ _
      · rw [z]; exact Nat.le_refl _
    exact I1.fpOk hle (I1.hok.fresh hle)
/-- one of two walks -/
theorem pi_or {X : Cx} {tg it : Expr} {w1 w2 : TI} (h1 : PI X tg it w1) (h2 : PI X tg it w2) : PI X tg it (fun σ H R => w1 σ H R ∨ w2 σ H R) :=
  ⟨fun pins s σ H R I h => h.elim (h1.run pins s σ H R I) (h2.run pins s σ H R I)⟩
end Fp
set_option Elab.async false
set_option linter.all false
set_option maxRecDepth 100000
set_option maxHeartbeats 1000000
set_option exponentiation.threshold 100000
namespace K13
open PySem PySem.Spec PyProof.Rows L2 Fa Fb
theorem IsA.mono {K : PySem.W.Frag} {H : Hp} {x : V} {t u : Int} {n m : Nat} (h : IsA K H x t u n) (e : n ≤ m) : IsA K H x t u m := by
  obtain ⟨p, dx, h1, h2, h3, h4, h5⟩ := h
  exact ⟨p, dx, h1, h2, h3, pow_step h4 e, pow_step h5 e⟩
abbrev gFl (K : PySem.W.Frag) (i : Nat) (f : Str) : TE := tFld K (tVar i) f
/-- a two-place operation: num and den are the fraction that is due -/
def spOp (K : PySem.W.Frag) (num den : Int → Int → Int → Int → Int) : Sp := fun vs H Q E => ∃ x y t u n, vs = [x, y] ∧ IsA K H x t u n ∧ ((Bad K H y ∧ Err (CV K) y H E) ∨ ∃ t2 u2 m, Arg K H y t2 u2 m ∧ n + m < 7000 ∧
  ∀ z H' t' u', Same H H' → IsA K H' z t' u' (n + m + 1) → t' * den t u t2 u2 = num t u t2 u2 * u' → Q z H')
abbrev sAdd : Stmt := inClass (top 32) 4
theorem scAdd : FnScope ["self", "other", "right"] ["self", "other"] (defScope sAdd) := ⟨rfl, rfl, rfl, by decide +kernel, rfl, by decide +kernel, by decide +kernel⟩
section
variable {P : Program} {w : World} {K : PySem.W.Frag} {mg : Str → Option Value} {base : Heap} {f fS : Addr} {fd fdS fdI : FuncData} {qv tv : Str} {fV : Addr}

theorem ok_add (F : FunD K "__add__" "Amount.__add__" (defArgs sAdd) (defBody sAdd) (defScope sAdd) [] [] f fd) (T : AF K mg) (GS : FnOk P w K mg base (L2.CX P w) 6 fS fdS ["value"] (spAs K)) (gS : mg "as_amount" = some (.ref fS)) (kS : PySem.W.keepIn K (.ref fS) = true) (bS : Binds K fdS ["value"] [])
    (GI : FnOk P w K mg base (L2.CX P w) 4 (aI K) fdI ["self", "top", "bottom"] (spInit K)) (bI : Binds K fdI ["self", "top", "bottom"] []) : FnOk P w K mg base (L2.CX P w) 7 f fd ["self", "other"] (spOp K (fun t u t2 u2 => t * u2 + t2 * u) (fun _ u _ u2 => u * u2)) := by
  refine F.ok scAdd (fun vs H Q E h => ?_) (fun cdv A outer s H vs Q E hr h => ?_)
  · obtain ⟨x, y, t, u, n, rfl, _⟩ := h
    rfl
  · obtain ⟨x, y, t, u, n, rfl, ix, q⟩ := h
    have hr1 := hr.mono (show 5 ≤ 6 by decide)
    refine ⟨_, pss_cons (ps_set (i := 2) scAdd.nd rfl (Or.inl rfl) (pe_callS GS hr rfl gS kS bS (fun σ => passAt (W := fun cls d _ H => E cls d H) (takes_of rfl rfl rfl rfl) σ) (pa_cons (pv 1) pa_nil)))
      (pss_one (ps_ret (pe_make T.mkA GI hr1 rfl T.g bI .nil passL (pa_cons (pe_op op_add (pe_op op_mulW (pe_fld (pv 0) rfl) (pe_fld (pv 2) rfl)) (pe_op op_mulW (pe_fld (pv 2) rfl) (pe_fld (pv 0) rfl))) (pa_cons (pe_op op_mulW (pe_fld (pv 0) rfl) (pe_fld (pv 2) rfl)) pa_nil))))), ?_⟩
    refine ⟨_, rfl, y, rfl, ?_⟩
    rcases q with ⟨hb, er⟩ | ⟨t2, u2, m, ar, hnm, q⟩
    · exact .inl ⟨hb, er⟩
    · refine .inr ⟨t2, u2, m, ar, fun z H' sm iz => ?_⟩
      have ix' := ix.same sm
      obtain ⟨p, dx, rfl, hp, r, b1, b2⟩ := id ix'
      obtain ⟨p2, dx2, rfl, hp2, r2, b3, b4⟩ := id iz
      refine ⟨_, rfl, p, CA K, dx, _, _, rfl, hp, T.cl, T.noT, fl_top _ _, ?_⟩
      refine ⟨_, rfl, p2, CA K, dx2, _, _, rfl, hp2, T.cl, T.noB, fl_bot _ _, ?_⟩
      refine ⟨_, _, rfl, rfl, mulW_of b1 b4 (by omega), ?_⟩
      refine ⟨_, rfl, p2, CA K, dx2, _, _, rfl, hp2, T.cl, T.noT, fl_top _ _, ?_⟩
      refine ⟨_, rfl, p, CA K, dx, _, _, rfl, hp, T.cl, T.noB, fl_bot _ _, ?_⟩
      refine ⟨_, _, rfl, rfl, mulW_of b3 b2 (by omega), _, _, rfl, rfl, ?_⟩
      refine ⟨_, rfl, p, CA K, dx, _, _, rfl, hp, T.cl, T.noB, fl_bot _ _, ?_⟩
      refine ⟨_, rfl, p2, CA K, dx2, _, _, rfl, hp2, T.cl, T.noB, fl_bot _ _, ?_⟩
      refine ⟨_, _, rfl, rfl, mulW_of b2 b4 (by omega), ?_⟩
      have hu : u * u2 ≠ 0 := Int.mul_ne_zero (by have := r.1; omega) (by have := r2.1; omega)
      refine make_read T (n := n + m + 1) hu (by omega) ?_ ?_ fun y' H2 t' u' s2 i2 e => q y' H2 t' u' (sm.trans s2) i2 e
      · exact abs_add_lt (abs_mul_lt b1 b4) (by rw [Nat.add_comm]; exact abs_mul_lt b3 b2)
      · exact pow_step (abs_mul_lt b2 b4) (by omega)

end
structure OpF (K : PySem.W.Frag) (nm : String) (f : Addr) : Prop where
  own : OwnOp K (CA K) nm f
  ty : ∀ T ∈ tys, TyOp K (CA K) nm T
theorem OpF.arg {K : PySem.W.Frag} {nm : String} {f : Addr} (o : OpF K nm f) {H : Hp} {x : V} {t u : Int} {n : Nat} (h : Arg K H x t u n) : RK K (CA K) nm H x := by
  rcases h with ⟨p, dx, e, hp, _⟩ | ⟨e, _⟩
  · exact .inl ⟨p, dx, _, e, hp⟩
  · rw [e]
    exact .inr ⟨"int", .base (.int t), o.ty "int" (by simp [tys])⟩
structure Fn (P : Program) (w : World) (K : PySem.W.Frag) (mg : Str → Option Value) (base : Heap) (x : Str) (lev : Nat) (ps : List Str) (sp : Sp) (f : Addr) (fd : FuncData) : Prop where
  ok : FnOk P w K mg base (L2.CX P w) lev f fd ps sp
  g : mg x = some (.ref f)
  k : PySem.W.keepIn K (.ref f) = true
  b : Binds K fd ps []
structure OpK (P : Program) (w : World) (K : PySem.W.Frag) (mg : Str → Option Value) (base : Heap) (nm : String) (lev : Nat) (sp : Sp) (f : Addr) (fd : FuncData) : Prop where
  op : OpF K nm f
  ok : FnOk P w K mg base (L2.CX P w) lev f fd ["self", "other"] sp
  b : Binds K fd ["self", "other"] []
structure MeK (P : Program) (w : World) (K : PySem.W.Frag) (mg : Str → Option Value) (base : Heap) (m : Str) (lev : Nat) (sp : Sp) (f : Addr) (fd : FuncData) : Prop where
  me : Meth K (CA K) m f
  ok : FnOk P w K mg base (L2.CX P w) lev f fd ["self", "other"] sp
  b : Binds K fd ["self", "other"] []
abbrev spAdd (K : PySem.W.Frag) : Sp := spOp K (fun t u t2 u2 => t * u2 + t2 * u) (fun _ u _ u2 => u * u2)
theorem passS {X : Cx} (σ : L2.St) : PassesAt (L2.CX X.prog X.w) X σ ((fun _ => E0 : L2.St → XK) σ) := fun pins H s e s' i c => passL pins σ H s e s' i c
structure EqK (P : Program) (w : World) (K : PySem.W.Frag) (mg : Str → Option Value) (base : Heap) (f : Addr) (fd : FuncData) : Prop where
  at_ : PySem.W.findIn K (.ref (CA K)) "__eq__" = some (some (.ref f))
  fn : PySem.W.isFn K (.ref f) = true
  ok : FnOk P w K mg base (L2.CX P w) 1 f fd ["self", "other"] (spEq K)
  b : Binds K fd ["self", "other"] []
  ne : PySem.W.findIn K (.ref (CA K)) "__ne__" = some (some (.builtin "object.__ne__"))
  ob : PySem.W.subIn K (.ref (CA K)) (.type "object") = some true
theorem pss_imp {X : Cx} {b : List Stmt} {u S : TS} (h : PSs X b u) (k : ∀ D σ H, S D σ H → u D σ H) : PSs X b S := ⟨fun pn s σ H D I z => h.run pn s σ H D I (k D σ H z)⟩
def spLs (K : PySem.W.Frag) : Sp := fun vs H Q _ => ∃ x t b, vs = [x] ∧ (∀ J, Same H J → TyX K J x t) ∧ PySem.W.kitAny K t [.type "list", .type "tuple"] = some b ∧ ∀ H', Same H H' → Q (.bl b) H'
abbrev sLs : Stmt := top 24
theorem scLs : FnScope ["value"] ["value"] (defScope sLs) := ⟨rfl, rfl, rfl, by decide +kernel, rfl, by decide +kernel, by decide +kernel⟩
section
variable {P : Program} {w : World} {K : PySem.W.Frag} {mg : Str → Option Value} {base : Heap} {f fC fD fA fS fM fE : Addr} {fd fdC fdD fdA fdS fdM fdE fdI : FuncData}
theorem ok_ls (F : FnP K "is_listing" sLs f fd) (T : AF K mg) (mLi : mg "list" = none) (mTu : mg "tuple" = none) : FnOk P w K mg base (L2.CX P w) 1 f fd ["value"] (spLs K) := by
  refine F.ok scLs (fun vs H Q E h => ?_) (fun cdv A outer s H vs Q E hr h => ?_)
  · obtain ⟨x, t, b, rfl, _⟩ := h
    rfl
  · obtain ⟨x, t, b, rfl, ty, kt, q⟩ := h
    refine ⟨_, pss_one (ps_ret (pe_callB call_isiT rfl T.isi (by decide +kernel) (pa_cons (pv 0) (pa_cons (pe_tup (pa_cons (pe_ty mLi (by decide +kernel : bootBuiltins "list" = some (.type "list"))) (pa_cons (pe_ty mTu (by decide +kernel : bootBuiltins "tuple" = some (.type "tuple"))) pa_nil))) pa_nil)))), ?_⟩
    refine ⟨_, rfl, by show 2 ≤ sizeLine; decide, fun tp htp => ?_⟩
    exact ⟨x, tp, _, t, [.type "list", .type "tuple"], b, rfl, upd_same, .cons (.ty _) (.cons (.ty _) .nil), ty _ (Same.upd htp), kt, q _ (Same.upd htp)⟩
end
def Kp (p : Addr) (H H' : Hp) : Prop := ∀ q o, q ≠ p → H q = some o → H' q = some o
theorem Kp.refl (p : Addr) (H : Hp) : Kp p H H := fun _ _ _ h => h
theorem Kp.trans {p : Addr} {H H1 H2 : Hp} (a : Kp p H H1) (b : Kp p H1 H2) : Kp p H H2 := fun q o n h => b q o n (a q o n h)
theorem Kp.but {p : Addr} {H H' : Hp} (h : But p H H') : Kp p H H' := fun q o n z => by rw [h q n]; exact z
theorem Kp.same {p : Addr} {H H' : Hp} (h : Same H H') : Kp p H H' := fun q o _ z => h q o z
theorem Kp.no {p D : Addr} {H H1 : Hp} (k : Kp p H H1) (ne : D ≠ p) (h : H1 D = none) : H D = none := by
  cases e : H D with
  | none => rfl
  | some o =>
    rw [k _ _ ne e] at h
    cases h
theorem Kp.put {p D : Addr} {H H' : Hp} {o : HO} (k : Kp p H H') (h : H D = none) : Kp p H (upd H' D o) := fun q u n z => by
  rw [upd_ne (ne_of_none z h)]
  exact k q u n z
theorem _root_.Fa.Box.ne {H : Hp} {p l : Addr} {n : Nat} (b : Box H p n) (hl : H l = none) : p ≠ l := by
  obtain ⟨_, _, _, h, _⟩ := b
  exact ne_of_none h hl
theorem _root_.Fa.Box.put {H : Hp} {p D : Addr} {n : Nat} {o : HO} (b : Box H p n) (ne : D ≠ p) : Box (upd H D o) p n := by
  obtain ⟨x, y, z, h, r⟩ := b
  exact ⟨x, y, z, by rw [upd_ne ne.symm]; exact h, r⟩
theorem _root_.Fa.Box.upd {H : Hp} {p l : Addr} {n : Nat} {o : HO} (b : Box H p n) (hl : H l = none) : Box (upd H l o) p n := b.put (b.ne hl).symm
theorem _root_.Fa.Box.sm {H H' : Hp} {p : Addr} {n : Nat} (b : Box H p n) (s : Same H H') : Box H' p n := by
  obtain ⟨x, y, z, h, r⟩ := b
  exact ⟨x, y, z, s _ _ h, r⟩
structure Fn0 (P : Program) (w : World) (K : PySem.W.Frag) (mg : Str → Option Value) (base : Heap) (x : Str) (lev : Nat) (ps : List Str) (sp : Sp) (f : Addr) (fd : FuncData) : Prop where
  ok : FnOk P w K mg base CX0 lev f fd ps sp
  g : mg x = some (.ref f)
  k : PySem.W.keepIn K (.ref f) = true
  b : Binds K fd ps []
def KT (H H' : Hp) : Prop := ∀ q o, H q = some o → (∀ l, o ≠ .lst l) → H' q = some o
theorem KT.of {H H' : Hp} (s : Same H H') : KT H H' := fun q o h _ => s q o h
theorem KT.kp {H H' : Hp} {p : Addr} {n : Nat} (b : Box H p n) (k : Kp p H H') : KT H H' := fun q o h nl => by
  refine k q o (fun e => ?_) h
  obtain ⟨_, _, _, z, _⟩ := b
  rw [e, z] at h
  exact nl _ (Option.some.inj h).symm
theorem KT.put {H : Hp} {D : Addr} {xs : List V} {o : HO} (h : H D = some (.lst xs)) : KT H (upd H D o) := fun q o' z nl => by
  rw [upd_ne fun e => by
    rw [e, h] at z
    exact nl _ (Option.some.inj z).symm]
  exact z
theorem KT.trans {H H1 H2 : Hp} (a : KT H H1) (b : KT H1 H2) : KT H H2 := fun q o h nl => b q o (a q o h nl) nl
end K13
set_option linter.all false
/-! Piecewise straight lines: points that rise in both, slope 1 before the first and behind the last. -/
namespace M08
abbrev Pt := Rat × Rat
def Up : List Pt → Prop
  | [] => True
  | [_] => True
  | p :: q :: r => p.1 < q.1 ∧ p.2 < q.2 ∧ Up (q :: r)
def slope (p q : Pt) : Rat := (q.2 - p.2) / (q.1 - p.1)
def nx (p : Pt) : List Pt → Rat
  | [] => 1
  | q :: _ => slope p q
def fil (l : Rat) : List Pt → List Pt
  | [] => []
  | p :: r => if l = nx p r then fil (nx p r) r else p :: fil (nx p r) r
def E (p : Pt) : List Pt → Rat → Rat
  | [], x => p.2 + (x - p.1)
  | q :: r, x => if x < q.1 then p.2 + (x - p.1) * slope p q else E q r x
def f : List Pt → Rat → Rat
  | [], x => x
  | p :: r, x => if x < p.1 then p.2 + (x - p.1) else E p r x
def S (p : Pt) : List Pt → Rat → Rat
  | [], _ => 1
  | q :: r, x => if x < q.1 then slope p q else S q r x
def sl : List Pt → Rat → Rat
  | [], _ => 1
  | p :: r, x => if x < p.1 then 1 else S p r x
def std (ps : List Pt) : List Pt := if fil 1 ps = [] then [(0, f ps 0)] else fil 1 ps
theorem Up.tail {p : Pt} {r : List Pt} (h : Up (p :: r)) : Up r := by
  cases r with
  | nil => exact True.intro
  | cons q r => exact h.2.2
theorem slope_line {p q : Pt} (h : p.1 < q.1) : q.2 = p.2 + (q.1 - p.1) * slope p q := by
  unfold slope
  have : q.1 - p.1 ≠ 0 := by grind
  grind
theorem slope_of {p q : Pt} {m : Rat} (h : p.1 < q.1) (e : q.2 = p.2 + (q.1 - p.1) * m) : slope p q = m := by
  unfold slope
  have : q.1 - p.1 ≠ 0 := by grind
  rw [e]
  grind
structure Line (p : Pt) (m : Rat) (r L : List Pt) : Prop where
  a : L = [] → m = 1
  b : ∀ q L', L = q :: L' → p.1 < q.1 ∧ q.2 = p.2 + (q.1 - p.1) * m
  c : ∀ x, p.1 ≤ x → E p r x = E p L x
  d : ∀ x, p.1 ≤ x → S p r x = S p L x
theorem line : ∀ (r : List Pt) (p : Pt), Up (p :: r) → Line p (nx p r) r (fil (nx p r) r)
  | [], p, _ => ⟨fun _ => rfl, (fun q L' e => by cases e), fun _ _ => rfl, fun _ _ => rfl⟩
  | q :: r, p, h => by
    obtain ⟨h1, h2, h3⟩ := h
    have ih := line r q h3
    have lp := slope_line h1
    show Line p (slope p q) (q :: r) (fil (slope p q) (q :: r))
    have ef : fil (slope p q) (q :: r) = if slope p q = nx q r then fil (nx q r) r else q :: fil (nx q r) r := rfl
    rw [ef]
    generalize hm : slope p q = m at lp ef ⊢
    by_cases c : m = nx q r
    · rw [if_pos c]
      generalize hL : fil (nx q r) r = L at ih ⊢
      rw [← c] at ih
      have hx : ∀ x, p.1 ≤ x → (E p (q :: r) x = E p L x) ∧ S p (q :: r) x = S p L x := by
        intro x hx
        show ((if x < q.1 then p.2 + (x - p.1) * slope p q else E q r x) = E p L x) ∧ (if x < q.1 then slope p q else S q r x) = S p L x
        rw [hm]
        cases L with
        | nil =>
          have m1 := ih.a rfl
          by_cases c2 : x < q.1
          · simp only [if_pos c2]
            refine ⟨?_, m1⟩
            show _ = p.2 + (x - p.1)
            rw [m1]
            grind
          · simp only [if_neg c2]
            rw [ih.c x (by grind), ih.d x (by grind)]
            refine ⟨?_, by first | rfl | exact True.intro⟩
            show q.2 + (x - q.1) = p.2 + (x - p.1)
            rw [lp, m1]
            grind
        | cons q2 L' =>
          obtain ⟨b1, b2⟩ := ih.b q2 L' rfl
          have s1 := slope_of b1 b2
          have s2 : slope p q2 = m := slope_of (by grind) (by rw [b2, lp]; grind)
          by_cases c2 : x < q.1
          · simp only [if_pos c2]
            show _ = (if x < q2.1 then p.2 + (x - p.1) * slope p q2 else E q2 L' x) ∧ m = (if x < q2.1 then slope p q2 else S q2 L' x)
            rw [if_pos (by grind), if_pos (by grind), s2]
            first | exact ⟨rfl, rfl⟩ | exact ⟨rfl, True.intro⟩ | exact True.intro | exact ⟨True.intro, True.intro⟩
          · simp only [if_neg c2]
            rw [ih.c x (by grind), ih.d x (by grind)]
            show (if x < q2.1 then q.2 + (x - q.1) * slope q q2 else E q2 L' x) = (if x < q2.1 then p.2 + (x - p.1) * slope p q2 else E q2 L' x) ∧ (if x < q2.1 then slope q q2 else S q2 L' x) = (if x < q2.1 then slope p q2 else S q2 L' x)
            rw [s1, s2]
            by_cases c3 : x < q2.1
            · simp only [if_pos c3]
              refine ⟨?_, by first | rfl | exact True.intro⟩
              rw [lp]
              grind
            · simp only [if_neg c3]
              first | exact ⟨rfl, rfl⟩ | exact ⟨rfl, True.intro⟩ | exact True.intro | exact ⟨True.intro, True.intro⟩
      refine ⟨fun e => ih.a e, fun q2 L' e => ?_, fun x hx' => (hx x hx').1, fun x hx' => (hx x hx').2⟩
      obtain ⟨b1, b2⟩ := ih.b q2 L' e
      exact ⟨by grind, by rw [b2, lp]; grind⟩
    · rw [if_neg c]
      refine ⟨(fun e => by cases e), fun q2 L' e => ?_, fun x hx => ?_, fun x hx => ?_⟩
      · cases e
        exact ⟨h1, lp⟩
      · show (if x < q.1 then p.2 + (x - p.1) * slope p q else E q r x) = (if x < q.1 then p.2 + (x - p.1) * slope p q else E q (fil (nx q r) r) x)
        by_cases c2 : x < q.1
        · simp only [if_pos c2]
        · simp only [if_neg c2]
          rw [ih.c x (by grind)]
      · show (if x < q.1 then slope p q else S q r x) = (if x < q.1 then slope p q else S q (fil (nx q r) r) x)
        by_cases c2 : x < q.1
        · simp only [if_pos c2]
        · simp only [if_neg c2]
          rw [ih.d x (by grind)]
theorem Line.nx {p : Pt} {r : List Pt} (h : Line p (nx p r) r (fil (nx p r) r)) : M08.nx p (fil (M08.nx p r) r) = M08.nx p r := by
  cases e : fil (M08.nx p r) r with
  | nil => exact (h.a e).symm
  | cons q L =>
    obtain ⟨b1, b2⟩ := h.b q L e
    exact slope_of b1 b2
/-- nothing is left: a straight line -/
theorem flat {p : Pt} {r : List Pt} (h : Up (p :: r)) (e : fil 1 (p :: r) = []) (x : Rat) : f (p :: r) x = p.2 + (x - p.1) ∧ sl (p :: r) x = 1 := by
  have l := line r p h
  have ef : fil 1 (p :: r) = if 1 = nx p r then fil (nx p r) r else p :: fil (nx p r) r := rfl
  rw [ef] at e
  by_cases c : 1 = nx p r
  · rw [if_pos c] at e
    show (if x < p.1 then p.2 + (x - p.1) else E p r x) = _ ∧ (if x < p.1 then 1 else S p r x) = 1
    by_cases c2 : x < p.1
    · simp only [if_pos c2]
      first | exact ⟨rfl, rfl⟩ | exact ⟨rfl, True.intro⟩ | exact True.intro | exact ⟨True.intro, True.intro⟩
    · simp only [if_neg c2]
      rw [l.c x (by grind), l.d x (by grind), e]
      first | exact ⟨rfl, rfl⟩ | exact ⟨rfl, True.intro⟩ | exact True.intro | exact ⟨True.intro, True.intro⟩
  · rw [if_neg c] at e
    cases e
theorem f_std (ps : List Pt) (h : Up ps) (x : Rat) : f (std ps) x = f ps x ∧ sl (std ps) x = sl ps x := by
  unfold std
  cases ps with
  | nil =>
    show (if x < 0 then (0 : Rat) + (x - 0) else 0 + (x - 0)) = x ∧ (if x < 0 then (1 : Rat) else 1) = 1
    by_cases c : x < 0 <;> simp [c] <;> grind
  | cons p r =>
    by_cases e : fil 1 (p :: r) = []
    · rw [if_pos e]
      have h0 := (flat h e 0).1
      have hx := flat h e x
      rw [hx.1, hx.2, h0]
      show (if x < 0 then (p.2 + (0 - p.1)) + (x - 0) else (p.2 + (0 - p.1)) + (x - 0)) = _ ∧ (if x < 0 then (1 : Rat) else 1) = 1
      by_cases c : x < 0 <;> simp [c] <;> grind
    · rw [if_neg e]
      have l := line r p h
      have ef : fil 1 (p :: r) = if 1 = nx p r then fil (nx p r) r else p :: fil (nx p r) r := rfl
      by_cases c : 1 = nx p r
      · rw [ef, if_pos c] at e ⊢
        generalize hL : fil (nx p r) r = L at l e ⊢
        cases L with
        | nil => exact absurd rfl e
        | cons q L' =>
          obtain ⟨b1, b2⟩ := l.b q L' rfl
          have s1 := slope_of b1 b2
          show (if x < q.1 then q.2 + (x - q.1) else E q L' x) = (if x < p.1 then p.2 + (x - p.1) else E p r x) ∧ (if x < q.1 then 1 else S q L' x) = (if x < p.1 then 1 else S p r x)
          by_cases c2 : x < p.1
          · rw [if_pos c2, if_pos c2, if_pos (show x < q.1 by grind), if_pos (show x < q.1 by grind)]
            refine ⟨?_, by first | rfl | exact True.intro⟩
            rw [b2, ← c]
            grind
          · simp only [if_neg c2]
            rw [l.c x (by grind), l.d x (by grind)]
            show _ = (if x < q.1 then p.2 + (x - p.1) * slope p q else E q L' x) ∧ _ = (if x < q.1 then slope p q else S q L' x)
            rw [s1, ← c]
            by_cases c3 : x < q.1
            · simp only [if_pos c3]
              refine ⟨?_, by first | rfl | exact True.intro⟩
              rw [b2, ← c]
              grind
            · simp only [if_neg c3]
              first | exact ⟨rfl, rfl⟩ | exact ⟨rfl, True.intro⟩ | exact True.intro | exact ⟨True.intro, True.intro⟩
      · rw [ef, if_neg c]
        show (if x < p.1 then p.2 + (x - p.1) else E p (fil (nx p r) r) x) = (if x < p.1 then p.2 + (x - p.1) else E p r x) ∧ (if x < p.1 then 1 else S p (fil (nx p r) r) x) = (if x < p.1 then 1 else S p r x)
        by_cases c2 : x < p.1
        · simp only [if_pos c2]
          first | exact ⟨rfl, rfl⟩ | exact ⟨rfl, True.intro⟩ | exact True.intro | exact ⟨True.intro, True.intro⟩
        · simp only [if_neg c2]
          rw [l.c x (by grind), l.d x (by grind)]
          first | exact ⟨rfl, rfl⟩ | exact ⟨rfl, True.intro⟩ | exact True.intro | exact ⟨True.intro, True.intro⟩
theorem fil_fil : ∀ (ps : List Pt) (l : Rat), Up ps → fil l (fil l ps) = fil l ps
  | [], _, _ => rfl
  | p :: r, l, h => by
    have li := line r p h
    have ih := fil_fil r (nx p r) h.tail
    have ef : fil l (p :: r) = if l = nx p r then fil (nx p r) r else p :: fil (nx p r) r := rfl
    rw [ef]
    by_cases c : l = nx p r
    · rw [if_pos c, c]
      exact ih
    · rw [if_neg c]
      show (if l = nx p (fil (nx p r) r) then fil (nx p (fil (nx p r) r)) (fil (nx p r) r) else p :: fil (nx p (fil (nx p r) r)) (fil (nx p r) r)) = _
      rw [li.nx, if_neg c, ih]
theorem std_std (ps : List Pt) (h : Up ps) : std (std ps) = std ps := by
  by_cases e : fil 1 ps = []
  · have e1 : std ps = [(0, f ps 0)] := if_pos e
    rw [e1]
    have e2 : fil 1 [((0 : Rat), f ps 0)] = [] := by
      show (if (1 : Rat) = 1 then fil 1 [] else _) = []
      rw [if_pos rfl]
      rfl
    unfold std
    rw [if_pos e2]
    show [((0 : Rat), (if (0 : Rat) < 0 then f ps 0 + (0 - 0) else f ps 0 + (0 - 0)))] = _
    congr 2
    split <;> grind
  · have e1 : std ps = fil 1 ps := if_neg e
    rw [e1]
    unfold std
    rw [fil_fil ps 1 h, if_neg e]
end M08
set_option linter.all false
namespace M08
/-! ### what rises -/
theorem Up.cons {p q : Pt} {r : List Pt} (h : Up (q :: r)) (h1 : p.1 < q.1) (h2 : p.2 < q.2) : Up (p :: q :: r) := ⟨h1, h2, h⟩
theorem up_pw : ∀ (ps : List Pt), Up ps → List.Pairwise (fun p q : Pt => p.1 < q.1 ∧ p.2 < q.2) ps
  | [], _ => .nil
  | [p], _ => .cons (fun q h => by cases h) .nil
  | p :: q :: r, h => by
    obtain ⟨h1, h2, h3⟩ := h
    have ih := up_pw (q :: r) h3
    refine .cons (fun z hz => ?_) ih
    rcases List.mem_cons.mp hz with e | m
    · rw [e]; exact ⟨h1, h2⟩
    · cases ih with
      | cons a _ =>
        obtain ⟨b1, b2⟩ := a z m
        exact ⟨by grind, by grind⟩
theorem pw_up : ∀ (ps : List Pt), List.Pairwise (fun p q : Pt => p.1 < q.1 ∧ p.2 < q.2) ps → Up ps
  | [], _ => True.intro
  | [p], _ => True.intro
  | p :: q :: r, h => by
    cases h with
    | cons a b => exact ⟨(a q List.mem_cons_self).1, (a q List.mem_cons_self).2, pw_up (q :: r) b⟩
theorem fil_sub : ∀ (ps : List Pt) (l : Rat), (fil l ps).Sublist ps
  | [], _ => .slnil
  | p :: r, l => by
    have ih := fil_sub r (nx p r)
    show (if l = nx p r then fil (nx p r) r else p :: fil (nx p r) r).Sublist (p :: r)
    split
    · exact ih.cons p
    · exact ih.cons₂ p
theorem up_std {ps : List Pt} (h : Up ps) : Up (std ps) := by
  unfold std
  split
  · exact True.intro
  · exact pw_up _ ((up_pw _ h).sublist (fil_sub ps 1))
theorem std_len (ps : List Pt) : (std ps).length ≤ ps.length + 1 ∧ std ps ≠ [] := by
  unfold std
  split
  · exact ⟨by simp, by simp⟩
  · rename_i h
    have := (fil_sub ps 1).length_le
    exact ⟨by omega, h⟩
/-! ### finer points -/
def mid (p q : Pt) : Pt := ((p.1 + q.1) / 2, (p.2 + q.2) / 2)
def fn (e : Bool) : List Pt → List Pt
  | [] => []
  | [p] => if e then [p, (p.1 + 3, p.2 + 3)] else [p]
  | p :: q :: r => p :: mid p q :: fn e (q :: r)
theorem fn_head (e : Bool) (q : Pt) (r : List Pt) : ∃ T, fn e (q :: r) = q :: T := by
  cases r with
  | nil =>
    cases e
    · exact ⟨[], rfl⟩
    · exact ⟨[(q.1 + 3, q.2 + 3)], rfl⟩
  | cons z r => exact ⟨mid q z :: fn e (z :: r), rfl⟩
theorem half (a b : Rat) (h : a < b) : a < (a + b) / 2 ∧ (a + b) / 2 < b := by
  constructor <;> grind
theorem up_fn : ∀ (e : Bool) (ps : List Pt), Up ps → Up (fn e ps)
  | _, [], _ => True.intro
  | e, [p], _ => by
    cases e
    · exact True.intro
    · exact ⟨by grind, by grind, True.intro⟩
  | e, p :: q :: r, h => by
    obtain ⟨h1, h2, h3⟩ := h
    have ih := up_fn e (q :: r) h3
    obtain ⟨T, eT⟩ := fn_head e q r
    show Up (p :: mid p q :: fn e (q :: r))
    rw [eT] at ih ⊢
    obtain ⟨a1, a2⟩ := half _ _ h1
    obtain ⟨b1, b2⟩ := half _ _ h2
    exact ⟨a1, b1, a2, b2, ih⟩
theorem mid_slope {p q : Pt} (h : p.1 < q.1) : slope p (mid p q) = slope p q ∧ slope (mid p q) q = slope p q := by
  have l := slope_line h
  obtain ⟨a1, a2⟩ := half _ _ h
  refine ⟨slope_of a1 ?_, slope_of a2 ?_⟩
  · show (p.2 + q.2) / 2 = p.2 + ((p.1 + q.1) / 2 - p.1) * slope p q
    rw [l]
    grind
  · show q.2 = (p.2 + q.2) / 2 + (q.1 - (p.1 + q.1) / 2) * slope p q
    rw [l]
    grind
theorem fil_fn : ∀ (e : Bool) (ps : List Pt) (l : Rat), Up ps → fil l (fn e ps) = fil l ps
  | _, [], _, _ => rfl
  | e, [p], l, _ => by
    cases e
    · rfl
    · have s : slope p (p.1 + 3, p.2 + 3) = 1 := slope_of (by grind) (by grind)
      show (if l = slope p (p.1 + 3, p.2 + 3) then fil (slope p (p.1 + 3, p.2 + 3)) [(p.1 + 3, p.2 + 3)] else p :: fil (slope p (p.1 + 3, p.2 + 3)) [(p.1 + 3, p.2 + 3)]) = (if l = 1 then fil 1 [] else p :: fil 1 [])
      rw [s]
      have : fil 1 [(p.1 + 3, p.2 + 3)] = [] := by
        show (if (1 : Rat) = 1 then fil 1 [] else _) = []
        rw [if_pos rfl]
        rfl
      rw [this]
      rfl
  | e, p :: q :: r, l, h => by
    obtain ⟨h1, h2, h3⟩ := h
    have ih := fil_fn e (q :: r) (slope p q) h3
    obtain ⟨T, eT⟩ := fn_head e q r
    obtain ⟨m1, m2⟩ := mid_slope h1
    show (if l = slope p (mid p q) then fil (slope p (mid p q)) (mid p q :: fn e (q :: r)) else p :: fil (slope p (mid p q)) (mid p q :: fn e (q :: r))) = (if l = slope p q then fil (slope p q) (q :: r) else p :: fil (slope p q) (q :: r))
    rw [m1]
    have e2 : fil (slope p q) (mid p q :: fn e (q :: r)) = fil (slope p q) (q :: r) := by
      rw [eT] at ih ⊢
      show (if slope p q = slope (mid p q) q then fil (slope (mid p q) q) (q :: T) else mid p q :: fil (slope (mid p q) q) (q :: T)) = _
      rw [m2, if_pos rfl]
      exact ih
    rw [e2]
theorem std_fn (e : Bool) {ps : List Pt} (h : Up ps) : std (fn e ps) = std ps := by
  have ef := fil_fn e ps 1 h
  unfold std
  rw [ef]
  by_cases c : fil 1 ps = []
  · rw [if_pos c, if_pos c]
    cases ps with
    | nil => rfl
    | cons p r =>
      obtain ⟨T, eT⟩ := fn_head e p r
      have h2 := up_fn e (p :: r) h
      rw [(flat h c 0).1]
      rw [eT] at h2 ef ⊢
      rw [(flat h2 (ef.trans c) 0).1]
  · rw [if_neg c, if_neg c]
/-! ### a further bend behind the last point -/
theorem fil_last : ∀ (r : List Pt) (l : Rat) (z e : Pt), slope z e ≠ 1 → ∃ K, fil l (r ++ [z, e]) = K ++ [e]
  | [], l, z, e, h => by
    have e1 : fil (slope z e) [e] = [e] := by
      show (if slope z e = 1 then fil 1 [] else e :: fil 1 []) = _
      rw [if_neg h]
      rfl
    show ∃ K, (if l = slope z e then fil (slope z e) [e] else z :: fil (slope z e) [e]) = K ++ [e]
    rw [e1]
    split
    · exact ⟨[], rfl⟩
    · exact ⟨[z], rfl⟩
  | p :: r, l, z, e, h => by
    obtain ⟨K, eK⟩ := fil_last r (nx p (r ++ [z, e])) z e h
    show ∃ K, (if l = nx p (r ++ [z, e]) then fil (nx p (r ++ [z, e])) (r ++ [z, e]) else p :: fil (nx p (r ++ [z, e])) (r ++ [z, e])) = K ++ [e]
    rw [eK]
    split
    · exact ⟨K, rfl⟩
    · exact ⟨p :: K, rfl⟩
theorem bent_ne (r : List Pt) (z : Pt) : std (r ++ [z, (z.1 + 1, z.2 + 3 / 2)]) ≠ r ++ [z] := by
  have s : slope z (z.1 + 1, z.2 + 3 / 2) = 3 / 2 := slope_of (by grind) (by grind)
  obtain ⟨K, eK⟩ := fil_last r 1 z (z.1 + 1, z.2 + 3 / 2) (by rw [s]; grind)
  unfold std
  rw [eK, if_neg (by simp)]
  intro e
  have h := List.append_inj_right' e rfl
  have h2 : (z.1 + 1, z.2 + 3 / 2) = z := (List.cons.inj h).1
  have h3 : z.1 + 1 = z.1 := congrArg Prod.fst h2
  grind
theorem up_bent : ∀ (r : List Pt) (z : Pt), Up (r ++ [z]) → Up (r ++ [z, (z.1 + 1, z.2 + 3 / 2)])
  | [], z, _ => ⟨by grind, by grind, True.intro⟩
  | [p], z, h => ⟨h.1, h.2.1, by grind, by grind, True.intro⟩
  | p :: q :: r, z, h => ⟨h.1, h.2.1, up_bent (q :: r) z h.2.2⟩
/-! ### by index -/
def pc (ps : List Pt) (n : Nat) : Rat := if n = 0 then 1 else nx (ps.getD (n - 1) (0, 0)) (ps.drop n)
theorem E_at : ∀ (r : List Pt) (p : Pt) (x : Rat) (n : Nat) (q : Pt), (p :: r)[n]? = some q → (∀ (j : Nat) z, j < n → r[j]? = some z → z.1 ≤ x) → (∀ (j : Nat) z, n ≤ j → r[j]? = some z → x < z.1) → E p r x = q.2 + (x - q.1) * nx q (r.drop n) ∧ S p r x = nx q (r.drop n)
  | [], p, x, n, q, h, _, _ => by
    cases n with
    | zero =>
      cases h
      show p.2 + (x - p.1) = p.2 + (x - p.1) * 1 ∧ (1 : Rat) = 1
      exact ⟨by grind, rfl⟩
    | succ n => simp at h
  | q0 :: r, p, x, n, q, h, h1, h2 => by
    cases n with
    | zero =>
      have eq : p = q := Option.some.inj h
      rw [← eq]
      have c := h2 0 q0 (Nat.le_refl _) rfl
      show (if x < q0.1 then p.2 + (x - p.1) * slope p q0 else E q0 r x) = p.2 + (x - p.1) * slope p q0 ∧ (if x < q0.1 then slope p q0 else S q0 r x) = slope p q0
      rw [if_pos c, if_pos c]
      exact ⟨rfl, rfl⟩
    | succ n =>
      have c := h1 0 q0 (Nat.zero_lt_succ _) rfl
      have ih := E_at r q0 x n q h (fun j z hj e => h1 (j + 1) z (by omega) e) (fun j z hj e => h2 (j + 1) z (by omega) e)
      show (if x < q0.1 then p.2 + (x - p.1) * slope p q0 else E q0 r x) = _ ∧ (if x < q0.1 then slope p q0 else S q0 r x) = _
      rw [if_neg (by grind), if_neg (by grind)]
      exact ih
theorem f_at {ps : List Pt} {x : Rat} {n : Nat} {q : Pt} (h : ps[n - 1]? = some q) (hn : n ≤ ps.length) (h1 : ∀ (j : Nat) z, j < n → ps[j]? = some z → z.1 ≤ x) (h2 : ∀ (j : Nat) z, n ≤ j → ps[j]? = some z → x < z.1) : f ps x = q.2 + (x - q.1) * pc ps n ∧ sl ps x = pc ps n := by
  cases ps with
  | nil => simp at h
  | cons p r =>
    cases n with
    | zero =>
      have eq : p = q := Option.some.inj h
      rw [← eq]
      have c := h2 0 p (Nat.le_refl _) rfl
      show (if x < p.1 then p.2 + (x - p.1) else E p r x) = p.2 + (x - p.1) * 1 ∧ (if x < p.1 then 1 else S p r x) = 1
      rw [if_pos c, if_pos c]
      exact ⟨by grind, rfl⟩
    | succ n =>
      have c := h1 0 p (Nat.zero_lt_succ _) rfl
      have hq : (p :: r)[n]? = some q := h
      have := E_at r p x n q hq (fun j z hj e => h1 (j + 1) z (by omega) e) (fun j z hj e => h2 (j + 1) z (by omega) e)
      show (if x < p.1 then p.2 + (x - p.1) else E p r x) = _ ∧ (if x < p.1 then 1 else S p r x) = _
      rw [if_neg (by grind), if_neg (by grind)]
      have e : pc (p :: r) (n + 1) = nx q (r.drop n) := by
        show nx ((p :: r).getD n (0, 0)) (r.drop n) = _
        rw [List.getD_eq_getElem?_getD, hq]
        rfl
      rw [e]
      exact this
theorem pc_zero (ps : List Pt) : pc ps 0 = 1 := rfl
theorem pc_end {ps : List Pt} : pc ps ps.length = 1 := by
  unfold pc
  split
  · rfl
  · rw [List.drop_length]
    rfl
theorem pc_at {ps : List Pt} {n : Nat} {p q : Pt} (hp : ps[n]? = some p) (hq : ps[n + 1]? = some q) : pc ps (n + 1) = slope p q := by
  unfold pc
  rw [if_neg (by omega), Nat.add_sub_cancel, List.getD_eq_getElem?_getD, hp]
  have hl := (List.getElem?_eq_some_iff.mp hq).1
  have e := (List.getElem?_eq_some_iff.mp hq).2
  rw [List.drop_eq_getElem_cons hl, e]
  rfl
theorem fil_step {ps : List Pt} {i : Nat} {p : Pt} (h : ps[i]? = some p) : fil (pc ps i) (ps.drop i) = if pc ps i = pc ps (i + 1) then fil (pc ps (i + 1)) (ps.drop (i + 1)) else p :: fil (pc ps (i + 1)) (ps.drop (i + 1)) := by
  have hl := (List.getElem?_eq_some_iff.mp h).1
  have e := (List.getElem?_eq_some_iff.mp h).2
  have e2 : pc ps (i + 1) = nx p (ps.drop (i + 1)) := by
    unfold pc
    rw [if_neg (by omega), Nat.add_sub_cancel, List.getD_eq_getElem?_getD, h]
    rfl
  rw [e2, List.drop_eq_getElem_cons hl, e]
  rfl
end M08
set_option Elab.async false
set_option linter.all false
set_option maxRecDepth 100000
set_option maxHeartbeats 1000000
set_option exponentiation.threshold 100000
namespace K13
open PySem PySem.Spec PyProof.Rows L2 Fa Fb
/-! ### the value of a fraction -/
def vq (t u : Int) : Rat := (t : Rat) / (u : Rat)
theorem cast_ne {u : Int} (h : u ≠ 0) : (u : Rat) ≠ 0 := fun z => h (Rat.intCast_inj.mp (z.trans Rat.intCast_zero.symm))
theorem cast_pos {u : Int} (h : 0 < u) : 0 < (u : Rat) := by
  have := Rat.intCast_lt_intCast.mpr h
  rwa [Rat.intCast_zero] at this
theorem vq_eq {t u t2 u2 : Int} (h : u ≠ 0) (h2 : u2 ≠ 0) : vq t u = vq t2 u2 ↔ t * u2 = t2 * u := by
  have hu := cast_ne h
  have hu2 := cast_ne h2
  unfold vq
  constructor
  · intro e
    have h3 : (t : Rat) * u2 = t2 * u := by grind
    exact Rat.intCast_inj.mp (by rw [Rat.intCast_mul, Rat.intCast_mul]; exact h3)
  · intro e
    have h3 : (t : Rat) * u2 = t2 * u := by
      rw [← Rat.intCast_mul, ← Rat.intCast_mul, e]
    grind
theorem vq_inj {t u t2 u2 : Int} (r : Am.Red t u) (r2 : Am.Red t2 u2) (e : vq t u = vq t2 u2) : t = t2 ∧ u = u2 := Am.uniq r r2 ((vq_eq (Int.ne_of_gt r.1) (Int.ne_of_gt r2.1)).mp e)
theorem vq_add {t u t2 u2 a b : Int} (h : u ≠ 0) (h2 : u2 ≠ 0) (hb : b ≠ 0) (e : a * (u * u2) = (t * u2 + t2 * u) * b) : vq a b = vq t u + vq t2 u2 := by
  rw [(vq_eq hb (Int.mul_ne_zero h h2)).mpr e]
  have hu := cast_ne h
  have hu2 := cast_ne h2
  unfold vq
  rw [Rat.intCast_add, Rat.intCast_mul, Rat.intCast_mul, Rat.intCast_mul]
  grind
theorem vq_sub {t u t2 u2 a b : Int} (h : u ≠ 0) (h2 : u2 ≠ 0) (hb : b ≠ 0) (e : a * (u * u2) = (t * u2 - t2 * u) * b) : vq a b = vq t u - vq t2 u2 := by
  rw [(vq_eq hb (Int.mul_ne_zero h h2)).mpr e]
  have hu := cast_ne h
  have hu2 := cast_ne h2
  unfold vq
  rw [Rat.intCast_sub, Rat.intCast_mul, Rat.intCast_mul, Rat.intCast_mul]
  grind
theorem vq_mul {t u t2 u2 a b : Int} (h : u ≠ 0) (h2 : u2 ≠ 0) (hb : b ≠ 0) (e : a * (u * u2) = (t * t2) * b) : vq a b = vq t u * vq t2 u2 := by
  rw [(vq_eq hb (Int.mul_ne_zero h h2)).mpr e]
  have hu := cast_ne h
  have hu2 := cast_ne h2
  unfold vq
  rw [Rat.intCast_mul, Rat.intCast_mul]
  grind
theorem vq_div {t u t2 u2 a b : Int} (h : u ≠ 0) (h2 : u2 ≠ 0) (ht : t2 ≠ 0) (hb : b ≠ 0) (e : a * (u * t2) = (t * u2) * b) : vq a b = vq t u / vq t2 u2 := by
  rw [(vq_eq hb (Int.mul_ne_zero h ht)).mpr e]
  have hu := cast_ne h
  have hu2 := cast_ne h2
  have ht2 := cast_ne ht
  unfold vq
  rw [Rat.intCast_mul, Rat.intCast_mul]
  grind
theorem vq_lt {t u t2 u2 : Int} (h : 0 < u) (h2 : 0 < u2) : t * u2 < t2 * u ↔ vq t u < vq t2 u2 := by
  have hu := cast_pos h
  have hu2 := cast_pos h2
  have hp := Rat.mul_pos hu hu2
  have nu : (u : Rat) ≠ 0 := by grind
  have nu2 : (u2 : Rat) ≠ 0 := by grind
  have e1 : vq t u * ((u : Rat) * u2) = ((t * u2 : Int) : Rat) := by
    rw [Rat.intCast_mul]
    unfold vq
    grind
  have e2 : vq t2 u2 * ((u : Rat) * u2) = ((t2 * u : Int) : Rat) := by
    rw [Rat.intCast_mul]
    unfold vq
    grind
  rw [← Rat.intCast_lt_intCast, ← e1, ← e2]
  exact Rat.mul_lt_mul_right hp
theorem vq_int (a : Int) : vq a 1 = (a : Rat) := by
  unfold vq
  have : ((1 : Int) : Rat) = 1 := rfl
  rw [this]
  grind
theorem vq_zero : vq 0 1 = 0 := by rw [vq_int]; rfl
theorem vq_one : vq 1 1 = 1 := by rw [vq_int]; rfl
/-- an amount of the value q -/
def QA (K : PySem.W.Frag) (H : Hp) (x : V) (q : Rat) (n : Nat) : Prop := ∃ t u, IsA K H x t u n ∧ vq t u = q
theorem QA.same {K : PySem.W.Frag} {H H' : Hp} {x : V} {q : Rat} {n : Nat} (h : QA K H x q n) (s : Same H H') : QA K H' x q n := let ⟨t, u, a, e⟩ := h; ⟨t, u, a.same s, e⟩
theorem QA.mono {K : PySem.W.Frag} {H : Hp} {x : V} {q : Rat} {n m : Nat} (h : QA K H x q n) (e : n ≤ m) : QA K H x q m := let ⟨t, u, a, e'⟩ := h; ⟨t, u, a.mono e, e'⟩
end K13
set_option linter.all false
namespace M04
open PySem
abbrev Row := List (Str × Rat)
structure Cue where
  nm : Str
  pa : Str
  un : Str
  q : Rat
def part (row : Row) (u : Str) : Row × Rat := match row.getLast? with
  | some (v, r) => if v = u then (row.dropLast, r) else (row, 0)
  | none => (row, 0)
def ext (row : Row) (u : Str) (q : Rat) : Row := if (part row u).2 + q = 0 then (part row u).1 else (part row u).1 ++ [(u, (part row u).2 + q)]
structure St where
  rows : List Row
  nums : List (Str × Nat)
def num (nums : List (Str × Nat)) (x : Str) : Option Nat := (nums.find? fun z => decide (z.1 = x)).map (·.2)
def idx (rows : List Row) (row : Row) : Nat := rows.findIdx fun z => decide (z = row)
def row (s : St) (c : Cue) : Row := ext (s.rows.getD ((num s.nums c.pa).getD 0) []) c.un c.q
def rows (s : St) (c : Cue) : List Row := if row s c ∈ s.rows then s.rows else s.rows ++ [row s c]
def step (s : St) (c : Cue) : St := ⟨rows s c, s.nums ++ [(c.nm, idx (rows s c) (row s c))]⟩
def init : St := ⟨[[]], [("start", 0)]⟩
def all (cs : List Cue) : St := cs.foldl step init
theorem all_app (cs : List Cue) (c : Cue) : all (cs ++ [c]) = step (all cs) c := by
  unfold all
  rw [List.foldl_append]
  rfl
/-- the numbers are those of rows -/
def NumOk (s : St) : Prop := ∀ x i, num s.nums x = some i → i < s.rows.length
theorem num_app (l : List (Str × Nat)) (a : Str) (i : Nat) (x : Str) : num (l ++ [(a, i)]) x = match num l x with
    | some j => some j
    | none => if a = x then some i else none := by
  unfold num
  rw [List.find?_append]
  cases h : l.find? fun z => decide (z.1 = x) with
  | some z => simp
  | none =>
    by_cases c : a = x
    · simp [c]
    · simp [c]
theorem row_mem (s : St) (c : Cue) : row s c ∈ rows s c := by
  unfold rows
  split
  · assumption
  · simp
theorem idx_lt {l : List Row} {r : Row} (h : r ∈ l) : idx l r < l.length := by
  unfold idx
  exact List.findIdx_lt_length_of_exists ⟨r, h, by simp⟩
theorem idx_at {l : List Row} {r : Row} (h : r ∈ l) : l[idx l r]? = some r := by
  have lt := idx_lt h
  rw [List.getElem?_eq_getElem lt]
  have : decide (l[idx l r] = r) = true := List.findIdx_getElem (xs := l) (p := fun z => decide (z = r)) (w := lt)
  rw [of_decide_eq_true this]
theorem idx_no {l : List Row} {r : Row} {m : Nat} (h : m < idx l r) (z : Row) (e : l[m]? = some z) : z ≠ r := by
  have := List.not_of_lt_findIdx (xs := l) (p := fun z => decide (z = r)) h
  have lm := (List.getElem?_eq_some_iff.mp e).1
  have e2 := (List.getElem?_eq_some_iff.mp e).2
  intro er
  rw [e2, er] at this
  simp at this
theorem step_ok (s : St) (c : Cue) (h : NumOk s) : NumOk (step s c) := by
  have le : s.rows.length ≤ (rows s c).length := by
    unfold rows
    split
    · exact Nat.le_refl _
    · rw [List.length_append]; omega
  intro x i e
  show i < (rows s c).length
  have e : num (s.nums ++ [(c.nm, idx (rows s c) (row s c))]) x = some i := e
  rw [num_app] at e
  cases hx : num s.nums x with
  | some j =>
    rw [hx] at e
    have := h x j hx
    simp at e
    omega
  | none =>
    rw [hx] at e
    dsimp only at e
    split at e
    · cases e
      exact idx_lt (row_mem s c)
    · cases e
theorem all_ok : ∀ (cs : List Cue) (s : St), NumOk s → NumOk (cs.foldl step s)
  | [], s, h => h
  | c :: r, s, h => all_ok r (step s c) (step_ok s c h)
theorem init_ok : NumOk init := by
  intro x i e
  unfold num init at e
  simp only [List.find?_cons, List.find?_nil] at e
  show i < 1
  split at e
  · cases e; decide
  · cases e
theorem len_step (s : St) (c : Cue) : (step s c).rows.length ≤ s.rows.length + 1 := by
  show (rows s c).length ≤ _
  unfold rows
  split
  · omega
  · rw [List.length_append]; exact Nat.le_refl _
theorem part_len (r : Row) (u : Str) : (part r u).1.length ≤ r.length := by
  unfold part
  split
  · split
    · rw [List.length_dropLast]; omega
    · exact Nat.le_refl _
  · exact Nat.le_refl _
theorem ext_len (r : Row) (u : Str) (q : Rat) : (ext r u q).length ≤ r.length + 1 := by
  have := part_len r u
  unfold ext
  split
  · omega
  · rw [List.length_append]; simp; omega
theorem nums_len (cs : List Cue) : (all cs).nums.length = cs.length + 1 := by
  suffices h : ∀ (cs : List Cue) (s : St), (cs.foldl step s).nums.length = s.nums.length + cs.length by
    rw [show all cs = cs.foldl step init from rfl, h, Nat.add_comm]
    rfl
  intro cs
  induction cs with
  | nil => intro s; rfl
  | cons c r ih =>
    intro s
    rw [List.foldl_cons, ih, List.length_cons]
    show (s.nums ++ [_]).length + _ = _
    rw [List.length_append, List.length_singleton]
    omega
theorem rows_len (cs : List Cue) : (all cs).rows.length ≤ cs.length + 1 := by
  suffices h : ∀ (cs : List Cue) (s : St), (cs.foldl step s).rows.length ≤ s.rows.length + cs.length by
    have := h cs init
    rw [show init.rows.length = 1 from rfl] at this
    rw [show all cs = cs.foldl step init from rfl]
    omega
  intro cs
  induction cs with
  | nil => intro s; exact Nat.le_refl _
  | cons c r ih =>
    intro s
    have := ih (step s c)
    have := len_step s c
    rw [List.foldl_cons, List.length_cons]
    omega
end M04
set_option Elab.async false
set_option linter.all false
set_option maxRecDepth 100000
set_option maxHeartbeats 4000000
/-! l != b of two lists whose items are equal by an own ==: False. -/
namespace Fe
open PySem PySem.SeqAt
open AutoSeq1 (wpAny_loadPart')
open MeetsSeq MeetsSeq2 MeetsSeq3 SeqRoads2 GQ
section
variable {prog : Program} {w : World} {A : Around} {R : Result → Shared → Prop}
theorem ne_goes (l b : Addr) (N : Nat) (I : Nat → Shared → Prop) (hl : ListI prog w A (fun e s' => R (.error e) s') l b N I) (fin : ∀ s, I N s → R (.ok (.ret (.bool false))) s) (m : Nat) :
    ∀ j : Nat, m + j = N → ∀ s, I j s → wpAny (model prog w) A.in1 (Builtin.«list.__eq__.loop» ⟨[.ref l, .ref b, rawInt j, rawInt 3], []⟩) (FinOf prog w A R) (fun e s' => R (.error e) s') s := by
  induction m with
  | zero =>
    intro j hj s h
    obtain ⟨xs, ys, n, n2, g1, g2, z1, z2, _⟩ := hl _ _ h
    have jN : j = N := by omega
    have done : R (.ok (.ret (.bool false))) s := fin s (jN ▸ h)
    obtain ⟨hp, gl, dr, tk, os⟩ := s
    wp_walk using wpAny_loadPart' g1, wpAny_loadPart' g2
    have e1 : xs[((j : Nat) : Int).toNat]? = none := by
      simp
      omega
    have e2 : ys[((j : Nat) : Int).toNat]? = none := by
      simp
      omega
    rw [e1, e2]
    wp_walk using wpAny_loadPart' g1, wpAny_loadPart' g2
    show R (.ok (.ret (.bool (xs.size != ys.size)))) _
    rw [z1, z2]
    simpa using done
  | succ m ih =>
    intro j hj s h
    obtain ⟨xs, ys, n, n2, g1, g2, z1, z2, turn⟩ := hl _ _ h
    have l1 : j < xs.size := by omega
    have l2 : j < ys.size := by omega
    have one := turn l1 l2
    obtain ⟨hp, gl, dr, tk, os⟩ := s
    wp_walk using wpAny_loadPart' g1, wpAny_loadPart' g2
    have e1 : xs[((j : Nat) : Int).toNat]? = some xs[j] := by simp [l1]
    have e2 : ys[((j : Nat) : Int).toNat]? = some ys[j] := by simp [l2]
    rw [e1, e2]
    refine wpAny_bind (wpAny_mono one (fun r s2 hr => ?_) fun _ _ z => z)
    obtain ⟨er, h2⟩ := hr
    subst er
    have rest := ih (j + 1) (by omega) s2 h2
    obtain ⟨hp2, gl2, dr2, tk2, os2⟩ := s2
    wp_walk
    rw [show ((j : Int) + 1) = ((j + 1 : Nat) : Int) by omega]
    refine ⟨plainId_quiet plain_eq_loop _, codeAny_builtin entry_eq_loop ?_⟩
    rw [Around.under_plainId plain_eq_loop _]
    exact rest
theorem list_ne (l b : Addr) (N : Nat) (I : Nat → Shared → Prop) (hl : ListI prog w A (fun e s' => R (.error e) s') l b N I) (fin : ∀ s, I N s → R (.ok (.ret (.bool false))) s) {s : Shared} (h : I 0 s) :
    wpAny (model prog w) A.in1 (Builtin.«list.__ne__» ⟨[.ref l, .ref b], []⟩) (FinOf prog w A R) (fun e s' => R (.error e) s') s := by
  obtain ⟨xs, ys, n, n2, g1, g2, z1, z2, _⟩ := hl _ _ h
  have rest := ne_goes (A := A) (R := R) l b N I hl fin N 0 (by omega) s h
  obtain ⟨hp, gl, dr, tk, os⟩ := s
  have sub := AutoSeq1.sub_list_list
  have same : ¬ (xs.size != ys.size) = true := by simp [z1, z2]
  wp_walk using wpAny_loadPart' g1, wpAny_loadPart' g2
  refine ⟨plainId_quiet plain_eq_loop _, codeAny_builtin entry_eq_loop ?_⟩
  rw [Around.under_plainId plain_eq_loop _]
  exact rest
theorem rc_ne {l b : Addr} {N : Nat} {E : Value → Shared → Prop} {s : Shared} {Q : Value → Shared → Prop} (hu : A.units < cLine) (I : Nat → Shared → Prop) (hl : ListI prog w A E l b N I) (fin : ∀ s, I N s → Q (.bool false) s) (h : I 0 s) :
    wpAny (model prog w) A (richCompare .NotEq (.ref l) (.ref b)) Q E s := by
  obtain ⟨xs, ys, n, n2, g1, g2, _, _, _⟩ := hl _ _ h
  refine wpAny_richCompare_same_room (op := .NotEq) ⟨_, g1, rfl⟩ ⟨_, g2, rfl⟩ F.slot_list_ne (call_here F.slot_list_ne ⟨_, g1, rfl⟩ F.entry_list_ne (F.args_list_ne_2 _ _) ?_) hu
  exact list_ne (R := wants (fun v s' => v ≠ .notImplemented ∧ Q v s') E) l b N I hl (fun s' q => ⟨(fun x => nomatch x), fin s' q⟩) h
end
end Fe
namespace Fe
open PySem PySem.Spec PyProof.Rows L2
theorem op_neG {X : Cx} {n : Nat} {D : Eqv} (hD : Mon D) (h : EqG X n D) (hr : Room (n + 1) X.A) : OpR X (compareOp .NotEq) (fun x y H Q => DList D x y H ∧ ∀ H', Ext H H' → Q (.bl false) H') := by
  intro pn s σ H x y v u Q I rx ry hq
  obtain ⟨⟨a, b, xs, ys, rfl, rfl, ha, hb, p⟩, q⟩ := hq
  cases rx
  cases ry
  show wpAny (model X.prog X.w) X.A (richCompare .NotEq (.ref a) (.ref b)) (EP X pn σ Q) X.xe s
  have sb : Sub X (n + 1) X.A := ⟨hr, rfl⟩
  refine rc_ne (N := xs.length) sb.room.units0 (fun _ s' => LoopI X pn σ H s') (fun i s' l => ?_) (fun s' l => ?_) ⟨H, I, Ext.rfl'⟩
  · obtain ⟨H1, I1, e1⟩ := id l
    obtain ⟨z, its, k, r, e⟩ := I1.hok a _ (e1 _ _ ha)
    obtain ⟨z2, its2, k2, r2, e2⟩ := I1.hok b _ (e1 _ _ hb)
    exact ⟨its.toArray, its2.toArray, k, k2, e, e2, by rw [List.size_toArray, ← r.length], by rw [List.size_toArray, ← r2.length, ← p.1], fun h1 h2 => turnG hD h sb p r r2 i h1 h2 s' l⟩
  · obtain ⟨H1, I1, e1⟩ := l
    exact ⟨.bl false, H1, I1, rfl, q H1 e1⟩
/-- one of two readings -/
theorem op_or {X : Cx} {f : Value → Value → Sem Value} {r1 r2 : R2} (h1 : OpR X f r1) (h2 : OpR X f r2) : OpR X f (fun x y H Q => r1 x y H Q ∨ r2 x y H Q) := by
  intro pn s σ H x y v u Q I rx ry h
  rcases h with h | h
  · exact h1 pn s σ H x y v u Q I rx ry h
  · exact h2 pn s σ H x y v u Q I rx ry h
end Fe
set_option Elab.async false
set_option linter.all false
set_option maxRecDepth 100000
set_option maxHeartbeats 4000000
/-! l == b of two lists or two tuples, with either answer. -/
namespace Fq
open PySem PySem.SeqAt
open AutoSeq1 (wpAny_loadPart')
open MeetsSeq MeetsSeq2 MeetsSeq3 SeqRoads2 GQ
section
variable {prog : Program} {w : World} {A : Around} {R : Result → Shared → Prop}
/-- as ListI; an item that is not equal ends it -/
def ListB (prog : Program) (w : World) (A : Around) (E : Value → Shared → Prop) (l b : Addr) (N M : Nat) (I : Nat → Shared → Prop) (J : Shared → Prop) : Prop :=
  ∀ i s, I i s → ∃ (xs ys : Array Value) (n n2 : Nat), s.heap.get? l = some { cls := .type "list", data := .seq xs n } ∧ s.heap.get? b = some { cls := .type "list", data := .seq ys n2 } ∧ xs.size = N ∧ ys.size = M ∧
    ∀ (h1 : i < xs.size) (h2 : i < ys.size), N = M → wpAny (model prog w) A.in1 (eqBool xs[i] ys[i]) (fun r s' => (r = true ∧ I (i + 1) s') ∨ (r = false ∧ J s')) E s
theorem goes (l b : Addr) (N : Nat) (I : Nat → Shared → Prop) (J : Shared → Prop) (hl : ListB prog w A (fun e s' => R (.error e) s') l b N N I J) (fin : ∀ s, I N s → R (.ok (.ret (.bool true))) s) (no : ∀ s, J s → (∃ (xs ys : Array Value) (n n2 : Nat), s.heap.get? l = some { cls := .type "list", data := .seq xs n } ∧ s.heap.get? b = some { cls := .type "list", data := .seq ys n2 } ∧ xs.size = N ∧ ys.size = N) ∧ R (.ok (.ret (.bool false))) s) (m : Nat) :
    ∀ j : Nat, m + j = N → ∀ s, I j s → wpAny (model prog w) A.in1 (Builtin.«list.__eq__.loop» ⟨[.ref l, .ref b, rawInt j, rawInt 2], []⟩) (FinOf prog w A R) (fun e s' => R (.error e) s') s := by
  induction m with
  | zero =>
    intro j hj s h
    obtain ⟨xs, ys, n, n2, g1, g2, z1, z2, _⟩ := hl _ _ h
    have jN : j = N := by omega
    have done : R (.ok (.ret (.bool true))) s := fin s (jN ▸ h)
    obtain ⟨hp, gl, dr, tk, os⟩ := s
    wp_walk using wpAny_loadPart' g1, wpAny_loadPart' g2
    have e1 : xs[((j : Nat) : Int).toNat]? = none := by
      simp
      omega
    have e2 : ys[((j : Nat) : Int).toNat]? = none := by
      simp
      omega
    rw [e1, e2]
    wp_walk using wpAny_loadPart' g1, wpAny_loadPart' g2
    show R (.ok (.ret (.bool (xs.size == ys.size)))) _
    rw [z1, z2]
    simpa using done
  | succ m ih =>
    intro j hj s h
    obtain ⟨xs, ys, n, n2, g1, g2, z1, z2, turn⟩ := hl _ _ h
    have l1 : j < xs.size := by omega
    have l2 : j < ys.size := by omega
    have one := turn l1 l2 rfl
    obtain ⟨hp, gl, dr, tk, os⟩ := s
    wp_walk using wpAny_loadPart' g1, wpAny_loadPart' g2
    have e1 : xs[((j : Nat) : Int).toNat]? = some xs[j] := by simp [l1]
    have e2 : ys[((j : Nat) : Int).toNat]? = some ys[j] := by simp [l2]
    rw [e1, e2]
    refine wpAny_bind (wpAny_mono one (fun r s2 hr => ?_) fun _ _ z => z)
    rcases hr with ⟨er, h2⟩ | ⟨er, h2⟩
    · subst er
      have rest := ih (j + 1) (by omega) s2 h2
      obtain ⟨hp2, gl2, dr2, tk2, os2⟩ := s2
      wp_walk
      rw [show ((j : Int) + 1) = ((j + 1 : Nat) : Int) by omega]
      refine ⟨plainId_quiet plain_eq_loop _, codeAny_builtin entry_eq_loop ?_⟩
      rw [Around.under_plainId plain_eq_loop _]
      exact rest
    · subst er
      obtain ⟨⟨xs2, ys2, m1, m2, k1, k2, y1, y2⟩, rest⟩ := no s2 h2
      obtain ⟨hp2, gl2, dr2, tk2, os2⟩ := s2
      wp_walk using wpAny_loadPart' k1, wpAny_loadPart' k2
      have f1 : xs2[((j : Nat) : Int).toNat]? = some (xs2[j]'(by omega)) := by simp
      have f2 : ys2[((j : Nat) : Int).toNat]? = some (ys2[j]'(by omega)) := by simp
      rw [f1, f2]
      wp_walk
      exact rest
theorem list_eqB (l b : Addr) (N M : Nat) (I : Nat → Shared → Prop) (J : Shared → Prop) (hl : ListB prog w A (fun e s' => R (.error e) s') l b N M I J) (fin : ∀ s, N = M → I N s → R (.ok (.ret (.bool true))) s) (no : ∀ s, J s → (∃ (xs ys : Array Value) (n n2 : Nat), s.heap.get? l = some { cls := .type "list", data := .seq xs n } ∧ s.heap.get? b = some { cls := .type "list", data := .seq ys n2 } ∧ xs.size = N ∧ ys.size = M) ∧ R (.ok (.ret (.bool false))) s) (ne : ∀ s, N ≠ M → I 0 s → R (.ok (.ret (.bool false))) s) {s : Shared} (h : I 0 s) :
    wpAny (model prog w) A.in1 (Builtin.«list.__eq__» ⟨[.ref l, .ref b], []⟩) (FinOf prog w A R) (fun e s' => R (.error e) s') s := by
  obtain ⟨xs, ys, n, n2, g1, g2, z1, z2, _⟩ := hl _ _ h
  by_cases c : N = M
  · subst c
    have rest := goes (A := A) (R := R) l b N I J hl (fun s q => fin s rfl q) no N 0 (by omega) s h
    obtain ⟨hp, gl, dr, tk, os⟩ := s
    have sub := AutoSeq1.sub_list_list
    have same : ¬ (xs.size != ys.size) = true := by simp [z1, z2]
    wp_walk using wpAny_loadPart' g1, wpAny_loadPart' g2
    refine ⟨plainId_quiet plain_eq_loop _, codeAny_builtin entry_eq_loop ?_⟩
    rw [Around.under_plainId plain_eq_loop _]
    exact rest
  · have rest := ne s c h
    obtain ⟨hp, gl, dr, tk, os⟩ := s
    have sub := AutoSeq1.sub_list_list
    have same : (xs.size != ys.size) = true := by simp [z1, z2, c]
    wp_walk using wpAny_loadPart' g1, wpAny_loadPart' g2
    exact rest
theorem rc_listB {l b : Addr} {N M : Nat} {E : Value → Shared → Prop} {s : Shared} {Q : Value → Shared → Prop} (hu : A.units < cLine) (I : Nat → Shared → Prop) (J : Shared → Prop) (hl : ListB prog w A E l b N M I J) (fin : ∀ s, N = M → I N s → Q (.bool true) s) (no : ∀ s, J s → (∃ (xs ys : Array Value) (n n2 : Nat), s.heap.get? l = some { cls := .type "list", data := .seq xs n } ∧ s.heap.get? b = some { cls := .type "list", data := .seq ys n2 } ∧ xs.size = N ∧ ys.size = M) ∧ Q (.bool false) s) (ne : ∀ s, N ≠ M → I 0 s → Q (.bool false) s) (h : I 0 s) :
    wpAny (model prog w) A (richCompare .Eq (.ref l) (.ref b)) Q E s := by
  obtain ⟨xs, ys, n, n2, g1, g2, _, _, _⟩ := hl _ _ h
  refine wpAny_richCompare_same_room (op := .Eq) ⟨_, g1, rfl⟩ ⟨_, g2, rfl⟩ F.slot_list_eq (call_here F.slot_list_eq ⟨_, g1, rfl⟩ F.entry_list_eq (F.args_list_eq_2 _ _) ?_) hu
  exact list_eqB (R := wants (fun v s' => v ≠ .notImplemented ∧ Q v s') E) l b N M I J hl (fun s' c q => ⟨(fun x => nomatch x), fin s' c q⟩) (fun s' q => ⟨(no s' q).1, (fun x => nomatch x), (no s' q).2⟩) (fun s' c q => ⟨(fun x => nomatch x), ne s' c q⟩) h
theorem tuple_eqB (l b : Addr) (xs ys : Array Value) (n n2 : Nat) (dd dd2 : Option Addr) (sl sl2 : Array (Option Value)) (hsz : xs.size = ys.size) (I : Nat → Shared → Prop) (J : Shared → Prop)
    (turn : ∀ i (h1 : i < xs.size) (h2 : i < ys.size) s, I i s → wpAny (model prog w) A.in1 (eqBool xs[i] ys[i]) (fun r s' => (r = true ∧ I (i + 1) s') ∨ (r = false ∧ J s')) (fun e s' => R (.error e) s') s)
    (fin : ∀ s, I xs.size s → R (.ok (.ret (.bool true))) s) (no : ∀ s, J s → R (.ok (.ret (.bool false))) s) {s : Shared} (g1 : s.heap.get? l = some { cls := .type "tuple", dict := dd, data := .seq xs n, slots := sl }) (g2 : s.heap.get? b = some { cls := .type "tuple", dict := dd2, data := .seq ys n2, slots := sl2 }) (h : I 0 s) :
    wpAny (model prog w) A.in1 (Builtin.«tuple.__eq__» ⟨[.ref l, .ref b], []⟩) (FinOf prog w A R) (fun e s' => R (.error e) s') s := by
  have sub := AutoSeq1.sub_tuple_tuple
  have hZ : (xs.toList.zip ys.toList).length = xs.size := by simp [hsz]
  have h0 := h
  obtain ⟨hp, g, d, tk, os⟩ := s
  wp_walk using wpAny_loadPart' g1, wpAny_loadPart' g2, wpAny_forIn_list _ (fun rest b s' => (b.1 = none ∧ ∃ i, rest = (xs.toList.zip ys.toList).drop i ∧ i ≤ xs.size ∧ I i s') ∨ (b.1 = some (.done (.ret (.bool false))) ∧ rest = [] ∧ J s')) _
  case turn =>
    rintro ⟨y, x⟩ rest b s' hyp
    rcases hyp with ⟨hb', i, hz, hi, hI⟩ | ⟨_, hz, _⟩
    · have hlt : i < (xs.toList.zip ys.toList).length := by
        rcases Nat.lt_or_ge i (xs.toList.zip ys.toList).length with h' | h'
        · exact h'
        · rw [List.drop_of_length_le h'] at hz; cases hz
      have h1 : i < xs.size := hZ ▸ hlt
      have h2 : i < ys.size := hsz ▸ h1
      rw [List.drop_eq_getElem_cons hlt] at hz
      injection hz with hyx hrest
      have hy : y = xs[i] := by have := congrArg Prod.fst hyx; simpa using this
      have hx : x = ys[i] := by have := congrArg Prod.snd hyx; simpa using this
      subst hy hx
      refine wpAny_bind (wpAny_mono (turn i h1 h2 s' hI) (fun r s2 q2 => ?_) fun _ _ x => x)
      rcases q2 with ⟨hr, q2⟩ | ⟨hr, q2⟩
      · subst hr
        wp_walk
        exact .inl ⟨rfl, i + 1, hrest, h1, q2⟩
      · subst hr
        wp_walk
        exact no s2 q2
    · cases hz
  case fin =>
    rintro ⟨b1, b2⟩ s' hyp
    rcases hyp with ⟨hb', i, hz, hi, hI⟩ | ⟨hb', _, hJ⟩
    · simp only at hb'
      subst hb'
      have hge : xs.size ≤ i := by
        rcases Nat.lt_or_ge i (xs.toList.zip ys.toList).length with h' | h'
        · rw [List.drop_eq_getElem_cons h'] at hz; cases hz
        · exact hZ ▸ h'
      have hi' : i = xs.size := by omega
      have hR : R (.ok (.ret (.bool true))) s' := fin s' (hi' ▸ hI)
      wp_walk
      simpa [Builtin.Tuple.tupleCompareSizes, hsz] using hR
    · simp only at hb'
      subst hb'
      have hR := no s' hJ
      wp_walk
      exact hR
  case h =>
    exact .inl ⟨rfl, 0, rfl, Nat.zero_le _, h0⟩
theorem rc_tupB {l b : Addr} {xs ys : Array Value} {E : Value → Shared → Prop} {s : Shared} {Q : Value → Shared → Prop} (hsz : xs.size = ys.size) (hu : A.units < cLine) (I : Nat → Shared → Prop) (J : Shared → Prop)
    (hl : s.heap.IsTuple l xs) (hb : s.heap.IsTuple b ys)
    (turn : ∀ i (h1 : i < xs.size) (h2 : i < ys.size) s, I i s → wpAny (model prog w) A.in1 (eqBool xs[i] ys[i]) (fun r s' => (r = true ∧ I (i + 1) s') ∨ (r = false ∧ J s')) E s)
    (fin : ∀ s, I xs.size s → Q (.bool true) s) (no : ∀ s, J s → Q (.bool false) s) (h : I 0 s) : wpAny (model prog w) A (richCompare .Eq (.ref l) (.ref b)) Q E s := by
  obtain ⟨⟨cls, dd, data, sl⟩, ho, hc, n, hd⟩ := id hl
  obtain ⟨⟨cls2, dd2, data2, sl2⟩, ho2, hc2, n2, hd2⟩ := id hb
  simp only at hc hd hc2 hd2
  subst hc hd hc2 hd2
  refine wpAny_richCompare_same_room (op := .Eq) ⟨_, ho, rfl⟩ ⟨_, ho2, rfl⟩ F.slot_tuple_eq (call_here F.slot_tuple_eq ⟨_, ho, rfl⟩ F.entry_tuple_eq (F.args_tuple_eq_2 _ _) ?_) hu
  exact tuple_eqB (R := wants (fun v s' => v ≠ .notImplemented ∧ Q v s') E) l b xs ys n n2 dd dd2 sl sl2 hsz I J turn (fun s' q => ⟨(fun x => nomatch x), fin s' q⟩) (fun s' q => ⟨(fun x => nomatch x), no s' q⟩) ho ho2 h
end
end Fq
namespace Fq
open PySem PySem.Spec PyProof.Rows L2
abbrev EqvB := V → V → Bool → Hp → Prop
def MonB (D : EqvB) : Prop := ∀ x y b H H', Ext H H' → D x y b H → D x y b H'
/-- == gives what D says, and only makes objects -/
def EqB (X : Cx) (n : Nat) (D : EqvB) : Prop :=
  ∀ (A : Around) (pins : List (Addr × Obj)) (s : Shared) (σ : L2.St) (H : Hp) (x y : V) (u v : Value) (b : Bool), Sub X n A → Inv X pins σ H s → RelV x u → RelV y v → D x y b H →
    wpAny (model X.prog X.w) A (eqBool u v) (fun r s' => r = b ∧ ∃ H', Inv X pins σ H' s' ∧ Ext H H') X.xe s
def RcB (X : Cx) (n : Nat) (D : EqvB) : Prop :=
  ∀ (A : Around) (pins : List (Addr × Obj)) (s : Shared) (σ : L2.St) (H : Hp) (x y : V) (u v : Value) (b : Bool), Sub X n A → Inv X pins σ H s → RelV x u → RelV y v → D x y b H →
    wpAny (model X.prog X.w) A (richCompare .Eq u v) (fun r s' => r = .bool b ∧ ∃ H', Inv X pins σ H' s' ∧ Ext H H') X.xe s
def AllB (D : EqvB) (xs ys : List V) (b : Bool) (H : Hp) : Prop := (xs.length ≠ ys.length ∧ b = false) ∨ (xs.length = ys.length ∧ ∃ bs : Nat → Bool, (∀ (i : Nat) x y, xs[i]? = some x → ys[i]? = some y → D x y (bs i) H) ∧ ((b = true ∧ ∀ i, i < xs.length → bs i = true) ∨ (b = false ∧ ∃ i, i < xs.length ∧ bs i = false)))
variable {X : Cx} {n : Nat} {D : EqvB}
theorem turnB (hD : MonB D) (h : EqB X n D) {A : Around} (sb : Sub X (n + 1) A) {pins : List (Addr × Obj)} {σ : L2.St} {H : Hp} {xs ys : List V} {its its2 : List Value} {bs : Nat → Bool} (p : ∀ (i : Nat) x y, xs[i]? = some x → ys[i]? = some y → D x y (bs i) H) (r : Vals xs its) (r2 : Vals ys its2)
    (i : Nat) (h1 : i < its.toArray.size) (h2 : i < its2.toArray.size) (s' : Shared) (l : LoopI X pins σ H s') :
    wpAny (model X.prog X.w) A.in1 (eqBool its.toArray[i] its2.toArray[i]) (fun r s2 => r = bs i ∧ LoopI X pins σ H s2) X.xe s' := by
  obtain ⟨H1, I1, e1⟩ := l
  have g1 : its[i]? = some its.toArray[i] := by
    have h1' : i < its.length := by simpa using h1
    rw [List.getElem?_eq_getElem h1'] <;> simp
  have g2 : its2[i]? = some its2.toArray[i] := by
    have h2' : i < its2.length := by simpa using h2
    rw [List.getElem?_eq_getElem h2'] <;> simp
  have k1 : i < xs.length := by rw [r.length]; simpa using h1
  have k2 : i < ys.length := by rw [r2.length]; simpa using h2
  obtain ⟨u, hu, ru⟩ := r.get (List.getElem?_eq_getElem k1)
  obtain ⟨v, hv, rv⟩ := r2.get (List.getElem?_eq_getElem k2)
  rw [g1] at hu
  rw [g2] at hv
  rw [Option.some.inj hu, Option.some.inj hv]
  refine wpAny_mono (h A.in1 pins s' σ H1 _ _ u v (bs i) sb.in1 I1 ru rv (hD _ _ _ _ _ e1 (p i _ _ (List.getElem?_eq_getElem k1) (List.getElem?_eq_getElem k2)))) (fun r s2 q => ?_) fun _ _ x => x
  obtain ⟨hr, H2, I2, e2⟩ := q
  exact ⟨hr, H2, I2, e1.trans e2⟩
def DListB (D : EqvB) : EqvB := fun x y b H => ∃ a c xs ys, x = .ref a ∧ y = .ref c ∧ H a = some (.lst xs) ∧ H c = some (.lst ys) ∧ AllB D xs ys b H
def DTupB (D : EqvB) : EqvB := fun x y b H => ∃ a c xs ys, x = .ref a ∧ y = .ref c ∧ H a = some (.tup xs) ∧ H c = some (.tup ys) ∧ xs.length = ys.length ∧ AllB D xs ys b H
theorem AllB.mon (hD : MonB D) {xs ys : List V} {b : Bool} {H H' : Hp} (e : Ext H H') (h : AllB D xs ys b H) : AllB D xs ys b H' := by
  rcases h with h | ⟨h1, bs, h2, h3⟩
  · exact .inl h
  · exact .inr ⟨h1, bs, fun i x y a c => hD _ _ _ _ _ e (h2 i x y a c), h3⟩
theorem monB_tup (hD : MonB D) : MonB (DTupB D) := fun x y b H H' e d => by
  obtain ⟨a, c, xs, ys, hx, hy, h1, h2, h3, p⟩ := d
  exact ⟨a, c, xs, ys, hx, hy, e _ _ h1, e _ _ h2, h3, p.mon hD e⟩
theorem rcB_list (hD : MonB D) (h : EqB X n D) : RcB X (n + 1) (DListB D) := by
  intro A pins s σ H x y u v b sb I rx ry d
  obtain ⟨a, c, xs, ys, rfl, rfl, ha, hb, p⟩ := d
  cases rx
  cases ry
  have rd : ∀ s', LoopI X pins σ H s' → ∃ (its its2 : List Value) (k k2 : Nat), s'.heap.get? a = some { cls := .type "list", data := .seq its.toArray k } ∧ s'.heap.get? c = some { cls := .type "list", data := .seq its2.toArray k2 } ∧ its.toArray.size = xs.length ∧ its2.toArray.size = ys.length ∧ Vals xs its ∧ Vals ys its2 := by
    intro s' q
    obtain ⟨H1, I1, e1⟩ := q
    obtain ⟨z, its, k, r, e⟩ := I1.hok a _ (e1 _ _ ha)
    obtain ⟨z2, its2, k2, r2, e2⟩ := I1.hok c _ (e1 _ _ hb)
    exact ⟨its, its2, k, k2, e, e2, by rw [List.size_toArray, ← r.length], by rw [List.size_toArray, ← r2.length], r, r2⟩
  rcases p with ⟨ne, rfl⟩ | ⟨el, bs, pb, hbs⟩
  · refine rc_listB (N := xs.length) (M := ys.length) sb.room.units0 (fun i s' => i = 0 ∧ LoopI X pins σ H s') (fun s' => False) (fun i s' q => ?_) (fun s' e q => absurd e ne) (fun s' q => q.elim) (fun s' _ q => ⟨rfl, q.2⟩) ⟨rfl, H, I, Ext.rfl'⟩
    obtain ⟨its, its2, k, k2, e, e2, z1, z2, r, r2⟩ := rd s' q.2
    exact ⟨its.toArray, its2.toArray, k, k2, e, e2, z1, z2, fun _ _ e => absurd e ne⟩
  · refine rc_listB (N := xs.length) (M := ys.length) sb.room.units0 (fun i s' => LoopI X pins σ H s' ∧ ∀ j, j < i → bs j = true) (fun s' => LoopI X pins σ H s' ∧ b = false) (fun i s' q => ?_) (fun s' _ q => ⟨?_, q.1⟩) (fun s' q => ⟨?_, by rw [q.2], q.1⟩) (fun s' e => absurd el e) ⟨⟨H, I, Ext.rfl'⟩, fun j hj => absurd hj (by omega)⟩
    · obtain ⟨its, its2, k, k2, e, e2, z1, z2, r, r2⟩ := rd s' q.1
      refine ⟨its.toArray, its2.toArray, k, k2, e, e2, z1, z2, fun h1 h2 _ => ?_⟩
      refine wpAny_mono (turnB hD h sb pb r r2 i h1 h2 s' q.1) (fun rr s2 z => ?_) fun _ _ z => z
      obtain ⟨er, l2⟩ := z
      cases hb' : bs i with
      | true => exact .inl ⟨by rw [er, hb'], l2, fun j hj => by
          rcases Nat.lt_or_ge j i with c | c
          · exact q.2 j c
          · rw [show j = i by omega]; exact hb'⟩
      | false =>
        refine .inr ⟨by rw [er, hb'], l2, ?_⟩
        rcases hbs with ⟨_, all⟩ | ⟨e, _⟩
        · rw [all i (by omega)] at hb'
          cases hb'
        · exact e
    · rcases hbs with ⟨e, _⟩ | ⟨_, i, hi, e⟩
      · rw [e]
      · rw [q.2 i hi] at e
        cases e
    · obtain ⟨its, its2, k, k2, e, e2, z1, z2, r, r2⟩ := rd s' q.1
      exact ⟨its.toArray, its2.toArray, k, k2, e, e2, z1, z2⟩
theorem rcB_tup (hD : MonB D) (h : EqB X n D) : RcB X (n + 1) (DTupB D) := by
  intro A pins s σ H x y u v b sb I rx ry d
  obtain ⟨a, c, xs, ys, rfl, rfl, ha, hb, hl, p⟩ := d
  cases rx
  cases ry
  obtain ⟨its, r, e, z⟩ := I.tuple (SqT.of ha)
  obtain ⟨its2, r2, e2, z2⟩ := I.tuple (SqT.of hb)
  have hsz : its.toArray.size = its2.toArray.size := by rw [List.size_toArray, List.size_toArray, ← r.length, ← r2.length]; exact hl
  rcases p with ⟨ne, _⟩ | ⟨_, bs, pb, hbs⟩
  · exact absurd hl ne
  refine rc_tupB hsz sb.room.units0 (fun i s' => LoopI X pins σ H s' ∧ ∀ j, j < i → bs j = true) (fun s' => LoopI X pins σ H s' ∧ b = false) e e2 (fun i h1 h2 s' q => ?_) (fun s' q => ⟨?_, q.1⟩) (fun s' q => ⟨by rw [q.2], q.1⟩) ⟨⟨H, I, Ext.rfl'⟩, fun j hj => absurd hj (by omega)⟩
  · refine wpAny_mono (turnB hD h sb pb r r2 i h1 h2 s' q.1) (fun rr s2 z => ?_) fun _ _ z => z
    obtain ⟨er, l2⟩ := z
    have hx : i < xs.length := by rw [r.length]; simpa using h1
    cases hb' : bs i with
    | true => exact .inl ⟨by rw [er, hb'], l2, fun j hj => by
        rcases Nat.lt_or_ge j i with c | c
        · exact q.2 j c
        · rw [show j = i by omega]; exact hb'⟩
    | false =>
      refine .inr ⟨by rw [er, hb'], l2, ?_⟩
      rcases hbs with ⟨_, all⟩ | ⟨e, _⟩
      · rw [all i hx] at hb'
        cases hb'
      · exact e
  · rcases hbs with ⟨e, _⟩ | ⟨_, i, hi, e⟩
    · rw [e]
    · rw [q.2 i (by rw [List.size_toArray, ← r.length]; exact hi)] at e
      cases e
/-- the same object is equal to itself -/
theorem RcB.eqB (h : RcB X n D) (hr : ∀ x y b H, D x y b H → ∃ a c, x = .ref a ∧ y = .ref c ∧ (a = c → b = true)) : EqB X n D := by
  intro A pins s σ H x y u v b sb I rx ry d
  obtain ⟨a, c, rfl, rfl, hs⟩ := hr _ _ _ _ d
  cases rx
  cases ry
  by_cases hac : a = c
  · rw [hs hac]
    subst hac
    exact SeqAt.EqAt.same (A := A) (s := s) (.ref a) X.prog X.w X.xe _ ⟨rfl, H, I, Ext.rfl'⟩
  · refine GQ.eqBool_refG hac (wpAny_mono (h A pins s σ H (.ref a) (.ref c) _ _ b sb I rfl rfl d) (fun r s' q => ?_) fun _ _ x => x)
    obtain ⟨hr', q⟩ := q
    exact ⟨b, hr', rfl, q⟩
def rEqB (D : EqvB) : R2 := fun x y H Q => ∃ b, D x y b H ∧ ∀ H', Ext H H' → Q (.bl b) H'
theorem op_eqB (h : RcB X n D) (hr : Room n X.A) : OpR X (compareOp .Eq) (rEqB D) := by
  intro pn s σ H x y v u Q I rx ry hq
  obtain ⟨b, d, q⟩ := hq
  show wpAny (model X.prog X.w) X.A (richCompare .Eq v u) (EP X pn σ Q) X.xe s
  refine wpAny_mono (h X.A pn s σ H x y v u b ⟨hr, rfl⟩ I rx ry d) (fun r s' z => ?_) fun _ _ z => z
  obtain ⟨er, H', I', e⟩ := z
  exact ⟨.bl b, H', I', er, q H' e⟩
end Fq
set_option Elab.async false
set_option linter.all false
set_option maxRecDepth 100000
set_option maxHeartbeats 4000000
/-! x in l, x not in l, l.index(x) where the items have a == of their own. -/
namespace Fr
open PySem PySem.SeqAt
open AutoSeq1 (wpAny_loadPart')
open MeetsSeq MeetsSeq2 MeetsSeq3 SeqRoads2 GQ
section
variable {prog : Program} {w : World} {A : Around} {R : Result → Shared → Prop}
/-- the list at l has N items at each turn; an item is x or the next one is asked -/
def ItemsB (prog : Program) (w : World) (A : Around) (E : Value → Shared → Prop) (l : Addr) (x : Value) (N : Nat) (I : Nat → Shared → Prop) (J : Nat → Shared → Prop) : Prop :=
  ∀ i s, I i s → ∃ (xs : Array Value) (n : Nat), s.heap.get? l = some { cls := .type "list", data := .seq xs n } ∧ xs.size = N ∧
    ∀ (h1 : i < xs.size), wpAny (model prog w) A.in1 (eqBool xs[i] x) (fun r s' => (r = false ∧ I (i + 1) s') ∨ (r = true ∧ J i s')) E s
theorem has_goes (l : Addr) (x : Value) (N : Nat) (I : Nat → Shared → Prop) (J : Nat → Shared → Prop) (hl : ItemsB prog w A (fun e s' => R (.error e) s') l x N I J) (no : ∀ s, I N s → R (.ok (.ret (.bool false))) s) (yes : ∀ i s, J i s → R (.ok (.ret (.bool true))) s) (m : Nat) :
    ∀ j : Nat, m + j = N → ∀ s, I j s → wpAny (model prog w) A.in1 (Builtin.«list.__contains__.loop» ⟨[.ref l, x, rawInt j], []⟩) (FinOf prog w A R) (fun e s' => R (.error e) s') s := by
  induction m with
  | zero =>
    intro j hj s h
    obtain ⟨xs, n, g1, z1, _⟩ := hl _ _ h
    have jN : j = N := by omega
    have done : R (.ok (.ret (.bool false))) s := no s (jN ▸ h)
    obtain ⟨hp, gl, dr, tk, os⟩ := s
    wp_walk using wpAny_loadPart' g1
    have e1 : xs[((j : Nat) : Int).toNat]? = none := by
      simp
      omega
    rw [e1]
    wp_walk
    exact done
  | succ m ih =>
    intro j hj s h
    obtain ⟨xs, n, g1, z1, turn⟩ := hl _ _ h
    have l1 : j < xs.size := by omega
    have one := turn l1
    obtain ⟨hp, gl, dr, tk, os⟩ := s
    wp_walk using wpAny_loadPart' g1
    have e1 : xs[((j : Nat) : Int).toNat]? = some xs[j] := by simp [l1]
    rw [e1]
    refine wpAny_bind (wpAny_mono one (fun r s2 hr => ?_) fun _ _ z => z)
    rcases hr with ⟨er, h2⟩ | ⟨er, h2⟩
    · subst er
      have rest := ih (j + 1) (by omega) s2 h2
      obtain ⟨hp2, gl2, dr2, tk2, os2⟩ := s2
      wp_walk
      rw [show ((j : Int) + 1) = ((j + 1 : Nat) : Int) by omega]
      refine ⟨plainId_quiet plain_contains_loop _, codeAny_builtin entry_contains_loop ?_⟩
      rw [Around.under_plainId plain_contains_loop _]
      exact rest
    · subst er
      have done := yes j s2 h2
      obtain ⟨hp2, gl2, dr2, tk2, os2⟩ := s2
      wp_walk
      exact done
theorem list_has (l : Addr) (x : Value) (N : Nat) (I : Nat → Shared → Prop) (J : Nat → Shared → Prop) (hl : ItemsB prog w A (fun e s' => R (.error e) s') l x N I J) (no : ∀ s, I N s → R (.ok (.ret (.bool false))) s) (yes : ∀ i s, J i s → R (.ok (.ret (.bool true))) s) {s : Shared} (h : I 0 s) :
    wpAny (model prog w) A.in1 (Builtin.«list.__contains__» ⟨[.ref l, x], []⟩) (FinOf prog w A R) (fun e s' => R (.error e) s') s := by
  have rest := has_goes (A := A) (R := R) l x N I J hl no yes N 0 (by omega) s h
  obtain ⟨hp, gl, dr, tk, os⟩ := s
  wp_walk
  refine ⟨plainId_quiet plain_contains_loop _, codeAny_builtin entry_contains_loop ?_⟩
  rw [Around.under_plainId plain_contains_loop _]
  exact rest
theorem at_goes (l : Addr) (x : Value) (N : Nat) (upto : Int) (hup : (N : Int) ≤ upto) (I : Nat → Shared → Prop) (J : Nat → Shared → Prop) (hl : ItemsB prog w A (fun e s' => R (.error e) s') l x N I J) (no : ∀ s, ¬ I N s) (yes : ∀ i s, i < N → J i s → R (.ok (.ret (.int i s.toks))) { s with toks := s.toks + 1 }) (m : Nat) :
    ∀ j : Nat, m + j = N → ∀ s, I j s → wpAny (model prog w) A.in1 (Builtin.«list.index.loop» ⟨[.ref l, x, rawInt j, rawInt upto], []⟩) (FinOf prog w A R) (fun e s' => R (.error e) s') s := by
  induction m with
  | zero =>
    intro j hj s h
    have jN : j = N := by omega
    exact absurd (jN ▸ h) (no s)
  | succ m ih =>
    intro j hj s h
    obtain ⟨xs, n, g1, z1, turn⟩ := hl _ _ h
    have l1 : j < xs.size := by omega
    have one := turn l1
    obtain ⟨hp, gl, dr, tk, os⟩ := s
    wp_walk using wpAny_loadPart' g1
    have e1 : (if (j : Int) < upto then xs[((j : Nat) : Int).toNat]? else none) = some xs[j] := by
      rw [if_pos (by omega)]
      simp [l1]
    rw [e1]
    refine wpAny_bind (wpAny_mono one (fun r s2 hr => ?_) fun _ _ z => z)
    rcases hr with ⟨er, h2⟩ | ⟨er, h2⟩
    · subst er
      have rest := ih (j + 1) (by omega) s2 h2
      obtain ⟨hp2, gl2, dr2, tk2, os2⟩ := s2
      wp_walk
      rw [show ((j : Int) + 1) = ((j + 1 : Nat) : Int) by omega]
      refine ⟨plainId_quiet plain_index_loop _, codeAny_builtin entry_index_loop ?_⟩
      rw [Around.under_plainId plain_index_loop _]
      exact rest
    · subst er
      have done := yes j s2 (by omega) h2
      obtain ⟨hp2, gl2, dr2, tk2, os2⟩ := s2
      wp_walk
      exact done
theorem list_at (l : Addr) (x : Value) (N : Nat) (hN : (N : Int) ≤ 2 ^ 63 - 1) (I : Nat → Shared → Prop) (J : Nat → Shared → Prop) (hl : ItemsB prog w A (fun e s' => R (.error e) s') l x N I J) (no : ∀ s, ¬ I N s) (yes : ∀ i s, i < N → J i s → R (.ok (.ret (.int i s.toks))) { s with toks := s.toks + 1 }) {s : Shared} (h : I 0 s) :
    wpAny (model prog w) A.in1 (Builtin.«list.index» ⟨[.ref l, x], []⟩) (FinOf prog w A R) (fun e s' => R (.error e) s') s := by
  obtain ⟨xs, n, g1, z1, _⟩ := hl _ _ h
  have rest := at_goes (A := A) (R := R) l x N (2 ^ 63 - 1) hN I J hl no yes N 0 (by omega) s h
  obtain ⟨hp, gl, dr, tk, os⟩ := s
  wp_walk using wpAny_loadPart' g1
  have a1 : ((fun i : Int => if i < 0 then max 0 (i + (xs.size : Int)) else i) ((none : Option Int).getD 0)) = ((0 : Nat) : Int) := by simp
  have a2 : ((fun i : Int => if i < 0 then max 0 (i + (xs.size : Int)) else i) ((none : Option Int).getD (2 ^ 63 - 1))) = 2 ^ 63 - 1 := by simp
  rw [a1, a2]
  refine ⟨plainId_quiet plain_index_loop _, codeAny_builtin entry_index_loop ?_⟩
  rw [Around.under_plainId plain_index_loop _]
  exact rest
end
section
variable {prog : Program} {w : World} {A : Around} {E : Value → Shared → Prop} {s : Shared}
theorem in_own {l : Addr} {x : Value} {N : Nat} {Q : Value → Shared → Prop} (I : Nat → Shared → Prop) (J : Nat → Shared → Prop) (hl : ItemsB prog w A E l x N I J) (no : ∀ s, I N s → Q (.bool false) s) (yes : ∀ i s, J i s → Q (.bool true) s) (h : I 0 s) : wpAny (model prog w) A (compareOp .In x (.ref l)) Q E s := by
  obtain ⟨xs, n, g1, _, _⟩ := hl _ _ h
  show wpAny _ _ (do return .bool (← contains (.ref l) x)) Q E s
  refine wpAny_bind (wpAny_contains_slot ⟨_, g1, rfl⟩ F.slot_list_contains (call_here (Q := fun v s' => wpAny _ A (truthy v) (fun b s'' => wpAny _ A (pure (Value.bool b)) Q E s'') E s') F.slot_list_contains ⟨_, g1, rfl⟩ F.entry_list_contains (F.args_list_contains_2 _ _) ?_))
  exact list_has (R := wants (fun v s' => wpAny _ A (truthy v) (fun b s'' => wpAny _ A (pure (Value.bool b)) Q E s'') E s') E) l x N I J hl (fun s' q => wpAny_pure (wpAny_pure (no s' q))) (fun i s' q => wpAny_pure (wpAny_pure (yes i s' q))) h
theorem notIn_own {l : Addr} {x : Value} {N : Nat} {Q : Value → Shared → Prop} (I : Nat → Shared → Prop) (J : Nat → Shared → Prop) (hl : ItemsB prog w A E l x N I J) (no : ∀ s, I N s → Q (.bool true) s) (yes : ∀ i s, J i s → Q (.bool false) s) (h : I 0 s) : wpAny (model prog w) A (compareOp .NotIn x (.ref l)) Q E s := by
  obtain ⟨xs, n, g1, _, _⟩ := hl _ _ h
  show wpAny _ _ (do return .bool (!(← contains (.ref l) x))) Q E s
  refine wpAny_bind (wpAny_contains_slot ⟨_, g1, rfl⟩ F.slot_list_contains (call_here (Q := fun v s' => wpAny _ A (truthy v) (fun b s'' => wpAny _ A (pure (Value.bool (!b))) Q E s'') E s') F.slot_list_contains ⟨_, g1, rfl⟩ F.entry_list_contains (F.args_list_contains_2 _ _) ?_))
  exact list_has (R := wants (fun v s' => wpAny _ A (truthy v) (fun b s'' => wpAny _ A (pure (Value.bool (!b))) Q E s'') E s') E) l x N I J hl (fun s' q => wpAny_pure (wpAny_pure (no s' q))) (fun i s' q => wpAny_pure (wpAny_pure (yes i s' q))) h
theorem index_own {l : Addr} {x : Value} {N : Nat} {Q : Value → Shared → Prop} (hN : (N : Int) ≤ 2 ^ 63 - 1) (I : Nat → Shared → Prop) (J : Nat → Shared → Prop) (hl : ItemsB prog w A E l x N I J) (no : ∀ s, ¬ I N s) (yes : ∀ i s, i < N → J i s → Q (.int i s.toks) { s with toks := s.toks + 1 }) (h : I 0 s) : wpAny (model prog w) A (call (.builtin "list.index") [.ref l, x]) Q E s := by
  obtain ⟨xs, n, g1, _, _⟩ := hl _ _ h
  refine call_here F.slot_list_index ⟨_, g1, rfl⟩ F.entry_list_index (F.args_list_index_2 _ _) ?_
  exact list_at (R := wants Q E) l x N hN I J hl no yes h
end
end Fr
namespace Fr
open PySem PySem.Spec PyProof.Rows L2 Fq
variable {X : Cx} {n : Nat} {D : EqvB}
/-- what D says of each item against y -/
def Each (D : EqvB) (ys : List V) (y : V) (bs : Nat → Bool) (H : Hp) : Prop := ∀ (i : Nat) z, ys[i]? = some z → D z y (bs i) H
theorem items_of (hD : MonB D) (h : EqB X n D) (sb : Sub X (n + 1) X.A) {pn : List (Addr × Obj)} {σ : L2.St} {H : Hp} {l : Addr} {ys : List V} {y : V} {u : Value} {bs : Nat → Bool} (hl : H l = some (.lst ys)) (ry : RelV y u) (p : Each D ys y bs H) :
    ItemsB X.prog X.w X.A X.xe l u ys.length (fun i s' => LoopI X pn σ H s' ∧ ∀ j, j < i → bs j = false) (fun i s' => LoopI X pn σ H s' ∧ bs i = true ∧ i < ys.length ∧ ∀ m, m < i → bs m = false) := by
  intro i s' q
  obtain ⟨⟨H1, I1, e1⟩, all⟩ := id q
  obtain ⟨z, its, k, r, e⟩ := I1.hok l _ (e1 _ _ hl)
  refine ⟨its.toArray, k, e, by rw [List.size_toArray, ← r.length], fun h1 => ?_⟩
  have hx : i < ys.length := by rw [r.length]; simpa using h1
  obtain ⟨v, hv, rv⟩ := r.get (List.getElem?_eq_getElem hx)
  have g1 : its[i]? = some its.toArray[i] := by
    have h1' : i < its.length := by simpa using h1
    rw [List.getElem?_eq_getElem h1'] <;> simp
  rw [g1] at hv
  rw [Option.some.inj hv]
  refine wpAny_mono (h X.A.in1 pn s' σ H1 _ _ v u (bs i) sb.in1 I1 rv ry (hD _ _ _ _ _ e1 (p i _ (List.getElem?_eq_getElem hx)))) (fun r s2 q2 => ?_) fun _ _ x => x
  obtain ⟨hr, H2, I2, e2⟩ := q2
  cases hb : bs i with
  | false => exact .inl ⟨by rw [hr, hb], ⟨H2, I2, e1.trans e2⟩, fun j hj => by
      rcases Nat.lt_or_ge j i with c | c
      · exact all j c
      · rw [show j = i by omega]; exact hb⟩
  | true => exact .inr ⟨by rw [hr, hb], ⟨H2, I2, e1.trans e2⟩, hb, hx, all⟩
def AnyB (bs : Nat → Bool) (N : Nat) (b : Bool) : Prop := (b = true ∧ ∃ i, i < N ∧ bs i = true) ∨ (b = false ∧ ∀ i, i < N → bs i = false)
def rNotInB (D : EqvB) : R2 := fun x y H Q => ∃ (l : Addr) (ys : List V) (bs : Nat → Bool) (b : Bool), y = .ref l ∧ H l = some (.lst ys) ∧ Each D ys x bs H ∧ AnyB bs ys.length b ∧ ∀ H', Ext H H' → Q (.bl (!b)) H'
theorem op_notInB (hD : MonB D) (h : EqB X n D) (hr : Room (n + 1) X.A) : OpR X (compareOp .NotIn) (rNotInB D) := by
  intro pn s σ H x y v u Q I rx ry hq
  obtain ⟨l, ys, bs, b, rfl, hl, p, hb, q⟩ := hq
  cases ry
  refine notIn_own (N := ys.length) _ _ (items_of hD h (pn := pn) (σ := σ) ⟨hr, rfl⟩ hl rx p) (fun s' z => ?_) (fun i s' z => ?_) ⟨⟨H, I, Ext.rfl'⟩, fun j hj => absurd hj (by omega)⟩
  · obtain ⟨⟨H', I', e⟩, all⟩ := z
    rcases hb with ⟨rfl, i, hi, hbi⟩ | ⟨rfl, _⟩
    · rw [all i hi] at hbi
      cases hbi
    · exact ⟨.bl true, H', I', rfl, q H' e⟩
  · obtain ⟨⟨H', I', e⟩, hbi, hi, bef⟩ := z
    rcases hb with ⟨rfl, _⟩ | ⟨rfl, all⟩
    · exact ⟨.bl false, H', I', rfl, q H' e⟩
    · rw [all i hi] at hbi
      cases hbi
def rInB (D : EqvB) : R2 := fun x y H Q => ∃ (l : Addr) (ys : List V) (bs : Nat → Bool) (b : Bool), y = .ref l ∧ H l = some (.lst ys) ∧ Each D ys x bs H ∧ AnyB bs ys.length b ∧ ∀ H', Ext H H' → Q (.bl b) H'
theorem op_inB (hD : MonB D) (h : EqB X n D) (hr : Room (n + 1) X.A) : OpR X (compareOp .In) (rInB D) := by
  intro pn s σ H x y v u Q I rx ry hq
  obtain ⟨l, ys, bs, b, rfl, hl, p, hb, q⟩ := hq
  cases ry
  refine in_own (N := ys.length) _ _ (items_of hD h (pn := pn) (σ := σ) ⟨hr, rfl⟩ hl rx p) (fun s' z => ?_) (fun i s' z => ?_) ⟨⟨H, I, Ext.rfl'⟩, fun j hj => absurd hj (by omega)⟩
  · obtain ⟨⟨H', I', e⟩, all⟩ := z
    rcases hb with ⟨rfl, i, hi, hbi⟩ | ⟨rfl, _⟩
    · rw [all i hi] at hbi
      cases hbi
    · exact ⟨.bl false, H', I', rfl, q H' e⟩
  · obtain ⟨⟨H', I', e⟩, hbi, hi, bef⟩ := z
    rcases hb with ⟨rfl, _⟩ | ⟨rfl, all⟩
    · exact ⟨.bl true, H', I', rfl, q H' e⟩
    · rw [all i hi] at hbi
      cases hbi
/-- l.index(x): the first place of an equal one -/
def rIndexB (D : EqvB) : V → List V → Hp → VK → Prop := fun x xs H Q => ∃ (l : Addr) (ys : List V) (y : V) (bs : Nat → Bool) (j : Nat), x = V.ref l ∧ xs = [y] ∧ H l = some (.lst ys) ∧ Each D ys y bs H ∧ j < ys.length ∧ bs j = true ∧ (∀ m, m < j → bs m = false) ∧ ∀ H', Ext H H' → Q (.int (j : Nat)) H'
theorem mt_indexB (hD : MonB D) (h : EqB X n D) (hr : Room (n + 1) X.A) : MtR X "list.index" (rIndexB D) := by
  intro pn s σ H x xs v us Q I rx rxs hq
  obtain ⟨l, ys, y, bs, j, rfl, rfl, hl, p, hj, hbj, no, q⟩ := hq
  cases rx
  cases rxs with
  | cons ry rt =>
    rename_i uy ut
    cases rt
    obtain ⟨z, _⟩ := I.hok l _ hl
    have zz : ys.length ≤ sizeLine := z
    have hsl := sizeLine_eq
    refine index_own (N := ys.length) (by omega) _ _ (items_of hD h (pn := pn) (σ := σ) ⟨hr, rfl⟩ hl ry p) (fun s' z => ?_) (fun i s' _ z => ?_) ⟨⟨H, I, Ext.rfl'⟩, fun j hj => absurd hj (by omega)⟩
    · obtain ⟨_, all⟩ := z
      rw [all j hj] at hbj
      cases hbj
    · obtain ⟨⟨H', I', e⟩, hbi, hi, bef⟩ := z
      have ij : i = j := by
        rcases Nat.lt_trichotomy i j with c | c | c
        · rw [no i c] at hbi
          cases hbi
        · exact c
        · rw [bef j c] at hbj
          cases hbj
      subst ij
      exact ⟨.int (i : Nat), H', I'.tok _, ⟨_, rfl⟩, q H' e⟩
end Fr
set_option Elab.async false
set_option linter.all false
set_option maxRecDepth 100000
set_option maxHeartbeats 1000000
set_option exponentiation.threshold 100000
namespace K13
open PySem PySem.Spec PyProof.Rows L2 Fa Fb
/-! ### rows -/
structure It where
  q : Addr
  a : Addr
  s : Str
  t : Int
  u : Int
def ItOk (K : PySem.W.Frag) (n : Nat) (H : Hp) (g : It) : Prop := H g.q = some (.tup [.str g.s, .ref g.a]) ∧ IsA K H (.ref g.a) g.t g.u n
theorem ItOk.same {K : PySem.W.Frag} {n : Nat} {H H' : Hp} {g : It} (h : ItOk K n H g) (s : Same H H') : ItOk K n H' g := ⟨s _ _ h.1, h.2.same s⟩
theorem ItOk.mono {K : PySem.W.Frag} {n m : Nat} {H : Hp} {g : It} (h : ItOk K n H g) (e : n ≤ m) : ItOk K m H g := ⟨h.1, h.2.mono e⟩
structure RowOk (K : PySem.W.Frag) (m : Nat) (H : Hp) (p : Addr) (gs : List It) : Prop where
  l : H p = some (.lst (gs.map fun g => V.ref g.q))
  ok : ∀ g ∈ gs, ItOk K m H g
  n : gs.length ≤ 40
theorem RowOk.same {K : PySem.W.Frag} {n : Nat} {H H' : Hp} {p : Addr} {gs : List It} (h : RowOk K n H p gs) (s : Same H H') : RowOk K n H' p gs := ⟨s _ _ h.l, fun g hg => (h.ok g hg).same s, h.n⟩
theorem RowOk.mono {K : PySem.W.Frag} {n m : Nat} {H : Hp} {p : Addr} {gs : List It} (h : RowOk K n H p gs) (e : n ≤ m) : RowOk K m H p gs := ⟨h.l, fun g hg => (h.ok g hg).mono e, h.n⟩
def rv (gs : List It) : M04.Row := gs.map fun g => (g.s, vq g.t g.u)
abbrev sPar : Stmt := top 36
abbrev sExt : Stmt := top 37
theorem scPar : FnScope ["row", "unit"] ["row", "unit"] (defScope sPar) := ⟨rfl, rfl, rfl, by decide +kernel, rfl, by decide +kernel, by decide +kernel⟩
theorem scExt : FnScope ["row", "unit", "amount", "before", "last", "shift"] ["row", "unit", "amount"] (defScope sExt) := ⟨rfl, rfl, rfl, by decide +kernel, rfl, by decide +kernel, by decide +kernel⟩
def spPart (K : PySem.W.Frag) : Sp := fun vs H Q _ => ∃ (p : Addr) (gs : List It) (z : Str) (m : Nat), vs = [.ref p, .str z] ∧ RowOk K m H p gs ∧ 1 ≤ m ∧ m ≤ 6000 ∧ ∀ H' w l a hs t u, Same H H' → H' w = some (.tup [.ref l, .ref a]) → RowOk K m H' l hs → IsA K H' (.ref a) t u m → M04.part (rv gs) z = (rv hs, vq t u) → hs.length ≤ gs.length → H l = none → Q (.ref w) H'
def spExt (K : PySem.W.Frag) : Sp := fun vs H Q _ => ∃ (p : Addr) (gs : List It) (z : Str) (y : V) (q : Rat) (m k : Nat), vs = [.ref p, .str z, y] ∧ RowOk K m H p gs ∧ gs.length < 40 ∧ 1 ≤ m ∧ m + k ≤ 6000 ∧ QA K H y q k ∧ ∀ H' l hs, Same H H' → RowOk K (m + k + 1) H' l hs → rv hs = M04.ext (rv gs) z q → hs.length ≤ gs.length + 1 → H l = none → Q (.ref l) H'
theorem none_of {H H' : Hp} {p : Addr} (s : Same H H') (h : H' p = none) : H p = none := by
  cases e : H p with
  | none => rfl
  | some o =>
    rw [s _ _ e] at h
    cases h
def sParR (K : PySem.W.Frag) (gs : List It) (p : Addr) (z : Str) (Q : VK) (H : Hp) : TS := fun D σ H' => σ = [some (.ref p), some (.str z)] ∧ D.rt = Q ∧ M04.part (rv gs) z = (rv gs, 0) ∧ H = H'
theorem atI_end {α : Type} {xs : List α} {v : α} (h : xs[xs.length - 1]? = some v) : atI xs (-1) = some v := by
  have hl : 0 < xs.length := by
    rcases Nat.eq_zero_or_pos xs.length with e | e
    · have : xs = [] := List.eq_nil_of_length_eq_zero e
      subst this
      cases h
    · exact e
  have e : ixN xs.length (-1) = some (xs.length - 1) := by
    unfold ixN
    rw [if_neg (by decide), if_pos (by omega)]
    congr 1
    omega
  unfold atI
  rw [e]
  exact h
theorem am_dec {t u t2 u2 : Int} (r : Am.Red t u) (r2 : Am.Red t2 u2) : (decide (t = t2) && decide (u = u2)) = decide (vq t u = vq t2 u2) := by
  by_cases c : vq t u = vq t2 u2
  · obtain ⟨a, b⟩ := vq_inj r r2 c
    rw [decide_eq_true a, decide_eq_true b, decide_eq_true c]
    rfl
  · rw [decide_eq_false c]
    cases h : (decide (t = t2) && decide (u = u2)) with
    | false => rfl
    | true =>
      rw [Bool.and_eq_true, decide_eq_true_eq, decide_eq_true_eq] at h
      exact absurd (by rw [h.1, h.2]) c
theorem rv_last {gs : List It} {g : It} (h : gs[gs.length - 1]? = some g) : (rv gs).getLast? = some (g.s, vq g.t g.u) := by
  unfold rv
  rw [List.getLast?_eq_getElem?, List.length_map, List.getElem?_map, h]
  rfl
section
variable {P : Program} {w : World} {K : PySem.W.Frag} {mg : Str → Option Value} {base : Heap} {f fA fP fI fE : Addr} {fd fdA fdP fdI fdE : FuncData}
theorem ok_par (F : FnP K "parted" sPar f fd) (T : AF K mg) (mL : mg "len" = none) (mLi : mg "list" = none) (GI : FnOk P w K mg base (L2.CX P w) 4 (aI K) fdI ["self", "top", "bottom"] (spInit K)) {ds : List Value} (hds : Vals [.int 1] ds) (bI : Binds K fdI ["self", "top", "bottom"] ds) :
    FnOk P w K mg base (L2.CX P w) 6 f fd ["row", "unit"] (spPart K) := by
  refine F.ok scPar (fun vs H Q E h => ?_) (fun cdv A outer s H vs Q E hr h => ?_)
  · obtain ⟨p, gs, z, m, rfl, _⟩ := h
    rfl
  · obtain ⟨p, gs, z, m, rfl, hp, hm1, hm, k⟩ := h
    have hr5 := hr.mono (show 5 ≤ 5 by decide)
    refine ⟨_, (pss_cons (ps_if (PW.pt (pw_and (pt_cmpR op_gt (pe_callB call_len rfl mL PySem.boot_len (pa_cons (pv 0) pa_nil)) pe_int (nomark _)) (pw_and1 (pt_cmpR op_eq (pe_ix ix_tup (pe_ix ix_list (pv 0) (pe_un un_neg pe_int) (fun _ _ => rfl)) pe_int (fun _ _ => rfl)) (pv 1) (nomark _))))) (pss_one (ps_ret (pe_tup (pa_cons (pe_slice sl_list (pv 0) po_none (po_some (pe_un un_neg pe_int))) (pa_cons (pe_ix ix_tup (pe_ix ix_list (pv 0) (pe_un un_neg pe_int) (fun _ _ => rfl)) pe_int (fun _ _ => rfl)) pa_nil))))) pss_nil)
      (pss_imp (S := sParR K gs p z Q H) (pss_one (ps_ret (pe_tup (pa_cons (pe_callTy call_list_of rfl mLi (by decide +kernel : bootBuiltins "list" = some (.type "list")) (pa_cons (pv 0) pa_nil)) (pa_cons (pe_make T.mkA GI hr5 rfl T.g bI hds passL (pa_cons pe_int pa_nil)) pa_nil))))) ?rest)), ?_⟩
    have gl := hp.n
    case rest =>
      rintro D σ H1 ⟨rfl, hD, pe, eH⟩
      subst eH
      refine ⟨_, rfl, p, _, rfl, .inl (SqL.of hp.l), fun l hl => ?_⟩
      have s1 := Same.upd (o := .lst (gs.map fun g => V.ref g.q)) hl
      have hl1 : upd H l (HO.lst (gs.map fun g => V.ref g.q)) l = some (HO.lst (gs.map fun g => V.ref g.q)) := upd_same
      generalize upd H l (HO.lst (gs.map fun g => V.ref g.q)) = H2 at s1 hl1 ⊢
      refine fun y dy hy hdy hne => spInit_imp (make_fact T (n := 1) (a := 0) (b := 1) (by decide) (by decide) (by decide) (by decide) hy hdy hne) fun v3 H3 ⟨hv, t, u, s3, iy, e3⟩ => ⟨hv, ?_⟩
      refine ⟨by show 2 ≤ sizeLine; decide, fun q hq => ?_⟩
      have s4 := Same.upd (o := .tup [.ref l, .ref y]) hq
      rw [hD]
      obtain ⟨_, _, _, _, ⟨u0, _⟩, _⟩ := id iy
      refine k _ q l y gs t u (s1.trans (s3.trans s4)) upd_same ⟨s4 _ _ (s3 _ _ hl1), fun g hg => (hp.ok g hg).same (s1.trans (s3.trans s4)), hp.n⟩ ((iy.same s4).mono hm1) ?_ (Nat.le_refl _) hl
      rw [pe, (vq_eq (Int.ne_of_gt u0) (by decide)).mpr e3, vq_zero]
    refine ⟨_, rfl, _, (gs.map fun g => V.ref g.q).length, rfl, .inl ⟨_, SqL.of hp.l, rfl⟩, _, _, rfl, rfl, _, rfl, ?_⟩
    rw [List.length_map]
    by_cases c0 : gs.length = 0
    · refine if_false_of (decide_eq_false (by omega)) ?_
      refine iteF ⟨rfl, rfl, ?_, rfl⟩
      rw [List.eq_nil_of_length_eq_zero c0]
      rfl
    · refine if_true_of (decide_eq_true (by omega)) ?_
      have h1 : gs.length - 1 < gs.length := by omega
      have eg : gs[gs.length - 1]? = some gs[gs.length - 1] := List.getElem?_eq_getElem h1
      generalize gs[gs.length - 1] = g at eg
      have em : (gs.map fun g => V.ref g.q)[(gs.map fun g => V.ref g.q).length - 1]? = some (V.ref g.q) := by rw [List.length_map, List.getElem?_map, eg]; rfl
      have ea : atI (gs.map fun g => V.ref g.q) (-1) = some (V.ref g.q) := atI_end em
      obtain ⟨hg1, hg2⟩ := hp.ok g (List.mem_of_getElem? eg)
      refine ⟨_, rfl, _, rfl, p, _, -1, _, rfl, rfl, SqL.of hp.l, ea, g.q, _, 0, _, rfl, rfl, SqT.of hg1, rfl, _, rfl, rfl, _, rfl, ?_⟩
      have pt : M04.part (rv gs) z = if g.s = z then ((rv gs).dropLast, vq g.t g.u) else (rv gs, 0) := by
        unfold M04.part
        rw [rv_last eg]
      by_cases c : g.s = z
      · rw [decide_eq_true (by rw [c])]
        rw [if_pos c] at pt
        refine iteT ⟨_, rfl, _, rfl, _, rfl, p, _, rfl, SqL.of hp.l, fun l hl => ?_⟩
        have ec : cutV (gs.map fun g => V.ref g.q) none (some (-1)) = (gs.dropLast).map fun g => V.ref g.q := by
          show List.take ((-1 + ((gs.map fun g => V.ref g.q).length : Int)).toNat - 0) (gs.map fun g => V.ref g.q) = _
          rw [List.length_map, Nat.sub_zero, show (-1 + (gs.length : Int)).toNat = gs.length - 1 by omega, ← List.map_take, List.dropLast_eq_take]
        rw [ec]
        have s1 := Same.upd (o := .lst (gs.dropLast.map fun g => V.ref g.q)) hl
        have hl1 : upd H l (HO.lst (gs.dropLast.map fun g => V.ref g.q)) l = some (HO.lst (gs.dropLast.map fun g => V.ref g.q)) := upd_same
        generalize upd H l (HO.lst (gs.dropLast.map fun g => V.ref g.q)) = H2 at s1 hl1 ⊢
        refine ⟨_, rfl, _, rfl, p, _, -1, _, rfl, rfl, SqL.of (s1 _ _ hp.l), ea, g.q, _, 1, _, rfl, rfl, SqT.of (s1 _ _ hg1), rfl, by show 2 ≤ sizeLine; decide, fun q hq => ?_⟩
        have s4 := Same.upd (o := .tup [.ref l, .ref g.a]) hq
        refine k _ q l g.a gs.dropLast g.t g.u (s1.trans s4) upd_same ⟨s4 _ _ hl1, fun g hg => (hp.ok g (List.dropLast_subset _ hg)).same (s1.trans s4), by have := hp.n; rw [List.length_dropLast]; omega⟩ (hg2.same (s1.trans s4)) ?_ (by rw [List.length_dropLast]; omega) hl
        rw [pt]
        congr 1
        unfold rv
        rw [List.map_dropLast]
      · rw [decide_eq_false fun e => c (V.str.inj e)]
        rw [if_neg c] at pt
        exact iteF ⟨rfl, rfl, pt, rfl⟩
theorem qa_zero {K : PySem.W.Frag} {H : Hp} {x : V} {t u : Int} {n : Nat} (h : IsA K H x t u n) : (decide (t = 0) && decide (u = 1)) = decide (vq t u = 0) := by
  obtain ⟨_, _, _, _, r, _⟩ := id h
  rw [← vq_zero]
  exact am_dec r (by refine ⟨by decide, ?_⟩; decide)
theorem ok_ext (F : FnP K "extended" sExt f fd) (T : AF K mg) (EQ : EqK P w K mg base fE fdE) (OA : OpK P w K mg base "add" 7 (spAdd K) fA fdA) (PA : Fn P w K mg base "parted" 6 ["row", "unit"] (spPart K) fP fdP) (GI : FnOk P w K mg base (L2.CX P w) 4 (aI K) fdI ["self", "top", "bottom"] (spInit K)) {ds : List Value} (hds : Vals [.int 1] ds) (bI : Binds K fdI ["self", "top", "bottom"] ds) :
    FnOk P w K mg base (L2.CX P w) 8 f fd ["row", "unit", "amount"] (spExt K) := by
  refine F.ok scExt (fun vs H Q E h => ?_) (fun cdv A outer s H vs Q E hr h => ?_)
  · obtain ⟨p, gs, z, y, q, m, k, rfl, _⟩ := h
    rfl
  · obtain ⟨p, gs, z, y, q, m, kb, rfl, hp, gl, hm1, hm, ⟨ty, uy, iy, rfl⟩, k⟩ := h
    have hr1 := hr.mono (show 1 ≤ 7 by decide)
    have hr5 := hr.mono (show 5 ≤ 7 by decide)
    have hr6 := hr.mono (show 6 ≤ 7 by decide)
    have hr7 := hr.mono (show 7 ≤ 7 by decide)
    refine ⟨_, (pss_cons (ps_asg (pe_call PA.ok hr6 rfl PA.g PA.k PA.b .nil passL (pa_cons (pv 0) (pa_cons (pv 1) pa_nil))) (pg_tup (by rfl) (pgs_cons (pg_name (i := 3) scExt.nd rfl (Or.inl rfl)) (pgs_cons (pg_name (i := 4) scExt.nd rfl (Or.inl rfl)) pgs_nil))))
      (pss_cons (ps_set (i := 5) scExt.nd rfl (Or.inl rfl) (pe_binX (op := .Add) OA.op.own OA.ok hr7 OA.b passS (pv 4) (pv 2)))
      (pss_one (ps_ret (pe_ifExp (pt_cmp (pe_eqX EQ.at_ EQ.fn EQ.ok hr1 EQ.b passS (pv 5) (pe_make T.mkA GI hr5 rfl T.g bI hds passL (pa_cons pe_int pa_nil)))) (pv 3) (pe_op op_cat (pv 3) (pe_lst (pa_cons (pe_tup (pa_cons (pv 1) (pa_cons (pv 5) pa_nil))) pa_nil)))))))), ?_⟩
    refine ⟨_, rfl, _, rfl, p, gs, z, m, rfl, hp, hm1, by omega, fun H1 w l a hs t u s1 hw hl ia pe hle lnone => ?_⟩
    have iy1 := iy.same s1
    obtain ⟨pa, da, ea, ha, ⟨u0, _⟩, _⟩ := id ia
    obtain ⟨py, dy, ey, hy, ⟨uy0, _⟩, _⟩ := id iy1
    refine ⟨w, _, rfl, SqT.of hw, rfl, _, _, rfl, _, _, rfl, rfl, ?_⟩
    refine ⟨_, rfl, _, rfl, pa, da, _, ea, ha, OA.op.arg (.inl iy1), _, _, _, _, _, rfl, ia, .inr ⟨_, _, _, .inl iy1, by omega, fun z2 H2 t2 u2 s2 iz ez => ?_⟩⟩
    obtain ⟨pz, dz, rfl, hz, ⟨uz, _⟩, _⟩ := id iz
    have sv := vq_add (Int.ne_of_gt u0) (Int.ne_of_gt uy0) (Int.ne_of_gt uz) ez
    refine ⟨_, rfl, fun y3 dy3 h3 hd3 n3 => spInit_imp (make_fact T (n := 1) (a := 0) (b := 1) (by decide) (by decide) (by decide) (by decide) h3 hd3 n3) fun v3 H3 ⟨hv, t3, u3, s3, i3, e3⟩ => ⟨hv, ?_⟩⟩
    obtain ⟨p3, d3, eq3, hp3, r3, _⟩ := id i3
    have e30 : t3 = 0 ∧ u3 = 1 := Am.uniq r3 (by refine ⟨by decide, ?_⟩; decide) (by rw [e3])
    obtain ⟨rfl, rfl⟩ := e30
    refine ⟨pz, dz, _, rfl, s3 _ _ hz, .inl ⟨_, _, _, rfl, by cases eq3; exact hp3⟩, _, _, _, _, _, rfl, iz.same s3, .inl ⟨_, _, _, i3, _, rfl, ?_⟩⟩
    rw [qa_zero iz]
    have ex : M04.ext (rv gs) z (vq ty uy) = if vq t2 u2 = 0 then rv hs else rv hs ++ [(z, vq t2 u2)] := by
      unfold M04.ext
      rw [pe, ← sv]
    have s13 := s1.trans (s2.trans s3)
    by_cases c : vq t2 u2 = 0
    · rw [decide_eq_true c]
      rw [if_pos c] at ex
      refine iteT ⟨_, rfl, ?_⟩
      exact k _ l hs s13 ((hl.same (s2.trans s3)).mono (by omega)) ex.symm (by omega) lnone
    · rw [decide_eq_false c]
      rw [if_neg c] at ex
      refine iteF ⟨_, rfl, _, rfl, _, rfl, by show 2 ≤ sizeLine; decide, fun q4 h4 => ⟨by show 1 ≤ sizeLine; decide, fun l5 h5 => ?_⟩⟩
      have s4 := Same.upd (o := .tup [.str z, .ref pz]) h4
      have s5 := Same.upd (o := .lst [.ref q4]) h5
      refine ⟨l, l5, _, _, rfl, rfl, s5 _ _ (s4 _ _ (s3 _ _ (s2 _ _ hl.l))), upd_same, ?_, fun r6 h6 => ?_⟩
      · rw [List.length_map]
        exact Nat.le_trans (show hs.length + 1 ≤ 100 by omega) (by decide)
      · have s6 := Same.upd (o := .lst ((hs.map fun g => V.ref g.q) ++ [.ref q4])) h6
        have s36 := s4.trans (s5.trans s6)
        refine k _ r6 (hs ++ [⟨q4, pz, z, t2, u2⟩]) (s13.trans s36) ⟨by rw [upd_same, List.map_append]; rfl, fun g hg => ?_, by rw [List.length_append]; show hs.length + 1 ≤ 40; omega⟩ ?_ (by rw [List.length_append]; show hs.length + 1 ≤ _; omega) (none_of (s13.trans (s4.trans s5)) h6)
        · rcases List.mem_append.mp hg with hg | hg
          · exact ((hl.ok g hg).same ((s2.trans s3).trans s36)).mono (by omega)
          · rw [List.mem_singleton] at hg
            rw [hg]
            exact ⟨s6 _ _ (s5 _ _ upd_same), iz.same (s3.trans s36)⟩
        · rw [ex]
          unfold rv
          rw [List.map_append]
          rfl
end
end K13
set_option Elab.async false
set_option linter.all false
set_option maxRecDepth 100000
set_option maxHeartbeats 1000000
set_option exponentiation.threshold 100000
namespace K13
open PySem PySem.Spec PyProof.Rows L2 Fa Fb
/-- == of two points -/
def DAm (K : PySem.W.Frag) : Fq.EqvB := fun x y b H => ∃ t u n t2 u2 m, IsA K H x t u n ∧ IsA K H y t2 u2 m ∧ b = (decide (t = t2) && decide (u = u2))
theorem monB_am {K : PySem.W.Frag} : Fq.MonB (DAm K) := fun x y b H H' e ⟨t, u, n, t2, u2, m, h1, h2, h3⟩ => ⟨t, u, n, t2, u2, m, h1.same e, h2.same e, h3⟩
theorem am_same {x y : V} {K : PySem.W.Frag} {b : Bool} {H : Hp} (d : DAm K x y b H) : ∃ a c, x = .ref a ∧ y = .ref c ∧ (a = c → b = true) := by
  obtain ⟨t, u, n, t2, u2, m, ⟨p, dx, rfl, hp, _⟩, ⟨p2, dx2, rfl, hp2, _⟩, rfl⟩ := d
  refine ⟨p, p2, rfl, rfl, fun e => ?_⟩
  subst e
  rw [hp] at hp2
  have ef := (HO.ins.inj (Option.some.inj hp2)).2.2
  have e1 : t = t2 := by
    have := fl_top t u
    rw [ef, fl_top] at this
    cases this
    rfl
  have e2 : u = u2 := by
    have := fl_bot t u
    rw [ef, fl_bot] at this
    cases this
    rfl
  rw [e1, e2]
  simp
theorem rc_am {X : Cx} {f : Addr} {fd : FuncData} (EQ : EqK X.prog X.w X.K X.mg X.base f fd) : Fq.RcB X 1 (DAm X.K) := by
  intro A pins s σ H x y u v b sb I rx ry d
  obtain ⟨t, u', n, t2, u2, m, h1, h2, rfl⟩ := d
  obtain ⟨a, dx, rfl, ha, r1⟩ := id h1
  obtain ⟨c, dy, rfl, hc, r2⟩ := id h2
  cases rx
  cases ry
  obtain ⟨mA, J, _⟩ := ins_get I.hok ha
  obtain ⟨mB, J', _⟩ := ins_get I.hok hc
  obtain ⟨od, J, _⟩ := J.look
  obtain ⟨od', J', _⟩ := J'.look
  obtain ⟨m', hF⟩ := I.fr
  refine PySem.W.cmp_K (op := .Eq) (tb := .ref (CA X.K)) sb.room.units0 hF I.ok.mod.kin J J'.type (by simp [PySem.W.notFirst]) EQ.at_ EQ.fn ?_
  have hsp : spEq X.K [.ref a, .ref c] H (fun z H' => z = .bl (decide (t = t2) && decide (u' = u2)) ∧ H' = H) E0 := ⟨_, _, t, u', n, rfl, h1, .inl ⟨t2, u2, m, h2, rfl, rfl⟩⟩
  have e0 : Env0 X.prog X.w X.K X.mg X.base A X.stack s H := by
    have e := I.env0
    exact ⟨by rw [sb.fr]; exact e.frames, e.mod, e.bs, e.bsz, e.funs, e.frf, e.hok, e.bare⟩
  have vals : Vals [V.ref a, V.ref c] [Value.ref a, Value.ref c] := .cons rfl (.cons rfl .nil)
  have kin := I.kIn
  refine wpAny_call (codeAny_mono (EQ.ok.run A X.stack s H ⟨[.ref a, .ref c], []⟩ [.ref a, .ref c] [.ref a, .ref c] _ E0 sb.room e0 (by
    have := EQ.b s [.ref a, .ref c] kin rfl
    simpa using this) vals hsp) fun r s' hq => ?_)
  cases r with
  | error e => exact passL pins σ H s e s' I hq
  | ok fl =>
    cases fl with
    | ret w =>
      obtain ⟨z, H', I', rz, ez, ex⟩ := I.after hq
      subst ez
      cases rz
      exact ⟨rfl, H', I', by rw [ex]; exact Ext.rfl'⟩
    | next => exact False.elim hq
    | brk => exact False.elim hq
    | cont => exact False.elim hq

/-! ### == of flat values, amounts, and both -/
def DFl : Fq.EqvB := fun x y b _ => flatV x = true ∧ flatV y = true ∧ eqV x y = b
theorem monB_fl : Fq.MonB DFl := fun _ _ _ _ _ _ d => d
theorem eqB_fl {X : Cx} : Fq.EqB X 0 DFl := by
  intro A pins s σ H x y u v b sb I rx ry d
  obtain ⟨fx, fy, e⟩ := d
  have q := eqAt_V (A := A) (s := s) rx ry fx fy
  rw [e] at q
  exact q X.prog X.w X.xe _ ⟨rfl, H, I, Ext.rfl'⟩
theorem eqB_mono {X : Cx} {n m : Nat} {D : Fq.EqvB} (h : Fq.EqB X n D) (e : n ≤ m) : Fq.EqB X m D := fun A pins s σ H x y u v b sb I rx ry d => h A pins s σ H x y u v b ⟨sb.room.mono e, sb.fr⟩ I rx ry d
def DMix (K : PySem.W.Frag) : Fq.EqvB := fun x y b H => DFl x y b H ∨ DAm K x y b H
theorem monB_mix {K : PySem.W.Frag} : Fq.MonB (DMix K) := fun x y b H H' e d => d.imp (monB_fl _ _ _ _ _ e) (monB_am _ _ _ _ _ e)
theorem eqB_mix {X : Cx} {f : Addr} {fd : FuncData} (EQ : EqK X.prog X.w X.K X.mg X.base f fd) : Fq.EqB X 1 (DMix X.K) := by
  intro A pins s σ H x y u v b sb I rx ry d
  rcases d with d | d
  · exact eqB_mono eqB_fl (Nat.zero_le _) A pins s σ H x y u v b sb I rx ry d
  · exact ((rc_am EQ).eqB fun _ _ _ _ d => am_same d) A pins s σ H x y u v b sb I rx ry d
theorem allB_nil {D : Fq.EqvB} {H : Hp} : Fq.AllB D [] [] true H := .inr ⟨rfl, fun _ => true, (fun i x y e => by cases e), .inl ⟨rfl, fun i h => absurd h (Nat.not_lt_zero _)⟩⟩
theorem allB_cons {D : Fq.EqvB} {H : Hp} {x y : V} {xs ys : List V} {a b : Bool} (d : D x y a H) (p : Fq.AllB D xs ys b H) : Fq.AllB D (x :: xs) (y :: ys) (a && b) H := by
  rcases p with ⟨ne, rfl⟩ | ⟨el, bs, pb, hb⟩
  · exact .inl ⟨by simpa using ne, by simp⟩
  · refine .inr ⟨by simpa using el, fun i => match i with | 0 => a | i + 1 => bs i, fun i x' y' e1 e2 => ?_, ?_⟩
    · cases i with
      | zero => cases e1; cases e2; exact d
      | succ i => exact pb i x' y' e1 e2
    · cases a with
      | false => exact .inr ⟨rfl, 0, Nat.succ_pos _, rfl⟩
      | true =>
        rcases hb with ⟨rfl, all⟩ | ⟨rfl, i, hi, e⟩
        · refine .inl ⟨rfl, fun i hi => ?_⟩
          cases i with
          | zero => rfl
          | succ i => exact all i (Nat.lt_of_succ_lt_succ hi)
        · exact .inr ⟨rfl, i + 1, Nat.succ_lt_succ hi, e⟩
theorem dec_cons {α : Type} [DecidableEq α] {x y : α} {xs ys : List α} : (decide (x = y) && decide (xs = ys)) = decide (x :: xs = y :: ys) := by
  by_cases c : x = y
  · by_cases c2 : xs = ys
    · subst c c2; simp
    · simp [c, c2]
  · simp [c]
theorem allB_map {D : Fq.EqvB} {H : Hp} {α β : Type} [DecidableEq α] {v : β → V} {f : β → α} : ∀ {gs hs : List β}, (∀ g ∈ gs, ∀ h ∈ hs, D (v g) (v h) (decide (f g = f h)) H) → Fq.AllB D (gs.map v) (hs.map v) (decide (gs.map f = hs.map f)) H
  | [], [], _ => allB_nil
  | [], h :: hs, _ => .inl ⟨by simp, by simp⟩
  | g :: gs, [], _ => .inl ⟨by simp, by simp⟩
  | g :: gs, h :: hs, p => by
    rw [List.map_cons, List.map_cons, List.map_cons, List.map_cons, ← dec_cons]
    exact allB_cons (p g List.mem_cons_self h List.mem_cons_self) (allB_map fun a ha b hb => p a (List.mem_cons_of_mem _ ha) b (List.mem_cons_of_mem _ hb))
theorem tupB_same {K : PySem.W.Frag} {x y : V} {b : Bool} {H : Hp} (d : Fq.DTupB (DMix K) x y b H) : ∃ a c, x = .ref a ∧ y = .ref c ∧ (a = c → b = true) := by
  obtain ⟨a, c, xs, ys, rfl, rfl, h1, h2, hl, p⟩ := d
  refine ⟨a, c, rfl, rfl, fun e => ?_⟩
  subst e
  rw [h1] at h2
  cases h2
  rcases p with ⟨ne, _⟩ | ⟨_, bs, pb, ⟨e, _⟩ | ⟨_, i, hi, eb⟩⟩
  · exact absurd rfl ne
  · exact e
  · have ei : xs[i]? = some xs[i] := List.getElem?_eq_getElem hi
    exfalso
    rcases pb i _ _ ei ei with ⟨f1, _, e⟩ | d
    · rw [eb] at e
      generalize xs[i] = z at f1 e
      cases z <;> simp [eqV, flatV] at e f1
    · obtain ⟨p, q, e1, e2, hs⟩ := am_same d
      rw [hs (V.ref.inj (e1.symm.trans e2))] at eb
      cases eb
theorem rc_row {X : Cx} {f : Addr} {fd : FuncData} (EQ : EqK X.prog X.w X.K X.mg X.base f fd) : Fq.RcB X 3 (Fq.DListB (Fq.DTupB (DMix X.K))) :=
  Fq.rcB_list (Fq.monB_tup monB_mix) ((Fq.rcB_tup monB_mix (eqB_mix EQ)).eqB fun _ _ _ _ d => tupB_same d)
theorem monB_list {D : Fq.EqvB} (hD : Fq.MonB D) : Fq.MonB (Fq.DListB D) := fun x y b H H' e d => by
  obtain ⟨a, c, xs, ys, hx, hy, h1, h2, p⟩ := d
  exact ⟨a, c, xs, ys, hx, hy, e _ _ h1, e _ _ h2, p.mon hD e⟩
theorem monB_row {K : PySem.W.Frag} : Fq.MonB (Fq.DListB (Fq.DTupB (DMix K))) := monB_list (Fq.monB_tup monB_mix)
theorem listB_same {D : Fq.EqvB} (hs : ∀ {x y b H}, D x y b H → ∃ a c, x = .ref a ∧ y = .ref c ∧ (a = c → b = true)) {x y : V} {b : Bool} {H : Hp} (d : Fq.DListB D x y b H) : ∃ a c, x = .ref a ∧ y = .ref c ∧ (a = c → b = true) := by
  obtain ⟨a, c, xs, ys, rfl, rfl, h1, h2, p⟩ := d
  refine ⟨a, c, rfl, rfl, fun e => ?_⟩
  subst e
  rw [h1] at h2
  cases h2
  rcases p with ⟨ne, _⟩ | ⟨_, bs, pb, ⟨e, _⟩ | ⟨_, i, hi, eb⟩⟩
  · exact absurd rfl ne
  · exact e
  · have ei : xs[i]? = some xs[i] := List.getElem?_eq_getElem hi
    obtain ⟨p, q, e1, e2, hs⟩ := hs (pb i _ _ ei ei)
    rw [hs (V.ref.inj (e1.symm.trans e2))] at eb
    cases eb
theorem eqB_row {X : Cx} {f : Addr} {fd : FuncData} (EQ : EqK X.prog X.w X.K X.mg X.base f fd) : Fq.EqB X 3 (Fq.DListB (Fq.DTupB (DMix X.K))) := (rc_row EQ).eqB fun _ _ _ _ d => listB_same tupB_same d
theorem strB {K : PySem.W.Frag} {a b : Str} {H : Hp} : DMix K (.str a) (.str b) (decide (a = b)) H := .inl ⟨rfl, rfl, by show (a == b) = _; rw [Bool.eq_iff_iff, beq_iff_eq, decide_eq_true_iff]⟩
theorem amB {K : PySem.W.Frag} {x y : V} {t u t2 u2 : Int} {n m : Nat} {H : Hp} (h : IsA K H x t u n) (h2 : IsA K H y t2 u2 m) : DMix K x y (decide (vq t u = vq t2 u2)) H := by
  obtain ⟨_, _, _, _, r, _⟩ := id h
  obtain ⟨_, _, _, _, r2, _⟩ := id h2
  exact .inr ⟨t, u, n, t2, u2, m, h, h2, (am_dec r r2).symm⟩
theorem dec_pair {α β : Type} [DecidableEq α] [DecidableEq β] {a b : α} {c d : β} : (decide (a = b) && (decide (c = d) && true)) = decide ((a, c) = (b, d)) := by
  by_cases h : a = b
  · by_cases h2 : c = d
    · simp [h, h2]
    · simp [h, h2]
  · simp [h]
theorem it_eqB {K : PySem.W.Frag} {n m : Nat} {H : Hp} {g h : It} (a : ItOk K n H g) (b : ItOk K m H h) : Fq.DTupB (DMix K) (.ref g.q) (.ref h.q) (decide ((g.s, vq g.t g.u) = (h.s, vq h.t h.u))) H := by
  refine ⟨g.q, h.q, _, _, rfl, rfl, a.1, b.1, rfl, ?_⟩
  rw [← dec_pair]
  exact allB_cons strB (allB_cons (amB a.2 b.2) allB_nil)
theorem row_eqB {K : PySem.W.Frag} {n m : Nat} {H : Hp} {p q : Addr} {gs hs : List It} (a : RowOk K n H p gs) (b : RowOk K m H q hs) : Fq.DListB (Fq.DTupB (DMix K)) (.ref p) (.ref q) (decide (rv gs = rv hs)) H :=
  ⟨p, q, _, _, rfl, rfl, a.l, b.l, allB_map fun g hg h hh => it_eqB (a.ok g hg) (b.ok h hh)⟩
end K13
set_option Elab.async false
set_option linter.all false
set_option maxRecDepth 100000
set_option maxHeartbeats 4000000
/-! x in o and len(o) by methods of o's own class. -/
namespace Fo
open PySem PySem.Spec PyProof.Rows L2
section
variable {X : Cx} {CX : CXT} {k : Nat} {f C : Addr} {fd : FuncData} {ps : List Str} {sp : Sp} {E : L2.St → XK} {a b e : Expr} {ta tb : TE} {pos p : Pos}
def tInX (C : Addr) (sp : Sp) (E : L2.St → XK) (neg : Bool) (ta tb : TE) : TE := fun σ H Q => ta σ H fun x H1 => tb σ H1 fun y H2 => ∃ p dx fs, y = .ref p ∧ H2 p = some (.ins C dx fs) ∧ sp [y, x] H2 (fun v H3 => ∃ k : Bool, v = .bl k ∧ Q (.bl (if neg then !k else k)) H3) (E σ)
theorem in_go (at_ : PySem.W.findIn X.K (.ref C) "__contains__" = some (some (.ref f))) (F : FnOk X.prog X.w X.K X.mg X.base CX k f fd ps sp) (hr : Room k X.A) (hb : Binds X.K fd ps []) {E0 : XK} {σ : L2.St} (hx : PassesAt CX X σ E0) {pins : List (Addr × Obj)} {H2 : Hp} {s2 : Shared} {p0 : Addr} {x : V} {v : Value} {Q : VK} {neg : Bool} (I2 : Inv X pins σ H2 s2) (rx : RelV x v)
    (q : sp [.ref p0, x] H2 (fun v H3 => ∃ k : Bool, v = .bl k ∧ Q (.bl (if neg then !k else k)) H3) E0) :
    wpAny (model X.prog X.w) X.A (call (.ref f) [.ref p0, v]) (fun r s' => wpAny (model X.prog X.w) X.A (truthy r) (fun b => EP X pins σ Q (.bool (if neg then !b else b))) X.xe s') X.xe s2 := by
  have hl : ([V.ref p0, x]).length = ps.length := F.len _ _ _ _ q
  refine wpAny_call (codeAny_mono (F.run X.A X.stack s2 H2 ⟨[.ref p0, v], []⟩ [.ref p0, v] [.ref p0, x] _ E0 hr I2.env0 (by
    have z := hb s2 [.ref p0, v] I2.kIn (by simpa using hl)
    simpa using z) (.cons rfl (.cons rx .nil)) q) fun r s' hq => ?_)
  cases r with
  | error e => exact hx pins H2 s2 e s' I2 hq
  | ok fl =>
    cases fl with
    | ret u =>
      obtain ⟨z, H', I', rz, kk, ez, q2⟩ := I2.after hq
      subst ez
      cases rz
      exact wpAny_truthy_bool ⟨.bl (if neg then !kk else kk), H', I', by cases neg <;> rfl, q2⟩
    | next => exact False.elim hq
    | brk => exact False.elim hq
    | cont => exact False.elim hq
theorem pc_inX (at_ : PySem.W.findIn X.K (.ref C) "__contains__" = some (some (.ref f))) (fn : PySem.W.isFn X.K (.ref f) = true) (F : FnOk X.prog X.w X.K X.mg X.base CX k f fd ps sp) (hr : Room k X.A) (hb : Binds X.K fd ps []) (hx : ∀ σ, PassesAt CX X σ (E σ)) (ha : PE X a ta) (hb2 : PE X b tb) :
    PC X .In a b (tInX C sp E false ta tb) := by
  refine ⟨fun pins s σ H Q I h => ?_⟩
  refine bin ha hb2 I h fun v u s2 x y H2 I2 rx ry q => ?_
  obtain ⟨p0, dx, fs, ey, hp, q⟩ := q
  subst ey
  obtain rfl : u = Value.ref p0 := ry
  obtain ⟨mA, O, _⟩ := ins_get I2.hok hp
  obtain ⟨od, J, _⟩ := O.look
  obtain ⟨m, hF⟩ := I2.fr
  exact PySem.W.in_K hF I2.ok.mod.kin J at_ fn (in_go (neg := false) at_ F hr hb (hx σ) I2 rx q)
theorem pc_notInX (at_ : PySem.W.findIn X.K (.ref C) "__contains__" = some (some (.ref f))) (fn : PySem.W.isFn X.K (.ref f) = true) (F : FnOk X.prog X.w X.K X.mg X.base CX k f fd ps sp) (hr : Room k X.A) (hb : Binds X.K fd ps []) (hx : ∀ σ, PassesAt CX X σ (E σ)) (ha : PE X a ta) (hb2 : PE X b tb) :
    PC X .NotIn a b (tInX C sp E true ta tb) := by
  refine ⟨fun pins s σ H Q I h => ?_⟩
  refine bin ha hb2 I h fun v u s2 x y H2 I2 rx ry q => ?_
  obtain ⟨p0, dx, fs, ey, hp, q⟩ := q
  subst ey
  obtain rfl : u = Value.ref p0 := ry
  obtain ⟨mA, O, _⟩ := ins_get I2.hok hp
  obtain ⟨od, J, _⟩ := O.look
  obtain ⟨m, hF⟩ := I2.fr
  exact PySem.W.notIn_K hF I2.ok.mod.kin J at_ fn (in_go (neg := true) at_ F hr hb (hx σ) I2 rx q)
def tLenX (C : Addr) (sp : Sp) (E : L2.St → XK) (ta : TE) : TE := fun σ H Q => ta σ H fun x H1 => ∃ p dx fs, x = .ref p ∧ H1 p = some (.ins C dx fs) ∧ sp [x] H1 (fun v H3 => ∃ n : Nat, v = .int (n : Int) ∧ n ≤ 1000000 ∧ Q (.int (n : Int)) H3) (E σ)
theorem pe_lenX (at_ : PySem.W.findIn X.K (.ref C) "__len__" = some (some (.ref f))) (fn : PySem.W.isFn X.K (.ref f) = true) (F : FnOk X.prog X.w X.K X.mg X.base CX k f fd ps sp) (hr : Room (k + 2) X.A) (hb : Binds X.K fd ps []) (hx : ∀ σ, PassesAt CX X σ (E σ)) (hg : Gl X "len") (hm : X.mg "len" = none) (ha : PE X e ta)
    (he : starEach [e] X.env = (false, eval e X.env) :: starEach [] X.env := by rfl) (hpl : (backTo pos (starEach [] X.env)).any (·.1) = false := by rfl) :
    PE X (.Call (.Name "len" p) [e] [] pos) (tLenX C sp E ta) := by
  refine ⟨fun pins s σ H Q I h => ?_⟩
  refine wpAny_Call_Name_kw (ld_blt I hg hm PySem.boot_len ?_)
  refine PyProof.Rows.callWith_builtin1 ?_ he hpl
  rw [he]
  show wpAny _ _ (spliced ((false, eval e X.env) :: backTo pos (starEach [] X.env))) _ _ s
  refine Calls.spliced_cons (thn (ha.run pins s σ H _ I h) fun v s1 ⟨x, H1, I1, r1, q1⟩ => Calls.spliced_nil ?_)
  obtain ⟨q0, dx, fs, ex, hp, q⟩ := q1
  subst ex
  obtain rfl : v = Value.ref q0 := r1
  obtain ⟨mA, O, _⟩ := ins_get I1.hok hp
  obtain ⟨od, J, _⟩ := O.look
  obtain ⟨m, hF⟩ := I1.fr
  have hr2 : Room k X.A.in1 := (show Room (k + 1) X.A.in1 from Room.in1 hr).mono (Nat.le_succ _)
  have hl : ([Value.ref q0]).length = ps.length := by
    rw [← F.len _ _ _ _ q]
    rfl
  refine PySem.W.len_K hF I1.ok.mod.kin J at_ fn ?_
  refine wpAny_call (codeAny_mono (F.run X.A.in1 X.stack s1 H1 ⟨[.ref q0], []⟩ [.ref q0] [.ref q0] _ (E σ) hr2 I1.env0.in1 (hb s1 [.ref q0] I1.kIn hl) (.cons rfl .nil) q) fun r s' hq => ?_)
  cases r with
  | error e => exact hx σ pins H1 s1 e s' I1 hq
  | ok fl =>
    cases fl with
    | ret u =>
      obtain ⟨z, H', I', rz, n, ez, hn, q2⟩ := I1.after hq
      subst ez
      obtain ⟨t, rfl⟩ := rz
      exact ⟨⟨by omega, Int.lt_of_le_of_lt (show (n : Int) ≤ 1000000 by omega) (by decide)⟩, .int (n : Int), H', I'.tok _, ⟨_, rfl⟩, q2⟩
    | next => exact False.elim hq
    | brk => exact False.elim hq
    | cont => exact False.elim hq
end
end Fo
set_option Elab.async false
set_option linter.all false
set_option maxRecDepth 100000
set_option maxHeartbeats 1000000
set_option exponentiation.threshold 100000
namespace K13
open PySem PySem.Spec PyProof.Rows L2 Fa Fb
theorem kT {K : PySem.W.Frag} {A B : String} (h : kitB A B = some true) : PySem.W.kitOne K (.type A) (.type B) = some true := kit_ty h
theorem kF {K : PySem.W.Frag} {A B : String} (h : kitB A B = some false) : PySem.W.kitOne K (.type A) (.type B) = some false := kit_ty h
theorem ka_list {K : PySem.W.Frag} : PySem.W.kitAny K (.type "list") [.type "list", .type "tuple"] = some true := by
  unfold PySem.W.kitAny
  rw [kT (by decide +kernel)]
theorem ka_tuple {K : PySem.W.Frag} : PySem.W.kitAny K (.type "tuple") [.type "list", .type "tuple"] = some true := by
  unfold PySem.W.kitAny
  rw [kF (by decide +kernel)]
  unfold PySem.W.kitAny
  rw [kT (by decide +kernel)]
theorem ty_sqt {K : PySem.W.Frag} {H : Hp} {a : Addr} {xs : List V} (h : SqT K H a xs) : TyX K H (.ref a) (.type "tuple") := by
  rcases h with (h | ⟨o, h⟩) | ⟨o, its, n, h, hc, _⟩
  · exact .base (.tup h)
  · exact .fTuple h
  · exact .kTuple h hc
theorem arg_am {K : PySem.W.Frag} {mg : Str → Option Value} (T : AF K mg) {H : Hp} {x : V} {t u : Int} {n : Nat} (h : Arg K H x t u n) : ∃ ty b1 b2, TyX K H x ty ∧ PySem.W.kitOne K ty (.ref (CA K)) = some b1 ∧ Wh K H x b2 ∧ (b1 || b2) = true := by
  rcases h with ⟨p, dx, rfl, hp, _⟩ | ⟨rfl, _⟩
  · exact ⟨_, true, false, T.ty hp, T.kS, T.wh hp, rfl⟩
  · exact ⟨_, false, true, .base (.int t), T.kT "int" (by simp [tys]), wh_int t, rfl⟩
theorem Arg.same {K : PySem.W.Frag} {H H' : Hp} {x : V} {t u : Int} {n : Nat} (h : Arg K H x t u n) (s : Same H H') : Arg K H' x t u n := h.imp (fun h => h.same s) id
theorem Arg.pos {K : PySem.W.Frag} {H : Hp} {x : V} {t u : Int} {n : Nat} (h : Arg K H x t u n) : 0 < u := by
  rcases h with ⟨_, _, _, _, ⟨a, _⟩, _⟩ | ⟨_, e, _⟩
  · exact a
  · rw [e]; decide
theorem ka_no {K : PySem.W.Frag} {T : String} (h1 : kitB T "list" = some false) (h2 : kitB T "tuple" = some false) : PySem.W.kitAny K (.type T) [.type "list", .type "tuple"] = some false := by
  unfold PySem.W.kitAny
  rw [kit_ty h1]
  unfold PySem.W.kitAny
  rw [kit_ty h2]
  rfl
theorem pg_or {X : Cx} {e : Expr} {t u : TG} (h : PG X e t) (h2 : PG X e u) : PG X e (fun v σ H Q => t v σ H Q ∨ u v σ H Q) := ⟨fun pins s σ H v u Q I r z => z.elim (h.run pins s σ H v u Q I r) (h2.run pins s σ H v u Q I r)⟩
/-! ### a sheet in the heap -/
abbrev CS (K : PySem.W.Frag) : Addr := He.ga K "Sheet"
abbrev shFl (c r d : Addr) : List (Str × V) := putF "_numbers" (.ref d) (putF "_rows" (.ref r) (putF "_cues" (.ref c) []))
theorem sh_c (c r d : Addr) : (shFl c r d).lookup ("_cues" : Str) = some (.ref c) := rfl
theorem sh_r (c r d : Addr) : (shFl c r d).lookup ("_rows" : Str) = some (.ref r) := rfl
theorem sh_d (c r d : Addr) : (shFl c r d).lookup ("_numbers" : Str) = some (.ref d) := rfl
structure MF (K : PySem.W.Frag) (mg : Str → Option Value) : Prop where
  cl : Cls K (CS K)
  n1 : NoAttr K (CS K) "_cues"
  n2 : NoAttr K (CS K) "_rows"
  n3 : NoAttr K (CS K) "_numbers"
  g : mg "Sheet" = some (.ref (CS K))
structure Cu where
  q : Addr
  a : Addr
  nm : Str
  pa : Str
  un : Str
  t : Int
  u : Int
def cv (g : Cu) : M04.Cue := ⟨g.nm, g.pa, g.un, vq g.t g.u⟩
def CuOk (K : PySem.W.Frag) (n : Nat) (H : Hp) (g : Cu) : Prop := H g.q = some (.tup [.str g.nm, .str g.pa, .str g.un, .ref g.a]) ∧ IsA K H (.ref g.a) g.t g.u n
theorem CuOk.same {K : PySem.W.Frag} {n : Nat} {H H' : Hp} {g : Cu} (h : CuOk K n H g) (s : Same H H') : CuOk K n H' g := ⟨s _ _ h.1, h.2.same s⟩
def numK (nums : List (Str × Nat)) : List (Key × V) := nums.map fun z => (Sum.inr z.1, V.int (z.2 : Int))
theorem valV_num (nums : List (Str × Nat)) (x : Str) : valV (numK nums) (Sum.inr x) = (M04.num nums x).map fun (i : Nat) => V.int (i : Int) := by
  induction nums with
  | nil => rfl
  | cons z r ih =>
    unfold valV numK M04.num at *
    rw [List.map_cons, List.find?_cons, List.find?_cons]
    by_cases c : z.1 = x
    · simp [c]
    · have e1 : decide ((Sum.inr z.1 : Key) = Sum.inr x) = false := decide_eq_false fun e => c (Sum.inr.inj e)
      have e2 : decide (z.1 = x) = false := decide_eq_false c
      rw [e1, e2]
      exact ih
def bitsOf (mm : Nat) (gs : List Cu) : Nat := (gs.length + 1) * (mm + 1)
structure Inn (K : PySem.W.Frag) (mm : Nat) (H0 H : Hp) (c r d : Addr) (gs : List Cu) (rs : List (Addr × List It)) : Prop where
  cl : H c = some (.lst (gs.map fun g => V.ref g.q))
  cok : ∀ g ∈ gs, CuOk K mm H g
  rl : H r = some (.lst (rs.map fun z => V.ref z.1))
  rok : ∀ z ∈ rs, RowOk K (bitsOf mm gs) H z.1 z.2 ∧ z.2.length ≤ gs.length ∧ H0 z.1 = none ∧ z.1 ≠ c ∧ z.1 ≠ r
  rv : (rs.map fun z => rv z.2) = (M04.all (gs.map cv)).rows
  dk : H d = some (.dK (numK (M04.all (gs.map cv)).nums))
  n : gs.length ≤ 20
  mm : 1 ≤ mm ∧ mm ≤ 200
  c0 : H0 c = none
  r0 : H0 r = none
  d0 : H0 d = none
  cr : c ≠ r
  old : ∀ q, H q = none → H0 q = none
theorem Inn.same {K : PySem.W.Frag} {mm : Nat} {H0 H H' : Hp} {c r d : Addr} {gs : List Cu} {rs : List (Addr × List It)} (h : Inn K mm H0 H c r d gs rs) (s : Same H H') : Inn K mm H0 H' c r d gs rs :=
  ⟨s _ _ h.cl, fun g hg => (h.cok g hg).same s, s _ _ h.rl, fun z hz => ⟨(h.rok z hz).1.same s, (h.rok z hz).2⟩, h.rv, s _ _ h.dk, h.n, h.mm, h.c0, h.r0, h.d0, h.cr, fun q z => h.old q (none_of s z)⟩
/-- an item of the told cues -/
def CueArg (K : PySem.W.Frag) (n : Nat) (H : Hp) (it : Addr) (c : M04.Cue) : Prop := ∃ x t u, (H it = some (.lst [.str c.nm, .str c.pa, .str c.un, x]) ∨ H it = some (.tup [.str c.nm, .str c.pa, .str c.un, x])) ∧ Arg K H x t u n ∧ vq t u = c.q
theorem CueArg.same {K : PySem.W.Frag} {n : Nat} {H H' : Hp} {it : Addr} {c : M04.Cue} (h : CueArg K n H it c) (s : Same H H') : CueArg K n H' it c := by
  obtain ⟨x, t, u, h1, h2, h3⟩ := h
  exact ⟨x, t, u, h1.imp (s _ _) (s _ _), h2.same s, h3⟩
abbrev Ok4 (nums : List (Str × Nat)) (c : M04.Cue) : Prop := isName c.nm = true ∧ M04.num nums c.nm = none ∧ (M04.num nums c.pa).isSome = true ∧ isUnit c.un = true
def spCC (K : PySem.W.Frag) : Sp := fun vs H Q _ => ∃ it d n c nums, vs = [.ref it, .ref d] ∧ CueArg K n H it c ∧ H d = some (.dK (numK nums)) ∧ Ok4 nums c ∧ ∀ H', Same H H' → Q .non H'
/-- all but the three parts is as it was -/
def Kp3 (c r d : Addr) (H H' : Hp) : Prop := ∀ q o, q ≠ c → q ≠ r → q ≠ d → H q = some o → H' q = some o
theorem Kp3.same {c r d : Addr} {H H' : Hp} (s : Same H H') : Kp3 c r d H H' := fun q o _ _ _ h => s q o h
theorem Kp3.trans {c r d : Addr} {H H1 H2 : Hp} (a : Kp3 c r d H H1) (b : Kp3 c r d H1 H2) : Kp3 c r d H H2 := fun q o h1 h2 h3 h => b q o h1 h2 h3 (a q o h1 h2 h3 h)
def spTell (K : PySem.W.Frag) : Sp := fun vs H Q _ => ∃ (o it dx c r d : Addr) (mm : Nat) (H0 : Hp) (gs : List Cu) (rs : List (Addr × List It)) (cu : M04.Cue), vs = [.ref o, .ref it] ∧ H o = some (.ins (CS K) dx (shFl c r d)) ∧ Inn K mm H0 H c r d gs rs ∧ gs.length < 20 ∧ CueArg K mm H it cu ∧ Ok4 (M04.all (gs.map cv)).nums cu ∧
  ∀ H' g rs', Kp3 c r d H H' → Inn K mm H0 H' c r d (gs ++ [g]) rs' → cv g = cu → Q .non H'
abbrev sCC : Stmt := top 43
abbrev sTel : Stmt := inClass (top 42) 1
theorem scCC : FnScope ["item", "known", "name", "parent", "unit", "amount"] ["item", "known"] (defScope sCC) := ⟨rfl, rfl, rfl, by decide +kernel, rfl, by decide +kernel, by decide +kernel⟩
theorem scTel : FnScope ["self", "item", "name", "parent", "unit", "amount", "shift", "row"] ["self", "item"] (defScope sTel) := ⟨rfl, rfl, rfl, by decide +kernel, rfl, by decide +kernel, by decide +kernel⟩
theorem isName_len {z : Str} (h : isName z = true) : z.length ≤ 8 := by
  unfold isName at h
  rw [Bool.and_eq_true, Bool.and_eq_true] at h
  exact of_decide_eq_true h.1.2
section
variable {P : Program} {w : World} {K : PySem.W.Frag} {mg : Str → Option Value} {base : Heap} {f fL fN fC fA fS fX fE : Addr} {fd fdL fdN fdC fdA fdS fdX fdE : FuncData} {aU : Addr}
theorem ok_cc (F : FnP K "check_cue" sCC f fd) (T : AF K mg) (V : VF K mg aU) (mL : mg "len" = none) (LS : Fn P w K mg base "is_listing" 1 ["value"] (spLs K) fL fdL) (NA : Fn P w K mg base "is_name" 2 ["value"] (spName K) fN fdN) (CK : Fn P w K mg base "check_unit" 2 ["unit"] (spChk K) fC fdC) (IA : Fn P w K mg base "is_amount" 2 ["value"] (spIsA K) fA fdA) :
    FnOk P w K mg base (L2.CX P w) 3 f fd ["item", "known"] (spCC K) := by
  refine F.ok scCC (fun vs H Q E h => ?_) (fun cdv A outer s H vs Q E hr h => ?_)
  · obtain ⟨it, d, n, c, nums, rfl, _⟩ := h
    rfl
  · obtain ⟨it, d, n, c, nums, rfl, ca, hd, ⟨o1, o2, o3, o4⟩, k⟩ := h
    have hu1 : (A.deeper (envOfC "check_cue" (defScope sCC) s.heap.objs.size f cdv)).units + 1 < cLine := by
      have := hr.un
      omega
    have hr1 := hr.mono (show 1 ≤ 2 by decide)
    have hr2 := hr.mono (show 2 ≤ 2 by decide)
    refine ⟨_, (pss_cons (ps_if (PW.pt (pw_or (pt_not (pt_val (pe_call LS.ok hr1 rfl LS.g LS.k LS.b .nil passL (pa_cons (pv 0) pa_nil)))) (pw_or1 (pt_cmpR op_ne (pe_callB call_len rfl mL PySem.boot_len (pa_cons (pv 0) pa_nil)) pe_int (nomark _))))) pss_never pss_nil)
      (pss_cons (ps_asg (pv 0) (pg_or (pg_lst (by rfl) (pgs_cons (pg_name (i := 2) scCC.nd rfl (Or.inl rfl)) (pgs_cons (pg_name (i := 3) scCC.nd rfl (Or.inl rfl)) (pgs_cons (pg_name (i := 4) scCC.nd rfl (Or.inl rfl)) (pgs_cons (pg_name (i := 5) scCC.nd rfl (Or.inl rfl)) pgs_nil))))) (pg_tup (by rfl) (pgs_cons (pg_name (i := 2) scCC.nd rfl (Or.inl rfl)) (pgs_cons (pg_name (i := 3) scCC.nd rfl (Or.inl rfl)) (pgs_cons (pg_name (i := 4) scCC.nd rfl (Or.inl rfl)) (pgs_cons (pg_name (i := 5) scCC.nd rfl (Or.inl rfl)) pgs_nil)))))))
      (pss_cons (ps_if (pt_not (pt_val (pe_call NA.ok hr2 rfl NA.g NA.k NA.b .nil passL (pa_cons (pv 2) pa_nil)))) pss_never pss_nil)
      (pss_cons (ps_if (pt_cmp (pc_din hu1 (pv 2) (pv 1))) pss_never pss_nil)
      (pss_cons (ps_if (PW.pt (pw_or (pt_not (pt_val (pe_isi T.isi (pv 3) (pe_ty V.str boot_str)))) (pw_or1 (pt_cmp (pc_dnotin hu1 (pv 3) (pv 1)))))) pss_never pss_nil)
      (pss_cons (ps_expr (pe_call CK.ok hr2 rfl CK.g CK.k CK.b .nil passL (pa_cons (pv 4) pa_nil)))
      (pss_one (ps_if (pt_not (pt_val (pe_call IA.ok hr2 rfl IA.g IA.k IA.b .nil passL (pa_cons (pv 5) pa_nil)))) pss_never pss_nil)))))))), ?_⟩
    obtain ⟨x, t, u, hit, ar, eq⟩ := id ca
    have ty : ∃ T0, (∀ J, Same H J → TyX K J (.ref it) T0) ∧ PySem.W.kitAny K T0 [.type "list", .type "tuple"] = some true := by
      rcases hit with h | h
      · exact ⟨_, fun J s => .base (.lst (s _ _ h)), ka_list⟩
      · exact ⟨_, fun J s => .base (.tup (s _ _ h)), ka_tuple⟩
    obtain ⟨T0, ty, kt⟩ := ty
    refine ⟨_, rfl, _, T0, true, rfl, ty, kt, fun H1 s1 => ?_⟩
    have un : ∀ J, Same H J → ∀ (m : Nat) (tt : TGs) (σ : L2.St) (Q' : L2.St → Hp → Prop), m = 4 → tt [.str c.nm, .str c.pa, .str c.un, x] σ J Q' → gLst K m tt (.ref it) σ J Q' ∨ gTup K m tt (.ref it) σ J Q' := fun J sJ m tt σ Q' e z => by
      subst e
      rcases hit with h | h
      · exact .inl ⟨it, _, rfl, SqL.of (sJ _ _ h), rfl, z⟩
      · exact .inr ⟨it, _, rfl, SqT.of (sJ _ _ h), rfl, z⟩
    have len4 : LenV K (.ref it) H1 4 := by
      rcases hit with h | h
      · exact .inl ⟨_, SqL.of (s1 _ _ h), rfl⟩
      · exact .inr ⟨_, SqT.of (s1 _ _ h), rfl⟩
    refine ⟨_, rfl, iteF ⟨_, rfl, _, 4, rfl, len4, rfl, _, rfl, if_false_of (by rfl) ?_⟩⟩
    refine ⟨_, rfl, un H1 s1 _ _ _ _ rfl ⟨_, _, rfl, _, _, rfl, _, _, rfl, _, _, rfl, rfl, ?_⟩⟩
    refine ⟨_, rfl, _, rfl, .inr ⟨c.nm, rfl, Nat.le_trans (isName_len o1) (by decide), fun H2 s2 => ⟨_, rfl, ?_⟩⟩⟩
    rw [o1]
    refine iteF ?_
    have s12 := s1.trans s2
    have hd2 := s12 _ _ hd
    refine ⟨_, rfl, _, rfl, d, none, rfl, .inl ⟨_, Sum.inr c.nm, Rd.of hd2, rfl, by rw [valV_num, o2]; rfl⟩, ?_⟩
    obtain ⟨i, ei⟩ := Option.isSome_iff_exists.mp o3
    refine ⟨_, rfl, iteF ?_⟩
    refine ⟨_, rfl, .str c.pa, _, _, _, true, rfl, .ty "str", TyX.base (.str c.pa), tx_str, true, rfl, iteF ?_⟩
    refine ⟨_, rfl, _, rfl, d, some (.int i), rfl, .inl ⟨_, Sum.inr c.pa, Rd.of hd2, rfl, by rw [valV_num, ei]; rfl⟩, _, rfl, iteF ?_⟩
    refine ⟨_, rfl, _, rfl, .inr ⟨c.un, rfl, (fun h => by rw [o4] at h; cases h), fun _ => ?_⟩⟩
    obtain ⟨ty1, c1, c2, d1, d2, d3, d4⟩ := arg_am T (ar.same s12)
    refine ⟨_, rfl, _, ty1, c1, c2, rfl, d1, d2, d3, _, rfl, ?_⟩
    rw [d4]
    exact iteF (k _ s12)
end
end K13
set_option Elab.async false
set_option linter.all false
set_option maxRecDepth 100000
set_option maxHeartbeats 1000000
set_option exponentiation.threshold 100000
namespace K13
open PySem PySem.Spec PyProof.Rows L2 Fa Fb
/-- a list or a dict stands at a -/
def NoTI (H : Hp) (a : Addr) : Prop := (∃ xs, H a = some (.lst xs)) ∨ ∃ kv, H a = some (.dK kv)
theorem NoTI.tup {H : Hp} {a q : Addr} {xs : List V} (h : NoTI H a) (z : H q = some (.tup xs)) : q ≠ a := fun e => by
  subst e
  rcases h with ⟨_, h⟩ | ⟨_, h⟩ <;> (rw [z] at h; cases h)
theorem NoTI.ins {H : Hp} {a q C dx : Addr} {fs : List (Str × V)} (h : NoTI H a) (z : H q = some (.ins C dx fs)) : q ≠ a := fun e => by
  subst e
  rcases h with ⟨_, h⟩ | ⟨_, h⟩ <;> (rw [z] at h; cases h)
theorem IsA.put {K : PySem.W.Frag} {H : Hp} {a : Addr} {ob : HO} {x : V} {t u : Int} {n : Nat} (h : IsA K H x t u n) (na : NoTI H a) : IsA K (upd H a ob) x t u n := by
  obtain ⟨p, dx, e, hp, r⟩ := h
  exact ⟨p, dx, e, by rw [upd_ne (na.ins hp)]; exact hp, r⟩
theorem ItOk.put {K : PySem.W.Frag} {H : Hp} {a : Addr} {ob : HO} {n : Nat} {g : It} (h : ItOk K n H g) (na : NoTI H a) : ItOk K n (upd H a ob) g := ⟨by rw [upd_ne (na.tup h.1)]; exact h.1, h.2.put na⟩
theorem CuOk.put {K : PySem.W.Frag} {H : Hp} {a : Addr} {ob : HO} {n : Nat} {g : Cu} (h : CuOk K n H g) (na : NoTI H a) : CuOk K n (upd H a ob) g := ⟨by rw [upd_ne (na.tup h.1)]; exact h.1, h.2.put na⟩
theorem RowOk.put {K : PySem.W.Frag} {H : Hp} {a p : Addr} {ob : HO} {n : Nat} {gs : List It} (h : RowOk K n H p gs) (na : NoTI H a) (ne : p ≠ a) : RowOk K n (upd H a ob) p gs := ⟨by rw [upd_ne ne]; exact h.l, fun g hg => (h.ok g hg).put na, h.n⟩
theorem putK_num {nums : List (Str × Nat)} {x : Str} {j : Nat} (h : M04.num nums x = none) : putK (numK nums) (Sum.inr x) (V.int (j : Int)) = numK (nums ++ [(x, j)]) := by
  have : (numK nums).any (fun kv => decide (kv.1 = (Sum.inr x : Key))) = false := by
    unfold numK
    unfold M04.num at h
    rw [List.any_map, List.any_eq_false]
    intro z hz e
    have e := of_decide_eq_true e
    have : (nums.find? fun z => decide (z.1 = x)) = none := by simpa using h
    rw [List.find?_eq_none] at this
    exact this z hz (decide_eq_true (Sum.inr.inj e))
  unfold putK
  rw [this]
  unfold numK
  rw [List.map_append]
  rfl
theorem map_at {α β : Type} {l : List α} {f : α → β} {i : Nat} {b : β} (h : (l.map f)[i]? = some b) : ∃ a, l[i]? = some a ∧ f a = b := by
  rw [List.getElem?_map] at h
  cases e : l[i]? with
  | none => rw [e] at h; cases h
  | some a => rw [e] at h; cases h; exact ⟨a, rfl, rfl⟩
theorem bits_app {mm : Nat} {gs : List Cu} {g : Cu} : bitsOf mm (gs ++ [g]) = (gs.length + 2) * (mm + 1) := by
  unfold bitsOf
  rw [List.length_append]
  rfl
theorem un4 {K : PySem.W.Frag} {J : Hp} {it : Addr} {a b c x : V} (hit : J it = some (.lst [a, b, c, x]) ∨ J it = some (.tup [a, b, c, x])) (m : Nat) (tt : TGs) (σ : L2.St) (Q' : L2.St → Hp → Prop) (e : m = 4) (z : tt [a, b, c, x] σ J Q') : gLst K m tt (.ref it) σ J Q' ∨ gTup K m tt (.ref it) σ J Q' := by
  subst e
  rcases hit with h | h
  · exact .inl ⟨it, _, rfl, SqL.of h, rfl, z⟩
  · exact .inr ⟨it, _, rfl, SqT.of h, rfl, z⟩
/-- behind the row, before the cue is noted -/
structure Mid (K : PySem.W.Frag) (mm : Nat) (H0 H H' : Hp) (o dx c r d : Addr) (gs : List Cu) (cu : M04.Cue) (sh l : Addr) (hs : List It) (rs : List (Addr × List It)) (t u : Int) : Prop where
  kp : Kp3 c r d H H'
  ho : H' o = some (.ins (CS K) dx (shFl c r d))
  am : IsA K H' (.ref sh) t u mm
  av : vq t u = cu.q
  cl : H' c = some (.lst (gs.map fun g => V.ref g.q))
  cok : ∀ g ∈ gs, CuOk K mm H' g
  rl : H' r = some (.lst (rs.map fun z => V.ref z.1))
  rok : ∀ z ∈ rs, RowOk K ((gs.length + 2) * (mm + 1)) H' z.1 z.2 ∧ z.2.length ≤ gs.length + 1 ∧ H0 z.1 = none ∧ z.1 ≠ c ∧ z.1 ≠ r
  rv : (rs.map fun z => rv z.2) = M04.rows (M04.all (gs.map cv)) cu
  dk : H' d = some (.dK (numK (M04.all (gs.map cv)).nums))
  row : RowOk K ((gs.length + 2) * (mm + 1)) H' l hs
  rowv : K13.rv hs = M04.row (M04.all (gs.map cv)) cu
  lc : l ≠ c
def sTelM (K : PySem.W.Frag) (mm : Nat) (H0 H : Hp) (o it dx c r d : Addr) (gs : List Cu) (cu : M04.Cue) (Q : VK) : TS := fun D σ H' => ∃ (x : V) (sh l : Addr) (hs : List It) (rs : List (Addr × List It)) (t u : Int), σ = [some (.ref o), some (.ref it), some (.str cu.nm), some (.str cu.pa), some (.str cu.un), some x, some (.ref sh), some (.ref l)] ∧
  Mid K mm H0 H H' o dx c r d gs cu sh l hs rs t u ∧ D.nx = fun _ H'' => Q .non H''
section
variable {P : Program} {w : World} {K : PySem.W.Frag} {mg : Str → Option Value} {base : Heap} {f fS fX fE : Addr} {fd fdS fdX fdE : FuncData}
theorem ok_tel (F : FunD K "_tell" "Sheet._tell" (defArgs sTel) (defBody sTel) (defScope sTel) [] [] f fd) (T : AF K mg) (M : MF K mg) (EQ : EqK P w K mg base fE fdE) (AS : Fn P w K mg base "as_amount" 6 ["value"] (spAs K) fS fdS) (EX : Fn P w K mg base "extended" 8 ["row", "unit", "amount"] (spExt K) fX fdX) :
    FnOk P w K mg base (L2.CX P w) 9 f fd ["self", "item"] (spTell K) := by
  refine F.ok scTel (fun vs H Q E h => ?_) (fun cdv A outer s H vs Q E hr h => ?_)
  · obtain ⟨o, it, dx, c, r, d, mm, H0, gs, rs, cu, rfl, _⟩ := h
    rfl
  · obtain ⟨o, it, dx, c, r, d, mm, H0, gs, rs, cu, rfl, ho, inn, hlen, ca, ⟨o1, o2, o3, o4⟩, k⟩ := h
    have hu1 : (A.deeper (envOfC "Sheet._tell" (defScope sTel) s.heap.objs.size f cdv)).units + 1 < cLine := by
      have := hr.un
      omega
    have hr4 := hr.mono (show 4 ≤ 8 by decide)
    have hr6 := hr.mono (show 6 ≤ 8 by decide)
    have hr8 := hr.mono (show 8 ≤ 8 by decide)
    refine ⟨_, (pss_cons (ps_asg (pv 1) (pg_or (pg_lst (by rfl) (pgs_cons (pg_name (i := 2) scTel.nd rfl (Or.inl rfl)) (pgs_cons (pg_name (i := 3) scTel.nd rfl (Or.inl rfl)) (pgs_cons (pg_name (i := 4) scTel.nd rfl (Or.inl rfl)) (pgs_cons (pg_name (i := 5) scTel.nd rfl (Or.inl rfl)) pgs_nil))))) (pg_tup (by rfl) (pgs_cons (pg_name (i := 2) scTel.nd rfl (Or.inl rfl)) (pgs_cons (pg_name (i := 3) scTel.nd rfl (Or.inl rfl)) (pgs_cons (pg_name (i := 4) scTel.nd rfl (Or.inl rfl)) (pgs_cons (pg_name (i := 5) scTel.nd rfl (Or.inl rfl)) pgs_nil)))))))
      (pss_cons (ps_set (i := 6) scTel.nd rfl (Or.inl rfl) (pe_call AS.ok hr6 rfl AS.g AS.k AS.b .nil passL (pa_cons (pv 5) pa_nil)))
      (pss_cons (ps_set (i := 7) scTel.nd rfl (Or.inl rfl) (pe_call EX.ok hr8 rfl EX.g EX.k EX.b .nil passL (pa_cons (pe_ix ix_list (pe_fld (pv 0) rfl) (pe_dget hu1 (pe_fld (pv 0) rfl) (pv 3) (fun _ _ => rfl)) (fun _ _ => rfl)) (pa_cons (pv 4) (pa_cons (pv 6) pa_nil)))))
      (pss_cons (ps_if (pt_cmpR (Fr.op_notInB monB_row (eqB_row EQ) hr4) (pv 7) (pe_fld (pv 0) rfl) (by rfl)) (pss_one (ps_expr (pe_bm PySem.F.plainAttrs_list PySem.F.slot_list_append PySem.F.type_list_append mt_append (pe_fld (pv 0) rfl) (pa_cons (pv 7) pa_nil)))) pss_nil)
      (pss_imp (S := sTelM K mm H0 H o it dx c r d gs cu Q) (pss_cons (ps_expr (pe_bm PySem.F.plainAttrs_list PySem.F.slot_list_append PySem.F.type_list_append mt_append (pe_fld (pv 0) rfl) (pa_cons (pe_tup (pa_cons (pv 2) (pa_cons (pv 3) (pa_cons (pv 4) (pa_cons (pv 6) pa_nil))))) pa_nil)))
      (pss_one (ps_dput hu1 (pe_fld (pv 0) rfl) (pv 2) (pe_bm PySem.F.plainAttrs_list PySem.F.slot_list_index PySem.F.type_list_index (Fr.mt_indexB monB_row (eqB_row EQ) hr4) (pe_fld (pv 0) rfl) (pa_cons (pv 7) pa_nil)) (by rfl)))) ?mid))))), ?_⟩
    case mid =>
      rintro D σ H1 ⟨x, sh, l, hs, rs1, t, u, rfl, m, hD⟩
      obtain ⟨m1, m2⟩ := inn.mm
      have nc : NoTI H1 c := .inl ⟨_, m.cl⟩
      refine ⟨_, rfl, o, _, dx, _, _, rfl, m.ho, M.cl, M.n1, sh_c c r d, .inl ⟨rfl, _, SqL.of m.cl⟩, ?_⟩
      refine ⟨_, rfl, _, rfl, _, rfl, _, rfl, by show 4 ≤ sizeLine; decide, fun q hq => ?_⟩
      have s2 := Same.upd (o := .tup [.str cu.nm, .str cu.pa, .str cu.un, .ref sh]) hq
      have hq2 : upd H1 q (.tup [.str cu.nm, .str cu.pa, .str cu.un, .ref sh]) q = some (.tup [.str cu.nm, .str cu.pa, .str cu.un, .ref sh]) := upd_same
      generalize upd H1 q (.tup [.str cu.nm, .str cu.pa, .str cu.un, .ref sh]) = H2 at s2 hq2
      have c2 := s2 _ _ m.cl
      have nc2 : NoTI H2 c := .inl ⟨_, c2⟩
      refine ⟨c, _, _, rfl, rfl, c2, ?_, ?_⟩
      · rw [List.length_map]
        exact Nat.lt_of_lt_of_le (show gs.length < 100 by omega) (by decide)
      have c3 : upd H2 c (.lst ((gs.map fun g => V.ref g.q) ++ [.ref q])) c = some (.lst ((gs.map fun g => V.ref g.q) ++ [.ref q])) := upd_same
      have o3 : upd H2 c (.lst ((gs.map fun g => V.ref g.q) ++ [.ref q])) o = some (.ins (CS K) dx (shFl c r d)) := by
        rw [upd_ne (nc2.ins (s2 _ _ m.ho))]
        exact s2 _ _ m.ho
      have r3 : upd H2 c (.lst ((gs.map fun g => V.ref g.q) ++ [.ref q])) r = some (.lst (rs1.map fun z => V.ref z.1)) := by
        rw [upd_ne (Ne.symm inn.cr)]
        exact s2 _ _ m.rl
      have d3 : upd H2 c (.lst ((gs.map fun g => V.ref g.q) ++ [.ref q])) d = some (.dK (numK (M04.all (gs.map cv)).nums)) := by
        rw [upd_ne fun e => by
          have := s2 _ _ m.dk
          rw [e, c2] at this
          cases this]
        exact s2 _ _ m.dk
      have cok3 : ∀ g ∈ gs, CuOk K mm (upd H2 c (.lst ((gs.map fun g => V.ref g.q) ++ [.ref q]))) g := fun g hg => ((m.cok g hg).same s2).put nc2
      have new3 : CuOk K mm (upd H2 c (.lst ((gs.map fun g => V.ref g.q) ++ [.ref q]))) ⟨q, sh, cu.nm, cu.pa, cu.un, t, u⟩ := CuOk.put ⟨hq2, m.am.same s2⟩ nc2
      have rok3 : ∀ z ∈ rs1, RowOk K ((gs.length + 2) * (mm + 1)) (upd H2 c (.lst ((gs.map fun g => V.ref g.q) ++ [.ref q]))) z.1 z.2 := fun z hz => ((m.rok z hz).1.same s2).put nc2 (m.rok z hz).2.2.2.1
      have kp3 : Kp3 c r d H (upd H2 c (.lst ((gs.map fun g => V.ref g.q) ++ [.ref q]))) := m.kp.trans ((Kp3.same s2).trans fun p ob h1 h2 h3 h => by rw [upd_ne h1]; exact h)
      have rowc := m.lc
      have row3 : RowOk K ((gs.length + 2) * (mm + 1)) (upd H2 c (.lst ((gs.map fun g => V.ref g.q) ++ [.ref q]))) l hs := (m.row.same s2).put nc2 rowc
      generalize upd H2 c (.lst ((gs.map fun g => V.ref g.q) ++ [.ref q])) = H3 at c3 o3 r3 d3 cok3 new3 rok3 kp3 row3
      have mem := M04.row_mem (M04.all (gs.map cv)) cu
      have jl := M04.idx_lt mem
      have lenR : rs1.length = (M04.rows (M04.all (gs.map cv)) cu).length := by rw [← m.rv, List.length_map]
      refine ⟨_, rfl, o, _, dx, _, _, rfl, o3, M.cl, M.n2, sh_r c r d, .inl ⟨rfl, _, SqL.of r3⟩, _, rfl, r, _, _, fun i => match rs1[i]? with
        | some z => decide (rv z.2 = rv hs)
        | none => false, M04.idx (M04.rows (M04.all (gs.map cv)) cu) (M04.row (M04.all (gs.map cv)) cu), rfl, rfl, r3, fun i z ez => ?_, ?_, ?_, fun m' hm' => ?_, fun H4 s4 => ?_⟩
      · obtain ⟨w', ew, e2⟩ := map_at ez
        subst e2
        dsimp only
        rw [ew]
        exact row_eqB (rok3 _ (List.mem_of_getElem? ew)) row3
      · rw [List.length_map, lenR]
        exact jl
      · have := M04.idx_at mem
        rw [← m.rv] at this
        obtain ⟨z, ez, e2⟩ := map_at this
        rw [m.rv] at ez
        dsimp only
        rw [ez]
        dsimp only
        rw [e2, m.rowv]
        exact decide_eq_true rfl
      · dsimp only
        cases ez : rs1[m']? with
        | none => rfl
        | some z =>
          refine decide_eq_false fun e => M04.idx_no hm' (rv z.2) ?_ (by rw [e, m.rowv])
          rw [← m.rv, List.getElem?_map, ez]
          rfl
      refine ⟨_, rfl, o, _, dx, _, _, rfl, s4 _ _ o3, M.cl, M.n3, sh_d c r d, _, rfl, d, _, rfl, .inl ⟨_, Sum.inr cu.nm, s4 _ _ d3, rfl, ?_, rfl⟩, ?_⟩
      · show (numK (M04.all (gs.map cv)).nums).length < sizeLine
        unfold numK
        rw [List.length_map, M04.nums_len, List.length_map]
        exact Nat.lt_of_lt_of_le (show gs.length + 1 < 100 by omega) (by decide)
      rw [putK_num o2, hD]
      have nd4 : NoTI H4 d := .inr ⟨_, s4 _ _ d3⟩
      have ne_d : ∀ {p xs}, H3 p = some (.lst xs) → p ≠ d := fun h e => by
        rw [e, d3] at h
        cases h
      have up : M04.all ((gs ++ [(⟨q, sh, cu.nm, cu.pa, cu.un, t, u⟩ : Cu)]).map cv) = M04.step (M04.all (gs.map cv)) cu := by
        rw [List.map_append, List.map_singleton, M04.all_app]
        congr 1
        unfold cv
        rw [m.av]
      refine k _ ⟨q, sh, cu.nm, cu.pa, cu.un, t, u⟩ rs1 ?_ ⟨?_, fun g hg => ?_, ?_, fun z hz => ?_, ?_, ?_, ?_, inn.mm, inn.c0, inn.r0, inn.d0, inn.cr, fun q' z => inn.old q' ?_⟩ (by unfold cv; rw [m.av])
      · refine (kp3.trans (Kp3.same s4)).trans fun p ob h1 h2 h3 h => ?_
        rw [upd_ne h3]
        exact h
      · rw [upd_ne (ne_d c3), List.map_append]
        exact s4 _ _ c3
      · rcases List.mem_append.mp hg with hg | hg
        · exact ((cok3 g hg).same s4).put nd4
        · rw [List.mem_singleton] at hg
          subst hg
          exact (new3.same s4).put nd4
      · rw [upd_ne (ne_d r3)]
        exact s4 _ _ r3
      · rw [bits_app, List.length_append]
        obtain ⟨_, z2, z3, z4, z5⟩ := m.rok z hz
        exact ⟨((rok3 z hz).same s4).put nd4 (ne_d (rok3 z hz).l), z2, z3, z4, z5⟩
      · rw [up]
        exact m.rv
      · rw [up]
        exact upd_same
      · rw [List.length_append]
        exact hlen
      · cases e : H q' with
        | none => rfl
        | some ob =>
          by_cases e1 : q' = c
          · rw [e1, upd_ne (ne_d c3), s4 _ _ c3] at z
            cases z
          · by_cases e2 : q' = r
            · rw [e2, upd_ne (ne_d r3), s4 _ _ r3] at z
              cases z
            · by_cases e3 : q' = d
              · rw [e3, upd_same] at z
                cases z
              · rw [upd_ne e3, s4 _ _ (kp3 _ _ e1 e2 e3 e)] at z
                cases z
    obtain ⟨m1, m2⟩ := inn.mm
    obtain ⟨x, t, u, hit, ar, eq⟩ := id ca
    obtain ⟨i, ei⟩ := Option.isSome_iff_exists.mp o3
    have il : i < (M04.all (gs.map cv)).rows.length := M04.all_ok _ _ M04.init_ok _ _ ei
    have er : ∃ z : Addr × List It, rs[i]? = some z ∧ rv z.2 = (M04.all (gs.map cv)).rows[i] := map_at (f := fun z : Addr × List It => rv z.2) (by rw [inn.rv, List.getElem?_eq_getElem il])
    obtain ⟨z, ez, ev⟩ := er
    obtain ⟨z1, z2, z3, z4, z5⟩ := inn.rok z (List.mem_of_getElem? ez)
    have bq : bitsOf mm gs = (gs.length + 1) * (mm + 1) := rfl
    have b0 : (gs.length + 1) * (mm + 1) ≤ 20 * 201 := Nat.mul_le_mul (by omega) (by omega)
    have b1 : 1 ≤ (gs.length + 1) * (mm + 1) := Nat.mul_pos (by omega) (by omega)
    have b2 : (gs.length + 1) * (mm + 1) + mm + 1 = (gs.length + 2) * (mm + 1) := by rw [show gs.length + 2 = (gs.length + 1) + 1 from rfl, Nat.add_mul (gs.length + 1) 1, Nat.one_mul]; omega
    refine ⟨_, rfl, un4 hit _ _ _ _ rfl ⟨_, _, rfl, _, _, rfl, _, _, rfl, _, _, rfl, rfl, ?_⟩⟩
    refine ⟨_, rfl, _, rfl, .inr ⟨t, u, mm, ar, fun ysh H1 s1 ia => ?_⟩⟩
    obtain ⟨psh, dsh, rfl, hpsh, _⟩ := id ia
    have ho1 := s1 _ _ ho
    have inn1 := inn.same s1
    refine ⟨_, rfl, o, _, dx, _, _, rfl, ho1, M.cl, M.n2, sh_r c r d, ?_⟩
    refine ⟨_, rfl, o, _, dx, _, _, rfl, ho1, M.cl, M.n3, sh_d c r d, _, rfl, d, .int (i : Int), rfl, .inl ⟨_, Sum.inr cu.pa, Rd.of inn1.dk, rfl, by rw [valV_num, ei]; rfl⟩, ?_⟩
    refine ⟨r, _, _, .ref z.1, rfl, rfl, SqL.of inn1.rl, atI_nat (by rw [List.getElem?_map, ez]; rfl), _, rfl, _, rfl, ?_⟩
    refine ⟨z.1, z.2, cu.un, .ref psh, vq t u, bitsOf mm gs, mm, rfl, z1.same s1, by omega, by omega, by omega, ⟨t, u, ia, rfl⟩, fun H2 l hs s2 hl ehs hln lnone => ?_⟩
    have s12 := s1.trans s2
    have lnew : H2 l = some (.lst (hs.map fun g => V.ref g.q)) := hl.l
    have erow : rv hs = M04.row (M04.all (gs.map cv)) cu := by
      unfold M04.row
      rw [ehs, ei, Option.getD_some, List.getD_eq_getElem?_getD, List.getElem?_eq_getElem il, Option.getD_some, ev, eq]
    have ho2 := s2 _ _ ho1
    have inn2 := inn.same s12
    rw [bq, b2] at hl
    have lc : l ≠ c := fun e => by
      rw [e, inn1.cl] at lnone
      cases lnone
    have lr : l ≠ r := fun e => by
      rw [e, inn1.rl] at lnone
      cases lnone
    refine ⟨_, rfl, _, rfl, o, _, dx, _, _, rfl, ho2, M.cl, M.n2, sh_r c r d, r, _, fun i => match rs[i]? with
      | some z => decide (rv z.2 = rv hs)
      | none => false, decide (M04.row (M04.all (gs.map cv)) cu ∈ (M04.all (gs.map cv)).rows), rfl, inn2.rl, fun i z ez => ?_, ?_, fun H3 s3 => ⟨_, rfl, ?_⟩⟩
    · obtain ⟨w', ew, e2⟩ := map_at ez
      subst e2
      dsimp only
      rw [ew]
      exact row_eqB (inn2.rok _ (List.mem_of_getElem? ew)).1 hl
    · by_cases c0 : M04.row (M04.all (gs.map cv)) cu ∈ (M04.all (gs.map cv)).rows
      · obtain ⟨j, ej⟩ := List.getElem?_of_mem c0
        rw [← inn.rv] at ej
        obtain ⟨z', ez', ev'⟩ := map_at ej
        refine .inl ⟨decide_eq_true c0, j, ?_, ?_⟩
        · rw [List.length_map]
          exact (List.getElem?_eq_some_iff.mp ez').1
        · dsimp only
          rw [ez']
          exact decide_eq_true (by rw [ev', erow])
      · refine .inr ⟨decide_eq_false c0, fun j hj => ?_⟩
        dsimp only
        cases ez' : rs[j]? with
        | none => rfl
        | some z' =>
          refine decide_eq_false fun e => c0 ?_
          rw [← erow, ← e, ← inn.rv]
          exact List.mem_map.mpr ⟨z', List.mem_of_getElem? ez', rfl⟩
    · have s13 := s12.trans s3
      have inn3 := inn.same s13
      have ho3 := s3 _ _ ho2
      have ia3 := ia.same (s2.trans s3)
      have hl3 := hl.same s3
      have l0 : H0 l = none := inn1.old l lnone
      have bm : bitsOf mm gs ≤ (gs.length + 2) * (mm + 1) := by rw [bq]; omega
      by_cases c0 : M04.row (M04.all (gs.map cv)) cu ∈ (M04.all (gs.map cv)).rows
      · rw [decide_eq_true c0]
        refine iteF ?_
        refine ⟨x, psh, l, hs, rs, t, u, rfl, ⟨Kp3.same s13, ho3, ia3, eq, inn3.cl, inn3.cok, inn3.rl, fun z hz => ?_, ?_, inn3.dk, hl3, erow, lc⟩, rfl⟩
        · obtain ⟨y1, y2, y3, y4, y5⟩ := inn3.rok z hz
          exact ⟨y1.mono bm, by omega, y3, y4, y5⟩
        · rw [inn3.rv]
          unfold M04.rows
          rw [if_pos c0]
      · rw [decide_eq_false c0]
        refine iteT ?_
        have nr : NoTI H3 r := .inl ⟨_, inn3.rl⟩
        refine ⟨_, rfl, o, _, dx, _, _, rfl, ho3, M.cl, M.n2, sh_r c r d, .inl ⟨rfl, _, SqL.of inn3.rl⟩, _, rfl, r, _, _, rfl, rfl, inn3.rl, ?_, ?_⟩
        · rw [List.length_map]
          have e1 : rs.length = (M04.all (gs.map cv)).rows.length := by rw [← inn.rv, List.length_map]
          have e2 := M04.rows_len (gs.map cv)
          rw [List.length_map] at e2
          exact Nat.lt_of_lt_of_le (show rs.length < 100 by omega) (by decide)
        · refine ⟨x, psh, l, hs, rs ++ [(l, hs)], t, u, rfl, ⟨?_, ?_, ia3.put nr, eq, ?_, fun g hg => (inn3.cok g hg).put nr, ?_, fun z hz => ?_, ?_, ?_, hl3.put nr lr, erow, lc⟩, rfl⟩
          · refine (Kp3.same s13).trans fun q ob h1 h2 h3 h => ?_
            rw [upd_ne h2]
            exact h
          · rw [upd_ne (nr.ins ho3)]
            exact ho3
          · rw [upd_ne inn.cr]
            exact inn3.cl
          · rw [upd_same, List.map_append]
            rfl
          · rcases List.mem_append.mp hz with hz | hz
            · obtain ⟨y1, y2, y3, y4, y5⟩ := inn3.rok z hz
              exact ⟨(y1.mono bm).put nr y5, by omega, y3, y4, y5⟩
            · rw [List.mem_singleton] at hz
              subst hz
              exact ⟨hl3.put nr lr, (by show hs.length ≤ _; omega), l0, lc, lr⟩
          · rw [List.map_append, inn3.rv]
            unfold M04.rows
            rw [if_neg c0, ← erow]
            rfl
          · rw [upd_ne fun e => by
              have h1 := inn3.dk
              rw [e, inn3.rl] at h1
              cases h1]
            exact inn3.dk
end
end K13
set_option Elab.async false
set_option linter.all false
set_option maxRecDepth 100000
set_option maxHeartbeats 1000000
set_option exponentiation.threshold 100000
namespace K13
open PySem PySem.Spec PyProof.Rows L2 Fa Fb
def ShAt (K : PySem.W.Frag) (mm : Nat) (H0 H : Hp) (o : Addr) (gs : List Cu) : Prop := ∃ dx c r d rs, H o = some (.ins (CS K) dx (shFl c r d)) ∧ Inn K mm H0 H c r d gs rs
theorem ShAt.same {K : PySem.W.Frag} {mm : Nat} {H0 H H' : Hp} {o : Addr} {gs : List Cu} (h : ShAt K mm H0 H o gs) (s : Same H H') : ShAt K mm H0 H' o gs := let ⟨dx, c, r, d, rs, a, b⟩ := h; ⟨dx, c, r, d, rs, s _ _ a, b.same s⟩
/-- all but o is as it was -/
def Bt (o : Addr) (H H' : Hp) : Prop := ∀ b ob, b ≠ o → H b = some ob → H' b = some ob
theorem Bt.trans {o : Addr} {H H1 H2 : Hp} (a : Bt o H H1) (b : Bt o H1 H2) : Bt o H H2 := fun q ob n h => b q ob n (a q ob n h)
theorem Bt.same {o : Addr} {H H' : Hp} (s : Same H H') : Bt o H H' := fun q ob _ h => s q ob h
theorem Bt.upd {o : Addr} {H : Hp} {ob : HO} : Bt o H (upd H o ob) := fun q _ n h => by rw [upd_ne n]; exact h
theorem IsA.bt {K : PySem.W.Frag} {H H' : Hp} {o dx : Addr} {fs : List (Str × V)} {x : V} {t u : Int} {n : Nat} (h : IsA K H x t u n) (b : Bt o H H') (ho : H o = some (.ins (CS K) dx fs)) (ne : CS K ≠ CA K) : IsA K H' x t u n := by
  obtain ⟨p, d, e, hp, r⟩ := h
  exact ⟨p, d, e, b _ _ (fun z => by rw [z, ho] at hp; exact ne (HO.ins.inj (Option.some.inj hp)).1) hp, r⟩
theorem CueArg.bt {K : PySem.W.Frag} {H H' : Hp} {o dx it : Addr} {fs : List (Str × V)} {c : M04.Cue} {n : Nat} (h : CueArg K n H it c) (b : Bt o H H') (ho : H o = some (.ins (CS K) dx fs)) (ne : CS K ≠ CA K) : CueArg K n H' it c := by
  obtain ⟨x, t, u, h1, h2, h3⟩ := h
  refine ⟨x, t, u, ?_, h2.imp (fun h => h.bt b ho ne) id, h3⟩
  rcases h1 with h1 | h1
  · exact .inl (b _ _ (fun z => by rw [z, ho] at h1; cases h1) h1)
  · exact .inr (b _ _ (fun z => by rw [z, ho] at h1; cases h1) h1)
def spSI (K : PySem.W.Frag) : Sp := fun vs H Q _ => ∃ (o dx a : Addr) (xs : List V) (cs : List M04.Cue) (mm : Nat), vs = [.ref o, .ref a] ∧ H o = some (.ins (CS K) dx []) ∧ (H a = some (.lst xs) ∨ H a = some (.tup xs)) ∧ xs.length = cs.length ∧ (∀ (i : Nat) c, cs[i]? = some c → ∃ it, xs[i]? = some (V.ref it) ∧ CueArg K mm H it c) ∧
  (∀ (i : Nat) c, cs[i]? = some c → Ok4 (M04.all (cs.take i)).nums c) ∧ cs.length ≤ 20 ∧ (M04.all cs).rows.length ≤ 8 ∧ 1 ≤ mm ∧ mm ≤ 200 ∧ ∀ H' gs, Bt o H H' → ShAt K mm H H' o gs → gs.map cv = cs → Q .non H'
abbrev sSI : Stmt := inClass (top 42) 0
theorem scSI : FnScope ["self", "cues", "item"] ["self", "cues"] (defScope sSI) := ⟨rfl, rfl, rfl, by decide +kernel, rfl, by decide +kernel, by decide +kernel⟩
def SI (K : PySem.W.Frag) (mm : Nat) (H : Hp) (o dx c r d : Addr) (cs : List M04.Cue) (i : Nat) (H' : Hp) : Prop := Bt o H H' ∧ H' o = some (.ins (CS K) dx (shFl c r d)) ∧ ∃ gs rs, Inn K mm H H' c r d gs rs ∧ gs.map cv = cs.take i
def sSIb (K : PySem.W.Frag) (mm : Nat) (H : Hp) (o dx : Addr) (x : V) (xs : List V) (cs : List M04.Cue) : TS := fun D σ H' => ∃ (c r d : Addr) (i : Nat) (y : V), σ = [some (.ref o), some x, some y] ∧ xs[i]? = some y ∧ SI K mm H o dx c r d cs i H' ∧ ∀ H'', SI K mm H o dx c r d cs (i + 1) H'' → D.nx [some (.ref o), some x, some y] H''
structure MeS (P : Program) (w : World) (K : PySem.W.Frag) (mg : Str → Option Value) (base : Heap) (m : Str) (lev : Nat) (ps : List Str) (sp : Sp) (f : Addr) (fd : FuncData) : Prop where
  me : Meth K (CS K) m f
  ok : FnOk P w K mg base (L2.CX P w) lev f fd ps sp
  b : Binds K fd ps []
theorem sh_no (c r d : Addr) {m : Str} (h1 : ¬ m = "_cues") (h2 : ¬ m = "_rows") (h3 : ¬ m = "_numbers") : (shFl c r d).lookup m = none := by
  show List.lookup m [(("_cues" : Str), V.ref c), (("_rows" : Str), V.ref r), (("_numbers" : Str), V.ref d)] = none
  have e1 : (m == ("_cues" : Str)) = false := by simpa using h1
  have e2 : (m == ("_rows" : Str)) = false := by simpa using h2
  have e3 : (m == ("_numbers" : Str)) = false := by simpa using h3
  simp only [List.lookup, e1, e2, e3]
section
variable {P : Program} {w : World} {K : PySem.W.Frag} {mg : Str → Option Value} {base : Heap} {f fL fC fT : Addr} {fd fdL fdC fdT : FuncData}
theorem ok_si (F : FunD K "__init__" "Sheet.__init__" (defArgs sSI) (defBody sSI) (defScope sSI) [] [] f fd) (M : MF K mg) (ne : CS K ≠ CA K) (mL : mg "len" = none) (hSt : ∃ t, mg "START" = some (.str "start" t)) (hMo : ∃ t, mg "MOST_MOMENTS" = some (.int 8 t)) (LS : Fn P w K mg base "is_listing" 1 ["value"] (spLs K) fL fdL)
    (CC : Fn P w K mg base "check_cue" 3 ["item", "known"] (spCC K) fC fdC) (TL : MeS P w K mg base "_tell" 9 ["self", "item"] (spTell K) fT fdT) : FnOk P w K mg base (L2.CX P w) 10 f fd ["self", "cues"] (spSI K) := by
  obtain ⟨tS, hSt⟩ := hSt
  obtain ⟨tM, hMo⟩ := hMo
  refine F.ok scSI (fun vs H Q E h => ?_) (fun cdv A outer s H vs Q E hr h => ?_)
  · obtain ⟨o, dx, a, xs, cs, mm, rfl, _⟩ := h
    rfl
  · obtain ⟨o, dx, a, xs, cs, mm, rfl, ho, hseq, hlen, hit, hok, h20, h8, m1, m2, k⟩ := h
    have hr1 := hr.mono (show 1 ≤ 9 by decide)
    have hr3 := hr.mono (show 3 ≤ 9 by decide)
    have hr9 := hr.mono (show 9 ≤ 9 by decide)
    generalize hx : V.ref a = x
    refine ⟨_, (pss_cons (ps_if (pt_not (pt_val (pe_call LS.ok hr1 rfl LS.g LS.k LS.b .nil passL (pa_cons (pv 1) pa_nil)))) pss_never pss_nil)
      (pss_cons (ps_fld (pv 0) (pe_lst pa_nil) rfl)
      (pss_cons (ps_fld (pv 0) (pe_lst (pa_cons (pe_lst pa_nil) pa_nil)) rfl)
      (pss_cons (ps_fld (pv 0) (pe_disp (pps_cons (pe_glob (v := .str "start") rfl hSt ⟨tS, rfl⟩) pe_int pps_nil) rfl rfl (by simp) (by decide)) rfl)
      (pss_cons (ps_for (passes_of rfl) rfl (Fp.pi_or (pi_list (pv 1)) (pi_tup (pv 1))) (pg_name (i := 2) scSI.nd rfl (Or.inl rfl))
      (pss_imp (S := sSIb K mm H o dx x xs cs) (pss_cons (ps_expr (pe_call CC.ok hr3 rfl CC.g CC.k CC.b .nil passL (pa_cons (pv 2) (pa_cons (pe_fld (pv 0) rfl) pa_nil))))
      (pss_one (ps_expr (pe_meth (pv 0) M.cl TL.me TL.ok hr9 TL.b .nil passL (pa_cons (pv 2) pa_nil))))) ?body))
      (pss_one (ps_if (pt_cmpR op_gt (pe_callB call_len rfl mL PySem.boot_len (pa_cons (pe_fld (pv 0) rfl) pa_nil)) (pe_glob (v := .int 8) rfl hMo ⟨tM, rfl⟩) (nomark _)) pss_never pss_nil))))))), ?_⟩
    case body =>
      rintro D σ H1 ⟨c, r, d, i, y, rfl, hy, ⟨b1, ho1, gs, rs, inn, ecs⟩, kn⟩
      have hi : i < cs.length := by
        rw [← hlen]
        exact (List.getElem?_eq_some_iff.mp hy).1
      have ec : cs[i]? = some cs[i] := List.getElem?_eq_getElem hi
      have oki := hok i _ ec
      obtain ⟨it, e1, ca⟩ := hit i _ ec
      rw [hy] at e1
      cases e1
      have tk : cs.take (i + 1) = cs.take i ++ [cs[i]] := by rw [List.take_add_one, ec]; rfl
      generalize cs[i] = cu at ec oki ca tk
      have ca1 := ca.bt b1 ho ne
      have lgs : gs.length = i := by
        have := congrArg List.length ecs
        rw [List.length_map, List.length_take] at this
        omega
      rw [← ecs] at oki
      refine ⟨_, rfl, _, rfl, o, _, dx, _, _, rfl, ho1, M.cl, M.n3, sh_d c r d, it, d, mm, cu, _, rfl, ca1, inn.dk, oki, fun H2 s2 => ?_⟩
      have ho2 := s2 _ _ ho1
      have inn2 := inn.same s2
      refine ⟨_, rfl, o, dx, _, rfl, ho2, sh_no c r d (by decide +kernel) (by decide +kernel) (by decide +kernel), _, rfl, o, it, dx, c, r, d, mm, H, gs, rs, cu, rfl, ho2, inn2, by omega, ca1.same s2, oki, fun H3 g rs' kp inn3 eg => ?_⟩
      have nl : ∀ {z ob}, H2 z = some ob → (∀ C dx fs, ob ≠ .ins C dx fs) → o ≠ z := fun hz no e => by
        rw [← e, ho2] at hz
        exact no _ _ _ (Option.some.inj hz).symm
      have oc := nl inn2.cl (fun _ _ _ e => by cases e)
      have or_ := nl inn2.rl (fun _ _ _ e => by cases e)
      have od := nl inn2.dk (fun _ _ _ e => by cases e)
      refine kn H3 ⟨?_, kp _ _ oc or_ od ho2, gs ++ [g], rs', inn3, by rw [List.map_append, ecs, tk, List.map_singleton, eg]⟩
      intro b ob nb hb
      have hb2 := s2 _ _ (b1 b ob nb hb)
      refine kp b ob (fun e => ?_) (fun e => ?_) (fun e => ?_) hb2
      · rw [e, inn.c0] at hb
        cases hb
      · rw [e, inn.r0] at hb
        cases hb
      · rw [e, inn.d0] at hb
        cases hb
    subst hx
    have tyX : ∃ t, (∀ J, Same H J → TyX K J (.ref a) t) ∧ PySem.W.kitAny K t [.type "list", .type "tuple"] = some true := by
      rcases hseq with h | h
      · exact ⟨.type "list", fun J sJ => .base (.lst (sJ _ _ h)), ka_list⟩
      · exact ⟨.type "tuple", fun J sJ => .base (.tup (sJ _ _ h)), ka_tuple⟩
    obtain ⟨t, ty, kt⟩ := tyX
    refine ⟨_, rfl, _, t, true, rfl, ty, kt, fun H1 s1 => ⟨_, rfl, iteF ?_⟩⟩
    refine ⟨by show 0 ≤ sizeLine; decide, fun c hc => ?_⟩
    have b1 : Bt o H (upd H1 c (.lst [])) := Bt.same (s1.trans (Same.upd hc))
    have ho1 := s1 _ _ ho
    have c0 := none_of s1 hc
    have oc : o ≠ c := fun e => by
      rw [e, hc] at ho1
      cases ho1
    have c1 : upd H1 c (.lst []) c = some (.lst []) := upd_same
    have ho2 : upd H1 c (.lst []) o = some (.ins (CS K) dx []) := by rw [upd_ne oc]; exact ho1
    have old2 : ∀ q, upd H1 c (.lst []) q = none → H q = none := fun q z => none_of (s1.trans (Same.upd hc)) z
    generalize upd H1 c (.lst []) = H2 at b1 c1 ho2 old2
    refine ⟨_, rfl, o, _, dx, _, rfl, ho2, M.cl, M.n1, by show 0 < 1000; decide, ?_⟩
    have b3 := b1.trans (Bt.upd (H := H2) (ob := .ins (CS K) dx (putF "_cues" (.ref c) [])))
    have c3 : upd H2 o (.ins (CS K) dx (putF "_cues" (.ref c) [])) c = some (.lst []) := by rw [upd_ne (Ne.symm oc)]; exact c1
    have ho3 : upd H2 o (.ins (CS K) dx (putF "_cues" (.ref c) [])) o = some (.ins (CS K) dx (putF "_cues" (.ref c) [])) := upd_same
    have old3 : ∀ q, upd H2 o (.ins (CS K) dx (putF "_cues" (.ref c) [])) q = none → H q = none := fun q z => by
      by_cases e : q = o
      · rw [e, upd_same] at z
        cases z
      · rw [upd_ne e] at z
        exact old2 q z
    generalize upd H2 o (.ins (CS K) dx (putF "_cues" (.ref c) [])) = H3 at b3 c3 ho3 old3
    refine ⟨by show 0 ≤ sizeLine; decide, fun l2 hl2 => ⟨by show 1 ≤ sizeLine; decide, fun r hr0 => ?_⟩⟩
    have ol2 : o ≠ l2 := fun e => by
      rw [e, hl2] at ho3
      cases ho3
    have cl2 : c ≠ l2 := fun e => by
      rw [e, hl2] at c3
      cases c3
    have l20 := old3 _ hl2
    have r0' : r ≠ l2 ∧ H3 r = none := by
      by_cases e : r = l2
      · rw [e, upd_same] at hr0
        cases hr0
      · rw [upd_ne e] at hr0
        exact ⟨e, hr0⟩
    have r00 := old3 _ r0'.2
    have or_ : o ≠ r := fun e => by
      rw [← e, ho3] at r0'
      cases r0'.2
    have cr_ : c ≠ r := fun e => by
      rw [← e, c3] at r0'
      cases r0'.2
    have s4 := (Same.upd (o := .lst []) hl2).trans (Same.upd (o := .lst [.ref l2]) hr0)
    have r4 : upd (upd H3 l2 (.lst [])) r (.lst [.ref l2]) r = some (.lst [.ref l2]) := upd_same
    have l4 : upd (upd H3 l2 (.lst [])) r (.lst [.ref l2]) l2 = some (.lst []) := by rw [upd_ne (Ne.symm r0'.1)]; exact upd_same
    have ho4 := s4 _ _ ho3
    have c4 := s4 _ _ c3
    have b4 := b3.trans (Bt.same (o := o) s4)
    have old4 : ∀ q, upd (upd H3 l2 (.lst [])) r (.lst [.ref l2]) q = none → H q = none := fun q z => old3 q (none_of s4 z)
    generalize upd (upd H3 l2 (.lst [])) r (.lst [.ref l2]) = H4 at r4 l4 ho4 c4 b4 old4
    refine ⟨_, rfl, o, _, dx, _, rfl, ho4, M.cl, M.n2, by show 1 < 1000; decide, ?_⟩
    have b5 := b4.trans (Bt.upd (H := H4) (ob := .ins (CS K) dx (putF "_rows" (.ref r) (putF "_cues" (.ref c) []))))
    have c5 : upd H4 o (.ins (CS K) dx (putF "_rows" (.ref r) (putF "_cues" (.ref c) []))) c = some (.lst []) := by rw [upd_ne (Ne.symm oc)]; exact c4
    have r5 : upd H4 o (.ins (CS K) dx (putF "_rows" (.ref r) (putF "_cues" (.ref c) []))) r = some (.lst [.ref l2]) := by rw [upd_ne (Ne.symm or_)]; exact r4
    have l5 : upd H4 o (.ins (CS K) dx (putF "_rows" (.ref r) (putF "_cues" (.ref c) []))) l2 = some (.lst []) := by rw [upd_ne (Ne.symm ol2)]; exact l4
    have ho5 : upd H4 o (.ins (CS K) dx (putF "_rows" (.ref r) (putF "_cues" (.ref c) []))) o = some (.ins (CS K) dx (putF "_rows" (.ref r) (putF "_cues" (.ref c) []))) := upd_same
    have old5 : ∀ q, upd H4 o (.ins (CS K) dx (putF "_rows" (.ref r) (putF "_cues" (.ref c) []))) q = none → H q = none := fun q z => by
      by_cases e : q = o
      · rw [e, upd_same] at z
        cases z
      · rw [upd_ne e] at z
        exact old4 q z
    generalize upd H4 o (.ins (CS K) dx (putF "_rows" (.ref r) (putF "_cues" (.ref c) []))) = H5 at b5 c5 r5 l5 ho5 old5
    intro d hd
    have d0 := old5 _ hd
    have od : o ≠ d := fun e => by
      rw [e, hd] at ho5
      cases ho5
    have em : mergeK [] [((Sum.inr ("start" : Str) : Key), V.int 0)] = numK (M04.all []).nums := rfl
    refine ⟨upd_same, [(Sum.inr "start", .int 0)], rfl, by decide, ?_⟩
    rw [em, upd_upd]
    have s6 := Same.upd (o := .dK (numK (M04.all []).nums)) hd
    have d6 : upd H5 d (.dK (numK (M04.all []).nums)) d = some (.dK (numK (M04.all []).nums)) := upd_same
    have ho6 := s6 _ _ ho5
    have c6 := s6 _ _ c5
    have r6 := s6 _ _ r5
    have l6 := s6 _ _ l5
    have b6 := b5.trans (Bt.same (o := o) s6)
    have old6 : ∀ q, upd H5 d (.dK (numK (M04.all []).nums)) q = none → H q = none := fun q z => old5 q (none_of s6 z)
    generalize upd H5 d (.dK (numK (M04.all []).nums)) = H6 at d6 ho6 c6 r6 l6 b6 old6
    refine ⟨_, rfl, o, _, dx, _, rfl, ho6, M.cl, M.n3, by show 2 < 1000; decide, ?_⟩
    have b7 := b6.trans (Bt.upd (H := H6) (ob := .ins (CS K) dx (shFl c r d)))
    have c7 : upd H6 o (.ins (CS K) dx (shFl c r d)) c = some (.lst []) := by rw [upd_ne (Ne.symm oc)]; exact c6
    have r7 : upd H6 o (.ins (CS K) dx (shFl c r d)) r = some (.lst [.ref l2]) := by rw [upd_ne (Ne.symm or_)]; exact r6
    have l7 : upd H6 o (.ins (CS K) dx (shFl c r d)) l2 = some (.lst []) := by rw [upd_ne (Ne.symm ol2)]; exact l6
    have d7 : upd H6 o (.ins (CS K) dx (shFl c r d)) d = some (.dK (numK (M04.all []).nums)) := by rw [upd_ne (Ne.symm od)]; exact d6
    have ho7 : upd H6 o (.ins (CS K) dx (shFl c r d)) o = some (.ins (CS K) dx (shFl c r d)) := upd_same
    have old7 : ∀ q, upd H6 o (.ins (CS K) dx (shFl c r d)) q = none → H q = none := fun q z => by
      by_cases e : q = o
      · rw [e, upd_same] at z
        cases z
      · rw [upd_ne e] at z
        exact old6 q z
    show tSeq _ _ _ _ (upd H6 o (.ins (CS K) dx (shFl c r d)))
    generalize upd H6 o (.ins (CS K) dx (shFl c r d)) = H7 at b7 c7 r7 l7 d7 ho7 old7
    have si0 : SI K mm H o dx c r d cs 0 H7 := by
      refine ⟨b7, ho7, [], [(l2, [])], ⟨c7, (fun g hg => by cases hg), r7, fun z hz => ?_, rfl, d7, by decide, ⟨m1, m2⟩, c0, r00, d0, cr_, old7⟩, rfl⟩
      rw [List.mem_singleton] at hz
      subst hz
      exact ⟨⟨l7, (fun g hg => by cases hg), Nat.zero_le _⟩, Nat.le_refl _, l20, Ne.symm cl2, Ne.symm r0'.1⟩
    have stop : ∀ (σ : L2.St) H', (∃ v2, σ = [some (.ref o), some (.ref a), v2] ∧ SI K mm H o dx c r d cs xs.length H') → tIfS (tTest (tOp (rI0 fun i j => V.bl (decide (j < i))) (tCB (fun xs H_1 Q => ∃ x n, xs = [x] ∧ LenV K x H_1 n ∧ Q (V.int (n : Nat)) H_1) (tCons (tFld K (tVar 0) "_rows") tNil)) (tC (V.int 8)))) tNever tNext { nx := fun _ H' => Q V.non H', rt := Q } σ H' := by
      rintro σ H' ⟨v2, rfl, b8, ho8, gs, rs, inn, ecs⟩
      rw [hlen, List.take_length] at ecs
      refine ⟨_, rfl, o, _, dx, _, _, rfl, ho8, M.cl, M.n2, sh_r c r d, _, _, rfl, .inl ⟨_, SqL.of inn.rl, rfl⟩, _, _, rfl, rfl, _, rfl, ?_⟩
      have e1 : rs.length = (M04.all (gs.map cv)).rows.length := by rw [← inn.rv, List.length_map]
      rw [List.length_map]
      refine if_false_of (decide_eq_false (by rw [e1, ecs]; omega)) ?_
      exact k _ gs b8 ⟨dx, c, r, d, rs, ho8, inn⟩ ecs
    have na : a ≠ o := fun e => by
      rw [e, ho] at hseq
      rcases hseq with h | h <;> cases h
    rcases hseq with h | h
    · refine .inl ⟨_, rfl, a, rfl, ⟨xs, SqL.of ?_⟩, for_list (K := K) (a := a) (xs := xs) (fun i σ H' => ∃ v2, σ = [some (.ref o), some (.ref a), v2] ∧ SI K mm H o dx c r d cs i H') ⟨_, rfl, si0⟩ (fun i σ H' _ ⟨_, _, si⟩ => SqL.of (si.1 _ _ na h)) (fun i x σ H2 hx ⟨v2, e, si⟩ => ?_) stop⟩
      · exact si0.1 _ _ na h
      · subst e
        exact ⟨c, r, d, i, x, rfl, hx, si, fun H'' si' => ⟨_, rfl, si'⟩⟩
    · refine .inr ⟨_, rfl, a, rfl, ⟨xs, SqT.of ?_⟩, for_tup (K := K) (a := a) (xs := xs) (fun i σ H' => ∃ v2, σ = [some (.ref o), some (.ref a), v2] ∧ SI K mm H o dx c r d cs i H') ⟨_, rfl, si0⟩ (fun i σ H' _ ⟨_, _, si⟩ => SqT.of (si.1 _ _ na h)) (fun i x σ H2 hx ⟨v2, e, si⟩ => ?_) stop⟩
      · exact si0.1 _ _ na h
      · subst e
        exact ⟨c, r, d, i, x, rfl, hx, si, fun H'' si' => ⟨_, rfl, si'⟩⟩
end
end K13
set_option Elab.async false
set_option linter.all false
set_option maxRecDepth 100000
set_option maxHeartbeats 1000000
set_option exponentiation.threshold 100000
namespace Fd
open PySem PySem.Spec PyProof.Rows L2
theorem op_eqSD {X : Cx} (hu : X.A.units < cLine) : OpR X (compareOp .Eq) (fun x y H Q => ∃ a kvs z, x = .str z ∧ y = .ref a ∧ H a = some (.dK kvs) ∧ Q (.bl false) H) := by
  intro pins s σ H x y v u Q I rx ry h
  obtain ⟨a, kvs, z, rfl, rfl, ha, q⟩ := h
  cases ry
  obtain ⟨t, rfl⟩ := rx
  obtain ⟨_, h1, vs, kv, hd⟩ := dk_of I.hok ha
  obtain ⟨o, es, ep, ho, hc, hdat, _⟩ := hd
  have f : s.heap.get? a = some o ∧ o.cls = .type "dict" ∧ ∃ es ep, o.data = .dict es ep := ⟨ho, hc.1, es, ep, hdat⟩
  show wpAny (model X.prog X.w) X.A (richCompare .Eq (.str z t) (.ref a)) (EP X pins σ Q) X.xe s
  exact SeqAt.rc_eq_decline_or (k := false) (typeIs_str s z t) ⟨_, ho, hc.1⟩ (by decide) F.sub_dict_str F.slot_str_eq_refl F.slot_dict_eq
    (fun _ hq => call_meets F.slot_str_eq_refl (typeIs_str s z t) F.entry_str_eq (F.args_str_eq_2 _ _) (str_eq_declines_dict a o z t) ⟨f, hq⟩)
    (fun _ hq => call_meets F.slot_dict_eq ⟨_, ho, hc.1⟩ F.entry_dict_eq (F.args_dict_eq_2 _ _) (dict_eq_declines_str a o z t) ⟨f, hq⟩)
    (fun _ hq => wpAny_of_eq (rfl : isSame (.str z t) (.ref a) = pure false) hq) (.inr hu) ⟨.bl false, H, I, rfl, q⟩
end Fd
namespace K13
open PySem PySem.Spec PyProof.Rows L2 Fa Fb
instance : DecidableEq M04.Cue := fun a b => if h : a.nm = b.nm ∧ a.pa = b.pa ∧ a.un = b.un ∧ a.q = b.q then isTrue (by
    cases a
    cases b
    simp only [M04.Cue.mk.injEq]
    exact h) else isFalse fun e => h (by rw [e]; exact ⟨rfl, rfl, rfl, rfl⟩)
def rEqO (K : PySem.W.Frag) : R2 := fun x y H Q => rEq x y H Q ∨ (rEqD K x y H Q ∨ ∃ a kvs z, x = .str z ∧ y = .ref a ∧ H a = some (.dK kvs) ∧ Q (.bl false) H)
theorem op_eqO {X : Cx} (hu1 : X.A.units + 1 < cLine) (hu : X.A.units + 64 < cLine) : OpR X (compareOp .Eq) (rEqO X.K) := Fe.op_or op_eq (Fe.op_or (op_eqD hu) (Fd.op_eqSD (Nat.lt_of_succ_lt hu1)))
abbrev CUn (K : PySem.W.Frag) : Addr := He.ga K "UnknownCue"
def ErrL (C : Addr) (v : V) (H : Hp) (E : XK) : Prop := ∀ d, H d = none → E (.ref C) (some d) (upd H d (.xd [("label", v)]))
/-- no text, and unequal to each -/
def Odd (K : PySem.W.Frag) (H : Hp) (y : V) : Prop := Tx K H y false ∧ (∀ z : Str, y ≠ .str z) ∧ ∀ (a : Str) (Q : VK), PyData.strOk a = true → Q (.bl false) H → rEqO K (.str a) y H Q
def spNm (K : PySem.W.Frag) : Sp := fun vs H Q _ => ∃ o mm H0 gs, vs = [.ref o] ∧ ShAt K mm H0 H o gs ∧ ∀ l H', Same H H' → H' l = some (.lst (gs.map fun g => V.str g.nm)) → H l = none → Q (.ref l) H'
def spCs (K : PySem.W.Frag) : Sp := fun vs H Q _ => ∃ o mm H0 gs, vs = [.ref o] ∧ ShAt K mm H0 H o gs ∧ ∀ l H', Same H H' → H' l = some (.lst (gs.map fun g => V.ref g.q)) → H l = none → Q (.ref l) H'
def spSLen (K : PySem.W.Frag) : Sp := fun vs H Q _ => ∃ o mm H0 gs, vs = [.ref o] ∧ ShAt K mm H0 H o gs ∧ Q (.int (gs.length : Nat)) H
def spSIn (K : PySem.W.Frag) : Sp := fun vs H Q _ => ∃ o mm H0 gs y, vs = [.ref o, y] ∧ ShAt K mm H0 H o gs ∧ ((Tx K H y false ∧ Q (.bl false) H) ∨ ∃ z : Str, y = .str z ∧ Q (.bl (M04.num (M04.all (gs.map cv)).nums z).isSome) H)
def spSEq (K : PySem.W.Frag) : Sp := fun vs H Q _ => ∃ o mm H0 gs y, vs = [.ref o, y] ∧ ShAt K mm H0 H o gs ∧ ((∃ o2 m2 H2 hs, y = .ref o2 ∧ ShAt K m2 H2 H o2 hs ∧ ∀ H', Same H H' → Q (.bl (decide (gs.map cv = hs.map cv))) H') ∨ (∃ T, TyX K H y (.type T) ∧ PySem.W.kitOne K (.type T) (.ref (CS K)) = some false ∧ ∀ H', Same H H' → Q (.bl false) H'))
def spCu (K : PySem.W.Frag) : Sp := fun vs H Q E => ∃ o mm H0 gs y, vs = [.ref o, y] ∧ ShAt K mm H0 H o gs ∧ ((Odd K H y ∧ (∀ g ∈ gs, PyData.strOk g.nm = true) ∧ ErrL (CUn K) y H E) ∨ ∃ z : Str, y = .str z ∧ ((∀ g ∈ gs, g.nm ≠ z) → ErrL (CUn K) y H E) ∧
  ∀ (i : Nat) g, gs[i]? = some g → g.nm = z → (∀ j h, j < i → gs[j]? = some h → h.nm ≠ z) → ∀ H' w, Same H H' → H' w = some (.tup [.str g.pa, .str g.un, .ref g.a]) → Q (.ref w) H')
def spCN (K : PySem.W.Frag) : Sp := fun vs H Q E => ∃ o mm H0 gs y, vs = [.ref o, y] ∧ ShAt K mm H0 H o gs ∧ ((Tx K H y false ∧ ErrL (CUn K) y H E) ∨ ∃ z : Str, y = .str z ∧ (M04.num (M04.all (gs.map cv)).nums z = none → ErrL (CUn K) y H E) ∧ ((M04.num (M04.all (gs.map cv)).nums z).isSome = true → Q .non H))
def spCh (K : PySem.W.Frag) : Sp := fun vs H Q E => ∃ o mm H0 gs y, vs = [.ref o, y] ∧ ShAt K mm H0 H o gs ∧ ((Tx K H y false ∧ ErrL (CUn K) y H E) ∨ ∃ z : Str, y = .str z ∧ (M04.num (M04.all (gs.map cv)).nums z = none → ErrL (CUn K) y H E) ∧
  ((M04.num (M04.all (gs.map cv)).nums z).isSome = true → ∀ l H', Same H H' → H' l = some (.lst ((gs.filter fun g => decide (g.pa = z)).map fun g => V.str g.nm)) → H l = none → Q (.ref l) H'))
abbrev sSLen : Stmt := inClass (top 42) 2
abbrev sSIn : Stmt := inClass (top 42) 3
abbrev sSEq : Stmt := inClass (top 42) 4
abbrev sSNm : Stmt := inClass (top 42) 5
abbrev sSCs : Stmt := inClass (top 42) 6
abbrev sSCu : Stmt := inClass (top 42) 7
abbrev sCN : Stmt := top 45
theorem scSLen : FnScope ["self"] ["self"] (defScope sSLen) := ⟨rfl, rfl, rfl, by decide +kernel, rfl, by decide +kernel, by decide +kernel⟩
theorem scSIn : FnScope ["self", "value"] ["self", "value"] (defScope sSIn) := ⟨rfl, rfl, rfl, by decide +kernel, rfl, by decide +kernel, by decide +kernel⟩
theorem scSEq : FnScope ["self", "other"] ["self", "other"] (defScope sSEq) := ⟨rfl, rfl, rfl, by decide +kernel, rfl, by decide +kernel, by decide +kernel⟩
theorem scSNm : FnScope ["self", "cue"] ["self"] (defScope sSNm) := ⟨rfl, rfl, rfl, by decide +kernel, rfl, by decide +kernel, by decide +kernel⟩
theorem scSCs : FnScope ["self"] ["self"] (defScope sSCs) := ⟨rfl, rfl, rfl, by decide +kernel, rfl, by decide +kernel, by decide +kernel⟩
theorem scSCu : FnScope ["self", "name", "cue"] ["self", "name"] (defScope sSCu) := ⟨rfl, rfl, rfl, by decide +kernel, rfl, by decide +kernel, by decide +kernel⟩
theorem scCN : FnScope ["sheet", "name"] ["sheet", "name"] (defScope sCN) := ⟨rfl, rfl, rfl, by decide +kernel, rfl, by decide +kernel, by decide +kernel⟩
theorem dec4 {α β γ δ : Type} [DecidableEq α] [DecidableEq β] [DecidableEq γ] [DecidableEq δ] {a b : α} {c d : β} {e f : γ} {g h : δ} : (decide (a = b) && (decide (c = d) && (decide (e = f) && (decide (g = h) && true)))) = decide (a = b ∧ c = d ∧ e = f ∧ g = h) := by
  by_cases h1 : a = b <;> by_cases h2 : c = d <;> by_cases h3 : e = f <;> by_cases h4 : g = h <;> simp [h1, h2, h3, h4]
theorem cue_dec (a b : M04.Cue) : decide (a = b) = decide (a.nm = b.nm ∧ a.pa = b.pa ∧ a.un = b.un ∧ a.q = b.q) := by
  by_cases c : a = b
  · subst c
    simp
  · rw [decide_eq_false c]
    refine (decide_eq_false fun h => c ?_).symm
    cases a
    cases b
    simp only [M04.Cue.mk.injEq]
    exact h
theorem cu_eqB {K : PySem.W.Frag} {n m : Nat} {H : Hp} {g h : Cu} (a : CuOk K n H g) (b : CuOk K m H h) : Fq.DTupB (DMix K) (.ref g.q) (.ref h.q) (decide (cv g = cv h)) H := by
  refine ⟨g.q, h.q, _, _, rfl, rfl, a.1, b.1, rfl, ?_⟩
  rw [cue_dec]
  show Fq.AllB (DMix K) _ _ (decide (g.nm = h.nm ∧ g.pa = h.pa ∧ g.un = h.un ∧ vq g.t g.u = vq h.t h.u)) H
  rw [← dec4]
  exact allB_cons strB (allB_cons strB (allB_cons strB (allB_cons (amB a.2 b.2) allB_nil)))
structure SCn (P : Program) (w : World) (K : PySem.W.Frag) (mg : Str → Option Value) (base : Heap) (f : Addr) (fd : FuncData) : Prop where
  at_ : PySem.W.findIn K (.ref (CS K)) "__contains__" = some (some (.ref f))
  fn : PySem.W.isFn K (.ref f) = true
  ok : FnOk P w K mg base (L2.CX P w) 1 f fd ["self", "value"] (spSIn K)
  b : Binds K fd ["self", "value"] []
section
variable {P : Program} {w : World} {K : PySem.W.Frag} {mg : Str → Option Value} {base : Heap} {f fS fE fI : Addr} {fd fdS fdE : FuncData} {q tu : Str} {aU : Addr}
theorem ok_sLen (F : FunD K "__len__" "Sheet.__len__" (defArgs sSLen) (defBody sSLen) (defScope sSLen) [] [] f fd) (M : MF K mg) (mL : mg "len" = none) : FnOk P w K mg base (L2.CX P w) 1 f fd ["self"] (spSLen K) := by
  refine F.ok scSLen (fun vs H Q E h => ?_) (fun cdv A outer s H vs Q E hr h => ?_)
  · obtain ⟨o, mm, H0, gs, rfl, _⟩ := h
    rfl
  · obtain ⟨o, mm, H0, gs, rfl, ⟨dx, c, r, d, rs, ho, inn⟩, k⟩ := h
    refine ⟨_, (pss_one (ps_ret (pe_callB call_len rfl mL PySem.boot_len (pa_cons (pe_fld (pv 0) rfl) pa_nil)))), ?_⟩
    refine ⟨_, rfl, o, _, dx, _, _, rfl, ho, M.cl, M.n1, sh_c c r d, _, _, rfl, .inl ⟨_, SqL.of inn.cl, rfl⟩, ?_⟩
    rw [List.length_map]
    exact k
theorem ok_sIn (F : FunD K "__contains__" "Sheet.__contains__" (defArgs sSIn) (defBody sSIn) (defScope sSIn) [] [] f fd) (T : AF K mg) (V : VF K mg aU) (M : MF K mg) : FnOk P w K mg base (L2.CX P w) 1 f fd ["self", "value"] (spSIn K) := by
  refine F.ok scSIn (fun vs H Q E h => ?_) (fun cdv A outer s H vs Q E hr h => ?_)
  · obtain ⟨o, mm, H0, gs, y, rfl, _⟩ := h
    rfl
  · obtain ⟨o, mm, H0, gs, y, rfl, ⟨dx, c, r, d, rs, ho, inn⟩, k⟩ := h
    have hu1 : (A.deeper (envOfC "Sheet.__contains__" (defScope sSIn) s.heap.objs.size f cdv)).units + 1 < cLine := by
      have := hr.un
      omega
    refine ⟨_, (pss_one (ps_ret (pe_and (pe_isi T.isi (pv 1) (pe_ty V.str boot_str)) (pe_one (pe_cmp (pc_din hu1 (pv 1) (pe_fld (pv 0) rfl))))))), ?_⟩
    rcases k with ⟨⟨ty, h1, h2⟩, k⟩ | ⟨z, rfl, k⟩
    · exact ⟨_, rfl, y, _, ty, _, false, rfl, .ty "str", h1, h2, false, rfl, iteF k⟩
    · refine ⟨_, rfl, .str z, _, _, _, true, rfl, .ty "str", TyX.base (.str z), tx_str, true, rfl, iteT ?_⟩
      refine ⟨_, rfl, _, rfl, o, _, dx, _, _, rfl, ho, M.cl, M.n3, sh_d c r d, ?_⟩
      refine ⟨d, _, rfl, .inl ⟨_, Sum.inr z, Rd.of inn.dk, rfl, rfl⟩, ?_⟩
      rw [valV_num, Option.isSome_map]
      exact k
theorem ok_sEq (F : FunD K "__eq__" "Sheet.__eq__" (defArgs sSEq) (defBody sSEq) (defScope sSEq) [] [] f fd) (T : AF K mg) (M : MF K mg) (EQ : EqK P w K mg base fE fdE) (kM : PySem.W.kitOne K (.ref (CS K)) (.ref (CS K)) = some true)
    (ca : PySem.W.findIn K (.ref (CS K)) "__class__" = some (some (.builtin "object.__class__"))) (cm : PySem.W.mroIn K (CS K) (.type "object") = some true) : FnOk P w K mg base (L2.CX P w) 5 f fd ["self", "other"] (spSEq K) := by
  refine F.ok scSEq (fun vs H Q E h => ?_) (fun cdv A outer s H vs Q E hr h => ?_)
  · obtain ⟨o, mm, H0, gs, y, rfl, _⟩ := h
    rfl
  · obtain ⟨o, mm, H0, gs, y, rfl, ⟨dx, c, r, d, rs, ho, inn⟩, h⟩ := h
    have hr3 := hr.mono (show 3 ≤ 4 by decide)
    refine ⟨_, (pss_one (ps_ret (pe_and (pe_isi T.isi (pv 1) (pe_glob (v := .ref (CS K)) rfl M.g rfl)) (pe_one (pe_cmpR (Fq.op_eqB (rc_row EQ) hr3) (pe_fld (pv 0) rfl) (pe_fld (pv 1) rfl) (nomark _)))))), ?_⟩
    rcases h with ⟨o2, m2, H2, hs, rfl, ⟨dx2, c2, r2, d2, rs2, ho2, inn2⟩, k⟩ | ⟨Ty, ty, kt, k⟩
    · refine ⟨_, rfl, _, _, _, _, true, rfl, .own _, .base (.ins ho2 M.cl ca T.cn T.ct cm), kM, true, rfl, iteT ?_⟩
      refine ⟨_, rfl, o, _, dx, _, _, rfl, ho, M.cl, M.n1, sh_c c r d, _, rfl, o2, _, dx2, _, _, rfl, ho2, M.cl, M.n1, sh_c c2 r2 d2, _, ⟨c, c2, _, _, rfl, rfl, inn.cl, inn2.cl, allB_map fun g hg h hh => cu_eqB (inn.cok g hg) (inn2.cok h hh)⟩, fun H' e => k H' e⟩
    · exact ⟨_, rfl, _, _, _, _, false, rfl, .own _, ty, kt, false, rfl, iteF (k H (Same.refl _))⟩
theorem ok_sCs (F : FunD K "cues" "Sheet.cues" (defArgs sSCs) (defBody sSCs) (defScope sSCs) [] [] f fd) (M : MF K mg) (mLi : mg "list" = none) : FnOk P w K mg base (L2.CX P w) 1 f fd ["self"] (spCs K) := by
  refine F.ok scSCs (fun vs H Q E h => ?_) (fun cdv A outer s H vs Q E hr h => ?_)
  · obtain ⟨o, mm, H0, gs, rfl, _⟩ := h
    rfl
  · obtain ⟨o, mm, H0, gs, rfl, ⟨dx, c, r, d, rs, ho, inn⟩, k⟩ := h
    refine ⟨_, (pss_one (ps_ret (pe_callTy call_list_of rfl mLi (by decide +kernel : bootBuiltins "list" = some (.type "list")) (pa_cons (pe_fld (pv 0) rfl) pa_nil)))), ?_⟩
    exact ⟨_, rfl, o, _, dx, _, _, rfl, ho, M.cl, M.n1, sh_c c r d, c, _, rfl, .inl (SqL.of inn.cl), fun l hl => k l _ (Same.upd hl) upd_same hl⟩
theorem ok_sNm (F : FunD K "names" "Sheet.names" (defArgs sSNm) (defBody sSNm) (defScope sSNm) [] [] f fd) (M : MF K mg) : FnOk P w K mg base (L2.CX P w) 1 f fd ["self"] (spNm K) := by
  refine F.ok scSNm (fun vs H Q E h => ?_) (fun cdv A outer s H vs Q E hr h => ?_)
  · obtain ⟨o, mm, H0, gs, rfl, _⟩ := h
    rfl
  · obtain ⟨o, mm, H0, gs, rfl, ⟨dx, c, r, d, rs, ho, inn⟩, k⟩ := h
    refine ⟨_, (pss_one (ps_ret (pe_lc (own := [("cue", 1)]) (g := gName 1) (te := tOp (rIxT K) (tVar 1) (tC (.int 0))) (by rfl) scSNm.nd (pi_list (pe_fld (pv 0) rfl)) (blkOk_by (own := [("cue", 1)]) (N := ["self", "cue"]) (sc := defScope sSNm) (by decide +kernel)) (fun _ _ _ _ _ => (pg_name (i := 1) scSNm.nd rfl (Or.inl rfl))) (fun _ _ _ _ _ => pts_nil) (fun _ _ _ _ _ => (pe_ix ix_tup (pv 1) pe_int (fun _ _ => rfl)))))), ?_⟩
    refine ⟨_, rfl, o, _, dx, _, _, rfl, ho, M.cl, M.n1, sh_c c r d, c, rfl, ⟨_, SqL.of inn.cl⟩, fun D hD => ?_⟩
    have inn1 := inn.same (Same.upd (o := .lst []) hD)
    refine lc_list (K := K) (a := c) (xs := gs.map fun g => V.ref g.q) (fun i H' => Same H H' ∧ H' D = some (.lst ((gs.take i).map fun g => V.str g.nm))) ⟨Same.upd hD, upd_same⟩ (fun i H' _ ⟨s, _⟩ => SqL.of (s _ _ inn.cl)) ?_ ?_
    · rintro i x H1 hx ⟨s1, ha⟩
      obtain ⟨g, eg, rfl⟩ := map_at hx
      have hi := (List.getElem?_eq_some_iff.mp eg).1
      refine ⟨rfl, _, rfl, g.q, _, 0, _, rfl, rfl, SqT.of (s1 _ _ (inn.cok g (List.mem_of_getElem? eg)).1), rfl, _, ha, ?_, same_put s1 hD, ?_⟩
      · rw [List.length_map, List.length_take]
        exact Nat.lt_of_lt_of_le (show min i gs.length < 100 by have := inn.n; omega) (by decide)
      · rw [upd_same, List.take_add_one, eg, List.map_append]
        rfl
    · rintro H1 ⟨s1, ha⟩
      rw [List.length_map, List.take_length] at ha
      exact k D H1 s1 ha hD
theorem ok_sCu (F : FunD K "cue" "Sheet.cue" (defArgs sSCu) (defBody sSCu) (defScope sSCu) [] [] f fd) (M : MF K mg) (gE : mg "UnknownCue" = some (.ref (CUn K))) (XU : Xk.Txt P.main.file K q "label" tu (CUn K) fI) (htop : (P.main.scope.names.lookup ("super" : Str)).isSome = false) : FnOk P w K mg base (L2.CX P w) 3 f fd ["self", "name"] (spCu K) := by
  refine F.ok scSCu (fun vs H Q E h => ?_) (fun cdv A outer s H vs Q E hr h => ?_)
  · obtain ⟨o, mm, H0, gs, y, rfl, _⟩ := h
    rfl
  · obtain ⟨o, mm, H0, gs, y, rfl, ⟨dx, c, r, d, rs, ho, inn⟩, k⟩ := h
    have hu1 : (A.deeper (envOfC "Sheet.cue" (defScope sSCu) s.heap.objs.size f cdv)).units + 1 < cLine := by
      have := hr.un
      omega
    have hu : (A.deeper (envOfC "Sheet.cue" (defScope sSCu) s.heap.objs.size f cdv)).units + 64 < cLine := by
      have := hr.un
      omega
    have hr2 := hr.mono (show 2 ≤ 2 by decide)
    refine ⟨_, (pss_cons (ps_for (passes_of rfl) rfl (pi_list (pe_fld (pv 0) rfl)) (pg_name (i := 2) scSCu.nd rfl (Or.inl rfl))
      (pss_one (ps_if (pt_cmpR (op_eqO hu1 hu) (pe_ix ix_tup (pv 2) pe_int (fun _ _ => rfl)) (pv 1) (nomark _)) (pss_one (ps_ret (pe_slice sl_tup (pv 2) (po_some pe_int) po_none))) pss_nil)))
      (pss_one (Xk.ps_raiseX (W := fun cls d _ H => E cls d H) rfl XU gE htop hr2 (takes_of rfl rfl rfl rfl) (pa_cons (pv 1) pa_nil)))), ?_⟩
    refine ⟨_, rfl, o, _, dx, _, _, rfl, ho, M.cl, M.n1, sh_c c r d, c, rfl, ⟨_, SqL.of inn.cl⟩, ?_⟩
    refine for_list (K := K) (a := c) (xs := gs.map fun g => V.ref g.q) (fun i σ H' => ∃ v2, σ = [some (.ref o), some y, v2] ∧ H' = H ∧ ∀ z : Str, y = .str z → ∀ j g, j < i → gs[j]? = some g → g.nm ≠ z) ⟨_, rfl, rfl, fun z _ j g hj => absurd hj (Nat.not_lt_zero _)⟩ (fun i σ H' _ ⟨_, _, e, _⟩ => by rw [e]; exact SqL.of inn.cl) ?_ ?_
    · rintro i x σ H1 hx ⟨v2, rfl, rfl, bef⟩
      obtain ⟨g, eg, rfl⟩ := map_at hx
      have ht := (inn.cok g (List.mem_of_getElem? eg)).1
      refine ⟨_, rfl, g.q, _, 0, _, rfl, rfl, SqT.of ht, rfl, _, rfl, ?_⟩
      rcases k with ⟨⟨_, k2, k3⟩, ks, _⟩ | ⟨z, rfl, _, k⟩
      · exact k3 g.nm _ (ks g (List.mem_of_getElem? eg)) ⟨false, rfl, iteF ⟨_, rfl, rfl, fun z e => absurd e (k2 z)⟩⟩
      · refine .inl ⟨rfl, _, rfl, ?_⟩
        by_cases e : g.nm = z
        · rw [decide_eq_true (by rw [e])]
          refine iteT ⟨_, rfl, _, rfl, g.q, _, rfl, SqT.of ht, (by show ¬ (min 1 4 = 0 ∧ 4 = 4); decide), fun p hp => ?_⟩
          exact k i g eg e (fun j h hj eh => bef z rfl j h hj eh) _ p (Same.upd hp) upd_same
        · rw [decide_eq_false fun x => e (V.str.inj x)]
          refine iteF ⟨_, rfl, rfl, fun z' e' j h hj eh => ?_⟩
          cases e'
          by_cases c : j < i
          · exact bef z rfl j h c eh
          · rw [show j = i by omega, eg] at eh
            cases eh
            exact e
    · rintro σ H1 ⟨v2, rfl, rfl, bef⟩
      rcases k with ⟨_, _, k⟩ | ⟨z, rfl, k, _⟩
      · exact ⟨_, rfl, _, rfl, k⟩
      · refine ⟨_, rfl, _, rfl, k fun g hg => ?_⟩
        obtain ⟨j, ej⟩ := List.getElem?_of_mem hg
        exact bef z rfl j g (by rw [List.length_map]; exact (List.getElem?_eq_some_iff.mp ej).1) ej
theorem ok_cn (F : FnP K "check_known" sCN f fd) (M : MF K mg) (SC : SCn P w K mg base fS fdS) (gE : mg "UnknownCue" = some (.ref (CUn K))) (XU : Xk.Txt P.main.file K q "label" tu (CUn K) fI) (htop : (P.main.scope.names.lookup ("super" : Str)).isSome = false) : FnOk P w K mg base (L2.CX P w) 3 f fd ["sheet", "name"] (spCN K) := by
  refine F.ok scCN (fun vs H Q E h => ?_) (fun cdv A outer s H vs Q E hr h => ?_)
  · obtain ⟨o, mm, H0, gs, y, rfl, _⟩ := h
    rfl
  · obtain ⟨o, mm, H0, gs, y, rfl, sh, k⟩ := h
    have hr2 := hr.mono (show 2 ≤ 2 by decide)
    have hr1 := hr.mono (show 1 ≤ 2 by decide)
    refine ⟨_, (pss_one (ps_if (pt_cmp (Fo.pc_notInX SC.at_ SC.fn SC.ok hr1 SC.b passS (pv 1) (pv 0))) (pss_one (Xk.ps_raiseX (W := fun cls d _ H => E cls d H) rfl XU gE htop hr2 (takes_of rfl rfl rfl rfl) (pa_cons (pv 1) pa_nil))) pss_nil)), ?_⟩
    obtain ⟨dx, c, r, d, rs, ho, inn⟩ := id sh
    refine ⟨_, rfl, _, rfl, o, dx, _, rfl, ho, o, mm, H0, gs, y, rfl, sh, ?_⟩
    rcases k with ⟨tx, er⟩ | ⟨z, rfl, er, k⟩
    · exact .inl ⟨tx, false, rfl, _, rfl, iteT ⟨_, rfl, _, rfl, er⟩⟩
    · refine .inr ⟨z, rfl, _, rfl, _, rfl, ?_⟩
      cases e : M04.num (M04.all (gs.map cv)).nums z with
      | none => exact iteT ⟨_, rfl, _, rfl, er e⟩
      | some i => exact iteF (k (by rw [e]; rfl))
end
end K13
set_option Elab.async false
set_option linter.all false
set_option maxRecDepth 100000
set_option maxHeartbeats 4000000
/-! o.m(a, ..) where what it raises is caught by the place. -/
namespace Fw
open PySem PySem.Spec PyProof.Rows L2
section
variable {X : Cx} {CX : CXT} {k : Nat} {f C : Addr} {fd : FuncData} {ps : List Str} {sp : Sp} {E : L2.St → XK}
theorem run_at {pn : List (Addr × Obj)} {σ : L2.St} {H : Hp} {s : Shared} {Q : VK} {us : List Value} {vs : List V} (F : FnOk X.prog X.w X.K X.mg X.base CX k f fd ps sp) (hr : Room k X.A) (hb : Binds X.K fd ps []) (px : PassesAt CX X σ (E σ))
    (I : Inv X pn σ H s) (r : Vals vs us) (h : sp vs H Q (E σ)) : wpAny (model X.prog X.w) X.A (call (.ref f) us) (EP X pn σ Q) X.xe s := by
  have bi := hb s us I.kIn (by rw [List.append_nil, ← r.length]; exact F.len _ _ _ _ h)
  rw [List.append_nil] at bi
  refine wpAny_call (codeAny_mono (F.run X.A X.stack s H ⟨us, []⟩ us vs Q (E σ) hr I.env0 bi r h) fun res s2 out => ?_)
  match res, out with
  | .error er, out => exact px pn H s er s2 I out
  | .ok (.ret u), out => exact I.after out
  | .ok .next, out => exact out.elim
  | .ok .brk, out => exact out.elim
  | .ok .cont, out => exact out.elim
def tMethX (C : Addr) (m : Str) (sp : Sp) (E : L2.St → XK) (ta : TE) (t : TA) : TE := fun σ H Q => ta σ H fun x H1 => ∃ a dx fs, x = .ref a ∧ H1 a = some (.ins C dx fs) ∧ fs.lookup m = none ∧ t σ H1 fun vs H2 => sp (.ref a :: vs) H2 Q (E σ)
theorem pe_methX {o e : Expr} {es : List Expr} {m : Str} {ta : TE} {t : TA} {apos pos : Pos} {pl : Sem Bool} (he : PE X o ta) (c : Cls X.K C) (hm : Meth X.K C m f) (F : FnOk X.prog X.w X.K X.mg X.base CX k f fd ps sp) (hr : Room k X.A) (hb : Binds X.K fd ps []) (px : ∀ σ, PassesAt CX X σ (E σ)) (ha : PA X (e :: es) t)
    (hst : starEach (e :: es) X.env = (false, eval e X.env) :: starEach es X.env := by rfl) (hpl : (backTo pos (starEach es X.env)).any (·.1) = false := by rfl)
    (ht : eval (.Call (.Attribute o m apos) (e :: es) [] pos) X.env = (do
      let ov ← eval o X.env
      standAt apos.atName
      let (f, first) ← holding [ov] (getMethod ov m pl)
      callWith pos f first (backTo pos (starEach (e :: es) X.env)) (backToKw pos (keywordEach [] X.env))) := by rfl) :
    PE X (.Call (.Attribute o m apos) (e :: es) [] pos) (tMethX C m sp E ta t) := by
  constructor
  intro pins s σ H Q I h
  refine PySem.W.methodCall_KW (pl := pl) (thn (he.run pins s σ H _ I h) fun u s1 z => ?_) ht
  obtain ⟨x, H1, I1, rx, a, dx, fs, ex, ea, l, q⟩ := z
  subst ex
  obtain rfl : u = Value.ref a := rx
  refine getmeth_ok I1 ea c hm l (PySem.W.callWith_K (first := [.ref a]) (h₀ := X.base) I.ok.mod.kin hm.kp (thn (ha.run pos pins s1 σ H1 _ I1 q) fun us s2 z => ?_) hst hpl)
  obtain ⟨vs, H2, I2, r, q2⟩ := z
  exact ⟨I2.kIn, run_at (us := .ref a :: us) (vs := .ref a :: vs) F hr hb (px σ) I2 (.cons rfl r) q2⟩
end
end Fw
set_option Elab.async false
set_option linter.all false
set_option maxRecDepth 100000
set_option maxHeartbeats 1000000
set_option exponentiation.threshold 100000
namespace K13
open PySem PySem.Spec PyProof.Rows L2 Fa Fb
abbrev sIntg : Stmt := top 25
abbrev sNeg : Stmt := inClass (top 32) 7
abbrev sSMm : Stmt := inClass (top 42) 13
abbrev sSRw : Stmt := inClass (top 42) 9
theorem scIntg : FnScope ["value", "low", "high"] ["value", "low", "high"] (defScope sIntg) := ⟨rfl, rfl, rfl, by decide +kernel, rfl, by decide +kernel, by decide +kernel⟩
theorem scNeg : FnScope ["self"] ["self"] (defScope sNeg) := ⟨rfl, rfl, rfl, by decide +kernel, rfl, by decide +kernel, by decide +kernel⟩
theorem scSMm : FnScope ["self", "name"] ["self", "name"] (defScope sSMm) := ⟨rfl, rfl, rfl, by decide +kernel, rfl, by decide +kernel, by decide +kernel⟩
theorem scSRw : FnScope ["self", "name"] ["self", "name"] (defScope sSRw) := ⟨rfl, rfl, rfl, by decide +kernel, rfl, by decide +kernel, by decide +kernel⟩
def spIntg (K : PySem.W.Frag) : Sp := fun vs H Q _ => ∃ (x : V) (lo hi : Int), vs = [x, .int lo, .int hi] ∧ ((Wh K H x false ∧ Q (.bl false) H) ∨ ∃ i : Int, x = .int i ∧ Q (.bl (decide (lo ≤ i) && decide (i ≤ hi))) H)
def spUn (K : PySem.W.Frag) (g : Int → Int) : Sp := fun vs H Q _ => ∃ x t u n, vs = [x] ∧ IsA K H x t u n ∧ n ≤ 8000 ∧ ∀ z H' t' u', Same H H' → IsA K H' z t' u' n → t' * u = g t * u' → Q z H'
section
variable {P : Program} {w : World} {K : PySem.W.Frag} {mg : Str → Option Value} {base : Heap} {f fW fS : Addr} {fd fdW fdS fdI : FuncData} {qv tv : Str} {fV : Addr}
theorem ok_intg (F : FnP K "is_integer" sIntg f fd) (T : AF K mg) (FW : FnP K "is_whole" sWhole fW fdW) (gW : mg "is_whole" = some (.ref fW)) : FnOk P w K mg base (L2.CX P w) 2 f fd ["value", "low", "high"] (spIntg K) := by
  have GW : FnOk P w K mg base (L2.CX P w) 1 fW fdW ["value"] (spWhole K) := ok_whole FW T
  have bW : Binds K fdW ["value"] [] := FW.bindsN fun _ _ _ _ _ _ us hl => match us, hl with | [_], _ => rfl
  refine F.ok scIntg (fun vs H Q E h => ?_) (fun cdv A outer s H vs Q E hr h => ?_)
  · obtain ⟨x, lo, hi, rfl, _⟩ := h
    rfl
  · obtain ⟨x, lo, hi, rfl, q⟩ := h
    refine ⟨_, pss_one (ps_ret (pe_and (pe_call GW hr rfl gW FW.kp bW .nil passL (pa_cons (pv 0) pa_nil)) (pe_one (pe_chain op_le op_le (pv 1) (pv 0) (pv 2))))), ?_⟩
    rcases q with ⟨wh, q⟩ | ⟨i, rfl, q⟩
    · exact ⟨_, rfl, x, false, rfl, wh, false, rfl, iteF q⟩
    · refine ⟨_, rfl, .int i, true, rfl, wh_int i, true, rfl, iteT ⟨_, rfl, _, rfl, _, _, rfl, rfl, _, rfl, ?_⟩⟩
      by_cases c : lo ≤ i
      · refine if_true_of (decide_eq_true c) ⟨_, rfl, _, _, rfl, rfl, ?_⟩
        rw [decide_eq_true c, Bool.true_and] at q
        exact q
      · refine if_false_of (decide_eq_false c) ?_
        rw [decide_eq_false c, Bool.false_and] at q
        exact q
theorem ok_neg (F : FunD K "__neg__" "Amount.__neg__" (defArgs sNeg) (defBody sNeg) (defScope sNeg) [] [] f fd) (T : AF K mg) (GI : FnOk P w K mg base (L2.CX P w) 4 (aI K) fdI ["self", "top", "bottom"] (spInit K)) (bI : Binds K fdI ["self", "top", "bottom"] []) : FnOk P w K mg base (L2.CX P w) 6 f fd ["self"] (spUn K fun t => -t) := by
  refine F.ok scNeg (fun vs H Q E h => ?_) (fun cdv A outer s H vs Q E hr h => ?_)
  · obtain ⟨x, t, u, n, rfl, _⟩ := h
    rfl
  · obtain ⟨x, t, u, n, rfl, ix, hn, q⟩ := h
    obtain ⟨p, dx, rfl, hp, r, b1, b2⟩ := id ix
    refine ⟨_, pss_one (ps_ret (pe_make T.mkA GI hr rfl T.g bI .nil passL (pa_cons (pe_un un_neg (pe_fld (pv 0) rfl)) (pa_cons (pe_fld (pv 0) rfl) pa_nil)))), ?_⟩
    refine ⟨_, rfl, p, CA K, dx, _, _, rfl, hp, T.cl, T.noT, fl_top _ _, _, rfl, ?_⟩
    refine ⟨_, rfl, p, CA K, dx, _, _, rfl, hp, T.cl, T.noB, fl_bot _ _, ?_⟩
    exact make_read T (n := n) (by have := r.1; omega) hn (by rw [Int.natAbs_neg]; exact b1) b2 fun y' H2 t' u' s2 i2 e => q y' H2 t' u' s2 i2 e
def spMm (K : PySem.W.Frag) : Sp := fun vs H Q E => ∃ o mm H0 gs y, vs = [.ref o, y] ∧ ShAt K mm H0 H o gs ∧ ((Tx K H y false ∧ ErrL (CUn K) y H E) ∨ ∃ z : Str, y = .str z ∧ (M04.num (M04.all (gs.map cv)).nums z = none → ErrL (CUn K) y H E) ∧ ∀ n, M04.num (M04.all (gs.map cv)).nums z = some n → Q (.int (n : Int)) H)
theorem ok_sMm (F : FunD K "moment" "Sheet.moment" (defArgs sSMm) (defBody sSMm) (defScope sSMm) [] [] f fd) (M : MF K mg) (CN : Fn P w K mg base "check_known" 3 ["sheet", "name"] (spCN K) fS fdS) : FnOk P w K mg base (L2.CX P w) 4 f fd ["self", "name"] (spMm K) := by
  refine F.ok scSMm (fun vs H Q E h => ?_) (fun cdv A outer s H vs Q E hr h => ?_)
  · obtain ⟨o, mm, H0, gs, y, rfl, _⟩ := h
    rfl
  · obtain ⟨o, mm, H0, gs, y, rfl, sh, k⟩ := h
    have hr3 := hr.mono (show 3 ≤ 3 by decide)
    have hu1 : (A.deeper (envOfC "Sheet.moment" (defScope sSMm) s.heap.objs.size f cdv)).units + 1 < cLine := by
      have := hr.un
      omega
    refine ⟨_, (pss_cons (ps_expr (pe_callS CN.ok hr3 rfl CN.g CN.k CN.b (fun σ => passAt (W := fun cls d _ H => E cls d H) (takes_of rfl rfl rfl rfl) σ) (pa_cons (pv 0) (pa_cons (pv 1) pa_nil))))
      (pss_one (ps_ret (pe_dget hu1 (pe_fld (pv 0) rfl) (pv 1) (fun _ _ => rfl))))), ?_⟩
    obtain ⟨dx, c, r, d, rs, ho, inn⟩ := id sh
    refine ⟨_, rfl, _, rfl, o, mm, H0, gs, y, rfl, sh, ?_⟩
    rcases k with ⟨tx, er⟩ | ⟨z, rfl, er, k⟩
    · exact .inl ⟨tx, er⟩
    · refine .inr ⟨z, rfl, er, fun e => ?_⟩
      obtain ⟨n, en⟩ := Option.isSome_iff_exists.mp e
      have ev : valV (numK (M04.all (gs.map cv)).nums) (Sum.inr z) = some (V.int (n : Int)) := by
        rw [valV_num, en]
        rfl
      exact ⟨_, rfl, o, _, dx, _, _, rfl, ho, M.cl, M.n3, sh_d c r d, _, rfl, d, _, rfl, .inl ⟨_, Sum.inr z, Rd.of inn.dk, rfl, ev.symm⟩, k n en⟩
def spRw (K : PySem.W.Frag) : Sp := fun vs H Q E => ∃ o mm H0 gs y, vs = [.ref o, y] ∧ ShAt K mm H0 H o gs ∧ ((Tx K H y false ∧ ErrL (CUn K) y H E) ∨ ∃ z : Str, y = .str z ∧ (M04.num (M04.all (gs.map cv)).nums z = none → ErrL (CUn K) y H E) ∧
  ∀ n, M04.num (M04.all (gs.map cv)).nums z = some n → ∀ l its H', Same H H' → H' l = some (.lst (its.map fun (g : It) => V.ref g.q)) → H l = none → (∀ g ∈ its, ItOk K (bitsOf mm gs) H' g) → its.length ≤ gs.length → (M04.all (gs.map cv)).rows[n]? = some (rv its) → Q (.ref l) H')
theorem ok_sRw (F : FunD K "row" "Sheet.row" (defArgs sSRw) (defBody sSRw) (defScope sSRw) [] [] f fd) (M : MF K mg) (mLi : mg "list" = none) (MM : MeS P w K mg base "moment" 4 ["self", "name"] (spMm K) fS fdS) : FnOk P w K mg base (L2.CX P w) 5 f fd ["self", "name"] (spRw K) := by
  refine F.ok scSRw (fun vs H Q E h => ?_) (fun cdv A outer s H vs Q E hr h => ?_)
  · obtain ⟨o, mm, H0, gs, y, rfl, _⟩ := h
    rfl
  · obtain ⟨o, mm, H0, gs, y, rfl, sh, k⟩ := h
    have hr4 := hr.mono (show 4 ≤ 4 by decide)
    refine ⟨_, (pss_one (ps_ret (pe_callTy call_list_of rfl mLi (by decide +kernel : bootBuiltins "list" = some (.type "list")) (pa_cons (pe_ix ix_list (pe_fld (pv 0) rfl) (Fw.pe_methX (pv 0) M.cl MM.me MM.ok hr4 MM.b (fun σ => passAt (W := fun cls d _ H => E cls d H) (takes_of rfl rfl rfl rfl) σ) (pa_cons (pv 1) pa_nil)) (fun _ _ => rfl)) pa_nil)))), ?_⟩
    obtain ⟨dx, c, r, d, rs, ho, inn⟩ := id sh
    refine ⟨_, rfl, o, _, dx, _, _, rfl, ho, M.cl, M.n2, sh_r c r d, _, rfl, o, dx, _, rfl, ho, sh_no c r d (by decide +kernel) (by decide +kernel) (by decide +kernel), _, rfl, o, mm, H0, gs, y, rfl, sh, ?_⟩
    rcases k with ⟨tx, er⟩ | ⟨z, rfl, er, k⟩
    · exact .inl ⟨tx, er⟩
    · refine .inr ⟨z, rfl, er, fun n en => ?_⟩
      have lt := M04.all_ok (gs.map cv) _ M04.init_ok _ _ en
      have lt : n < (M04.all (gs.map cv)).rows.length := lt
      have lr : n < rs.length := by
        rw [← inn.rv, List.length_map] at lt
        exact lt
      obtain ⟨zr, er'⟩ : ∃ zr, rs[n]? = some zr := ⟨_, List.getElem?_eq_getElem lr⟩
      obtain ⟨ro, ln, _, _, _⟩ := inn.rok zr (List.mem_of_getElem? er')
      refine ⟨r, _, (n : Int), _, rfl, rfl, SqL.of inn.rl, atI_nat (by rw [List.getElem?_map, er']; rfl), zr.1, _, rfl, .inl (SqL.of ro.l), fun l hl => ?_⟩
      have s1 := Same.upd (o := .lst (zr.2.map fun g => V.ref g.q)) hl
      refine k n en l zr.2 _ s1 upd_same hl (fun g hg => (ro.ok g hg).same s1) ln ?_
      rw [← inn.rv, List.getElem?_map, er']
      rfl
end
end K13
set_option Elab.async false
set_option linter.all false
set_option maxRecDepth 100000
set_option maxHeartbeats 1000000
set_option exponentiation.threshold 100000
namespace K13
open PySem PySem.Spec PyProof.Rows L2 Fa Fb
abbrev sSMs : Stmt := inClass (top 42) 12
theorem scSMs : FnScope ["self", "row"] ["self"] (defScope sSMs) := ⟨rfl, rfl, rfl, by decide +kernel, rfl, by decide +kernel, by decide +kernel⟩
def rLs (K : PySem.W.Frag) : List V → Hp → VK → Prop := fun xs H Q => ∃ p ys, xs = [.ref p] ∧ (SqL K H p ys ∨ SqT K H p ys) ∧ ∀ l, H l = none → Q (.ref l) (upd H l (.lst ys))
structure MoL (K : PySem.W.Frag) (n m : Nat) (H H' : Hp) (l : Addr) (rs : List (Addr × List It)) : Prop where
  at_ : H' l = some (.lst (rs.map fun z => V.ref z.1))
  ok : ∀ z ∈ rs, RowOk K n H' z.1 z.2 ∧ z.2.length ≤ m ∧ H z.1 = none ∧ z.1 ≠ l
  nd : (rs.map fun z => z.1).Nodup
def spMos (K : PySem.W.Frag) : Sp := fun vs H Q _ => ∃ o mm H0 gs, vs = [.ref o] ∧ ShAt K mm H0 H o gs ∧ ∀ l rs H', Same H H' → MoL K (bitsOf mm gs) gs.length H H' l rs → H l = none → (rs.map fun z => rv z.2) = (M04.all (gs.map cv)).rows → Q (.ref l) H'
theorem inn_it {K : PySem.W.Frag} {n : Nat} {H H2 : Hp} {D : Addr} {o : HO} {xs : List V} {g : It} (_s : Same H (upd H2 D o)) (_s2 : Same H H2) (_h : H D = none) (d : H2 D = some (.lst xs)) (i : ItOk K n H2 g) : ItOk K n (upd H2 D o) g := i.put (.inl ⟨_, d⟩)
section
variable {P : Program} {w : World} {K : PySem.W.Frag} {mg : Str → Option Value} {base : Heap} {f fS : Addr} {fd fdS : FuncData}
theorem ok_sMs (F : FunD K "moments" "Sheet.moments" (defArgs sSMs) (defBody sSMs) (defScope sSMs) [] [] f fd) (M : MF K mg) (mLi : mg "list" = none) : FnOk P w K mg base (L2.CX P w) 1 f fd ["self"] (spMos K) := by
  refine F.ok scSMs (fun vs H Q E h => ?_) (fun cdv A outer s H vs Q E hr h => ?_)
  · obtain ⟨o, mm, H0, gs, rfl, _⟩ := h
    rfl
  · obtain ⟨o, mm, H0, gs, rfl, sh, k⟩ := h
    refine ⟨_, (pss_one (ps_ret (pe_lc (own := [("row", 1)]) (g := gName 1) (te := tCB (rLs K) (tCons (tVar 1) tNil)) (by rfl) scSMs.nd (pi_list (pe_fld (pv 0) rfl)) (blkOk_by (own := [("row", 1)]) (N := ["self", "row"]) (sc := defScope sSMs) (by decide +kernel)) (fun _ _ _ _ _ => (pg_name (i := 1) scSMs.nd rfl (Or.inl rfl))) (fun _ _ _ _ _ => pts_nil) (fun _ _ _ _ _ => (pe_callTy call_list_of rfl mLi (by decide +kernel : bootBuiltins "list" = some (.type "list")) (pa_cons (pv 1) pa_nil)))))), ?_⟩
    obtain ⟨dx, c, r, d, rs, ho, inn⟩ := id sh
    refine ⟨_, rfl, o, _, dx, _, _, rfl, ho, M.cl, M.n2, sh_r c r d, r, rfl, ⟨_, SqL.of inn.rl⟩, fun D hD => ?_⟩
    have l20 : rs.length ≤ 21 := by
      have h := congrArg List.length inn.rv
      have h2 := M04.rows_len (gs.map cv)
      rw [List.length_map] at h h2
      have := inn.n
      omega
    refine lc_list (K := K) (a := r) (xs := rs.map fun z => V.ref z.1) (fun j H' => Same H H' ∧ ∃ rs', MoL K (bitsOf mm gs) gs.length H H' D rs' ∧ rs'.length = j ∧ (rs'.map fun z => rv z.2) = ((rs.take j).map fun z => rv z.2)) ⟨Same.upd hD, [], ⟨upd_same, (fun z hz => by cases hz), List.nodup_nil⟩, rfl, rfl⟩ (fun j H' _ ⟨s, _⟩ => SqL.of (s _ _ inn.rl)) ?_ ?_
    · rintro j x H1 hx ⟨s1, rs', ml, ln, ev⟩
      obtain ⟨z, ez, rfl⟩ := map_at hx
      have hj := (List.getElem?_eq_some_iff.mp ez).1
      obtain ⟨ro, lz, _, _, _⟩ := inn.rok z (List.mem_of_getElem? ez)
      have ro1 := ro.same s1
      refine ⟨rfl, _, rfl, z.1, _, rfl, .inl (SqL.of ro1.l), fun l hl => ?_⟩
      have s2 := Same.upd (o := .lst (z.2.map fun g => V.ref g.q)) hl
      have t2 : upd H1 l (.lst (z.2.map fun g => V.ref g.q)) l = some (.lst (z.2.map fun g => V.ref g.q)) := upd_same
      have lD : l ≠ D := fun e => by
        have := ml.at_
        rw [← e, hl] at this
        cases this
      have nl : ∀ y ∈ rs', y.1 ≠ l := fun y hy e => by
        have := (ml.ok y hy).1.l
        rw [e, hl] at this
        cases this
      generalize upd H1 l (.lst (z.2.map fun g => V.ref g.q)) = H2 at s2 t2 ⊢
      have d2 := s2 _ _ ml.at_
      have s12 := s1.trans s2
      have sp := same_put (o := .lst (rs'.map (fun z => V.ref z.1) ++ [.ref l])) s12 hD
      refine ⟨_, d2, ?_, sp, rs' ++ [(l, z.2)], ⟨?_, fun y hy => ?_, ?_⟩, by rw [List.length_append, ln]; rfl, ?_⟩
      · rw [List.length_map, ln]
        exact Nat.lt_of_lt_of_le (show j < 100 by omega) (by decide)
      · rw [upd_same, List.map_append]
        rfl
      · rcases List.mem_append.mp hy with m | m
        · obtain ⟨y1, y2, y3, y4⟩ := ml.ok y m
          have y1' := y1.same s2
          exact ⟨⟨by rw [upd_ne y4]; exact y1'.l, fun g hg => (inn_it sp s12 hD d2 (y1'.ok g hg)), y1'.n⟩, y2, y3, y4⟩
        · rw [List.mem_singleton.mp m]
          exact ⟨⟨by rw [upd_ne lD]; exact t2, fun g hg => (ro.ok g hg).same sp, ro.n⟩, lz, none_of s1 hl, lD⟩
      · rw [List.map_append, List.nodup_append]
        refine ⟨ml.nd, by simp, fun a ha b hb => ?_⟩
        obtain ⟨y, hy, rfl⟩ := List.mem_map.mp ha
        rw [List.mem_singleton.mp hb]
        exact nl y hy
      · rw [List.map_append, List.take_add_one, ez, List.map_append, ev]
        rfl
    · rintro H1 ⟨s1, rs', ml, ln, ev⟩
      rw [List.length_map, List.take_length] at ev
      exact k D rs' H1 s1 ml hD (ev.trans inn.rv)
end
end K13
set_option linter.all false
namespace M04
open PySem
def AllOk (s : St) : Prop := ∀ z ∈ s.nums, z.2 < s.rows.length
theorem init_all : AllOk init := fun z hz => by
  have : z = (("start" : Str), 0) := List.mem_singleton.mp hz
  rw [this]
  decide
theorem rows_at (s : St) (c : Cue) {i : Nat} (h : i < s.rows.length) : (rows s c)[i]? = s.rows[i]? := by
  unfold rows
  split
  · rfl
  · rw [List.getElem?_append_left h]
theorem rows_le (s : St) (c : Cue) : s.rows.length ≤ (rows s c).length := by
  unfold rows
  split
  · exact Nat.le_refl _
  · rw [List.length_append]; omega
theorem step_all (s : St) (c : Cue) (h : AllOk s) : AllOk (step s c) := fun z hz => by
  show z.2 < (rows s c).length
  rcases List.mem_append.mp hz with hz | hz
  · exact Nat.lt_of_lt_of_le (h z hz) (rows_le s c)
  · rw [List.mem_singleton] at hz
    subst hz
    exact idx_lt (row_mem s c)
theorem all_all : ∀ (cs : List Cue) (s : St), AllOk s → AllOk (cs.foldl step s)
  | [], s, h => h
  | c :: r, s, h => all_all r (step s c) (step_all s c h)
/-- each name and its row -/
def tab (s : St) : List (Str × Option Row) := s.nums.map fun z => (z.1, s.rows[z.2]?)
theorem tab_step {s : St} (c : Cue) (h : AllOk s) : tab (step s c) = tab s ++ [(c.nm, some (row s c))] := by
  unfold tab
  show (s.nums ++ [(c.nm, idx (rows s c) (row s c))]).map (fun z => (z.1, (rows s c)[z.2]?)) = _
  rw [List.map_append]
  congr 1
  · refine List.map_congr_left fun z hz => ?_
    rw [rows_at s c (h z hz)]
  · show [(c.nm, (rows s c)[idx (rows s c) (row s c)]?)] = _
    rw [idx_at (row_mem s c)]
theorem tab_len (s : St) : (tab s).length = s.nums.length := List.length_map ..
theorem rows_tab : ∀ (cs : List Cue) (s : St), AllOk s → (∀ r ∈ s.rows, ∃ x, (x, some r) ∈ tab s) → ∀ r ∈ (cs.foldl step s).rows, ∃ x, (x, some r) ∈ tab (cs.foldl step s)
  | [], s, _, h => h
  | c :: rest, s, a, h => by
    refine rows_tab rest (step s c) (step_all s c a) fun r hr => ?_
    rw [tab_step c a]
    have hr : r ∈ rows s c := hr
    unfold rows at hr
    split at hr
    · obtain ⟨x, hx⟩ := h r hr
      exact ⟨x, List.mem_append_left _ hx⟩
    · rcases List.mem_append.mp hr with hr | hr
      · obtain ⟨x, hx⟩ := h r hr
        exact ⟨x, List.mem_append_left _ hx⟩
      · rw [List.mem_singleton] at hr
        subst hr
        exact ⟨c.nm, List.mem_append_right _ (List.mem_singleton.mpr rfl)⟩
theorem init_tab : ∀ r ∈ init.rows, ∃ x, (x, some r) ∈ tab init := fun r hr => by
  have : r = [] := List.mem_singleton.mp hr
  subst this
  exact ⟨"start", List.mem_singleton.mpr rfl⟩
/-- no name twice, and each parent is known -/
def Good (cs : List Cue) : Prop := ∀ (i : Nat) c, cs[i]? = some c → num (all (cs.take i)).nums c.nm = none ∧ (num (all (cs.take i)).nums c.pa).isSome = true
theorem all_take {cs : List Cue} {i : Nat} {c : Cue} (h : cs[i]? = some c) : all (cs.take (i + 1)) = step (all (cs.take i)) c := by
  rw [List.take_add_one, h]
  exact all_app _ _
theorem find_nm {α : Type} : ∀ {l : List (Str × α)} {x : Str} {a : α}, (l.map (·.1)).Nodup → (x, a) ∈ l → l.find? (fun z => decide (z.1 = x)) = some (x, a)
  | [], _, _, _, h => by cases h
  | z :: r, x, a, nd, h => by
    rw [List.map_cons, List.nodup_cons] at nd
    rw [List.find?_cons]
    rcases List.mem_cons.mp h with e | m
    · subst e
      simp
    · have : z.1 ≠ x := fun e => nd.1 (List.mem_map.mpr ⟨_, m, e.symm⟩)
      rw [decide_eq_false this]
      exact find_nm nd.2 m
theorem num_none {l : List (Str × Nat)} {x : Str} : num l x = none ↔ x ∉ l.map (·.1) := by
  unfold num
  rw [Option.map_eq_none_iff, List.find?_eq_none]
  constructor
  · intro h m
    obtain ⟨z, hz, e⟩ := List.mem_map.mp m
    exact h z hz (decide_eq_true e)
  · intro h z hz e
    exact h (List.mem_map.mpr ⟨z, hz, of_decide_eq_true e⟩)
theorem names_all (cs : List Cue) : (all cs).nums.map (·.1) = ("start" : Str) :: cs.map (·.nm) := by
  suffices h : ∀ (cs : List Cue) (s : St), (cs.foldl step s).nums.map (·.1) = s.nums.map (·.1) ++ cs.map (·.nm) by
    rw [show all cs = cs.foldl step init from rfl, h]
    rfl
  intro cs
  induction cs with
  | nil => intro s; simp
  | cons c r ih =>
    intro s
    rw [List.foldl_cons, ih]
    show (s.nums ++ [(c.nm, idx (rows s c) (row s c))]).map (fun z => z.1) ++ _ = _
    simp
theorem tab_nm (s : St) : (tab s).map (fun z => z.1) = s.nums.map (fun z => z.1) := by
  unfold tab
  rw [List.map_map]
  rfl
theorem all_take_len {cs : List Cue} {i : Nat} {c : Cue} (h : cs[i]? = some c) : (cs.take (i + 1)).length = i + 1 := by
  have := (List.getElem?_eq_some_iff.mp h).1
  rw [List.length_take]
  omega
/-- by the names alone -/
theorem good_iff (cs : List Cue) : Good cs ↔ ∀ (i : Nat) c, cs[i]? = some c → c.nm ∉ ("start" : Str) :: (cs.take i).map (·.nm) ∧ c.pa ∈ ("start" : Str) :: (cs.take i).map (·.nm) := by
  have h : ∀ (cs : List Cue) x, (num (all cs).nums x).isSome = true ↔ x ∈ ("start" : Str) :: cs.map (·.nm) := fun cs x => by
    rw [← names_all]
    have := num_none (l := (all cs).nums) (x := x)
    cases e : num (all cs).nums x with
    | none => simp [this.mp e]
    | some i =>
      refine ⟨fun _ => ?_, fun _ => rfl⟩
      apply Classical.byContradiction
      intro c
      rw [this.mpr c] at e
      cases e
  constructor
  · intro g i c e
    obtain ⟨a, b⟩ := g i c e
    exact ⟨by rw [← names_all]; exact num_none.mp a, (h _ _).mp b⟩
  · intro g i c e
    obtain ⟨a, b⟩ := g i c e
    exact ⟨num_none.mpr (by rw [names_all]; exact a), (h _ _).mpr b⟩
theorem good_take {cs : List Cue} (g : Good cs) (n : Nat) : Good (cs.take n) := fun i c e => by
  have hi : i < n := by
    have := (List.getElem?_eq_some_iff.mp e).1
    rw [List.length_take] at this
    omega
  rw [List.getElem?_take_of_lt hi] at e
  rw [List.take_take, Nat.min_eq_left (Nat.le_of_lt hi)]
  exact g i c e
theorem names_nodup {cs : List Cue} (g : Good cs) : (("start" : Str) :: cs.map (·.nm)).Nodup := by
  suffices h : ∀ n, (("start" : Str) :: (cs.take n).map (·.nm)).Nodup by
    have := h cs.length
    rwa [List.take_length] at this
  intro n
  induction n with
  | zero => simp
  | succ n ih =>
    rw [List.take_add_one]
    cases e : cs[n]? with
    | none => simpa using ih
    | some c =>
      have := ((good_iff cs).mp g n c e).1
      rw [List.map_append]
      show ((("start" : Str) :: (cs.take n).map (·.nm)) ++ [c.nm]).Nodup
      rw [List.nodup_append]
      refine ⟨ih, by simp, fun a ha b hb => ?_⟩
      have : b = c.nm := List.mem_singleton.mp hb
      subst this
      intro e
      subst e
      exact ((good_iff cs).mp g n c (by assumption)).1 ha
theorem rows_nodup : ∀ (cs : List Cue) (s : St), s.rows.Nodup → (cs.foldl step s).rows.Nodup
  | [], _, h => h
  | c :: r, s, h => by
    refine rows_nodup r (step s c) ?_
    show (rows s c).Nodup
    unfold rows
    split
    · exact h
    · rename_i n
      rw [List.nodup_append]
      refine ⟨h, by simp, fun a ha b hb => ?_⟩
      have : b = row s c := List.mem_singleton.mp hb
      subst this
      intro e
      subst e
      exact n ha
theorem sub_len {α : Type} [DecidableEq α] : ∀ {l m : List α}, l.Nodup → (∀ x ∈ l, x ∈ m) → l.length ≤ m.length
  | [], _, _, _ => Nat.zero_le _
  | a :: l, m, nd, h => by
    rw [List.nodup_cons] at nd
    have hm := h a List.mem_cons_self
    have := sub_len (l := l) (m := m.erase a) nd.2 fun x hx => by
      have ne : x ≠ a := fun e => nd.1 (e ▸ hx)
      exact (List.mem_erase_of_ne ne).mpr (h x (List.mem_cons_of_mem _ hx))
    rw [List.length_erase_of_mem hm] at this
    have : 0 < m.length := List.length_pos_of_mem hm
    rw [List.length_cons]
    omega
theorem good_snoc {cs : List Cue} {c : Cue} (g : Good cs) (h1 : c.nm ∉ ("start" : Str) :: cs.map (·.nm)) (h2 : c.pa ∈ ("start" : Str) :: cs.map (·.nm)) : Good (cs ++ [c]) := by
  rw [good_iff]
  intro i x e
  rcases Nat.lt_or_ge i cs.length with hi | hi
  · rw [List.getElem?_append_left hi] at e
    rw [List.take_append_of_le_length (Nat.le_of_lt hi)]
    exact (good_iff cs).mp g i x e
  · have : i = cs.length := by
      have := (List.getElem?_eq_some_iff.mp e).1
      rw [List.length_append, List.length_singleton] at this
      omega
    subst this
    rw [List.getElem?_append_right (Nat.le_refl _), Nat.sub_self] at e
    cases e
    rw [List.take_append_of_le_length (Nat.le_refl _), List.take_length]
    exact ⟨h1, h2⟩
/-- all rows are among xs: so many at most -/
theorem rows_few {cs : List Cue} (g : Good cs) {xs : List Row} (h0 : [] ∈ xs) (h : ∀ (i : Nat) c, cs[i]? = some c → row (all (cs.take i)) c ∈ xs) : (all cs).rows.length ≤ xs.length := by
  refine sub_len (rows_nodup cs init (by decide)) fun r hr => ?_
  suffices q : ∀ n, ∀ r ∈ (all (cs.take n)).rows, r ∈ xs by
    have := q cs.length r
    rw [List.take_length] at this
    exact this hr
  intro n
  induction n with
  | zero =>
    intro r hr
    have : r = [] := List.mem_singleton.mp hr
    rw [this]
    exact h0
  | succ n ih =>
    intro r hr
    cases e : cs[n]? with
    | none =>
      rw [List.take_of_length_le (by have := List.getElem?_eq_none_iff.mp e; omega)] at hr
      rw [List.take_of_length_le (by have := List.getElem?_eq_none_iff.mp e; omega)] at ih
      exact ih r hr
    | some c =>
      rw [all_take e] at hr
      have hr : r ∈ rows (all (cs.take n)) c := hr
      unfold rows at hr
      split at hr
      · exact ih r hr
      · rcases List.mem_append.mp hr with hr | hr
        · exact ih r hr
        · rw [List.mem_singleton] at hr
          rw [hr]
          exact h n c e
theorem tab_pre (cs : List Cue) (i : Nat) {z : Str × Option Row} (h : z ∈ tab (all (cs.take i))) : z ∈ tab (all cs) := by
  suffices q : ∀ n, z ∈ tab (all (cs.take (i + n))) by
    have := q cs.length
    rwa [List.take_of_length_le (by omega)] at this
  intro n
  induction n with
  | zero => exact h
  | succ n ih =>
    cases e : cs[i + n]? with
    | none =>
      have e0 := List.getElem?_eq_none_iff.mp e
      rw [List.take_of_length_le (by omega)]
      rwa [List.take_of_length_le (by omega)] at ih
    | some c =>
      rw [show i + (n + 1) = (i + n) + 1 from rfl, all_take e, tab_step c (show AllOk (all _) from all_all _ _ init_all)]
      exact List.mem_append_left _ ih
theorem tab_mem {cs : List Cue} {i : Nat} {c : Cue} (g : Good cs) (e : cs[i]? = some c) : (c.nm, some (row (all (cs.take i)) c)) ∈ tab (all cs) := by
  refine tab_pre cs (i + 1) ?_
  rw [all_take e, tab_step c (show AllOk (all _) from all_all _ _ init_all)]
  exact List.mem_append_right _ (List.mem_singleton.mpr rfl)
end M04
set_option linter.all false
/-! Rows as reduced words: leading on by the way from one row to another one. -/
namespace M06
open PySem M04
def Ne (p : Row) (u : Str) : Prop := ∀ v a, p.getLast? = some (v, a) → v ≠ u
inductive W : Row → Prop
  | nil : W []
  | snoc {r : Row} {u : Str} {q : Rat} : W r → q ≠ 0 → Ne r u → W (r ++ [(u, q)])
def glue (p : Row) (u : Str) (c : Rat) : Row := if c = 0 then p else p ++ [(u, c)]
theorem part_snoc (r : Row) (v u : Str) (a : Rat) : part (r ++ [(v, a)]) u = if v = u then (r, a) else (r ++ [(v, a)], 0) := by
  unfold part
  rw [List.getLast?_concat]
  simp
theorem part_ne {p : Row} {u : Str} (h : Ne p u) : part p u = (p, 0) := by
  unfold part
  cases e : p.getLast? with
  | none => rfl
  | some z =>
    obtain ⟨v, a⟩ := z
    simp [h v a e]
theorem part_glue {p : Row} {u : Str} {b : Rat} (h : Ne p u) : part (glue p u b) u = (p, b) := by
  unfold glue
  by_cases c : b = 0
  · rw [if_pos c, part_ne h, c]
  · rw [if_neg c, part_snoc, if_pos rfl]
theorem ext_glue {p : Row} {u : Str} {b q : Rat} (h : Ne p u) : ext (glue p u b) u q = glue p u (b + q) := by
  unfold ext
  rw [part_glue h]
  rfl
theorem W_glue {p : Row} {u : Str} {b : Rat} (w : W p) (h : Ne p u) : W (glue p u b) := by
  unfold glue
  by_cases c : b = 0
  · rw [if_pos c]
    exact w
  · rw [if_neg c]
    exact w.snoc c h
theorem W_dec {r : Row} (w : W r) (u : Str) : ∃ p b, W p ∧ Ne p u ∧ r = glue p u b := by
  cases w with
  | nil => exact ⟨[], 0, .nil, (fun v a e => by cases e), by unfold glue; rw [if_pos rfl]⟩
  | @snoc r v q w c h =>
    by_cases e : v = u
    · exact ⟨r, q, w, e ▸ h, by unfold glue; rw [if_neg c, e]⟩
    · refine ⟨r ++ [(v, q)], 0, w.snoc c h, fun v' a e' => ?_, by unfold glue; rw [if_pos rfl]⟩
      rw [List.getLast?_concat] at e'
      cases e'
      exact e
theorem ext_W {r : Row} (w : W r) (u : Str) (q : Rat) : W (ext r u q) := by
  obtain ⟨p, b, wp, h, rfl⟩ := W_dec w u
  rw [ext_glue h]
  exact W_glue wp h
theorem ext_ext {r : Row} (w : W r) (u : Str) (a b : Rat) : ext (ext r u a) u b = ext r u (a + b) := by
  obtain ⟨p, c, wp, h, rfl⟩ := W_dec w u
  rw [ext_glue h, ext_glue h, ext_glue h, Rat.add_assoc]
theorem ext_zero {r : Row} (w : W r) (u : Str) : ext r u 0 = r := by
  obtain ⟨p, c, wp, h, rfl⟩ := W_dec w u
  rw [ext_glue h, Rat.add_zero]
def act (s r : Row) : Row := s.foldl (fun r z => ext r z.1 z.2) r
theorem act_app (s t r : Row) : act (s ++ t) r = act t (act s r) := List.foldl_append
theorem act_W : ∀ (s : Row) {r : Row}, W r → W (act s r)
  | [], _, w => w
  | z :: s, _, w => act_W s (ext_W w z.1 z.2)
theorem act_glue {p r : Row} {u : Str} {c : Rat} (w : W r) : act (glue p u c) r = ext (act p r) u c := by
  unfold glue
  by_cases e : c = 0
  · rw [if_pos e, e, ext_zero (act_W p w)]
  · rw [if_neg e, act_app]
    rfl
theorem act_ext {w r : Row} (hw : W w) (hr : W r) (u : Str) (a : Rat) : act (ext w u a) r = ext (act w r) u a := by
  obtain ⟨p, b, wp, h, rfl⟩ := W_dec hw u
  rw [ext_glue h, act_glue hr, act_glue hr, ext_ext (act_W p hr)]
theorem act_act : ∀ (s : Row) {w r : Row}, W w → W r → act (act s w) r = act s (act w r)
  | [], _, _, _, _ => rfl
  | z :: s, w, r, hw, hr => by
    show act (act s (ext w z.1 z.2)) r = act s (ext (act w r) z.1 z.2)
    rw [act_act s (ext_W hw _ _) hr, act_ext hw hr]
def neg (r : Row) : Row := (r.map fun z => (z.1, -z.2)).reverse
theorem act_neg {r : Row} (w : W r) : act (neg r) r = [] := by
  induction w with
  | nil => rfl
  | @snoc r u q w c h ih =>
    have e : neg (r ++ [(u, q)]) = (u, -q) :: neg r := by
      unfold neg
      rw [List.map_append, List.reverse_append]
      rfl
    have g : r ++ [(u, q)] = glue r u q := by
      unfold glue
      rw [if_neg c]
    rw [e]
    show act (neg r) (ext (r ++ [(u, q)]) u (-q)) = []
    rw [g, ext_glue h, Rat.add_neg_cancel]
    unfold glue
    rw [if_pos rfl]
    exact ih
theorem act_self {r : Row} (w : W r) : act r [] = r := by
  induction w with
  | nil => rfl
  | @snoc r u q w c h ih =>
    have g : r ++ [(u, q)] = glue r u q := by
      unfold glue
      rw [if_neg c]
    rw [g, act_glue .nil, ih]
    have g0 : glue r u 0 = r := by
      unfold glue
      rw [if_pos rfl]
    have := ext_glue (b := 0) (q := q) h
    rw [g0, Rat.zero_add] at this
    exact this
def way (r1 r2 : Row) : Row := act r2 (act (neg r1) [])
/-- led on by the way to the other row, a row is the other one -/
theorem way_leads {r1 r2 : Row} (w1 : W r1) (w2 : W r2) : act (way r1 r2) r1 = r2 := by
  unfold way
  rw [← act_app, act_act _ .nil w1, act_app]
  show act r2 (act (neg r1) r1) = r2
  rw [act_neg w1, act_self w2]
theorem way_W {r1 r2 : Row} : W (way r1 r2) := act_W _ (act_W _ .nil)
theorem rows_W : ∀ (cs : List Cue) (s : M04.St), (∀ r ∈ s.rows, W r) → ∀ r ∈ (cs.foldl step s).rows, W r
  | [], _, h => h
  | c :: cs, s, h => by
    refine rows_W cs (step s c) fun r hr => ?_
    have hg : W (row s c) := by
      unfold row
      refine ext_W ?_ _ _
      rw [List.getD_eq_getElem?_getD]
      cases e : s.rows[(num s.nums c.pa).getD 0]? with
      | none => exact .nil
      | some z => exact h z (List.mem_of_getElem? e)
    have hr' : r ∈ rows s c := hr
    unfold rows at hr'
    split at hr'
    · exact h r hr'
    · rcases List.mem_append.mp hr' with m | m
      · exact h r m
      · rw [List.mem_singleton.mp m]
        exact hg
theorem all_W (cs : List Cue) : ∀ r ∈ (all cs).rows, W r := rows_W cs init fun r hr => by
  rw [List.mem_singleton.mp hr]
  exact .nil
end M06
set_option linter.all false
/-! Bounds by value: all amounts of a sheet's rows have one common bottom. -/
namespace M06
open PySem M04
/-- q times D is an int of at most X -/
def VB (D X : Nat) (q : Rat) : Prop := ∃ N : Int, q * (D : Rat) = (N : Rat) ∧ N.natAbs ≤ X
theorem VB.zero {D X : Nat} : VB D X 0 := ⟨0, by rw [Rat.zero_mul]; rfl, Nat.zero_le _⟩
theorem VB.mono {D X Y : Nat} {q : Rat} (h : VB D X q) (e : X ≤ Y) : VB D Y q := let ⟨N, a, b⟩ := h; ⟨N, a, Nat.le_trans b e⟩
theorem VB.neg {D X : Nat} {q : Rat} (h : VB D X q) : VB D X (-q) := by
  obtain ⟨N, a, b⟩ := h
  exact ⟨-N, by rw [Rat.neg_mul, a, Rat.intCast_neg], by rw [Int.natAbs_neg]; exact b⟩
theorem VB.add {D X Y : Nat} {q r : Rat} (h : VB D X q) (k : VB D Y r) : VB D (X + Y) (q + r) := by
  obtain ⟨N, a, b⟩ := h
  obtain ⟨M, c, d⟩ := k
  exact ⟨N + M, by rw [Rat.add_mul, a, c, Rat.intCast_add], Nat.le_trans (Int.natAbs_add_le _ _) (Nat.add_le_add b d)⟩
def RVB (D X : Nat) (r : Row) : Prop := ∀ z ∈ r, VB D X z.2
theorem RVB.nil {D X : Nat} : RVB D X [] := fun z hz => by cases hz
theorem RVB.mono {D X Y : Nat} {r : Row} (h : RVB D X r) (e : X ≤ Y) : RVB D Y r := fun z hz => (h z hz).mono e
theorem part_VB {D X : Nat} {r : Row} (h : RVB D X r) (u : Str) : RVB D X (part r u).1 ∧ VB D X (part r u).2 := by
  unfold part
  cases e : r.getLast? with
  | none => exact ⟨h, VB.zero⟩
  | some z =>
    obtain ⟨v, q⟩ := z
    show RVB D X (if v = u then (r.dropLast, q) else (r, 0)).1 ∧ VB D X (if v = u then (r.dropLast, q) else (r, 0)).2
    by_cases c : v = u
    · rw [if_pos c]
      exact ⟨fun z hz => h z (List.dropLast_subset _ hz), h (v, q) (List.mem_of_getLast? e)⟩
    · rw [if_neg c]
      exact ⟨h, VB.zero⟩
theorem ext_VB {D X Y : Nat} {r : Row} {q : Rat} (h : RVB D X r) (u : Str) (k : VB D Y q) : RVB D (X + Y) (ext r u q) := by
  obtain ⟨h1, h2⟩ := part_VB h u
  unfold ext
  split
  · exact h1.mono (Nat.le_add_right _ _)
  · intro z hz
    rcases List.mem_append.mp hz with m | m
    · exact (h1 z m).mono (Nat.le_add_right _ _)
    · rw [List.mem_singleton.mp m]
      exact h2.add k
theorem act_VB {D X Y : Nat} : ∀ (s : Row) {r : Row}, RVB D Y s → RVB D X r → RVB D (X + s.length * Y) (act s r)
  | [], r, _, h => by
    show RVB D _ r
    exact h.mono (Nat.le_add_right _ _)
  | z :: s, r, hs, h => by
    show RVB D _ (act s (ext r z.1 z.2))
    refine (act_VB s (fun y hy => hs y (List.mem_cons_of_mem _ hy)) (ext_VB h z.1 (hs z List.mem_cons_self))).mono ?_
    rw [List.length_cons, Nat.add_mul, Nat.one_mul]
    omega
theorem neg_VB {D X : Nat} {r : Row} (h : RVB D X r) : RVB D X (neg r) := fun z hz => by
  unfold neg at hz
  obtain ⟨y, hy, e⟩ := List.mem_map.mp (List.mem_reverse.mp hz)
  rw [← e]
  exact (h y hy).neg
theorem neg_len (r : Row) : (neg r).length = r.length := by
  unfold neg
  rw [List.length_reverse, List.length_map]
theorem act_len : ∀ (s r : Row), (act s r).length ≤ r.length + s.length
  | [], r => Nat.le_refl _
  | z :: s, r => by
    have h1 := act_len s (ext r z.1 z.2)
    have h2 := ext_len r z.1 z.2
    show (act s (ext r z.1 z.2)).length ≤ _
    rw [List.length_cons]
    omega
theorem way_VB {D X : Nat} {r1 r2 : Row} (h1 : RVB D X r1) (h2 : RVB D X r2) : RVB D ((r1.length + r2.length) * X) (way r1 r2) := by
  unfold way
  refine (act_VB r2 h2 (act_VB (neg r1) (neg_VB h1) RVB.nil (X := 0))).mono ?_
  rw [neg_len, Nat.add_mul]
  omega
theorem way_len (r1 r2 : Row) : (way r1 r2).length ≤ r1.length + r2.length := by
  have h1 := act_len r2 (act (neg r1) [])
  have h2 := act_len (neg r1) []
  rw [neg_len] at h2
  unfold way
  simp only [List.length_nil] at h2
  omega
theorem act_take (s r : Row) (n : Nat) {z : Str × Rat} (h : s[n]? = some z) : act (s.take (n + 1)) r = ext (act (s.take n) r) z.1 z.2 := by
  rw [List.take_add_one, h, act_app]
  rfl
theorem rows_VB {D X : Nat} : ∀ (cs : List Cue) (s : M04.St) (n : Nat), (∀ c ∈ cs, VB D X c.q) → (∀ r ∈ s.rows, RVB D (n * X) r) → ∀ r ∈ (cs.foldl step s).rows, RVB D ((n + cs.length) * X) r
  | [], _, n, _, h => h
  | c :: cs, s, n, hc, h => by
    have hs : ∀ r ∈ (step s c).rows, RVB D ((n + 1) * X) r := fun r hr => by
      have hg : RVB D ((n + 1) * X) (row s c) := by
        unfold row
        rw [Nat.add_mul, Nat.one_mul]
        refine ext_VB ?_ _ (hc c List.mem_cons_self)
        rw [List.getD_eq_getElem?_getD]
        cases e : s.rows[(num s.nums c.pa).getD 0]? with
        | none => exact RVB.nil
        | some z => exact h z (List.mem_of_getElem? e)
      have hr' : r ∈ rows s c := hr
      unfold rows at hr'
      split at hr'
      · exact (h r hr').mono (Nat.mul_le_mul_right _ (Nat.le_succ _))
      · rcases List.mem_append.mp hr' with m | m
        · exact (h r m).mono (Nat.mul_le_mul_right _ (Nat.le_succ _))
        · rw [List.mem_singleton.mp m]
          exact hg
    intro r hr
    have := rows_VB cs (step s c) (n + 1) (fun c' hc' => hc c' (List.mem_cons_of_mem _ hc')) hs r hr
    rw [List.length_cons, show n + (cs.length + 1) = n + 1 + cs.length by omega]
    exact this
theorem all_VB {D X : Nat} {cs : List Cue} (h : ∀ c ∈ cs, VB D X c.q) : ∀ r ∈ (all cs).rows, RVB D (cs.length * X) r := fun r hr => by
  have := rows_VB cs init 0 h (fun r hr => by
    rw [List.mem_singleton.mp hr]
    exact RVB.nil) r hr
  rwa [Nat.zero_add] at this
/-- the product of the bottoms -/
def prodB (us : List Int) : Nat := us.foldr (fun u n => u.natAbs * n) 1
theorem prodB_pos : ∀ {us : List Int}, (∀ u ∈ us, 0 < u) → 0 < prodB us
  | [], _ => Nat.one_pos
  | u :: r, h => Nat.mul_pos (Int.natAbs_pos.mpr (Int.ne_of_gt (h u List.mem_cons_self))) (prodB_pos fun v hv => h v (List.mem_cons_of_mem _ hv))
theorem prodB_dvd : ∀ {us : List Int} {u : Int}, u ∈ us → u.natAbs ∣ prodB us
  | v :: r, u, h => by
    rcases List.mem_cons.mp h with e | m
    · rw [e]
      exact Nat.dvd_mul_right _ _
    · exact Nat.dvd_trans (prodB_dvd m) (Nat.dvd_mul_left _ _)
theorem prodB_lt {n : Nat} : ∀ {us : List Int}, (∀ u ∈ us, u.natAbs < 2 ^ n) → prodB us ≤ 2 ^ (n * us.length)
  | [], _ => Nat.le_refl _
  | u :: r, h => by
    show u.natAbs * prodB r ≤ _
    rw [List.length_cons, Nat.mul_add, Nat.mul_one, Nat.pow_add, Nat.mul_comm]
    exact Nat.mul_le_mul (prodB_lt fun v hv => h v (List.mem_cons_of_mem _ hv)) (Nat.le_of_lt (h u List.mem_cons_self))
end M06
set_option linter.all false
/-! A sheet's rows hold each beginning of each row. -/
namespace M06
open PySem M04
def PC (rows : List Row) : Prop := ∀ r ∈ rows, ∀ k, r.take k ∈ rows
theorem part_take (r : Row) (u : Str) : ∃ k, (part r u).1 = r.take k := by
  unfold part
  cases e : r.getLast? with
  | none => exact ⟨r.length, (List.take_length).symm⟩
  | some z =>
    obtain ⟨v, q⟩ := z
    show ∃ k, (if v = u then (r.dropLast, q) else (r, 0)).1 = r.take k
    by_cases c : v = u
    · rw [if_pos c]
      exact ⟨r.length - 1, List.dropLast_eq_take⟩
    · rw [if_neg c]
      exact ⟨r.length, (List.take_length).symm⟩
theorem ext_pre {rows : List Row} (pc : PC rows) {r : Row} (h : r ∈ rows) (u : Str) (q : Rat) {k : Nat} (hk : k < (ext r u q).length) : (ext r u q).take k ∈ rows := by
  obtain ⟨k0, e0⟩ := part_take r u
  have hp : ∀ j, ((part r u).1).take j ∈ rows := fun j => by
    rw [e0, List.take_take]
    exact pc r h _
  unfold ext at hk ⊢
  split at hk
  · rename_i c
    rw [if_pos c]
    exact hp k
  · rename_i c
    rw [if_neg c]
    rw [List.length_append] at hk
    have hk : k < (part r u).1.length + 1 := hk
    rw [List.take_append_of_le_length (by omega)]
    exact hp k
theorem row_in {s : M04.St} (h0 : [] ∈ s.rows) (c : Cue) : s.rows.getD ((num s.nums c.pa).getD 0) [] ∈ s.rows := by
  rw [List.getD_eq_getElem?_getD]
  cases e : s.rows[(num s.nums c.pa).getD 0]? with
  | none => exact h0
  | some z => exact List.mem_of_getElem? e
theorem row_pre {s : M04.St} (pc : PC s.rows) (h0 : [] ∈ s.rows) (c : Cue) {k : Nat} (hk : k < (row s c).length) : (row s c).take k ∈ s.rows := ext_pre pc (row_in h0 c) _ _ hk
theorem step_PC {s : M04.St} (pc : PC s.rows) (h0 : [] ∈ s.rows) (c : Cue) : PC (step s c).rows ∧ [] ∈ (step s c).rows := by
  show PC (rows s c) ∧ [] ∈ rows s c
  unfold rows
  split
  · exact ⟨pc, h0⟩
  · refine ⟨fun r hr k => ?_, List.mem_append_left _ h0⟩
    rcases List.mem_append.mp hr with m | m
    · exact List.mem_append_left _ (pc r m k)
    · rw [List.mem_singleton.mp m]
      rcases Nat.lt_or_ge k (row s c).length with c1 | c1
      · exact List.mem_append_left _ (row_pre pc h0 c c1)
      · rw [List.take_of_length_le c1]
        exact List.mem_append_right _ (List.mem_singleton.mpr rfl)
theorem fold_PC : ∀ (cs : List Cue) (s : M04.St), PC s.rows → [] ∈ s.rows → PC (cs.foldl step s).rows ∧ [] ∈ (cs.foldl step s).rows
  | [], _, pc, h0 => ⟨pc, h0⟩
  | c :: cs, s, pc, h0 => let ⟨a, b⟩ := step_PC pc h0 c; fold_PC cs (step s c) a b
theorem all_PC (cs : List Cue) : PC (all cs).rows ∧ [] ∈ (all cs).rows := fold_PC cs init (fun r hr k => by
  rw [List.mem_singleton.mp hr, List.take_nil]
  exact List.mem_singleton.mpr rfl) (List.mem_singleton.mpr rfl)
end M06
set_option linter.all false
namespace M06
open PySem M04
theorem step_nodup {s : M04.St} (h : s.rows.Nodup) (c : Cue) : (step s c).rows.Nodup := by
  show (rows s c).Nodup
  unfold rows
  split
  · exact h
  · rename_i n
    rw [List.nodup_append]
    refine ⟨h, by simp, fun a ha b hb => ?_⟩
    rw [List.mem_singleton.mp hb]
    exact fun e => n (e ▸ ha)
theorem fold_nodup : ∀ (cs : List Cue) (s : M04.St), s.rows.Nodup → (cs.foldl step s).rows.Nodup
  | [], _, h => h
  | c :: cs, s, h => fold_nodup cs (step s c) (step_nodup h c)
theorem all_nodup (cs : List Cue) : (all cs).rows.Nodup := fold_nodup cs init (by simp [init])
theorem at_inj {α : Type} {l : List α} (h : l.Nodup) {i j : Nat} {r : α} (e1 : l[i]? = some r) (e2 : l[j]? = some r) : i = j := by
  obtain ⟨h1, h2⟩ := List.getElem?_eq_some_iff.mp e1
  obtain ⟨h3, h4⟩ := List.getElem?_eq_some_iff.mp e2
  have := (List.nodup_iff_pairwise_ne.mp h)
  rw [List.pairwise_iff_getElem] at this
  rcases Nat.lt_trichotomy i j with c | c | c
  · exact absurd (h2.trans h4.symm) (this i j h1 h3 c)
  · exact c
  · exact absurd (h4.trans h2.symm) (this j i h3 h1 c)
/-- the names at the n-th row -/
theorem names_row {cs : List Cue} {n : Nat} {r : Row} (e : (all cs).rows[n]? = some r) : (((all cs).nums.filter fun z => decide ((z.2 : Int) = (n : Int))).map fun z => z.1) = ((tab (all cs)).filter fun y => decide (y.2 = some r)).map fun y => y.1 := by
  unfold tab
  rw [List.filter_map, List.map_map]
  show List.map _ _ = List.map (fun z : Str × Nat => z.1) _
  congr 1
  refine List.filter_congr fun z hz => ?_
  have lt := all_all cs init init_all z hz
  have lt : z.2 < (all cs).rows.length := lt
  show decide ((z.2 : Int) = (n : Int)) = decide ((all cs).rows[z.2]? = some r)
  rw [decide_eq_decide]
  constructor
  · intro h
    have : z.2 = n := by omega
    rw [this]
    exact e
  · intro h
    have := at_inj (all_nodup cs) h e
    omega
end M06
set_option Elab.async false
set_option linter.all false
set_option maxRecDepth 100000
set_option maxHeartbeats 4000000
/-! list(reversed(x)), x a list: a new list; it follows the steps of tuple(reversed(x)). -/
namespace Fv
open PySem PySem.Calls PyProof.Rows RT PySem.Spec
section
variable {prog : Program} {w : World} {A : Around} {E : Value → Shared → Prop} {s : Shared} {it l : Addr} {items : Array Value}
theorem extend_rev {R : Result → Shared → Prop} (hh : A.handled = none) (hit : s.heap.IsRevIter it l ((items.size : Int) - 1)) (hl : s.heap.IsList l items) (hne : l ≠ it) (hn : items.size ≤ sizeLine) (S : Addr) (hSi : S ≠ it) (hSl : S ≠ l) (res : Value) (c₀ : Nat) (hS : s.heap.get? S = some { cls := .type "list", data := .seq #[] c₀ })
    (hR : ∀ h' tk acc' c', (∀ b o, b ≠ S → b ≠ it → s.heap.get? b = some o → h'.get? b = some o) → h'.get? S = some { cls := .type "list", dict := none, data := .seq acc' c', slots := #[] } → ItemsOf (fun i v => items[items.size - 1 - i]? = some v) acc' items.size → R (.ok (.ret res)) { s with heap := h', toks := tk }) :
    wpAny (model prog w) A.in1 (Builtin.List.listExtendWith (.ref S) (.ref it) res)
      (fun fin s' => match fin with | .done f => R (.ok f) s' | .again c' => c'.quiet = true ∧ codeAny (model prog w) A c' R s') (fun e s' => R (.error e) s') s := by
  have hh1 : A.in1.handled = none := hh
  have W := (Walks.listRev (prog := prog) (w := w) (A := A.in1) hh1 it l hne items).toS
  have hSf : S ∉ [it, l] := by simp only [List.mem_cons, List.not_mem_nil, or_false, not_or]; exact ⟨hSi, hSl⟩
  have hT : s.TypeIs (.ref it) "list_reverseiterator" := hit.typeIs
  have h1 : Builtin.List.listSameRef (.ref S) (.ref it) = false := by simp [Builtin.List.listSameRef, hSi]
  unfold Builtin.List.listExtendWith
  refine wpAny_bind (wpAny_typeOf hT ?_)
  rw [if_neg (by rw [h1]; decide)]
  refine wpAny_bind (wpAny_pyIter_revIter hit ?_)
  refine wpAny_bind (wpAny_holding ?_)
  unfold Builtin.List.listLengthHint
  refine wpAny_bind (wpAny_specialOf hT nolen_lri ?_)
  show wpAny _ A.in1 (specialOf (Value.ref it) (Str.ofString "__length_hint__") >>= _) _ _ _
  refine wpAny_bind (wpAny_specialOf hT hint_lri ?_)
  generalize hid : ("list_reverseiterator.__length_hint__" : String) = id0
  wp_delta
  rw [show splitId id0 = some ("list_reverseiterator", "__length_hint__") from by subst hid; decide +kernel]
  subst hid
  refine wpAny_bind (wpAny_isInstance (b := true) hT (by rw [isSubtype_type]; kernel_rfl) ?_)
  refine wpAny_pure ?_
  rw [if_neg (by decide)]
  have e0 : ((items.size : Nat) : Int) - 1 - ((0 : Nat) : Int) = (items.size : Int) - 1 := by omega
  refine wpAny_pure ⟨plainId_quiet F.plain_extend_loop _, codeAny_extend_loopS W hn S hSf res items.size 0 _ _ _ rfl (Nat.zero_le _) ⟨Nat.zero_le _, by rw [e0]; exact hit, hl⟩ hS (ItemsOf.nil _) fun s' acc' c' hm hS' hacc => ?_⟩
  rw [Moved.eq_with hm]
  refine hR s'.heap s'.toks acc' c' (fun b o hb hbi e => hm.heap b o (fun hmem => ?_) e) hS' hacc
  rcases List.mem_cons.mp hmem with e' | hmem
  · exact hb e'
  · exact hbi (List.mem_singleton.mp hmem)
theorem init_rev {R : Result → Shared → Prop} (hh : A.handled = none) (hit : s.heap.IsRevIter it l ((items.size : Int) - 1)) (hl : s.heap.IsList l items) (hne : l ≠ it) (hn : items.size ≤ sizeLine) (S : Addr) (hSi : S ≠ it) (hSl : S ≠ l) (hS : s.heap.get? S = some { cls := .type "list", data := .seq #[] })
    (hR : ∀ h' tk acc' c', (∀ b o, b ≠ S → b ≠ it → s.heap.get? b = some o → h'.get? b = some o) → h'.get? S = some { cls := .type "list", dict := none, data := .seq acc' c', slots := #[] } → ItemsOf (fun i v => items[items.size - 1 - i]? = some v) acc' items.size → R (.ok (.ret .none)) { s with heap := h', toks := tk }) :
    wpAny (model prog w) A.in1 (Builtin.«list.__init__» ⟨[.ref S, .ref it], []⟩)
      (fun fin s' => match fin with | .done f => R (.ok f) s' | .again c' => c'.quiet = true ∧ codeAny (model prog w) A c' R s') (fun e s' => R (.error e) s') s := by
  show wpAny _ _ (do let old ← Builtin.List.listItems (.ref S); Builtin.List.listUpdate (.ref S) (fun _ => #[]); letGo old.toList.reverse; Builtin.List.listExtendWith (.ref S) (.ref it) .none) _ _ s
  refine wpAny_bind ?_
  unfold Builtin.List.listItems
  refine wpAny_bind (wpAny_seqItems hS rfl (wpAny_pure ?_))
  show wpAny _ _ (updateSeq S (fun _ => #[]) >>= fun _ => letGo (#[] : Array Value).toList.reverse >>= fun _ => Builtin.List.listExtendWith (.ref S) (.ref it) .none) _ _ s
  refine wpAny_bind (wpAny_updateSeq hS rfl ?_)
  have hS₂ := Heap.get?_update_self (Obj.mapSeq (fun _ => (#[] : Array Value))) hS rfl
  have oth : ∀ b o, b ≠ S → s.heap.get? b = some o → (s.heap.update S (Obj.mapSeq (fun _ => (#[] : Array Value)))).get? b = some o :=
    fun b o hb e => (Heap.get?_update_other _ _ (Ne.symm hb)).trans e
  refine wpAny_bind (wpAny_letGo ?_)
  obtain ⟨ol, hol, hcl, nl, hdl⟩ := hl
  refine extend_rev hh (hit.at fun o e => oth it o (Ne.symm hSi) e) ⟨ol, oth l ol (Ne.symm hSl) hol, hcl, nl, hdl⟩ hne hn S hSi hSl .none _ hS₂ (fun h' tk acc' c' hk hS' hacc => ?_)
  exact hR h' tk acc' c' (fun b o hb hbi e => hk b o hb hbi (oth b o hb e)) hS' hacc
theorem call_list_rev {Q : Value → Shared → Prop} (hh : A.handled = none) (hit : s.heap.IsRevIter it l ((items.size : Int) - 1)) (hl : s.heap.IsList l items) (hne : l ≠ it) (hn : items.size ≤ sizeLine)
    (hQ : ∀ h' tk acc' c', (∀ b o, b ≠ it → s.heap.get? b = some o → h'.get? b = some o) → h'.get? s.heap.objs.size = some { cls := .type "list", dict := none, data := .seq acc' c', slots := #[] } → ItemsOf (fun i v => items[items.size - 1 - i]? = some v) acc' items.size → Q (.ref s.heap.objs.size) { s with heap := h', toks := tk }) :
    wpAny (model prog w) A (call (.type "list") [.ref it]) Q E s := by
  refine callType_codes (Q₁ := fun obj s₁ => obj = .ref s.heap.objs.size ∧ s₁ = { s with heap := s.heap.push { cls := .type "list", data := .seq #[] } }) PySem.F.called_list (PySem.F.typeCall_list_1 _) PySem.F.entry_list_init
    (code_list_new _ ⟨rfl, rfl⟩) fun obj s₁ h₁ => ?_
  obtain ⟨rfl, rfl⟩ := h₁
  have hS : (s.heap.push { cls := .type "list", data := .seq #[] }).get? s.heap.objs.size = some { cls := .type "list", data := .seq #[] } := Heap.get?_push_size _ rfl
  obtain ⟨oi, hoi, _⟩ := id hit
  obtain ⟨ol, hol, _⟩ := id hl
  refine ⟨⟨_, hS, rfl⟩, PySem.F.args_list_init_2 _ _, init_rev (A := A.in1) hh (hit.at fun o e => Heap.get?_push_of_some _ e) (hl.push _) hne hn _ (Nat.ne_of_gt (Heap.lt_size hoi)) (Nat.ne_of_gt (Heap.lt_size hol)) hS (fun h' tk acc' c' hk hS' hacc => ?_)⟩
  exact ⟨rfl, hQ h' tk acc' c' (fun b o hbi e => hk b o (Nat.ne_of_lt (Heap.lt_size e)) hbi (Heap.get?_push_of_some _ e)) hS' hacc⟩
end
end Fv
namespace Fv
open PySem PySem.Spec PyProof.Rows L2 RT
def tListRev (K : PySem.W.Frag) (te : TE) : TE := fun σ H Q => te σ H fun v H1 => ∃ (a : Addr) (xs : List V), v = .ref a ∧ SqL K H1 a xs ∧ ∀ q, H1 q = none → Q (.ref q) (upd H1 q (.lst xs.reverse))
section
variable {X : Cx}
theorem pe_listRev {e : Expr} {te : TE} {p p2 pos pos2 : Pos} (hc : X.calm = true) (hg : Gl X "list") (hm : X.mg "list" = none) (hg2 : Gl X "reversed") (hm2 : X.mg "reversed" = none) (he : PE X e te)
    (hs : starEach [e] X.env = (false, eval e X.env) :: starEach [] X.env := by rfl)
    (hs2 : starEach [.Call (.Name "reversed" p2) [e] [] pos2] X.env = (false, eval (.Call (.Name "reversed" p2) [e] [] pos2) X.env) :: starEach [] X.env := by rfl) :
    PE X (.Call (.Name "list" p) [.Call (.Name "reversed" p2) [e] [] pos2] [] pos) (tListRev X.K te) := by
  refine ⟨fun pins s σ H Q I h => ?_⟩
  refine Call_ (ld_blt I hg hm (by decide +kernel : bootBuiltins "list" = some (.type "list")) (PyProof.Rows.callWith_type1 (args_cons (Call_ (ld_blt I hg2 hm2 PyProof.Rows.boot_reversed (PyProof.Rows.callWith_type1 (args_cons (thn (he.run pins s σ H _ I h) fun u s1 ⟨v, H1, I1, r1, q1⟩ => args_nil ?_) hs) hs rfl))) hs2) hs2 rfl))
  obtain ⟨a, xs, ev, hq, q⟩ := q1
  subst ev
  obtain rfl : u = Value.ref a := r1
  obtain ⟨its, rv, p', hz⟩ := I1.list hq
  refine call_reversed_list p'.isList (args_nil ?_)
  have k0 : ∀ b o, s1.heap.get? b = some o → (s1.heap.push (revObj a ((its.toArray.size : Int) - 1))).get? b = some o := fun b o e => Heap.get?_push_of_some _ e
  have hl := p'.isList
  obtain ⟨ol, hol, _⟩ := id hl
  have hne : a ≠ s1.heap.objs.size := Nat.ne_of_lt (Heap.lt_size hol)
  have hn : its.toArray.size ≤ sizeLine := by rw [List.size_toArray, ← rv.length]; exact hz
  refine call_list_rev (s := { s1 with heap := s1.heap.push (revObj a ((its.toArray.size : Int) - 1)) }) (I1.ok.hd hc) ⟨_, Heap.get?_push_size _ rfl, rfl, rfl⟩ (hl.push _) hne hn fun h' tk acc c' hk hS hi => ?_
  have le : s1.heap.objs.size ≤ (s1.heap.push (revObj a ((its.toArray.size : Int) - 1))).objs.size := by
    show s1.heap.objs.size ≤ (s1.heap.objs.push _).size
    rw [Array.size_push]
    exact Nat.le_succ _
  refine ⟨.ref _, upd H1 _ (.lst xs.reverse), I1.laid (t' := tk) (fun b o e => hk b o (Nat.ne_of_lt (Heap.lt_size e)) (k0 b o e)) le (show ObjOk X.prog X.w _ _ _ (.lst xs.reverse) from ⟨by rw [List.length_reverse]; exact hz, acc.toList, c', vals_rev rv hi, ?_⟩), rfl, q _ (I1.hok.fresh le)⟩
  rw [Array.toArray_toList]
  exact hS
end
end Fv
set_option Elab.async false
set_option linter.all false
set_option maxRecDepth 100000
set_option maxHeartbeats 1000000
set_option exponentiation.threshold 100000
namespace K13
open PySem PySem.Spec PyProof.Rows L2 Fa Fb
/-! ### the law's rows and cues -/
/-- a fraction of the law at p -/
structure Fr (n : Nat) (H : Hp) (p : Addr) (t u : Int) : Prop where
  at_ : H p = some (.tup [.int t, .int u])
  rd : Am.Red t u
  bt : t.natAbs < 2 ^ n
  bu : u.natAbs < 2 ^ n
/-- what is no list stays -/
theorem Fr.kt {n : Nat} {H H' : Hp} {p : Addr} {t u : Int} (h : Fr n H p t u) (k : KT H H') : Fr n H' p t u := ⟨k _ _ h.at_ (fun _ e => by cases e), h.rd, h.bt, h.bu⟩
theorem Fr.mono {n m : Nat} {H : Hp} {p : Addr} {t u : Int} (h : Fr n H p t u) (e : n ≤ m) : Fr m H p t u := ⟨h.at_, h.rd, pow_step h.bt e, pow_step h.bu e⟩
structure Li where
  q : Addr
  a : Addr
  s : Str
  t : Int
  u : Int
def LiOk (n : Nat) (H : Hp) (g : Li) : Prop := H g.q = some (.tup [.str g.s, .ref g.a]) ∧ Fr n H g.a g.t g.u ∧ PyData.strOk g.s = true
theorem LiOk.kt {n : Nat} {H H' : Hp} {g : Li} (h : LiOk n H g) (k : KT H H') : LiOk n H' g := ⟨k _ _ h.1 (fun _ e => by cases e), h.2.1.kt k, h.2.2⟩
theorem LiOk.mono {n m : Nat} {H : Hp} {g : Li} (h : LiOk n H g) (e : n ≤ m) : LiOk m H g := ⟨h.1, h.2.1.mono e, h.2.2⟩
structure LRow (n : Nat) (H : Hp) (p : Addr) (gs : List Li) : Prop where
  l : H p = some (.tup (gs.map fun g => V.ref g.q))
  ok : ∀ g ∈ gs, LiOk n H g
  n : gs.length ≤ 40
theorem LRow.kt {n : Nat} {H H' : Hp} {p : Addr} {gs : List Li} (h : LRow n H p gs) (k : KT H H') : LRow n H' p gs := ⟨k _ _ h.l (fun _ e => by cases e), fun g hg => (h.ok g hg).kt k, h.n⟩
theorem LRow.mono {n m : Nat} {H : Hp} {p : Addr} {gs : List Li} (h : LRow n H p gs) (e : n ≤ m) : LRow m H p gs := ⟨h.l, fun g hg => (h.ok g hg).mono e, h.n⟩
def lrv (gs : List Li) : M04.Row := gs.map fun g => (g.s, vq g.t g.u)
def lid (g : Li) : PyData := .tuple [.str g.s, .tuple [.int g.t, .int g.u]]
def rowd (gs : List Li) : PyData := .tuple (gs.map lid)
theorem li_dp {K : PySem.W.Frag} {n : Nat} {H : Hp} {g : Li} (h : LiOk n H g) : Dp K H (.ref g.q) (lid g) := .tup (SqT.of h.1) (.cons (.str _) (.cons (.tup (SqT.of h.2.1.at_) (.cons (.int _) (.cons (.int _) .nil))) .nil))
theorem lis_dp {K : PySem.W.Frag} {n : Nat} {H : Hp} : ∀ {gs : List Li}, (∀ g ∈ gs, LiOk n H g) → DpAll K H (gs.map fun g => V.ref g.q) (gs.map lid)
  | [], _ => .nil
  | g :: r, h => .cons (li_dp (h g List.mem_cons_self)) (lis_dp fun x hx => h x (List.mem_cons_of_mem _ hx))
theorem row_dp {K : PySem.W.Frag} {n : Nat} {H : Hp} {p : Addr} {gs : List Li} (h : LRow n H p gs) : Dp K H (.ref p) (rowd gs) := .tup (SqT.of h.l) (lis_dp h.ok)
theorem lid_lay (g : Li) (h : PyData.strOk g.s = true) : (lid g).canLay0 = true := by simp [lid, PyData.canLay0, PyData.canLayAll0, h]
theorem lid_depth (g : Li) : (lid g).depth = 2 := by simp [lid, PyData.depth, PyData.depthAll]
theorem lids_lay : ∀ gs : List Li, (∀ g ∈ gs, PyData.strOk g.s = true) → PyData.canLayAll0 (gs.map lid) = true
  | [], _ => rfl
  | g :: r, h => by simp only [List.map_cons, PyData.canLayAll0, lid_lay g (h g List.mem_cons_self), lids_lay r fun x hx => h x (List.mem_cons_of_mem _ hx), Bool.and_self]
theorem lids_depth : ∀ gs : List Li, PyData.depthAll (gs.map lid) ≤ 2
  | [] => by simp [PyData.depthAll]
  | g :: r => by
    have := lids_depth r
    simp only [List.map_cons, PyData.depthAll, lid_depth]
    omega
theorem rowd_lay (gs : List Li) (h : ∀ g ∈ gs, PyData.strOk g.s = true) : (rowd gs).canLay0 = true := by
  unfold rowd
  simp only [PyData.canLay0, lids_lay gs h]
theorem rowd_depth (gs : List Li) : (rowd gs).depth ≤ 3 := by
  have := lids_depth gs
  unfold rowd
  simp only [PyData.depth]
  omega
theorem rowd_shaped (gs : List Li) (h : ∀ g ∈ gs, PyData.strOk g.s = true) : SeqAt.shaped (rowd gs) = true := by
  unfold SeqAt.shaped
  rw [rowd_lay gs h, Bool.true_and]
  have := rowd_depth gs
  exact decide_eq_true (by omega)
theorem lid_eqv {g h : Li} (a : Am.Red g.t g.u) (b : Am.Red h.t h.u) : PyData.eqv (lid g) (lid h) = decide ((g.s, vq g.t g.u) = (h.s, vq h.t h.u)) := by
  have e : PyData.eqv (lid g) (lid h) = (decide (g.s = h.s) && (decide (g.t = h.t) && decide (g.u = h.u))) := by
    simp [lid, PyData.eqv, PyData.eqvAll]
    try rfl
  rw [e, am_dec a b, ← dec_pair, Bool.and_true]
theorem lids_eqv : ∀ {gs hs : List Li}, (∀ g ∈ gs, Am.Red g.t g.u) → (∀ g ∈ hs, Am.Red g.t g.u) → PyData.eqvAll (gs.map lid) (hs.map lid) = decide (lrv gs = lrv hs)
  | [], [], _, _ => rfl
  | [], _ :: _, _, _ => by
    rw [decide_eq_false (by simp [lrv])]
    rfl
  | _ :: _, [], _, _ => by
    rw [decide_eq_false (by simp [lrv])]
    rfl
  | g :: gs, h :: hs, p, q => by
    have ih := lids_eqv (gs := gs) (hs := hs) (fun x hx => p x (List.mem_cons_of_mem _ hx)) fun x hx => q x (List.mem_cons_of_mem _ hx)
    have e : PyData.eqvAll ((g :: gs).map lid) ((h :: hs).map lid) = (PyData.eqv (lid g) (lid h) && PyData.eqvAll (gs.map lid) (hs.map lid)) := by simp [PyData.eqvAll]
    rw [e, ih, lid_eqv (p g List.mem_cons_self) (q h List.mem_cons_self), dec_cons]
    rfl
theorem rowd_eqv {gs hs : List Li} (p : ∀ g ∈ gs, Am.Red g.t g.u) (q : ∀ g ∈ hs, Am.Red g.t g.u) : PyData.eqv (rowd gs) (rowd hs) = decide (lrv gs = lrv hs) := by
  rw [← lids_eqv p q]
  unfold rowd
  simp [PyData.eqv]
abbrev sAdd2 : Stmt := top 61
abbrev sLed : Stmt := top 64
theorem scAdd2 : FnScope ["_law_one", "_law_other"] ["_law_one", "_law_other"] (defScope sAdd2) := ⟨rfl, rfl, rfl, by decide +kernel, rfl, by decide +kernel, by decide +kernel⟩
theorem scLed : FnScope ["_law_row", "_law_unit", "_law_amount_here"] ["_law_row", "_law_unit", "_law_amount_here"] (defScope sLed) := ⟨rfl, rfl, rfl, by decide +kernel, rfl, by decide +kernel, by decide +kernel⟩
def spAdd2 : Sp := fun vs H Q _ => ∃ (p q : Addr) (t u t2 u2 : Int) (n m : Nat), vs = [.ref p, .ref q] ∧ Fr n H p t u ∧ Fr m H q t2 u2 ∧ n + m ≤ 7000 ∧ ∀ r a b H', Same H H' → Fr (n + m + 1) H' r a b → vq a b = vq t u + vq t2 u2 → Q (.ref r) H'
def spLed : Sp := fun vs H Q _ => ∃ (p a : Addr) (gs : List Li) (z : Str) (t u : Int) (n m : Nat), vs = [.ref p, .str z, .ref a] ∧ LRow n H p gs ∧ Fr m H a t u ∧ PyData.strOk z = true ∧ n + m ≤ 6000 ∧ gs.length < 40 ∧ ∀ H' l hs, Same H H' → LRow (n + m + 1) H' l hs → lrv hs = M04.ext (lrv gs) z (vq t u) → hs.length ≤ gs.length + 1 → Q (.ref l) H'
def sLedE (H : Hp) (z : Str) (Q : VK) (gs : List Li) (v : Rat) (nn : Nat) : TS := fun D σ H' => ∃ (p a : Addr) (hs : List Li) (t u : Int), σ = [some (.ref p), some (.str z), some (.ref a)] ∧ Same H H' ∧ LRow nn H' p hs ∧ Fr nn H' a t u ∧ hs.length ≤ gs.length ∧ M04.ext (lrv gs) z v = (if vq t u = 0 then lrv hs else lrv hs ++ [(z, vq t u)]) ∧ D.rt = Q
theorem lrv_last {gs : List Li} {g : Li} (h : gs[gs.length - 1]? = some g) : (lrv gs).getLast? = some (g.s, vq g.t g.u) := by
  unfold lrv
  rw [List.getLast?_eq_getElem?, List.length_map, List.getElem?_map, h]
  rfl
theorem vq_ne {t u : Int} (r : Am.Red t u) : decide (V.int t = V.int 0) = decide (vq t u = 0) := by
  by_cases c : t = 0
  · subst c
    have : u = 1 := by
      have h1 := r.2
      have h2 := r.1
      simp at h1
      omega
    subst this
    rw [decide_eq_true rfl, vq_zero]
    rfl
  · rw [decide_eq_false fun e => c (V.int.inj e)]
    refine (decide_eq_false fun e => c ?_).symm
    rw [← vq_zero] at e
    have := (vq_eq (Int.ne_of_gt r.1) (by decide)).mp e
    omega
section
variable {P : Program} {w : World} {K : PySem.W.Frag} {mg : Str → Option Value} {base : Heap} {f fF : Addr} {fd fdF : FuncData}
theorem ok_add2 (F : FnP K "_law_added" sAdd2 f fd) (LO : Fn P w K mg base "_law_lowest" 1 ["_law_top", "_law_bottom"] spLow fF fdF) : FnOk P w K mg base (L2.CX P w) 2 f fd ["_law_one", "_law_other"] spAdd2 := by
  refine F.ok scAdd2 (fun vs H Q E h => ?_) (fun cdv A outer s H vs Q E hr1 h => ?_)
  · obtain ⟨p, q, t, u, t2, u2, n, m, rfl, _⟩ := h
    rfl
  · obtain ⟨p, q, t, u, t2, u2, n, m, rfl, ⟨hp, r1, b1, b2⟩, ⟨hq, r2, b3, b4⟩, hn, k⟩ := h
    refine ⟨_, (pss_one (ps_ret (pe_call LO.ok hr1 rfl LO.g LO.k LO.b .nil passL (pa_cons (pe_op op_add (pe_op op_mulW (pe_ix ix_tup (pv 0) pe_int (fun _ _ => rfl)) (pe_ix ix_tup (pv 1) pe_int (fun _ _ => rfl))) (pe_op op_mulW (pe_ix ix_tup (pv 1) pe_int (fun _ _ => rfl)) (pe_ix ix_tup (pv 0) pe_int (fun _ _ => rfl)))) (pa_cons (pe_op op_mulW (pe_ix ix_tup (pv 0) pe_int (fun _ _ => rfl)) (pe_ix ix_tup (pv 1) pe_int (fun _ _ => rfl))) pa_nil))))), ?_⟩
    have i0 : ∀ x y : V, atI [x, y] 0 = some x := fun _ _ => rfl
    have i1 : ∀ x y : V, atI [x, y] 1 = some y := fun _ _ => rfl
    have P0 : ∀ Q' : VK, Q' (.int t) H → tOp (rIxT K) (tVar 0) (tC (.int 0)) [some (.ref p), some (.ref q)] H Q' := fun Q' h => ⟨_, rfl, p, _, _, _, rfl, rfl, SqT.of hp, i0 _ _, h⟩
    have P1 : ∀ Q' : VK, Q' (.int u) H → tOp (rIxT K) (tVar 0) (tC (.int 1)) [some (.ref p), some (.ref q)] H Q' := fun Q' h => ⟨_, rfl, p, _, _, _, rfl, rfl, SqT.of hp, i1 _ _, h⟩
    have Q0 : ∀ Q' : VK, Q' (.int t2) H → tOp (rIxT K) (tVar 1) (tC (.int 0)) [some (.ref p), some (.ref q)] H Q' := fun Q' h => ⟨_, rfl, q, _, _, _, rfl, rfl, SqT.of hq, i0 _ _, h⟩
    have Q1 : ∀ Q' : VK, Q' (.int u2) H → tOp (rIxT K) (tVar 1) (tC (.int 1)) [some (.ref p), some (.ref q)] H Q' := fun Q' h => ⟨_, rfl, q, _, _, _, rfl, rfl, SqT.of hq, i1 _ _, h⟩
    refine P0 _ (Q1 _ ⟨_, _, rfl, rfl, mulW_of b1 b4 (by omega), Q0 _ (P1 _ ⟨_, _, rfl, rfl, mulW_of b3 b2 (by omega), _, _, rfl, rfl, P1 _ (Q1 _ ⟨_, _, rfl, rfl, mulW_of b2 b4 (by omega), ?_⟩)⟩)⟩)
    have u0 := r1.1
    have u20 := r2.1
    have nz : u * u2 ≠ 0 := Int.mul_ne_zero (by omega) (by omega)
    refine ⟨_, _, rfl, nz, pow_step (abs_mul_lt b2 b4) (by omega), fun r a b hr rd e hl hb => k r a b _ (Same.upd hr) ⟨upd_same, rd, ?_, ?_⟩ ?_⟩
    · exact Nat.lt_of_le_of_lt hl (abs_add_lt (abs_mul_lt b1 b4) (by rw [Nat.add_comm]; exact abs_mul_lt b3 b2))
    · exact Nat.lt_of_le_of_lt hb (pow_step (abs_mul_lt b2 b4) (by omega))
    · exact vq_add (by omega) (by omega) (by have := rd.1; omega) e
theorem ok_led (F : FnP K "_law_led" sLed f fd) (AD : Fn P w K mg base "_law_added" 2 ["_law_one", "_law_other"] spAdd2 fF fdF) : FnOk P w K mg base (L2.CX P w) 3 f fd ["_law_row", "_law_unit", "_law_amount_here"] spLed := by
  refine F.ok scLed (fun vs H Q E h => ?_) (fun cdv A outer s H vs Q E hr h => ?_)
  · obtain ⟨p, a, gs, z, t, u, n, m, rfl, _⟩ := h
    rfl
  · obtain ⟨p, a, gs, z, t, u, n, m, rfl, hp, ha, hz, hn, hl, k⟩ := h
    have hu : (A.deeper (envOfC "_law_led" (defScope sLed) s.heap.objs.size f cdv)).units + 64 < cLine := by
      have := hr.un
      omega
    have hr2 := hr.mono (show 2 ≤ 2 by decide)
    generalize hv : vq t u = v at k
    obtain ⟨nn, hnn⟩ : ∃ nn, nn = n + m + 1 := ⟨_, rfl⟩
    refine ⟨_, (pss_cons (ps_if (PW.pt (pw_and (pt_cmpR (op_neD hu) (pv 0) (pe_tup pa_nil) (nomark _)) (pw_and1 (pt_cmpR op_eq (pe_ix ix_tup (pe_ix ix_tup (pv 0) (pe_un un_neg pe_int) (fun _ _ => rfl)) pe_int (fun _ _ => rfl)) (pv 1) (nomark _))))) (pss_one (ps_par (by rfl) scLed.nd (i := 2) (j := 0) rfl rfl (by decide) rfl rfl (pa_cons (pe_call AD.ok hr2 rfl AD.g AD.k AD.b .nil passL (pa_cons (pe_ix ix_tup (pe_ix ix_tup (pv 0) (pe_un un_neg pe_int) (fun _ _ => rfl)) pe_int (fun _ _ => rfl)) (pa_cons (pv 2) pa_nil))) (pa_cons (pe_slice sl_tupA (pv 0) po_none (po_some (pe_un un_neg pe_int))) pa_nil)) (by rfl))) pss_nil)
      (pss_imp (S := sLedE H z Q gs v nn) (pss_one (ps_ret (pe_ifExp (pt_cmpR op_ne (pe_ix ix_tup (pv 2) pe_int (fun _ _ => rfl)) pe_int (nomark _)) (pe_op op_catA (pv 0) (pe_tup (pa_cons (pe_tup (pa_cons (pv 1) (pa_cons (pv 2) pa_nil))) pa_nil))) (pv 0)))) ?fin)), ?_⟩
    case fin =>
      rintro D σ H1 ⟨p1, a1, hs, t1, u1, rfl, s1, hp1, ha1, hle, ee, hD⟩
      refine ⟨_, rfl, a1, _, 0, _, rfl, rfl, SqT.of ha1.at_, rfl, rfl, _, rfl, ?_⟩
      rw [vq_ne ha1.rd]
      by_cases c : vq t1 u1 = 0
      · rw [decide_eq_true c]
        rw [if_pos c] at ee
        refine iteF ⟨_, rfl, ?_⟩
        rw [hD]
        subst hnn
        exact k _ p1 hs s1 hp1 ee.symm (by omega)
      · rw [decide_eq_false c]
        rw [if_neg c] at ee
        refine iteT ⟨_, rfl, _, rfl, _, rfl, by show 2 ≤ sizeLine; decide, fun q hq => ⟨by show 1 ≤ sizeLine; decide, fun l hl0 => ?_⟩⟩
        have s2 := Same.upd (o := .tup [.str z, .ref a1]) hq
        have q2 : upd H1 q (.tup [.str z, .ref a1]) q = some (.tup [.str z, .ref a1]) := upd_same
        generalize upd H1 q (.tup [.str z, .ref a1]) = H2 at s2 q2 hl0 ⊢
        have s3 := Same.upd (o := .tup [.ref q]) hl0
        have l3 : upd H2 l (.tup [.ref q]) l = some (.tup [.ref q]) := upd_same
        generalize upd H2 l (.tup [.ref q]) = H3 at s3 l3 ⊢
        have s23 := s2.trans s3
        have k23 := KT.of s23
        have new : LiOk nn H3 ⟨q, a1, z, t1, u1⟩ := ⟨s3 _ _ q2, ha1.kt k23, hz⟩
        refine ⟨p1, l, _, _, rfl, rfl, SqT.of (s23 _ _ hp1.l), SqT.of l3, ?_, fun e => ?_, fun _ e => (by cases e), fun _ _ r hr0 => ?_⟩
        · rw [List.length_map]
          exact Nat.le_trans (show hs.length + 1 ≤ 100 by omega) (by decide)
        · have e0 : hs = [] := List.map_eq_nil_iff.mp e
          subst e0
          rw [hD]
          subst hnn
          refine k _ l [⟨q, a1, z, t1, u1⟩] (s1.trans s23) ⟨l3, fun g hg => ?_, by show 1 ≤ 40; decide⟩ ee.symm (by show 1 ≤ _; omega)
          rw [List.mem_singleton] at hg
          rw [hg]
          exact new
        · have s4 := Same.upd (o := .tup ((hs.map fun g => V.ref g.q) ++ [.ref q])) hr0
          rw [hD]
          subst hnn
          refine k _ r (hs ++ [⟨q, a1, z, t1, u1⟩]) (s1.trans (s23.trans s4)) ⟨by rw [upd_same, List.map_append]; rfl, fun g hg => ?_, by rw [List.length_append]; show hs.length + 1 ≤ 40; omega⟩ ?_ (by rw [List.length_append]; show hs.length + 1 ≤ _; omega)
          · rcases List.mem_append.mp hg with hg | hg
            · exact (hp1.ok g hg).kt (KT.of (s23.trans s4))
            · rw [List.mem_singleton] at hg
              rw [hg]
              exact new.kt (KT.of s4)
          · rw [ee]
            unfold lrv
            rw [List.map_append]
            rfl
    have idle : M04.part (lrv gs) z = (lrv gs, 0) → ∀ (D : Ends), D.rt = Q → ∀ H1, Same H H1 → sLedE H z Q gs v nn D [some (.ref p), some (.str z), some (.ref a)] H1 := fun pe D hD H1 s1 => by
      refine ⟨p, a, gs, t, u, rfl, s1, (hp.mono (by omega)).kt (KT.of s1), (ha.mono (by omega)).kt (KT.of s1), Nat.le_refl _, ?_, hD⟩
      unfold M04.ext
      rw [pe, hv]
      simp only [Rat.zero_add]
    refine ⟨_, rfl, by show 0 ≤ sizeLine; decide, fun e0 he0 => ?_⟩
    have s1 := Same.upd (o := .tup []) he0
    have e1 : upd H e0 (.tup []) e0 = some (.tup []) := upd_same
    generalize upd H e0 (.tup []) = H1 at s1 e1 ⊢
    have hp1 := hp.kt (KT.of s1)
    have dne : PyData.eqv (rowd gs) (.tuple []) = decide (gs = []) := by
      cases gs with
      | nil => rfl
      | cons g r =>
        rw [decide_eq_false (by simp)]
        rfl
    refine ⟨rowd gs, .tuple [], row_dp hp1, .tup (SqT.of e1) .nil, rowd_shaped gs fun g hg => (hp.ok g hg).2.2, by decide, ?_⟩
    refine ⟨_, rfl, ?_⟩
    rw [dne]
    by_cases c0 : gs = []
    · rw [decide_eq_true c0]
      refine if_false_of (by rfl) (iteF (idle ?_ _ rfl H1 s1))
      rw [c0]
      rfl
    · rw [decide_eq_false c0]
      refine if_true_of (by rfl) ?_
      have h1 : gs.length - 1 < gs.length := by
        have := List.length_pos_iff.mpr c0
        omega
      have eg : gs[gs.length - 1]? = some gs[gs.length - 1] := List.getElem?_eq_getElem h1
      generalize gs[gs.length - 1] = g at eg
      have em : (gs.map fun g => V.ref g.q)[(gs.map fun g => V.ref g.q).length - 1]? = some (V.ref g.q) := by rw [List.length_map, List.getElem?_map, eg]; rfl
      have ea : atI (gs.map fun g => V.ref g.q) (-1) = some (V.ref g.q) := atI_end em
      obtain ⟨hg1, hg2, hg3⟩ := hp1.ok g (List.mem_of_getElem? eg)
      have pt : M04.part (lrv gs) z = if g.s = z then ((lrv gs).dropLast, vq g.t g.u) else (lrv gs, 0) := by
        unfold M04.part
        rw [lrv_last eg]
      refine ⟨_, rfl, _, rfl, p, _, -1, _, rfl, rfl, SqT.of hp1.l, ea, g.q, _, 0, _, rfl, rfl, SqT.of hg1, rfl, _, rfl, rfl, _, rfl, ?_⟩
      by_cases c : g.s = z
      · rw [decide_eq_true (by rw [c])]
        rw [if_pos c] at pt
        refine iteT ⟨_, rfl, _, rfl, p, _, -1, _, rfl, rfl, SqT.of hp1.l, ea, g.q, _, 1, _, rfl, rfl, SqT.of hg1, rfl, _, rfl, ?_⟩
        refine ⟨g.a, a, g.t, g.u, t, u, n, m, rfl, hg2, ha.kt (KT.of s1), by omega, fun r t2 u2 H2 s2 fr ev => ?_⟩
        have hp2 := hp1.kt (KT.of s2)
        have ec : cutV (gs.map fun g => V.ref g.q) none (some (-1)) = (gs.dropLast).map fun g => V.ref g.q := by
          show List.take ((-1 + ((gs.map fun g => V.ref g.q).length : Int)).toNat - 0) (gs.map fun g => V.ref g.q) = _
          rw [List.length_map, Nat.sub_zero, show (-1 + (gs.length : Int)).toNat = gs.length - 1 by omega, ← List.map_take, List.dropLast_eq_take]
        have fin2 : ∀ (D : Ends), D.rt = Q → ∀ H3 l, Same H2 H3 → H3 l = some (.tup (gs.dropLast.map fun g => V.ref g.q)) → sLedE H z Q gs v nn D [some (.ref l), some (.str z), some (.ref r)] H3 := fun D hD H3 l s3 hl3 => by
          subst hnn
          refine ⟨l, r, gs.dropLast, t2, u2, rfl, s1.trans (s2.trans s3), ⟨hl3, fun g hg => ((hp2.ok g (List.dropLast_subset _ hg)).kt (KT.of s3)).mono (by omega), by rw [List.length_dropLast]; omega⟩, fr.kt (KT.of s3), by rw [List.length_dropLast]; omega, ?_, hD⟩
          unfold M04.ext
          rw [pt, ev, hv]
          unfold lrv
          rw [List.map_dropLast]
        refine ⟨_, rfl, _, rfl, _, rfl, p, _, rfl, SqT.of hp2.l, fun hw => ?_, fun hw l hl0 => ?_⟩
        · exfalso
          have h2 := hw.2
          rw [List.length_map] at h2
          have h2 : (-1 + (gs.length : Int)).toNat = gs.length := h2
          omega
        · rw [ec]
          have := fin2 { nx := fun _ H' => Q V.non H', rt := Q } rfl _ l (Same.upd hl0) upd_same
          exact ⟨_, _, rfl, this⟩
      · rw [decide_eq_false fun e => c (V.str.inj e)]
        rw [if_neg c] at pt
        exact iteF (idle pt _ rfl H1 s1)
end
end K13
set_option Elab.async false
set_option linter.all false
set_option maxRecDepth 100000
set_option maxHeartbeats 1000000
set_option exponentiation.threshold 100000
namespace K13
open PySem PySem.Spec PyProof.Rows L2 Fa Fb
structure Lc where
  q : Addr
  a : Addr
  nm : Str
  pa : Str
  un : Str
  t : Int
  u : Int
def lcv (g : Lc) : M04.Cue := ⟨g.nm, g.pa, g.un, vq g.t g.u⟩
def LcOk (n : Nat) (H : Hp) (g : Lc) : Prop := H g.q = some (.tup [.str g.nm, .str g.pa, .str g.un, .ref g.a]) ∧ Fr n H g.a g.t g.u ∧ PyData.strOk g.nm = true ∧ PyData.strOk g.pa = true ∧ PyData.strOk g.un = true
theorem LcOk.kt {n : Nat} {H H' : Hp} {g : Lc} (h : LcOk n H g) (k : KT H H') : LcOk n H' g := ⟨k _ _ h.1 (fun _ e => by cases e), h.2.1.kt k, h.2.2⟩
structure LsC (n : Nat) (H : Hp) (l : Addr) (gs : List Lc) : Prop where
  l : H l = some (.lst (gs.map fun g => V.ref g.q))
  ok : ∀ g ∈ gs, LcOk n H g
  n : gs.length ≤ 14
theorem LsC.same {n : Nat} {H H' : Hp} {l : Addr} {gs : List Lc} (h : LsC n H l gs) (s : Same H H') : LsC n H' l gs := ⟨s _ _ h.l, fun g hg => (h.ok g hg).kt (KT.of s), h.n⟩
/-- an entry of the dict: name, address, row -/
abbrev En : Type := Str × Addr × List Li
def enK (es : List En) : List (Key × V) := es.map fun e => (Sum.inr e.1, V.ref e.2.1)
def ent (es : List En) : List (Str × Option M04.Row) := es.map fun e => (e.1, some (lrv e.2.2))
structure RwsOk (N : Nat) (H : Hp) (d : Addr) (cs : List M04.Cue) (es : List En) : Prop where
  dk : H d = some (.dK (enK es))
  ok : ∀ e ∈ es, LRow N H e.2.1 e.2.2 ∧ e.2.2.length ≤ cs.length
  tab : ent es = M04.tab (M04.all cs)
theorem RwsOk.same {N : Nat} {H H' : Hp} {d : Addr} {cs : List M04.Cue} {es : List En} (h : RwsOk N H d cs es) (s : Same H H') : RwsOk N H' d cs es := ⟨s _ _ h.dk, fun e he => ⟨(h.ok e he).1.kt (KT.of s), (h.ok e he).2⟩, h.tab⟩
/-- what is found by a name -/
theorem find_en {es : List En} {s : M04.St} {x : Str} {i : Nat} {r : M04.Row} (h : ent es = M04.tab s) (e : M04.num s.nums x = some i) (er : s.rows[i]? = some r) : ∃ p hs, (x, p, hs) ∈ es ∧ lrv hs = r ∧ valV (enK es) (Sum.inr x) = some (.ref p) := by
  have f1 : (ent es).find? (fun z => decide (z.1 = x)) = (es.find? fun z => decide (z.1 = x)).map fun e => (e.1, some (lrv e.2.2)) := by
    unfold ent
    rw [List.find?_map]
    rfl
  have f2 : (M04.tab s).find? (fun z => decide (z.1 = x)) = (s.nums.find? fun z => decide (z.1 = x)).map fun z => (z.1, s.rows[z.2]?) := by
    unfold M04.tab
    rw [List.find?_map]
    rfl
  have f3 : valV (enK es) (Sum.inr x) = (es.find? fun z => decide (z.1 = x)).map fun e => V.ref e.2.1 := by
    unfold valV enK
    rw [List.find?_map, Option.map_map]
    congr 1
    congr 1
    funext z
    show decide ((Sum.inr z.1 : Key) = Sum.inr x) = decide (z.1 = x)
    by_cases c : z.1 = x
    · simp [c]
    · rw [decide_eq_false c, decide_eq_false fun e => c (Sum.inr.inj e)]
  rw [h, f2] at f1
  unfold M04.num at e
  cases en : s.nums.find? fun z => decide (z.1 = x) with
  | none => rw [en] at e; cases e
  | some z =>
    rw [en] at e f1
    cases e
    cases ee : es.find? fun z => decide (z.1 = x) with
    | none => rw [ee] at f1; cases f1
    | some w =>
      rw [ee] at f1 f3
      have f1 := Option.some.inj f1
      have wx : w.1 = x := of_decide_eq_true (List.find?_some (p := fun z : En => decide (z.1 = x)) ee)
      refine ⟨w.2.1, w.2.2, ?_, ?_, f3⟩
      · rw [← wx]
        exact List.mem_of_find?_eq_some ee
      · have this : s.rows[z.2]? = some (lrv w.2.2) := congrArg Prod.snd f1
        have er : s.rows[z.2]? = some r := er
        rw [er] at this
        exact (Option.some.inj this).symm
theorem putK_en {es : List En} {s : M04.St} {x : Str} {p : Addr} {hs : List Li} (h : ent es = M04.tab s) (e : M04.num s.nums x = none) : putK (enK es) (Sum.inr x) (V.ref p) = enK (es ++ [(x, p, hs)]) := by
  have nm : es.map (fun e => e.1) = s.nums.map (fun z => z.1) := by
    rw [← M04.tab_nm, ← h]
    unfold ent
    rw [List.map_map]
    rfl
  have : (enK es).any (fun kv => decide (kv.1 = (Sum.inr x : Key))) = false := by
    unfold enK
    rw [List.any_map, List.any_eq_false]
    intro z hz e2
    have e2 := Sum.inr.inj (of_decide_eq_true e2)
    refine M04.num_none.mp e ?_
    rw [← nm]
    exact List.mem_map.mpr ⟨z, hz, e2⟩
  unfold putK
  rw [this]
  unfold enK
  rw [List.map_append]
  rfl
theorem Fr.put {n : Nat} {H : Hp} {p a : Addr} {ob : HO} {t u : Int} (h : Fr n H p t u) (na : NoTI H a) : Fr n (upd H a ob) p t u := ⟨by rw [upd_ne (na.tup h.at_)]; exact h.at_, h.rd, h.bt, h.bu⟩
theorem LiOk.put {n : Nat} {H : Hp} {a : Addr} {ob : HO} {g : Li} (h : LiOk n H g) (na : NoTI H a) : LiOk n (upd H a ob) g := ⟨by rw [upd_ne (na.tup h.1)]; exact h.1, h.2.1.put na, h.2.2⟩
theorem LRow.put {n : Nat} {H : Hp} {p a : Addr} {ob : HO} {gs : List Li} (h : LRow n H p gs) (na : NoTI H a) : LRow n (upd H a ob) p gs := ⟨by rw [upd_ne (na.tup h.l)]; exact h.l, fun g hg => (h.ok g hg).put na, h.n⟩
abbrev sRws : Stmt := top 65
abbrev sMom : Stmt := top 66
theorem scRws : FnScope ["_law_cues_here", "_law_rows_here", "_law_name", "_law_parent", "_law_unit", "_law_amount_here"] ["_law_cues_here"] (defScope sRws) := ⟨rfl, rfl, rfl, by decide +kernel, rfl, by decide +kernel, by decide +kernel⟩
theorem scMom : FnScope ["_law_cues_here", "_law_found", "_law_rows_here", "_law_name", "_law_parent", "_law_unit", "_law_amount_here", "_law_row", "_law_many"] ["_law_cues_here"] (defScope sMom) := ⟨rfl, rfl, rfl, by decide +kernel, rfl, by decide +kernel, by decide +kernel⟩
def spRws (K : PySem.W.Frag) : Sp := fun vs H Q _ => ∃ l gs n, vs = [.ref l] ∧ LsC n H l gs ∧ M04.Good (gs.map lcv) ∧ 1 ≤ n ∧ n ≤ 200 ∧ ∀ d H' es, Same H H' → RwsOk ((gs.length + 1) * (n + 1)) H' d (gs.map lcv) es → Q (.ref d) H'
def sRwsB (K : PySem.W.Frag) (n : Nat) (H : Hp) (l : Addr) (gs : List Lc) : TS := fun D σ H' => ∃ (d : Addr) (i : Nat) (g : Lc) (es : List En), σ = [some (.ref l), some (.ref d), some (.str g.nm), some (.str g.pa), some (.str g.un), some (.ref g.a)] ∧ gs[i]? = some g ∧ Same H H' ∧ H d = none ∧ RwsOk ((i + 1) * (n + 1)) H' d ((gs.map lcv).take i) es ∧
  ∀ H'' es', Same H H'' → RwsOk ((i + 2) * (n + 1)) H'' d ((gs.map lcv).take (i + 1)) es' → D.nx [some (.ref l), some (.ref d), some (.str g.nm), some (.str g.pa), some (.str g.un), some (.ref g.a)] H''
def spMom (K : PySem.W.Frag) : Sp := fun vs H Q _ => ∃ l gs n, vs = [.ref l] ∧ LsC n H l gs ∧ M04.Good (gs.map lcv) ∧ 1 ≤ n ∧ n ≤ 200 ∧ ∀ p xs H', Same H H' → H' p = some (.lst xs) → xs.length ≤ 1000 → (M04.all (gs.map lcv)).rows.length ≤ xs.length → Q (.ref p) H'
theorem RwsOk.put {N : Nat} {H : Hp} {d f : Addr} {ob : HO} {xs : List V} {cs : List M04.Cue} {es : List En} (h : RwsOk N H d cs es) (hf : H f = some (.lst xs)) : RwsOk N (upd H f ob) d cs es := ⟨by
  rw [upd_ne fun e => by
    have h1 := h.dk
    rw [e, hf] at h1
    cases h1]
  exact h.dk, fun e he => ⟨(h.ok e he).1.put (.inl ⟨_, hf⟩), (h.ok e he).2⟩, h.tab⟩
/-- the list of what was found -/
structure FoOk (N : Nat) (H : Hp) (f : Addr) (fs : List (Addr × List Li)) : Prop where
  l : H f = some (.lst (fs.map fun z => V.ref z.1))
  ok : ∀ z ∈ fs, LRow N H z.1 z.2
  z : [] ∈ fs.map fun z => lrv z.2
theorem FoOk.same {N : Nat} {H H' : Hp} {f : Addr} {fs : List (Addr × List Li)} (h : FoOk N H f fs) (s : Same H H') : FoOk N H' f fs := ⟨s _ _ h.l, fun z hz => (h.ok z hz).kt (KT.of s), h.z⟩
theorem LRow.str {N : Nat} {H : Hp} {p : Addr} {gs : List Li} (h : LRow N H p gs) : ∀ g ∈ gs, PyData.strOk g.s = true := fun g hg => (h.ok g hg).2.2
theorem LRow.red {N : Nat} {H : Hp} {p : Addr} {gs : List Li} (h : LRow N H p gs) : ∀ g ∈ gs, Am.Red g.t g.u := fun g hg => (h.ok g hg).2.1.rd
theorem fo_dp {K : PySem.W.Frag} {N : Nat} {H : Hp} : ∀ {fs : List (Addr × List Li)}, (∀ z ∈ fs, LRow N H z.1 z.2) → DpAll K H (fs.map fun z => V.ref z.1) (fs.map fun z => rowd z.2)
  | [], _ => .nil
  | z :: r, h => .cons (row_dp (h z List.mem_cons_self)) (fo_dp fun x hx => h x (List.mem_cons_of_mem _ hx))
theorem fo_lay {N : Nat} {H : Hp} : ∀ {fs : List (Addr × List Li)}, (∀ z ∈ fs, LRow N H z.1 z.2) → PyData.canLayAll0 (fs.map fun z => rowd z.2) = true ∧ PyData.depthAll (fs.map fun z => rowd z.2) ≤ 3
  | [], _ => ⟨rfl, by simp [PyData.depthAll]⟩
  | z :: r, h => by
    obtain ⟨h1, h2⟩ := fo_lay (fs := r) fun x hx => h x (List.mem_cons_of_mem _ hx)
    have h3 := rowd_depth z.2
    have h4 := rowd_lay z.2 (h z List.mem_cons_self).str
    simp only [List.map_cons, PyData.canLayAll0, PyData.depthAll, h4, h1]
    exact ⟨rfl, by omega⟩
theorem fo_shaped {N : Nat} {H : Hp} {fs : List (Addr × List Li)} (h : ∀ z ∈ fs, LRow N H z.1 z.2) : SeqAt.shaped (.list (fs.map fun z => rowd z.2)) = true := by
  obtain ⟨h1, h2⟩ := fo_lay h
  unfold SeqAt.shaped
  have h3 : PyData.canLay0 (.list (fs.map fun z => rowd z.2)) = true := by simp only [PyData.canLay0, h1]
  have h4 : PyData.depth (.list (fs.map fun z => rowd z.2)) ≤ 64 := by
    simp only [PyData.depth]
    omega
  rw [h3, decide_eq_true h4]
  rfl
theorem fo_any {N : Nat} {H : Hp} {fs : List (Addr × List Li)} {p : Addr} {hs : List Li} (h : ∀ z ∈ fs, LRow N H z.1 z.2) (hp : LRow N H p hs) : ((fs.map fun z => rowd z.2).any fun z => PyData.eqv z (rowd hs)) = decide (lrv hs ∈ fs.map fun z => lrv z.2) := by
  rw [List.any_map, Bool.eq_iff_iff, List.any_eq_true, decide_eq_true_iff, List.mem_map]
  constructor
  · rintro ⟨z, hz, e⟩
    have e : PyData.eqv (rowd z.2) (rowd hs) = true := e
    rw [rowd_eqv (h z hz).red hp.red] at e
    exact ⟨z, hz, of_decide_eq_true e⟩
  · rintro ⟨z, hz, e⟩
    refine ⟨z, hz, ?_⟩
    show PyData.eqv (rowd z.2) (rowd hs) = true
    rw [rowd_eqv (h z hz).red hp.red]
    exact decide_eq_true e
/-- state of the outer loop: behind i cues -/
structure MoI (N : Nat) (H : Hp) (f d : Addr) (gs : List Lc) (es : List En) (i : Nat) (H' : Hp) (fs : List (Addr × List Li)) : Prop where
  s : Same H H'
  f0 : H f = none
  ro : RwsOk N H' d (gs.map lcv) es
  fo : FoOk N H' f fs
  n : fs.length ≤ 1 + i * 41
  all : ∀ (j : Nat) c, j < i → (gs.map lcv)[j]? = some c → M04.row (M04.all ((gs.map lcv).take j)) c ∈ fs.map fun z => lrv z.2
def sMomB (N : Nat) (H : Hp) (l : Addr) (gs : List Lc) : TS := fun D σ H' => ∃ (d f : Addr) (i : Nat) (g : Lc) (es : List En) (fs : List (Addr × List Li)) (v7 v8 : Option V), σ = [some (.ref l), some (.ref f), some (.ref d), some (.str g.nm), some (.str g.pa), some (.str g.un), some (.ref g.a), v7, v8] ∧ gs[i]? = some g ∧ MoI N H f d gs es i H' fs ∧
  ∀ H'' fs' v7 v8, MoI N H f d gs es (i + 1) H'' fs' → D.nx [some (.ref l), some (.ref f), some (.ref d), some (.str g.nm), some (.str g.pa), some (.str g.un), some (.ref g.a), v7, v8] H''
/-- of the inner one: behind m beginnings of the row -/
structure MoJ (N : Nat) (H : Hp) (f d : Addr) (gs : List Lc) (es : List En) (i m : Nat) (hs : List Li) (p : Addr) (H' : Hp) (fs : List (Addr × List Li)) : Prop where
  s : Same H H'
  f0 : H f = none
  ro : RwsOk N H' d (gs.map lcv) es
  fo : FoOk N H' f fs
  row : LRow N H' p hs
  n : fs.length ≤ 1 + i * 41 + m
  all : ∀ (j : Nat) c, j < i → (gs.map lcv)[j]? = some c → M04.row (M04.all ((gs.map lcv).take j)) c ∈ fs.map fun z => lrv z.2
  pre : ∀ k, 1 ≤ k → k ≤ m → lrv (hs.take k) ∈ fs.map fun z => lrv z.2
def sMomI (N : Nat) (H : Hp) (l : Addr) (gs : List Lc) : TS := fun D σ H' => ∃ (d f p : Addr) (i m : Nat) (a b c e : Option V) (hs : List Li) (es : List En) (fs : List (Addr × List Li)), σ = [some (.ref l), some (.ref f), some (.ref d), a, b, c, e, some (.ref p), some (.int (1 + m : Int))] ∧ m < hs.length ∧ i < 14 ∧ MoJ N H f d gs es i m hs p H' fs ∧
  ∀ H'' fs', MoJ N H f d gs es i (m + 1) hs p H'' fs' → D.nx [some (.ref l), some (.ref f), some (.ref d), a, b, c, e, some (.ref p), some (.int (1 + m : Int))] H''
theorem slA {K : PySem.W.Frag} {N : Nat} {H : Hp} {p : Addr} {hs : List Li} {m : Nat} {Q' : VK} (h : LRow N H p hs) (hm : m < hs.length) (k : ∀ H2 p2, Same H H2 → LRow N H2 p2 (hs.take (m + 1)) → Q' (.ref p2) H2) : rSlA K (.ref p) none (some (1 + m : Int)) H Q' := by
  have e2 : HT.sIx (hs.map fun g => V.ref g.q).length (hs.map fun g => V.ref g.q).length (some (1 + m : Int)) = m + 1 := by
    show (if (1 + m : Int) < 0 then ((1 + m : Int) + ((hs.map fun g => V.ref g.q).length : Int)).toNat else min (1 + m : Int).toNat (hs.map fun g => V.ref g.q).length) = m + 1
    rw [if_neg (by omega), List.length_map]
    omega
  refine ⟨p, _, rfl, SqT.of h.l, fun hw => ?_, fun hw q hq => ?_⟩
  · have h2 := hw.2
    rw [e2, List.length_map] at h2
    refine k H p (Same.refl _) ?_
    rw [h2, List.take_length]
    exact h
  · have ec : cutV (hs.map fun g => V.ref g.q) none (some (1 + m : Int)) = (hs.take (m + 1)).map fun g => V.ref g.q := by
      unfold cutV
      rw [e2]
      show List.take (m + 1 - 0) (List.drop 0 _) = _
      rw [List.drop_zero, Nat.sub_zero, List.map_take]
    rw [ec]
    have s2 := Same.upd (o := .tup ((hs.take (m + 1)).map fun g => V.ref g.q)) hq
    exact k _ q s2 ⟨upd_same, fun g hg => (h.ok g (List.mem_of_mem_take hg)).kt (KT.of s2), by rw [List.length_take]; have := h.n; omega⟩
/-- the entry of a cue -/
theorem en_at {cs : List M04.Cue} {es : List En} {i : Nat} {c : M04.Cue} (g : M04.Good cs) (h : ent es = M04.tab (M04.all cs)) (ec : cs[i]? = some c) : ∃ p hs, ((c.nm, p, hs) ∈ es ∧ valV (enK es) (Sum.inr c.nm) = some (.ref p)) ∧ lrv hs = M04.row (M04.all (cs.take i)) c := by
  have hm := M04.tab_mem g ec
  have nd : ((M04.all cs).nums.map (fun z => z.1)).Nodup := by
    rw [M04.names_all]
    exact M04.names_nodup g
  obtain ⟨z, hz, e⟩ := List.mem_map.mp hm
  have e1 : z.1 = c.nm := congrArg Prod.fst e
  have e2 : (M04.all cs).rows[z.2]? = some (M04.row (M04.all (cs.take i)) c) := congrArg Prod.snd e
  have f := M04.find_nm nd (show (z.1, z.2) ∈ (M04.all cs).nums from hz)
  have nn : M04.num (M04.all cs).nums c.nm = some z.2 := by
    unfold M04.num
    rw [← e1, f]
    rfl
  obtain ⟨p, hs, h1, h2, h3⟩ := find_en h nn e2
  exact ⟨p, hs, ⟨h1, h3⟩, h2⟩
section
variable {P : Program} {w : World} {K : PySem.W.Frag} {mg : Str → Option Value} {base : Heap} {f fF : Addr} {fd fdF : FuncData}
theorem ok_rws (F : FnP K "_law_rows" sRws f fd) (LD : Fn P w K mg base "_law_led" 3 ["_law_row", "_law_unit", "_law_amount_here"] spLed fF fdF) : FnOk P w K mg base (L2.CX P w) 4 f fd ["_law_cues_here"] (spRws K) := by
  refine F.ok scRws (fun vs H Q E h => ?_) (fun cdv A outer s H vs Q E hr h => ?_)
  · obtain ⟨l, gs, n, rfl, _⟩ := h
    rfl
  · obtain ⟨l, gs, n, rfl, hl, good, n1, n2, k⟩ := h
    have hu1 : (A.deeper (envOfC "_law_rows" (defScope sRws) s.heap.objs.size f cdv)).units + 1 < cLine := by
      have := hr.un
      omega
    have hr3 := hr.mono (show 3 ≤ 3 by decide)
    refine ⟨_, (pss_cons (ps_set (i := 1) scRws.nd rfl (Or.inl rfl) (pe_disp (pps_cons pe_str (pe_tup pa_nil) pps_nil) rfl rfl (by simp) (by decide)))
      (pss_cons (ps_for (passes_of rfl) rfl (pi_list (pv 0)) (pg_tup (by rfl) (pgs_cons (pg_name (i := 2) scRws.nd rfl (Or.inl rfl)) (pgs_cons (pg_name (i := 3) scRws.nd rfl (Or.inl rfl)) (pgs_cons (pg_name (i := 4) scRws.nd rfl (Or.inl rfl)) (pgs_cons (pg_name (i := 5) scRws.nd rfl (Or.inl rfl)) pgs_nil)))))
      (pss_imp (S := sRwsB K n H l gs) (pss_one (ps_dput hu1 (pv 1) (pv 2) (pe_call LD.ok hr3 rfl LD.g LD.k LD.b .nil passL (pa_cons (pe_dget hu1 (pv 1) (pv 3) (fun _ _ => rfl)) (pa_cons (pv 4) (pa_cons (pv 5) pa_nil)))) (by rfl))) ?body))
      (pss_one (ps_ret (pv 1))))), ?_⟩
    case body =>
      rintro D σ H1 ⟨d, i, g, es, rfl, eg, s1, d0, ro, kn⟩
      have ec : (gs.map lcv)[i]? = some (lcv g) := by rw [List.getElem?_map, eg]; rfl
      obtain ⟨g1, g2⟩ := good i _ ec
      obtain ⟨j, ej⟩ := Option.isSome_iff_exists.mp g2
      have jl : j < (M04.all ((gs.map lcv).take i)).rows.length := M04.all_ok _ _ M04.init_ok _ _ ej
      obtain ⟨p, hs, mem, ev, vv⟩ := find_en ro.tab ej (List.getElem?_eq_getElem jl)
      obtain ⟨r1, r2⟩ := ro.ok _ mem
      have hi := (List.getElem?_eq_some_iff.mp eg).1
      have hi14 := hl.n
      obtain ⟨c1, c2, c3, c4, c5⟩ := (hl.ok g (List.mem_of_getElem? eg)).kt (KT.of s1)
      have lt : ((gs.map lcv).take i).length = i := by rw [List.length_take, List.length_map]; omega
      rw [lt] at r2
      have r2 : hs.length ≤ i := r2
      have g1 : M04.num (M04.all ((gs.map lcv).take i)).nums g.nm = none := g1
      have b0 : (i + 1) * (n + 1) ≤ 14 * 201 := Nat.mul_le_mul (by omega) (by omega)
      have b2 : (i + 1) * (n + 1) + n + 1 = (i + 2) * (n + 1) := by rw [show i + 2 = (i + 1) + 1 from rfl, Nat.add_mul (i + 1) 1, Nat.one_mul]; omega
      refine ⟨_, rfl, _, rfl, d, _, rfl, .inl ⟨_, Sum.inr g.pa, Rd.of ro.dk, rfl, vv.symm⟩, _, rfl, _, rfl, ?_⟩
      refine ⟨p, g.a, hs, g.un, g.t, g.u, (i + 1) * (n + 1), n, rfl, r1, c2, c5, by omega, by omega, fun H2 l2 hs2 s2 lr2 ev2 hl2 => ?_⟩
      rw [b2] at lr2
      have ro2 := ro.same s2
      refine ⟨_, rfl, _, rfl, d, _, rfl, .inl ⟨_, Sum.inr g.nm, ro2.dk, rfl, ?_, rfl⟩, ?_⟩
      · have e1 : es.length = i + 1 := by
          have := congrArg List.length ro.tab
          rw [M04.tab_len, M04.nums_len, lt] at this
          unfold ent at this
          rw [List.length_map] at this
          exact this
        unfold enK
        rw [List.length_map]
        exact Nat.lt_of_lt_of_le (show es.length < 100 by omega) (by decide)
      · rw [putK_en (hs := hs2) ro.tab g1]
        have nd : NoTI H2 d := .inr ⟨_, ro2.dk⟩
        refine kn _ (es ++ [(g.nm, l2, hs2)]) (same_put (s1.trans s2) d0) ⟨upd_same, fun e he => ?_, ?_⟩
        · rw [M04.all_take_len ec]
          rcases List.mem_append.mp he with he | he
          · obtain ⟨y1, y2⟩ := ro2.ok e he
            exact ⟨(y1.mono (by omega)).put nd, by rw [lt] at y2; omega⟩
          · rw [List.mem_singleton] at he
            subst he
            exact ⟨lr2.put nd, by show hs2.length ≤ _; omega⟩
        · have aok : M04.AllOk (M04.all ((gs.map lcv).take i)) := M04.all_all ((gs.map lcv).take i) M04.init M04.init_all
          rw [M04.all_take ec, M04.tab_step _ aok, ← ro.tab]
          unfold ent
          rw [List.map_append]
          show _ ++ [(g.nm, some (lrv hs2))] = _
          rw [ev2]
          unfold M04.row
          have ej' : M04.num (M04.all ((gs.map lcv).take i)).nums (lcv g).pa = some j := ej
          rw [ej', Option.getD_some, List.getD_eq_getElem?_getD, List.getElem?_eq_getElem jl, Option.getD_some, ev]
          rfl
    intro d hd
    have hd0 := hd
    refine ⟨by show 0 ≤ sizeLine; decide, fun p0 hp0 => ?_⟩
    have pd : p0 ≠ d ∧ H p0 = none := by
      by_cases e : p0 = d
      · rw [e, upd_same] at hp0
        cases hp0
      · rw [upd_ne e] at hp0
        exact ⟨e, hp0⟩
    refine ⟨by rw [upd_ne (Ne.symm pd.1)]; exact upd_same, [(Sum.inr "start", .ref p0)], rfl, (by show 1 ≤ 15; decide), ?_⟩
    have em : mergeK [] [((Sum.inr ("start" : Str) : Key), V.ref p0)] = enK [("start", p0, [])] := rfl
    rw [em]
    have s1 : Same H (upd (upd (upd H d (.dK [])) p0 (.tup [])) d (.dK (enK [("start", p0, [])]))) := fun q ob hq => by
      rw [upd_ne (ne_of_none hq hd), upd_ne (ne_of_none hq pd.2), upd_ne (ne_of_none hq hd)]
      exact hq
    have d1 : upd (upd (upd H d (.dK [])) p0 (.tup [])) d (.dK (enK [("start", p0, [])])) d = some (.dK (enK [("start", p0, [])])) := upd_same
    have p1 : upd (upd (upd H d (.dK [])) p0 (.tup [])) d (.dK (enK [("start", p0, [])])) p0 = some (.tup []) := by rw [upd_ne pd.1]; exact upd_same
    show tSeq _ _ _ _ (upd (upd (upd H d (.dK [])) p0 (.tup [])) d (.dK (enK [("start", p0, [])])))
    generalize upd (upd (upd H d (.dK [])) p0 (.tup [])) d (.dK (enK [("start", p0, [])])) = H1 at s1 d1 p1
    have ro0 : RwsOk ((0 + 1) * (n + 1)) H1 d ((gs.map lcv).take 0) [("start", p0, [])] := ⟨d1, fun e he => by
      rw [List.mem_singleton] at he
      subst he
      exact ⟨⟨p1, (fun g hg => by cases hg), Nat.zero_le _⟩, Nat.le_refl _⟩, rfl⟩
    refine ⟨_, rfl, l, rfl, ⟨_, SqL.of (s1 _ _ hl.l)⟩, for_list (K := K) (a := l) (xs := gs.map fun g => V.ref g.q) (fun i σ H' => ∃ v2 v3 v4 v5 : Option V, σ = [some (.ref l), some (.ref d), v2, v3, v4, v5] ∧ Same H H' ∧ ∃ es, RwsOk ((i + 1) * (n + 1)) H' d ((gs.map lcv).take i) es) ⟨_, _, _, _, rfl, s1, _, ro0⟩ (fun i σ H' _ ⟨_, _, _, _, _, s, _⟩ => SqL.of (s _ _ hl.l)) ?_ ?_⟩
    · rintro i x σ H2 hx ⟨v2, v3, v4, v5, rfl, s2, es, ro⟩
      obtain ⟨g, eg, rfl⟩ := map_at hx
      have c1 := s2 _ _ (hl.ok g (List.mem_of_getElem? eg)).1
      exact ⟨g.q, _, rfl, SqT.of c1, rfl, _, _, rfl, _, _, rfl, _, _, rfl, _, _, rfl, rfl, d, i, g, es, rfl, eg, s2, hd0, ro, fun H'' es' s' ro' => ⟨_, _, _, _, rfl, s', es', ro'⟩⟩
    · rintro σ H2 ⟨v2, v3, v4, v5, rfl, s2, es, ro⟩
      rw [List.length_map, show (gs.map lcv).take gs.length = gs.map lcv from by rw [← List.length_map (f := lcv) (as := gs), List.take_length]] at ro
      exact ⟨_, rfl, k d H2 es s2 ro⟩
theorem ok_mom (F : FnP K "_law_moments" sMom f fd) (mL : mg "len" = none) (mG : mg "range" = none) (RW : Fn P w K mg base "_law_rows" 4 ["_law_cues_here"] (spRws K) fF fdF) : FnOk P w K mg base (L2.CX P w) 5 f fd ["_law_cues_here"] (spMom K) := by
  refine F.ok scMom (fun vs H Q E h => ?_) (fun cdv A outer s H vs Q E hr h => ?_)
  · obtain ⟨l, gs, n, rfl, _⟩ := h
    rfl
  · obtain ⟨l, gs, n, rfl, hl, good, n1, n2, k⟩ := h
    have hu1 : (A.deeper (envOfC "_law_moments" (defScope sMom) s.heap.objs.size f cdv)).units + 1 < cLine := by
      have := hr.un
      omega
    have hu65 : (A.deeper (envOfC "_law_moments" (defScope sMom) s.heap.objs.size f cdv)).units + 65 < cLine := by
      have := hr.un
      omega
    have hr4 := hr.mono (show 4 ≤ 4 by decide)
    obtain ⟨N, hN⟩ : ∃ N, N = (gs.length + 1) * (n + 1) := ⟨_, rfl⟩
    refine ⟨_, (pss_cons (ps_par (by rfl) scMom.nd (i := 1) (j := 2) rfl rfl (by decide) rfl rfl (pa_cons (pe_lst (pa_cons (pe_tup pa_nil) pa_nil)) (pa_cons (pe_call RW.ok hr4 rfl RW.g RW.k RW.b .nil passL (pa_cons (pv 0) pa_nil)) pa_nil)) (by rfl))
      (pss_cons (ps_for (passes_of rfl) rfl (pi_list (pv 0)) (pg_tup (by rfl) (pgs_cons (pg_name (i := 3) scMom.nd rfl (Or.inl rfl)) (pgs_cons (pg_name (i := 4) scMom.nd rfl (Or.inl rfl)) (pgs_cons (pg_name (i := 5) scMom.nd rfl (Or.inl rfl)) (pgs_cons (pg_name (i := 6) scMom.nd rfl (Or.inl rfl)) pgs_nil)))))
      (pss_imp (S := sMomB N H l gs) (pss_cons (ps_set (i := 7) scMom.nd rfl (Or.inl rfl) (pe_dget hu1 (pv 2) (pv 3) (fun _ _ => rfl)))
      (pss_one (ps_for (passes_of rfl) rfl (pi_range2 rfl mG (pa_cons pe_int (pa_cons (pe_op op_add (pe_callB call_len rfl mL PySem.boot_len (pa_cons (pv 7) pa_nil)) pe_int) pa_nil))) (pg_name (i := 8) scMom.nd rfl (Or.inl rfl))
      (pss_imp (S := sMomI N H l gs) (pss_one (ps_if (pt_cmpR (op_notInD hu65) (pe_slice sl_tupA (pv 7) po_none (po_some (pv 8))) (pv 1) (by rfl)) (pss_one (ps_expr (pe_bm PySem.F.plainAttrs_list PySem.F.slot_list_append PySem.F.type_list_append mt_append (pv 1) (pa_cons (pe_slice sl_tupA (pv 7) po_none (po_some (pv 8))) pa_nil)))) pss_nil)) ?inner)))) ?body))
      (pss_one (ps_ret (pv 1))))), ?_⟩
    case inner =>
      rintro D σ H1 ⟨d, f, p, i, m, a, b, c, e, hs, es, fs, rfl, hm, hi, J, kn⟩
      refine ⟨_, rfl, _, rfl, _, rfl, slA J.row hm fun H2 p2 s2 r2 => ?_⟩
      have fo2 := J.fo.same s2
      refine ⟨_, rfl, rowd (hs.take (m + 1)), _, row_dp r2, .lst (SqL.of fo2.l) (fo_dp fo2.ok), rowd_shaped _ r2.str, fo_shaped fo2.ok, _, rfl, ?_⟩
      rw [fo_any fo2.ok r2]
      have hsn := J.row.n
      have keep : ∀ H3 fs', Same H H3 → RwsOk N H3 d (gs.map lcv) es → LRow N H3 p hs → FoOk N H3 f fs' → fs'.length ≤ fs.length + 1 → (∀ r ∈ fs.map (fun z => lrv z.2), r ∈ fs'.map fun z => lrv z.2) → lrv (hs.take (m + 1)) ∈ fs'.map (fun z => lrv z.2) → MoJ N H f d gs es i (m + 1) hs p H3 fs' := fun H3 fs' s3 ro3 row3 fo3 hl3 sub new => by
        refine ⟨s3, J.f0, ro3, fo3, row3, by have := J.n; omega, fun j c hj ec => sub _ (J.all j c hj ec), fun k k1 k2 => ?_⟩
        by_cases ck : k ≤ m
        · exact sub _ (J.pre k k1 ck)
        · rw [show k = m + 1 by omega]
          exact new
      by_cases c0 : lrv (hs.take (m + 1)) ∈ fs.map fun z => lrv z.2
      · rw [decide_eq_true c0]
        exact iteF (kn H2 fs (keep H2 fs (J.s.trans s2) (J.ro.same s2) (J.row.kt (KT.of s2)) fo2 (by omega) (fun r hr => hr) c0))
      · rw [decide_eq_false c0]
        refine iteT ⟨_, rfl, .inl ⟨rfl, _, SqL.of fo2.l⟩, _, rfl, _, rfl, _, rfl, slA (J.row.kt (KT.of s2)) hm fun H3 p3 s3 r3 => ?_⟩
        have fo3 := fo2.same s3
        have nf : NoTI H3 f := .inl ⟨_, fo3.l⟩
        have hfs := J.n
        refine ⟨f, _, _, rfl, rfl, fo3.l, ?_, ?_⟩
        · rw [List.length_map]
          exact Nat.lt_of_lt_of_le (show fs.length < 1000 by omega) (by decide)
        · have ro3 := (J.ro.same (s2.trans s3)).put (ob := .lst ((fs.map fun z => V.ref z.1) ++ [.ref p3])) fo3.l
          refine kn _ (fs ++ [(p3, hs.take (m + 1))]) (keep _ _ (same_put ((J.s.trans s2).trans s3) J.f0) ro3 ((J.row.kt (KT.of (s2.trans s3))).put nf) ⟨by rw [upd_same, List.map_append]; rfl, fun z hz => ?_, ?_⟩ (by rw [List.length_append]; exact Nat.le_refl _) (fun r hr => ?_) ?_)
          · rcases List.mem_append.mp hz with hz | hz
            · exact (fo3.ok z hz).put nf
            · rw [List.mem_singleton] at hz
              subst hz
              exact r3.put nf
          · rw [List.map_append]
            exact List.mem_append_left _ fo3.z
          · rw [List.map_append]
            exact List.mem_append_left _ hr
          · rw [List.map_append]
            exact List.mem_append_right _ (List.mem_singleton.mpr rfl)
    case body =>
      rintro D σ H1 ⟨d, f, i, g, es, fs, v7, v8, rfl, eg, I, kn⟩
      have ec : (gs.map lcv)[i]? = some (lcv g) := by rw [List.getElem?_map, eg]; rfl
      have hi := (List.getElem?_eq_some_iff.mp eg).1
      have h14 := hl.n
      obtain ⟨p, hs, mem, ev⟩ := en_at good I.ro.tab ec
      obtain ⟨r1, r2⟩ := I.ro.ok _ mem.1
      have r1 : LRow N H1 p hs := r1
      refine ⟨_, rfl, _, rfl, d, _, rfl, .inl ⟨_, Sum.inr g.nm, Rd.of I.ro.dk, rfl, mem.2.symm⟩, ?_⟩
      have hs40 := r1.n
      refine ⟨_, rfl, _, _, rfl, .inr ⟨_, SqT.of r1.l, rfl⟩, _, _, rfl, rfl, _, _, rfl, ⟨by decide, by decide, by rw [List.length_map]; omega, by rw [List.length_map]; omega⟩, ?_⟩
      have eN : (((hs.map fun g => V.ref g.q).length : Int) + 1 - 1).toNat = hs.length := by rw [List.length_map]; omega
      rw [eN]
      refine for_range (lo := 1) (n := hs.length) (fun m σ H' => ∃ (v8 : Option V) (fs' : List (Addr × List Li)), σ = [some (.ref l), some (.ref f), some (.ref d), some (.str g.nm), some (.str g.pa), some (.str g.un), some (.ref g.a), some (.ref p), v8] ∧ MoJ N H f d gs es i m hs p H' fs') ⟨_, fs, rfl, ⟨I.s, I.f0, I.ro, I.fo, r1, I.n, I.all, fun k k1 k2 => absurd k1 (by omega)⟩⟩ ?_ ?_
      · rintro m σ H2 hm ⟨v8', fs', rfl, J⟩
        exact ⟨d, f, p, i, m, _, _, _, _, hs, es, fs', rfl, hm, by omega, J, fun H'' fs'' J' => ⟨_, fs'', rfl, J'⟩⟩
      · rintro σ H2 ⟨v8', fs', rfl, J⟩
        refine kn H2 fs' _ _ ⟨J.s, J.f0, J.ro, J.fo, by have := J.n; omega, fun j c hj ecj => ?_⟩
        by_cases cj : j < i
        · exact J.all j c cj ecj
        · have : j = i := by omega
          subst this
          rw [ec] at ecj
          cases ecj
          rw [← ev]
          by_cases c0 : hs = []
          · rw [c0]
            exact J.fo.z
          · have := J.pre hs.length (List.length_pos_iff.mpr c0) (Nat.le_refl _)
            rwa [List.take_length] at this
    refine ⟨by show 0 ≤ sizeLine; decide, fun p0 hp0 => ⟨by show 1 ≤ sizeLine; decide, fun f0 hf0 => ?_⟩⟩
    have s1 := Same.upd (o := .tup []) hp0
    have p1 : upd H p0 (.tup []) p0 = some (.tup []) := upd_same
    have f00 := none_of s1 hf0
    generalize upd H p0 (.tup []) = H1 at s1 p1 hf0 ⊢
    have s2 := Same.upd (o := .lst [.ref p0]) hf0
    have f2 : upd H1 f0 (.lst [.ref p0]) f0 = some (.lst [.ref p0]) := upd_same
    generalize upd H1 f0 (.lst [.ref p0]) = H2 at s2 f2 ⊢
    refine ⟨_, rfl, l, gs, n, rfl, hl.same (s1.trans s2), good, n1, n2, fun d H3 es s3 ro => ⟨_, _, rfl, ?_⟩⟩
    rw [← hN] at ro
    have s13 := s1.trans (s2.trans s3)
    have mo0 : MoI N H f0 d gs es 0 H3 [(p0, [])] := ⟨s13, f00, ro, ⟨s3 _ _ f2, fun z hz => by
      rw [List.mem_singleton] at hz
      subst hz
      exact ⟨s3 _ _ (s2 _ _ p1), (fun g hg => by cases hg), Nat.zero_le _⟩, List.mem_singleton.mpr rfl⟩, by show 1 ≤ 1 + 0 * 41; decide, fun j c hj => absurd hj (Nat.not_lt_zero _)⟩
    refine ⟨_, rfl, l, rfl, ⟨_, SqL.of (s13 _ _ hl.l)⟩, for_list (K := K) (a := l) (xs := gs.map fun g => V.ref g.q) (fun i σ H' => ∃ (v3 v4 v5 v6 v7 v8 : Option V) (fs : List (Addr × List Li)), σ = [some (.ref l), some (.ref f0), some (.ref d), v3, v4, v5, v6, v7, v8] ∧ MoI N H f0 d gs es i H' fs) ⟨_, _, _, _, _, _, _, rfl, mo0⟩ (fun i σ H' _ ⟨_, _, _, _, _, _, _, _, I⟩ => SqL.of (I.s _ _ hl.l)) ?_ ?_⟩
    · rintro i x σ H4 hx ⟨v3, v4, v5, v6, v7, v8, fs, rfl, I⟩
      obtain ⟨g, eg, rfl⟩ := map_at hx
      have c1 := I.s _ _ (hl.ok g (List.mem_of_getElem? eg)).1
      exact ⟨g.q, _, rfl, SqT.of c1, rfl, _, _, rfl, _, _, rfl, _, _, rfl, _, _, rfl, rfl, d, f0, i, g, es, fs, v7, v8, rfl, eg, I, fun H'' fs' v7 v8 I' => ⟨_, _, _, _, _, _, fs', rfl, I'⟩⟩
    · rintro σ H4 ⟨v3, v4, v5, v6, v7, v8, fs, rfl, I⟩
      rw [List.length_map] at I
      have h14 := hl.n
      have hfs := I.n
      refine ⟨_, rfl, k f0 _ H4 I.s I.fo.l (by rw [List.length_map]; omega) ?_⟩
      rw [List.length_map, ← List.length_map (f := fun z : Addr × List Li => lrv z.2) (as := fs)]
      refine M04.rows_few good I.fo.z fun j c ecj => I.all j c ?_ ecj
      have := (List.getElem?_eq_some_iff.mp ecj).1
      rwa [List.length_map] at this
end
end K13
set_option Elab.async false
set_option linter.all false
set_option maxRecDepth 100000
set_option maxHeartbeats 1000000
set_option exponentiation.threshold 100000
namespace K13
open PySem PySem.Spec PyProof.Rows L2 Fa Fb
/-! ### labels -/
abbrev cl (z : Str) : List Nat := z.cps.toList
theorem let_list : cl LET = List.range' 97 26 := by decide +kernel
theorem dig_list : cl DIG = List.range' 48 10 := by decide +kernel
theorem mem_let {c : Nat} : c ∈ cl LET ↔ 97 ≤ c ∧ c < 123 := by
  rw [let_list, List.mem_range'_1]
theorem mem_dig {c : Nat} : c ∈ cl DIG ↔ 48 ≤ c ∧ c < 58 := by
  rw [dig_list, List.mem_range'_1]
theorem cl_app (a b : Str) : cl (a ++ b) = cl a ++ cl b := by
  show (a.cps ++ b.cps).toList = _
  simp
theorem cl_ext {a b : Str} (h : cl a = cl b) : a = b := by
  cases a
  cases b
  congr 1
  exact Array.toList_inj.mp h
theorem len_cl (z : Str) : z.length = (cl z).length := by
  show z.cps.size = _
  simp
def Low (c : Nat) : Prop := 97 ≤ c ∧ c < 123
def Dg (c : Nat) : Prop := 48 ≤ c ∧ c < 58
theorem isName_of {z : Str} {c : Nat} {r : List Nat} (h : cl z = c :: r) (l : Low c) (a : ∀ x ∈ r, Low x ∨ Dg x) (n : r.length ≤ 7) : isName z = true := by
  unfold isName
  have h1 : z.length = r.length + 1 := by rw [len_cl, h]; rfl
  have h' : z.cps.toList = c :: r := h
  rw [h1, decide_eq_true (by omega), decide_eq_true (by omega), h']
  show (true && true && (decide (c ∈ LET.cps.toList) && only z (LET ++ DIG))) = true
  rw [decide_eq_true (mem_let.mpr l)]
  show only z (LET ++ DIG) = true
  unfold only
  rw [h', List.all_eq_true]
  intro x hx
  refine decide_eq_true ?_
  show x ∈ cl (LET ++ DIG)
  rw [cl_app, List.mem_append, mem_let, mem_dig]
  rcases List.mem_cons.mp hx with e | m
  · rw [e]; exact .inl l
  · exact a x m
theorem isName_str {z : Str} (h : isName z = true) : PyData.strOk z = true := by
  unfold isName at h
  rw [Bool.and_eq_true, Bool.and_eq_true] at h
  have h2 := h.2
  rw [Bool.and_eq_true] at h2
  have o := h2.2
  unfold only at o
  rw [List.all_eq_true] at o
  unfold PyData.strOk
  rw [← Array.all_toList, List.all_eq_true]
  intro x hx
  have := of_decide_eq_true (o x hx)
  have this : x ∈ cl (LET ++ DIG) := this
  rw [cl_app, List.mem_append, mem_let, mem_dig] at this
  exact decide_eq_true (by omega)
/-- names of cues: valid, no two the same, none of two words -/
structure Lb (zs : List Str) : Prop where
  nd : zs.Nodup
  ok : ∀ z ∈ zs, isName z = true ∧ z ≠ "start" ∧ z ≠ "zz9zz"
theorem lb_of {f : Nat → Str} (inj : ∀ j k, j < k → k < 6 → f j ≠ f k) (ok : ∀ k, k < 6 → isName (f k) = true ∧ f k ≠ "start" ∧ f k ≠ "zz9zz") : Lb ((List.range 6).map f) := by
  refine ⟨?_, fun z hz => ?_⟩
  · refine List.pairwise_map.mpr (List.Pairwise.imp_of_mem ?_ List.pairwise_lt_range)
    intro j k hj hk lt
    exact inj j k lt (List.mem_range.mp hk)
  · obtain ⟨k, hk, rfl⟩ := List.mem_map.mp hz
    exact ok k (List.mem_range.mp hk)
def sg (k : Nat) : Str := Str.ofString (toString (k : Int))
theorem sg_dig : ∀ k, k < 6 → (∀ x ∈ cl (sg k), Dg x) ∧ (cl (sg k)).length ≤ 2 ∧ cl (sg k) ≠ [] := by
  have h : ∀ k, k < 6 → ((cl (sg k)).all fun x => decide (48 ≤ x) && decide (x < 58)) = true ∧ (cl (sg k)).length ≤ 2 ∧ cl (sg k) ≠ [] := by decide +kernel
  intro k hk
  obtain ⟨a, b⟩ := h k hk
  refine ⟨fun x hx => ?_, b⟩
  have := List.all_eq_true.mp a x hx
  rw [Bool.and_eq_true] at this
  exact ⟨of_decide_eq_true this.1, of_decide_eq_true this.2⟩
theorem sg_inj : ∀ j k, j < 6 → k < 6 → cl (sg j) = cl (sg k) → j = k := by
  have h : ∀ j, j < 6 → ∀ k, k < 6 → cl (sg j) = cl (sg k) → j = k := by decide +kernel
  intro j k hj hk
  exact h j hj k hk
theorem low_dig {l : List Nat} (h : ∀ x ∈ l, Low x) : l.filter (fun x => decide (x < 58)) = [] := by
  rw [List.filter_eq_nil_iff]
  intro x hx
  have := h x hx
  unfold Low at this
  simp
  omega
theorem dig_dig {l : List Nat} (h : ∀ x ∈ l, Dg x) : l.filter (fun x => decide (x < 58)) = l := by
  rw [List.filter_eq_self]
  intro x hx
  have := h x hx
  unfold Dg at this
  exact decide_eq_true (by omega)
/-- letters, then a number -/
theorem lb_num {f : Nat → Str} (pre : Nat → List Nat) (h : ∀ k, k < 6 → cl (f k) = pre k ++ cl (sg k)) (lo : ∀ k, k < 6 → ∀ x ∈ pre k, Low x) (n : ∀ k, k < 6 → 1 ≤ (pre k).length ∧ (pre k).length ≤ 6) : Lb ((List.range 6).map f) := by
  have fl : ∀ k, k < 6 → (cl (f k)).filter (fun x => decide (x < 58)) = cl (sg k) := fun k hk => by
    rw [h k hk, List.filter_append, low_dig (lo k hk), dig_dig (sg_dig k hk).1]
    rfl
  refine lb_of (fun j k lt hk e => ?_) fun k hk => ?_
  · have := fl j (by omega)
    rw [e, fl k hk] at this
    have := sg_inj k j hk (by omega) this
    omega
  · obtain ⟨d1, d2, d3⟩ := sg_dig k hk
    obtain ⟨n1, n2⟩ := n k hk
    refine ⟨?_, fun e => ?_, fun e => ?_⟩
    · cases ep : pre k with
      | nil => rw [ep] at n1; exact absurd n1 (by decide)
      | cons c r =>
        have l := lo k hk
        rw [ep] at l n2
        refine isName_of (z := f k) (by rw [h k hk, ep]; rfl) (l c List.mem_cons_self) (fun x hx => ?_) ?_
        · rcases List.mem_append.mp hx with hx | hx
          · exact .inl (l x (List.mem_cons_of_mem _ hx))
          · exact .inr (d1 x hx)
        · show (r ++ cl (sg k)).length ≤ 7
          rw [List.length_append]
          rw [List.length_cons] at n2
          omega
    · have := fl k hk
      rw [e] at this
      exact d3 (this.symm.trans (by decide +kernel))
    · have := h k hk
      rw [e] at this
      have l1 : (cl (sg k)).getLast? = some 122 := by
        have e2 : (cl ("zz9zz" : Str)).getLast? = some 122 := by decide +kernel
        rw [this, List.getLast?_append] at e2
        cases ez : (cl (sg k)).getLast? with
        | none => exact absurd (List.getLast?_eq_none_iff.mp ez) d3
        | some v => rw [ez] at e2; exact e2
      have := d1 122 (List.mem_of_getLast? l1)
      unfold Dg at this
      omega
/-- letters, one of which is another each time -/
theorem lb_let {f : Nat → Str} {a b : List Nat} {s : Nat} (h : ∀ k, k < 6 → cl (f k) = a ++ (97 + (s + k) % 26) :: b) (la : ∀ x ∈ a, Low x) (lb : ∀ x ∈ b, Low x) (n : a.length + b.length = 0 ∨ a.length + b.length = 6) : Lb ((List.range 6).map f) := by
  refine lb_of (fun j k lt hk e => ?_) fun k hk => ?_
  · have h1 := h j (by omega)
    rw [e, h k hk] at h1
    have h2 := List.append_cancel_left h1
    have h3 := (List.cons.inj h2).1
    omega
  · have lm : Low (97 + (s + k) % 26) := ⟨by omega, by omega⟩
    have all : ∀ x ∈ a ++ (97 + (s + k) % 26) :: b, Low x := fun x hx => by
      rcases List.mem_append.mp hx with hx | hx
      · exact la x hx
      · rcases List.mem_cons.mp hx with e | m
        · rw [e]; exact lm
        · exact lb x m
    have len : (cl (f k)).length = a.length + b.length + 1 := by
      rw [h k hk, List.length_append, List.length_cons]
      omega
    refine ⟨?_, fun e => ?_, fun e => ?_⟩
    · have hk' := h k hk
      cases el : a ++ (97 + (s + k) % 26) :: b with
      | nil => simp at el
      | cons c r =>
        rw [el] at all hk'
        rw [hk', List.length_cons] at len
        refine isName_of hk' (all c List.mem_cons_self) (fun x hx => .inl (all x (List.mem_cons_of_mem _ hx))) (by omega)
    · rw [e] at len
      have : (cl ("start" : Str)).length = 5 := by decide +kernel
      omega
    · rw [e] at len
      have : (cl ("zz9zz" : Str)).length = 5 := by decide +kernel
      omega
end K13
set_option Elab.async false
set_option linter.all false
set_option maxRecDepth 100000
set_option maxHeartbeats 1000000
set_option exponentiation.threshold 100000
namespace K13
open PySem PySem.Spec PyProof.Rows L2 Fa Fb
abbrev sLab : Stmt := top 62
theorem scLab : FnScope ["_law_box_here", "_law_many", "_law_letters", "_law_spot", "_law_way", "_law_stem", "_law_at", "_law_k"] ["_law_box_here", "_law_many"] (defScope sLab) := ⟨rfl, rfl, rfl, by decide +kernel, rfl, by decide +kernel, by decide +kernel⟩
/-- draws: the box has moved on, what is no list stays, new lists are new -/
def spLab : Sp := fun vs H Q _ => ∃ (p : Addr) (n : Nat), vs = [.ref p, .int 6] ∧ Box H p n ∧ n + 9 ≤ 1000000 ∧ ∀ l zs H', Kp p H H' → Box H' p (n + 9) → Lb zs → zs.length = 6 → H' l = some (.lst (zs.map V.str)) → l ≠ p → H l = none → Q (.ref l) H'
theorem joinL_ones : ∀ cs : List Nat, TL.joinL [] (cs.map fun c => [c]) = cs
  | [] => rfl
  | [c] => rfl
  | c :: d :: r => by
    have ih := joinL_ones (d :: r)
    show [c] ++ ([] ++ TL.joinL [] ((d :: r).map fun c => [c])) = _
    rw [ih]
    rfl
theorem cl_join (cs : List Nat) : cl (Txt.join "" (cs.map fun c => (⟨#[c]⟩ : Str))) = cs := by
  have e := eq_of_beq (join_plain_closes "" (cs.map fun c => (⟨#[c]⟩ : Str)))
  rw [e]
  show TL.tl (Str.join _ _) = cs
  rw [TL.tl_join, List.map_map]
  exact joinL_ones cs
theorem let_at {z : Int} (h0 : 0 ≤ z) (h1 : z < 26) : atI (Str.cps LET).toList z = some (97 + z.toNat) := by
  obtain ⟨i, rfl⟩ := Int.eq_ofNat_of_zero_le h0
  refine atI_nat ?_
  show (cl LET)[i]? = _
  rw [let_list, List.getElem?_range' (by omega)]
  simp
theorem cut_to {z : Str} {m : Nat} (h : m ≤ (cl z).length) : cl (cutS z none (some (m : Int))) = (cl z).take m := by
  have hl := len_cl z
  have e : HT.sIx z.length z.length (some (m : Int)) = m := by
    show (if (m : Int) < 0 then ((m : Int) + (z.length : Int)).toNat else min (m : Int).toNat z.length) = m
    rw [if_neg (by omega)]
    omega
  show (List.take (HT.sIx z.length z.length (some (m : Int)) - 0) (List.drop 0 z.cps.toList)).toArray.toList = _
  rw [e, List.drop_zero, Nat.sub_zero]
theorem cut_from {z : Str} {m : Nat} (h : m ≤ (cl z).length) : cl (cutS z (some (m : Int)) none) = (cl z).drop m := by
  have hl := len_cl z
  have e : HT.sIx z.length 0 (some (m : Int)) = m := by
    show (if (m : Int) < 0 then ((m : Int) + (z.length : Int)).toNat else min (m : Int).toNat z.length) = m
    rw [if_neg (by omega)]
    omega
  show (List.take (z.length - HT.sIx z.length 0 (some (m : Int))) (List.drop (HT.sIx z.length 0 (some (m : Int))) z.cps.toList)).toArray.toList = _
  rw [e]
  show List.take (z.length - m) (List.drop m (cl z)) = _
  rw [List.take_of_length_le (by rw [List.length_drop]; omega)]
theorem lc_pure {te : TE} {f : Nat → Str} {p : Addr} {v2 v3 v4 v5 v6 : Option V} {H : Hp} {Qd : VK}
    (h : ∀ k, k < 6 → ∀ H', Same H H' → ∀ Q' : VK, (∀ H'', Same H' H'' → Q' (.str (f k)) H'') → te [some (.ref p), some (.int 6), v2, v3, v4, v5, v6, some (.int (k : Int))] H' Q')
    (fin : ∀ D H', Same H H' → H D = none → H' D = some (.lst (((List.range 6).map f).map V.str)) → Qd (.ref D) H') :
    tLc (iRng1 (tCons (tVar 1) tNil)) (gName 7) tYes te [7] [some (.ref p), some (.int 6), v2, v3, v4, v5, v6, none] H Qd := by
  refine ⟨_, rfl, 6, rfl, by decide, by decide, fun D hD => ?_⟩
  refine lc_range (lo := 0) (n := 6) (fun i H' => Same H H' ∧ H' D = some (.lst (((List.range i).map f).map V.str))) ⟨Same.upd hD, upd_same⟩ ?_ ?_
  · rintro i H1 hi ⟨s1, ha⟩
    rw [Int.zero_add]
    refine ⟨rfl, h i hi H1 s1 _ fun H2 s2 => ⟨_, s2 _ _ ha, ?_, same_put (s1.trans s2) hD, ?_⟩⟩
    · rw [List.length_map, List.length_map, List.length_range]
      exact Nat.lt_of_lt_of_le (show i < 100 by omega) (by decide)
    · rw [upd_same, List.range_succ, List.map_append, List.map_append]
      rfl
  · rintro H1 ⟨s1, ha⟩
    exact fin D H1 s1 hD ha
section
variable {P : Program} {w : World} {K : PySem.W.Frag} {mg : Str → Option Value} {base : Heap} {f fT : Addr} {fd fdT : FuncData}
theorem ok_lab (F : FnP K "_law_labels" sLab f fd) (mG : mg "range" = none) (mS : mg "str" = none) (GT : Fn0 P w K mg base "_law_take" 1 ["_law_box_here", "_law_many"] spTake fT fdT) : FnOk P w K mg base (L2.CX P w) 2 f fd ["_law_box_here", "_law_many"] spLab := by
  refine F.ok scLab (fun vs H Q E h => ?_) (fun cdv A outer s H vs Q E hr h => ?_)
  · obtain ⟨p, n, rfl, _⟩ := h
    rfl
  · obtain ⟨p, n, rfl, hb, hn, k⟩ := h
    have hr1 := hr.mono (show 1 ≤ 1 by decide)
    refine ⟨_, (pss_cons (ps_set (i := 2) scLab.nd rfl (Or.inr rfl) pe_str)
      (pss_cons (ps_asg (pe_tup (pa_cons (pe_call GT.ok hr1 rfl GT.g GT.k GT.b .nil pass0 (pa_cons (pv 0) (pa_cons pe_int pa_nil))) (pa_cons (pe_call GT.ok hr1 rfl GT.g GT.k GT.b .nil pass0 (pa_cons (pv 0) (pa_cons pe_int pa_nil))) pa_nil))) (pg_tup (by rfl) (pgs_cons (pg_name (i := 3) scLab.nd rfl (Or.inr rfl)) (pgs_cons (pg_name (i := 4) scLab.nd rfl (Or.inl rfl)) pgs_nil))))
      (pss_cons (ps_set (i := 5) scLab.nd rfl (Or.inr rfl) (pe_join pe_str (pe_lc (own := [("_law_k", 7)]) (g := gName 7)  (by rfl) scLab.nd (pi_range1 rfl mG (pa_cons pe_int pa_nil)) (blkOk_by (own := [("_law_k", 7)]) (N := ["_law_box_here", "_law_many", "_law_letters", "_law_spot", "_law_way", "_law_stem", "_law_at", "_law_k"]) (sc := defScope sLab) (by decide +kernel)) (fun _ _ _ _ _ => (pg_name (i := 7) scLab.nd rfl (Or.inl rfl))) (fun _ _ _ _ _ => pts_nil) (fun _ _ _ _ _ => (pe_ix ix_str (pv 2) (pe_call GT.ok hr1 rfl GT.g GT.k GT.b .nil pass0 (pa_cons (pv 0) (pa_cons pe_int pa_nil))) (fun _ _ => rfl))))))
      (pss_cons (ps_if (pt_cmpR op_eq (pv 4) pe_int (nomark _)) (pss_one (ps_ret (pe_lc (own := [("_law_k", 7)]) (g := gName 7)  (by rfl) scLab.nd (pi_range1 rfl mG (pa_cons (pv 1) pa_nil)) (blkOk_by (own := [("_law_k", 7)]) (N := ["_law_box_here", "_law_many", "_law_letters", "_law_spot", "_law_way", "_law_stem", "_law_at", "_law_k"]) (sc := defScope sLab) (by decide +kernel)) (fun _ _ _ _ _ => (pg_name (i := 7) scLab.nd rfl (Or.inl rfl))) (fun _ _ _ _ _ => pts_nil) (fun _ _ _ _ _ => (pe_ix ix_str (pv 2) (pe_op op_mod (pe_op op_add (pv 3) (pv 7)) pe_int) (fun _ _ => rfl)))))) pss_nil)
      (pss_cons (ps_if (pt_cmpR op_eq (pv 4) pe_int (nomark _)) (pss_one (ps_ret (pe_lc (own := [("_law_k", 7)]) (g := gName 7)  (by rfl) scLab.nd (pi_range1 rfl mG (pa_cons (pv 1) pa_nil)) (blkOk_by (own := [("_law_k", 7)]) (N := ["_law_box_here", "_law_many", "_law_letters", "_law_spot", "_law_way", "_law_stem", "_law_at", "_law_k"]) (sc := defScope sLab) (by decide +kernel)) (fun _ _ _ _ _ => (pg_name (i := 7) scLab.nd rfl (Or.inl rfl))) (fun _ _ _ _ _ => pts_nil) (fun _ _ _ _ _ => (pe_op op_add_str (pe_ix (r := rIxL K) ix_list (pe_lst (pa_cons pe_str (pa_cons pe_str (pa_cons pe_str (pa_cons pe_str pa_nil))))) (pe_op op_mod (pv 3) pe_int) (fun _ _ => rfl)) (pe_callTy call_str_int rfl mS boot_str (pa_cons (pv 7) pa_nil))))))) pss_nil)
      (pss_cons (ps_set (i := 6) scLab.nd rfl (Or.inr rfl) (pe_op op_mod (pv 3) pe_int))
      (pss_cons (ps_if (pt_cmpR op_eq (pv 4) pe_int (nomark _)) (pss_one (ps_ret (pe_lc (own := [("_law_k", 7)]) (g := gName 7)  (by rfl) scLab.nd (pi_range1 rfl mG (pa_cons (pv 1) pa_nil)) (blkOk_by (own := [("_law_k", 7)]) (N := ["_law_box_here", "_law_many", "_law_letters", "_law_spot", "_law_way", "_law_stem", "_law_at", "_law_k"]) (sc := defScope sLab) (by decide +kernel)) (fun _ _ _ _ _ => (pg_name (i := 7) scLab.nd rfl (Or.inl rfl))) (fun _ _ _ _ _ => pts_nil) (fun _ _ _ _ _ => (pe_op op_add_str (pe_slice sl_str (pv 5) po_none (po_some (pe_op op_add pe_int (pe_op op_mod (pv 7) pe_int)))) (pe_callTy call_str_int rfl mS boot_str (pa_cons (pv 7) pa_nil))))))) pss_nil)
      (pss_one (ps_ret (pe_lc (own := [("_law_k", 7)]) (g := gName 7)  (by rfl) scLab.nd (pi_range1 rfl mG (pa_cons (pv 1) pa_nil)) (blkOk_by (own := [("_law_k", 7)]) (N := ["_law_box_here", "_law_many", "_law_letters", "_law_spot", "_law_way", "_law_stem", "_law_at", "_law_k"]) (sc := defScope sLab) (by decide +kernel)) (fun _ _ _ _ _ => (pg_name (i := 7) scLab.nd rfl (Or.inl rfl))) (fun _ _ _ _ _ => pts_nil) (fun _ _ _ _ _ => (pe_op op_add_str (pe_op op_add_str (pe_slice sl_str (pv 5) po_none (po_some (pv 6))) (pe_ix ix_str (pv 2) (pe_op op_mod (pe_op op_add (pv 3) (pv 7)) pe_int) (fun _ _ => rfl))) (pe_slice sl_str (pv 5) (po_some (pe_op op_add (pv 6) pe_int)) po_none))))))))))))), ?_⟩
    refine ⟨_, rfl, p, 26, n, rfl, hb, by omega, by decide, by decide, fun z1 H1 z10 z11 b1 k1 => ?_⟩
    refine ⟨_, rfl, p, 4, _, rfl, b1, by omega, by decide, by decide, fun z2 H2 z20 z21 b2 k2 => ?_⟩
    refine ⟨by show 2 ≤ sizeLine; decide, fun t0 ht0 => ⟨t0, _, rfl, SqT.of upd_same, rfl, _, _, rfl, _, _, rfl, rfl, ?_⟩⟩
    have k12 : Kp p H H2 := (Kp.but k1).trans (Kp.but k2)
    have k3 := k12.put (o := .tup [.int z1, .int z2]) (k12.no (b2.ne ht0).symm ht0)
    have b3 := b2.upd (o := .tup [.int z1, .int z2]) ht0
    generalize upd H2 t0 (.tup [.int z1, .int z2]) = H3 at k3 b3 ⊢
    refine ⟨⟨_, rfl⟩, 7, rfl, by decide, by decide, fun D hD => ?_⟩
    have Dp : D ≠ p := (b3.ne hD).symm
    refine lc_range (lo := 0) (n := 7) (fun i H' => Kp p H H' ∧ Box H' p (n + 2 + i) ∧ ∃ cs : List Nat, cs.length = i ∧ (∀ c ∈ cs, Low c) ∧ H' D = some (.lst (cs.map fun c => V.str ⟨#[c]⟩))) ⟨k3.trans (Kp.same (Same.upd hD)), b3.upd hD, [], rfl, (fun c hc => by cases hc), upd_same⟩ ?_ ?_
    · rintro i H4 hi ⟨k4, b4, cs, hcs, lo, ha⟩
      refine ⟨rfl, _, rfl, _, rfl, p, 26, _, rfl, b4, by omega, by decide, by decide, fun z H5 z0 z9 b5 k5 => ?_⟩
      have ha5 : H5 D = some (.lst (cs.map fun c => V.str ⟨#[c]⟩)) := by rw [k5 D Dp]; exact ha
      refine ⟨LET, z, 97 + z.toNat, rfl, rfl, by decide, let_at z0 z9, _, ha5, ?_, ?_, b5.put Dp, cs ++ [97 + z.toNat], by rw [List.length_append, hcs]; rfl, fun c hc => ?_, by rw [upd_same, List.map_append]; rfl⟩
      · rw [List.length_map, hcs]
        exact Nat.lt_of_lt_of_le (show i < 100 by omega) (by decide)
      · exact (k4.trans (Kp.but k5)).put (k3.no Dp hD)
      · rcases List.mem_append.mp hc with hc | hc
        · exact lo c hc
        · rw [List.mem_singleton] at hc
          rw [hc]
          exact ⟨by omega, by omega⟩
    · rintro H4 ⟨k4, b4, cs, hcs, lo, ha⟩
      refine ⟨_, D, cs.map fun c => ⟨#[c]⟩, rfl, rfl, .inl (SqL.of (by rw [ha, List.map_map]; rfl)), ?_, ?_⟩
      · have : ∀ cs : List Nat, ((cs.map fun c => (⟨#[c]⟩ : Str)).map fun x => x.length).sum = cs.length := fun cs => by
          induction cs with
          | nil => rfl
          | cons c r ih =>
            rw [List.map_cons, List.map_cons, List.sum_cons, ih, List.length_cons]
            show 1 + _ = _
            omega
        rw [this, hcs, List.length_map, hcs]
        decide
      · have eS := cl_join cs
        generalize Txt.join "" (cs.map fun c => (⟨#[c]⟩ : Str)) = S at eS
        have lS : (cl S).length = 7 := by rw [eS, hcs]
        rw [← eS] at lo
        clear ha hcs eS
        have fin : ∀ zs, Lb zs → zs.length = 6 → ∀ D' H', Same H4 H' → H4 D' = none → H' D' = some (.lst (zs.map V.str)) → Q (.ref D') H' := fun zs lb hz D' H' s' hD' ha' => by
          refine k D' zs H' (k4.trans (Kp.same s')) (b4.sm s') lb hz ha' (b4.ne hD').symm (k4.no (b4.ne hD').symm hD')
        have at26 : ∀ k : Nat, atI (Str.cps LET).toList ((z1 + (k : Int)) % 26) = some (97 + (z1.toNat + k) % 26) := fun k => by
          rw [let_at (by omega) (by omega)]
          congr 2
          omega
        have lg : ∀ k : Nat, k < 6 → (k : Int).natAbs.log2 < 1920 := fun k hk => by
          have h := Nat.log2_self_le (n := (k : Int).natAbs)
          by_cases c : (k : Int).natAbs = 0
          · rw [c]; decide
          · exact Nat.lt_of_lt_of_le ((Nat.log2_lt c).mpr (show (k : Int).natAbs < 2 ^ 4 by omega)) (by decide)
        have l11 : ∀ f : Nat → Str, ((List.range 6).map f).length = 6 := fun f => by rw [List.length_map, List.length_range]
        refine ⟨_, rfl, rfl, _, rfl, ?_⟩
        by_cases c0 : z2 = 0
        · refine if_true_of (decide_eq_true (by rw [c0])) ?_
          refine lc_pure (f := fun k => ⟨#[97 + (z1.toNat + k) % 26]⟩) (fun k hk H' s' Q' q' => ?_) (fin _ (lb_let (a := []) (b := []) (s := z1.toNat) (fun k hk => rfl) (fun x hx => by cases hx) (fun x hx => by cases hx) (.inl rfl)) (l11 _))
          exact ⟨_, rfl, _, rfl, _, rfl, _, _, rfl, rfl, _, _, rfl, rfl, (by show (0 : Int) < 26; decide), LET, _, _, rfl, rfl, by decide, at26 k, q' _ (Same.refl _)⟩
        refine if_false_of (decide_eq_false fun e => c0 (V.int.inj e)) ?_
        refine ⟨_, rfl, rfl, _, rfl, ?_⟩
        by_cases c1 : z2 = 1
        · refine if_true_of (decide_eq_true (by rw [c1])) ?_
          have eb : ∃ bs : Str, atI [V.str "g", .str "x", .str "beats", .str "s"] (z1 % 4) = some (.str bs) ∧ (∀ x ∈ cl bs, Low x) ∧ 1 ≤ (cl bs).length ∧ (cl bs).length ≤ 6 := by
            have h4 : ∀ bs : Str, ((cl bs).all fun x => decide (97 ≤ x) && decide (x < 123)) = true → ∀ x ∈ cl bs, Low x := fun bs h x hx => by
              have := List.all_eq_true.mp h x hx
              rw [Bool.and_eq_true] at this
              exact ⟨of_decide_eq_true this.1, of_decide_eq_true this.2⟩
            have c : z1 % 4 = 0 ∨ z1 % 4 = 1 ∨ z1 % 4 = 2 ∨ z1 % 4 = 3 := by omega
            rcases c with c | c | c | c <;> rw [c]
            · exact ⟨"g", rfl, h4 _ (by decide +kernel), by decide +kernel, by decide +kernel⟩
            · exact ⟨"x", rfl, h4 _ (by decide +kernel), by decide +kernel, by decide +kernel⟩
            · exact ⟨"beats", rfl, h4 _ (by decide +kernel), by decide +kernel, by decide +kernel⟩
            · exact ⟨"s", rfl, h4 _ (by decide +kernel), by decide +kernel, by decide +kernel⟩
          obtain ⟨bs, eb, bl, bn⟩ := eb
          refine lc_pure (f := fun k => bs ++ sg k) (fun k hk H' s' Q' q' => ?_) (fin _ (lb_num (fun _ => cl bs) (fun k hk => cl_app _ _) (fun k hk => bl) (fun k hk => bn)) (l11 _))
          refine ⟨by show 4 ≤ sizeLine; decide, fun l hl => ⟨_, rfl, _, _, rfl, rfl, (by show (0 : Int) < 4; decide), l, _, _, _, rfl, rfl, SqL.of upd_same, eb, _, rfl, (k : Int), rfl, lg k hk, bs, sg k, rfl, rfl, ?_, q' _ (Same.upd hl)⟩⟩
          rw [len_cl, len_cl]
          have := (sg_dig k hk).2.1
          exact Nat.le_trans (show (cl bs).length + (cl (sg k)).length ≤ 100 by omega) (by decide)
        refine if_false_of (decide_eq_false fun e => c1 (V.int.inj e)) ?_
        refine ⟨_, rfl, _, _, rfl, rfl, (by show (0 : Int) < 7; decide), ?_⟩
        refine ⟨_, rfl, rfl, _, rfl, ?_⟩
        have lSz : S.length ≤ sizeLine := by
          rw [len_cl, lS]
          decide
        by_cases c2 : z2 = 2
        · refine if_true_of (decide_eq_true (by rw [c2])) ?_
          have cc : ∀ k : Nat, cl (cutS S none (some (1 + (k : Int) % 6))) = (cl S).take (1 + k % 6) := fun k => by
            rw [show (1 + (k : Int) % 6) = ((1 + k % 6 : Nat) : Int) by omega]
            exact cut_to (by omega)
          refine lc_pure (f := fun k => cutS S none (some (1 + (k : Int) % 6)) ++ sg k) (fun k hk H' s' Q' q' => ?_) (fin _ (lb_num (fun k => (cl S).take (1 + k % 6)) (fun k hk => by rw [cl_app, cc]) (fun k hk x hx => lo x (List.mem_of_mem_take hx)) (fun k hk => by rw [List.length_take, lS]; omega)) (l11 _))
          refine ⟨_, rfl, _, rfl, _, _, rfl, rfl, (by show (0 : Int) < 6; decide), _, _, rfl, rfl, _, rfl, S, rfl, lSz, _, rfl, (k : Int), rfl, lg k hk, _, sg k, rfl, rfl, ?_, q' _ (Same.refl _)⟩
          rw [len_cl, len_cl, cc, List.length_take]
          have := (sg_dig k hk).2.1
          exact Nat.le_trans (show min (1 + k % 6) (cl S).length + (cl (sg k)).length ≤ 100 by omega) (by decide)
        · refine if_false_of (decide_eq_false fun e => c2 (V.int.inj e)) ?_
          obtain ⟨a, ea⟩ : ∃ a : Nat, z1 % 7 = (a : Int) := Int.eq_ofNat_of_zero_le (by omega)
          have a7 : a < 7 := by omega
          have t1 : cl (cutS S none (some (z1 % 7))) = (cl S).take a := by
            rw [ea]
            exact cut_to (by omega)
          have t2 : cl (cutS S (some (z1 % 7 + 1)) none) = (cl S).drop (a + 1) := by
            rw [ea, show ((a : Int) + 1) = ((a + 1 : Nat) : Int) by omega]
            exact cut_from (by omega)
          refine lc_pure (f := fun k => (cutS S none (some (z1 % 7)) ++ ⟨#[97 + (z1.toNat + k) % 26]⟩) ++ cutS S (some (z1 % 7 + 1)) none) (fun k hk H' s' Q' q' => ?_) (fin _ (lb_let (a := (cl S).take a) (b := (cl S).drop (a + 1)) (s := z1.toNat) (fun k hk => ?_) (fun x hx => lo x (List.mem_of_mem_take hx)) (fun x hx => lo x (List.mem_of_mem_drop hx)) (.inr (by rw [List.length_take, List.length_drop, lS]; omega))) (l11 _))
          · refine ⟨_, rfl, _, rfl, _, rfl, S, rfl, lSz, _, rfl, _, rfl, _, rfl, _, _, rfl, rfl, _, _, rfl, rfl, (by show (0 : Int) < 26; decide), LET, _, _, rfl, rfl, by decide, at26 k, _, _, rfl, rfl, ?_, _, rfl, _, rfl, _, _, rfl, rfl, _, rfl, S, rfl, lSz, _, _, rfl, rfl, ?_, q' _ (Same.refl _)⟩
            · rw [len_cl, len_cl, t1, List.length_take]
              show min a (cl S).length + 1 ≤ sizeLine
              exact Nat.le_trans (show min a (cl S).length + 1 ≤ 100 by omega) (by decide)
            · rw [len_cl, len_cl, cl_app, List.length_append, t1, t2, List.length_take, List.length_drop]
              show min a (cl S).length + 1 + ((cl S).length - (a + 1)) ≤ sizeLine
              exact Nat.le_trans (show min a (cl S).length + 1 + ((cl S).length - (a + 1)) ≤ 100 by omega) (by decide)
          · rw [cl_app, cl_app, t1, t2]
            show (cl S).take a ++ [_] ++ _ = _
            rw [List.append_assoc]
            rfl
end
end K13
set_option Elab.async false
set_option linter.all false
set_option maxRecDepth 100000
set_option maxHeartbeats 1000000
set_option exponentiation.threshold 100000
namespace K13
open PySem PySem.Spec PyProof.Rows L2 Fa Fb
abbrev sLam : Stmt := top 63
theorem scLam : FnScope ["_law_box_here", "_law_sign", "_law_way", "_law_plain", "_law_top", "_law_bottom"] ["_law_box_here"] (defScope sLam) := ⟨rfl, rfl, rfl, by decide +kernel, rfl, by decide +kernel, by decide +kernel⟩
def spLam : Sp := fun vs H Q _ => ∃ (p : Addr) (n : Nat), vs = [.ref p] ∧ Box H p n ∧ n + 7 ≤ 1000000 ∧ ∀ r t u H', Kp p H H' → Box H' p (n + 7) → Fr 20 H' r t u → Q (.ref r) H'
def Pq (H : Hp) (x : V) : Prop := ∃ (a : Addr) (t b : Int), x = .ref a ∧ H a = some (.tup [.int t, .int b]) ∧ t.natAbs < 1000000 ∧ 1 ≤ b ∧ b ≤ 1000
def Pqs (H : Hp) (xs : List V) : Prop := ∀ x ∈ xs, Pq H x
theorem Pqs.kp {H H' : Hp} {p : Addr} {n : Nat} {xs : List V} (h : Pqs H xs) (b : Box H p n) (k : Kp p H H') : Pqs H' xs := fun x hx => by
  obtain ⟨a, t, c, e, ha, r⟩ := h x hx
  refine ⟨a, t, c, e, k _ _ (fun z => ?_) ha, r⟩
  obtain ⟨_, _, _, hp, _⟩ := b
  rw [z, hp] at ha
  cases ha
theorem Pqs.add {H : Hp} {xs : List V} {a : Addr} {t b : Int} (h : Pqs H xs) (ha : H a = none) (h1 : t.natAbs < 1000000) (h2 : 1 ≤ b) (h3 : b ≤ 1000) : Pqs (upd H a (.tup [.int t, .int b])) (xs ++ [.ref a]) := fun x hx => by
  rcases List.mem_append.mp hx with hx | hx
  · obtain ⟨a', t', c, e, ha', r⟩ := h x hx
    exact ⟨a', t', c, e, Same.upd ha _ _ ha', r⟩
  · rw [List.mem_singleton] at hx
    exact ⟨a, t, b, hx, upd_same, h1, h2, h3⟩
theorem atI_in {α : Type} {xs : List α} {z : Int} (h0 : 0 ≤ z) (h1 : z < (xs.length : Int)) : ∃ v, atI xs z = some v ∧ v ∈ xs := by
  obtain ⟨j, rfl⟩ := Int.eq_ofNat_of_zero_le h0
  have hj : j < xs.length := by omega
  exact ⟨xs[j], atI_nat (List.getElem?_eq_getElem hj), List.getElem_mem hj⟩
section
variable {P : Program} {w : World} {K : PySem.W.Frag} {mg : Str → Option Value} {base : Heap} {f fT fL : Addr} {fd fdT fdL : FuncData}
theorem ok_lam (F : FnP K "_law_amount" sLam f fd) (GT : Fn0 P w K mg base "_law_take" 1 ["_law_box_here", "_law_many"] spTake fT fdT) (LO : Fn P w K mg base "_law_lowest" 1 ["_law_top", "_law_bottom"] spLow fL fdL) : FnOk P w K mg base (L2.CX P w) 2 f fd ["_law_box_here"] spLam := by
  refine F.ok scLam (fun vs H Q E h => ?_) (fun cdv A outer s H vs Q E hr h => ?_)
  · obtain ⟨p, n, rfl, _⟩ := h
    rfl
  · obtain ⟨p, n, rfl, hb, hn, k⟩ := h
    have hr1 := hr.mono (show 1 ≤ 1 by decide)
    refine ⟨_, (pss_cons (ps_par (by rfl) scLam.nd (i := 1) (j := 2) rfl rfl (by decide) rfl rfl (pa_cons (pe_ix ix_list (pe_lst (pa_cons pe_int (pa_cons pe_int (pa_cons (pe_op op_sub pe_int pe_int) pa_nil)))) (pe_call GT.ok hr1 rfl GT.g GT.k GT.b .nil pass0 (pa_cons (pv 0) (pa_cons pe_int pa_nil))) (fun _ _ => rfl)) (pa_cons (pe_call GT.ok hr1 rfl GT.g GT.k GT.b .nil pass0 (pa_cons (pv 0) (pa_cons pe_int pa_nil))) pa_nil)) (by rfl))
      (pss_cons (ps_set (i := 3) scLam.nd rfl (Or.inl rfl) (pe_lst (pa_cons (pe_tup (pa_cons pe_int (pa_cons pe_int pa_nil))) (pa_cons (pe_tup (pa_cons pe_int (pa_cons pe_int pa_nil))) (pa_cons (pe_tup (pa_cons pe_int (pa_cons pe_int pa_nil))) (pa_cons (pe_tup (pa_cons (pe_op op_add pe_int (pe_call GT.ok hr1 rfl GT.g GT.k GT.b .nil pass0 (pa_cons (pv 0) (pa_cons pe_int pa_nil)))) (pa_cons pe_int pa_nil))) (pa_cons (pe_tup (pa_cons (pe_op op_add pe_int (pe_call GT.ok hr1 rfl GT.g GT.k GT.b .nil pass0 (pa_cons (pv 0) (pa_cons pe_int pa_nil)))) (pa_cons (pe_op op_add pe_int (pe_call GT.ok hr1 rfl GT.g GT.k GT.b .nil pass0 (pa_cons (pv 0) (pa_cons pe_int pa_nil)))) pa_nil))) (pa_cons (pe_tup (pa_cons pe_int (pa_cons pe_int pa_nil))) pa_nil))))))))
      (pss_cons (ps_asg (pe_ix ix_list (pe_op op_cat (pv 3) (pe_lst (pa_cons (pe_tup (pa_cons pe_int (pa_cons pe_int pa_nil))) (pa_cons (pe_tup (pa_cons (pe_call GT.ok hr1 rfl GT.g GT.k GT.b .nil pass0 (pa_cons (pv 0) (pa_cons (pe_op op_pow pe_int pe_int) pa_nil))) (pa_cons (pe_op op_add pe_int (pe_call GT.ok hr1 rfl GT.g GT.k GT.b .nil pass0 (pa_cons (pv 0) (pa_cons pe_int pa_nil)))) pa_nil))) (pa_cons (pe_tup (pa_cons pe_int (pa_cons pe_int pa_nil))) pa_nil))))) (pv 2) (fun _ _ => rfl)) (pg_tup (by rfl) (pgs_cons (pg_name (i := 4) scLam.nd rfl (Or.inl rfl)) (pgs_cons (pg_name (i := 5) scLam.nd rfl (Or.inl rfl)) pgs_nil))))
      (pss_one (ps_ret (pe_call LO.ok hr1 rfl LO.g LO.k LO.b .nil passL (pa_cons (pe_op op_mulW (pv 1) (pv 4)) (pa_cons (pv 5) pa_nil)))))))), ?_⟩
    have e3 : ∀ z : Int, 0 ≤ z → z < 3 → ∃ sg : Int, atI [V.int 1, .int 1, .int (0 - 1)] z = some (.int sg) ∧ sg.natAbs = 1 := fun z h0 h1 => by
      have c : z = 0 ∨ z = 1 ∨ z = 2 := by omega
      rcases c with rfl | rfl | rfl
      · exact ⟨1, rfl, rfl⟩
      · exact ⟨1, rfl, rfl⟩
      · exact ⟨0 - 1, rfl, rfl⟩
    refine ⟨_, _, rfl, rfl, by show 3 ≤ sizeLine; decide, fun l0 hl0 => ?_⟩
    refine ⟨_, rfl, p, 3, n, rfl, hb.upd hl0, by omega, by decide, by decide, fun z1 Ha z10 z11 Ba k1 => ?_⟩
    obtain ⟨sg, es, hsg⟩ := e3 z1 z10 z11
    have l1 : Ha l0 = some (.lst [.int 1, .int 1, .int (0 - 1)]) := by
      rw [k1 l0 (hb.ne hl0).symm]
      exact upd_same
    refine ⟨l0, _, _, _, rfl, rfl, SqL.of l1, es, ?_⟩
    have Ka : Kp p H Ha := (Kp.same (Same.upd hl0)).trans (Kp.but k1)
    refine ⟨_, rfl, p, 9, _, rfl, Ba, by omega, by decide, by decide, fun zb Hb yb xb Bb kb => ⟨_, _, rfl, ?_⟩⟩
    have Kb := Ka.trans (Kp.but kb)
    have Pb : Pqs Hb [] := fun x hx => by cases hx
    refine ⟨by show 2 ≤ sizeLine; decide, fun qc hc => ?_⟩
    have Pc := Pb.add (t := 1) (b := 1) hc (by decide) (by decide) (by decide)
    have Kc := Kb.trans (Kp.same (Same.upd (o := .tup [.int (1), .int (1)]) hc))
    have Bc := Bb.upd (o := .tup [.int (1), .int (1)]) hc
    generalize upd Hb qc (.tup [.int (1), .int (1)]) = Hc at Pc Kc Bc ⊢
    refine ⟨by show 2 ≤ sizeLine; decide, fun qd hd => ?_⟩
    have Pd := Pc.add (t := 2) (b := 1) hd (by decide) (by decide) (by decide)
    have Kd := Kc.trans (Kp.same (Same.upd (o := .tup [.int (2), .int (1)]) hd))
    have Bd := Bc.upd (o := .tup [.int (2), .int (1)]) hd
    generalize upd Hc qd (.tup [.int (2), .int (1)]) = Hd at Pd Kd Bd ⊢
    refine ⟨by show 2 ≤ sizeLine; decide, fun qe he => ?_⟩
    have Pe := Pd.add (t := 1) (b := 2) he (by decide) (by decide) (by decide)
    have Ke := Kd.trans (Kp.same (Same.upd (o := .tup [.int (1), .int (2)]) he))
    have Be := Bd.upd (o := .tup [.int (1), .int (2)]) he
    generalize upd Hd qe (.tup [.int (1), .int (2)]) = He at Pe Ke Be ⊢
    refine ⟨_, rfl, p, 4, _, rfl, Be, by omega, by decide, by decide, fun zf Hf yf xf Bf kf => ?_⟩
    have Kf := Ke.trans (Kp.but kf)
    have Pf := Pe.kp Be (Kp.but kf)
    refine ⟨_, _, rfl, rfl, ?_⟩
    refine ⟨by show 2 ≤ sizeLine; decide, fun qg hg => ?_⟩
    have Pg := Pf.add (t := 1 + zf) (b := 1) hg (by omega) (by decide) (by decide)
    have Kg := Kf.trans (Kp.same (Same.upd (o := .tup [.int (1 + zf), .int (1)]) hg))
    have Bg := Bf.upd (o := .tup [.int (1 + zf), .int (1)]) hg
    generalize upd Hf qg (.tup [.int (1 + zf), .int (1)]) = Hg at Pg Kg Bg ⊢
    refine ⟨_, rfl, p, 9, _, rfl, Bg, by omega, by decide, by decide, fun zh Hh yh xh Bh kh => ?_⟩
    have Kh := Kg.trans (Kp.but kh)
    have Ph := Pg.kp Bg (Kp.but kh)
    refine ⟨_, _, rfl, rfl, ?_⟩
    refine ⟨_, rfl, p, 6, _, rfl, Bh, by omega, by decide, by decide, fun zi Hi yi xi Bi ki => ?_⟩
    have Ki := Kh.trans (Kp.but ki)
    have Pi := Ph.kp Bh (Kp.but ki)
    refine ⟨_, _, rfl, rfl, ?_⟩
    refine ⟨by show 2 ≤ sizeLine; decide, fun qj hj => ?_⟩
    have Pj := Pi.add (t := 1 + zh) (b := 1 + zi) hj (by omega) (by omega) (by omega)
    have Kj := Ki.trans (Kp.same (Same.upd (o := .tup [.int (1 + zh), .int (1 + zi)]) hj))
    have Bj := Bi.upd (o := .tup [.int (1 + zh), .int (1 + zi)]) hj
    generalize upd Hi qj (.tup [.int (1 + zh), .int (1 + zi)]) = Hj at Pj Kj Bj ⊢
    refine ⟨by show 2 ≤ sizeLine; decide, fun qk hk => ?_⟩
    have Pk := Pj.add (t := 0) (b := 1) hk (by decide) (by decide) (by decide)
    have Kk := Kj.trans (Kp.same (Same.upd (o := .tup [.int (0), .int (1)]) hk))
    have Bk := Bj.upd (o := .tup [.int (0), .int (1)]) hk
    generalize upd Hj qk (.tup [.int (0), .int (1)]) = Hk at Pk Kk Bk ⊢
    refine ⟨by show 6 ≤ sizeLine; decide, fun l1 hl1 => ?_⟩
    have nl1 : l1 ≠ p := (Bk.ne hl1).symm
    have Kl := Kk.trans (Kp.same (Same.upd (o := .lst [.ref qc, .ref qd, .ref qe, .ref qg, .ref qj, .ref qk]) hl1))
    have Bl := Bk.upd (o := .lst [.ref qc, .ref qd, .ref qe, .ref qg, .ref qj, .ref qk]) hl1
    have Pl := Pk.kp Bk (Kp.same (Same.upd (o := .lst [.ref qc, .ref qd, .ref qe, .ref qg, .ref qj, .ref qk]) hl1))
    have L1l : upd Hk l1 (.lst [.ref qc, .ref qd, .ref qe, .ref qg, .ref qj, .ref qk]) l1 = some (.lst [.ref qc, .ref qd, .ref qe, .ref qg, .ref qj, .ref qk]) := upd_same
    generalize upd Hk l1 (.lst [.ref qc, .ref qd, .ref qe, .ref qg, .ref qj, .ref qk]) = Hl at Pl Kl Bl L1l ⊢
    refine ⟨_, rfl, ?_⟩
    refine ⟨by show 2 ≤ sizeLine; decide, fun qm hm => ?_⟩
    have Pm := Pl.add (t := 1) (b := 1) hm (by decide) (by decide) (by decide)
    have Km := Kl.trans (Kp.same (Same.upd (o := .tup [.int (1), .int (1)]) hm))
    have Bm := Bl.upd (o := .tup [.int (1), .int (1)]) hm
    have L1m := Same.upd (o := .tup [.int (1), .int (1)]) hm _ _ L1l
    generalize upd Hl qm (.tup [.int (1), .int (1)]) = Hm at Pm Km Bm L1m ⊢
    refine ⟨_, rfl, _, _, rfl, rfl, ⟨by decide, by decide, by decide⟩, p, _, _, rfl, Bm, by omega, by decide, by decide, fun zn Hn yn xn Bn kn => ?_⟩
    have Kn := Km.trans (Kp.but kn)
    have Pn := Pm.kp Bm (Kp.but kn)
    have L1n := (kn l1 nl1).trans L1m
    refine ⟨_, rfl, p, 1000, _, rfl, Bn, by omega, by decide, by decide, fun zo Ho yo xo Bo ko => ?_⟩
    have Ko := Kn.trans (Kp.but ko)
    have Po := Pn.kp Bn (Kp.but ko)
    have L1o := (ko l1 nl1).trans L1n
    refine ⟨_, _, rfl, rfl, ?_⟩
    refine ⟨by show 2 ≤ sizeLine; decide, fun qq hq => ?_⟩
    have Pq := Po.add (t := zn) (b := 1 + zo) hq (by have : zn < 10 ^ 6 := xn; omega) (by omega) (by omega)
    have Kq := Ko.trans (Kp.same (Same.upd (o := .tup [.int (zn), .int (1 + zo)]) hq))
    have Bq := Bo.upd (o := .tup [.int (zn), .int (1 + zo)]) hq
    have L1q := Same.upd (o := .tup [.int (zn), .int (1 + zo)]) hq _ _ L1o
    generalize upd Ho qq (.tup [.int (zn), .int (1 + zo)]) = Hq at Pq Kq Bq L1q ⊢
    refine ⟨by show 2 ≤ sizeLine; decide, fun qr hr => ?_⟩
    have Pr := Pq.add (t := 3) (b := 2) hr (by decide) (by decide) (by decide)
    have Kr := Kq.trans (Kp.same (Same.upd (o := .tup [.int (3), .int (2)]) hr))
    have Br := Bq.upd (o := .tup [.int (3), .int (2)]) hr
    have L1r := Same.upd (o := .tup [.int (3), .int (2)]) hr _ _ L1q
    generalize upd Hq qr (.tup [.int (3), .int (2)]) = Hr at Pr Kr Br L1r ⊢
    refine ⟨by show 3 ≤ sizeLine; decide, fun l2 hl2 => ?_⟩
    have s9 := Same.upd (o := .lst [.ref qm, .ref qq, .ref qr]) hl2
    have Ks := Kr.trans (Kp.same s9)
    have Bs := Br.upd (o := .lst [.ref qm, .ref qq, .ref qr]) hl2
    have Ps := Pr.kp Br (Kp.same s9)
    have L1s := s9 _ _ L1r
    have L2s : upd Hr l2 (.lst [.ref qm, .ref qq, .ref qr]) l2 = some (.lst [.ref qm, .ref qq, .ref qr]) := upd_same
    generalize upd Hr l2 (.lst [.ref qm, .ref qq, .ref qr]) = Hs at Ps Ks Bs L1s L2s ⊢
    refine ⟨l1, l2, _, _, rfl, rfl, L1s, L2s, by show 6 + 3 ≤ sizeLine; decide, fun l3 hl3 => ?_⟩
    have s10 := Same.upd (o := .lst ([.ref qc, .ref qd, .ref qe, .ref qg, .ref qj, .ref qk] ++ [.ref qm, .ref qq, .ref qr])) hl3
    have Kt := Ks.trans (Kp.same s10)
    have Bt := Bs.sm s10
    have Pt := Ps.kp Bs (Kp.same s10)
    have L3 : upd Hs l3 (.lst ([.ref qc, .ref qd, .ref qe, .ref qg, .ref qj, .ref qk] ++ [.ref qm, .ref qq, .ref qr])) l3 = some (.lst ([.ref qc, .ref qd, .ref qe, .ref qg, .ref qj, .ref qk] ++ [.ref qm, .ref qq, .ref qr])) := upd_same
    generalize upd Hs l3 (.lst ([.ref qc, .ref qd, .ref qe, .ref qg, .ref qj, .ref qk] ++ [.ref qm, .ref qq, .ref qr])) = Ht at Pt Kt Bt L3 ⊢
    obtain ⟨v, ev, mv⟩ := atI_in (xs := [V.ref qc, .ref qd, .ref qe, .ref qg, .ref qj, .ref qk] ++ [V.ref qm, V.ref qq, V.ref qr]) yb xb
    obtain ⟨a, t, b, rfl, ha, ht, b1, b2⟩ := Pt v mv
    refine ⟨_, rfl, l3, _, _, _, rfl, rfl, SqL.of L3, ev, ?_⟩
    refine ⟨a, _, rfl, SqT.of ha, rfl, _, _, rfl, _, _, rfl, rfl, ?_⟩
    refine ⟨_, rfl, _, rfl, _, _, rfl, rfl, ?_, _, rfl, ?_⟩
    · exact mulW_of (n := 1) (m := 20) (by omega) (by omega) (by decide)
    · refine ⟨_, _, rfl, by omega, Nat.lt_of_le_of_lt (show b.natAbs ≤ 1000 by omega) (Nat.lt_of_lt_of_le (show 1000 < 2 ^ 10 by decide) (Nat.pow_le_pow_right (by decide) (by decide))), fun r t' u' hr0 rd _ hl hb => ?_⟩
      have e1 : (sg * t).natAbs = t.natAbs := by rw [Int.natAbs_mul, hsg, Nat.one_mul]
      exact k r t' u' _ (Kt.trans (Kp.same (Same.upd hr0))) ((Bt.upd hr0).mono (by omega)) ⟨upd_same, rd, by omega, by omega⟩
end
end K13
set_option Elab.async false
set_option linter.all false
set_option maxRecDepth 100000
set_option maxHeartbeats 1000000
set_option exponentiation.threshold 100000
namespace K13
open PySem PySem.Spec PyProof.Rows L2 Fa Fb
abbrev sLcu : Stmt := top 67
theorem scLcu : FnScope ["_law_box_here", "_law_limit", "_law_most_cues", "_law_names", "_law_cues_here", "_law_name", "_law_known", "_law_parent", "_law_unit", "_law_amount_here", "_law_other", "_law_more", "_law_cue"] ["_law_box_here", "_law_limit", "_law_most_cues"] (defScope sLcu) := ⟨rfl, rfl, rfl, by decide +kernel, rfl, by decide +kernel, by decide +kernel⟩
def GoodL (cs : List M04.Cue) : Prop := M04.Good cs ∧ ∀ c ∈ cs, isName c.nm = true ∧ c.nm ≠ "zz9zz" ∧ isUnit c.un = true
def spLcu : Sp := fun vs H Q _ => ∃ (p : Addr) (n : Nat), vs = [.ref p, .int 8, .int 6] ∧ Box H p n ∧ n + 200 ≤ 1000000 ∧ ∀ l gs H', Kp p H H' → Box H' p (n + 200) → LsC 20 H' l gs → gs.length ≤ 6 → GoodL (gs.map lcv) → (M04.all (gs.map lcv)).rows.length ≤ 8 → H l = none → Q (.ref l) H'
/-- behind i names -/
structure LcI (H Hb : Hp) (p : Addr) (n : Nat) (zs : List Str) (i : Nat) (H' : Hp) (l : Addr) (gs : List Lc) : Prop where
  k : Kp p Hb H'
  kb : Kp p H Hb
  b : Box H' p (n + 10 + i * 13)
  ls : LsC 20 H' l gs
  le : gs.length ≤ i
  good : GoodL (gs.map lcv)
  rows : (M04.all (gs.map lcv)).rows.length ≤ 8
  new : H l = none
  sub : ∀ g ∈ gs, g.nm ∈ zs.take i
abbrev St13 (p l0 l : Addr) (nm : Str) (v6 v7 v8 v9 v10 v11 v12 : Option V) : L2.St := [some (.ref p), some (.int 8), some (.int 6), some (.ref l0), some (.ref l), some (.str nm), v6, v7, v8, v9, v10, v11, v12]
def sLcuB (H : Hp) (p : Addr) (n : Nat) : TS := fun D σ H' => ∃ (Hb : Hp) (zs : List Str) (l0 l : Addr) (gs : List Lc) (i : Nat) (nm : Str) (v6 v7 v8 v9 v10 v11 : Option V), σ = St13 p l0 l nm v6 v7 v8 v9 v10 v11 none ∧ Lb zs ∧ zs[i]? = some nm ∧ i < 11 ∧ LcI H Hb p n zs i H' l gs ∧
  ∀ H'' l' gs' v6 v7 v8 v9 v10 v11, LcI H Hb p n zs (i + 1) H'' l' gs' → D.nx (St13 p l0 l' nm v6 v7 v8 v9 v10 v11 none) H''
def sLcuM (H : Hp) (p : Addr) (n : Nat) : TS := fun D σ H' => ∃ (Hb : Hp) (zs : List Str) (l0 l : Addr) (gs : List Lc) (i : Nat) (nm pa un : Str) (a : Addr) (t u : Int) (v6 v10 v11 : Option V), σ = St13 p l0 l nm v6 (some (.str pa)) (some (.str un)) (some (.ref a)) v10 v11 none ∧ Lb zs ∧ zs[i]? = some nm ∧ i < 11 ∧ Kp p Hb H' ∧ Kp p H Hb ∧ Box H' p (n + 10 + (i + 1) * 13) ∧ LsC 20 H' l gs ∧ gs.length ≤ i ∧ GoodL (gs.map lcv) ∧ (M04.all (gs.map lcv)).rows.length ≤ 8 ∧ H l = none ∧ (∀ g ∈ gs, g.nm ∈ zs.take i) ∧
  pa ∈ ("start" : Str) :: (gs.map lcv).map (·.nm) ∧ isUnit un = true ∧ Fr 20 H' a t u ∧
  ∀ H'' l' gs' v11, LcI H Hb p n zs (i + 1) H'' l' gs' → D.nx (St13 p l0 l' nm v6 (some (.str pa)) (some (.str un)) (some (.ref a)) v10 v11 none) H''
theorem unit_ok {z : Str} (h : isUnit z = true) : PyData.strOk z = true := by
  unfold isUnit at h
  rw [Bool.or_eq_true] at h
  rcases h with h | h
  · rw [of_decide_eq_true h]; decide +kernel
  · rw [of_decide_eq_true h]; decide +kernel
theorem LsC.kp {n m : Nat} {H H' : Hp} {l p : Addr} {gs : List Lc} (h : LsC n H l gs) (b : Box H p m) (k : Kp p H H') (ne : l ≠ p) : LsC n H' l gs := ⟨k _ _ ne h.l, fun g hg => (h.ok g hg).kt (KT.kp b k), h.n⟩
section
variable {P : Program} {w : World} {K : PySem.W.Frag} {mg : Str → Option Value} {base : Heap} {f fT fL fA fM : Addr} {fd fdT fdL fdA fdM : FuncData}
theorem ok_lcu (F : FnP K "_law_cues" sLcu f fd) (mL : mg "len" = none) (GT : Fn0 P w K mg base "_law_take" 1 ["_law_box_here", "_law_many"] spTake fT fdT) (LB : Fn P w K mg base "_law_labels" 2 ["_law_box_here", "_law_many"] spLab fL fdL) (AM : Fn P w K mg base "_law_amount" 2 ["_law_box_here"] spLam fA fdA) (MO : Fn P w K mg base "_law_moments" 5 ["_law_cues_here"] (spMom K) fM fdM) :
    FnOk P w K mg base (L2.CX P w) 6 f fd ["_law_box_here", "_law_limit", "_law_most_cues"] spLcu := by
  refine F.ok scLcu (fun vs H Q E h => ?_) (fun cdv A outer s H vs Q E hr h => ?_)
  · obtain ⟨p, n, rfl, _⟩ := h
    rfl
  · obtain ⟨p, n, rfl, hb, hn, k⟩ := h
    have hu : (A.deeper (envOfC "_law_cues" (defScope sLcu) s.heap.objs.size f cdv)).units + 64 < cLine := by
      have := hr.un
      omega
    have hr1 := hr.mono (show 1 ≤ 5 by decide)
    have hr2 := hr.mono (show 2 ≤ 5 by decide)
    have hr5 := hr.mono (show 5 ≤ 5 by decide)
    refine ⟨_, (pss_cons (ps_par (by rfl) scLcu.nd (i := 3) (j := 4) rfl rfl (by decide) rfl rfl (pa_cons (pe_call LB.ok hr2 rfl LB.g LB.k LB.b .nil passL (pa_cons (pv 0) (pa_cons (pv 2) pa_nil))) (pa_cons (pe_lst pa_nil) pa_nil)) (by rfl))
      (pss_cons (ps_for (passes_of rfl) rfl (pi_list (pe_slice sl_list (pv 3) po_none (po_some (pe_call GT.ok hr1 rfl GT.g GT.k GT.b .nil pass0 (pa_cons (pv 0) (pa_cons (pe_op op_add (pv 2) pe_int) pa_nil)))))) (pg_name (i := 5) scLcu.nd rfl (Or.inl rfl))
      (pss_imp (S := sLcuB H p n) (pss_cons (ps_set (i := 6) scLcu.nd rfl (Or.inl rfl) (pe_op op_cat (pe_lst (pa_cons pe_str pa_nil)) (pe_lc (own := [("_law_cue", 12)]) (g := gName 12) (te := tOp (rIxT K) (tVar 12) (tC (.int 0))) (by rfl) scLcu.nd (pi_list (pv 4)) (blkOk_by (own := [("_law_cue", 12)]) (N := ["_law_box_here", "_law_limit", "_law_most_cues", "_law_names", "_law_cues_here", "_law_name", "_law_known", "_law_parent", "_law_unit", "_law_amount_here", "_law_other", "_law_more", "_law_cue"]) (sc := defScope sLcu) (by decide +kernel)) (fun _ _ _ _ _ => (pg_name (i := 12) scLcu.nd rfl (Or.inl rfl))) (fun _ _ _ _ _ => pts_nil) (fun _ _ _ _ _ => (pe_ix ix_tup (pv 12) pe_int (fun _ _ => rfl))))))
      (pss_cons (ps_set (i := 7) scLcu.nd rfl (Or.inl rfl) (pe_ix ix_list (pe_lst (pa_cons (pe_ix ix_list (pv 6) (pe_call GT.ok hr1 rfl GT.g GT.k GT.b .nil pass0 (pa_cons (pv 0) (pa_cons (pe_callB call_len rfl mL PySem.boot_len (pa_cons (pv 6) pa_nil)) pa_nil))) (fun _ _ => rfl)) (pa_cons (pe_ix ix_list (pv 6) (pe_un un_neg pe_int) (fun _ _ => rfl)) pa_nil))) (pe_call GT.ok hr1 rfl GT.g GT.k GT.b .nil pass0 (pa_cons (pv 0) (pa_cons pe_int pa_nil))) (fun _ _ => rfl)))
      (pss_cons (ps_par (by rfl) scLcu.nd (i := 8) (j := 9) rfl rfl (by decide) rfl rfl (pa_cons (pe_ix ix_list (pe_lst (pa_cons pe_str (pa_cons pe_str pa_nil))) (pe_call GT.ok hr1 rfl GT.g GT.k GT.b .nil pass0 (pa_cons (pv 0) (pa_cons pe_int pa_nil))) (fun _ _ => rfl)) (pa_cons (pe_call AM.ok hr2 rfl AM.g AM.k AM.b .nil passL (pa_cons (pv 0) pa_nil)) pa_nil)) (by rfl))
      (pss_cons (ps_if (PW.pt (pw_and (pt_cmpR (Fk.op_neNil hu) (pv 4) (pe_lst pa_nil) (nomark _)) (pw_and1 (pt_cmpR op_eq (pe_call GT.ok hr1 rfl GT.g GT.k GT.b .nil pass0 (pa_cons (pv 0) (pa_cons pe_int pa_nil))) pe_int (nomark _))))) (pss_cons (ps_set (i := 10) scLcu.nd rfl (Or.inl rfl) (pe_ix ix_list (pv 4) (pe_call GT.ok hr1 rfl GT.g GT.k GT.b .nil pass0 (pa_cons (pv 0) (pa_cons (pe_callB call_len rfl mL PySem.boot_len (pa_cons (pv 4) pa_nil)) pa_nil))) (fun _ _ => rfl)))
      (pss_one (ps_par (by rfl) scLcu.nd (i := 8) (j := 9) rfl rfl (by decide) rfl rfl (pa_cons (pe_ix ix_tup (pv 10) pe_int (fun _ _ => rfl)) (pa_cons (pe_ix ix_list (pe_lst (pa_cons (pe_tup (pa_cons (pe_op op_sub pe_int (pe_ix ix_tup (pe_ix ix_tup (pv 10) pe_int (fun _ _ => rfl)) pe_int (fun _ _ => rfl))) (pa_cons (pe_ix ix_tup (pe_ix ix_tup (pv 10) pe_int (fun _ _ => rfl)) pe_int (fun _ _ => rfl)) pa_nil))) (pa_cons (pe_ix ix_tup (pv 10) pe_int (fun _ _ => rfl)) pa_nil))) (pe_call GT.ok hr1 rfl GT.g GT.k GT.b .nil pass0 (pa_cons (pv 0) (pa_cons pe_int pa_nil))) (fun _ _ => rfl)) pa_nil)) (by rfl)))) pss_nil)
      (pss_imp (S := sLcuM H p n) (pss_cons (ps_set (i := 11) scLcu.nd rfl (Or.inl rfl) (pe_op op_cat (pv 4) (pe_lst (pa_cons (pe_tup (pa_cons (pv 5) (pa_cons (pv 7) (pa_cons (pv 8) (pa_cons (pv 9) pa_nil))))) pa_nil))))
      (pss_one (ps_if (pt_cmpR op_le (pe_callB call_len rfl mL PySem.boot_len (pa_cons (pe_call MO.ok hr5 rfl MO.g MO.k MO.b .nil passL (pa_cons (pv 11) pa_nil)) pa_nil)) (pv 1) (nomark _)) (pss_one (ps_set (i := 4) scLcu.nd rfl (Or.inl rfl) (pv 11))) pss_nil))) ?more))))) ?body))
      (pss_one (ps_ret (pv 4))))), ?_⟩
    case more =>
      rintro D σ H1 ⟨Hb, zs, l0, l, gs, i, nm, pa, un, a, t, u, v6, v10, v11, rfl, lb, enm, hi, kp, kb, bx, ls, le, gd, rw8, new, sub, hpa, hun, fr, kn⟩
      obtain ⟨nm1, nm2, nm3⟩ := lb.ok nm (List.mem_of_getElem? enm)
      have nin : ∀ g ∈ gs, g.nm ≠ nm := fun g hg e => by
        have h1 := sub g hg
        rw [e] at h1
        obtain ⟨j, hj⟩ := List.getElem?_of_mem h1
        have hji : j < i := by
          have := (List.getElem?_eq_some_iff.mp hj).1
          rw [List.length_take] at this
          omega
        rw [List.getElem?_take_of_lt hji] at hj
        obtain ⟨h3, h4⟩ := List.getElem?_eq_some_iff.mp hj
        obtain ⟨h5, h6⟩ := List.getElem?_eq_some_iff.mp enm
        have := (List.nodup_iff_pairwise_ne.mp lb.nd)
        rw [List.pairwise_iff_getElem] at this
        exact this j i h3 h5 hji (h4.trans h6.symm)
      refine ⟨_, rfl, _, rfl, _, rfl, _, rfl, _, rfl, by show 4 ≤ sizeLine; decide, fun q hq => ⟨by show 1 ≤ sizeLine; decide, fun l2 hl2 => ?_⟩⟩
      have s2 := Same.upd (o := .tup [.str nm, .str pa, .str un, .ref a]) hq
      have q2 : upd H1 q (.tup [.str nm, .str pa, .str un, .ref a]) q = some (.tup [.str nm, .str pa, .str un, .ref a]) := upd_same
      generalize upd H1 q (.tup [.str nm, .str pa, .str un, .ref a]) = H2 at s2 q2 hl2 ⊢
      have s3 := Same.upd (o := .lst [.ref q]) hl2
      have l3 : upd H2 l2 (.lst [.ref q]) l2 = some (.lst [.ref q]) := upd_same
      generalize upd H2 l2 (.lst [.ref q]) = H3 at s3 l3 ⊢
      have s13 := s2.trans s3
      refine ⟨l, l2, _, _, rfl, rfl, s13 _ _ ls.l, l3, ?_, fun l4 hl4 => ?_⟩
      · rw [List.length_map]
        exact Nat.le_trans (show gs.length + 1 ≤ 100 by omega) (by decide)
      have s4 := Same.upd (o := .lst ((gs.map fun g => V.ref g.q) ++ [.ref q])) hl4
      have n4 : upd H3 l4 (.lst ((gs.map fun g => V.ref g.q) ++ [.ref q])) l4 = some (.lst ((gs.map fun g => V.ref g.q) ++ [.ref q])) := upd_same
      have hl40 : H l4 = none := kb.no (bx.ne (none_of s13 hl4)).symm (kp.no (bx.ne (none_of s13 hl4)).symm (none_of s13 hl4))
      generalize upd H3 l4 (.lst ((gs.map fun g => V.ref g.q) ++ [.ref q])) = H4 at s4 n4 ⊢
      have s14 := s13.trans s4
      have mnm : ∀ x ∈ (gs.map lcv).map (·.nm), ∃ g ∈ gs, g.nm = x := fun x hx => by
        obtain ⟨c, hc, e⟩ := List.mem_map.mp hx
        obtain ⟨g, hg, e2⟩ := List.mem_map.mp hc
        exact ⟨g, hg, by rw [← e, ← e2]; rfl⟩
      have pas : PyData.strOk pa = true := by
        rcases List.mem_cons.mp hpa with e | m
        · rw [e]; decide +kernel
        · obtain ⟨g, hg, e⟩ := mnm pa m
          rw [← e]
          exact isName_str (gd.2 (lcv g) (List.mem_map.mpr ⟨g, hg, rfl⟩)).1
      have ls4 : LsC 20 H4 l4 (gs ++ [⟨q, a, nm, pa, un, t, u⟩]) := ⟨by rw [n4, List.map_append]; rfl, fun g hg => by
        rcases List.mem_append.mp hg with hg | hg
        · exact (ls.ok g hg).kt (KT.of s14)
        · rw [List.mem_singleton] at hg
          rw [hg]
          exact ⟨s4 _ _ (s3 _ _ q2), fr.kt (KT.of s14), isName_str nm1, pas, unit_ok hun⟩, by rw [List.length_append]; show gs.length + 1 ≤ 14; omega⟩
      have gd4 : GoodL ((gs ++ [(⟨q, a, nm, pa, un, t, u⟩ : Lc)]).map lcv) := by
        rw [List.map_append]
        refine ⟨M04.good_snoc gd.1 (fun hm => ?_) hpa, fun c hc => ?_⟩
        · rcases List.mem_cons.mp hm with e | m
          · exact nm2 e
          · obtain ⟨g, hg, e⟩ := mnm _ m
            exact nin g hg e
        · rcases List.mem_append.mp hc with hc | hc
          · exact gd.2 c hc
          · have : c = lcv ⟨q, a, nm, pa, un, t, u⟩ := List.mem_singleton.mp hc
            rw [this]
            exact ⟨nm1, nm3, hun⟩
      refine ⟨_, rfl, l4, gs ++ [⟨q, a, nm, pa, un, t, u⟩], 20, rfl, ls4, gd4.1, by decide, by decide, fun p2 xs H5 s5 hp2 hx hrows => ?_⟩
      refine ⟨_, xs.length, rfl, .inl ⟨_, SqL.of hp2, rfl⟩, _, rfl, _, _, rfl, rfl, _, rfl, ?_⟩
      have s15 := s14.trans s5
      have sub4 : ∀ g ∈ gs, g.nm ∈ zs.take (i + 1) := fun g hg => by
        have := sub g hg
        exact List.mem_of_mem_take (i := i) (by rw [List.take_take, Nat.min_eq_left (Nat.le_succ i)]; exact this)
      by_cases c : xs.length ≤ 8
      · refine if_true_of (decide_eq_true (by omega)) ⟨_, rfl, ?_⟩
        refine kn H5 l4 (gs ++ [⟨q, a, nm, pa, un, t, u⟩]) _ ⟨kp.trans (Kp.same s15), kb, bx.sm s15, ls4.same s5, by rw [List.length_append]; show gs.length + 1 ≤ i + 1; omega, gd4, by omega, hl40, fun g hg => ?_⟩
        rcases List.mem_append.mp hg with hg | hg
        · exact sub4 g hg
        · rw [List.mem_singleton] at hg
          rw [hg, List.take_add_one, enm]
          exact List.mem_append_right _ (List.mem_singleton.mpr rfl)
      · refine if_false_of (decide_eq_false (by omega)) ?_
        exact kn H5 l gs _ ⟨kp.trans (Kp.same s15), kb, bx.sm s15, ls.same s15, by omega, gd, rw8, new, sub4⟩
    case body =>
      rintro D σ H1 ⟨Hb, zs, l0, l, gs, i, nm, v6, v7, v8, v9, v10, v11, rfl, lb, enm, hi, I, kn⟩
      have lp : l ≠ p := (hb.ne I.new).symm
      refine ⟨by show 1 ≤ sizeLine; decide, fun la hla => ?_⟩
      have K2 := I.k.trans (Kp.same (Same.upd (o := .lst [.str "start"]) hla))
      have B2 := I.b.upd (o := .lst [.str "start"]) hla
      have L2_ := I.ls.same (Same.upd (o := .lst [.str "start"]) hla)
      have A2 : upd H1 la (.lst [.str "start"]) la = some (.lst [.str "start"]) := upd_same
      generalize upd H1 la (.lst [.str "start"]) = H2 at K2 B2 L2_ A2 ⊢
      refine ⟨_, rfl, l, rfl, ⟨_, SqL.of L2_.l⟩, fun D2 hD2 => ?_⟩
      refine lc_list (K := K) (a := l) (xs := gs.map fun g => V.ref g.q) (fun j H' => Same H2 H' ∧ H' D2 = some (.lst ((gs.take j).map fun g => V.str g.nm))) ⟨Same.upd hD2, upd_same⟩ (fun j H' _ ⟨s, _⟩ => SqL.of (s _ _ L2_.l)) ?_ ?_
      · rintro j x H3 hx ⟨s3, ha⟩
        obtain ⟨g, eg, rfl⟩ := map_at hx
        have hj := (List.getElem?_eq_some_iff.mp eg).1
        refine ⟨rfl, _, rfl, g.q, _, 0, _, rfl, rfl, SqT.of (s3 _ _ (L2_.ok g (List.mem_of_getElem? eg)).1), rfl, _, ha, ?_, same_put s3 hD2, ?_⟩
        · rw [List.length_map, List.length_take]
          exact Nat.lt_of_lt_of_le (show min j gs.length < 100 by have := L2_.n; omega) (by decide)
        · rw [upd_same, List.take_add_one, eg, List.map_append]
          rfl
      · rintro H3 ⟨s3, ha⟩
        rw [List.length_map, List.take_length] at ha
        have h14 := L2_.n
        refine ⟨la, D2, _, _, rfl, rfl, s3 _ _ A2, ha, ?_, fun lk hlk => ?_⟩
        · rw [List.length_map]
          exact Nat.le_trans (show 1 + gs.length ≤ 100 by omega) (by decide)
        have s4 := Same.upd (o := .lst ([.str "start"] ++ (gs.map fun g => V.str g.nm))) hlk
        have KN : upd H3 lk (.lst ([.str "start"] ++ (gs.map fun g => V.str g.nm))) lk = some (.lst (.str "start" :: gs.map fun g => V.str g.nm)) := upd_same
        have K4 := K2.trans (Kp.same (s3.trans s4))
        have B4 := (B2.sm s3).sm s4
        have L4 := L2_.same (s3.trans s4)
        generalize upd H3 lk (.lst ([.str "start"] ++ (gs.map fun g => V.str g.nm))) = H4 at K4 B4 L4 KN ⊢
        have lkp : lk ≠ p := fun e => by
          obtain ⟨_, _, _, hp, _⟩ := B2.sm s3
          rw [← e, hlk] at hp
          cases hp
        have ksl : (V.str "start" :: gs.map fun g => V.str g.nm).length = gs.length + 1 := by rw [List.length_cons, List.length_map]
        have kin : ∀ v ∈ (V.str "start" :: gs.map fun g => V.str g.nm), ∃ z : Str, v = .str z ∧ z ∈ ("start" : Str) :: (gs.map lcv).map (·.nm) := fun v hv => by
          rcases List.mem_cons.mp hv with e | m
          · exact ⟨_, e, List.mem_cons_self⟩
          · obtain ⟨g, hg, e⟩ := List.mem_map.mp m
            exact ⟨g.nm, e.symm, List.mem_cons_of_mem _ (List.mem_map.mpr ⟨lcv g, List.mem_map.mpr ⟨g, hg, rfl⟩, rfl⟩)⟩
        refine ⟨_, rfl, _, rfl, _, rfl, _, _, rfl, .inl ⟨_, SqL.of KN, rfl⟩, p, _, _, rfl, B4, by omega, ?_, ?_, fun z5 H5 y5 x5 B5 k5 => ?_⟩
        · rw [ksl]
          omega
        · rw [ksl]
          exact Int.lt_of_le_of_lt (show ((gs.length + 1 : Nat) : Int) ≤ 100 by omega) (by decide)
        obtain ⟨v5, e5, m5⟩ := atI_in y5 x5
        have KN5 := (k5 lk lkp).trans KN
        have K5 := K4.trans (Kp.but k5)
        have L5 := L4.kp B4 (Kp.but k5) lp
        have e6 : ∃ v, atI (V.str "start" :: gs.map fun g => V.str g.nm) (-1) = some v ∧ v ∈ (V.str "start" :: gs.map fun g => V.str g.nm) := by
          have hlt : (V.str "start" :: gs.map fun g => V.str g.nm).length - 1 < (V.str "start" :: gs.map fun g => V.str g.nm).length := by rw [ksl]; omega
          exact ⟨_, atI_end (List.getElem?_eq_getElem hlt), List.getElem_mem hlt⟩
        obtain ⟨v6', e6, m6⟩ := e6
        refine ⟨lk, _, z5, v5, rfl, rfl, SqL.of KN5, e5, _, rfl, _, rfl, lk, _, -1, v6', rfl, rfl, SqL.of KN5, e6, by show 2 ≤ sizeLine; decide, fun lq hlq => ?_⟩
        have K6 := K5.trans (Kp.same (Same.upd (o := .lst [v5, v6']) hlq))
        have B6 := B5.upd (o := .lst [v5, v6']) hlq
        have L6 := L5.same (Same.upd (o := .lst [v5, v6']) hlq)
        have Q6 : upd H5 lq (.lst [v5, v6']) lq = some (.lst [v5, v6']) := upd_same
        have lqp : lq ≠ p := (B5.ne hlq).symm
        generalize upd H5 lq (.lst [v5, v6']) = H6 at K6 B6 L6 Q6 ⊢
        refine ⟨_, rfl, p, 2, _, rfl, B6, by omega, by decide, by decide, fun z7 H7 y7 x7 B7 k7 => ?_⟩
        obtain ⟨v7', e7, m7⟩ := atI_in (xs := [v5, v6']) y7 x7
        have Q7 := (k7 lq lqp).trans Q6
        have K7 := K6.trans (Kp.but k7)
        have L7 := L6.kp B6 (Kp.but k7) lp
        have pa7 : ∃ z : Str, v7' = .str z ∧ z ∈ ("start" : Str) :: (gs.map lcv).map (·.nm) := by
          rcases List.mem_cons.mp m7 with e | m
          · rw [e]; exact kin _ m5
          · rw [List.mem_singleton.mp m]; exact kin _ m6
        obtain ⟨pa, rfl, hpa⟩ := pa7
        refine ⟨lq, _, z7, _, rfl, rfl, SqL.of Q7, e7, ?_⟩
        refine ⟨by show 2 ≤ sizeLine; decide, fun lu hlu => ?_⟩
        have K8 := K7.trans (Kp.same (Same.upd (o := .lst [.str "beats", .str "seconds"]) hlu))
        have B8 := B7.upd (o := .lst [.str "beats", .str "seconds"]) hlu
        have L8 := L7.same (Same.upd (o := .lst [.str "beats", .str "seconds"]) hlu)
        have U8 : upd H7 lu (.lst [.str "beats", .str "seconds"]) lu = some (.lst [.str "beats", .str "seconds"]) := upd_same
        have lup : lu ≠ p := (B7.ne hlu).symm
        generalize upd H7 lu (.lst [.str "beats", .str "seconds"]) = H8 at K8 B8 L8 U8 ⊢
        refine ⟨_, rfl, p, 2, _, rfl, B8, by omega, by decide, by decide, fun z9 H9 y9 x9 B9 k9 => ?_⟩
        obtain ⟨v9', e9, m9⟩ := atI_in (xs := [V.str "beats", .str "seconds"]) y9 x9
        have U9 := (k9 lu lup).trans U8
        have K9 := K8.trans (Kp.but k9)
        have L9 := L8.kp B8 (Kp.but k9) lp
        have un9 : ∃ z : Str, v9' = .str z ∧ isUnit z = true := by
          rcases List.mem_cons.mp m9 with e | m
          · exact ⟨_, e, by decide +kernel⟩
          · exact ⟨_, List.mem_singleton.mp m, by decide +kernel⟩
        obtain ⟨un, rfl, hun⟩ := un9
        refine ⟨lu, _, z9, _, rfl, rfl, SqL.of U9, e9, _, rfl, p, _, rfl, B9, by omega, fun ra ta ua Ha ka Ba fra => ⟨_, _, rfl, ?_⟩⟩
        have Ka := K9.trans ka
        have La := L9.kp B9 ka lp
        have go : ∀ (Hx : Hp) (m : Nat) (un' : Str) (a' : Addr) (t' u' : Int) (v10' : Option V), Kp p Hb Hx → Box Hx p m → m ≤ n + 10 + (i + 1) * 13 → LsC 20 Hx l gs → isUnit un' = true → Fr 20 Hx a' t' u' → sLcuM H p n D (St13 p l0 l nm (some (.ref lk)) (some (.str pa)) (some (.str un')) (some (.ref a')) v10' v11 none) Hx := fun Hx m un' a' t' u' v10' kx bx hm lx hux frx =>
          ⟨Hb, zs, l0, l, gs, i, nm, pa, un', a', t', u', _, v10', v11, rfl, lb, enm, hi, kx, I.kb, bx.mono hm, lx, I.le, I.good, I.rows, I.new, I.sub, hpa, hux, frx, fun H'' l' gs' v11' I' => kn H'' l' gs' _ _ _ _ _ _ I'⟩
        refine ⟨_, rfl, by show 0 ≤ sizeLine; decide, fun le hle => ?_⟩
        have Kc := Ka.trans (Kp.same (Same.upd (o := .lst []) hle))
        have Bc := Ba.upd (o := .lst []) hle
        have Lc_ := La.same (Same.upd (o := .lst []) hle)
        have Ec : upd Ha le (.lst []) le = some (.lst []) := upd_same
        have frc := fra.kt (KT.of (Same.upd (o := .lst []) hle))
        generalize upd Ha le (.lst []) = Hc at Kc Bc Lc_ Ec frc ⊢
        refine ⟨l, le, _, rfl, rfl, SqL.of Lc_.l, SqL.of Ec, _, rfl, ?_⟩
        by_cases cg : gs = []
        · refine if_false_of (by rw [cg]; rfl) (iteF (go Hc _ un ra ta ua _ Kc Bc (by omega) Lc_ hun frc))
        have g0 := List.length_pos_iff.mpr cg
        refine if_true_of (by cases gs with | nil => exact absurd rfl cg | cons _ _ => rfl) ?_
        refine ⟨_, rfl, p, 5, _, rfl, Bc, by omega, by decide, by decide, fun zd Hd yd xd Bd kd => ⟨rfl, _, rfl, ?_⟩⟩
        have Kd := Kc.trans (Kp.but kd)
        have Ld := Lc_.kp Bc (Kp.but kd) lp
        have frd := frc.kt (KT.kp Bc (Kp.but kd))
        by_cases cz : zd = 0
        · rw [decide_eq_true (by rw [cz])]
          refine iteT ?_
          refine ⟨_, rfl, _, rfl, _, rfl, _, _, rfl, .inl ⟨_, SqL.of Ld.l, rfl⟩, p, _, _, rfl, Bd, by omega, ?_, ?_, fun ze He ye xe Be ke => ?_⟩
          · rw [List.length_map]
            omega
          · rw [List.length_map]
            exact Int.lt_of_le_of_lt (show ((gs.length : Nat) : Int) ≤ 100 by omega) (by decide)
          have Ke := Kd.trans (Kp.but ke)
          have Le := Ld.kp Bd (Kp.but ke) lp
          obtain ⟨ve, ee, me⟩ := atI_in ye xe
          obtain ⟨g, hg, rfl⟩ := List.mem_map.mp me
          obtain ⟨g1, g2, g3, g4, g5⟩ := Le.ok g hg
          have gun := (I.good.2 (lcv g) (List.mem_map.mpr ⟨g, hg, rfl⟩)).2.2
          refine ⟨l, _, ze, _, rfl, rfl, SqL.of Le.l, ee, ?_⟩
          refine ⟨_, rfl, g.q, _, 2, _, rfl, rfl, SqT.of g1, rfl, ?_⟩
          refine ⟨_, rfl, g.q, _, 3, _, rfl, rfl, SqT.of g1, rfl, g.a, _, 0, _, rfl, rfl, SqT.of g2.at_, rfl, _, _, rfl, rfl, _, rfl, g.q, _, 3, _, rfl, rfl, SqT.of g1, rfl, g.a, _, 1, _, rfl, rfl, SqT.of g2.at_, rfl, by show 2 ≤ sizeLine; decide, fun tq htq => ?_⟩
          have sf := Same.upd (o := .tup [.int (0 - g.t), .int g.u]) htq
          have frn : Fr 20 (upd He tq (.tup [.int (0 - g.t), .int g.u])) tq (0 - g.t) g.u := ⟨upd_same, ⟨g2.rd.1, by have := g2.rd.2; rwa [Int.zero_sub, Int.natAbs_neg]⟩, by have := g2.bt; rwa [Int.zero_sub, Int.natAbs_neg], g2.bu⟩
          have Kf := Ke.trans (Kp.same sf)
          have Bf := Be.sm sf
          have Lf := Le.same sf
          have g1f := sf _ _ g1
          have g2f := g2.kt (KT.of sf)
          generalize upd He tq (.tup [.int (0 - g.t), .int g.u]) = Hf at frn Kf Bf Lf g1f g2f ⊢
          refine ⟨_, rfl, g.q, _, 3, _, rfl, rfl, SqT.of g1f, rfl, by show 2 ≤ sizeLine; decide, fun lv hlv => ?_⟩
          have sg_ := Same.upd (o := .lst [.ref tq, .ref g.a]) hlv
          have Vg : upd Hf lv (.lst [.ref tq, .ref g.a]) lv = some (.lst [.ref tq, .ref g.a]) := upd_same
          have Kg := Kf.trans (Kp.same sg_)
          have Bg := Bf.sm sg_
          have Lg := Lf.same sg_
          have frg := frn.kt (KT.of sg_)
          have g2g := g2f.kt (KT.of sg_)
          have lvp : lv ≠ p := (Bf.ne hlv).symm
          generalize upd Hf lv (.lst [.ref tq, .ref g.a]) = Hg at Vg Kg Bg Lg frg g2g ⊢
          refine ⟨_, rfl, p, 2, _, rfl, Bg, by omega, by decide, by decide, fun zh Hh yh xh Bh kh => ?_⟩
          obtain ⟨vh, eh, mh⟩ := atI_in (xs := [V.ref tq, .ref g.a]) yh xh
          have Vh := (kh lv lvp).trans Vg
          have Kh := Kg.trans (Kp.but kh)
          have Lh := Lg.kp Bg (Kp.but kh) lp
          have frh : ∃ a' t' u', vh = .ref a' ∧ Fr 20 Hh a' t' u' := by
            rcases List.mem_cons.mp mh with e | m
            · exact ⟨_, _, _, e, frg.kt (KT.kp Bg (Kp.but kh))⟩
            · exact ⟨_, _, _, List.mem_singleton.mp m, g2g.kt (KT.kp Bg (Kp.but kh))⟩
          obtain ⟨a', t', u', rfl, frh⟩ := frh
          refine ⟨lv, _, zh, _, rfl, rfl, SqL.of Vh, eh, _, _, rfl, ?_⟩
          exact go Hh _ g.un a' t' u' _ Kh Bh (by omega) Lh gun frh
        · rw [decide_eq_false fun e => cz (V.int.inj e)]
          exact iteF (go Hd _ un ra ta ua _ Kd Bd (by omega) Ld hun frd)
    refine ⟨_, rfl, _, rfl, p, n, rfl, hb, by omega, fun l0 zs H1 k1 b1 lb hz hl0 nl0 new0 => ?_⟩
    refine ⟨by show 0 ≤ sizeLine; decide, fun l1 hl1 => ⟨_, _, rfl, ?_⟩⟩
    have s2 := Same.upd (o := .lst []) hl1
    have l12 : upd H1 l1 (.lst []) l1 = some (.lst []) := upd_same
    have n1 : H l1 = none := k1.no (b1.ne hl1).symm hl1
    have k2 := k1.trans (Kp.same s2)
    have b2 := b1.sm s2
    have l02 := s2 _ _ hl0
    generalize upd H1 l1 (.lst []) = H2 at s2 l12 k2 b2 l02 ⊢
    refine ⟨_, rfl, _, rfl, _, rfl, _, _, rfl, rfl, p, 7, _, rfl, b2, by omega, by decide, by decide, fun d H3 y3 x3 b3 k3 => ?_⟩
    have l0p : l0 ≠ p := nl0
    have l1p : l1 ≠ p := (hb.ne n1).symm
    have k03 := k2.trans (Kp.but k3)
    have l03 := (k3 l0 l0p).trans l02
    have l13 := (k3 l1 l1p).trans l12
    refine ⟨d, rfl, l0, _, rfl, SqL.of l03, fun ls hls => ?_⟩
    have ec : cutV (zs.map V.str) none (some d) = (zs.take d.toNat).map V.str := by
      show List.take ((if d < 0 then (d + ((zs.map V.str).length : Int)).toNat else min d.toNat (zs.map V.str).length) - 0) (List.drop 0 (zs.map V.str)) = _
      rw [if_neg (by omega), List.drop_zero, Nat.sub_zero, List.length_map, hz, Nat.min_eq_left (by omega), List.map_take]
    rw [ec]
    have s4 := Same.upd (o := .lst ((zs.take d.toNat).map V.str)) hls
    have ls4 : upd H3 ls (.lst ((zs.take d.toNat).map V.str)) ls = some (.lst ((zs.take d.toNat).map V.str)) := upd_same
    have lsp : ls ≠ p := (b3.ne hls).symm
    have k04 := k03.trans (Kp.same s4)
    have b4 := b3.sm s4
    have l14 := s4 _ _ l13
    generalize upd H3 ls (.lst ((zs.take d.toNat).map V.str)) = H4 at s4 ls4 k04 b4 l14 ⊢
    have li0 : LcI H H4 p n zs 0 H4 l1 [] := ⟨Kp.refl p H4, k04, b4.mono (by omega), ⟨l14, (fun g hg => by cases hg), Nat.zero_le _⟩, Nat.le_refl _, ⟨(fun i c e => by cases e), (fun c hc => by cases hc)⟩, by decide, n1, (fun g hg => by cases hg)⟩
    refine ⟨ls, rfl, ⟨_, SqL.of ls4⟩, for_list (K := K) (a := ls) (xs := (zs.take d.toNat).map V.str) (fun i σ H' => ∃ (l : Addr) (gs : List Lc) (v5 v6 v7 v8 v9 v10 v11 : Option V), σ = [some (.ref p), some (.int 8), some (.int 6), some (.ref l0), some (.ref l), v5, v6, v7, v8, v9, v10, v11, none] ∧ LcI H H4 p n zs i H' l gs) ⟨l1, [], _, _, _, _, _, _, _, rfl, li0⟩ (fun i σ H' _ ⟨_, _, _, _, _, _, _, _, _, _, I⟩ => SqL.of (I.k _ _ lsp ls4)) ?_ ?_⟩
    · rintro i x σ H5 hx ⟨l, gs, v5, v6, v7, v8, v9, v10, v11, rfl, I⟩
      obtain ⟨nm, enm, rfl⟩ := map_at hx
      have hi := (List.getElem?_eq_some_iff.mp enm).1
      rw [List.length_take] at hi
      rw [List.getElem?_take_of_lt (by omega)] at enm
      exact ⟨H4, zs, l0, l, gs, i, nm, _, _, _, _, _, _, rfl, lb, enm, by omega, I, fun H'' l' gs' v6 v7 v8 v9 v10 v11 I' => ⟨l', gs', _, _, _, _, _, _, _, rfl, I'⟩⟩
    · rintro σ H5 ⟨l, gs, v5, v6, v7, v8, v9, v10, v11, rfl, I⟩
      have hle := I.le
      rw [List.length_map, List.length_take] at hle
      have hbx := I.b
      rw [List.length_map, List.length_take] at hbx
      exact ⟨_, rfl, k l gs H5 (k04.trans I.k) (hbx.mono (by omega)) I.ls (by omega) I.good I.rows I.new⟩
end
end K13
set_option Elab.async false
set_option linter.all false
set_option maxRecDepth 100000
set_option maxHeartbeats 1000000
set_option exponentiation.threshold 100000
namespace K13
open PySem PySem.Spec PyProof.Rows L2 Fa Fb
abbrev sPas : Stmt := top 68
theorem scPas : FnScope ["_law_box_here", "_law_cues_here", "_law_found", "_law_name", "_law_parent", "_law_unit", "_law_amount_here", "_law_plain"] ["_law_box_here", "_law_cues_here"] (defScope sPas) := ⟨rfl, rfl, rfl, by decide +kernel, rfl, by decide +kernel, by decide +kernel⟩
/-- a passed cue -/
def PsI (K : PySem.W.Frag) (H : Hp) (it : Addr) (g : Lc) : Prop := ∃ x, H it = some (.tup [.str g.nm, .str g.pa, .str g.un, x]) ∧ Arg K H x g.t g.u 21
/-- the passed ones at r -/
structure PsL (K : PySem.W.Frag) (H : Hp) (r : Addr) (xs : List Addr) (gs : List Lc) : Prop where
  l : H r = some (.lst (xs.map V.ref))
  len : xs.length = gs.length
  ok : ∀ (i : Nat) it g, xs[i]? = some it → gs[i]? = some g → PsI K H it g
theorem IsA.kt {K : PySem.W.Frag} {H H' : Hp} {x : V} {t u : Int} {n : Nat} (h : IsA K H x t u n) (k : KT H H') : IsA K H' x t u n := by
  obtain ⟨p, dx, e, hp, r⟩ := h
  exact ⟨p, dx, e, k _ _ hp (fun _ e => by cases e), r⟩
theorem Arg.kt {K : PySem.W.Frag} {H H' : Hp} {x : V} {t u : Int} {n : Nat} (h : Arg K H x t u n) (k : KT H H') : Arg K H' x t u n := h.imp (fun h => h.kt k) id
theorem PsI.kt {K : PySem.W.Frag} {H H' : Hp} {it : Addr} {g : Lc} (h : PsI K H it g) (k : KT H H') : PsI K H' it g := let ⟨x, a, b⟩ := h; ⟨x, k _ _ a (fun _ e => by cases e), b.kt k⟩
def spPas (K : PySem.W.Frag) : Sp := fun vs H Q _ => ∃ (p l : Addr) (n : Nat) (gs : List Lc), vs = [.ref p, .ref l] ∧ Box H p n ∧ LsC 20 H l gs ∧ l ≠ p ∧ n + 14 ≤ 1000000 ∧ ∀ r xs H', Kp p H H' → Box H' p (n + 14) → PsL K H' r xs gs → H r = none → Q (.ref r) H'
structure PaI (K : PySem.W.Frag) (H : Hp) (p : Addr) (n : Nat) (gs : List Lc) (i : Nat) (H' : Hp) (r : Addr) (xs : List Addr) : Prop where
  k : Kp p H H'
  b : Box H' p (n + i)
  r0 : H r = none
  rp : r ≠ p
  ls : PsL K H' r xs (gs.take i)
def sPasM (K : PySem.W.Frag) (H : Hp) (p l : Addr) (n : Nat) (gs : List Lc) : TS := fun D σ H' => ∃ (r : Addr) (i : Nat) (g : Lc) (xs : List Addr) (x : V), σ = [some (.ref p), some (.ref l), some (.ref r), some (.str g.nm), some (.str g.pa), some (.str g.un), some (.ref g.a), some x] ∧ gs[i]? = some g ∧ Kp p H H' ∧ Box H' p (n + (i + 1)) ∧ H r = none ∧ r ≠ p ∧ PsL K H' r xs (gs.take i) ∧ Arg K H' x g.t g.u 21 ∧ gs.length ≤ 14 ∧
  ∀ H'' xs', PaI K H p n gs (i + 1) H'' r xs' → D.nx [some (.ref p), some (.ref l), some (.ref r), some (.str g.nm), some (.str g.pa), some (.str g.un), some (.ref g.a), some x] H''
def sPasB (K : PySem.W.Frag) (H : Hp) (p l : Addr) (n : Nat) (gs : List Lc) : TS := fun D σ H' => ∃ (r : Addr) (i : Nat) (g : Lc) (xs : List Addr) (v7 : Option V), σ = [some (.ref p), some (.ref l), some (.ref r), some (.str g.nm), some (.str g.pa), some (.str g.un), some (.ref g.a), v7] ∧ gs[i]? = some g ∧ PaI K H p n gs i H' r xs ∧
  ∀ H'' xs' v7, PaI K H p n gs (i + 1) H'' r xs' → D.nx [some (.ref p), some (.ref l), some (.ref r), some (.str g.nm), some (.str g.pa), some (.str g.un), some (.ref g.a), v7] H''
structure PrF (P : Program) (w : World) (K : PySem.W.Frag) (mg : Str → Option Value) (base : Heap) (f fld : Str) (pa fa : Addr) (fd : FuncData) : Prop where
  pr : PropOf K (CA K) f pa fa
  ok : FnOk P w K mg base (L2.CX P w) 1 fa fd ["self"] (getSp (CA K) fld)
  bi : Binds K fd ["self"] []
section
variable {P : Program} {w : World} {K : PySem.W.Frag} {mg : Str → Option Value} {base : Heap} {f fT fI pT pB fB : Addr} {fd fdT fdI fdB : FuncData}
theorem ok_pas (F : FnP K "_law_passed" sPas f fd) (T : AF K mg) (GT : Fn0 P w K mg base "_law_take" 1 ["_law_box_here", "_law_many"] spTake fT fdT) (GI : FnOk P w K mg base (L2.CX P w) 4 (aI K) fdI ["self", "top", "bottom"] (spInit K)) (b2 : Binds K fdI ["self", "top", "bottom"] []) : FnOk P w K mg base (L2.CX P w) 6 f fd ["_law_box_here", "_law_cues_here"] (spPas K) := by
  refine F.ok scPas (fun vs H Q E h => ?_) (fun cdv A outer s H vs Q E hr h => ?_)
  · obtain ⟨p, l, n, gs, rfl, _⟩ := h
    rfl
  · obtain ⟨p, l, n, gs, rfl, hb, hl, lp, hn, k⟩ := h
    have hr1 := hr.mono (show 1 ≤ 5 by decide)
    have hr5 := hr.mono (show 5 ≤ 5 by decide)
    refine ⟨_, (pss_cons (ps_set (i := 2) scPas.nd rfl (Or.inl rfl) (pe_lst pa_nil))
      (pss_cons (ps_for (passes_of rfl) rfl (pi_list (pv 1)) (pg_tup (by rfl) (pgs_cons (pg_name (i := 3) scPas.nd rfl (Or.inl rfl)) (pgs_cons (pg_name (i := 4) scPas.nd rfl (Or.inl rfl)) (pgs_cons (pg_name (i := 5) scPas.nd rfl (Or.inl rfl)) (pgs_cons (pg_name (i := 6) scPas.nd rfl (Or.inl rfl)) pgs_nil)))))
      (pss_imp (S := sPasB K H p l n gs) (pss_cons (ps_set (i := 7) scPas.nd rfl (Or.inl rfl) (pe_make T.mkA GI hr5 rfl T.g b2 .nil passL (pa_cons (pe_ix ix_tup (pv 6) pe_int (fun _ _ => rfl)) (pa_cons (pe_ix ix_tup (pv 6) pe_int (fun _ _ => rfl)) pa_nil))))
      (pss_cons (ps_if (PW.pt (pw_and (pt_cmpR op_eq (pe_ix ix_tup (pv 6) pe_int (fun _ _ => rfl)) pe_int (nomark _)) (pw_and1 (pt_cmpR op_eq (pe_call GT.ok hr1 rfl GT.g GT.k GT.b .nil pass0 (pa_cons (pv 0) (pa_cons pe_int pa_nil))) pe_int (nomark _))))) (pss_one (ps_set (i := 7) scPas.nd rfl (Or.inl rfl) (pe_ix ix_tup (pv 6) pe_int (fun _ _ => rfl)))) pss_nil)
      (pss_imp (S := sPasM K H p l n gs) (pss_one (ps_expr (pe_bm PySem.F.plainAttrs_list PySem.F.slot_list_append PySem.F.type_list_append mt_append (pv 2) (pa_cons (pe_tup (pa_cons (pv 3) (pa_cons (pv 4) (pa_cons (pv 5) (pa_cons (pv 7) pa_nil))))) pa_nil)))) ?app))) ?body))
      (pss_one (ps_ret (pv 2))))), ?_⟩
    case app =>
      rintro D σ H1 ⟨r, i, g, xs, x, rfl, eg, kp, bx, r0, rp, ls, ar, h14, kn⟩
      have hi := (List.getElem?_eq_some_iff.mp eg).1
      refine ⟨_, rfl, .inl ⟨rfl, _, SqL.of ls.l⟩, _, rfl, _, rfl, _, rfl, _, rfl, by show 4 ≤ sizeLine; decide, fun q hq => ?_⟩
      have s2 := Same.upd (o := .tup [.str g.nm, .str g.pa, .str g.un, x]) hq
      have q2 : upd H1 q (.tup [.str g.nm, .str g.pa, .str g.un, x]) q = some (.tup [.str g.nm, .str g.pa, .str g.un, x]) := upd_same
      generalize upd H1 q (.tup [.str g.nm, .str g.pa, .str g.un, x]) = H2 at s2 q2 ⊢
      have l2 := s2 _ _ ls.l
      refine ⟨r, _, _, rfl, rfl, l2, ?_, ?_⟩
      · rw [List.length_map, ls.len, List.length_take]
        exact Nat.lt_of_lt_of_le (show min i gs.length < 100 by omega) (by decide)
      have kt : KT H2 (upd H2 r (.lst (xs.map V.ref ++ [.ref q]))) := KT.put l2
      refine kn _ (xs ++ [q]) ⟨(kp.trans (Kp.same s2)).put r0, (bx.sm s2).put rp, r0, rp, ⟨by rw [upd_same, List.map_append]; rfl, by rw [List.length_append, List.take_add_one, eg, List.length_append, ls.len]; rfl, fun j it g' e1 e2 => ?_⟩⟩
      rw [List.take_add_one, eg] at e2
      rcases Nat.lt_or_ge j xs.length with hj | hj
      · rw [List.getElem?_append_left hj] at e1
        rw [List.getElem?_append_left (by rw [← ls.len]; exact hj)] at e2
        exact (ls.ok j it g' e1 e2).kt ((KT.of s2).trans kt)
      · have hj2 : j = xs.length := by
          have := (List.getElem?_eq_some_iff.mp e1).1
          rw [List.length_append, List.length_singleton] at this
          omega
        rw [List.getElem?_append_right hj, hj2, Nat.sub_self] at e1
        rw [List.getElem?_append_right (by rw [← ls.len]; exact hj), hj2, ← ls.len, Nat.sub_self] at e2
        cases e1
        cases e2
        exact ⟨x, kt _ _ q2 (fun _ e => by cases e), (ar.same s2).kt kt⟩
    case body =>
      rintro D σ H1 ⟨r, i, g, xs, v7, rfl, eg, I, kn⟩
      obtain ⟨c1, c2, _⟩ := (hl.ok g (List.mem_of_getElem? eg)).kt (KT.kp hb I.k)
      have hi := (List.getElem?_eq_some_iff.mp eg).1
      have h14 := hl.n
      have u0 := c2.rd.1
      refine ⟨_, rfl, g.a, _, 0, _, rfl, rfl, SqT.of c2.at_, rfl, _, rfl, g.a, _, 1, _, rfl, rfl, SqT.of c2.at_, rfl, ?_⟩
      refine fun y dy hy hdy hne => spInit_imp (make_fact T (n := 20) (a := g.t) (b := g.u) (by omega) (by decide) c2.bt c2.bu hy hdy hne) fun v H2 ⟨hv, t', u', s2, iy, e2⟩ => ⟨hv, ?_⟩
      have et : t' = g.t ∧ u' = g.u := by
        obtain ⟨_, _, _, _, r', _⟩ := id iy
        exact Am.uniq r' c2.rd e2
      obtain ⟨rfl, rfl⟩ := et
      have c2' := c2.kt (KT.of s2)
      have fin : ∀ H3 x m, Kp p H H3 → Box H3 p m → m ≤ n + (i + 1) → PsL K H3 r xs (gs.take i) → Arg K H3 x g.t g.u 21 → sPasM K H p l n gs D [some (.ref p), some (.ref l), some (.ref r), some (.str g.nm), some (.str g.pa), some (.str g.un), some (.ref g.a), some x] H3 := fun H3 x m k3 b3 hm ls3 ar3 =>
        ⟨r, i, g, xs, x, rfl, eg, k3, b3.mono hm, I.r0, I.rp, ls3, ar3, h14, fun H'' xs' I' => kn H'' xs' _ I'⟩
      have b2 := I.b.sm s2
      have k2 := I.k.trans (Kp.same s2)
      have ls2 : PsL K H2 r xs (gs.take i) := ⟨s2 _ _ I.ls.l, I.ls.len, fun j it g' e1 e2 => (I.ls.ok j it g' e1 e2).kt (KT.of s2)⟩
      have ary : Arg K H2 (.ref y) g.t g.u 21 := .inl (iy.mono (by decide))
      refine ⟨_, rfl, g.a, _, 1, _, rfl, rfl, SqT.of c2'.at_, rfl, rfl, _, rfl, ?_⟩
      by_cases cu : g.u = 1
      · refine if_true_of (decide_eq_true (by rw [cu])) ?_
        refine ⟨_, rfl, p, 2, _, rfl, b2, by omega, by decide, by decide, fun z H3 z0 z1 b3 k3 => ⟨rfl, _, rfl, ?_⟩⟩
        have kt3 := KT.kp b2 (Kp.but k3)
        have ls3 : PsL K H3 r xs (gs.take i) := ⟨by rw [k3 r I.rp]; exact ls2.l, ls2.len, fun j it g' e1 e2 => (ls2.ok j it g' e1 e2).kt kt3⟩
        by_cases cz : z = 0
        · rw [decide_eq_true (by rw [cz])]
          refine iteT ⟨_, rfl, g.a, _, 0, _, rfl, rfl, SqT.of (c2'.kt kt3).at_, rfl, ?_⟩
          exact fin H3 _ _ (k2.trans (Kp.but k3)) b3 (by omega) ls3 (.inr ⟨rfl, cu, pow_step c2.bt (by decide), by decide⟩)
        · rw [decide_eq_false fun e => cz (V.int.inj e)]
          exact iteF (fin H3 _ _ (k2.trans (Kp.but k3)) b3 (by omega) ls3 (ary.kt kt3))
      · refine if_false_of (decide_eq_false fun e => cu (V.int.inj e)) ?_
        exact iteF (fin H2 _ _ k2 b2 (by omega) ls2 ary)
    refine ⟨by show 0 ≤ sizeLine; decide, fun r hr0 => ?_⟩
    have s1 := Same.upd (o := .lst []) hr0
    have rp : r ≠ p := (hb.ne hr0).symm
    have r1 : upd H r (.lst []) r = some (.lst []) := upd_same
    have b1 := hb.sm s1
    generalize upd H r (.lst []) = H1 at s1 r1 b1 ⊢
    have i0 : PaI K H p n gs 0 H1 r [] := ⟨Kp.same s1, b1, hr0, rp, ⟨r1, rfl, fun j it g e => by cases e⟩⟩
    refine ⟨_, rfl, l, rfl, ⟨_, SqL.of (s1 _ _ hl.l)⟩, for_list (K := K) (a := l) (xs := gs.map fun g => V.ref g.q) (fun i σ H' => ∃ (v3 v4 v5 v6 v7 : Option V) (xs : List Addr), σ = [some (.ref p), some (.ref l), some (.ref r), v3, v4, v5, v6, v7] ∧ PaI K H p n gs i H' r xs) ⟨_, _, _, _, _, [], rfl, i0⟩ (fun i σ H' _ ⟨_, _, _, _, _, _, _, I⟩ => SqL.of (I.k _ _ lp hl.l)) ?_ ?_⟩
    · rintro i x σ H2 hx ⟨v3, v4, v5, v6, v7, xs, rfl, I⟩
      obtain ⟨g, eg, rfl⟩ := map_at hx
      have c1 := ((hl.ok g (List.mem_of_getElem? eg)).kt (KT.kp hb I.k)).1
      exact ⟨g.q, _, rfl, SqT.of c1, rfl, _, _, rfl, _, _, rfl, _, _, rfl, _, _, rfl, rfl, r, i, g, xs, v7, rfl, eg, I, fun H'' xs' v7 I' => ⟨_, _, _, _, _, xs', rfl, I'⟩⟩
    · rintro σ H2 ⟨v3, v4, v5, v6, v7, xs, rfl, I⟩
      have h14 := hl.n
      have hls := I.ls
      rw [List.length_map, List.take_length] at hls
      have hbx := I.b
      rw [List.length_map] at hbx
      exact ⟨_, rfl, k r xs H2 I.k (hbx.mono (by omega)) hls hr0⟩
end
end K13
set_option Elab.async false
set_option linter.all false
set_option maxRecDepth 100000
set_option maxHeartbeats 1000000
set_option exponentiation.threshold 100000
namespace K13
open PySem PySem.Spec PyProof.Rows L2 Fa Fb
abbrev sCM : Stmt := top 46
theorem scCM : FnScope ["sheet", "number"] ["sheet", "number"] (defScope sCM) := ⟨rfl, rfl, rfl, by decide +kernel, rfl, by decide +kernel, by decide +kernel⟩
abbrev sSub : Stmt := inClass (top 32) 5
theorem scSub : FnScope ["self", "other", "right"] ["self", "other"] (defScope sSub) := ⟨rfl, rfl, rfl, by decide +kernel, rfl, by decide +kernel, by decide +kernel⟩
abbrev spSub (K : PySem.W.Frag) : Sp := spOp K (fun t u t2 u2 => t * u2 - t2 * u) (fun _ u _ u2 => u * u2)
theorem vq_neg (t u : Int) : vq (-t) u = -vq t u := by
  unfold vq
  rw [Rat.intCast_neg]
  grind
/-- the bits of a fraction by its value -/
theorem vb_bits {t u : Int} {D X m : Nat} (r : Am.Red t u) (h : M06.VB D X (vq t u)) (hD : 0 < D) (dm : D < 2 ^ m) (xm : X < 2 ^ m) : t.natAbs < 2 ^ m ∧ u.natAbs < 2 ^ m := by
  obtain ⟨N, e, hN⟩ := h
  have hu := cast_ne (Int.ne_of_gt r.1)
  have e1 : (t : Rat) * (D : Rat) = (N : Rat) * (u : Rat) := by
    rw [← e]
    unfold vq
    grind
  have e2 : t * (D : Int) = N * u := by
    apply Rat.intCast_inj.mp
    rw [Rat.intCast_mul, Rat.intCast_mul]
    exact e1
  have e3 : t.natAbs * D = N.natAbs * u.natAbs := by
    have := congrArg Int.natAbs e2
    rwa [Int.natAbs_mul, Int.natAbs_mul, Int.natAbs_natCast] at this
  have up : 0 < u.natAbs := Int.natAbs_pos.mpr (Int.ne_of_gt r.1)
  have d1 : u.natAbs ∣ D := by
    have z : u.natAbs ∣ t.natAbs * D := by
      rw [e3]
      exact Nat.dvd_mul_left _ _
    exact Nat.Coprime.dvd_of_dvd_mul_left (show Nat.Coprime u.natAbs t.natAbs by rw [Nat.coprime_comm]; exact r.2) z
  obtain ⟨k, hk⟩ := d1
  have kp : 0 < k := Nat.pos_of_ne_zero fun z => by
    rw [z, Nat.mul_zero] at hk
    omega
  have e4 : t.natAbs * k = N.natAbs := by
    apply Nat.eq_of_mul_eq_mul_right up
    rw [← e3, hk, Nat.mul_assoc, Nat.mul_comm k]
  have l1 : t.natAbs ≤ N.natAbs := by
    rw [← e4]
    exact Nat.le_mul_of_pos_right _ kp
  have l2 : u.natAbs ≤ D := by
    rw [hk]
    exact Nat.le_mul_of_pos_right _ kp
  exact ⟨by omega, by omega⟩
theorem IsA.vb {K : PySem.W.Frag} {H : Hp} {x : V} {t u : Int} {n D X m : Nat} (h : IsA K H x t u n) (b : M06.VB D X (vq t u)) (hD : 0 < D) (dm : D < 2 ^ m) (xm : X < 2 ^ m) : IsA K H x t u m := by
  obtain ⟨p, dx, e, hp, r, _, _⟩ := h
  obtain ⟨b1, b2⟩ := vb_bits r b hD dm xm
  exact ⟨p, dx, e, hp, r, b1, b2⟩
theorem RowOk.vb {K : PySem.W.Frag} {n D X m : Nat} {H : Hp} {p : Addr} {gs : List It} (h : RowOk K n H p gs) (b : M06.RVB D X (rv gs)) (hD : 0 < D) (dm : D < 2 ^ m) (xm : X < 2 ^ m) : RowOk K m H p gs :=
  ⟨h.l, fun g hg => ⟨(h.ok g hg).1, (h.ok g hg).2.vb (b _ (List.mem_map.mpr ⟨g, hg, rfl⟩)) hD dm xm⟩, h.n⟩
/-- how two rows are bounded, by value -/
structure BdW (D X m n : Nat) : Prop where
  d : 0 < D
  dm : D < 2 ^ m
  xm : 1000 * X < 2 ^ m
  m1 : 1 ≤ m
  m2 : m ≤ 2900
  n : n ≤ 30
theorem BdW.lt {D X m n k : Nat} (h : BdW D X m n) (e : k ≤ 1000) : k * X < 2 ^ m := Nat.lt_of_le_of_lt (Nat.mul_le_mul_right _ e) h.xm
theorem rv_len (gs : List It) : (rv gs).length = gs.length := List.length_map ..
theorem BdW.mono {D X m n n' : Nat} (h : BdW D X m n) (e : n' ≤ n) : BdW D X m n' := ⟨h.d, h.dm, h.xm, h.m1, h.m2, Nat.le_trans e h.n⟩
/-- the bounds of a sheet's cues -/
structure BdS (D Y m : Nat) (cs : List M04.Cue) : Prop where
  c : ∀ c ∈ cs, M06.VB D Y c.q
  b : BdW D (cs.length * Y) m (cs.length + cs.length)
theorem BdS.x {D Y m : Nat} {cs : List M04.Cue} (h : BdS D Y m cs) : cs.length * Y < 2 ^ m := Nat.lt_of_le_of_lt (Nat.le_mul_of_pos_left _ (by decide)) h.b.xm
def spCM (K : PySem.W.Frag) : Sp := fun vs H Q E => ∃ o mm H0 gs y, vs = [.ref o, y] ∧ ShAt K mm H0 H o gs ∧ (((∀ J, Same H J → Wh K J y false) ∧ ∀ J, Same H J → Err (CI K) y J E) ∨ ∃ i : Int, y = .int i ∧ (¬ (0 ≤ i ∧ i < ((M04.all (gs.map cv)).rows.length : Int)) → ∀ J, Same H J → Err (CI K) y J E) ∧ ((0 ≤ i ∧ i < ((M04.all (gs.map cv)).rows.length : Int)) → ∀ J, Same H J → Q .non J))
theorem same_unlock {H H' : Hp} {d : Addr} {od : Obj} {u : HO} (hd : H d = some u) (s : Same (upd H d (.frz od u)) H') : Same H (upd H' d u) := fun q o h => by
  by_cases e : q = d
  · rw [e] at h ⊢
    rw [hd] at h
    rw [upd_same, h]
  · rw [upd_ne e]
    exact s q o (by rw [upd_ne e]; exact h)
section
variable {P : Program} {w : World} {K : PySem.W.Frag} {mg : Str → Option Value} {base : Heap} {f fS fW fI fM fC : Addr} {fd fdS fdW fdI fdM fdC : FuncData} {qv tv : Str} {fV : Addr}
theorem ok_cm (F : FnP K "check_moment" sCM f fd) (T : AF K mg) (M : MF K mg) (mL : mg "len" = none) (XI : Xb.Txt P.main.file K qv "value" tv (CI K) fV) (htop : (P.main.scope.names.lookup ("super" : Str)).isSome = false) (IN : Fn P w K mg base "is_integer" 2 ["value", "low", "high"] (spIntg K) fI fdI) (MO : MeS P w K mg base "moments" 1 ["self"] (spMos K) fM fdM) : FnOk P w K mg base (L2.CX P w) 3 f fd ["sheet", "number"] (spCM K) := by
  refine F.ok scCM (fun vs H Q E h => ?_) (fun cdv A outer s H vs Q E hr h => ?_)
  · obtain ⟨o, mm, H0, gs, y, rfl, _⟩ := h
    rfl
  · obtain ⟨o, mm, H0, gs, y, rfl, sh, k⟩ := h
    have hr1 := hr.mono (show 1 ≤ 2 by decide)
    have hr2 := hr.mono (show 2 ≤ 2 by decide)
    refine ⟨_, (pss_one (ps_if (pt_not (pt_val (pe_call IN.ok hr2 rfl IN.g IN.k IN.b .nil passL (pa_cons (pv 1) (pa_cons pe_int (pa_cons (pe_op op_sub (pe_callB call_len rfl mL PySem.boot_len (pa_cons (pe_meth0 (pv 0) M.cl MO.me MO.ok hr1 MO.b .nil passL) pa_nil)) pe_int) pa_nil)))))) (pss_one (Xb.ps_raiseX (W := fun cls d _ H => E cls d H) rfl XI T.gI htop hr2 (takes_of rfl rfl rfl rfl) (pa_cons (pv 1) pa_nil))) pss_nil)), ?_⟩
    obtain ⟨dx, c, r, d, rs, ho, inn⟩ := id sh
    have nn : (shFl c r d).lookup ("moments" : Str) = none := sh_no c r d (by decide +kernel) (by decide +kernel) (by decide +kernel)
    refine ⟨_, rfl, _, rfl, o, dx, _, rfl, ho, nn, o, mm, H0, gs, rfl, sh, fun l rs' H1 s1 ml l0 ev => ?_⟩
    have el : rs'.length = (M04.all (gs.map cv)).rows.length := by rw [← ev, List.length_map]
    refine ⟨_, _, rfl, .inl ⟨_, SqL.of ml.at_, rfl⟩, _, _, rfl, rfl, ?_⟩
    rw [List.length_map, el]
    rcases k with ⟨wh, er⟩ | ⟨i, rfl, er, k⟩
    · exact ⟨_, _, _, rfl, .inl ⟨wh _ s1, _, rfl, iteT ⟨_, rfl, _, rfl, er _ s1⟩⟩⟩
    · refine ⟨_, _, _, rfl, .inr ⟨i, rfl, _, rfl, ?_⟩⟩
      by_cases c : 0 ≤ i ∧ i < ((M04.all (gs.map cv)).rows.length : Int)
      · rw [decide_eq_true c.1, decide_eq_true (show i ≤ ((M04.all (gs.map cv)).rows.length : Int) - 1 by omega)]
        exact iteF (k c _ s1)
      · have e2 : (decide (0 ≤ i) && decide (i ≤ ((M04.all (gs.map cv)).rows.length : Int) - 1)) = false := by
          by_cases c1 : 0 ≤ i
          · rw [decide_eq_false (show ¬ i ≤ ((M04.all (gs.map cv)).rows.length : Int) - 1 by omega), Bool.and_false]
          · rw [decide_eq_false c1, Bool.false_and]
        rw [e2]
        exact iteT ⟨_, rfl, _, rfl, er c _ s1⟩
theorem ok_sub (F : FunD K "__sub__" "Amount.__sub__" (defArgs sSub) (defBody sSub) (defScope sSub) [] [] f fd) (T : AF K mg) (GS : FnOk P w K mg base (L2.CX P w) 6 fS fdS ["value"] (spAs K)) (gS : mg "as_amount" = some (.ref fS)) (kS : PySem.W.keepIn K (.ref fS) = true) (bS : Binds K fdS ["value"] [])
    (GI : FnOk P w K mg base (L2.CX P w) 4 (aI K) fdI ["self", "top", "bottom"] (spInit K)) (bI : Binds K fdI ["self", "top", "bottom"] []) : FnOk P w K mg base (L2.CX P w) 7 f fd ["self", "other"] (spOp K (fun t u t2 u2 => t * u2 - t2 * u) (fun _ u _ u2 => u * u2)) := by
  refine F.ok scSub (fun vs H Q E h => ?_) (fun cdv A outer s H vs Q E hr h => ?_)
  · obtain ⟨x, y, t, u, n, rfl, _⟩ := h
    rfl
  · obtain ⟨x, y, t, u, n, rfl, ix, q⟩ := h
    have hr1 := hr.mono (show 5 ≤ 6 by decide)
    refine ⟨_, pss_cons (ps_set (i := 2) scSub.nd rfl (Or.inl rfl) (pe_callS GS hr rfl gS kS bS (fun σ => passAt (W := fun cls d _ H => E cls d H) (takes_of rfl rfl rfl rfl) σ) (pa_cons (pv 1) pa_nil)))
      (pss_one (ps_ret (pe_make T.mkA GI hr1 rfl T.g bI .nil passL (pa_cons (pe_op op_sub (pe_op op_mulW (pe_fld (pv 0) rfl) (pe_fld (pv 2) rfl)) (pe_op op_mulW (pe_fld (pv 2) rfl) (pe_fld (pv 0) rfl))) (pa_cons (pe_op op_mulW (pe_fld (pv 0) rfl) (pe_fld (pv 2) rfl)) pa_nil))))), ?_⟩
    refine ⟨_, rfl, y, rfl, ?_⟩
    rcases q with ⟨hb, er⟩ | ⟨t2, u2, m, ar, hnm, q⟩
    · exact .inl ⟨hb, er⟩
    · refine .inr ⟨t2, u2, m, ar, fun z H' sm iz => ?_⟩
      have ix' := ix.same sm
      obtain ⟨p, dx, rfl, hp, r, b1, b2⟩ := id ix'
      obtain ⟨p2, dx2, rfl, hp2, r2, b3, b4⟩ := id iz
      refine ⟨_, rfl, p, CA K, dx, _, _, rfl, hp, T.cl, T.noT, fl_top _ _, ?_⟩
      refine ⟨_, rfl, p2, CA K, dx2, _, _, rfl, hp2, T.cl, T.noB, fl_bot _ _, ?_⟩
      refine ⟨_, _, rfl, rfl, mulW_of b1 b4 (by omega), ?_⟩
      refine ⟨_, rfl, p2, CA K, dx2, _, _, rfl, hp2, T.cl, T.noT, fl_top _ _, ?_⟩
      refine ⟨_, rfl, p, CA K, dx, _, _, rfl, hp, T.cl, T.noB, fl_bot _ _, ?_⟩
      refine ⟨_, _, rfl, rfl, mulW_of b3 b2 (by omega), _, _, rfl, rfl, ?_⟩
      refine ⟨_, rfl, p, CA K, dx, _, _, rfl, hp, T.cl, T.noB, fl_bot _ _, ?_⟩
      refine ⟨_, rfl, p2, CA K, dx2, _, _, rfl, hp2, T.cl, T.noB, fl_bot _ _, ?_⟩
      refine ⟨_, _, rfl, rfl, mulW_of b2 b4 (by omega), ?_⟩
      have hu : u * u2 ≠ 0 := Int.mul_ne_zero (by have := r.1; omega) (by have := r2.1; omega)
      refine make_read T (n := n + m + 1) hu (by omega) ?_ ?_ fun y' H2 t' u' s2 i2 e => q y' H2 t' u' (sm.trans s2) i2 e
      · exact abs_sub_lt (abs_mul_lt b1 b4) (by rw [Nat.add_comm]; exact abs_mul_lt b3 b2)
      · exact pow_step (abs_mul_lt b2 b4) (by omega)

end
end K13
set_option linter.all false
/-! Facts, what they say, and the strongest saying. -/
namespace M13
open PySem
inductive Fc where
  | ord (a w b : Str)
  | apt (u a b : Str) (q : Rat)
  | btw (u a b : Str) (lo hi : Option Rat)
def Fc.names : Fc → Str × Str
  | .ord a _ b => (a, b)
  | .apt _ a b _ => (a, b)
  | .btw _ a b _ _ => (a, b)
/-- unit, one, other, least amount, further than it -/
abbrev Say : Type := Str × Nat × Nat × Rat × Bool
def says (num : Str → Nat) : Fc → List Say
  | .ord _ _ _ => []
  | .apt u a b q => [(u, num a, num b, q, false), (u, num b, num a, -q, false)]
  | .btw u a b lo hi => (match lo with | some q => [(u, num a, num b, q, true)] | none => []) ++ (match hi with | some q => [(u, num b, num a, -q, true)] | none => [])
abbrev Bst : Type := Option (Rat × Bool)
/-- more is known by a saying about the same two -/
def more (b : Bst) (q : Rat) (f : Bool) : Bst := match b with
  | none => some (q, f)
  | some (x, g) => if x < q then some (q, f) else if q = x then some (q, f || g) else some (x, g)
def step (u : Str) (i j : Nat) (b : Bst) (s : Say) : Bst := if (s.1, s.2.1, s.2.2.1) = (u, i, j) then more b s.2.2.2.1 s.2.2.2.2 else b
def best (l : List Say) (u : Str) (i j : Nat) : Bst := l.foldl (step u i j) none
theorem best_app (l : List Say) (s : Say) (u : Str) (i j : Nat) : best (l ++ [s]) u i j = step u i j (best l u i j) s := by
  unfold best
  rw [List.foldl_append]
  rfl
theorem says_len (num : Str → Nat) (f : Fc) : (says num f).length ≤ 2 := by
  cases f with
  | ord a w b => exact Nat.zero_le _
  | apt u a b q => exact Nat.le_refl _
  | btw u a b lo hi =>
    unfold says
    cases lo <;> cases hi <;> simp
end M13
set_option Elab.async false
set_option linter.all false
set_option maxRecDepth 100000
set_option maxHeartbeats 1000000
set_option exponentiation.threshold 100000
namespace T13
open PySem PySem.Spec PyProof.Rows L2 Fa Fb K13
open M13 (Fc)
abbrev sWord : Stmt := top 29
theorem scWord : FnScope ["value"] ["value"] (defScope sWord) := ⟨rfl, rfl, rfl, by decide +kernel, rfl, by decide +kernel, by decide +kernel⟩
abbrev sLim : Stmt := top 49
theorem scLim : FnScope ["value"] ["value"] (defScope sLim) := ⟨rfl, rfl, rfl, by decide +kernel, rfl, by decide +kernel, by decide +kernel⟩
abbrev sNof : Stmt := top 50
theorem scNof : FnScope ["fact"] ["fact"] (defScope sNof) := ⟨rfl, rfl, rfl, by decide +kernel, rfl, by decide +kernel, by decide +kernel⟩
abbrev sHf : Stmt := top 48
theorem scHf : FnScope ["value"] ["value"] (defScope sHf) := ⟨rfl, rfl, rfl, by decide +kernel, rfl, by decide +kernel, by decide +kernel⟩

def isWord (z : Str) : Bool := decide (z = "before") || (decide (z = "same") || decide (z = "after"))
theorem inV_word (z : Str) : inV (.str z) [.str "before", .str "same", .str "after"] = isWord z := by
  unfold inV isWord
  simp only [List.any_cons, List.any_nil, eqV, Bool.or_false, sbeq]
/-- a limit: none, or an amount -/
def LimV (K : PySem.W.Frag) (n : Nat) (H : Hp) (x : V) (l : Option Rat) : Prop := (x = .non ∧ l = none) ∨ ∃ t u, Arg K H x t u n ∧ l = some (vq t u)
theorem LimV.same {K : PySem.W.Frag} {n : Nat} {H H' : Hp} {x : V} {l : Option Rat} (h : LimV K n H x l) (s : Same H H') : LimV K n H' x l := h.imp id fun ⟨t, u, a, e⟩ => ⟨t, u, a.same s, e⟩
/-- a fact as it is passed on -/
def FcV (K : PySem.W.Frag) (n : Nat) (H : Hp) (q : Addr) : Fc → Prop
  | .ord a w b => H q = some (.tup [.str "order", .str a, .str w, .str b]) ∧ isWord w = true
  | .apt un a b x => isUnit un = true ∧ ∃ v t u, H q = some (.tup [.str "apart", .str un, .str a, .str b, v]) ∧ Arg K H v t u n ∧ vq t u = x
  | .btw un a b lo hi => isUnit un = true ∧ ∃ v w, H q = some (.tup [.str "between", .str un, .str a, .str b, v, w]) ∧ LimV K n H v lo ∧ LimV K n H w hi
theorem FcV.same {K : PySem.W.Frag} {n : Nat} {H H' : Hp} {q : Addr} {f : Fc} (h : FcV K n H q f) (s : Same H H') : FcV K n H' q f := by
  cases f with
  | ord a w b => exact ⟨s _ _ h.1, h.2⟩
  | apt un a b x => obtain ⟨hu, v, t, u, h1, h2, h3⟩ := h; exact ⟨hu, v, t, u, s _ _ h1, h2.same s, h3⟩
  | btw un a b lo hi => obtain ⟨hu, v, w, h1, h2, h3⟩ := h; exact ⟨hu, v, w, s _ _ h1, h2.same s, h3.same s⟩
def spLim (K : PySem.W.Frag) : Sp := fun vs H Q _ => ∃ x l n, vs = [x] ∧ LimV K n H x l ∧ Q (.bl true) H
def spNof (K : PySem.W.Frag) : Sp := fun vs H Q _ => ∃ q f n, vs = [.ref q] ∧ FcV K n H q f ∧ ∀ w H', Same H H' → H' w = some (.tup [.str f.names.1, .str f.names.2]) → Q (.ref w) H'
def spHf (K : PySem.W.Frag) : Sp := fun vs H Q _ => ∃ q f n, vs = [.ref q] ∧ FcV K n H q f ∧ Q (.bl true) H
section
variable {P : Program} {w : World} {K : PySem.W.Frag} {mg : Str → Option Value} {base : Heap} {f f1 f2 f3 fi aU aW : Addr} {fd fd1 fd2 fd3 fdi : FuncData}
theorem ok_word (F : FnP K "is_word" sWord f fd) (T : AF K mg) (V : VF K mg aU) (gW : mg "WORDS" = some (.ref aW)) (hW : ∀ H, SqT K H aW [.str "before", .str "same", .str "after"]) : FnOk P w K mg base (L2.CX P w) 1 f fd ["value"] (spText K isWord) := by
  refine F.ok scWord (fun vs H Q E h => ?_) (fun cdv A outer s H vs Q E hr h => ?_)
  · obtain ⟨x, rfl, _⟩ := h
    rfl
  · obtain ⟨x, rfl, q⟩ := h
    refine ⟨_, pss_one (ps_ret (pe_and (pe_isi T.isi (pv 0) (pe_ty V.str K13.boot_str)) (pe_one (pe_cmpR op_in_seq (pv 0) (pe_glob (v := .ref aW) rfl gW rfl) (by rfl))))), ?_⟩
    rcases q with ⟨⟨ty, h1, h2⟩, q⟩ | ⟨z, rfl, q⟩
    · exact ⟨_, rfl, x, _, ty, _, false, rfl, .ty "str", h1, h2, false, rfl, iteF q⟩
    · refine ⟨_, rfl, .str z, _, _, _, true, rfl, .ty "str", TyX.base (.str z), tx_str, true, rfl, iteT ⟨_, rfl, aW, _, rfl, .inr (hW H), rfl, rfl, ?_⟩⟩
      rw [if_neg (by decide), inV_word]
      exact q
theorem ok_lim (F : FnP K "_is_limit" sLim f fd) (T : AF K mg) (IA : Fn P w K mg base "is_amount" 2 ["value"] (spIsA K) f1 fd1) : FnOk P w K mg base (L2.CX P w) 3 f fd ["value"] (spLim K) := by
  refine F.ok scLim (fun vs H Q E h => ?_) (fun cdv A outer s H vs Q E hr h => ?_)
  · obtain ⟨x, l, n, rfl, _⟩ := h
    rfl
  · obtain ⟨x, l, n, rfl, lv, k⟩ := h
    have hr2 := hr
    refine ⟨_, (pss_one (ps_ret (pe_or (pe_cmpR op_isN (pv 0) pe_non (nomark _)) (pe_one (pe_call IA.ok hr2 rfl IA.g IA.k IA.b .nil passL (pa_cons (pv 0) pa_nil)))))), ?_⟩
    rcases lv with ⟨rfl, rfl⟩ | ⟨t, u, ar, rfl⟩
    · exact ⟨_, rfl, rfl, _, rfl, if_true_of (by rfl) k⟩
    · obtain ⟨ty1, c1, c2, d1, d2, d3, d4⟩ := arg_am T ar
      have nx : decide (x = V.non) = false := by rcases ar with ⟨p, dx, e, _⟩ | ⟨e, _⟩ <;> rw [e] <;> rfl
      exact ⟨_, rfl, rfl, _, rfl, if_false_of nx ⟨_, rfl, x, ty1, c1, c2, rfl, d1, d2, d3, by rw [d4]; exact k⟩⟩
theorem ok_nof (F : FnP K "names_of" sNof f fd) : FnOk P w K mg base (L2.CX P w) 1 f fd ["fact"] (spNof K) := by
  refine F.ok scNof (fun vs H Q E h => ?_) (fun cdv A outer s H vs Q E hr h => ?_)
  · obtain ⟨q, fc, n, rfl, _⟩ := h
    rfl
  · obtain ⟨q, fc, n, rfl, fv, k⟩ := h
    refine ⟨_, (pss_one (ps_ret (pe_ifExp (pt_cmpR op_eq (pe_ix ix_tup (pv 0) pe_int (fun _ _ => rfl)) pe_str (nomark _)) (pe_tup (pa_cons (pe_ix ix_tup (pv 0) pe_int (fun _ _ => rfl)) (pa_cons (pe_ix ix_tup (pv 0) pe_int (fun _ _ => rfl)) pa_nil))) (pe_tup (pa_cons (pe_ix ix_tup (pv 0) pe_int (fun _ _ => rfl)) (pa_cons (pe_ix ix_tup (pv 0) pe_int (fun _ _ => rfl)) pa_nil)))))), ?_⟩
    have r2 : 2 ≤ sizeLine := by decide
    cases fc with
    | ord a w b =>
      obtain ⟨hq, _⟩ := fv
      refine ⟨_, rfl, q, _, 0, _, rfl, rfl, SqT.of hq, rfl, rfl, _, rfl, if_true_of (by rfl) ?_⟩
      refine ⟨_, rfl, q, _, 1, _, rfl, rfl, SqT.of hq, rfl, _, rfl, q, _, 3, _, rfl, rfl, SqT.of hq, rfl, r2, fun w hw => k w _ (Same.upd hw) upd_same⟩
    | apt un a b x =>
      obtain ⟨_, v, t, u, hq, _⟩ := fv
      refine ⟨_, rfl, q, _, 0, _, rfl, rfl, SqT.of hq, rfl, rfl, _, rfl, if_false_of (by rfl) ?_⟩
      refine ⟨_, rfl, q, _, 2, _, rfl, rfl, SqT.of hq, rfl, _, rfl, q, _, 3, _, rfl, rfl, SqT.of hq, rfl, r2, fun w hw => k w _ (Same.upd hw) upd_same⟩
    | btw un a b lo hi =>
      obtain ⟨_, v, t, hq, _⟩ := fv
      refine ⟨_, rfl, q, _, 0, _, rfl, rfl, SqT.of hq, rfl, rfl, _, rfl, if_false_of (by rfl) ?_⟩
      refine ⟨_, rfl, q, _, 2, _, rfl, rfl, SqT.of hq, rfl, _, rfl, q, _, 3, _, rfl, rfl, SqT.of hq, rfl, r2, fun w hw => k w _ (Same.upd hw) upd_same⟩
theorem ok_hf (F : FnP K "has_form" sHf f fd) (T : AF K mg) (mL : mg "len" = none) (GW : Fn P w K mg base "is_word" 1 ["value"] (spText K isWord) f1 fd1) (GU : Fn P w K mg base "is_unit" 1 ["value"] (spText K isUnit) f2 fd2) (IA : Fn P w K mg base "is_amount" 2 ["value"] (spIsA K) f3 fd3) (IL : Fn P w K mg base "_is_limit" 3 ["value"] (spLim K) fi fdi) : FnOk P w K mg base (L2.CX P w) 4 f fd ["value"] (spHf K) := by
  refine F.ok scHf (fun vs H Q E h => ?_) (fun cdv A outer s H vs Q E hr h => ?_)
  · obtain ⟨q, fc, n, rfl, _⟩ := h
    rfl
  · obtain ⟨q, fc, n, rfl, fv, k⟩ := h
    have hr1 := hr.mono (show 1 ≤ 3 by decide)
    have hr2 := hr.mono (show 2 ≤ 3 by decide)
    have hr3 := hr.mono (show 3 ≤ 3 by decide)
    refine ⟨_, (pss_cons (ps_if (pt_cmpR op_eq (pe_callB call_len rfl mL PySem.boot_len (pa_cons (pv 0) pa_nil)) pe_int (nomark _)) (pss_one (ps_ret (pe_and (pe_cmpR op_eq (pe_ix ix_tup (pv 0) pe_int (fun _ _ => rfl)) pe_str (nomark _)) (pe_one (pe_call GW.ok hr1 rfl GW.g GW.k GW.b .nil passL (pa_cons (pe_ix ix_tup (pv 0) pe_int (fun _ _ => rfl)) pa_nil)))))) pss_nil)
      (pss_cons (ps_if (pt_cmpR op_eq (pe_callB call_len rfl mL PySem.boot_len (pa_cons (pv 0) pa_nil)) pe_int (nomark _)) (pss_one (ps_ret (pe_and (pe_cmpR op_eq (pe_ix ix_tup (pv 0) pe_int (fun _ _ => rfl)) pe_str (nomark _)) (pe_and (pe_call GU.ok hr1 rfl GU.g GU.k GU.b .nil passL (pa_cons (pe_ix ix_tup (pv 0) pe_int (fun _ _ => rfl)) pa_nil)) (pe_one (pe_call IA.ok hr2 rfl IA.g IA.k IA.b .nil passL (pa_cons (pe_ix ix_tup (pv 0) pe_int (fun _ _ => rfl)) pa_nil))))))) pss_nil)
      (pss_cons (ps_if (pt_cmpR op_eq (pe_callB call_len rfl mL PySem.boot_len (pa_cons (pv 0) pa_nil)) pe_int (nomark _)) (pss_one (ps_ret (pe_and (pe_cmpR op_eq (pe_ix ix_tup (pv 0) pe_int (fun _ _ => rfl)) pe_str (nomark _)) (pe_and (pe_call GU.ok hr1 rfl GU.g GU.k GU.b .nil passL (pa_cons (pe_ix ix_tup (pv 0) pe_int (fun _ _ => rfl)) pa_nil)) (pe_and (pe_call IL.ok hr3 rfl IL.g IL.k IL.b .nil passL (pa_cons (pe_ix ix_tup (pv 0) pe_int (fun _ _ => rfl)) pa_nil)) (pe_one (pe_call IL.ok hr3 rfl IL.g IL.k IL.b .nil passL (pa_cons (pe_ix ix_tup (pv 0) pe_int (fun _ _ => rfl)) pa_nil)))))))) pss_nil)
      (pss_one (ps_ret pe_bl))))), ?_⟩
    cases fc with
    | ord a w b =>
      obtain ⟨hq, hw⟩ := fv
      refine ⟨_, rfl, _, _, rfl, .inr ⟨_, SqT.of hq, rfl⟩, rfl, _, rfl, if_true_of (by rfl) ?_⟩
      exact ⟨_, rfl, q, _, 0, _, rfl, rfl, SqT.of hq, rfl, rfl, _, rfl, if_true_of (by rfl) ⟨_, rfl, q, _, 2, _, rfl, rfl, SqT.of hq, rfl, .str w, rfl, .inr ⟨w, rfl, by rw [hw]; exact k⟩⟩⟩
    | apt un a b x =>
      obtain ⟨hu, v, t, u, hq, ar, _⟩ := fv
      obtain ⟨ty1, c1, c2, d1, d2, d3, d4⟩ := arg_am T ar
      refine ⟨_, rfl, _, _, rfl, .inr ⟨_, SqT.of hq, rfl⟩, rfl, _, rfl, if_false_of (by rfl) ?_⟩
      refine ⟨_, rfl, _, _, rfl, .inr ⟨_, SqT.of hq, rfl⟩, rfl, _, rfl, if_true_of (by rfl) ?_⟩
      refine ⟨_, rfl, q, _, 0, _, rfl, rfl, SqT.of hq, rfl, rfl, _, rfl, if_true_of (by rfl) ⟨_, rfl, q, _, 1, _, rfl, rfl, SqT.of hq, rfl, .str un, rfl, .inr ⟨un, rfl, _, rfl, if_true_of hu ?_⟩⟩⟩
      exact ⟨_, rfl, q, _, 4, _, rfl, rfl, SqT.of hq, rfl, v, ty1, c1, c2, rfl, d1, d2, d3, by rw [d4]; exact k⟩
    | btw un a b lo hi =>
      obtain ⟨hu, v, w, hq, lv, lw⟩ := fv
      refine ⟨_, rfl, _, _, rfl, .inr ⟨_, SqT.of hq, rfl⟩, rfl, _, rfl, if_false_of (by rfl) ?_⟩
      refine ⟨_, rfl, _, _, rfl, .inr ⟨_, SqT.of hq, rfl⟩, rfl, _, rfl, if_false_of (by rfl) ?_⟩
      refine ⟨_, rfl, _, _, rfl, .inr ⟨_, SqT.of hq, rfl⟩, rfl, _, rfl, if_true_of (by rfl) ?_⟩
      refine ⟨_, rfl, q, _, 0, _, rfl, rfl, SqT.of hq, rfl, rfl, _, rfl, if_true_of (by rfl) ⟨_, rfl, q, _, 1, _, rfl, rfl, SqT.of hq, rfl, .str un, rfl, .inr ⟨un, rfl, _, rfl, if_true_of hu ?_⟩⟩⟩
      refine ⟨_, rfl, q, _, 4, _, rfl, rfl, SqT.of hq, rfl, v, lo, n, rfl, lv, _, rfl, if_true_of (by rfl) ?_⟩
      exact ⟨_, rfl, q, _, 5, _, rfl, rfl, SqT.of hq, rfl, w, hi, n, rfl, lw, k⟩
end
end T13
set_option Elab.async false
set_option linter.all false
set_option maxRecDepth 100000
set_option maxHeartbeats 1000000
set_option exponentiation.threshold 100000
namespace T13
open PySem PySem.Spec PyProof.Rows L2 Fa Fb K13
open M13 (Fc)
abbrev sChs : Stmt := top 44
theorem scChs : FnScope ["sheet"] ["sheet"] (defScope sChs) := ⟨rfl, rfl, rfl, by decide +kernel, rfl, by decide +kernel, by decide +kernel⟩
abbrev sCf : Stmt := top 51
theorem scCf : FnScope ["sheet", "fact", "name"] ["sheet", "fact"] (defScope sCf) := ⟨rfl, rfl, rfl, by decide +kernel, rfl, by decide +kernel, by decide +kernel⟩
abbrev sCfs : Stmt := top 52
theorem scCfs : FnScope ["sheet", "facts", "fact"] ["sheet", "facts"] (defScope sCfs) := ⟨rfl, rfl, rfl, by decide +kernel, rfl, by decide +kernel, by decide +kernel⟩

abbrev CIS (K : PySem.W.Frag) : Addr := He.ga K "InvalidSheet"
abbrev CIF (K : PySem.W.Frag) : Addr := He.ga K "InvalidFact"
abbrev CIP (K : PySem.W.Frag) : Addr := He.ga K "InvalidPart"
def NoSheet (K : PySem.W.Frag) (H : Hp) (y : V) : Prop := ∃ T, TyX K H y T ∧ PySem.W.kitOne K T (.ref (CS K)) = some false
def spChs (K : PySem.W.Frag) : Sp := fun vs H Q E => ∃ y, vs = [y] ∧ ((NoSheet K H y ∧ Err (CIS K) y H E) ∨ ∃ o mm H0 gs, y = .ref o ∧ ShAt K mm H0 H o gs ∧ Q .non H)
/-- neither a list nor a tuple -/
def NoL (K : PySem.W.Frag) (H : Hp) (x : V) : Prop := ∃ t, (∀ J, Same H J → TyX K J x t) ∧ PySem.W.kitAny K t [.type "list", .type "tuple"] = some false
theorem NoL.same {K : PySem.W.Frag} {H H' : Hp} {x : V} (h : NoL K H x) (s : Same H H') : NoL K H' x := let ⟨t, a, b⟩ := h; ⟨t, fun J sJ => a J (s.trans sJ), b⟩
/-- the number of a name -/
def nmo (gs : List Cu) (z : Str) : Option Nat := M04.num (M04.all (gs.map cv)).nums z
def Kn (gs : List Cu) (f : Fc) : Prop := (nmo gs f.names.1).isSome = true ∧ (nmo gs f.names.2).isSome = true
def spCf (K : PySem.W.Frag) : Sp := fun vs H Q E => ∃ o mm H0 gs y, vs = [.ref o, y] ∧ ShAt K mm H0 H o gs ∧ ((NoL K H y ∧ ∀ H', Same H H' → Err (CIF K) y H' E) ∨ ∃ q f n, y = .ref q ∧ FcV K n H q f ∧ ((Kn gs f ∧ ∀ H', Same H H' → Q .non H') ∨ ((nmo gs f.names.1).isSome = true ∧ nmo gs f.names.2 = none ∧ ∀ H', Same H H' → ErrL (CUn K) (.str f.names.2) H' E)))
/-- facts in a list or a tuple -/
structure FsV (K : PySem.W.Frag) (n : Nat) (H : Hp) (a : Addr) (fs : List (Addr × Fc)) : Prop where
  l : H a = some (.lst (fs.map fun z => V.ref z.1)) ∨ SqT K H a (fs.map fun z => V.ref z.1)
  ok : ∀ z ∈ fs, FcV K n H z.1 z.2
  sz : fs.length ≤ 20
theorem FsV.same {K : PySem.W.Frag} {n : Nat} {H H' : Hp} {a : Addr} {fs : List (Addr × Fc)} (h : FsV K n H a fs) (s : Same H H') : FsV K n H' a fs := ⟨h.l.imp (s _ _) (fun z => SqT.ext z s), fun z hz => (h.ok z hz).same s, h.sz⟩
def spCfs (K : PySem.W.Frag) : Sp := fun vs H Q E => ∃ o mm H0 gs y, vs = [.ref o, y] ∧ ShAt K mm H0 H o gs ∧ ((NoL K H y ∧ ∀ H', Same H H' → Err (CIP K) y H' E) ∨ (∃ a fs n, y = .ref a ∧ FsV K n H a fs ∧ (∀ z ∈ fs, Kn gs z.2) ∧ ∀ H', Same H H' → Q .non H') ∨
  ∃ a x, y = .ref a ∧ H a = some (.lst [x, .non]) ∧ ((NoL K H x ∧ ∀ H', Same H H' → Err (CIF K) x H' E) ∨ ∃ q f n, x = .ref q ∧ FcV K n H q f ∧ (nmo gs f.names.1).isSome = true ∧ nmo gs f.names.2 = none ∧ ∀ H', Same H H' → ErrL (CUn K) (.str f.names.2) H' E))
section
variable {P : Program} {w : World} {K : PySem.W.Frag} {mg : Str → Option Value} {base : Heap} {f f1 f2 f3 f4 fV : Addr} {fd fd1 fd2 fd3 fd4 : FuncData} {qv tv : Str}
theorem ok_chs (F : FnP K "check_sheet" sChs f fd) (T : AF K mg) (MS : MF K mg) (gS : mg "InvalidSheet" = some (.ref (CIS K))) (XS : Xb.Txt P.main.file K qv "value" tv (CIS K) fV) (htop : (P.main.scope.names.lookup ("super" : Str)).isSome = false) (kS : PySem.W.kitOne K (.ref (CS K)) (.ref (CS K)) = some true)
    (ca : PySem.W.findIn K (.ref (CS K)) "__class__" = some (some (.builtin "object.__class__"))) (cm : PySem.W.mroIn K (CS K) (.type "object") = some true) : FnOk P w K mg base (L2.CX P w) 2 f fd ["sheet"] (spChs K) := by
  refine F.ok scChs (fun vs H Q E h => ?_) (fun cdv A outer s H vs Q E hr h => ?_)
  · obtain ⟨y, rfl, _⟩ := h
    rfl
  · obtain ⟨y, rfl, q⟩ := h
    refine ⟨_, (pss_one (ps_if (pt_not (pt_val (pe_isi T.isi (pv 0) (pe_glob (v := .ref (CS K)) rfl MS.g rfl)))) (pss_one (Xb.ps_raiseX (W := fun cls d _ H => E cls d H) rfl XS gS htop hr (takes_of rfl rfl rfl rfl) (pa_cons (pv 0) pa_nil))) pss_nil)), ?_⟩
    rcases q with ⟨⟨Ty, ty, kt⟩, er⟩ | ⟨o, mm, H0, gs, rfl, sh, k⟩
    · exact ⟨_, rfl, _, _, _, _, false, rfl, .own _, ty, kt, _, rfl, iteT ⟨_, rfl, _, rfl, er⟩⟩
    · obtain ⟨dx, c, r, d, rs, ho, inn⟩ := sh
      exact ⟨_, rfl, _, _, _, _, true, rfl, .own _, .base (.ins ho MS.cl ca T.cn T.ct cm), kS, _, rfl, iteF k⟩
theorem ok_cf (F : FnP K "check_fact" sCf f fd) (LS : Fn P w K mg base "is_listing" 1 ["value"] (spLs K) f1 fd1) (HF : Fn P w K mg base "has_form" 4 ["value"] (spHf K) f2 fd2) (NO : Fn P w K mg base "names_of" 1 ["fact"] (spNof K) f3 fd3) (CN : Fn P w K mg base "check_known" 3 ["sheet", "name"] (spCN K) f4 fd4)
    (gF : mg "InvalidFact" = some (.ref (CIF K))) (XF : Xb.Txt P.main.file K qv "value" tv (CIF K) fV) (htop : (P.main.scope.names.lookup ("super" : Str)).isSome = false) : FnOk P w K mg base (L2.CX P w) 6 f fd ["sheet", "fact"] (spCf K) := by
  refine F.ok scCf (fun vs H Q E h => ?_) (fun cdv A outer s H vs Q E hr h => ?_)
  · obtain ⟨o, mm, H0, gs, y, rfl, _⟩ := h
    rfl
  · obtain ⟨o, mm, H0, gs, y, rfl, sh, c⟩ := h
    have hr1 := hr.mono (show 1 ≤ 5 by decide)
    have hr3 := hr.mono (show 3 ≤ 5 by decide)
    have hr4 := hr.mono (show 4 ≤ 5 by decide)
    have hr5 := hr.mono (show 5 ≤ 5 by decide)
    refine ⟨_, (pss_cons (ps_if (PW.pt (pw_or (pt_not (pt_val (pe_call LS.ok hr1 rfl LS.g LS.k LS.b .nil passL (pa_cons (pv 1) pa_nil)))) (pw_or1 (pt_not (pt_val (pe_call HF.ok hr4 rfl HF.g HF.k HF.b .nil passL (pa_cons (pv 1) pa_nil))))))) (pss_one (Xb.ps_raiseX (W := fun cls d _ H => E cls d H) rfl XF gF htop hr5 (takes_of rfl rfl rfl rfl) (pa_cons (pv 1) pa_nil))) pss_nil)
      (pss_one (ps_for (passes_of rfl) rfl (pi_tup (pe_call NO.ok hr1 rfl NO.g NO.k NO.b .nil passL (pa_cons (pv 1) pa_nil))) (pg_name (i := 2) scCf.nd rfl (Or.inl rfl))
      (pss_one (ps_expr (pe_callS CN.ok hr3 rfl CN.g CN.k CN.b (fun σ => passAt (W := fun cls d _ H => E cls d H) (takes_of rfl rfl rfl rfl) σ) (pa_cons (pv 0) (pa_cons (pv 2) pa_nil)))))))), ?_⟩
    rcases c with ⟨⟨t, ty, kt⟩, er⟩ | ⟨q, fc, n, rfl, fv, c⟩
    · exact ⟨_, rfl, y, t, false, rfl, ty, kt, fun H1 s1 => ⟨false, rfl, iteT ⟨_, rfl, _, rfl, er H1 s1⟩⟩⟩
    · have ty : ∀ J, Same H J → TyX K J (.ref q) (.type "tuple") := fun J sJ => by
        cases fc with
        | ord a w b => exact .base (.tup (sJ _ _ fv.1))
        | apt un a b x => obtain ⟨_, v, t, u, hq, _⟩ := fv; exact .base (.tup (sJ _ _ hq))
        | btw un a b lo hi => obtain ⟨_, v, t, hq, _⟩ := fv; exact .base (.tup (sJ _ _ hq))
      refine ⟨_, rfl, .ref q, _, true, rfl, ty, ka_tuple, fun H1 s1 => ⟨true, rfl, if_false_of (by rfl) ⟨_, rfl, q, fc, n, rfl, fv.same s1, true, rfl, if_false_of (by rfl) ?_⟩⟩⟩
      refine ⟨_, rfl, q, fc, n, rfl, fv.same s1, fun w H2 s2 hw => ?_⟩
      have s12 := s1.trans s2
      have sh2 := sh.same s12
      refine ⟨w, rfl, ⟨_, SqT.of hw⟩, for_tup (K := K) (a := w) (xs := [.str fc.names.1, .str fc.names.2]) (fun i σ H' => H' = H2 ∧ (∃ v2, σ = [some (.ref o), some (.ref q), v2]) ∧ (1 < i → Kn gs fc)) ⟨rfl, ⟨_, rfl⟩, fun h => absurd h (by decide)⟩ (fun i σ H' _ ⟨e, _⟩ => by rw [e]; exact SqT.of hw) ?_ ?_⟩
      · rintro i x σ H3 hx ⟨rfl, ⟨v2, rfl⟩, _⟩
        have k1 : (nmo gs fc.names.1).isSome = true := by
          rcases c with ⟨kn, _⟩ | ⟨k1, _⟩
          · exact kn.1
          · exact k1
        match i, hx with
        | 0, hx =>
          cases hx
          exact ⟨_, rfl, _, rfl, o, mm, H0, gs, _, rfl, sh2, .inr ⟨_, rfl, (fun e => by unfold nmo at k1; rw [e] at k1; cases k1), fun _ => ⟨rfl, ⟨_, rfl⟩, fun h => absurd h (by decide)⟩⟩⟩
        | 1, hx =>
          cases hx
          refine ⟨_, rfl, _, rfl, o, mm, H0, gs, _, rfl, sh2, .inr ⟨_, rfl, (fun e => ?_), fun h => ⟨rfl, ⟨_, rfl⟩, fun _ => ⟨k1, h⟩⟩⟩⟩
          rcases c with ⟨kn, _⟩ | ⟨_, _, er⟩
          · have := kn.2
            unfold nmo at this
            rw [e] at this
            cases this
          · exact er _ s12
      · rintro σ H3 ⟨rfl, ⟨v2, rfl⟩, kn⟩
        have kn := kn (show 1 < 2 by decide)
        rcases c with ⟨_, k⟩ | ⟨_, no, _⟩
        · exact k _ s12
        · have := kn.2
          rw [no] at this
          cases this
theorem ok_cfs (F : FnP K "check_facts" sCfs f fd) (LS : Fn P w K mg base "is_listing" 1 ["value"] (spLs K) f1 fd1) (CF : Fn P w K mg base "check_fact" 6 ["sheet", "fact"] (spCf K) f2 fd2)
    (gP : mg "InvalidPart" = some (.ref (CIP K))) (XP : Xb.Txt P.main.file K qv "value" tv (CIP K) fV) (htop : (P.main.scope.names.lookup ("super" : Str)).isSome = false) : FnOk P w K mg base (L2.CX P w) 7 f fd ["sheet", "facts"] (spCfs K) := by
  refine F.ok scCfs (fun vs H Q E h => ?_) (fun cdv A outer s H vs Q E hr h => ?_)
  · obtain ⟨o, mm, H0, gs, y, rfl, _⟩ := h
    rfl
  · obtain ⟨o, mm, H0, gs, y, rfl, sh, c⟩ := h
    have hr1 := hr.mono (show 1 ≤ 6 by decide)
    have hr6 := hr.mono (show 6 ≤ 6 by decide)
    refine ⟨_, (pss_cons (ps_if (pt_not (pt_val (pe_call LS.ok hr1 rfl LS.g LS.k LS.b .nil passL (pa_cons (pv 1) pa_nil)))) (pss_one (Xb.ps_raiseX (W := fun cls d _ H => E cls d H) rfl XP gP htop hr6 (takes_of rfl rfl rfl rfl) (pa_cons (pv 1) pa_nil))) pss_nil)
      (pss_one (ps_for (passes_of rfl) rfl (Fp.pi_or (pi_list (pv 1)) (pi_tup (pv 1))) (pg_name (i := 2) scCfs.nd rfl (Or.inl rfl))
      (pss_one (ps_expr (pe_callS CF.ok hr6 rfl CF.g CF.k CF.b (fun σ => passAt (W := fun cls d _ H => E cls d H) (takes_of rfl rfl rfl rfl) σ) (pa_cons (pv 0) (pa_cons (pv 2) pa_nil)))))))), ?_⟩
    rcases c with ⟨⟨t, ty, kt⟩, er⟩ | ⟨a, fs, n, rfl, fv, kn, k⟩ | ⟨a, x, rfl, ha, c⟩
    · exact ⟨_, rfl, y, t, false, rfl, ty, kt, fun H1 s1 => ⟨false, rfl, iteT ⟨_, rfl, _, rfl, er H1 s1⟩⟩⟩
    · have lst : ∃ t, (∀ J, Same H J → TyX K J (.ref a) t) ∧ PySem.W.kitAny K t [.type "list", .type "tuple"] = some true := by
        rcases fv.l with h | h
        · exact ⟨_, fun J sJ => .base (.lst (sJ _ _ h)), ka_list⟩
        · exact ⟨_, fun J sJ => ty_sqt (SqT.ext h sJ), ka_tuple⟩
      obtain ⟨t, ty, kt⟩ := lst
      refine ⟨_, rfl, .ref a, t, true, rfl, ty, kt, fun H1 s1 => ⟨true, rfl, iteF ?_⟩⟩
      have sh1 := sh.same s1
      have fv1 := fv.same s1
      have get : ∀ (i : Nat) x, (fs.map fun z => V.ref z.1)[i]? = some x → ∃ z, z ∈ fs ∧ x = .ref z.1 := fun i x e => by
        obtain ⟨z, hz, e⟩ := List.mem_map.mp (List.mem_of_getElem? e)
        exact ⟨z, hz, e.symm⟩
      rcases fv1.l with h | h
      · refine .inl ⟨_, rfl, a, rfl, ⟨_, SqL.of h⟩, for_list (K := K) (a := a) (xs := fs.map fun z => V.ref z.1) (fun i σ H' => Same H1 H' ∧ ∃ v2, σ = [some (.ref o), some (.ref a), v2]) ⟨Same.refl _, _, rfl⟩ (fun i σ H' _ ⟨s, _⟩ => SqL.of (s _ _ h)) ?_ ?_⟩
        · rintro i x σ H2 hx ⟨s2, v2, rfl⟩
          obtain ⟨z, hz, rfl⟩ := get i x hx
          exact ⟨_, rfl, _, rfl, o, mm, H0, gs, _, rfl, sh1.same s2, .inr ⟨z.1, z.2, n, rfl, (fv1.ok z hz).same s2, .inl ⟨kn z hz, fun H3 s3 => ⟨s2.trans s3, _, rfl⟩⟩⟩⟩
        · rintro σ H2 ⟨s2, v2, rfl⟩
          exact k _ (s1.trans s2)
      · refine .inr ⟨_, rfl, a, rfl, ⟨_, h⟩, for_tup (K := K) (a := a) (xs := fs.map fun z => V.ref z.1) (fun i σ H' => Same H1 H' ∧ ∃ v2, σ = [some (.ref o), some (.ref a), v2]) ⟨Same.refl _, _, rfl⟩ (fun i σ H' _ ⟨s, _⟩ => SqT.ext h s) ?_ ?_⟩
        · rintro i x σ H2 hx ⟨s2, v2, rfl⟩
          obtain ⟨z, hz, rfl⟩ := get i x hx
          exact ⟨_, rfl, _, rfl, o, mm, H0, gs, _, rfl, sh1.same s2, .inr ⟨z.1, z.2, n, rfl, (fv1.ok z hz).same s2, .inl ⟨kn z hz, fun H3 s3 => ⟨s2.trans s3, _, rfl⟩⟩⟩⟩
        · rintro σ H2 ⟨s2, v2, rfl⟩
          exact k _ (s1.trans s2)
    · refine ⟨_, rfl, .ref a, _, true, rfl, fun J sJ => .base (.lst (sJ _ _ ha)), ka_list, fun H1 s1 => ⟨true, rfl, iteF ?_⟩⟩
      have sh1 := sh.same s1
      have ha1 := s1 _ _ ha
      refine .inl ⟨_, rfl, a, rfl, ⟨_, SqL.of ha1⟩, for_list (K := K) (a := a) (xs := [x, .non]) (fun i σ H' => i = 0 ∧ H' = H1 ∧ ∃ v2, σ = [some (.ref o), some (.ref a), v2]) ⟨rfl, rfl, _, rfl⟩ (fun i σ H' _ ⟨_, e, _⟩ => by rw [e]; exact SqL.of ha1) ?_ (fun σ H' ⟨e, _⟩ => absurd (show (2 : Nat) = 0 from e) (by decide))⟩
      rintro i y σ H2 hx ⟨rfl, rfl, v2, rfl⟩
      cases hx
      rcases c with ⟨nl, er⟩ | ⟨q, fc, n, rfl, fv, k1, k2, er⟩
      · exact ⟨_, rfl, _, rfl, o, mm, H0, gs, _, rfl, sh1, .inl ⟨nl.same s1, fun H3 s3 => er _ (s1.trans s3)⟩⟩
      · exact ⟨_, rfl, _, rfl, o, mm, H0, gs, _, rfl, sh1, .inr ⟨q, fc, n, rfl, fv.same s1, .inr ⟨k1, k2, fun H3 s3 => er _ (s1.trans s3)⟩⟩⟩
end
end T13
set_option Elab.async false
set_option linter.all false
set_option maxRecDepth 100000
set_option maxHeartbeats 1000000
set_option exponentiation.threshold 100000
namespace T13
open PySem PySem.Spec PyProof.Rows L2 Fa Fb K13
abbrev sCmp : Stmt := inClass (top 32) 10
theorem scCmp : FnScope ["self", "other", "right", "difference"] ["self", "other"] (defScope sCmp) := ⟨rfl, rfl, rfl, by decide +kernel, rfl, by decide +kernel, by decide +kernel⟩
def spCmp (K : PySem.W.Frag) : Sp := fun vs H Q E => ∃ x y t u n, vs = [x, y] ∧ IsA K H x t u n ∧ ((Bad K H y ∧ Err (CV K) y H E) ∨ ∃ t2 u2 m, Arg K H y t2 u2 m ∧ n + m < 7000 ∧
  ∀ H', Same H H' → Q (.int (if t * u2 - t2 * u = 0 then 0 else if 0 < t * u2 - t2 * u then 1 else -1)) H')
section
variable {P : Program} {w : World} {K : PySem.W.Frag} {mg : Str → Option Value} {base : Heap} {f fS : Addr} {fd fdS fdI : FuncData} {qv tv : Str} {fV : Addr}
theorem ok_cmp (F : FunD K "compare" "Amount.compare" (defArgs sCmp) (defBody sCmp) (defScope sCmp) [] [] f fd) (T : AF K mg) (GS : FnOk P w K mg base (L2.CX P w) 6 fS fdS ["value"] (spAs K)) (gS : mg "as_amount" = some (.ref fS)) (kS : PySem.W.keepIn K (.ref fS) = true) (bS : Binds K fdS ["value"] []) :
    FnOk P w K mg base (L2.CX P w) 7 f fd ["self", "other"] (spCmp K) := by
  refine F.ok scCmp (fun vs H Q E h => ?_) (fun cdv A outer s H vs Q E hr h => ?_)
  · obtain ⟨x, y, t, u, n, rfl, _⟩ := h
    rfl
  · obtain ⟨x, y, t, u, n, rfl, ix, q⟩ := h
    refine ⟨_, pss_cons (ps_set (i := 2) scCmp.nd rfl (Or.inl rfl) (pe_callS GS hr rfl gS kS bS (fun σ => passAt (W := fun cls d _ H => E cls d H) (takes_of rfl rfl rfl rfl) σ) (pa_cons (pv 1) pa_nil)))
      (pss_cons (ps_set (i := 3) scCmp.nd rfl (Or.inl rfl) (pe_op op_sub (pe_op op_mulW (pe_fld (pv 0) rfl) (pe_fld (pv 2) rfl)) (pe_op op_mulW (pe_fld (pv 2) rfl) (pe_fld (pv 0) rfl))))
      (pss_cons (ps_if (pt_cmpR op_eq (pv 3) pe_int (nomark _)) (pss_one (ps_ret pe_int)) pss_nil)
      (pss_one (ps_ret (pe_ifExp (pt_cmpR op_gt (pv 3) pe_int (nomark _)) pe_int (pe_un un_neg pe_int)))))), ?_⟩
    refine ⟨_, rfl, y, rfl, ?_⟩
    rcases q with ⟨hb, er⟩ | ⟨t2, u2, m, ar, hnm, q⟩
    · exact .inl ⟨hb, er⟩
    · refine .inr ⟨t2, u2, m, ar, fun z H' sm iz => ?_⟩
      have ix' := ix.same sm
      have q := q H' sm
      obtain ⟨p, dx, rfl, hp, r, b1, b2⟩ := id ix'
      obtain ⟨p2, dx2, rfl, hp2, r2, b3, b4⟩ := id iz
      refine ⟨_, rfl, p, CA K, dx, _, _, rfl, hp, T.cl, T.noT, fl_top _ _, ?_⟩
      refine ⟨_, rfl, p2, CA K, dx2, _, _, rfl, hp2, T.cl, T.noB, fl_bot _ _, ?_⟩
      refine ⟨_, _, rfl, rfl, mulW_of b1 b4 (by omega), ?_⟩
      refine ⟨_, rfl, p2, CA K, dx2, _, _, rfl, hp2, T.cl, T.noT, fl_top _ _, ?_⟩
      refine ⟨_, rfl, p, CA K, dx, _, _, rfl, hp, T.cl, T.noB, fl_bot _ _, ?_⟩
      refine ⟨_, _, rfl, rfl, mulW_of b3 b2 (by omega), _, _, rfl, rfl, ?_⟩
      refine ⟨_, rfl, rfl, _, rfl, ?_⟩
      by_cases h0 : t * u2 - t2 * u = 0
      · rw [if_pos h0] at q
        refine if_true_of (decide_eq_true (congrArg V.int h0)) q
      · rw [if_neg h0] at q
        refine if_false_of (decide_eq_false fun z => h0 (V.int.inj z)) ?_
        refine ⟨_, rfl, _, _, rfl, rfl, _, rfl, ?_⟩
        by_cases h1 : 0 < t * u2 - t2 * u
        · rw [if_pos h1] at q
          exact if_true_of (decide_eq_true h1) q
        · rw [if_neg h1] at q
          exact if_false_of (decide_eq_false h1) ⟨_, rfl, q⟩
end
end T13
set_option Elab.async false
set_option linter.all false
set_option maxRecDepth 100000
set_option maxHeartbeats 1000000
set_option exponentiation.threshold 100000
namespace T13
open PySem PySem.Spec PyProof.Rows L2 Fa Fb K13
open M13 (Fc)
abbrev sSay : Stmt := top 53
theorem scSay : FnScope ["sheet", "facts", "found", "fact", "unit", "one", "other", "strict", "low", "high", "name"] ["sheet", "facts"] (defScope sSay) := ⟨rfl, rfl, rfl, by decide +kernel, rfl, by decide +kernel, by decide +kernel⟩

theorem _root_.K13.IsA.lift {K : PySem.W.Frag} {H H' : Hp} {x : V} {t u : Int} {n : Nat} (h : IsA K H x t u n) (k : KT H H') : IsA K H' x t u n := let ⟨p, dx, e, h1, h2⟩ := h; ⟨p, dx, e, k _ _ h1 (fun l z => by cases z), h2⟩
theorem _root_.K13.Arg.lift {K : PySem.W.Frag} {H H' : Hp} {x : V} {t u : Int} {n : Nat} (h : Arg K H x t u n) (k : KT H H') : Arg K H' x t u n := h.imp (fun h => h.lift k) id
theorem LimV.kt {K : PySem.W.Frag} {n : Nat} {H H' : Hp} {x : V} {l : Option Rat} (h : LimV K n H x l) (k : KT H H') : LimV K n H' x l := h.imp id fun ⟨t, u, a, e⟩ => ⟨t, u, a.lift k, e⟩
structure NgK (P : Program) (w : World) (K : PySem.W.Frag) (mg : Str → Option Value) (base : Heap) (f : Addr) (fd : FuncData) : Prop where
  at_ : PySem.W.findIn K (.ref (CA K)) "__neg__" = some (some (.ref f))
  fn : PySem.W.isFn K (.ref f) = true
  ok : FnOk P w K mg base (L2.CX P w) 6 f fd ["self"] (spUn K fun t => -t)
  b : Binds K fd ["self"] []
/-- a saying in the heap -/
structure Sg where
  q : Addr
  a : Addr
  u : Str
  i : Nat
  j : Nat
  t : Int
  v : Int
  st : Bool
def sgv (g : Sg) : M13.Say := (g.u, g.i, g.j, vq g.t g.v, g.st)
def SgOk (K : PySem.W.Frag) (n : Nat) (H : Hp) (g : Sg) : Prop := H g.q = some (.tup [.str g.u, .int (g.i : Int), .int (g.j : Int), .ref g.a, .bl g.st]) ∧ IsA K H (.ref g.a) g.t g.v n
theorem SgOk.kt {K : PySem.W.Frag} {n : Nat} {H H' : Hp} {g : Sg} (h : SgOk K n H g) (k : KT H H') : SgOk K n H' g := ⟨k _ _ h.1 (fun l z => by cases z), h.2.lift k⟩
structure SyL (K : PySem.W.Frag) (n : Nat) (H : Hp) (F : Addr) (zs : List Sg) : Prop where
  l : H F = some (.lst (zs.map fun z => V.ref z.q))
  ok : ∀ z ∈ zs, SgOk K n H z
theorem SyL.same {K : PySem.W.Frag} {n : Nat} {H H' : Hp} {F : Addr} {zs : List Sg} (h : SyL K n H F zs) (s : Same H H') : SyL K n H' F zs := ⟨s _ _ h.l, fun z hz => (h.ok z hz).kt (KT.of s)⟩
theorem SyL.push {K : PySem.W.Frag} {n : Nat} {H : Hp} {F : Addr} {zs : List Sg} {g : Sg} (h : SyL K n H F zs) (ok : SgOk K n H g) : SyL K n (upd H F (.lst ((zs.map fun z => V.ref z.q) ++ [.ref g.q]))) F (zs ++ [g]) := by
  refine ⟨by rw [upd_same, List.map_append]; rfl, fun z hz => ?_⟩
  rcases List.mem_append.mp hz with hz | hz
  · exact (h.ok z hz).kt (KT.put h.l)
  · rw [List.mem_singleton.mp hz]
    exact ok.kt (KT.put h.l)
def limS (l : Option Rat) (f : Rat → M13.Say) : List M13.Say := match l with
  | some q => [f q]
  | none => []
abbrev SSy (o a F q : Addr) (u : Str) (i j : Nat) (st : Bool) (vl vh : V) : L2.St := [some (.ref o), some (.ref a), some (.ref F), some (.ref q), some (.str u), some (.int (i : Int)), some (.int (j : Int)), some (.bl st), some vl, some vh, none]
section
variable (K : PySem.W.Frag) (H : Hp) (o a : Addr)
def sSay0 : TS := fun D σ H' => ∃ (F q : Addr) (f : Fc) (n : Nat) (zs : List Sg) (mm : Nat) (H0 : Hp) (gs : List Cu) (v4 v5 v6 v7 v8 v9 : Option V), σ = [some (.ref o), some (.ref a), some (.ref F), some (.ref q), v4, v5, v6, v7, v8, v9, none] ∧ Same H H' ∧ H F = none ∧ SyL K n H' F zs ∧ n ≤ 60 ∧ zs.length ≤ 38 ∧ ShAt K mm H0 H' o gs ∧ FcV K n H' q f ∧ Kn gs f ∧
  ∀ v4 v5 v6 v7 v8 v9 H'' zs', Same H H'' → SyL K n H'' F zs' → zs'.map sgv = zs.map sgv ++ M13.says (fun z => (nmo gs z).getD 0) f → zs'.length ≤ zs.length + 2 → D.nx [some (.ref o), some (.ref a), some (.ref F), some (.ref q), v4, v5, v6, v7, v8, v9, none] H'' ∧ D.ct [some (.ref o), some (.ref a), some (.ref F), some (.ref q), v4, v5, v6, v7, v8, v9, none] H''
def sSay1 : TS := fun D σ H' => ∃ (F q : Addr) (u : Str) (i j : Nat) (st : Bool) (vl vh : V) (lo hi : Option Rat) (n : Nat) (zs : List Sg), σ = SSy o a F q u i j st vl vh ∧ Same H H' ∧ H F = none ∧ SyL K n H' F zs ∧ n ≤ 60 ∧ zs.length ≤ 38 ∧ LimV K n H' vl lo ∧ LimV K n H' vh hi ∧
  ∀ H'' zs', Same H H'' → SyL K n H'' F zs' → zs'.map sgv = zs.map sgv ++ (limS lo (fun x => (u, i, j, x, st)) ++ limS hi (fun x => (u, j, i, -x, st))) → zs'.length ≤ zs.length + 2 → D.nx (SSy o a F q u i j st vl vh) H''
def sSay2 : TS := fun D σ H' => ∃ (F q : Addr) (u : Str) (i j : Nat) (st : Bool) (vl vh : V) (hi : Option Rat) (n : Nat) (zs : List Sg), σ = SSy o a F q u i j st vl vh ∧ Same H H' ∧ H F = none ∧ SyL K n H' F zs ∧ n ≤ 60 ∧ zs.length ≤ 39 ∧ LimV K n H' vh hi ∧
  ∀ H'' zs', Same H H'' → SyL K n H'' F zs' → zs'.map sgv = zs.map sgv ++ limS hi (fun x => (u, j, i, -x, st)) → zs'.length ≤ zs.length + 1 → D.nx (SSy o a F q u i j st vl vh) H''
end
def nmN (gs : List Cu) (z : Str) : Nat := (nmo gs z).getD 0
def spSay (K : PySem.W.Frag) : Sp := fun vs H Q _ => ∃ (o : Addr) (mm : Nat) (H0 : Hp) (gs : List Cu) (a : Addr) (fs : List (Addr × Fc)) (n : Nat), vs = [.ref o, .ref a] ∧ ShAt K mm H0 H o gs ∧ FsV K n H a fs ∧ (∀ z ∈ fs, Kn gs z.2) ∧ n ≤ 60 ∧ ∀ H' F zs, Same H H' → SyL K n H' F zs → zs.map sgv = (fs.map fun z => z.2).flatMap (M13.says (nmN gs)) → H F = none → Q (.ref F) H'
section
variable {P : Program} {w : World} {K : PySem.W.Frag} {mg : Str → Option Value} {base : Heap} {f f1 f2 f3 f4 : Addr} {fd fd1 fd2 fd3 fd4 : FuncData}
theorem ok_say (F : FnP K "sayings" sSay f fd) (M : MF K mg) (NO : Fn P w K mg base "names_of" 1 ["fact"] (spNof K) f1 fd1) (SM : MeS P w K mg base "moment" 4 ["self", "name"] (spMm K) f2 fd2) (AS : Fn P w K mg base "as_amount" 6 ["value"] (spAs K) f3 fd3) (NG : NgK P w K mg base f4 fd4) : FnOk P w K mg base (L2.CX P w) 7 f fd ["sheet", "facts"] (spSay K) := by
  refine F.ok scSay (fun vs H Q E h => ?_) (fun cdv A outer s H vs Q E hr h => ?_)
  · obtain ⟨o, mm, H0, gs, a, fs, n, rfl, _⟩ := h
    rfl
  · obtain ⟨o, mm, H0, gs, a, fs, n, rfl, sh, fv, kn, n6, k⟩ := h
    have hr1 := hr.mono (show 1 ≤ 6 by decide)
    have hr4 := hr.mono (show 4 ≤ 6 by decide)
    have hr6 := hr.mono (show 6 ≤ 6 by decide)
    refine ⟨_, (pss_cons (ps_set (i := 2) scSay.nd rfl (Or.inl rfl) (pe_lst pa_nil))
      (pss_cons (ps_for (passes_of rfl) rfl (Fp.pi_or (pi_list (pv 1)) (pi_tup (pv 1))) (pg_name (i := 3) scSay.nd rfl (Or.inl rfl))
      (pss_imp (S := sSay0 K H o a) (pss_cons (ps_if (pt_cmpR op_eq (pe_ix ix_tup (pv 3) pe_int (fun _ _ => rfl)) pe_str (nomark _)) (pss_one ps_continue) pss_nil)
      (pss_cons (ps_set (i := 4) scSay.nd rfl (Or.inl rfl) (pe_ix ix_tup (pv 3) pe_int (fun _ _ => rfl)))
      (pss_cons (ps_asg (pe_lc (own := [("name", 10)]) (g := gName 10) (te := tMeth (CS K) "moment" (spMm K) [] E0 (tVar 0) (tCons (tVar 10) tNil)) (by rfl) scSay.nd (pi_tup (pe_call NO.ok hr1 rfl NO.g NO.k NO.b .nil passL (pa_cons (pv 3) pa_nil))) (blkOk_by (own := [("name", 10)]) (N := ["sheet", "facts", "found", "fact", "unit", "one", "other", "strict", "low", "high", "name"]) (sc := defScope sSay) (by decide +kernel)) (fun _ _ _ _ _ => (pg_name (i := 10) scSay.nd rfl (Or.inl rfl))) (fun _ _ _ _ _ => pts_nil) (fun _ _ _ _ _ => (pe_meth (pv 0) M.cl SM.me SM.ok hr4 SM.b .nil passL (pa_cons (pv 10) pa_nil)))) (pg_lst (by rfl) (pgs_cons (pg_name (i := 5) scSay.nd rfl (Or.inl rfl)) (pgs_cons (pg_name (i := 6) scSay.nd rfl (Or.inl rfl)) pgs_nil))))
      (pss_cons (ps_set (i := 7) scSay.nd rfl (Or.inl rfl) (pe_cmpR op_eq (pe_ix ix_tup (pv 3) pe_int (fun _ _ => rfl)) pe_str (nomark _)))
      (pss_cons (ps_asg (pe_ifExp (pt_val (pv 7)) (pe_slice sl_tup (pv 3) (po_some pe_int) po_none) (pe_tup (pa_cons (pe_ix ix_tup (pv 3) pe_int (fun _ _ => rfl)) (pa_cons (pe_ix ix_tup (pv 3) pe_int (fun _ _ => rfl)) pa_nil)))) (pg_tup (by rfl) (pgs_cons (pg_name (i := 8) scSay.nd rfl (Or.inl rfl)) (pgs_cons (pg_name (i := 9) scSay.nd rfl (Or.inl rfl)) pgs_nil))))
      (pss_imp (S := sSay1 K H o a) (pss_cons (ps_if (pt_cmpR op_notN (pv 8) pe_non (nomark _)) (pss_one (ps_expr (pe_bm PySem.F.plainAttrs_list PySem.F.slot_list_append PySem.F.type_list_append mt_append (pv 2) (pa_cons (pe_tup (pa_cons (pv 4) (pa_cons (pv 5) (pa_cons (pv 6) (pa_cons (pe_call AS.ok hr6 rfl AS.g AS.k AS.b .nil passL (pa_cons (pv 8) pa_nil)) (pa_cons (pv 7) pa_nil)))))) pa_nil)))) pss_nil)
      (pss_imp (S := sSay2 K H o a) (pss_one (ps_if (pt_cmpR op_notN (pv 9) pe_non (nomark _)) (pss_one (ps_expr (pe_bm PySem.F.plainAttrs_list PySem.F.slot_list_append PySem.F.type_list_append mt_append (pv 2) (pa_cons (pe_tup (pa_cons (pv 4) (pa_cons (pv 6) (pa_cons (pv 5) (pa_cons (Fb.pe_negX NG.at_ NG.fn NG.ok hr6 NG.b passS (pe_call AS.ok hr6 rfl AS.g AS.k AS.b .nil passL (pa_cons (pv 9) pa_nil))) (pa_cons (pv 7) pa_nil)))))) pa_nil)))) pss_nil)) ?c2)) ?c1)))))) ?c0))
      (pss_one (ps_ret (pv 2))))), ?_⟩
    case c2 =>
      rintro D σ H1 ⟨F, q, u, i, j, st, vl, vh, hi, n, zs, rfl, s1, F0, sy, n6, zl, lh, kk⟩
      rcases lh with ⟨rfl, rfl⟩ | ⟨t, v, ar, rfl⟩
      · exact ⟨_, rfl, rfl, _, rfl, if_false_of (by rfl) (kk H1 zs s1 sy (by rw [show limS none (fun x => ((u, j, i, -x, st) : M13.Say)) = [] from rfl, List.append_nil]) (Nat.le_succ _))⟩
      · have nx : decide (vh = V.non) = false := by rcases ar with ⟨p, dx, e, _⟩ | ⟨e, _⟩ <;> rw [e] <;> rfl
        refine ⟨_, rfl, rfl, _, rfl, if_true_of (by rw [nx]; rfl) ?_⟩
        refine ⟨_, rfl, .inl ⟨rfl, _, SqL.of sy.l⟩, _, rfl, _, rfl, _, rfl, _, rfl, vh, rfl, .inr ⟨t, v, n, ar, fun y H2 s2 ia => ?_⟩⟩
        obtain ⟨pa, da, ea, ha, ⟨u0, _⟩, _⟩ := id ia
        refine ⟨pa, da, _, ea, ha, _, t, v, n, rfl, ia, by omega, fun z H3 t' v' s3 iz ez => ?_⟩
        obtain ⟨pz, dz, rfl, hz, ⟨uz, _⟩, _⟩ := id iz
        have vz : vq t' v' = -vq t v := by
          rw [← vq_neg]
          exact (vq_eq (Int.ne_of_gt uz) (Int.ne_of_gt u0)).mpr ez
        refine ⟨_, rfl, by show 5 ≤ sizeLine; decide, fun qq hqq => ?_⟩
        have s4 := Same.upd (o := .tup [.str u, .int (j : Int), .int (i : Int), .ref pz, .bl st]) hqq
        have e4 : upd H3 qq (.tup [.str u, .int (j : Int), .int (i : Int), .ref pz, .bl st]) qq = some (.tup [.str u, .int (j : Int), .int (i : Int), .ref pz, .bl st]) := upd_same
        generalize upd H3 qq (.tup [.str u, .int (j : Int), .int (i : Int), .ref pz, .bl st]) = H4 at s4 e4 ⊢
        have s14 := s2.trans (s3.trans s4)
        have sy4 := sy.same s14
        refine ⟨F, _, _, rfl, rfl, sy4.l, ?_, ?_⟩
        · rw [List.length_map]
          exact Nat.lt_of_lt_of_le (show zs.length < 100 by omega) (by decide)
        · refine kk _ (zs ++ [⟨qq, pz, u, j, i, t', v', st⟩]) (same_put (s1.trans s14) F0) (sy4.push (g := ⟨qq, pz, u, j, i, t', v', st⟩) ⟨e4, iz.same s4⟩) ?_ (by rw [List.length_append]; exact Nat.le_refl _)
          rw [List.map_append]
          show _ ++ [(u, j, i, vq t' v', st)] = _ ++ [(u, j, i, -vq t v, st)]
          rw [vz]
    case c1 =>
      rintro D σ H1 ⟨F, q, u, i, j, st, vl, vh, lo, hi, n, zs, rfl, s1, F0, sy, n6, zl, ll, lh, kk⟩
      rcases ll with ⟨rfl, rfl⟩ | ⟨t, v, ar, rfl⟩
      · exact ⟨_, rfl, rfl, _, rfl, if_false_of (by rfl) ⟨F, q, u, i, j, st, _, vh, hi, n, zs, rfl, s1, F0, sy, n6, by omega, lh, fun H'' zs' s' sy' e l => kk H'' zs' s' sy' (by rw [e]; rfl) (by omega)⟩⟩
      · have nx : decide (vl = V.non) = false := by rcases ar with ⟨p, dx, e, _⟩ | ⟨e, _⟩ <;> rw [e] <;> rfl
        refine ⟨_, rfl, rfl, _, rfl, if_true_of (by rw [nx]; rfl) ?_⟩
        refine ⟨_, rfl, .inl ⟨rfl, _, SqL.of sy.l⟩, _, rfl, _, rfl, _, rfl, _, rfl, vl, rfl, .inr ⟨t, v, n, ar, fun y H2 s2 ia => ?_⟩⟩
        obtain ⟨pz, dz, rfl, hz, ⟨uz, _⟩, _⟩ := id ia
        refine ⟨_, rfl, by show 5 ≤ sizeLine; decide, fun qq hqq => ?_⟩
        have s4 := Same.upd (o := .tup [.str u, .int (i : Int), .int (j : Int), .ref pz, .bl st]) hqq
        have e4 : upd H2 qq (.tup [.str u, .int (i : Int), .int (j : Int), .ref pz, .bl st]) qq = some (.tup [.str u, .int (i : Int), .int (j : Int), .ref pz, .bl st]) := upd_same
        generalize upd H2 qq (.tup [.str u, .int (i : Int), .int (j : Int), .ref pz, .bl st]) = H4 at s4 e4 ⊢
        have s14 := s2.trans s4
        have sy4 := sy.same s14
        refine ⟨F, _, _, rfl, rfl, sy4.l, ?_, ?_⟩
        · rw [List.length_map]
          exact Nat.lt_of_lt_of_le (show zs.length < 100 by omega) (by decide)
        · refine ⟨F, q, u, i, j, st, _, vh, hi, n, zs ++ [⟨qq, pz, u, i, j, t, v, st⟩], rfl, same_put (s1.trans s14) F0, F0, sy4.push (g := ⟨qq, pz, u, i, j, t, v, st⟩) ⟨e4, ia.same s4⟩, n6, by rw [List.length_append]; show zs.length + 1 ≤ 39; omega, (lh.same s14).kt (KT.put sy4.l), fun H'' zs' s' sy' e l => kk H'' zs' s' sy' ?_ (by rw [List.length_append] at l; have : zs'.length ≤ zs.length + 1 + 1 := l; omega)⟩
          rw [e, List.map_append, List.append_assoc]
          rfl
    case c0 =>
      rintro D σ H1 ⟨F, q, fc, n, zs, mm, H0, gs, v4, v5, v6, v7, v8, v9, rfl, s1, F0, sy, n6, zl, sh, fv, kn, kk⟩
      obtain ⟨dx, c, r, d, rs, ho, inn⟩ := id sh
      obtain ⟨ni, en1⟩ := Option.isSome_iff_exists.mp kn.1
      obtain ⟨nj, en2⟩ := Option.isSome_iff_exists.mp kn.2
      have comp : ∀ (H2 : Hp) (σ2 : L2.St) (Qd : VK), Same H1 H2 → σ2[0]? = some (some (.ref o)) → True := fun _ _ _ _ _ => trivial
      clear comp
      cases fc with
      | ord x w y =>
        obtain ⟨hq, _⟩ := fv
        refine ⟨_, rfl, q, _, 0, _, rfl, rfl, SqT.of hq, rfl, rfl, _, rfl, if_true_of (by rfl) ?_⟩
        exact (kk v4 v5 v6 v7 v8 v9 H1 zs s1 sy (by rw [show M13.says (fun z => (nmo gs z).getD 0) (.ord x w y) = [] from rfl, List.append_nil]) (by omega)).2
      | apt un x y b =>
        obtain ⟨hu, v, t, u, hq, ar, eb⟩ := id fv
        refine ⟨_, rfl, q, _, 0, _, rfl, rfl, SqT.of hq, rfl, rfl, _, rfl, if_false_of (by rfl) ?_⟩
        refine ⟨_, rfl, q, _, 1, _, rfl, rfl, SqT.of hq, rfl, ?_⟩
        refine ⟨_, rfl, q, _, n, rfl, fv, fun w H2 s2 hw => ⟨w, rfl, ⟨_, SqT.of hw⟩, fun D2 hD2 => ?_⟩⟩
        refine lc_tup (K := K) (a := w) (xs := [.str x, .str y]) (fun i H' => Same H2 H' ∧ H' D2 = some (.lst ([V.int (ni : Int), .int (nj : Int)].take i))) ⟨Same.upd hD2, upd_same⟩ (fun i H' _ ⟨s, _⟩ => SqT.of (s _ _ hw)) ?_ ?_
        · rintro i z H3 hx ⟨s3, hh⟩
          have s13 := s2.trans s3
          match i, hx with
          | 0, hx =>
            cases hx
            refine ⟨rfl, _, rfl, o, dx, _, rfl, s13 _ _ ho, by rfl, _, rfl, o, mm, H0, gs, _, rfl, sh.same s13, .inr ⟨_, rfl, (fun e => by unfold nmo at en1; have e1 : M04.num (M04.all (gs.map cv)).nums x = some ni := en1; rw [e] at e1; cases e1), fun m em => ?_⟩⟩
            have e1 : M04.num (M04.all (gs.map cv)).nums x = some ni := en1
            rw [em] at e1
            obtain rfl := Option.some.inj e1
            exact ⟨_, hh, (by show 0 < sizeLine; decide), same_put s3 hD2, by rw [upd_same]; rfl⟩
          | 1, hx =>
            cases hx
            refine ⟨rfl, _, rfl, o, dx, _, rfl, s13 _ _ ho, by rfl, _, rfl, o, mm, H0, gs, _, rfl, sh.same s13, .inr ⟨_, rfl, (fun e => by unfold nmo at en2; have e1 : M04.num (M04.all (gs.map cv)).nums y = some nj := en2; rw [e] at e1; cases e1), fun m em => ?_⟩⟩
            have e1 : M04.num (M04.all (gs.map cv)).nums y = some nj := en2
            rw [em] at e1
            obtain rfl := Option.some.inj e1
            exact ⟨_, hh, (by show 1 < sizeLine; decide), same_put s3 hD2, by rw [upd_same]; rfl⟩
        rintro H3 ⟨s3, hh⟩
        have hh : H3 D2 = some (.lst [V.int (ni : Int), .int (nj : Int)]) := hh
        have s13 := s2.trans s3
        have hq3 := s13 _ _ hq
        refine ⟨D2, _, rfl, SqL.of hh, rfl, _, _, rfl, _, _, rfl, rfl, ?_⟩
        refine ⟨_, rfl, q, _, 0, _, rfl, rfl, SqT.of hq3, rfl, rfl, ?_⟩
        refine ⟨_, rfl, _, rfl, if_false_of (by rfl) ?_⟩
        refine ⟨_, rfl, q, _, 4, _, rfl, rfl, SqT.of hq3, rfl, _, rfl, q, _, 4, _, rfl, rfl, SqT.of hq3, rfl, by show 2 ≤ sizeLine; decide, fun t1 ht1 => ?_⟩
        have s4 := Same.upd (o := .tup [v, v]) ht1
        have e4 : upd H3 t1 (.tup [v, v]) t1 = some (.tup [v, v]) := upd_same
        generalize upd H3 t1 (.tup [v, v]) = H4 at s4 e4 ⊢
        have s14 := s13.trans s4
        refine ⟨t1, _, rfl, SqT.of e4, rfl, _, _, rfl, _, _, rfl, rfl, ?_⟩
        have lv : LimV K n H4 v (some b) := .inr ⟨t, u, ar.same s14, by rw [eb]⟩
        refine ⟨F, q, un, ni, nj, false, v, v, some b, some b, n, zs, rfl, s1.trans s14, F0, sy.same s14, n6, zl, lv, lv, fun H'' zs' s' sy' e l => (kk _ _ _ _ _ _ H'' zs' s' sy' ?_ l).1⟩
        rw [e]
        show _ = _ ++ [(un, (nmo gs x).getD 0, (nmo gs y).getD 0, b, false), (un, (nmo gs y).getD 0, (nmo gs x).getD 0, -b, false)]
        have e1 : nmo gs x = some ni := en1
        have e2 : nmo gs y = some nj := en2
        rw [e1, e2]
        rfl
      | btw un x y lo hi =>
        obtain ⟨hu, v, w', hq, lv, lw⟩ := id fv
        refine ⟨_, rfl, q, _, 0, _, rfl, rfl, SqT.of hq, rfl, rfl, _, rfl, if_false_of (by rfl) ?_⟩
        refine ⟨_, rfl, q, _, 1, _, rfl, rfl, SqT.of hq, rfl, ?_⟩
        refine ⟨_, rfl, q, _, n, rfl, fv, fun w H2 s2 hw => ⟨w, rfl, ⟨_, SqT.of hw⟩, fun D2 hD2 => ?_⟩⟩
        refine lc_tup (K := K) (a := w) (xs := [.str x, .str y]) (fun i H' => Same H2 H' ∧ H' D2 = some (.lst ([V.int (ni : Int), .int (nj : Int)].take i))) ⟨Same.upd hD2, upd_same⟩ (fun i H' _ ⟨s, _⟩ => SqT.of (s _ _ hw)) ?_ ?_
        · rintro i z H3 hx ⟨s3, hh⟩
          have s13 := s2.trans s3
          match i, hx with
          | 0, hx =>
            cases hx
            refine ⟨rfl, _, rfl, o, dx, _, rfl, s13 _ _ ho, by rfl, _, rfl, o, mm, H0, gs, _, rfl, sh.same s13, .inr ⟨_, rfl, (fun e => by unfold nmo at en1; have e1 : M04.num (M04.all (gs.map cv)).nums x = some ni := en1; rw [e] at e1; cases e1), fun m em => ?_⟩⟩
            have e1 : M04.num (M04.all (gs.map cv)).nums x = some ni := en1
            rw [em] at e1
            obtain rfl := Option.some.inj e1
            exact ⟨_, hh, (by show 0 < sizeLine; decide), same_put s3 hD2, by rw [upd_same]; rfl⟩
          | 1, hx =>
            cases hx
            refine ⟨rfl, _, rfl, o, dx, _, rfl, s13 _ _ ho, by rfl, _, rfl, o, mm, H0, gs, _, rfl, sh.same s13, .inr ⟨_, rfl, (fun e => by unfold nmo at en2; have e1 : M04.num (M04.all (gs.map cv)).nums y = some nj := en2; rw [e] at e1; cases e1), fun m em => ?_⟩⟩
            have e1 : M04.num (M04.all (gs.map cv)).nums y = some nj := en2
            rw [em] at e1
            obtain rfl := Option.some.inj e1
            exact ⟨_, hh, (by show 1 < sizeLine; decide), same_put s3 hD2, by rw [upd_same]; rfl⟩
        rintro H3 ⟨s3, hh⟩
        have hh : H3 D2 = some (.lst [V.int (ni : Int), .int (nj : Int)]) := hh
        have s13 := s2.trans s3
        have hq3 := s13 _ _ hq
        refine ⟨D2, _, rfl, SqL.of hh, rfl, _, _, rfl, _, _, rfl, rfl, ?_⟩
        refine ⟨_, rfl, q, _, 0, _, rfl, rfl, SqT.of hq3, rfl, rfl, ?_⟩
        refine ⟨_, rfl, _, rfl, if_true_of (by rfl) ?_⟩
        refine ⟨_, rfl, _, rfl, q, _, rfl, SqT.of hq3, ?_, fun t1 ht1 => ?_⟩
        · rintro ⟨h, _⟩
          exact absurd (show (4 : Nat) = 0 from h) (by decide)
        have ec : cutV [V.str "between", .str un, .str x, .str y, v, w'] (some 4) none = [v, w'] := rfl
        rw [ec]
        have s4 := Same.upd (o := .tup [v, w']) ht1
        have e4 : upd H3 t1 (.tup [v, w']) t1 = some (.tup [v, w']) := upd_same
        generalize upd H3 t1 (.tup [v, w']) = H4 at s4 e4 ⊢
        have s14 := s13.trans s4
        refine ⟨t1, _, rfl, SqT.of e4, rfl, _, _, rfl, _, _, rfl, rfl, ?_⟩
        refine ⟨F, q, un, ni, nj, true, v, w', lo, hi, n, zs, rfl, s1.trans s14, F0, sy.same s14, n6, zl, lv.same s14, lw.same s14, fun H'' zs' s' sy' e l => (kk _ _ _ _ _ _ H'' zs' s' sy' ?_ l).1⟩
        rw [e]
        have e1 : nmo gs x = some ni := en1
        have e2 : nmo gs y = some nj := en2
        show _ = _ ++ ((match lo with | some q => [(un, (nmo gs x).getD 0, (nmo gs y).getD 0, q, true)] | none => []) ++ (match hi with | some q => [(un, (nmo gs y).getD 0, (nmo gs x).getD 0, -q, true)] | none => []))
        rw [e1, e2]
        cases lo <;> cases hi <;> rfl
    refine ⟨by show 0 ≤ sizeLine; decide, fun F hF => ?_⟩
    have s1 := Same.upd (o := .lst []) hF
    have f1 : upd H F (.lst []) F = some (.lst []) := upd_same
    generalize upd H F (.lst []) = H1 at s1 f1 ⊢
    have fv1 := fv.same s1
    have sz := fv.sz
    have ini : ∃ zs : List Sg, SyL K n H1 F zs ∧ zs.map sgv = ((fs.take 0).map fun z => z.2).flatMap (M13.says (nmN gs)) ∧ zs.length ≤ 2 * 0 := ⟨[], ⟨f1, fun z hz => by cases hz⟩, rfl, Nat.le_refl _⟩
    have one : ∀ (i : Nat) (x : V) (H2 : Hp) (v3 v4 v5 v6 v7 v8 v9 : Option V) (D : Ends), (fs.map fun z => V.ref z.1)[i]? = some x → Same H H2 → (∃ zs : List Sg, SyL K n H2 F zs ∧ zs.map sgv = ((fs.take i).map fun z => z.2).flatMap (M13.says (nmN gs)) ∧ zs.length ≤ 2 * i) →
        (∀ v3 v4 v5 v6 v7 v8 v9 H'', Same H H'' → (∃ zs : List Sg, SyL K n H'' F zs ∧ zs.map sgv = ((fs.take (i + 1)).map fun z => z.2).flatMap (M13.says (nmN gs)) ∧ zs.length ≤ 2 * (i + 1)) → D.nx [some (.ref o), some (.ref a), some (.ref F), v3, v4, v5, v6, v7, v8, v9, none] H'' ∧ D.ct [some (.ref o), some (.ref a), some (.ref F), v3, v4, v5, v6, v7, v8, v9, none] H'') →
        sSay0 K H o a D [some (.ref o), some (.ref a), some (.ref F), some x, v4, v5, v6, v7, v8, v9, none] H2 := fun i x H2 v3 v4 v5 v6 v7 v8 v9 D hx s2 ⟨zs, sy, e, l⟩ kk => by
      obtain ⟨z, ez, rfl⟩ := map_at hx
      have hi := (List.getElem?_eq_some_iff.mp ez).1
      have hz := List.mem_of_getElem? ez
      refine ⟨F, z.1, z.2, n, zs, mm, H0, gs, _, _, _, _, _, _, rfl, s2, hF, sy, n6, by omega, sh.same s2, (fv.ok z hz).same s2, kn z hz, fun v4 v5 v6 v7 v8 v9 H'' zs' s' sy' e' l' => kk _ _ _ _ _ _ _ H'' s' ⟨zs', sy', ?_, by omega⟩⟩
      rw [e', e, List.take_add_one, ez, List.map_append, List.flatMap_append]
      show _ = _ ++ (M13.says (nmN gs) z.2 ++ [])
      rw [List.append_nil]
      rfl
    have lf : (fs.map fun z => V.ref z.1).length = fs.length := List.length_map ..
    have fin : ∀ (H2 : Hp), Same H H2 → (∃ zs : List Sg, SyL K n H2 F zs ∧ zs.map sgv = ((fs.take fs.length).map fun z => z.2).flatMap (M13.says (nmN gs)) ∧ zs.length ≤ 2 * fs.length) → Q (.ref F) H2 := fun H2 s2 ⟨zs, sy, e, l⟩ => k H2 F zs s2 sy (by rw [e, List.take_length]) hF
    rcases fv.l with h | h
    · refine .inl ⟨_, rfl, a, rfl, ⟨_, SqL.of (s1 _ _ h)⟩, for_list (K := K) (a := a) (xs := fs.map fun z => V.ref z.1) (fun i σ H' => Same H H' ∧ (∃ v3 v4 v5 v6 v7 v8 v9, σ = [some (.ref o), some (.ref a), some (.ref F), v3, v4, v5, v6, v7, v8, v9, none]) ∧ ∃ zs : List Sg, SyL K n H' F zs ∧ zs.map sgv = ((fs.take i).map fun z => z.2).flatMap (M13.says (nmN gs)) ∧ zs.length ≤ 2 * i) ⟨s1, ⟨_, _, _, _, _, _, _, rfl⟩, ini⟩ (fun i σ H' _ ⟨s, _⟩ => SqL.of (s _ _ h)) ?_ ?_⟩
      · rintro i x σ H2 hx ⟨s2, ⟨v3, v4, v5, v6, v7, v8, v9, rfl⟩, zz⟩
        exact one i x H2 v3 v4 v5 v6 v7 v8 v9 _ hx s2 zz fun v3 v4 v5 v6 v7 v8 v9 H'' s' zz' => ⟨⟨s', ⟨_, _, _, _, _, _, _, rfl⟩, zz'⟩, ⟨s', ⟨_, _, _, _, _, _, _, rfl⟩, zz'⟩⟩
      · rintro σ H2 ⟨s2, ⟨v3, v4, v5, v6, v7, v8, v9, rfl⟩, zz⟩
        rw [lf] at zz
        exact ⟨_, rfl, fin H2 s2 zz⟩
    · refine .inr ⟨_, rfl, a, rfl, ⟨_, SqT.ext h s1⟩, for_tup (K := K) (a := a) (xs := fs.map fun z => V.ref z.1) (fun i σ H' => Same H H' ∧ (∃ v3 v4 v5 v6 v7 v8 v9, σ = [some (.ref o), some (.ref a), some (.ref F), v3, v4, v5, v6, v7, v8, v9, none]) ∧ ∃ zs : List Sg, SyL K n H' F zs ∧ zs.map sgv = ((fs.take i).map fun z => z.2).flatMap (M13.says (nmN gs)) ∧ zs.length ≤ 2 * i) ⟨s1, ⟨_, _, _, _, _, _, _, rfl⟩, ini⟩ (fun i σ H' _ ⟨s, _⟩ => SqT.ext h s) ?_ ?_⟩
      · rintro i x σ H2 hx ⟨s2, ⟨v3, v4, v5, v6, v7, v8, v9, rfl⟩, zz⟩
        exact one i x H2 v3 v4 v5 v6 v7 v8 v9 _ hx s2 zz fun v3 v4 v5 v6 v7 v8 v9 H'' s' zz' => ⟨⟨s', ⟨_, _, _, _, _, _, _, rfl⟩, zz'⟩, ⟨s', ⟨_, _, _, _, _, _, _, rfl⟩, zz'⟩⟩
      · rintro σ H2 ⟨s2, ⟨v3, v4, v5, v6, v7, v8, v9, rfl⟩, zz⟩
        rw [lf] at zz
        exact ⟨_, rfl, fin H2 s2 zz⟩
end
end T13
set_option Elab.async false
set_option linter.all false
set_option maxRecDepth 100000
set_option maxHeartbeats 1000000
set_option exponentiation.threshold 100000
namespace T13
open PySem PySem.Spec PyProof.Rows L2 Fa Fb K13
open M13 (Fc Bst)
abbrev sStr : Stmt := top 54
theorem scStr : FnScope ["told", "unit", "one", "other", "best", "saying", "amount", "strict", "side"] ["told", "unit", "one", "other"] (defScope sStr) := ⟨rfl, rfl, rfl, by decide +kernel, rfl, by decide +kernel, by decide +kernel⟩

def BsV (K : PySem.W.Frag) (n : Nat) (H : Hp) (x : V) (b : Bst) : Prop := (x = .non ∧ b = none) ∨ ∃ w a t v f, x = .ref w ∧ H w = some (.tup [.ref a, .bl f]) ∧ IsA K H (.ref a) t v n ∧ b = some (vq t v, f)
theorem BsV.same {K : PySem.W.Frag} {n : Nat} {H H' : Hp} {x : V} {b : Bst} (h : BsV K n H x b) (s : Same H H') : BsV K n H' x b := h.imp id fun ⟨w, a, t, v, f, e, h1, h2, h3⟩ => ⟨w, a, t, v, f, e, s _ _ h1, h2.same s, h3⟩
def td (u : Str) (i j : Nat) : PyData := .tuple [.str u, .int (i : Int), .int (j : Int)]
theorem td_eqv (u w : Str) (i j k l : Nat) : PyData.eqv (td u i j) (td w k l) = decide ((u, i, j) = (w, k, l)) := by
  have e : PyData.eqv (td u i j) (td w k l) = (decide (u = w) && (decide ((i : Int) = (k : Int)) && decide ((j : Int) = (l : Int)))) := by
    simp [td, PyData.eqv, PyData.eqvAll]
    try rfl
  rw [e, Bool.eq_iff_iff, Bool.and_eq_true, Bool.and_eq_true, decide_eq_true_iff, decide_eq_true_iff, decide_eq_true_iff, decide_eq_true_iff]
  constructor
  · rintro ⟨a, b, c⟩
    rw [a, show i = k by omega, show j = l by omega]
  · intro h
    cases h
    exact ⟨rfl, rfl, rfl⟩
theorem td_shaped (u : Str) (i j : Nat) (h : PyData.strOk u = true) : SeqAt.shaped (td u i j) = true := by
  simp [td, SeqAt.shaped, PyData.canLay0, PyData.canLayAll0, PyData.depth, PyData.depthAll, h]
theorem sign_of {t u t2 u2 : Int} (a : Am.Red t u) (b : Am.Red t2 u2) : (t * u2 - t2 * u = 0 ↔ vq t u = vq t2 u2) ∧ (0 < t * u2 - t2 * u ↔ vq t2 u2 < vq t u) := by
  refine ⟨?_, ?_⟩
  · rw [vq_eq (Int.ne_of_gt a.1) (Int.ne_of_gt b.1)]
    omega
  · rw [← vq_lt b.1 a.1]
    omega
abbrev SSt (F : Addr) (u : Str) (i j : Nat) (bv : V) (q : Addr) (v6 v7 v8 : Option V) : L2.St := [some (.ref F), some (.str u), some (.int (i : Int)), some (.int (j : Int)), some bv, some (.ref q), v6, v7, v8]
def sStr0 (K : PySem.W.Frag) : TS := fun D σ H' => ∃ (F : Addr) (u : Str) (i j : Nat) (bv : V) (z : Sg) (b : Bst) (n : Nat) (v6 v7 v8 : Option V), σ = SSt F u i j bv z.q v6 v7 v8 ∧ SgOk K n H' z ∧ BsV K n H' bv b ∧ n ≤ 3000 ∧ PyData.strOk u = true ∧ PyData.strOk z.u = true ∧
  ∀ bv' v6 v7 v8 H'', Same H' H'' → BsV K n H'' bv' (M13.step u i j b (sgv z)) → D.nx (SSt F u i j bv' z.q v6 v7 v8) H'' ∧ D.ct (SSt F u i j bv' z.q v6 v7 v8) H''
def spStr (K : PySem.W.Frag) : Sp := fun vs H Q _ => ∃ (F : Addr) (u : Str) (i j : Nat) (zs : List Sg) (n : Nat), vs = [.ref F, .str u, .int (i : Int), .int (j : Int)] ∧ SyL K n H F zs ∧ n ≤ 3000 ∧ PyData.strOk u = true ∧ (∀ z ∈ zs, PyData.strOk z.u = true) ∧ ∀ H' v, Same H H' → BsV K n H' v (M13.best (zs.map sgv) u i j) → Q v H'
section
variable {P : Program} {w : World} {K : PySem.W.Frag} {mg : Str → Option Value} {base : Heap} {f f1 : Addr} {fd fd1 : FuncData}
theorem ok_str (F : FnP K "strongest" sStr f fd) (T : AF K mg) (MC : MeK P w K mg base "compare" 7 (spCmp K) f1 fd1) : FnOk P w K mg base (L2.CX P w) 8 f fd ["told", "unit", "one", "other"] (spStr K) := by
  refine F.ok scStr (fun vs H Q E h => ?_) (fun cdv A outer s H vs Q E hr h => ?_)
  · obtain ⟨F, u, i, j, zs, n, rfl, _⟩ := h
    rfl
  · obtain ⟨F, u, i, j, zs, n, rfl, sy, n6, su, sz, k⟩ := h
    have hu : (A.deeper (envOfC "strongest" (defScope sStr) s.heap.objs.size f cdv)).units + 64 < cLine := by
      have := hr.un
      omega
    have hr7 := hr.mono (show 7 ≤ 7 by decide)
    refine ⟨_, (pss_cons (ps_set (i := 4) scStr.nd rfl (Or.inl rfl) pe_non)
      (pss_cons (ps_for (passes_of rfl) rfl (pi_list (pv 0)) (pg_name (i := 5) scStr.nd rfl (Or.inl rfl))
      (pss_imp (S := sStr0 K) (pss_cons (ps_if (pt_cmpR (op_neD hu) (pe_slice sl_tup (pv 5) po_none (po_some pe_int)) (pe_tup (pa_cons (pv 1) (pa_cons (pv 2) (pa_cons (pv 3) pa_nil)))) (nomark _)) (pss_one ps_continue) pss_nil)
      (pss_cons (ps_asg (pe_slice sl_tup (pv 5) (po_some pe_int) po_none) (pg_tup (by rfl) (pgs_cons (pg_name (i := 6) scStr.nd rfl (Or.inl rfl)) (pgs_cons (pg_name (i := 7) scStr.nd rfl (Or.inl rfl)) pgs_nil))))
      (pss_cons (ps_set (i := 8) scStr.nd rfl (Or.inl rfl) (pe_ifExp (pt_cmpR op_isN (pv 4) pe_non (nomark _)) pe_int (pe_meth (pv 6) T.cl MC.me MC.ok hr7 MC.b .nil passL (pa_cons (pe_ix ix_tup (pv 4) pe_int (fun _ _ => rfl)) pa_nil))))
      (pss_one (ps_if (pt_cmpR op_gt (pv 8) pe_int (nomark _)) (pss_one (ps_set (i := 4) scStr.nd rfl (Or.inl rfl) (pe_tup (pa_cons (pv 6) (pa_cons (pv 7) pa_nil))))) (pss_one (ps_if (pt_cmpR op_eq (pv 8) pe_int (nomark _)) (pss_one (ps_set (i := 4) scStr.nd rfl (Or.inl rfl) (pe_tup (pa_cons (pv 6) (pa_cons (pe_or (pv 7) (pe_one (pe_ix ix_tup (pv 4) pe_int (fun _ _ => rfl)))) pa_nil))))) pss_nil))))))) ?c0))
      (pss_one (ps_ret (pv 4))))), ?_⟩
    case c0 =>
      rintro D σ H1 ⟨F, u, i, j, bv, z, b, n, v6, v7, v8, rfl, ⟨hz, iz⟩, bs, n6, su, sz, kk⟩
      refine ⟨_, rfl, _, rfl, z.q, _, rfl, SqT.of hz, (fun h => absurd (show (3 : Nat) = 5 from h.2) (by decide)), fun t1 ht1 => ?_⟩
      have ec : cutV [V.str z.u, .int (z.i : Int), .int (z.j : Int), .ref z.a, .bl z.st] none (some 3) = [V.str z.u, .int (z.i : Int), .int (z.j : Int)] := rfl
      rw [ec]
      have s2 := Same.upd (o := .tup [V.str z.u, .int (z.i : Int), .int (z.j : Int)]) ht1
      have e2 : upd H1 t1 (.tup [V.str z.u, .int (z.i : Int), .int (z.j : Int)]) t1 = some (.tup [V.str z.u, .int (z.i : Int), .int (z.j : Int)]) := upd_same
      generalize upd H1 t1 (.tup [V.str z.u, .int (z.i : Int), .int (z.j : Int)]) = H2 at s2 e2 ⊢
      refine ⟨_, rfl, _, rfl, _, rfl, by show 3 ≤ sizeLine; decide, fun t2 ht2 => ?_⟩
      have s3 := Same.upd (o := .tup [V.str u, .int (i : Int), .int (j : Int)]) ht2
      have e3 : upd H2 t2 (.tup [V.str u, .int (i : Int), .int (j : Int)]) t2 = some (.tup [V.str u, .int (i : Int), .int (j : Int)]) := upd_same
      generalize upd H2 t2 (.tup [V.str u, .int (i : Int), .int (j : Int)]) = H3 at s3 e3 ⊢
      refine ⟨td z.u z.i z.j, td u i j, .tup (SqT.of (s3 _ _ e2)) (.cons (.str _) (.cons (.int _) (.cons (.int _) .nil))), .tup (SqT.of e3) (.cons (.str _) (.cons (.int _) (.cons (.int _) .nil))), td_shaped _ _ _ sz, td_shaped _ _ _ su, _, rfl, ?_⟩
      rw [td_eqv]
      have s13 := s2.trans s3
      by_cases c : (z.u, z.i, z.j) = (u, i, j)
      · rw [decide_eq_true c]
        refine iteF ?_
        have est : M13.step u i j b (sgv z) = M13.more b (vq z.t z.v) z.st := by
          unfold M13.step
          rw [if_pos (show ((sgv z).1, (sgv z).2.1, (sgv z).2.2.1) = (u, i, j) from c)]
          rfl
        rw [est] at kk
        refine ⟨_, rfl, _, rfl, z.q, _, rfl, SqT.of (s13 _ _ hz), (fun h => absurd (show (3 : Nat) = 0 from h.1) (by decide)), fun t3 ht3 => ?_⟩
        have ec : cutV [V.str z.u, .int (z.i : Int), .int (z.j : Int), .ref z.a, .bl z.st] (some 3) none = [.ref z.a, .bl z.st] := rfl
        rw [ec]
        have s4 := Same.upd (o := .tup [V.ref z.a, .bl z.st]) ht3
        have e4 : upd H3 t3 (.tup [V.ref z.a, .bl z.st]) t3 = some (.tup [V.ref z.a, .bl z.st]) := upd_same
        generalize upd H3 t3 (.tup [V.ref z.a, .bl z.st]) = H4 at s4 e4 ⊢
        refine ⟨t3, _, rfl, SqT.of e4, rfl, _, _, rfl, _, _, rfl, rfl, ?_⟩
        have s14 := s13.trans s4
        have iz4 := iz.same s14
        rcases bs.same s14 with ⟨rfl, rfl⟩ | ⟨w, a, t, v, f, rfl, hw, ia, rfl⟩
        · refine ⟨_, rfl, rfl, _, rfl, if_true_of (by rfl) ?_⟩
          refine ⟨_, rfl, _, _, rfl, rfl, _, rfl, if_true_of (by rfl) ?_⟩
          refine ⟨_, rfl, _, rfl, by show 2 ≤ sizeLine; decide, fun w hw => ?_⟩
          have s5 := Same.upd (o := .tup [V.ref z.a, .bl z.st]) hw
          exact (kk _ _ _ _ _ (s14.trans s5) (.inr ⟨w, z.a, z.t, z.v, z.st, rfl, upd_same, iz4.same s5, rfl⟩)).1
        · refine ⟨_, rfl, rfl, _, rfl, if_false_of (by rfl) ?_⟩
          obtain ⟨pz, dz, ez, hza, rz, _⟩ := id iz4
          cases ez
          obtain ⟨pa, da, ea, hpa, ra, _⟩ := id ia
          obtain ⟨sg0, sg1⟩ := sign_of rz ra
          refine ⟨_, rfl, z.a, dz, _, rfl, hza, by rfl, _, rfl, w, _, 0, _, rfl, rfl, SqT.of hw, rfl, .ref z.a, .ref a, z.t, z.v, n, rfl, iz4, .inr ⟨t, v, n, .inl ia, by omega, fun H5 s5 => ?_⟩⟩
          have s15 := s14.trans s5
          have hw5 := s5 _ _ hw
          have ia5 := ia.same s5
          have iz5 := iz4.same s5
          by_cases h1 : vq t v < vq z.t z.v
          · have e : (if z.t * v - t * z.v = 0 then (0 : Int) else if 0 < z.t * v - t * z.v then 1 else -1) = 1 := by
              have := sg1.mpr h1
              rw [if_neg (by omega), if_pos this]
            rw [e]
            refine ⟨_, rfl, _, _, rfl, rfl, _, rfl, if_true_of (by rfl) ?_⟩
            refine ⟨_, rfl, _, rfl, by show 2 ≤ sizeLine; decide, fun w2 hw2 => ?_⟩
            have s6 := Same.upd (o := .tup [V.ref z.a, .bl z.st]) hw2
            refine (kk _ _ _ _ _ (s15.trans s6) (.inr ⟨w2, z.a, z.t, z.v, z.st, rfl, upd_same, iz5.same s6, ?_⟩)).1
            show (if vq t v < vq z.t z.v then _ else _) = _
            rw [if_pos h1]
          · by_cases h2 : vq z.t z.v = vq t v
            · have e : (if z.t * v - t * z.v = 0 then (0 : Int) else if 0 < z.t * v - t * z.v then 1 else -1) = 0 := by
                rw [if_pos (sg0.mpr h2)]
              rw [e]
              have em : ∀ g, g = (z.st || f) → M13.more (some (vq t v, f)) (vq z.t z.v) z.st = some (vq z.t z.v, g) := fun g hg => by
                show (if vq t v < vq z.t z.v then _ else if vq z.t z.v = vq t v then _ else _) = _
                rw [if_neg h1, if_pos h2, hg]
              refine ⟨_, rfl, _, _, rfl, rfl, _, rfl, if_false_of (by rfl) ?_⟩
              refine ⟨_, rfl, rfl, _, rfl, if_true_of (by rfl) ?_⟩
              refine ⟨_, rfl, _, rfl, _, rfl, ?_⟩
              cases hst : z.st with
              | true =>
                refine iteT ⟨by show 2 ≤ sizeLine; decide, fun w2 hw2 => ?_⟩
                have s6 := Same.upd (o := .tup [V.ref z.a, .bl true]) hw2
                exact (kk _ _ _ _ _ (s15.trans s6) (.inr ⟨w2, z.a, z.t, z.v, true, rfl, upd_same, iz5.same s6, em true (by rw [hst]; rfl)⟩)).1
              | false =>
                refine iteF ⟨_, rfl, w, _, 1, _, rfl, rfl, SqT.of hw5, rfl, by show 2 ≤ sizeLine; decide, fun w2 hw2 => ?_⟩
                have s6 := Same.upd (o := .tup [V.ref z.a, .bl f]) hw2
                exact (kk _ _ _ _ _ (s15.trans s6) (.inr ⟨w2, z.a, z.t, z.v, f, rfl, upd_same, iz5.same s6, em f (by rw [hst]; rfl)⟩)).1
            · have e : (if z.t * v - t * z.v = 0 then (0 : Int) else if 0 < z.t * v - t * z.v then 1 else -1) = -1 := by
                rw [if_neg fun x => h2 (sg0.mp x), if_neg fun x => h1 (sg1.mp x)]
              rw [e]
              refine ⟨_, rfl, _, _, rfl, rfl, _, rfl, if_false_of (by rfl) ?_⟩
              refine ⟨_, rfl, rfl, _, rfl, if_false_of (by rfl) ?_⟩
              refine (kk _ _ _ _ _ s15 (.inr ⟨w, a, t, v, f, rfl, hw5, ia5, ?_⟩)).1
              show (if vq t v < vq z.t z.v then _ else if vq z.t z.v = vq t v then _ else _) = _
              rw [if_neg h1, if_neg h2]
      · rw [decide_eq_false c]
        refine iteT ?_
        have est : M13.step u i j b (sgv z) = b := by
          unfold M13.step
          rw [if_neg (show ¬ ((sgv z).1, (sgv z).2.1, (sgv z).2.2.1) = (u, i, j) from c)]
        rw [est] at kk
        exact (kk bv _ _ _ H3 s13 (bs.same s13)).2
    have step : ∀ (l : List Sg) (i' : Nat) (z : Sg), l[i']? = some z → M13.best ((l.take (i' + 1)).map sgv) u i j = M13.step u i j (M13.best ((l.take i').map sgv) u i j) (sgv z) := fun l i' z e => by
      rw [List.take_add_one, e, List.map_append]
      exact M13.best_app _ _ _ _ _
    refine ⟨_, rfl, F, rfl, ⟨_, SqL.of sy.l⟩, for_list (K := K) (a := F) (xs := zs.map fun z => V.ref z.q) (fun m σ H' => Same H H' ∧ ∃ bv v5 v6 v7 v8, σ = [some (.ref F), some (.str u), some (.int (i : Int)), some (.int (j : Int)), some bv, v5, v6, v7, v8] ∧ BsV K n H' bv (M13.best ((zs.take m).map sgv) u i j)) ⟨Same.refl _, _, _, _, _, _, rfl, .inl ⟨rfl, rfl⟩⟩ (fun m σ H' _ ⟨s, _⟩ => SqL.of (s _ _ sy.l)) ?_ ?_⟩
    · rintro m x σ H2 hx ⟨s2, bv, v5, v6, v7, v8, rfl, bs⟩
      obtain ⟨z, ez, rfl⟩ := map_at hx
      have hz := List.mem_of_getElem? ez
      refine ⟨F, u, i, j, bv, z, _, n, _, _, _, rfl, (sy.ok z hz).kt (KT.of s2), bs, n6, su, sz z hz, fun bv' v6 v7 v8 H'' s' bs' => ?_⟩
      rw [← step zs m z ez] at bs'
      exact ⟨⟨s2.trans s', _, _, _, _, _, rfl, bs'⟩, ⟨s2.trans s', _, _, _, _, _, rfl, bs'⟩⟩
    · rintro σ H2 ⟨s2, bv, v5, v6, v7, v8, rfl, bs⟩
      rw [List.length_map, List.take_length] at bs
      exact ⟨_, rfl, k H2 bv s2 bs⟩
end
end T13
set_option Elab.async false
set_option linter.all false
set_option maxRecDepth 100000
set_option maxHeartbeats 1000000
set_option exponentiation.threshold 100000
namespace T13
open PySem PySem.Spec PyProof.Rows L2 Fa Fb K13
open M13 (Fc Bst)
abbrev sBnd : Stmt := top 55
theorem scBnd : FnScope ["sheet", "unit", "one", "other", "facts"] ["sheet", "unit", "one", "other", "facts"] (defScope sBnd) := ⟨rfl, rfl, rfl, by decide +kernel, rfl, by decide +kernel, by decide +kernel⟩

def nR (gs : List Cu) : Nat := (M04.all (gs.map cv)).rows.length
/-- no number of a moment -/
def BadM (K : PySem.W.Frag) (H : Hp) (gs : List Cu) (y : V) : Prop := (∀ J, Same H J → Wh K J y false) ∨ ∃ i : Int, y = .int i ∧ ¬ (0 ≤ i ∧ i < (nR gs : Int))
theorem BadM.same {K : PySem.W.Frag} {H H' : Hp} {gs : List Cu} {y : V} (h : BadM K H gs y) (s : Same H H') : BadM K H' gs y := h.imp (fun h J sJ => h J (s.trans sJ)) id
def BadU (K : PySem.W.Frag) (H : Hp) (y : V) : Prop := Tx K H y false ∨ ∃ z : Str, y = .str z ∧ isUnit z = false
def FsC (K : PySem.W.Frag) (H : Hp) (gs : List Cu) (fa : V) (E : XK) (Q : VK) (u : Str) (i j : Nat) : Prop := (NoL K H fa ∧ ∀ H', Same H H' → Err (CIP K) fa H' E) ∨ (∃ a fs n, fa = .ref a ∧ FsV K n H a fs ∧ (∀ z ∈ fs, Kn gs z.2) ∧ n ≤ 60 ∧ ∀ H' v, Same H H' → BsV K n H' v (M13.best ((fs.map fun z => z.2).flatMap (M13.says (nmN gs))) u i j) → Q v H') ∨
  ∃ a x, fa = .ref a ∧ H a = some (.lst [x, .non]) ∧ ((NoL K H x ∧ ∀ H', Same H H' → Err (CIF K) x H' E) ∨ ∃ q f n, x = .ref q ∧ FcV K n H q f ∧ (nmo gs f.names.1).isSome = true ∧ nmo gs f.names.2 = none ∧ ∀ H', Same H H' → ErrL (CUn K) (.str f.names.2) H' E)
def spBnd (K : PySem.W.Frag) : Sp := fun vs H Q E => ∃ x un a b fa, vs = [x, un, a, b, fa] ∧ ((NoSheet K H x ∧ Err (CIS K) x H E) ∨ ∃ o mm H0 gs, x = .ref o ∧ ShAt K mm H0 H o gs ∧ ((BadU K H un ∧ Err (CU K) un H E) ∨ ∃ u, un = .str u ∧ isUnit u = true ∧
  ((BadM K H gs a ∧ ∀ J, Same H J → Err (CI K) a J E) ∨ ∃ i : Nat, a = .int (i : Int) ∧ i < nR gs ∧ ((BadM K H gs b ∧ ∀ J, Same H J → Err (CI K) b J E) ∨ ∃ j : Nat, b = .int (j : Int) ∧ j < nR gs ∧ FsC K H gs fa E Q u i j))))
section
variable {P : Program} {w : World} {K : PySem.W.Frag} {mg : Str → Option Value} {base : Heap} {f f1 f2 f3 f4 f5 f6 : Addr} {fd fd1 fd2 fd3 fd4 fd5 fd6 : FuncData}
theorem ok_bnd (F : FnP K "bound" sBnd f fd) (CKS : Fn P w K mg base "check_sheet" 2 ["sheet"] (spChs K) f1 fd1) (CKU : Fn P w K mg base "check_unit" 2 ["unit"] (spChk K) f2 fd2) (CKM : Fn P w K mg base "check_moment" 3 ["sheet", "number"] (spCM K) f3 fd3) (CFS : Fn P w K mg base "check_facts" 7 ["sheet", "facts"] (spCfs K) f4 fd4) (SY : Fn P w K mg base "sayings" 7 ["sheet", "facts"] (spSay K) f5 fd5) (ST : Fn P w K mg base "strongest" 8 ["told", "unit", "one", "other"] (spStr K) f6 fd6) : FnOk P w K mg base (L2.CX P w) 9 f fd ["sheet", "unit", "one", "other", "facts"] (spBnd K) := by
  refine F.ok scBnd (fun vs H Q E h => ?_) (fun cdv A outer s H vs Q E hr h => ?_)
  · obtain ⟨x, un, a, b, fa, rfl, _⟩ := h
    rfl
  · obtain ⟨x, un, a, b, fa, rfl, c⟩ := h
    have hr2 := hr.mono (show 2 ≤ 8 by decide)
    have hr3 := hr.mono (show 3 ≤ 8 by decide)
    have hr7 := hr.mono (show 7 ≤ 8 by decide)
    have hr8 := hr.mono (show 8 ≤ 8 by decide)
    refine ⟨_, (pss_cons (ps_expr (pe_callS CKS.ok hr2 rfl CKS.g CKS.k CKS.b (fun σ => passAt (W := fun cls d _ H => E cls d H) (takes_of rfl rfl rfl rfl) σ) (pa_cons (pv 0) pa_nil)))
      (pss_cons (ps_expr (pe_callS CKU.ok hr2 rfl CKU.g CKU.k CKU.b (fun σ => passAt (W := fun cls d _ H => E cls d H) (takes_of rfl rfl rfl rfl) σ) (pa_cons (pv 1) pa_nil)))
      (pss_cons (ps_expr (pe_callS CKM.ok hr3 rfl CKM.g CKM.k CKM.b (fun σ => passAt (W := fun cls d _ H => E cls d H) (takes_of rfl rfl rfl rfl) σ) (pa_cons (pv 0) (pa_cons (pv 2) pa_nil))))
      (pss_cons (ps_expr (pe_callS CKM.ok hr3 rfl CKM.g CKM.k CKM.b (fun σ => passAt (W := fun cls d _ H => E cls d H) (takes_of rfl rfl rfl rfl) σ) (pa_cons (pv 0) (pa_cons (pv 3) pa_nil))))
      (pss_cons (ps_expr (pe_callS CFS.ok hr7 rfl CFS.g CFS.k CFS.b (fun σ => passAt (W := fun cls d _ H => E cls d H) (takes_of rfl rfl rfl rfl) σ) (pa_cons (pv 0) (pa_cons (pv 4) pa_nil))))
      (pss_one (ps_ret (pe_call ST.ok hr8 rfl ST.g ST.k ST.b .nil passL (pa_cons (pe_call SY.ok hr7 rfl SY.g SY.k SY.b .nil passL (pa_cons (pv 0) (pa_cons (pv 4) pa_nil))) (pa_cons (pv 1) (pa_cons (pv 2) (pa_cons (pv 3) pa_nil)))))))))))), ?_⟩
    rcases c with ⟨ns, er⟩ | ⟨o, mm, H0, gs, rfl, sh, c⟩
    · exact ⟨_, rfl, x, rfl, .inl ⟨ns, er⟩⟩
    refine ⟨_, rfl, _, rfl, .inr ⟨o, mm, H0, gs, rfl, sh, ?_⟩⟩
    rcases c with ⟨bu, er⟩ | ⟨u, rfl, hu, c⟩
    · rcases bu with tx | ⟨z, rfl, hz⟩
      · exact ⟨_, rfl, un, rfl, .inl ⟨tx, er⟩⟩
      · exact ⟨_, rfl, _, rfl, .inr ⟨z, rfl, fun _ => er, fun e => by rw [hz] at e; cases e⟩⟩
    refine ⟨_, rfl, _, rfl, .inr ⟨u, rfl, (fun e => by rw [hu] at e; cases e), fun _ => ?_⟩⟩
    rcases c with ⟨bm, er⟩ | ⟨i, rfl, hi, c⟩
    · rcases bm with wh | ⟨i, rfl, ni⟩
      · exact ⟨_, rfl, _, rfl, o, mm, H0, gs, _, rfl, sh, .inl ⟨wh, er⟩⟩
      · exact ⟨_, rfl, _, rfl, o, mm, H0, gs, _, rfl, sh, .inr ⟨i, rfl, fun _ => er, fun h => absurd h ni⟩⟩
    refine ⟨_, rfl, _, rfl, o, mm, H0, gs, _, rfl, sh, .inr ⟨(i : Int), rfl, (fun h => absurd ⟨by omega, by unfold nR at hi; omega⟩ h), fun _ H1 s1 => ?_⟩⟩
    have sh1 := sh.same s1
    rcases c with ⟨bm, er⟩ | ⟨j, rfl, hj, c⟩
    · rcases bm.same s1 with wh | ⟨j, rfl, nj⟩
      · exact ⟨_, rfl, _, rfl, o, mm, H0, gs, _, rfl, sh1, .inl ⟨wh, fun J sJ => er J (s1.trans sJ)⟩⟩
      · exact ⟨_, rfl, _, rfl, o, mm, H0, gs, _, rfl, sh1, .inr ⟨j, rfl, fun _ J sJ => er J (s1.trans sJ), fun h => absurd h nj⟩⟩
    refine ⟨_, rfl, _, rfl, o, mm, H0, gs, _, rfl, sh1, .inr ⟨(j : Int), rfl, (fun h => absurd ⟨by omega, by unfold nR at hj; omega⟩ h), fun _ H2 s2 => ?_⟩⟩
    have s12 := s1.trans s2
    have sh2 := sh.same s12
    refine ⟨_, rfl, _, rfl, o, mm, H0, gs, _, rfl, sh2, ?_⟩
    rcases c with ⟨nl, er⟩ | ⟨q, fs, n, rfl, fv, kn, n6, k⟩ | ⟨q, y, rfl, hq, c⟩
    · exact .inl ⟨nl.same s12, fun J sJ => er J (s12.trans sJ)⟩
    · refine .inr (.inl ⟨q, fs, n, rfl, fv.same s12, kn, fun H3 s3 => ?_⟩)
      have s13 := s12.trans s3
      refine ⟨_, rfl, _, rfl, o, mm, H0, gs, q, fs, n, rfl, sh.same s13, fv.same s13, kn, n6, fun H4 F zs s4 sy e nF => ?_⟩
      have so : ∀ un, isUnit un = true → PyData.strOk un = true := fun un h => unit_ok h
      have us : ∀ z ∈ zs, PyData.strOk z.u = true := fun z hz => by
        have h1 : sgv z ∈ zs.map sgv := List.mem_map.mpr ⟨z, hz, rfl⟩
        rw [e] at h1
        obtain ⟨g, hg, h2⟩ := List.mem_flatMap.mp h1
        obtain ⟨p, hp, rfl⟩ := List.mem_map.mp hg
        have fp := fv.ok p hp
        generalize p.2 = g at h2 fp
        cases g with
        | ord a w b => cases h2
        | apt un a b x =>
          refine so _ ?_
          rcases List.mem_cons.mp h2 with h | h
          · rw [show z.u = un from congrArg Prod.fst h]; exact fp.1
          · rw [show z.u = un from congrArg Prod.fst (List.mem_singleton.mp h)]; exact fp.1
        | btw un a b lo hi =>
          refine so _ ?_
          have hun : (sgv z).1 = un := by
            unfold M13.says at h2
            rcases List.mem_append.mp h2 with h | h
            · cases lo with
              | none => cases h
              | some q => exact congrArg Prod.fst (List.mem_singleton.mp h)
            · cases hi with
              | none => cases h
              | some q => exact congrArg Prod.fst (List.mem_singleton.mp h)
          rw [show z.u = un from hun]
          exact fp.1
      refine ⟨_, rfl, _, rfl, _, rfl, F, u, i, j, zs, n, rfl, sy, by omega, so u hu, us, fun H5 v s5 bs => k H5 v (s13.trans (s4.trans s5)) ?_⟩
      rw [← e]
      exact bs
    · refine .inr (.inr ⟨q, y, rfl, s12 _ _ hq, ?_⟩)
      rcases c with ⟨nl, er⟩ | ⟨p, fc, n, rfl, fv, k1, k2, er⟩
      · exact .inl ⟨nl.same s12, fun J sJ => er J (s12.trans sJ)⟩
      · exact .inr ⟨p, fc, n, rfl, fv.same s12, k1, k2, fun J sJ => er J (s12.trans sJ)⟩
end
end T13
set_option Elab.async false
set_option linter.all false
set_option maxRecDepth 100000
set_option maxHeartbeats 1000000
set_option exponentiation.threshold 100000
namespace T13
open PySem PySem.Spec PyProof.Rows L2 Fa Fb K13
open M13 (Fc Bst)
abbrev sFar : Stmt := top 69
theorem scFar : FnScope ["_law_amount_here"] ["_law_amount_here"] (defScope sFar) := ⟨rfl, rfl, rfl, by decide +kernel, rfl, by decide +kernel, by decide +kernel⟩

def spFar (K : PySem.W.Frag) : Sp := fun vs H Q _ => ∃ (q : Addr) (t u : Int) (n : Nat), vs = [.ref q] ∧ Fr n H q t u ∧ 1 ≤ n ∧ n ≤ 2000 ∧ ∀ y H', Same H H' → Arg K H' y t u n → Q y H'
section
variable {P : Program} {w : World} {K : PySem.W.Frag} {mg : Str → Option Value} {base : Heap} {f : Addr} {fd fdI : FuncData}
theorem ok_far (F : FnP K "_law_far" sFar f fd) (T : AF K mg) (GI : FnOk P w K mg base (L2.CX P w) 4 (aI K) fdI ["self", "top", "bottom"] (spInit K)) (b2 : Binds K fdI ["self", "top", "bottom"] []) : FnOk P w K mg base (L2.CX P w) 6 f fd ["_law_amount_here"] (spFar K) := by
  refine F.ok scFar (fun vs H Q E h => ?_) (fun cdv A outer s H vs Q E hr h => ?_)
  · obtain ⟨q, t, u, n, rfl, _⟩ := h
    rfl
  · obtain ⟨q, t, u, m, rfl, fr, hm1, hm, k⟩ := h
    have hr5 := hr
    have hv := fr.at_
    have rd := fr.rd
    have b3 := fr.bt
    have b4 := fr.bu
    refine ⟨_, (pss_one (ps_ret (pe_ifExp (PW.pt (pw_and (pt_cmpR op_eq (pe_ix ix_tup (pv 0) pe_int (fun _ _ => rfl)) pe_int (nomark _)) (pw_and1 (pt_cmpR op_eq (pe_op op_mod (pe_ix ix_tup (pv 0) pe_int (fun _ _ => rfl)) pe_int) pe_int (nomark _))))) (pe_ix ix_tup (pv 0) pe_int (fun _ _ => rfl)) (pe_make T.mkA GI hr5 rfl T.g b2 .nil passL (pa_cons (pe_ix ix_tup (pv 0) pe_int (fun _ _ => rfl)) (pa_cons (pe_ix ix_tup (pv 0) pe_int (fun _ _ => rfl)) pa_nil)))))), ?_⟩
    have i0 : ∀ x y : V, atI [x, y] 0 = some x := fun _ _ => rfl
    have i1 : ∀ x y : V, atI [x, y] 1 = some y := fun _ _ => rfl
    have mk : ∀ (Q' : VK), (∀ y H', Same H H' → IsA K H' y t u m → Q' y H') → tMake (CA K) (spInit K) [] E0 (tCons (tOp (rIxT K) (tVar 0) (tC (.int 0))) (tCons (tOp (rIxT K) (tVar 0) (tC (.int 1))) tNil)) [some (.ref q)] H Q' := fun Q' k => by
      refine ⟨_, rfl, q, _, _, _, rfl, rfl, SqT.of hv, i0 _ _, _, rfl, q, _, _, _, rfl, rfl, SqT.of hv, i1 _ _, fun y dy hy hd hne => spInit_imp (make_fact T (n := m) (a := t) (b := u) (Int.ne_of_gt rd.1) (by omega) b3 b4 hy hd hne) fun w1 H2 ⟨hw, t1, u1, s1, ia, e1⟩ => ⟨hw, ?_⟩⟩
      obtain ⟨_, _, _, _, rd1, _⟩ := id ia
      obtain ⟨rfl, rfl⟩ := Am.uniq rd1 rd e1
      exact k _ _ s1 ia
    refine ⟨_, rfl, q, _, _, _, rfl, rfl, SqT.of hv, i1 _ _, rfl, _, rfl, ?_⟩
    by_cases c : u = 1
    · refine if_true_of (by rw [c]; rfl) ?_
      refine ⟨_, rfl, q, _, _, _, rfl, rfl, SqT.of hv, i0 _ _, _, _, rfl, rfl, (by show (0 : Int) < 3; decide), rfl, _, rfl, ?_⟩
      refine ite2 (fun _ => ?_) (fun _ => ?_)
      · refine ⟨_, rfl, q, _, _, _, rfl, rfl, SqT.of hv, i0 _ _, ?_⟩
        exact k _ H (Same.refl _) (.inr ⟨rfl, c, b3, hm1⟩)
      · exact mk _ fun y H' s ia => k y H' s (.inl ia)
    · refine if_false_of (decide_eq_false fun e => c (V.int.inj e)) ?_
      exact mk _ fun y H' s ia => k y H' s (.inl ia)
end
end T13
set_option Elab.async false
set_option linter.all false
set_option maxRecDepth 100000
set_option maxHeartbeats 1000000
set_option exponentiation.threshold 100000
namespace T13
open PySem PySem.Spec PyProof.Rows L2 Fa Fb K13
open M13 (Fc Bst)
abbrev sFct : Stmt := top 70
theorem scFct : FnScope ["_law_box_here", "_law_cues_here", "_law_names", "_law_one", "_law_other", "_law_way", "_law_unit", "_law_low", "_law_high", "_law_cue"] ["_law_box_here", "_law_cues_here"] (defScope sFct) := ⟨rfl, rfl, rfl, by decide +kernel, rfl, by decide +kernel, by decide +kernel⟩

/-- a limit of the law -/
def LimL (n : Nat) (H : Hp) (x : V) (l : Option Rat) : Prop := (x = .non ∧ l = none) ∨ ∃ r t u, x = .ref r ∧ Fr n H r t u ∧ l = some (vq t u)
theorem LimL.kt {n : Nat} {H H' : Hp} {x : V} {l : Option Rat} (h : LimL n H x l) (k : KT H H') : LimL n H' x l := h.imp id fun ⟨r, t, u, e, a, b⟩ => ⟨r, t, u, e, a.kt k, b⟩
/-- a fact of the law: amounts as pairs -/
def FcL (n : Nat) (H : Hp) (q : Addr) : Fc → Prop
  | .ord a w b => H q = some (.tup [.str "order", .str a, .str w, .str b]) ∧ isWord w = true
  | .apt un a b x => isUnit un = true ∧ ∃ r t u, H q = some (.tup [.str "apart", .str un, .str a, .str b, .ref r]) ∧ Fr n H r t u ∧ vq t u = x
  | .btw un a b lo hi => isUnit un = true ∧ ∃ v w, H q = some (.tup [.str "between", .str un, .str a, .str b, v, w]) ∧ LimL n H v lo ∧ LimL n H w hi
theorem FcL.kt {n : Nat} {H H' : Hp} {q : Addr} {f : Fc} (h : FcL n H q f) (k : KT H H') : FcL n H' q f := by
  cases f with
  | ord a w b => exact ⟨k _ _ h.1 (fun l z => by cases z), h.2⟩
  | apt un a b x => obtain ⟨hu, r, t, u, h1, h2, h3⟩ := h; exact ⟨hu, r, t, u, k _ _ h1 (fun l z => by cases z), h2.kt k, h3⟩
  | btw un a b lo hi => obtain ⟨hu, v, w, h1, h2, h3⟩ := h; exact ⟨hu, v, w, k _ _ h1 (fun l z => by cases z), h2.kt k, h3.kt k⟩
/-- a name that the law knows -/
def NmK (gs : List Lc) (z : Str) : Prop := z ∈ ("start" : Str) :: gs.map fun g => g.nm
abbrev SFc (p l nl : Addr) (v3 v4 v5 v6 v7 v8 : Option V) : L2.St := [some (.ref p), some (.ref l), some (.ref nl), v3, v4, v5, v6, v7, v8, none]
section
variable (H : Hp) (p l : Addr) (gs : List Lc)
abbrev FcK (D : Ends) (m : Nat) : Prop := ∀ H' q f, Kp p H H' → Box H' p (m + 40) → FcL 20 H' q f → NmK gs f.names.1 → NmK gs f.names.2 → H q = none → D.rt (.ref q) H'
def sFct1 : TS := fun D σ H' => ∃ (nl : Addr) (m : Nat) (v3 v4 v5 v6 v7 v8 : Option V), σ = SFc p l nl v3 v4 v5 v6 v7 v8 ∧ Kp p H H' ∧ Box H' p m ∧ m + 60 ≤ 1000000 ∧ H' nl = some (.lst (.str "start" :: gs.map fun g => V.str g.nm)) ∧ gs.length ≤ 14 ∧ FcK H p gs D m
def sFct2 : TS := fun D σ H' => ∃ (nl : Addr) (m : Nat) (a b : Str) (v5 v6 v7 v8 : Option V), σ = SFc p l nl (some (.str a)) (some (.str b)) v5 v6 v7 v8 ∧ Kp p H H' ∧ Box H' p (m + 2) ∧ m + 60 ≤ 1000000 ∧ NmK gs a ∧ NmK gs b ∧ FcK H p gs D m
def sFct3 : TS := fun D σ H' => ∃ (nl : Addr) (m : Nat) (a b un : Str) (way : Int) (v7 v8 : Option V), σ = SFc p l nl (some (.str a)) (some (.str b)) (some (.int way)) (some (.str un)) v7 v8 ∧ Kp p H H' ∧ Box H' p (m + 4) ∧ m + 60 ≤ 1000000 ∧ NmK gs a ∧ NmK gs b ∧ isUnit un = true ∧ FcK H p gs D m
def sFct4 : TS := fun D σ H' => ∃ (nl : Addr) (m : Nat) (a b un : Str) (way : Int) (v7 v8 : Option V), σ = SFc p l nl (some (.str a)) (some (.str b)) (some (.int way)) (some (.str un)) v7 v8 ∧ Kp p H H' ∧ Box H' p (m + 4) ∧ m + 60 ≤ 1000000 ∧ NmK gs a ∧ NmK gs b ∧ isUnit un = true ∧ FcK H p gs D m
end
def spFct : Sp := fun vs H Q _ => ∃ (p l : Addr) (m : Nat) (gs : List Lc), vs = [.ref p, .ref l] ∧ Box H p m ∧ m + 60 ≤ 1000000 ∧ LsC 20 H l gs ∧ l ≠ p ∧ ∀ H' q f, Kp p H H' → Box H' p (m + 40) → FcL 20 H' q f → NmK gs f.names.1 → NmK gs f.names.2 → H q = none → Q (.ref q) H'
section
variable {P : Program} {w : World} {K : PySem.W.Frag} {mg : Str → Option Value} {base : Heap} {f fT fA : Addr} {fd fdT fdA : FuncData}
theorem ok_fct (F : FnP K "_law_fact" sFct f fd) (mL : mg "len" = none) (GT : Fn0 P w K mg base "_law_take" 1 ["_law_box_here", "_law_many"] spTake fT fdT) (AM : Fn P w K mg base "_law_amount" 2 ["_law_box_here"] spLam fA fdA) : FnOk P w K mg base (L2.CX P w) 3 f fd ["_law_box_here", "_law_cues_here"] spFct := by
  refine F.ok scFct (fun vs H Q E h => ?_) (fun cdv A outer s H vs Q E hr h => ?_)
  · obtain ⟨p, l, m, gs, rfl, _⟩ := h
    rfl
  · obtain ⟨p, l, m, gs, rfl, hb, hm, hl, lp, k⟩ := h
    have hr1 := hr.mono (show 1 ≤ 2 by decide)
    have hr2 := hr.mono (show 2 ≤ 2 by decide)
    refine ⟨_, (pss_cons (ps_set (i := 2) scFct.nd rfl (Or.inl rfl) (pe_op op_cat (pe_lst (pa_cons pe_str pa_nil)) (pe_lc (own := [("_law_cue", 9)]) (g := gName 9) (te := tOp (rIxT K) (tVar 9) (tC (.int 0))) (by rfl) scFct.nd (pi_list (pv 1)) (blkOk_by (own := [("_law_cue", 9)]) (N := ["_law_box_here", "_law_cues_here", "_law_names", "_law_one", "_law_other", "_law_way", "_law_unit", "_law_low", "_law_high", "_law_cue"]) (sc := defScope sFct) (by decide +kernel)) (fun _ _ _ _ _ => (pg_name (i := 9) scFct.nd rfl (Or.inl rfl))) (fun _ _ _ _ _ => pts_nil) (fun _ _ _ _ _ => (pe_ix ix_tup (pv 9) pe_int (fun _ _ => rfl))))))
      (pss_imp (S := sFct1 H p l gs) (pss_cons (ps_par (by rfl) scFct.nd (i := 3) (j := 4) rfl rfl (by decide) rfl rfl (pa_cons (pe_ix ix_list (pv 2) (pe_call GT.ok hr1 rfl GT.g GT.k GT.b .nil pass0 (pa_cons (pv 0) (pa_cons (pe_callB call_len rfl mL PySem.boot_len (pa_cons (pv 2) pa_nil)) pa_nil))) (fun _ _ => rfl)) (pa_cons (pe_ix ix_list (pv 2) (pe_call GT.ok hr1 rfl GT.g GT.k GT.b .nil pass0 (pa_cons (pv 0) (pa_cons (pe_callB call_len rfl mL PySem.boot_len (pa_cons (pv 2) pa_nil)) pa_nil))) (fun _ _ => rfl)) pa_nil)) (by rfl))
      (pss_imp (S := sFct2 H p l gs) (pss_cons (ps_par (by rfl) scFct.nd (i := 5) (j := 6) rfl rfl (by decide) rfl rfl (pa_cons (pe_call GT.ok hr1 rfl GT.g GT.k GT.b .nil pass0 (pa_cons (pv 0) (pa_cons pe_int pa_nil))) (pa_cons (pe_ix ix_list (pe_lst (pa_cons pe_str (pa_cons pe_str pa_nil))) (pe_call GT.ok hr1 rfl GT.g GT.k GT.b .nil pass0 (pa_cons (pv 0) (pa_cons pe_int pa_nil))) (fun _ _ => rfl)) pa_nil)) (by rfl))
      (pss_imp (S := sFct3 H p l gs) (pss_cons (ps_if (pt_cmpR op_eq (pv 5) pe_int (nomark _)) (pss_one (ps_ret (pe_tup (pa_cons pe_str (pa_cons (pv 3) (pa_cons (pe_ix ix_list (pe_lst (pa_cons pe_str (pa_cons pe_str (pa_cons pe_str pa_nil)))) (pe_call GT.ok hr1 rfl GT.g GT.k GT.b .nil pass0 (pa_cons (pv 0) (pa_cons pe_int pa_nil))) (fun _ _ => rfl)) (pa_cons (pv 4) pa_nil))))))) pss_nil)
      (pss_cons (ps_if (pt_cmpR op_eq (pv 5) pe_int (nomark _)) (pss_one (ps_ret (pe_tup (pa_cons pe_str (pa_cons (pv 6) (pa_cons (pv 3) (pa_cons (pv 4) (pa_cons (pe_call AM.ok hr2 rfl AM.g AM.k AM.b .nil passL (pa_cons (pv 0) pa_nil)) pa_nil)))))))) pss_nil)
      (pss_imp (S := sFct4 H p l gs) (pss_cons (ps_par (by rfl) scFct.nd (i := 7) (j := 8) rfl rfl (by decide) rfl rfl (pa_cons (pe_ix ix_list (pe_lst (pa_cons pe_non (pa_cons (pe_call AM.ok hr2 rfl AM.g AM.k AM.b .nil passL (pa_cons (pv 0) pa_nil)) pa_nil))) (pe_call GT.ok hr1 rfl GT.g GT.k GT.b .nil pass0 (pa_cons (pv 0) (pa_cons pe_int pa_nil))) (fun _ _ => rfl)) (pa_cons (pe_ix ix_list (pe_lst (pa_cons pe_non (pa_cons (pe_call AM.ok hr2 rfl AM.g AM.k AM.b .nil passL (pa_cons (pv 0) pa_nil)) pa_nil))) (pe_call GT.ok hr1 rfl GT.g GT.k GT.b .nil pass0 (pa_cons (pv 0) (pa_cons pe_int pa_nil))) (fun _ _ => rfl)) pa_nil)) (by rfl))
      (pss_one (ps_ret (pe_tup (pa_cons pe_str (pa_cons (pv 6) (pa_cons (pv 3) (pa_cons (pv 4) (pa_cons (pv 7) (pa_cons (pv 8) pa_nil)))))))))) ?c4))) ?c3)) ?c2)) ?c1)), ?_⟩
    case c4 =>
      rintro D σ H1 ⟨nl, m, a, b, un, way, v7, v8, rfl, kp, bx, hm, na, nb, hu, kk⟩
      refine ⟨_, rfl, p, _, rfl, bx, by omega, fun r t u H2 k2 b2 fr => ⟨by show 2 ≤ sizeLine; decide, fun l1 hl1 => ?_⟩⟩
      have s3 := Same.upd (o := .lst [V.non, .ref r]) hl1
      have e3 : upd H2 l1 (.lst [V.non, .ref r]) l1 = some (.lst [V.non, .ref r]) := upd_same
      have nl1 := (b2.ne hl1).symm
      have b3 := b2.sm s3
      have fr3 := fr.kt (KT.of s3)
      generalize upd H2 l1 (.lst [V.non, .ref r]) = H3 at s3 e3 b3 fr3 ⊢
      refine ⟨_, rfl, p, 2, _, rfl, b3, by omega, by decide, by decide, fun z H4 z0 z1 b4 k4 => ?_⟩
      obtain ⟨v, ev, mv⟩ := atI_in (xs := [V.non, V.ref r]) z0 z1
      have fr4 := fr3.kt (KT.kp b3 (Kp.but k4))
      obtain ⟨lo, lv⟩ : ∃ lo, LimL 20 H4 v lo := by
        rcases List.mem_cons.mp mv with e | e
        · exact ⟨none, .inl ⟨e, rfl⟩⟩
        · exact ⟨_, .inr ⟨r, t, u, List.mem_singleton.mp e, fr4, rfl⟩⟩
      refine ⟨l1, _, z, _, rfl, rfl, SqL.of ((k4 l1 nl1).trans e3), ev, ?_⟩
      have k14 := kp.trans (k2.trans ((Kp.same s3).trans (Kp.but k4)))
      refine ⟨_, rfl, p, _, rfl, b4, by omega, fun r2 t2 u2 H5 k5 b5 fr5 => ⟨by show 2 ≤ sizeLine; decide, fun l2 hl2 => ?_⟩⟩
      have s6 := Same.upd (o := .lst [V.non, .ref r2]) hl2
      have e6 : upd H5 l2 (.lst [V.non, .ref r2]) l2 = some (.lst [V.non, .ref r2]) := upd_same
      have nl2 := (b5.ne hl2).symm
      have b6 := b5.sm s6
      have fr6 := fr5.kt (KT.of s6)
      generalize upd H5 l2 (.lst [V.non, .ref r2]) = H6 at s6 e6 b6 fr6 ⊢
      refine ⟨_, rfl, p, 2, _, rfl, b6, by omega, by decide, by decide, fun z2 H7 y0 y1 b7 k7 => ?_⟩
      obtain ⟨w, ew, mw⟩ := atI_in (xs := [V.non, V.ref r2]) y0 y1
      have fr7 := fr6.kt (KT.kp b6 (Kp.but k7))
      obtain ⟨hi, lw⟩ : ∃ hi, LimL 20 H7 w hi := by
        rcases List.mem_cons.mp mw with e | e
        · exact ⟨none, .inl ⟨e, rfl⟩⟩
        · exact ⟨_, .inr ⟨r2, t2, u2, List.mem_singleton.mp e, fr7, rfl⟩⟩
      refine ⟨l2, _, z2, _, rfl, rfl, SqL.of ((k7 l2 nl2).trans e6), ew, _, _, rfl, ?_⟩
      have k47 := k5.trans ((Kp.same s6).trans (Kp.but k7))
      have lv7 := lv.kt (KT.kp b4 k47)
      have k17 := k14.trans k47
      refine ⟨_, rfl, _, rfl, _, rfl, _, rfl, _, rfl, by show 6 ≤ sizeLine; decide, fun q hq => ?_⟩
      have s8 := Same.upd (o := .tup [.str "between", .str un, .str a, .str b, v, w]) hq
      exact kk _ q (.btw un a b lo hi) (k17.trans (Kp.same s8)) ((b7.sm s8).mono (by omega)) ⟨hu, v, w, upd_same, lv7.kt (KT.of s8), lw.kt (KT.of s8)⟩ na nb (k17.no (b7.ne hq).symm hq)
    case c3 =>
      rintro D σ H1 ⟨nl, m, a, b, un, way, v7, v8, rfl, kp, bx, hm, na, nb, hu, kk⟩
      refine ⟨_, rfl, rfl, _, rfl, ?_⟩
      by_cases c0 : way = 0
      · refine if_true_of (by rw [c0]; rfl) ?_
        refine ⟨_, rfl, by show 3 ≤ sizeLine; decide, fun l1 hl1 => ?_⟩
        have s1 := Same.upd (o := .lst [.str "before", .str "same", .str "after"]) hl1
        have e1 : upd H1 l1 (.lst [.str "before", .str "same", .str "after"]) l1 = some (.lst [.str "before", .str "same", .str "after"]) := upd_same
        have nl1 := (bx.ne hl1).symm
        have b1 := bx.sm s1
        generalize upd H1 l1 (.lst [.str "before", .str "same", .str "after"]) = H2 at s1 e1 b1 ⊢
        refine ⟨_, rfl, p, 3, _, rfl, b1, by omega, by decide, by decide, fun z H3 z0 z1 b3 k3 => ?_⟩
        obtain ⟨v, ev, mv⟩ := atI_in (xs := [V.str "before", V.str "same", V.str "after"]) z0 z1
        obtain ⟨w, rfl, hw⟩ : ∃ w : Str, v = .str w ∧ isWord w = true := by
          simp only [List.mem_cons, List.not_mem_nil, or_false] at mv
          rcases mv with e | e | e
          · exact ⟨_, e, by decide +kernel⟩
          · exact ⟨_, e, by decide +kernel⟩
          · exact ⟨_, e, by decide +kernel⟩
        refine ⟨l1, _, z, _, rfl, rfl, SqL.of ((k3 l1 nl1).trans e1), ev, _, rfl, by show 4 ≤ sizeLine; decide, fun q hq => ?_⟩
        have k13 := kp.trans ((Kp.same s1).trans (Kp.but k3))
        have s4 := Same.upd (o := .tup [.str "order", .str a, .str w, .str b]) hq
        exact kk _ q (.ord a w b) (k13.trans (Kp.same s4)) ((b3.sm s4).mono (by omega)) ⟨upd_same, hw⟩ na nb (k13.no (b3.ne hq).symm hq)
      · refine if_false_of (decide_eq_false fun e => c0 (V.int.inj e)) ?_
        refine ⟨_, rfl, rfl, _, rfl, ?_⟩
        by_cases c1 : way = 1
        · refine if_true_of (by rw [c1]; rfl) ?_
          refine ⟨_, rfl, _, rfl, _, rfl, _, rfl, p, _, rfl, bx, by omega, fun r t u H2 k2 b2 fr => ⟨by show 5 ≤ sizeLine; decide, fun q hq => ?_⟩⟩
          have k12 := kp.trans k2
          have s4 := Same.upd (o := .tup [.str "apart", .str un, .str a, .str b, .ref r]) hq
          exact kk _ q (.apt un a b (vq t u)) (k12.trans (Kp.same s4)) ((b2.sm s4).mono (by omega)) ⟨hu, r, t, u, upd_same, fr.kt (KT.of s4), rfl⟩ na nb (k12.no (b2.ne hq).symm hq)
        · refine if_false_of (decide_eq_false fun e => c1 (V.int.inj e)) ?_
          exact ⟨nl, m, a, b, un, way, v7, v8, rfl, kp, bx, hm, na, nb, hu, kk⟩
    case c2 =>
      rintro D σ H1 ⟨nl, m, a, b, v5, v6, v7, v8, rfl, kp, bx, hm, na, nb, kk⟩
      refine ⟨_, rfl, p, 3, _, rfl, bx, by omega, by decide, by decide, fun way H2 w0 w1 b2 k2 => ?_⟩
      refine ⟨by show 2 ≤ sizeLine; decide, fun l1 hl1 => ?_⟩
      have s3 := Same.upd (o := .lst [.str "beats", .str "seconds"]) hl1
      have e3 : upd H2 l1 (.lst [.str "beats", .str "seconds"]) l1 = some (.lst [.str "beats", .str "seconds"]) := upd_same
      have nl1 := (b2.ne hl1).symm
      have b3 := b2.sm s3
      generalize upd H2 l1 (.lst [.str "beats", .str "seconds"]) = H3 at s3 e3 b3 ⊢
      refine ⟨_, rfl, p, 2, _, rfl, b3, by omega, by decide, by decide, fun z H4 z0 z1 b4 k4 => ?_⟩
      obtain ⟨v, ev, mv⟩ := atI_in (xs := [V.str "beats", V.str "seconds"]) z0 z1
      obtain ⟨un, rfl, hu⟩ : ∃ un : Str, v = .str un ∧ isUnit un = true := by
        rcases List.mem_cons.mp mv with e | e
        · exact ⟨_, e, by decide +kernel⟩
        · exact ⟨_, List.mem_singleton.mp e, by decide +kernel⟩
      refine ⟨l1, _, z, _, rfl, rfl, SqL.of ((k4 l1 nl1).trans e3), ev, _, _, rfl, ?_⟩
      exact ⟨nl, m, a, b, un, way, _, _, rfl, kp.trans ((Kp.but k2).trans ((Kp.same s3).trans (Kp.but k4))), b4, hm, na, nb, hu, kk⟩
    case c1 =>
      rintro D σ H1 ⟨nl, m, v3, v4, v5, v6, v7, v8, rfl, kp, bx, hm, hn, g14, kk⟩
      have ksl : (V.str "start" :: gs.map fun g => V.str g.nm).length = gs.length + 1 := by rw [List.length_cons, List.length_map]
      have np : nl ≠ p := fun e => by
        obtain ⟨a, x, c, z, _⟩ := bx
        rw [e, z] at hn
        cases hn
      have inn : ∀ v ∈ (V.str "start" :: gs.map fun g => V.str g.nm), ∃ z : Str, v = .str z ∧ NmK gs z := fun v hv => by
        rcases List.mem_cons.mp hv with e | e
        · exact ⟨_, e, List.mem_cons_self⟩
        · obtain ⟨g, hg, e⟩ := List.mem_map.mp e
          exact ⟨g.nm, e.symm, List.mem_cons_of_mem _ (List.mem_map.mpr ⟨g, hg, rfl⟩)⟩
      refine ⟨_, rfl, _, rfl, _, rfl, _, _, rfl, .inl ⟨_, SqL.of hn, rfl⟩, p, _, _, rfl, bx, by omega, ?_, ?_, fun z H2 z0 z1 b2 k2 => ?_⟩
      · rw [ksl]; omega
      · rw [ksl]
        exact Int.lt_of_le_of_lt (show ((gs.length + 1 : Nat) : Int) ≤ 100 by omega) (by decide)
      obtain ⟨v, ev, mv⟩ := atI_in z0 z1
      obtain ⟨a, rfl, na⟩ := inn v mv
      have hn2 := (k2 nl np).trans hn
      refine ⟨nl, _, z, _, rfl, rfl, SqL.of hn2, ev, ?_⟩
      refine ⟨_, rfl, _, rfl, _, rfl, _, _, rfl, .inl ⟨_, SqL.of hn2, rfl⟩, p, _, _, rfl, b2, by omega, ?_, ?_, fun z2 H3 y0 y1 b3 k3 => ?_⟩
      · rw [ksl]; omega
      · rw [ksl]
        exact Int.lt_of_le_of_lt (show ((gs.length + 1 : Nat) : Int) ≤ 100 by omega) (by decide)
      obtain ⟨w, ew, mw⟩ := atI_in y0 y1
      obtain ⟨b, rfl, nb⟩ := inn w mw
      refine ⟨nl, _, z2, _, rfl, rfl, SqL.of ((k3 nl np).trans hn2), ew, _, _, rfl, ?_⟩
      exact ⟨nl, m, a, b, _, _, _, _, rfl, kp.trans ((Kp.but k2).trans (Kp.but k3)), b3, hm, na, nb, kk⟩
    have len := hl.n
    refine ⟨by show 1 ≤ sizeLine; decide, fun la hla => ?_⟩
    have s1 := Same.upd (o := .lst [.str "start"]) hla
    have e1 : upd H la (.lst [.str "start"]) la = some (.lst [.str "start"]) := upd_same
    generalize upd H la (.lst [.str "start"]) = H2 at s1 e1 ⊢
    have hl2 := hl.same s1
    refine ⟨_, rfl, l, rfl, ⟨_, SqL.of hl2.l⟩, fun D2 hD2 => ?_⟩
    refine lc_list (K := K) (a := l) (xs := gs.map fun g => V.ref g.q) (fun j H' => Same H2 H' ∧ H' D2 = some (.lst ((gs.take j).map fun g => V.str g.nm))) ⟨Same.upd hD2, upd_same⟩ (fun j H' _ ⟨s, _⟩ => SqL.of (s _ _ hl2.l)) ?_ ?_
    · rintro j x H3 hx ⟨s3, ha⟩
      obtain ⟨g, eg, rfl⟩ := map_at hx
      have hj := (List.getElem?_eq_some_iff.mp eg).1
      refine ⟨rfl, _, rfl, g.q, _, 0, _, rfl, rfl, SqT.of (s3 _ _ (hl2.ok g (List.mem_of_getElem? eg)).1), rfl, _, ha, ?_, same_put s3 hD2, ?_⟩
      · rw [List.length_map, List.length_take]
        exact Nat.lt_of_lt_of_le (show min j gs.length < 100 by omega) (by decide)
      · rw [upd_same, List.take_add_one, eg, List.map_append]
        rfl
    · rintro H3 ⟨s3, ha⟩
      rw [List.length_map, List.take_length] at ha
      refine ⟨la, D2, _, _, rfl, rfl, s3 _ _ e1, ha, ?_, fun lk hlk => ?_⟩
      · rw [List.length_map]
        exact Nat.le_trans (show 1 + gs.length ≤ 100 by omega) (by decide)
      have s4 := Same.upd (o := .lst ([.str "start"] ++ (gs.map fun g => V.str g.nm))) hlk
      exact ⟨lk, m, _, _, _, _, _, _, rfl, Kp.same ((s1.trans s3).trans s4), hb.sm ((s1.trans s3).trans s4), hm, upd_same, len, k⟩
end
end T13
set_option Elab.async false
set_option linter.all false
set_option maxRecDepth 100000
set_option maxHeartbeats 1000000
set_option exponentiation.threshold 100000
namespace T13
open PySem PySem.Spec PyProof.Rows L2 Fa Fb K13
open M13 (Fc Bst)
abbrev sPfc : Stmt := top 71
theorem scPfc : FnScope ["_law_fact_here", "_law_part"] ["_law_fact_here"] (defScope sPfc) := ⟨rfl, rfl, rfl, by decide +kernel, rfl, by decide +kernel, by decide +kernel⟩

def spPfc (K : PySem.W.Frag) : Sp := fun vs H Q _ => ∃ q f, vs = [.ref q] ∧ FcL 20 H q f ∧ ∀ q' H', Same H H' → FcV K 20 H' q' f → Q (.ref q') H'
theorem LimL.same {n : Nat} {H H' : Hp} {x : V} {l : Option Rat} (h : LimL n H x l) (s : Same H H') : LimL n H' x l := h.kt (KT.of s)
section
variable {P : Program} {w : World} {K : PySem.W.Frag} {mg : Str → Option Value} {base : Heap} {f fA : Addr} {fd fdA : FuncData}
theorem ok_pfc (F : FnP K "_law_passed_fact" sPfc f fd) (mTu : mg "tuple" = none) (FA : Fn P w K mg base "_law_far" 6 ["_law_amount_here"] (spFar K) fA fdA) : FnOk P w K mg base (L2.CX P w) 7 f fd ["_law_fact_here"] (spPfc K) := by
  refine F.ok scPfc (fun vs H Q E h => ?_) (fun cdv A outer s H vs Q E hr h => ?_)
  · obtain ⟨q, fc, rfl, _⟩ := h
    rfl
  · obtain ⟨q, fc, rfl, fl, k⟩ := h
    have hr6 := hr.mono (show 6 ≤ 6 by decide)
    refine ⟨_, (pss_cons (ps_if (pt_cmpR op_eq (pe_ix ix_tup (pv 0) pe_int (fun _ _ => rfl)) pe_str (nomark _)) (pss_one (ps_ret (pv 0))) pss_nil)
      (pss_one (ps_ret (pe_op op_catA (pe_slice sl_tup (pv 0) po_none (po_some pe_int)) (pe_callTy call_tuple_of rfl mTu (by decide +kernel : bootBuiltins "tuple" = some (.type "tuple")) (pa_cons (pe_lc (own := [("_law_part", 1)]) (g := gName 1) (te := tIf (tTest (tOp (fun x y H Q => y = .non ∧ Q (.bl (decide (x = .non))) H) (tVar 1) (tC .non))) (tC .non) (tCall (spFar K) [] E0 (tCons (tVar 1) tNil))) (by rfl) scPfc.nd (pi_tup (pe_slice sl_tup (pv 0) (po_some pe_int) po_none)) (blkOk_by (own := [("_law_part", 1)]) (N := ["_law_fact_here", "_law_part"]) (sc := defScope sPfc) (by decide +kernel)) (fun _ _ _ _ _ => (pg_name (i := 1) scPfc.nd rfl (Or.inl rfl))) (fun _ _ _ _ _ => pts_nil) (fun _ _ _ _ _ => (pe_ifExp (pt_cmpR op_isN (pv 1) pe_non (nomark _)) pe_non (pe_call FA.ok hr6 rfl FA.g FA.k FA.b .nil passL (pa_cons (pv 1) pa_nil))))) pa_nil)))))), ?_⟩
    cases fc with
    | ord a w b =>
      obtain ⟨hq, hw⟩ := fl
      refine ⟨_, rfl, q, _, 0, _, rfl, rfl, SqT.of hq, rfl, rfl, _, rfl, if_true_of (by rfl) ?_⟩
      exact ⟨_, rfl, k q H (Same.refl _) ⟨hq, hw⟩⟩
    | apt un a b x =>
      obtain ⟨hu, r, t, u, hq, fr, ev⟩ := fl
      refine ⟨_, rfl, q, _, 0, _, rfl, rfl, SqT.of hq, rfl, rfl, _, rfl, if_false_of (by rfl) ?_⟩
      refine ⟨_, rfl, _, rfl, q, _, rfl, SqT.of hq, (fun h => absurd (show (4 : Nat) = 5 from h.2) (by decide)), fun t1 ht1 => ?_⟩
      have ec : cutV [V.str "apart", .str un, .str a, .str b, .ref r] none (some 4) = [V.str "apart", .str un, .str a, .str b] := rfl
      rw [ec]
      have s1 := Same.upd (o := .tup [V.str "apart", .str un, .str a, .str b]) ht1
      have e1 : upd H t1 (.tup [V.str "apart", .str un, .str a, .str b]) t1 = some (.tup [V.str "apart", .str un, .str a, .str b]) := upd_same
      generalize upd H t1 (.tup [V.str "apart", .str un, .str a, .str b]) = H1 at s1 e1 ⊢
      refine ⟨_, rfl, _, rfl, q, _, rfl, SqT.of (s1 _ _ hq), (fun h => absurd (show (4 : Nat) = 0 from h.1) (by decide)), fun t2 ht2 => ?_⟩
      have ec : cutV [V.str "apart", .str un, .str a, .str b, .ref r] (some 4) none = [.ref r] := rfl
      rw [ec]
      have s2 := Same.upd (o := .tup [V.ref r]) ht2
      have e2 : upd H1 t2 (.tup [V.ref r]) t2 = some (.tup [V.ref r]) := upd_same
      generalize upd H1 t2 (.tup [V.ref r]) = H2 at s2 e2 ⊢
      have s12 := s1.trans s2
      refine ⟨t2, rfl, ⟨_, SqT.of e2⟩, fun D2 hD2 => ?_⟩
      refine lc_tup (K := K) (a := t2) (xs := [.ref r]) (fun i H' => Same H2 H' ∧ ∃ ys : List V, ys.length = i ∧ H' D2 = some (.lst ys) ∧ ∀ y ∈ ys, Arg K H' y t u 20) ⟨Same.upd hD2, [], rfl, upd_same, fun y hy => by cases hy⟩ (fun i H' _ ⟨s, _⟩ => SqT.of (s _ _ e2)) ?_ ?_
      · rintro i z H3 hx ⟨s3, ys, yn, hy, ok⟩
        obtain ⟨rfl, rfl⟩ : i = 0 ∧ z = .ref r := by
          match i, hx with
          | 0, hx => cases hx; exact ⟨rfl, rfl⟩
        obtain rfl := List.eq_nil_of_length_eq_zero yn
        refine ⟨rfl, _, rfl, rfl, _, rfl, if_false_of (by rfl) ⟨_, rfl, r, t, u, 20, rfl, fr.kt (KT.of (s12.trans s3)), by decide, by decide, fun y H4 s4 ar => ?_⟩⟩
        have hy4 := s4 _ _ hy
        refine ⟨_, hy4, (by show 0 < sizeLine; decide), same_put (s3.trans s4) hD2, [y], rfl, by rw [upd_same]; rfl, fun z hz => ?_⟩
        rw [List.mem_singleton.mp hz]
        exact ar.lift (KT.put hy4)
      · rintro H3 ⟨s3, ys, yn, hy, ok⟩
        obtain ⟨y, rfl⟩ : ∃ y, ys = [y] := by
          match ys, yn with
          | [y], _ => exact ⟨y, rfl⟩
        refine ⟨D2, _, rfl, .inl ⟨SqL.of hy, fun t3 ht3 => ?_⟩⟩
        have s4 := Same.upd (o := .tup [y]) ht3
        have e4 : upd H3 t3 (.tup [y]) t3 = some (.tup [y]) := upd_same
        generalize upd H3 t3 (.tup [y]) = H4 at s4 e4 ⊢
        have s14 := s2.trans (s3.trans s4)
        refine ⟨t1, t3, _, _, rfl, rfl, SqT.of (s14 _ _ e1), SqT.of e4, (by show 4 + 1 ≤ sizeLine; decide), (fun h => by cases h), (fun _ h => by cases h), fun _ _ q' hq' => ?_⟩
        have s5 := Same.upd (o := .tup ([V.str "apart", .str un, .str a, .str b] ++ [y])) hq'
        exact k q' _ (s1.trans (s14.trans s5)) ⟨hu, y, t, u, upd_same, ((ok y List.mem_cons_self).same s4).same s5, ev⟩
    | btw un a b lo hi =>
      obtain ⟨hu, v, w, hq, lv, lw⟩ := fl
      refine ⟨_, rfl, q, _, 0, _, rfl, rfl, SqT.of hq, rfl, rfl, _, rfl, if_false_of (by rfl) ?_⟩
      refine ⟨_, rfl, _, rfl, q, _, rfl, SqT.of hq, (fun h => absurd (show (4 : Nat) = 6 from h.2) (by decide)), fun t1 ht1 => ?_⟩
      have ec : cutV [V.str "between", .str un, .str a, .str b, v, w] none (some 4) = [V.str "between", .str un, .str a, .str b] := rfl
      rw [ec]
      have s1 := Same.upd (o := .tup [V.str "between", .str un, .str a, .str b]) ht1
      have e1 : upd H t1 (.tup [V.str "between", .str un, .str a, .str b]) t1 = some (.tup [V.str "between", .str un, .str a, .str b]) := upd_same
      generalize upd H t1 (.tup [V.str "between", .str un, .str a, .str b]) = H1 at s1 e1 ⊢
      refine ⟨_, rfl, _, rfl, q, _, rfl, SqT.of (s1 _ _ hq), (fun h => absurd (show (4 : Nat) = 0 from h.1) (by decide)), fun t2 ht2 => ?_⟩
      have ec : cutV [V.str "between", .str un, .str a, .str b, v, w] (some 4) none = [v, w] := rfl
      rw [ec]
      have s2 := Same.upd (o := .tup [v, w]) ht2
      have e2 : upd H1 t2 (.tup [v, w]) t2 = some (.tup [v, w]) := upd_same
      generalize upd H1 t2 (.tup [v, w]) = H2 at s2 e2 ⊢
      have s12 := s1.trans s2
      refine ⟨t2, rfl, ⟨_, SqT.of e2⟩, fun D2 hD2 => ?_⟩
      refine lc_tup (K := K) (a := t2) (xs := [v, w]) (fun i H' => Same H2 H' ∧ ∃ ys : List V, ys.length = i ∧ H' D2 = some (.lst ys) ∧ (∀ y, ys[0]? = some y → LimV K 20 H' y lo) ∧ ∀ y, ys[1]? = some y → LimV K 20 H' y hi) ⟨Same.upd hD2, [], rfl, upd_same, (fun y e => by cases e), fun y e => by cases e⟩ (fun i H' _ ⟨s, _⟩ => SqT.of (s _ _ e2)) ?_ ?_
      · rintro i z H3 hx ⟨s3, ys, yn, hy, l0, l1⟩
        match i, hx with
        | 0, hx =>
          cases hx
          obtain rfl := List.eq_nil_of_length_eq_zero yn
          rcases lv with ⟨rfl, rfl⟩ | ⟨r, t, u, rfl, fr, rfl⟩
          · refine ⟨rfl, _, rfl, rfl, _, rfl, if_true_of (by rfl) ⟨_, hy, (by show 0 < sizeLine; decide), same_put s3 hD2, [V.non], rfl, by rw [upd_same]; rfl, (fun y e => by cases e; exact .inl ⟨rfl, rfl⟩), (fun y e => by cases e)⟩⟩
          · refine ⟨rfl, _, rfl, rfl, _, rfl, if_false_of (by rfl) ⟨_, rfl, r, t, u, 20, rfl, fr.kt (KT.of (s12.trans s3)), by decide, by decide, fun y H4 s4 ar => ?_⟩⟩
            have hy4 := s4 _ _ hy
            exact ⟨_, hy4, (by show 0 < sizeLine; decide), same_put (s3.trans s4) hD2, [y], rfl, by rw [upd_same]; rfl, (fun y e => by cases e; exact .inr ⟨t, u, ar.lift (KT.put hy4), rfl⟩), (fun y e => by cases e)⟩
        | 1, hx =>
          cases hx
          obtain ⟨y0, rfl⟩ : ∃ y0, ys = [y0] := by
            match ys, yn with
            | [y], _ => exact ⟨y, rfl⟩
          rcases lw with ⟨rfl, rfl⟩ | ⟨r, t, u, rfl, fr, rfl⟩
          · refine ⟨rfl, _, rfl, rfl, _, rfl, if_true_of (by rfl) ⟨_, hy, (by show 1 < sizeLine; decide), same_put s3 hD2, [y0, V.non], rfl, by rw [upd_same]; rfl, (fun y e => by cases e; exact (l0 _ rfl).kt (KT.put hy)), (fun y e => by cases e; exact .inl ⟨rfl, rfl⟩)⟩⟩
          · refine ⟨rfl, _, rfl, rfl, _, rfl, if_false_of (by rfl) ⟨_, rfl, r, t, u, 20, rfl, fr.kt (KT.of (s12.trans s3)), by decide, by decide, fun y H4 s4 ar => ?_⟩⟩
            have hy4 := s4 _ _ hy
            exact ⟨_, hy4, (by show 1 < sizeLine; decide), same_put (s3.trans s4) hD2, [y0, y], rfl, by rw [upd_same]; rfl, (fun y e => by cases e; exact ((l0 _ rfl).same s4).kt (KT.put hy4)), (fun y e => by cases e; exact .inr ⟨t, u, ar.lift (KT.put hy4), rfl⟩)⟩
      · rintro H3 ⟨s3, ys, yn, hy, l0, l1⟩
        obtain ⟨y0, y1, rfl⟩ : ∃ y0 y1, ys = [y0, y1] := by
          match ys, yn with
          | [y, z], _ => exact ⟨y, z, rfl⟩
        refine ⟨D2, _, rfl, .inl ⟨SqL.of hy, fun t3 ht3 => ?_⟩⟩
        have s4 := Same.upd (o := .tup [y0, y1]) ht3
        have e4 : upd H3 t3 (.tup [y0, y1]) t3 = some (.tup [y0, y1]) := upd_same
        generalize upd H3 t3 (.tup [y0, y1]) = H4 at s4 e4 ⊢
        have s14 := s2.trans (s3.trans s4)
        refine ⟨t1, t3, _, _, rfl, rfl, SqT.of (s14 _ _ e1), SqT.of e4, (by show 4 + 2 ≤ sizeLine; decide), (fun h => by cases h), (fun _ h => by cases h), fun _ _ q' hq' => ?_⟩
        have s5 := Same.upd (o := .tup ([V.str "between", .str un, .str a, .str b] ++ [y0, y1])) hq'
        exact k q' _ (s1.trans (s14.trans s5)) ⟨hu, y0, y1, upd_same, ((l0 y0 rfl).same s4).same s5, ((l1 y1 rfl).same s4).same s5⟩
end
end T13
set_option Elab.async false
set_option linter.all false
set_option maxRecDepth 100000
set_option maxHeartbeats 1000000
set_option exponentiation.threshold 100000
namespace K13
open PySem PySem.Spec PyProof.Rows L2 Fa Fb
/-! the law's moments, told exactly -/
theorem lrv_len (gs : List Li) : (lrv gs).length = gs.length := List.length_map ..
def spMoX (K : PySem.W.Frag) : Sp := fun vs H Q _ => ∃ l gs n, vs = [.ref l] ∧ LsC n H l gs ∧ M04.Good (gs.map lcv) ∧ 1 ≤ n ∧ n ≤ 200 ∧ ∀ p fs H', Same H H' → FoOk ((gs.length + 1) * (n + 1)) H' p fs → (fs.map fun z => lrv z.2) = (M04.all (gs.map lcv)).rows → H p = none → Q (.ref p) H'
structure MoIX (N : Nat) (H : Hp) (f d : Addr) (gs : List Lc) (es : List En) (i : Nat) (H' : Hp) (fs : List (Addr × List Li)) : Prop where
  s : Same H H'
  f0 : H f = none
  ro : RwsOk N H' d (gs.map lcv) es
  fo : FoOk N H' f fs
  ev : (fs.map fun z => lrv z.2) = (M04.all ((gs.map lcv).take i)).rows
def sMomBX (N : Nat) (H : Hp) (l : Addr) (gs : List Lc) : TS := fun D σ H' => ∃ (d f : Addr) (i : Nat) (g : Lc) (es : List En) (fs : List (Addr × List Li)) (v7 v8 : Option V), σ = [some (.ref l), some (.ref f), some (.ref d), some (.str g.nm), some (.str g.pa), some (.str g.un), some (.ref g.a), v7, v8] ∧ gs[i]? = some g ∧ MoIX N H f d gs es i H' fs ∧
  ∀ H'' fs' v7 v8, MoIX N H f d gs es (i + 1) H'' fs' → D.nx [some (.ref l), some (.ref f), some (.ref d), some (.str g.nm), some (.str g.pa), some (.str g.un), some (.ref g.a), v7, v8] H''
structure MoJX (N : Nat) (H : Hp) (f d : Addr) (gs : List Lc) (es : List En) (i m : Nat) (hs : List Li) (p : Addr) (H' : Hp) (fs : List (Addr × List Li)) : Prop where
  s : Same H H'
  f0 : H f = none
  ro : RwsOk N H' d (gs.map lcv) es
  fo : FoOk N H' f fs
  row : LRow N H' p hs
  lt : m < hs.length → (fs.map fun z => lrv z.2) = (M04.all ((gs.map lcv).take i)).rows
  eq : m = hs.length → (fs.map fun z => lrv z.2) = (M04.all ((gs.map lcv).take (i + 1))).rows
def sMomIX (N : Nat) (H : Hp) (l : Addr) (gs : List Lc) : TS := fun D σ H' => ∃ (d f p : Addr) (i m : Nat) (a b c e : Option V) (hs : List Li) (es : List En) (fs : List (Addr × List Li)) (cu : M04.Cue), σ = [some (.ref l), some (.ref f), some (.ref d), a, b, c, e, some (.ref p), some (.int (1 + m : Int))] ∧ m < hs.length ∧ i < 14 ∧ (gs.map lcv)[i]? = some cu ∧ lrv hs = M04.row (M04.all ((gs.map lcv).take i)) cu ∧ MoJX N H f d gs es i m hs p H' fs ∧
  ∀ H'' fs', MoJX N H f d gs es i (m + 1) hs p H'' fs' → D.nx [some (.ref l), some (.ref f), some (.ref d), a, b, c, e, some (.ref p), some (.int (1 + m : Int))] H''
theorem lrv_take (hs : List Li) (k : Nat) : lrv (hs.take k) = (lrv hs).take k := by
  unfold lrv
  rw [List.map_take]
section
variable {P : Program} {w : World} {K : PySem.W.Frag} {mg : Str → Option Value} {base : Heap} {f fF : Addr} {fd fdF : FuncData}
theorem ok_momX (F : FnP K "_law_moments" sMom f fd) (mL : mg "len" = none) (mG : mg "range" = none) (RW : Fn P w K mg base "_law_rows" 4 ["_law_cues_here"] (spRws K) fF fdF) : FnOk P w K mg base (L2.CX P w) 5 f fd ["_law_cues_here"] (spMoX K) := by
  refine F.ok scMom (fun vs H Q E h => ?_) (fun cdv A outer s H vs Q E hr h => ?_)
  · obtain ⟨l, gs, n, rfl, _⟩ := h
    rfl
  · obtain ⟨l, gs, n, rfl, hl, good, n1, n2, k⟩ := h
    have hu1 : (A.deeper (envOfC "_law_moments" (defScope sMom) s.heap.objs.size f cdv)).units + 1 < cLine := by
      have := hr.un
      omega
    have hu65 : (A.deeper (envOfC "_law_moments" (defScope sMom) s.heap.objs.size f cdv)).units + 65 < cLine := by
      have := hr.un
      omega
    have hr4 := hr.mono (show 4 ≤ 4 by decide)
    obtain ⟨N, hN⟩ : ∃ N, N = (gs.length + 1) * (n + 1) := ⟨_, rfl⟩
    refine ⟨_, (pss_cons (ps_par (by rfl) scMom.nd (i := 1) (j := 2) rfl rfl (by decide) rfl rfl (pa_cons (pe_lst (pa_cons (pe_tup pa_nil) pa_nil)) (pa_cons (pe_call RW.ok hr4 rfl RW.g RW.k RW.b .nil passL (pa_cons (pv 0) pa_nil)) pa_nil)) (by rfl))
      (pss_cons (ps_for (passes_of rfl) rfl (pi_list (pv 0)) (pg_tup (by rfl) (pgs_cons (pg_name (i := 3) scMom.nd rfl (Or.inl rfl)) (pgs_cons (pg_name (i := 4) scMom.nd rfl (Or.inl rfl)) (pgs_cons (pg_name (i := 5) scMom.nd rfl (Or.inl rfl)) (pgs_cons (pg_name (i := 6) scMom.nd rfl (Or.inl rfl)) pgs_nil)))))
      (pss_imp (S := sMomBX N H l gs) (pss_cons (ps_set (i := 7) scMom.nd rfl (Or.inl rfl) (pe_dget hu1 (pv 2) (pv 3) (fun _ _ => rfl)))
      (pss_one (ps_for (passes_of rfl) rfl (pi_range2 rfl mG (pa_cons pe_int (pa_cons (pe_op op_add (pe_callB call_len rfl mL PySem.boot_len (pa_cons (pv 7) pa_nil)) pe_int) pa_nil))) (pg_name (i := 8) scMom.nd rfl (Or.inl rfl))
      (pss_imp (S := sMomIX N H l gs) (pss_one (ps_if (pt_cmpR (op_notInD hu65) (pe_slice sl_tupA (pv 7) po_none (po_some (pv 8))) (pv 1) (by rfl)) (pss_one (ps_expr (pe_bm PySem.F.plainAttrs_list PySem.F.slot_list_append PySem.F.type_list_append mt_append (pv 1) (pa_cons (pe_slice sl_tupA (pv 7) po_none (po_some (pv 8))) pa_nil)))) pss_nil)) ?inner)))) ?body))
      (pss_one (ps_ret (pv 1))))), ?_⟩
    have fl : ∀ (i : Nat) (fs : List (Addr × List Li)), i ≤ 15 → (fs.map fun z => lrv z.2) = (M04.all ((gs.map lcv).take i)).rows → fs.length ≤ 16 := fun i fs hi e => by
      have h1 := congrArg List.length e
      have h2 := M04.rows_len ((gs.map lcv).take i)
      rw [List.length_take] at h2
      rw [List.length_map] at h1
      omega
    case inner =>
      rintro D σ H1 ⟨d, f, p, i, m, a, b, c, e, hs, es, fs, cu, rfl, hm, hi, ecu, ehs, J, kn⟩
      refine ⟨_, rfl, _, rfl, _, rfl, slA J.row hm fun H2 p2 s2 r2 => ?_⟩
      have fo2 := J.fo.same s2
      refine ⟨_, rfl, rowd (hs.take (m + 1)), _, row_dp r2, .lst (SqL.of fo2.l) (fo_dp fo2.ok), rowd_shaped _ r2.str, fo_shaped fo2.ok, _, rfl, ?_⟩
      rw [fo_any fo2.ok r2]
      have el := J.lt hm
      have tk : (M04.all ((gs.map lcv).take (i + 1))).rows = M04.rows (M04.all ((gs.map lcv).take i)) cu := by rw [M04.all_take ecu]; rfl
      have ln : (lrv hs).length = hs.length := lrv_len hs
      obtain ⟨pc, p0⟩ := M06.all_PC ((gs.map lcv).take i)
      by_cases c0 : lrv (hs.take (m + 1)) ∈ fs.map fun z => lrv z.2
      · rw [decide_eq_true c0]
        refine iteF (kn H2 fs ⟨J.s.trans s2, J.f0, J.ro.same s2, fo2, J.row.kt (KT.of s2), fun _ => el, fun h => ?_⟩)
        rw [el, tk]
        unfold M04.rows
        rw [el, lrv_take, List.take_of_length_le (show (lrv hs).length ≤ m + 1 by omega), ehs] at c0
        rw [if_pos c0]
      · rw [decide_eq_false c0]
        have hm1 : m + 1 = hs.length := by
          apply Classical.byContradiction
          intro h
          refine c0 ?_
          rw [el, lrv_take, ehs]
          exact M06.row_pre pc p0 cu (by rw [← ehs, ln]; omega)
        refine iteT ⟨_, rfl, .inl ⟨rfl, _, SqL.of fo2.l⟩, _, rfl, _, rfl, _, rfl, slA (J.row.kt (KT.of s2)) hm fun H3 p3 s3 r3 => ?_⟩
        have fo3 := fo2.same s3
        have nf : NoTI H3 f := .inl ⟨_, fo3.l⟩
        have hfs := fl i fs (by omega) el
        refine ⟨f, _, _, rfl, rfl, fo3.l, ?_, ?_⟩
        · rw [List.length_map]
          exact Nat.lt_of_lt_of_le (show fs.length < 1000 by omega) (by decide)
        · have ro3 := (J.ro.same (s2.trans s3)).put (ob := .lst ((fs.map fun z => V.ref z.1) ++ [.ref p3])) fo3.l
          have new : lrv (hs.take (m + 1)) = M04.row (M04.all ((gs.map lcv).take i)) cu := by rw [lrv_take, List.take_of_length_le (show (lrv hs).length ≤ m + 1 by omega), ehs]
          refine kn _ (fs ++ [(p3, hs.take (m + 1))]) ⟨same_put ((J.s.trans s2).trans s3) J.f0, J.f0, ro3, ⟨by rw [upd_same, List.map_append]; rfl, fun z hz => ?_, ?_⟩, (J.row.kt (KT.of (s2.trans s3))).put nf, fun h => absurd h (by omega), fun _ => ?_⟩
          · rcases List.mem_append.mp hz with hz | hz
            · exact (fo3.ok z hz).put nf
            · rw [List.mem_singleton] at hz
              subst hz
              exact r3.put nf
          · rw [List.map_append]
            exact List.mem_append_left _ fo3.z
          · rw [List.map_append, el, tk]
            unfold M04.rows
            rw [el, new] at c0
            rw [if_neg c0, ← new]
            rfl
    case body =>
      rintro D σ H1 ⟨d, f, i, g, es, fs, v7, v8, rfl, eg, I, kn⟩
      have ec : (gs.map lcv)[i]? = some (lcv g) := by rw [List.getElem?_map, eg]; rfl
      have hi := (List.getElem?_eq_some_iff.mp eg).1
      have h14 := hl.n
      obtain ⟨p, hs, mem, ev⟩ := en_at good I.ro.tab ec
      obtain ⟨r1, r2⟩ := I.ro.ok _ mem.1
      have r1 : LRow N H1 p hs := r1
      refine ⟨_, rfl, _, rfl, d, _, rfl, .inl ⟨_, Sum.inr g.nm, Rd.of I.ro.dk, rfl, mem.2.symm⟩, ?_⟩
      have hs40 := r1.n
      refine ⟨_, rfl, _, _, rfl, .inr ⟨_, SqT.of r1.l, rfl⟩, _, _, rfl, rfl, _, _, rfl, ⟨by decide, by decide, by rw [List.length_map]; omega, by rw [List.length_map]; omega⟩, ?_⟩
      have eN : (((hs.map fun g => V.ref g.q).length : Int) + 1 - 1).toNat = hs.length := by rw [List.length_map]; omega
      rw [eN]
      have e0 : 0 = hs.length → (fs.map fun z => lrv z.2) = (M04.all ((gs.map lcv).take (i + 1))).rows := fun z => by
        have hn : hs = [] := List.eq_nil_of_length_eq_zero z.symm
        rw [I.ev, M04.all_take ec]
        show _ = M04.rows (M04.all ((gs.map lcv).take i)) (lcv g)
        unfold M04.rows
        rw [← ev, hn]
        exact (if_pos (M06.all_PC ((gs.map lcv).take i)).2).symm
      refine for_range (lo := 1) (n := hs.length) (fun m σ H' => ∃ (v8 : Option V) (fs' : List (Addr × List Li)), σ = [some (.ref l), some (.ref f), some (.ref d), some (.str g.nm), some (.str g.pa), some (.str g.un), some (.ref g.a), some (.ref p), v8] ∧ MoJX N H f d gs es i m hs p H' fs') ⟨_, fs, rfl, ⟨I.s, I.f0, I.ro, I.fo, r1, fun _ => I.ev, e0⟩⟩ ?_ ?_
      · rintro m σ H2 hm ⟨v8', fs', rfl, J⟩
        exact ⟨d, f, p, i, m, _, _, _, _, hs, es, fs', _, rfl, hm, by omega, ec, ev, J, fun H'' fs'' J' => ⟨_, fs'', rfl, J'⟩⟩
      · rintro σ H2 ⟨v8', fs', rfl, J⟩
        exact kn H2 fs' _ _ ⟨J.s, J.f0, J.ro, J.fo, J.eq rfl⟩
    refine ⟨by show 0 ≤ sizeLine; decide, fun p0 hp0 => ⟨by show 1 ≤ sizeLine; decide, fun f0 hf0 => ?_⟩⟩
    have s1 := Same.upd (o := .tup []) hp0
    have p1 : upd H p0 (.tup []) p0 = some (.tup []) := upd_same
    have f00 := none_of s1 hf0
    generalize upd H p0 (.tup []) = H1 at s1 p1 hf0 ⊢
    have s2 := Same.upd (o := .lst [.ref p0]) hf0
    have f2 : upd H1 f0 (.lst [.ref p0]) f0 = some (.lst [.ref p0]) := upd_same
    generalize upd H1 f0 (.lst [.ref p0]) = H2 at s2 f2 ⊢
    refine ⟨_, rfl, l, gs, n, rfl, hl.same (s1.trans s2), good, n1, n2, fun d H3 es s3 ro => ⟨_, _, rfl, ?_⟩⟩
    rw [← hN] at ro
    have s13 := s1.trans (s2.trans s3)
    have mo0 : MoIX N H f0 d gs es 0 H3 [(p0, [])] := ⟨s13, f00, ro, ⟨s3 _ _ f2, fun z hz => by
      rw [List.mem_singleton] at hz
      subst hz
      exact ⟨s3 _ _ (s2 _ _ p1), (fun g hg => by cases hg), Nat.zero_le _⟩, List.mem_singleton.mpr rfl⟩, rfl⟩
    refine ⟨_, rfl, l, rfl, ⟨_, SqL.of (s13 _ _ hl.l)⟩, for_list (K := K) (a := l) (xs := gs.map fun g => V.ref g.q) (fun i σ H' => ∃ (v3 v4 v5 v6 v7 v8 : Option V) (fs : List (Addr × List Li)), σ = [some (.ref l), some (.ref f0), some (.ref d), v3, v4, v5, v6, v7, v8] ∧ MoIX N H f0 d gs es i H' fs) ⟨_, _, _, _, _, _, _, rfl, mo0⟩ (fun i σ H' _ ⟨_, _, _, _, _, _, _, _, I⟩ => SqL.of (I.s _ _ hl.l)) ?_ ?_⟩
    · rintro i x σ H4 hx ⟨v3, v4, v5, v6, v7, v8, fs, rfl, I⟩
      obtain ⟨g, eg, rfl⟩ := map_at hx
      have c1 := I.s _ _ (hl.ok g (List.mem_of_getElem? eg)).1
      exact ⟨g.q, _, rfl, SqT.of c1, rfl, _, _, rfl, _, _, rfl, _, _, rfl, _, _, rfl, rfl, d, f0, i, g, es, fs, v7, v8, rfl, eg, I, fun H'' fs' v7 v8 I' => ⟨_, _, _, _, _, _, fs', rfl, I'⟩⟩
    · rintro σ H4 ⟨v3, v4, v5, v6, v7, v8, fs, rfl, I⟩
      have hev := I.ev
      rw [List.length_map, List.take_of_length_le (by rw [List.length_map]; exact Nat.le_refl _)] at hev
      have hfo := I.fo
      subst hN
      exact ⟨_, rfl, k f0 _ H4 I.s hfo hev f00⟩
end
end K13
set_option Elab.async false
set_option linter.all false
set_option maxRecDepth 100000
set_option maxHeartbeats 1000000
set_option exponentiation.threshold 100000
namespace T13
open PySem PySem.Spec PyProof.Rows L2 Fa Fb K13
open M13 (Fc Bst)
abbrev sLsy : Stmt := top 72
theorem scLsy : FnScope ["_law_cues_here", "_law_fact_here", "_law_moments_here", "_law_rows_here", "_law_one", "_law_other", "_law_found", "_law_name"] ["_law_cues_here", "_law_fact_here"] (defScope sLsy) := ⟨rfl, rfl, rfl, by decide +kernel, rfl, by decide +kernel, by decide +kernel⟩

/-- a saying of the law: without its unit -/
structure Lg where
  q : Addr
  r : Addr
  i : Nat
  j : Nat
  t : Int
  u : Int
  st : Bool
def lgv (g : Lg) : Nat × Nat × Rat × Bool := (g.i, g.j, vq g.t g.u, g.st)
def LgOk (H : Hp) (g : Lg) : Prop := H g.q = some (.tup [.int (g.i : Int), .int (g.j : Int), .ref g.r, .bl g.st]) ∧ Fr 20 H g.r g.t g.u
theorem LgOk.kt {H H' : Hp} {g : Lg} (h : LgOk H g) (k : KT H H') : LgOk H' g := ⟨k _ _ h.1 (fun l z => by cases z), h.2.kt k⟩
structure LgL (H : Hp) (D : Addr) (zs : List Lg) : Prop where
  l : H D = some (.lst (zs.map fun z => V.ref z.q))
  ok : ∀ z ∈ zs, LgOk H z
def lnm (gs : List Lc) (z : Str) : Option Nat := M04.num (M04.all (gs.map lcv)).nums z
def lnN (gs : List Lc) (z : Str) : Nat := (lnm gs z).getD 0
abbrev SLy (l q p d : Addr) (v4 v5 v6 : Option V) : L2.St := [some (.ref l), some (.ref q), some (.ref p), some (.ref d), v4, v5, v6, none]
theorem _root_.K13.Fr.neg {n : Nat} {H : Hp} {r r2 : Addr} {t u : Int} (h : Fr n H r t u) (e : H r2 = some (.tup [.int (0 - t), .int u])) : Fr n H r2 (0 - t) u := ⟨e, ⟨h.rd.1, by have := h.rd.2; rwa [Int.zero_sub, Int.natAbs_neg]⟩, by have := h.bt; rwa [Int.zero_sub, Int.natAbs_neg], h.bu⟩
theorem vq_neg0 (t u : Int) : vq (0 - t) u = -vq t u := by rw [Int.zero_sub, vq_neg]
def sLsy1 (K : PySem.W.Frag) (H : Hp) (l q : Addr) : TS := fun D σ H' => ∃ (p d : Addr) (ni nj : Nat) (f : Fc) (v6 : Option V), σ = SLy l q p d (some (.int (ni : Int))) (some (.int (nj : Int))) v6 ∧ Same H H' ∧ FcL 20 H' q f ∧ (∀ a w b, f ≠ .ord a w b) ∧
  ∀ H'' D2 zs, Same H H'' → LgL H'' D2 zs → (∀ num : Str → Nat, num f.names.1 = ni → num f.names.2 = nj → zs.map lgv = (M13.says num f).map fun s => s.2) → H D2 = none → D.rt (.ref D2) H''
def limL (l : Option Rat) (f : Rat → Nat × Nat × Rat × Bool) : List (Nat × Nat × Rat × Bool) := match l with
  | some q => [f q]
  | none => []
def sLsy2 (H : Hp) (l q : Addr) : TS := fun D σ H' => ∃ (p d : Addr) (ni nj : Nat) (un a b : Str) (v w : V) (hi : Option Rat) (D2 : Addr) (zs : List Lg), σ = SLy l q p d (some (.int (ni : Int))) (some (.int (nj : Int))) (some (.ref D2)) ∧ Same H H' ∧ H D2 = none ∧ LgL H' D2 zs ∧ zs.length ≤ 1 ∧ H' q = some (.tup [.str "between", .str un, .str a, .str b, v, w]) ∧ LimL 20 H' w hi ∧
  ∀ H'' zs', Same H H'' → LgL H'' D2 zs' → zs'.map lgv = zs.map lgv ++ limL hi (fun x => (nj, ni, -x, true)) → D.rt (.ref D2) H''
def spLsy : Sp := fun vs H Q _ => ∃ l q gs f, vs = [.ref l, .ref q] ∧ LsC 20 H l gs ∧ M04.Good (gs.map lcv) ∧ FcL 20 H q f ∧ (lnm gs f.names.1).isSome = true ∧ (lnm gs f.names.2).isSome = true ∧ ∀ H' D zs, Same H H' → LgL H' D zs → zs.map lgv = ((M13.says (lnN gs) f).map fun s => s.2) → H D = none → Q (.ref D) H'
section
variable {P : Program} {w : World} {K : PySem.W.Frag} {mg : Str → Option Value} {base : Heap} {f f1 f2 : Addr} {fd fd1 fd2 : FuncData}
theorem ok_lsy (F : FnP K "_law_sayings" sLsy f fd) (MO : Fn P w K mg base "_law_moments" 5 ["_law_cues_here"] (spMoX K) f1 fd1) (RW : Fn P w K mg base "_law_rows" 4 ["_law_cues_here"] (spRws K) f2 fd2) : FnOk P w K mg base (L2.CX P w) 6 f fd ["_law_cues_here", "_law_fact_here"] spLsy := by
  refine F.ok scLsy (fun vs H Q E h => ?_) (fun cdv A outer s H vs Q E hr h => ?_)
  · obtain ⟨l, q, gs, fc, rfl, _⟩ := h
    rfl
  · obtain ⟨l, q, gs, fc, rfl, hl, good, fl, k1, k2, k⟩ := h
    have hu1 : (A.deeper (envOfC "_law_sayings" (defScope sLsy) s.heap.objs.size f cdv)).units + 65 < cLine := by
      have := hr.un
      omega
    have hu0 : (A.deeper (envOfC "_law_sayings" (defScope sLsy) s.heap.objs.size f cdv)).units + 1 < cLine := by
      have := hr.un
      omega
    have hr4 := hr.mono (show 4 ≤ 5 by decide)
    have hr5 := hr.mono (show 5 ≤ 5 by decide)
    refine ⟨_, (pss_cons (ps_asg (pe_tup (pa_cons (pe_call MO.ok hr5 rfl MO.g MO.k MO.b .nil passL (pa_cons (pv 0) pa_nil)) (pa_cons (pe_call RW.ok hr4 rfl RW.g RW.k RW.b .nil passL (pa_cons (pv 0) pa_nil)) pa_nil))) (pg_tup (by rfl) (pgs_cons (pg_name (i := 2) scLsy.nd rfl (Or.inr rfl)) (pgs_cons (pg_name (i := 3) scLsy.nd rfl (Or.inr rfl)) pgs_nil))))
      (pss_cons (ps_if (pt_cmpR op_eq (pe_ix ix_tup (pv 1) pe_int (fun _ _ => rfl)) pe_str (nomark _)) (pss_one (ps_ret (pe_lst pa_nil))) pss_nil)
      (pss_cons (ps_asg (pe_lc (own := [("_law_name", 7)]) (g := gName 7) (te := tBM K "list" (rIndexD K) (tVar 2) (tCons (tDGet (tVar 3) (tVar 7)) tNil)) (by rfl) scLsy.nd (pi_tup (pe_slice sl_tup (pv 1) (po_some pe_int) (po_some pe_int))) (blkOk_by (own := [("_law_name", 7)]) (N := ["_law_cues_here", "_law_fact_here", "_law_moments_here", "_law_rows_here", "_law_one", "_law_other", "_law_found", "_law_name"]) (sc := defScope sLsy) (by decide +kernel)) (fun _ _ _ _ _ => (pg_name (i := 7) scLsy.nd rfl (Or.inl rfl))) (fun _ _ _ _ _ => pts_nil) (fun _ _ _ _ _ => (pe_bm PySem.F.plainAttrs_list PySem.F.slot_list_index PySem.F.type_list_index (mt_indexD hu1) (pv 2) (pa_cons (pe_dget hu0 (pv 3) (pv 7) (fun _ _ => rfl)) pa_nil)))) (pg_lst (by rfl) (pgs_cons (pg_name (i := 4) scLsy.nd rfl (Or.inl rfl)) (pgs_cons (pg_name (i := 5) scLsy.nd rfl (Or.inl rfl)) pgs_nil))))
      (pss_imp (S := sLsy1 K H l q) (pss_cons (ps_if (pt_cmpR op_eq (pe_ix ix_tup (pv 1) pe_int (fun _ _ => rfl)) pe_str (nomark _)) (pss_one (ps_ret (pe_lst (pa_cons (pe_tup (pa_cons (pv 4) (pa_cons (pv 5) (pa_cons (pe_ix ix_tup (pv 1) pe_int (fun _ _ => rfl)) (pa_cons pe_bl pa_nil))))) (pa_cons (pe_tup (pa_cons (pv 5) (pa_cons (pv 4) (pa_cons (pe_tup (pa_cons (pe_op op_sub pe_int (pe_ix ix_tup (pe_ix ix_tup (pv 1) pe_int (fun _ _ => rfl)) pe_int (fun _ _ => rfl))) (pa_cons (pe_ix ix_tup (pe_ix ix_tup (pv 1) pe_int (fun _ _ => rfl)) pe_int (fun _ _ => rfl)) pa_nil))) (pa_cons pe_bl pa_nil))))) pa_nil))))) pss_nil)
      (pss_cons (ps_set (i := 6) scLsy.nd rfl (Or.inl rfl) (pe_ifExp (pt_cmpR op_isN (pe_ix ix_tup (pv 1) pe_int (fun _ _ => rfl)) pe_non (nomark _)) (pe_lst pa_nil) (pe_lst (pa_cons (pe_tup (pa_cons (pv 4) (pa_cons (pv 5) (pa_cons (pe_ix ix_tup (pv 1) pe_int (fun _ _ => rfl)) (pa_cons pe_bl pa_nil))))) pa_nil))))
      (pss_imp (S := sLsy2 H l q) (pss_cons (ps_if (pt_cmpR op_notN (pe_ix ix_tup (pv 1) pe_int (fun _ _ => rfl)) pe_non (nomark _)) (pss_one (ps_expr (pe_bm PySem.F.plainAttrs_list PySem.F.slot_list_append PySem.F.type_list_append mt_append (pv 6) (pa_cons (pe_tup (pa_cons (pv 5) (pa_cons (pv 4) (pa_cons (pe_tup (pa_cons (pe_op op_sub pe_int (pe_ix ix_tup (pe_ix ix_tup (pv 1) pe_int (fun _ _ => rfl)) pe_int (fun _ _ => rfl))) (pa_cons (pe_ix ix_tup (pe_ix ix_tup (pv 1) pe_int (fun _ _ => rfl)) pe_int (fun _ _ => rfl)) pa_nil))) (pa_cons pe_bl pa_nil))))) pa_nil)))) pss_nil)
      (pss_one (ps_ret (pv 6)))) ?c2))) ?c1)))), ?_⟩
    case c1 =>
      rintro D σ H1 ⟨p, d, ni, nj, fc, v6, rfl, s1, fl, no, kk⟩
      have r2 : 2 ≤ sizeLine := by decide
      have r4 : 4 ≤ sizeLine := by decide
      cases fc with
      | ord a w b => exact absurd rfl (no a w b)
      | apt un a b x =>
        obtain ⟨hu, r, t, u, hq, fr, ev⟩ := fl
        refine ⟨_, rfl, q, _, 0, _, rfl, rfl, SqT.of hq, rfl, rfl, _, rfl, if_true_of (by rfl) ?_⟩
        refine ⟨_, rfl, _, rfl, _, rfl, q, _, 4, _, rfl, rfl, SqT.of hq, rfl, r4, fun q1 h1 => ?_⟩
        have s2 := Same.upd (o := .tup [.int (ni : Int), .int (nj : Int), .ref r, .bl false]) h1
        have e2 : upd H1 q1 (.tup [.int (ni : Int), .int (nj : Int), .ref r, .bl false]) q1 = some (.tup [.int (ni : Int), .int (nj : Int), .ref r, .bl false]) := upd_same
        generalize upd H1 q1 (.tup [.int (ni : Int), .int (nj : Int), .ref r, .bl false]) = H2 at s2 e2 ⊢
        have hq2 := s2 _ _ hq
        have fr2 := fr.kt (KT.of s2)
        refine ⟨_, rfl, _, rfl, _, rfl, q, _, 4, _, rfl, rfl, SqT.of hq2, rfl, r, _, 0, _, rfl, rfl, SqT.of fr2.at_, rfl, _, _, rfl, rfl, _, rfl, q, _, 4, _, rfl, rfl, SqT.of hq2, rfl, r, _, 1, _, rfl, rfl, SqT.of fr2.at_, rfl, r2, fun r3 h3 => ?_⟩
        have s3 := Same.upd (o := .tup [.int (0 - t), .int u]) h3
        have e3 : upd H2 r3 (.tup [.int (0 - t), .int u]) r3 = some (.tup [.int (0 - t), .int u]) := upd_same
        generalize upd H2 r3 (.tup [.int (0 - t), .int u]) = H3 at s3 e3 ⊢
        refine ⟨r4, fun q4 h4 => ⟨r2, fun D2 hD2 => ?_⟩⟩
        have s4 := Same.upd (o := .tup [.int (nj : Int), .int (ni : Int), .ref r3, .bl false]) h4
        have e4 : upd H3 q4 (.tup [.int (nj : Int), .int (ni : Int), .ref r3, .bl false]) q4 = some (.tup [.int (nj : Int), .int (ni : Int), .ref r3, .bl false]) := upd_same
        generalize upd H3 q4 (.tup [.int (nj : Int), .int (ni : Int), .ref r3, .bl false]) = H4 at s4 e4 hD2 ⊢
        have s5 := Same.upd (o := .lst [.ref q1, .ref q4]) hD2
        have s25 := s3.trans (s4.trans s5)
        refine kk _ D2 [⟨q1, r, ni, nj, t, u, false⟩, ⟨q4, r3, nj, ni, 0 - t, u, false⟩] (s1.trans (s2.trans s25)) ⟨upd_same, fun z hz => ?_⟩ (fun num n1 n2 => ?_) (none_of (s1.trans (s2.trans (s3.trans s4))) hD2)
        · rcases List.mem_cons.mp hz with rfl | hz
          · exact ⟨s25 _ _ e2, fr2.kt (KT.of s25)⟩
          · rw [List.mem_singleton.mp hz]
            exact ⟨s5 _ _ e4, (fr2.kt (KT.of s25)).neg ((s4.trans s5) _ _ e3)⟩
        · have n1 : num a = ni := n1
          have n2 : num b = nj := n2
          show [(ni, nj, vq t u, false), (nj, ni, vq (0 - t) u, false)] = [(num a, num b, x, false), (num b, num a, -x, false)]
          rw [n1, n2, vq_neg0, ev]
      | btw un a b lo hi =>
        obtain ⟨hu, v, w, hq, lv, lw⟩ := fl
        refine ⟨_, rfl, q, _, 0, _, rfl, rfl, SqT.of hq, rfl, rfl, _, rfl, if_false_of (by rfl) ?_⟩
        have go : ∀ (H' : Hp) (D2 : Addr) (zs : List Lg), Same H1 H' → H1 D2 = none → LgL H' D2 zs → zs.length ≤ 1 → zs.map lgv = limL lo (fun x => (ni, nj, x, true)) → ∀ D', D'.rt = D.rt → sLsy2 H l q D' (SLy l q p d (some (.int (ni : Int))) (some (.int (nj : Int))) (some (.ref D2))) H' := fun H' D2 zs s' n' lz ln ez D' eD => by
          refine ⟨p, d, ni, nj, un, a, b, v, w, hi, D2, zs, rfl, s1.trans s', none_of s1 n', lz, ln, s' _ _ hq, lw.same s', fun H'' zs' s'' lz' e => ?_⟩
          rw [eD]
          refine kk H'' D2 zs' s'' lz' (fun num n1 n2 => ?_) (none_of s1 n')
          have n1 : num a = ni := n1
          have n2 : num b = nj := n2
          rw [e, ez]
          show _ = (((match lo with | some q => [(un, num a, num b, q, true)] | none => []) ++ (match hi with | some q => [(un, num b, num a, -q, true)] | none => [])).map fun s : M13.Say => s.2)
          rw [n1, n2]
          cases lo <;> cases hi <;> rfl
        rcases lv with ⟨rfl, rfl⟩ | ⟨r, t, u, rfl, fr, rfl⟩
        · refine ⟨_, rfl, q, _, 4, _, rfl, rfl, SqT.of hq, rfl, rfl, _, rfl, if_true_of (by rfl) ⟨by show 0 ≤ sizeLine; decide, fun D2 hD2 => ?_⟩⟩
          exact go _ D2 [] (Same.upd hD2) hD2 ⟨upd_same, fun z hz => by cases hz⟩ (Nat.zero_le _) rfl _ rfl
        · refine ⟨_, rfl, q, _, 4, _, rfl, rfl, SqT.of hq, rfl, rfl, _, rfl, if_false_of (by rfl) ⟨_, rfl, _, rfl, _, rfl, q, _, 4, _, rfl, rfl, SqT.of hq, rfl, r4, fun q1 h1 => ⟨by show 1 ≤ sizeLine; decide, fun D2 hD2 => ?_⟩⟩⟩
          have s2 := Same.upd (o := .tup [.int (ni : Int), .int (nj : Int), .ref r, .bl true]) h1
          have e2 : upd H1 q1 (.tup [.int (ni : Int), .int (nj : Int), .ref r, .bl true]) q1 = some (.tup [.int (ni : Int), .int (nj : Int), .ref r, .bl true]) := upd_same
          generalize upd H1 q1 (.tup [.int (ni : Int), .int (nj : Int), .ref r, .bl true]) = H2 at s2 e2 hD2 ⊢
          have s3 := Same.upd (o := .lst [.ref q1]) hD2
          refine go _ D2 [⟨q1, r, ni, nj, t, u, true⟩] (s2.trans s3) (none_of s2 hD2) ⟨upd_same, fun z hz => ?_⟩ (Nat.le_refl _) rfl _ rfl
          rw [List.mem_singleton.mp hz]
          exact ⟨s3 _ _ e2, fr.kt (KT.of (s2.trans s3))⟩
    case c2 =>
      rintro D σ H1 ⟨p, d, ni, nj, un, a, b, v, w, hi, D2, zs, rfl, s1, n2, lz, ln, hq, lw, kk⟩
      have r2 : 2 ≤ sizeLine := by decide
      have r4 : 4 ≤ sizeLine := by decide
      rcases lw with ⟨rfl, rfl⟩ | ⟨r, t, u, rfl, fr, rfl⟩
      · refine ⟨_, rfl, q, _, 5, _, rfl, rfl, SqT.of hq, rfl, rfl, _, rfl, if_false_of (by rfl) ⟨_, rfl, ?_⟩⟩
        exact kk H1 zs s1 lz (by rw [show limL none (fun x => (nj, ni, -x, true)) = [] from rfl, List.append_nil])
      · refine ⟨_, rfl, q, _, 5, _, rfl, rfl, SqT.of hq, rfl, rfl, _, rfl, if_true_of (by rfl) ?_⟩
        refine ⟨_, rfl, .inl ⟨rfl, _, SqL.of lz.l⟩, _, rfl, _, rfl, _, rfl, q, _, 5, _, rfl, rfl, SqT.of hq, rfl, r, _, 0, _, rfl, rfl, SqT.of fr.at_, rfl, _, _, rfl, rfl, _, rfl, q, _, 5, _, rfl, rfl, SqT.of hq, rfl, r, _, 1, _, rfl, rfl, SqT.of fr.at_, rfl, r2, fun r3 h3 => ?_⟩
        have s3 := Same.upd (o := .tup [.int (0 - t), .int u]) h3
        have e3 : upd H1 r3 (.tup [.int (0 - t), .int u]) r3 = some (.tup [.int (0 - t), .int u]) := upd_same
        generalize upd H1 r3 (.tup [.int (0 - t), .int u]) = H3 at s3 e3 ⊢
        refine ⟨r4, fun q4 h4 => ?_⟩
        have s4 := Same.upd (o := .tup [.int (nj : Int), .int (ni : Int), .ref r3, .bl true]) h4
        have e4 : upd H3 q4 (.tup [.int (nj : Int), .int (ni : Int), .ref r3, .bl true]) q4 = some (.tup [.int (nj : Int), .int (ni : Int), .ref r3, .bl true]) := upd_same
        generalize upd H3 q4 (.tup [.int (nj : Int), .int (ni : Int), .ref r3, .bl true]) = H4 at s4 e4 ⊢
        have s34 := s3.trans s4
        have hl4 := s34 _ _ lz.l
        refine ⟨D2, _, _, rfl, rfl, hl4, ?_, ?_⟩
        · rw [List.length_map]
          exact Nat.lt_of_lt_of_le (show zs.length < 100 by omega) (by decide)
        have kt : KT H4 (upd H4 D2 (.lst ((zs.map fun z => V.ref z.q) ++ [.ref q4]))) := KT.put hl4
        refine ⟨_, rfl, kk _ (zs ++ [⟨q4, r3, nj, ni, 0 - t, u, true⟩]) (same_put (s1.trans s34) n2) ⟨by rw [upd_same, List.map_append]; rfl, fun z hz => ?_⟩ ?_⟩
        · rcases List.mem_append.mp hz with hz | hz
          · exact ((lz.ok z hz).kt (KT.of s34)).kt kt
          · rw [List.mem_singleton.mp hz]
            exact LgOk.kt ⟨e4, (fr.kt (KT.of s34)).neg (s4 _ _ e3)⟩ kt
        · rw [List.map_append]
          show _ ++ [(nj, ni, vq (0 - t) u, true)] = _ ++ [(nj, ni, -vq t u, true)]
          rw [vq_neg0]
    obtain ⟨ni, en1⟩ := Option.isSome_iff_exists.mp k1
    obtain ⟨nj, en2⟩ := Option.isSome_iff_exists.mp k2
    refine ⟨_, rfl, l, gs, 20, rfl, hl, good, by decide, by decide, fun p fs H1 s1 fo ev np => ?_⟩
    refine ⟨_, rfl, l, gs, 20, rfl, hl.same s1, good, by decide, by decide, fun d H2 es s2 ro => ?_⟩
    refine ⟨by show 2 ≤ sizeLine; decide, fun tq htq => ⟨tq, _, rfl, SqT.of upd_same, rfl, _, _, rfl, _, _, rfl, rfl, ?_⟩⟩
    have s3 := Same.upd (o := .tup [.ref p, .ref d]) htq
    have s13 := s1.trans (s2.trans s3)
    have fo3 := fo.same (s2.trans s3)
    have ro3 := ro.same s3
    generalize upd H2 tq (.tup [.ref p, .ref d]) = H3 at s3 s13 fo3 ro3 ⊢
    cases fc with
    | ord a w b =>
      obtain ⟨hq, hw⟩ := fl
      have hq3 := s13 _ _ hq
      refine ⟨_, rfl, q, _, 0, _, rfl, rfl, SqT.of hq3, rfl, rfl, _, rfl, if_true_of (by rfl) ⟨by show 0 ≤ sizeLine; decide, fun D2 hD2 => ?_⟩⟩
      exact k _ D2 [] (s13.trans (Same.upd hD2)) ⟨upd_same, fun z hz => by cases hz⟩ rfl (none_of s13 hD2)
    | apt un a b x =>
      obtain ⟨hu, r, t, u, hq, fr, evx⟩ := id fl
      have hq := s13 _ _ hq
      refine ⟨_, rfl, q, _, 0, _, rfl, rfl, SqT.of hq, rfl, rfl, _, rfl, if_false_of (by rfl) ?_⟩
      refine ⟨_, rfl, _, rfl, _, rfl, q, _, rfl, SqT.of hq, (fun h => absurd (show (2 : Nat) = 0 from h.1) (by decide)), fun t1 ht1 => ?_⟩
      have ec : cutV [V.str "apart", .str un, .str a, .str b, .ref r] (some 2) (some 4) = [.str a, .str b] := rfl
      rw [ec]
      have s4 := Same.upd (o := .tup [V.str a, .str b]) ht1
      have e4 : upd H3 t1 (.tup [V.str a, .str b]) t1 = some (.tup [V.str a, .str b]) := upd_same
      generalize upd H3 t1 (.tup [V.str a, .str b]) = H4 at s4 e4 ⊢
      refine ⟨t1, rfl, ⟨_, SqT.of e4⟩, fun D2 hD2 => ?_⟩
      refine lc_tup (K := K) (a := t1) (xs := [.str a, .str b]) (fun i H' => Same H4 H' ∧ H' D2 = some (.lst ([V.int (ni : Int), .int (nj : Int)].take i))) ⟨Same.upd hD2, upd_same⟩ (fun i H' _ ⟨s, _⟩ => SqT.of (s _ _ e4)) ?_ ?_
      · rintro i z H5 hx ⟨s5, hh⟩
        have s45 := s4.trans s5
        match i, hx with
        | 0, hx =>
            cases hx
            have fo5 := fo3.same s45
            have ro5 := ro3.same s45
            have fl5 := fo5.ok
            have lm : ni < (M04.all (gs.map lcv)).rows.length := M04.all_ok _ _ M04.init_ok _ _ en1
            have er := List.getElem?_eq_getElem lm
            obtain ⟨pr, hs, mem, ehs, vv⟩ := find_en ro5.tab en1 er
            have rok := (ro5.ok _ mem).1
            obtain ⟨w1, ew, ev2⟩ : ∃ w1, fs[ni]? = some w1 ∧ lrv w1.2 = (M04.all (gs.map lcv)).rows[ni] := map_at (by rw [ev]; exact er)
            refine ⟨rfl, _, rfl, .inl ⟨rfl, _, SqL.of fo5.l⟩, _, rfl, _, rfl, d, _, rfl, .inl ⟨_, Sum.inr a, Rd.of ro5.dk, rfl, vv.symm⟩, p, .ref pr, rowd hs, fs.map fun z => rowd z.2, ni, rowd w1.2, rfl, rfl, .lst (SqL.of fo5.l) (fo_dp fl5), row_dp rok, fo_shaped fl5, rowd_shaped _ rok.str, (by rw [List.getElem?_map, ew]; rfl), ?_, ?_, ⟨_, hh, (by show 0 < sizeLine; decide), same_put s5 hD2, by rw [upd_same]; rfl⟩⟩
            · rw [rowd_eqv (fl5 w1 (List.mem_of_getElem? ew)).red rok.red, ev2, ehs]
              exact decide_eq_true rfl
            · intro j' z' hj hz
              obtain ⟨w2, e1, rfl⟩ := map_at hz
              rw [rowd_eqv (fl5 w2 (List.mem_of_getElem? e1)).red rok.red]
              refine decide_eq_false fun e => ?_
              have e2 : (M04.all (gs.map lcv)).rows[j']? = some (lrv w2.2) := by rw [← ev, List.getElem?_map, e1]; rfl
              obtain ⟨lj, e3⟩ := List.getElem?_eq_some_iff.mp e2
              have nd := List.pairwise_iff_getElem.mp (M06.all_nodup (gs.map lcv)) j' ni lj lm hj
              exact nd (by rw [e3, e, ehs])
        | 1, hx =>
            cases hx
            have fo5 := fo3.same s45
            have ro5 := ro3.same s45
            have fl5 := fo5.ok
            have lm : nj < (M04.all (gs.map lcv)).rows.length := M04.all_ok _ _ M04.init_ok _ _ en2
            have er := List.getElem?_eq_getElem lm
            obtain ⟨pr, hs, mem, ehs, vv⟩ := find_en ro5.tab en2 er
            have rok := (ro5.ok _ mem).1
            obtain ⟨w1, ew, ev2⟩ : ∃ w1, fs[nj]? = some w1 ∧ lrv w1.2 = (M04.all (gs.map lcv)).rows[nj] := map_at (by rw [ev]; exact er)
            refine ⟨rfl, _, rfl, .inl ⟨rfl, _, SqL.of fo5.l⟩, _, rfl, _, rfl, d, _, rfl, .inl ⟨_, Sum.inr b, Rd.of ro5.dk, rfl, vv.symm⟩, p, .ref pr, rowd hs, fs.map fun z => rowd z.2, nj, rowd w1.2, rfl, rfl, .lst (SqL.of fo5.l) (fo_dp fl5), row_dp rok, fo_shaped fl5, rowd_shaped _ rok.str, (by rw [List.getElem?_map, ew]; rfl), ?_, ?_, ⟨_, hh, (by show 1 < sizeLine; decide), same_put s5 hD2, by rw [upd_same]; rfl⟩⟩
            · rw [rowd_eqv (fl5 w1 (List.mem_of_getElem? ew)).red rok.red, ev2, ehs]
              exact decide_eq_true rfl
            · intro j' z' hj hz
              obtain ⟨w2, e1, rfl⟩ := map_at hz
              rw [rowd_eqv (fl5 w2 (List.mem_of_getElem? e1)).red rok.red]
              refine decide_eq_false fun e => ?_
              have e2 : (M04.all (gs.map lcv)).rows[j']? = some (lrv w2.2) := by rw [← ev, List.getElem?_map, e1]; rfl
              obtain ⟨lj, e3⟩ := List.getElem?_eq_some_iff.mp e2
              have nd := List.pairwise_iff_getElem.mp (M06.all_nodup (gs.map lcv)) j' nj lj lm hj
              exact nd (by rw [e3, e, ehs])
      · rintro H5 ⟨s5, hh⟩
        have hh : H5 D2 = some (.lst [V.int (ni : Int), .int (nj : Int)]) := hh
        refine ⟨D2, _, rfl, SqL.of hh, rfl, _, _, rfl, _, _, rfl, rfl, ?_⟩
        have s15 := s13.trans (s4.trans s5)
        exact ⟨p, d, ni, nj, .apt un a b x, _, rfl, s15, fl.kt (KT.of s15), (fun _ _ _ e => by cases e), fun H'' D3 zs s'' lz e n3 => k H'' D3 zs s'' lz (e _ (by show (lnm gs a).getD 0 = ni; rw [show lnm gs a = some ni from en1]; rfl) (by show (lnm gs b).getD 0 = nj; rw [show lnm gs b = some nj from en2]; rfl)) n3⟩
    | btw un a b lo hi =>
      obtain ⟨hu, v, w, hq, lv, lw⟩ := id fl
      have hq := s13 _ _ hq
      refine ⟨_, rfl, q, _, 0, _, rfl, rfl, SqT.of hq, rfl, rfl, _, rfl, if_false_of (by rfl) ?_⟩
      refine ⟨_, rfl, _, rfl, _, rfl, q, _, rfl, SqT.of hq, (fun h => absurd (show (2 : Nat) = 0 from h.1) (by decide)), fun t1 ht1 => ?_⟩
      have ec : cutV [V.str "between", .str un, .str a, .str b, v, w] (some 2) (some 4) = [.str a, .str b] := rfl
      rw [ec]
      have s4 := Same.upd (o := .tup [V.str a, .str b]) ht1
      have e4 : upd H3 t1 (.tup [V.str a, .str b]) t1 = some (.tup [V.str a, .str b]) := upd_same
      generalize upd H3 t1 (.tup [V.str a, .str b]) = H4 at s4 e4 ⊢
      refine ⟨t1, rfl, ⟨_, SqT.of e4⟩, fun D2 hD2 => ?_⟩
      refine lc_tup (K := K) (a := t1) (xs := [.str a, .str b]) (fun i H' => Same H4 H' ∧ H' D2 = some (.lst ([V.int (ni : Int), .int (nj : Int)].take i))) ⟨Same.upd hD2, upd_same⟩ (fun i H' _ ⟨s, _⟩ => SqT.of (s _ _ e4)) ?_ ?_
      · rintro i z H5 hx ⟨s5, hh⟩
        have s45 := s4.trans s5
        match i, hx with
        | 0, hx =>
            cases hx
            have fo5 := fo3.same s45
            have ro5 := ro3.same s45
            have fl5 := fo5.ok
            have lm : ni < (M04.all (gs.map lcv)).rows.length := M04.all_ok _ _ M04.init_ok _ _ en1
            have er := List.getElem?_eq_getElem lm
            obtain ⟨pr, hs, mem, ehs, vv⟩ := find_en ro5.tab en1 er
            have rok := (ro5.ok _ mem).1
            obtain ⟨w1, ew, ev2⟩ : ∃ w1, fs[ni]? = some w1 ∧ lrv w1.2 = (M04.all (gs.map lcv)).rows[ni] := map_at (by rw [ev]; exact er)
            refine ⟨rfl, _, rfl, .inl ⟨rfl, _, SqL.of fo5.l⟩, _, rfl, _, rfl, d, _, rfl, .inl ⟨_, Sum.inr a, Rd.of ro5.dk, rfl, vv.symm⟩, p, .ref pr, rowd hs, fs.map fun z => rowd z.2, ni, rowd w1.2, rfl, rfl, .lst (SqL.of fo5.l) (fo_dp fl5), row_dp rok, fo_shaped fl5, rowd_shaped _ rok.str, (by rw [List.getElem?_map, ew]; rfl), ?_, ?_, ⟨_, hh, (by show 0 < sizeLine; decide), same_put s5 hD2, by rw [upd_same]; rfl⟩⟩
            · rw [rowd_eqv (fl5 w1 (List.mem_of_getElem? ew)).red rok.red, ev2, ehs]
              exact decide_eq_true rfl
            · intro j' z' hj hz
              obtain ⟨w2, e1, rfl⟩ := map_at hz
              rw [rowd_eqv (fl5 w2 (List.mem_of_getElem? e1)).red rok.red]
              refine decide_eq_false fun e => ?_
              have e2 : (M04.all (gs.map lcv)).rows[j']? = some (lrv w2.2) := by rw [← ev, List.getElem?_map, e1]; rfl
              obtain ⟨lj, e3⟩ := List.getElem?_eq_some_iff.mp e2
              have nd := List.pairwise_iff_getElem.mp (M06.all_nodup (gs.map lcv)) j' ni lj lm hj
              exact nd (by rw [e3, e, ehs])
        | 1, hx =>
            cases hx
            have fo5 := fo3.same s45
            have ro5 := ro3.same s45
            have fl5 := fo5.ok
            have lm : nj < (M04.all (gs.map lcv)).rows.length := M04.all_ok _ _ M04.init_ok _ _ en2
            have er := List.getElem?_eq_getElem lm
            obtain ⟨pr, hs, mem, ehs, vv⟩ := find_en ro5.tab en2 er
            have rok := (ro5.ok _ mem).1
            obtain ⟨w1, ew, ev2⟩ : ∃ w1, fs[nj]? = some w1 ∧ lrv w1.2 = (M04.all (gs.map lcv)).rows[nj] := map_at (by rw [ev]; exact er)
            refine ⟨rfl, _, rfl, .inl ⟨rfl, _, SqL.of fo5.l⟩, _, rfl, _, rfl, d, _, rfl, .inl ⟨_, Sum.inr b, Rd.of ro5.dk, rfl, vv.symm⟩, p, .ref pr, rowd hs, fs.map fun z => rowd z.2, nj, rowd w1.2, rfl, rfl, .lst (SqL.of fo5.l) (fo_dp fl5), row_dp rok, fo_shaped fl5, rowd_shaped _ rok.str, (by rw [List.getElem?_map, ew]; rfl), ?_, ?_, ⟨_, hh, (by show 1 < sizeLine; decide), same_put s5 hD2, by rw [upd_same]; rfl⟩⟩
            · rw [rowd_eqv (fl5 w1 (List.mem_of_getElem? ew)).red rok.red, ev2, ehs]
              exact decide_eq_true rfl
            · intro j' z' hj hz
              obtain ⟨w2, e1, rfl⟩ := map_at hz
              rw [rowd_eqv (fl5 w2 (List.mem_of_getElem? e1)).red rok.red]
              refine decide_eq_false fun e => ?_
              have e2 : (M04.all (gs.map lcv)).rows[j']? = some (lrv w2.2) := by rw [← ev, List.getElem?_map, e1]; rfl
              obtain ⟨lj, e3⟩ := List.getElem?_eq_some_iff.mp e2
              have nd := List.pairwise_iff_getElem.mp (M06.all_nodup (gs.map lcv)) j' nj lj lm hj
              exact nd (by rw [e3, e, ehs])
      · rintro H5 ⟨s5, hh⟩
        have hh : H5 D2 = some (.lst [V.int (ni : Int), .int (nj : Int)]) := hh
        refine ⟨D2, _, rfl, SqL.of hh, rfl, _, _, rfl, _, _, rfl, rfl, ?_⟩
        have s15 := s13.trans (s4.trans s5)
        exact ⟨p, d, ni, nj, .btw un a b lo hi, _, rfl, s15, fl.kt (KT.of s15), (fun _ _ _ e => by cases e), fun H'' D3 zs s'' lz e n3 => k H'' D3 zs s'' lz (e _ (by show (lnm gs a).getD 0 = ni; rw [show lnm gs a = some ni from en1]; rfl) (by show (lnm gs b).getD 0 = nj; rw [show lnm gs b = some nj from en2]; rfl)) n3⟩
end
end T13
set_option Elab.async false
set_option linter.all false
set_option maxRecDepth 100000
set_option maxHeartbeats 1000000
set_option exponentiation.threshold 100000
namespace T13
open PySem PySem.Spec PyProof.Rows L2 Fa Fb K13
open M13 (Fc Bst)
abbrev sDue : Stmt := top 73
theorem scDue : FnScope ["_law_cues_here", "_law_known", "_law_unit", "_law_one", "_law_other", "_law_found", "_law_fact_here", "_law_start", "_law_end", "_law_amount_here", "_law_more"] ["_law_cues_here", "_law_known", "_law_unit", "_law_one", "_law_other"] (defScope sDue) := ⟨rfl, rfl, rfl, by decide +kernel, rfl, by decide +kernel, by decide +kernel⟩

def stepL (i j : Nat) (b : Bst) (g : Nat × Nat × Rat × Bool) : Bst := if (g.1, g.2.1) = (i, j) then M13.more b g.2.2.1 g.2.2.2 else b
theorem fold_eq (u : Str) (i j : Nat) : ∀ (l : List M13.Say) (b : Bst), (∀ s ∈ l, s.1 = u) → l.foldl (M13.step u i j) b = (l.map fun s => s.2).foldl (stepL i j) b
  | [], _, _ => rfl
  | s :: l, b, h => by
    have h1 := h s List.mem_cons_self
    have e : M13.step u i j b s = stepL i j b s.2 := by
      unfold M13.step stepL
      by_cases c : (s.2.1, s.2.2.1) = (i, j)
      · rw [if_pos c, if_pos (show (s.1, s.2.1, s.2.2.1) = (u, i, j) by rw [h1]; cases c; rfl)]
      · rw [if_neg c, if_neg fun x => c (congrArg Prod.snd x)]
    rw [List.foldl_cons, List.map_cons, List.foldl_cons, e]
    exact fold_eq u i j l _ fun s hs => h s (List.mem_cons_of_mem _ hs)
theorem fold_ne (u : Str) (i j : Nat) : ∀ (l : List M13.Say) (b : Bst), (∀ s ∈ l, s.1 ≠ u) → l.foldl (M13.step u i j) b = b
  | [], _, _ => rfl
  | s :: l, b, h => by
    have e : M13.step u i j b s = b := by
      unfold M13.step
      rw [if_neg fun x => h s List.mem_cons_self (congrArg Prod.fst x)]
    rw [List.foldl_cons, e]
    exact fold_ne u i j l _ fun s hs => h s (List.mem_cons_of_mem _ hs)
/-- the unit of a fact -/
def unF : Fc → Option Str
  | .ord _ _ _ => none
  | .apt u _ _ _ => some u
  | .btw u _ _ _ _ => some u
theorem says_un (num : Str → Nat) (f : Fc) (s : M13.Say) (h : s ∈ M13.says num f) : unF f = some s.1 := by
  cases f with
  | ord a w b => cases h
  | apt u a b x =>
    rcases List.mem_cons.mp h with h | h
    · rw [h]; rfl
    · rw [List.mem_singleton.mp h]; rfl
  | btw u a b lo hi =>
    unfold M13.says at h
    rcases List.mem_append.mp h with h | h
    · cases lo with
      | none => cases h
      | some q => rw [List.mem_singleton.mp h]; rfl
    · cases hi with
      | none => cases h
      | some q => rw [List.mem_singleton.mp h]; rfl
/-- what the law has found -/
def DuV (H : Hp) (x : V) (b : Bst) : Prop := (x = .non ∧ b = none) ∨ ∃ w r t u f, x = .ref w ∧ H w = some (.tup [.ref r, .bl f]) ∧ Fr 20 H r t u ∧ b = some (vq t u, f)
theorem DuV.same {H H' : Hp} {x : V} {b : Bst} (h : DuV H x b) (s : Same H H') : DuV H' x b := h.imp id fun ⟨w, r, t, u, f, e, h1, h2, h3⟩ => ⟨w, r, t, u, f, e, s _ _ h1, h2.kt (KT.of s), h3⟩
theorem FcL.same {n : Nat} {H H' : Hp} {q : Addr} {f : Fc} (h : FcL n H q f) (s : Same H H') : FcL n H' q f := h.kt (KT.of s)
theorem LgOk.same {H H' : Hp} {g : Lg} (h : LgOk H g) (s : Same H H') : LgOk H' g := h.kt (KT.of s)
/-- the law's facts in a list -/
structure FlL (H : Hp) (a : Addr) (fs : List (Addr × Fc)) : Prop where
  l : H a = some (.lst (fs.map fun z => V.ref z.1))
  ok : ∀ z ∈ fs, FcL 20 H z.1 z.2
theorem FlL.same {H H' : Hp} {a : Addr} {fs : List (Addr × Fc)} (h : FlL H a fs) (s : Same H H') : FlL H' a fs := ⟨s _ _ h.l, fun z hz => (h.ok z hz).same s⟩
/-- its two names are known -/
def KnL (gs : List Lc) (f : Fc) : Prop := (lnm gs f.names.1).isSome = true ∧ (lnm gs f.names.2).isSome = true
def prd (i j : Nat) : PyData := .tuple [.int (i : Int), .int (j : Int)]
theorem prd_eqv (i j k l : Nat) : PyData.eqv (prd i j) (prd k l) = decide ((i, j) = (k, l)) := by
  have e : PyData.eqv (prd i j) (prd k l) = (decide ((i : Int) = (k : Int)) && decide ((j : Int) = (l : Int))) := by
    simp [prd, PyData.eqv, PyData.eqvAll]
    try rfl
  rw [e, Bool.eq_iff_iff, Bool.and_eq_true, decide_eq_true_iff, decide_eq_true_iff, decide_eq_true_iff]
  constructor
  · rintro ⟨a, b⟩
    rw [show i = k by omega, show j = l by omega]
  · intro h
    cases h
    exact ⟨rfl, rfl⟩
theorem prd_shaped (i j : Nat) : SeqAt.shaped (prd i j) = true := by
  simp [prd, SeqAt.shaped, PyData.canLay0, PyData.canLayAll0, PyData.depth, PyData.depthAll]
def prq (t u : Int) : PyData := .tuple [.int t, .int u]
theorem prq_eqv {t u t2 u2 : Int} (a : Am.Red t u) (b : Am.Red t2 u2) : PyData.eqv (prq t u) (prq t2 u2) = decide (vq t u = vq t2 u2) := by
  have e : PyData.eqv (prq t u) (prq t2 u2) = (decide (t = t2) && decide (u = u2)) := by
    simp [prq, PyData.eqv, PyData.eqvAll]
    try rfl
  rw [e, am_dec a b]
theorem prq_shaped (t u : Int) : SeqAt.shaped (prq t u) = true := by
  simp [prq, SeqAt.shaped, PyData.canLay0, PyData.canLayAll0, PyData.depth, PyData.depthAll]
theorem fr_dp {K : PySem.W.Frag} {n : Nat} {H : Hp} {p : Addr} {t u : Int} (h : Fr n H p t u) : Dp K H (.ref p) (prq t u) := .tup (SqT.of h.at_) (.cons (.int _) (.cons (.int _) .nil))
abbrev SDu (l kn : Addr) (un : Str) (i j : Nat) (fv : V) (v6 v7 v8 v9 v10 : Option V) : L2.St := [some (.ref l), some (.ref kn), some (.str un), some (.int (i : Int)), some (.int (j : Int)), some fv, v6, v7, v8, v9, v10]
def sDue1 (H : Hp) (l kn : Addr) (gs : List Lc) : TS := fun D σ H' => ∃ (un : Str) (i j : Nat) (fv : V) (q : Addr) (f : Fc) (b : Bst) (v7 v8 v9 v10 : Option V), σ = SDu l kn un i j fv (some (.ref q)) v7 v8 v9 v10 ∧ Same H H' ∧ FcL 20 H' q f ∧ KnL gs f ∧ LsC 20 H' l gs ∧ M04.Good (gs.map lcv) ∧ DuV H' fv b ∧
  ∀ fv' v7 v8 v9 v10 H'', Same H H'' → DuV H'' fv' ((M13.says (lnN gs) f).foldl (M13.step un i j) b) → D.nx (SDu l kn un i j fv' (some (.ref q)) v7 v8 v9 v10) H''
def sDue2 (l kn : Addr) : TS := fun D σ H' => ∃ (un : Str) (i j : Nat) (fv : V) (q : Addr) (z : Lg) (b : Bst), σ = SDu l kn un i j fv (some (.ref q)) (some (.int (z.i : Int))) (some (.int (z.j : Int))) (some (.ref z.r)) (some (.bl z.st)) ∧ LgOk H' z ∧ DuV H' fv b ∧
  ∀ fv' H'', Same H' H'' → DuV H'' fv' (stepL i j b (lgv z)) → D.nx (SDu l kn un i j fv' (some (.ref q)) (some (.int (z.i : Int))) (some (.int (z.j : Int))) (some (.ref z.r)) (some (.bl z.st))) H''
def spDue : Sp := fun vs H Q _ => ∃ (l kn : Addr) (un : Str) (i j : Nat) (gs : List Lc) (fs : List (Addr × Fc)), vs = [.ref l, .ref kn, .str un, .int (i : Int), .int (j : Int)] ∧ LsC 20 H l gs ∧ M04.Good (gs.map lcv) ∧ FlL H kn fs ∧ (∀ z ∈ fs, KnL gs z.2) ∧
  ∀ H' v, Same H H' → DuV H' v (M13.best ((fs.map fun z => z.2).flatMap (M13.says (lnN gs))) un i j) → Q v H'
section
variable {P : Program} {w : World} {K : PySem.W.Frag} {mg : Str → Option Value} {base : Heap} {f f1 : Addr} {fd fd1 : FuncData}
theorem ok_due (F : FnP K "_law_due" sDue f fd) (SY : Fn P w K mg base "_law_sayings" 6 ["_law_cues_here", "_law_fact_here"] spLsy f1 fd1) : FnOk P w K mg base (L2.CX P w) 7 f fd ["_law_cues_here", "_law_known", "_law_unit", "_law_one", "_law_other"] spDue := by
  refine F.ok scDue (fun vs H Q E h => ?_) (fun cdv A outer s H vs Q E hr h => ?_)
  · obtain ⟨l, kn, un, i, j, gs, fs, rfl, _⟩ := h
    rfl
  · obtain ⟨l, kn, un, i, j, gs, fs, rfl, hl, good, fl, nk, k⟩ := h
    have hu : (A.deeper (envOfC "_law_due" (defScope sDue) s.heap.objs.size f cdv)).units + 64 < cLine := by
      have := hr.un
      omega
    have hr6 := hr.mono (show 6 ≤ 6 by decide)
    refine ⟨_, (pss_cons (ps_set (i := 5) scDue.nd rfl (Or.inl rfl) pe_non)
      (pss_cons (ps_for (passes_of rfl) rfl (pi_list (pv 1)) (pg_name (i := 6) scDue.nd rfl (Or.inl rfl))
      (pss_imp (S := sDue1 H l kn gs) (pss_one (ps_for (passes_of rfl) rfl (pi_list (pe_ifExp (pt_cmpR op_eq (pe_ix ix_tup (pv 6) pe_int (fun _ _ => rfl)) (pv 2) (nomark _)) (pe_call SY.ok hr6 rfl SY.g SY.k SY.b .nil passL (pa_cons (pv 0) (pa_cons (pv 6) pa_nil))) (pe_lst pa_nil))) (pg_tup (by rfl) (pgs_cons (pg_name (i := 7) scDue.nd rfl (Or.inl rfl)) (pgs_cons (pg_name (i := 8) scDue.nd rfl (Or.inl rfl)) (pgs_cons (pg_name (i := 9) scDue.nd rfl (Or.inl rfl)) (pgs_cons (pg_name (i := 10) scDue.nd rfl (Or.inl rfl)) pgs_nil)))))
      (pss_imp (S := sDue2 l kn) (pss_one (ps_if (pt_cmpR (op_eqD hu) (pe_tup (pa_cons (pv 7) (pa_cons (pv 8) pa_nil))) (pe_tup (pa_cons (pv 3) (pa_cons (pv 4) pa_nil))) (nomark _)) (pss_one (ps_if (PW.pt (pw_or (pt_cmpR op_isN (pv 5) pe_non (nomark _)) (pw_or1 (pt_cmpR op_gt (pe_op op_mulW (pe_ix ix_tup (pv 9) pe_int (fun _ _ => rfl)) (pe_ix ix_tup (pe_ix ix_tup (pv 5) pe_int (fun _ _ => rfl)) pe_int (fun _ _ => rfl))) (pe_op op_mulW (pe_ix ix_tup (pe_ix ix_tup (pv 5) pe_int (fun _ _ => rfl)) pe_int (fun _ _ => rfl)) (pe_ix ix_tup (pv 9) pe_int (fun _ _ => rfl))) (nomark _))))) (pss_one (ps_set (i := 5) scDue.nd rfl (Or.inl rfl) (pe_tup (pa_cons (pv 9) (pa_cons (pv 10) pa_nil))))) (pss_one (ps_if (PW.pt (pw_and (pt_cmpR (op_eqD hu) (pv 9) (pe_ix ix_tup (pv 5) pe_int (fun _ _ => rfl)) (nomark _)) (pw_and1 (pt_val (pv 10))))) (pss_one (ps_set (i := 5) scDue.nd rfl (Or.inl rfl) (pe_tup (pa_cons (pv 9) (pa_cons pe_bl pa_nil))))) pss_nil)))) pss_nil)) ?c2))) ?c1))
      (pss_one (ps_ret (pv 5))))), ?_⟩
    case c2 =>
      rintro D σ H1 ⟨un, i, j, fv, q, z, b, rfl, ⟨hz, fz⟩, dv, kk⟩
      have r2 : 2 ≤ sizeLine := by decide
      refine ⟨_, rfl, _, rfl, r2, fun t1 ht1 => ⟨_, rfl, _, rfl, r2, fun t2 ht2 => ?_⟩⟩
      have s1 := Same.upd (o := .tup [V.int (z.i : Int), .int (z.j : Int)]) ht1
      have e1 : upd H1 t1 (.tup [V.int (z.i : Int), .int (z.j : Int)]) t1 = some (.tup [V.int (z.i : Int), .int (z.j : Int)]) := upd_same
      generalize upd H1 t1 (.tup [V.int (z.i : Int), .int (z.j : Int)]) = H2 at s1 e1 ht2 ⊢
      have s2 := Same.upd (o := .tup [V.int (i : Int), .int (j : Int)]) ht2
      have e2 : upd H2 t2 (.tup [V.int (i : Int), .int (j : Int)]) t2 = some (.tup [V.int (i : Int), .int (j : Int)]) := upd_same
      generalize upd H2 t2 (.tup [V.int (i : Int), .int (j : Int)]) = H3 at s2 e2 ⊢
      have s12 := s1.trans s2
      refine ⟨prd z.i z.j, prd i j, .tup (SqT.of (s2 _ _ e1)) (.cons (.int _) (.cons (.int _) .nil)), .tup (SqT.of e2) (.cons (.int _) (.cons (.int _) .nil)), prd_shaped _ _, prd_shaped _ _, _, rfl, ?_⟩
      rw [prd_eqv]
      by_cases c : (z.i, z.j) = (i, j)
      · rw [decide_eq_true c]
        refine iteT ?_
        have est : stepL i j b (lgv z) = M13.more b (vq z.t z.u) z.st := by
          unfold stepL
          rw [if_pos (show ((lgv z).1, (lgv z).2.1) = (i, j) from c)]
          rfl
        rw [est] at kk
        have fz3 := fz.kt (KT.of s12)
        rcases dv.same s12 with ⟨rfl, rfl⟩ | ⟨w, r, t, u, g, rfl, hw, fr, rfl⟩
        · refine ⟨_, rfl, rfl, _, rfl, if_true_of (by rfl) ?_⟩
          refine ⟨_, rfl, _, rfl, r2, fun w hw => ?_⟩
          have s5 := Same.upd (o := .tup [V.ref z.r, .bl z.st]) hw
          exact kk _ _ (s12.trans s5) (.inr ⟨w, z.r, z.t, z.u, z.st, rfl, upd_same, fz3.kt (KT.of s5), rfl⟩)
        · refine ⟨_, rfl, rfl, _, rfl, if_false_of (by rfl) ?_⟩
          have rd1 := fz3.rd
          have rd2 := fr.rd
          refine ⟨_, rfl, z.r, _, 0, _, rfl, rfl, SqT.of fz3.at_, rfl, _, rfl, w, _, 0, _, rfl, rfl, SqT.of hw, rfl, r, _, 1, _, rfl, rfl, SqT.of fr.at_, rfl, _, _, rfl, rfl, mulW_of fz3.bt fr.bu (by omega), ?_⟩
          refine ⟨_, rfl, w, _, 0, _, rfl, rfl, SqT.of hw, rfl, r, _, 0, _, rfl, rfl, SqT.of fr.at_, rfl, _, rfl, z.r, _, 1, _, rfl, rfl, SqT.of fz3.at_, rfl, _, _, rfl, rfl, mulW_of fr.bt fz3.bu (by omega), ?_⟩
          refine ⟨_, _, rfl, rfl, _, rfl, ?_⟩
          by_cases h1 : vq t u < vq z.t z.u
          · have h2 : z.t * u > t * z.u := (vq_lt rd2.1 rd1.1).mpr h1
            refine if_true_of (decide_eq_true h2) ?_
            refine ⟨_, rfl, _, rfl, r2, fun w2 hw2 => ?_⟩
            have s5 := Same.upd (o := .tup [V.ref z.r, .bl z.st]) hw2
            refine kk _ _ (s12.trans s5) (.inr ⟨w2, z.r, z.t, z.u, z.st, rfl, upd_same, fz3.kt (KT.of s5), ?_⟩)
            show (if vq t u < vq z.t z.u then _ else _) = _
            rw [if_pos h1]
          · have h2 : ¬ z.t * u > t * z.u := fun x => h1 ((vq_lt rd2.1 rd1.1).mp x)
            refine if_false_of (decide_eq_false h2) ?_
            refine ⟨_, rfl, _, rfl, w, _, 0, _, rfl, rfl, SqT.of hw, rfl, prq z.t z.u, prq t u, fr_dp fz3, fr_dp fr, prq_shaped _ _, prq_shaped _ _, _, rfl, ?_⟩
            rw [prq_eqv rd1 rd2]
            by_cases h3 : vq z.t z.u = vq t u
            · rw [decide_eq_true h3]
              have em : M13.more (some (vq t u, g)) (vq z.t z.u) z.st = some (vq z.t z.u, z.st || g) := by
                show (if vq t u < vq z.t z.u then _ else if vq z.t z.u = vq t u then _ else _) = _
                rw [if_neg h1, if_pos h3]
              rw [em] at kk
              cases hst : z.st with
              | true =>
                rw [hst] at kk
                refine if_true_of (by rfl) ⟨_, rfl, _, rfl, ?_⟩
                refine iteT ⟨_, rfl, r2, fun w2 hw2 => ?_⟩
                have s5 := Same.upd (o := .tup [V.ref z.r, .bl true]) hw2
                exact kk _ _ (s12.trans s5) (.inr ⟨w2, z.r, z.t, z.u, true, rfl, upd_same, fz3.kt (KT.of s5), rfl⟩)
              | false =>
                rw [hst] at kk
                refine if_true_of (by rfl) ⟨_, rfl, _, rfl, ?_⟩
                refine iteF ?_
                exact kk _ _ s12 (.inr ⟨w, r, t, u, g, rfl, hw, fr, by rw [h3]; rfl⟩)
            · rw [decide_eq_false h3]
              have em : M13.more (some (vq t u, g)) (vq z.t z.u) z.st = some (vq t u, g) := by
                show (if vq t u < vq z.t z.u then _ else if vq z.t z.u = vq t u then _ else _) = _
                rw [if_neg h1, if_neg h3]
              rw [em] at kk
              refine if_false_of (by rfl) ?_
              exact kk _ _ s12 (.inr ⟨w, r, t, u, g, rfl, hw, fr, rfl⟩)
      · rw [decide_eq_false c]
        refine iteF ?_
        have est : stepL i j b (lgv z) = b := by
          unfold stepL
          rw [if_neg (show ¬ ((lgv z).1, (lgv z).2.1) = (i, j) from c)]
        rw [est] at kk
        exact kk _ _ s12 (dv.same s12)
    case c1 =>
      rintro D σ H1 ⟨un, i, j, fv, q, fc, b, v7, v8, v9, v10, rfl, s1, fl, ⟨k1, k2⟩, hl, good, dv, kk⟩
      obtain ⟨z1, xs1, hq1, hi1, hm1, hm2⟩ : ∃ (z1 : Str) (xs : List V), H1 q = some (.tup xs) ∧ atI xs 1 = some (.str z1) ∧ (∀ u', unF fc = some u' → u' = z1) ∧ (unF fc = none → M13.says (lnN gs) fc = []) := by
        cases fc with
        | ord a w b => exact ⟨a, _, fl.1, rfl, (fun u' e => by cases e), fun _ => rfl⟩
        | apt u a b x => obtain ⟨_, r, t, v, hq, _⟩ := fl; exact ⟨u, _, hq, rfl, (fun u' e => (Option.some.inj e).symm), fun e => by cases e⟩
        | btw u a b lo hi => obtain ⟨_, r, t, hq, _⟩ := fl; exact ⟨u, _, hq, rfl, (fun u' e => (Option.some.inj e).symm), fun e => by cases e⟩
      refine ⟨_, rfl, q, _, 1, _, rfl, rfl, SqT.of hq1, hi1, _, rfl, rfl, _, rfl, ?_⟩
      by_cases c : z1 = un
      · refine if_true_of (by rw [c]; exact decide_eq_true rfl) ?_
        refine ⟨_, rfl, _, rfl, l, q, gs, fc, rfl, hl, good, fl, k1, k2, fun H2 D2 zs s2 lg ev nD => ?_⟩
        refine ⟨D2, rfl, ⟨_, SqL.of lg.l⟩, for_list (K := K) (a := D2) (xs := zs.map fun z => V.ref z.q) (fun m σ H' => Same H2 H' ∧ ∃ fv v7 v8 v9 v10, σ = SDu l kn un i j fv (some (.ref q)) v7 v8 v9 v10 ∧ DuV H' fv (((zs.take m).map lgv).foldl (stepL i j) b)) ⟨Same.refl _, _, _, _, _, _, rfl, dv.same s2⟩ (fun m σ H' _ ⟨s, _⟩ => SqL.of (s _ _ lg.l)) ?_ ?_⟩
        · rintro m x σ H3 hx ⟨s3, fv3, v7, v8, v9, v10, rfl, dv3⟩
          obtain ⟨z, ez, rfl⟩ := map_at hx
          have zok := (lg.ok z (List.mem_of_getElem? ez)).same s3
          refine ⟨z.q, _, rfl, SqT.of zok.1, rfl, _, _, rfl, _, _, rfl, _, _, rfl, _, _, rfl, rfl, un, i, j, fv3, q, z, _, rfl, zok, dv3, fun fv' H4 s4 dv4 => ⟨s3.trans s4, fv', _, _, _, _, rfl, ?_⟩⟩
          rw [List.take_add_one, ez, List.map_append, List.foldl_append]
          exact dv4
        · rintro σ H3 ⟨s3, fv3, v7, v8, v9, v10, rfl, dv3⟩
          rw [List.length_map, List.take_length, ev] at dv3
          refine kk fv3 _ _ _ _ H3 (s1.trans (s2.trans s3)) ?_
          rw [fold_eq un i j _ _ fun s hs => by
            have h1 := says_un (lnN gs) fc s hs
            rw [hm1 _ h1, c]]
          exact dv3
      · refine if_false_of (decide_eq_false fun e => c (V.str.inj e)) ?_
        refine ⟨by show 0 ≤ sizeLine; decide, fun D2 hD2 => ?_⟩
        have e2 : upd H1 D2 (.lst []) D2 = some (.lst []) := upd_same
        have s2 := Same.upd (o := .lst []) hD2
        generalize upd H1 D2 (.lst []) = H2 at s2 e2 ⊢
        refine ⟨D2, rfl, ⟨_, SqL.of e2⟩, for_list (K := K) (a := D2) (xs := []) (fun m σ H' => H' = H2 ∧ σ = SDu l kn un i j fv (some (.ref q)) v7 v8 v9 v10) ⟨rfl, rfl⟩ (fun m σ H' _ ⟨e, _⟩ => by rw [e]; exact SqL.of e2) ?_ ?_⟩
        · intro m x σ H3 hx
          cases hx
        · rintro σ H3 ⟨rfl, rfl⟩
          refine kk fv _ _ _ _ _ (s1.trans s2) ?_
          rw [fold_ne un i j _ _ fun s hs e => c (by rw [← e]; exact (hm1 _ (says_un (lnN gs) fc s hs)).symm)]
          exact dv.same s2
    refine ⟨_, rfl, kn, rfl, ⟨_, SqL.of fl.l⟩, for_list (K := K) (a := kn) (xs := fs.map fun z => V.ref z.1) (fun m σ H' => Same H H' ∧ ∃ fv v6 v7 v8 v9 v10, σ = SDu l kn un i j fv v6 v7 v8 v9 v10 ∧ DuV H' fv (M13.best (((fs.take m).map fun z => z.2).flatMap (M13.says (lnN gs))) un i j)) ⟨Same.refl _, _, _, _, _, _, _, rfl, .inl ⟨rfl, rfl⟩⟩ (fun m σ H' _ ⟨s, _⟩ => SqL.of (s _ _ fl.l)) ?_ ?_⟩
    · rintro m x σ H1 hx ⟨s1, fv, v6, v7, v8, v9, v10, rfl, dv⟩
      obtain ⟨z, ez, rfl⟩ := map_at hx
      have hz := List.mem_of_getElem? ez
      refine ⟨un, i, j, fv, z.1, z.2, _, v7, v8, v9, v10, rfl, s1, (fl.ok z hz).same s1, nk z hz, hl.same s1, good, dv, fun fv' v7 v8 v9 v10 H2 s2 dv2 => ⟨s2, fv', _, _, _, _, _, rfl, ?_⟩⟩
      unfold M13.best at dv2 ⊢
      rw [List.take_add_one, ez, List.map_append, List.flatMap_append, List.foldl_append]
      have e : (List.map (fun z : Addr × Fc => z.2) (some z).toList).flatMap (M13.says (lnN gs)) = M13.says (lnN gs) z.2 := by
        show M13.says (lnN gs) z.2 ++ [] = _
        rw [List.append_nil]
      rw [e]
      exact dv2
    · rintro σ H1 ⟨s1, fv, v6, v7, v8, v9, v10, rfl, dv⟩
      rw [List.length_map, List.take_length] at dv
      exact ⟨_, rfl, k H1 fv s1 dv⟩
end
end T13
set_option Elab.async false
set_option linter.all false
set_option maxRecDepth 100000
set_option maxHeartbeats 4000000
/-! try with several clauses «except A as e». -/
namespace Ft
open PySem PySem.Spec PyProof.Rows L2
abbrev Cl : Type := Value × (Addr → Value → Option Addr → TS)
/-- what the clauses wish, slot i the name of all of them -/
def wAll (K : PySem.W.Frag) (i : Nat) (Wo : WX) (D : Ends) : List Cl → WX
  | [] => Wo
  | (c, ts) :: r => fun cls d σ H => ∃ b, PySem.W.exmOne K cls c = some b ∧
      (b = true → ∀ a, H a = none → ts a cls d { nx := fun σ' H' => D.nx (σ'.set i none) H', rt := D.rt, bk := fun σ' H' => D.bk (σ'.set i none) H', ct := fun σ' H' => D.ct (σ'.set i none) H' } (σ.set i (some (.ref a))) H) ∧ (b = false → wAll K i Wo D r cls d σ H)
inductive Hds (X : Cx) (n : Str) : List ExceptHandler → List Cl → Prop
  | nil : Hds X n [] []
  | cons {x : Str} {c : Value} {ts : Addr → Value → Option Addr → TS} {b0 : Stmt} {su : List Stmt} {np ps : Pos} {hds : List ExceptHandler} {l : List Cl} (hc : Names X x c)
      (hs : ∀ (a : Addr) (oe : Obj) (cls : Value) (d : Option Addr) (pn : List (Addr × Obj)), Zc cls d oe → (∃ vs, oe.data = .fields vs) → PSs (X.suite a ((a, oe) :: pn)) (b0 :: su) (ts a cls d)) (r : Hds X n hds l) : Hds X n (.ExceptHandler (some (.Name x np)) (some n) (b0 :: su) ps :: hds) ((c, ts) :: l)
section
variable {X : Cx} {n : Str} {i : Nat} {body : List Stmt} {h0 : ExceptHandler} {hds : List ExceptHandler} {l : List Cl} {pos : Pos} {tb : WX → TS} {Wo : WX}
theorem ps_try_all (hst : X.stack = X.env :: X.outer) (hf : X.env.frame = some X.env.locals) (hN : X.N.Nodup) (hi : X.N[i]? = some n) (hln : X.env.kindOf n = some .local) (tk : Takes X Wo)
    (hb : ∀ (W : WX) (pn : List (Addr × Obj)) (xe : Value → Shared → Prop), Takes (X.tr pn xe) W → PassesOwn (model X.prog X.w) X.A X.env xe → PSs (X.tr pn xe) body (tb W)) (hh : Hds X n (h0 :: hds) l) :
    PS X (.Try body (h0 :: hds) [] [] pos) (fun D σ H => tb (wAll X.K i Wo D l) D σ H) := by
  constructor
  intro pn0 s σ H D I h
  have ok := I.ok
  have frames : X.A.frames = some (X.env :: X.outer) := ok.frames.trans (congrArg some hst)
  have locN : Loc X.env.scope n := .inl hln
  refine wpAny_Try_except ?_
  refine wpAny_mono ((hb (wAll X.K i Wo D l) (X.pn ++ pn0) (fun er t1 => wpAny (model X.prog X.w) X.A (noteFrame er X.env) (fun _ t2 => wpAny (model X.prog X.w) X.A (setFlight er none) (fun _ t3 =>
    wpAny (model X.prog X.w) X.A (handleBy er X.env (h0 :: hds)) (SP X pn0 D) X.xe t3) X.xe t2) X.xe t1) (fun u s2 air => ?_) PassesOwn.looking).run [] s σ H D (I.toTry _) h) (fun fl t1 done => ?_) (fun er t1 z => z)
  · obtain ⟨a, B, sI, pn1, σ1, H1, cls, d, rfl, J0, nb, up, sky, na, os, ag, w⟩ := air
    have J : Inv X pn0 σ1 H1 sI := J0.ofTry ok
    have sky2 : Sky B (X.env :: X.outer) a (Zc cls d) X.env.locals s2.heap := hst ▸ sky
    show wpAny (model X.prog X.w) X.A (noteFrame (.ref a) X.env) _ _ _
    refine Sky.land Zc.steady frames hf sky2 fun g3 fly up3 => ?_
    have J3 : Inv X pn0 σ1 H1 { s2 with heap := g3 } := J.landed nb fly.1 (up.trans up3) os ag
    obtain ⟨o3, w3, at3, z3, d3⟩ := fly.there
    have apart : a ∉ frs (X.env :: X.outer) := fun hm => by
      obtain ⟨_, o', e', nf⟩ := fly.2.2.1.mem hm
      rw [at3] at e'
      cases e'
      exact nf _ d3
    have nL : a ≠ X.env.locals := fun z => apart (List.mem_filterMap.mpr ⟨X.env, List.mem_cons_self, by rw [hf, z]⟩)
    have nF : a ∉ X.fs := fun hm => by
      obtain ⟨ev, hev, q⟩ := List.mem_filterMap.mp hm
      exact apart (List.mem_filterMap.mpr ⟨ev, List.mem_cons_of_mem _ hev, q⟩)
    have S3 := J3.suite at3 d3 na nL nF
    have go : ∀ {hs' : List ExceptHandler} {l' : List Cl}, Hds X n hs' l' → wAll X.K i Wo D l' cls d σ1 H1 → wpAny (model X.prog X.w) X.A (handleBy (.ref a) X.env hs') (SP X pn0 D) X.xe { s2 with heap := g3 } := by
      intro hs' l' hk
      induction hk with
      | nil =>
        intro w
        refine wpAny_handleBy_nil ?_
        obtain ⟨k1, k2, k3, oe, vs, T, oT, ts', he, hz, hd, hone, hr⟩ := id fly
        unfold PySem.passOn
        refine wpAny_bind (wpAny_field he hd hone ?_)
        rw [if_neg (show ¬ ((Value.ref T == Value.none) = true) by simp)]
        have away : wpAny (model X.prog X.w) X.A (setFlight (.ref a) X.env.frame) (fun _ t4 => wpAny (model X.prog X.w) X.A (throw (.ref a) : Sem Flow) (SP X pn0 D) X.xe t4) X.xe { s2 with heap := g3 } := by
          rw [hf]
          refine HandSPX.setFlight_upZ fly fun g4 hg4 up4 => wpAny_throw (tk _ _ ?_)
          exact ⟨a, B, sI, pn0, σ1, H1, cls, d, rfl, J, nb, (up.trans up3).trans up4, .inr (.inr (hst.symm ▸ hg4)), na, os, ag, w⟩
        first
          | exact wpAny_bind (wpAny_pure (wpAny_bind away))
          | exact wpAny_bind away
      | @cons x c ts b0 su np ps hds2 l2 hc hsu r ih =>
        intro w
        obtain ⟨b, hb1, hyes, hno⟩ := w
        refine wpAny_handleBy_cons (codeAny_handlers_test ?_) (by intro q; cases q)
        have tyA : PySem.W.Looks (model X.prog X.w) g3 (typeOf (.ref a)) cls := fun A Q E t k q => wpAny_typeOf_ref (k _ _ at3) (z3.1.symm ▸ q)
        have looks := PySem.W.exm_one (M := model X.prog X.w) (J3.kIn) tyA hb1
        have test : ∀ {Q E : Value → Shared → Prop}, Q c { s2 with heap := g3 } → wpAny (model X.prog X.w) (X.A.mark (some (.ref a))) (eval (.Name x np) X.env) Q E { s2 with heap := g3 } := by
          intro Q E q
          rcases hc with ⟨hg, hdbg, hm | ⟨hm, hv, hnn⟩⟩
          · exact ld_glob (X := X.suite a ((a, o3) :: (X.pn ++ pn0))) S3 hg hm q hdbg
          · exact ld_blt (X := X.suite a ((a, o3) :: (X.pn ++ pn0))) S3 hg hm hv q hnn hdbg
        refine test (looks.here ?_)
        cases b with
        | false => exact ih (hno rfl)
        | true =>
          refine codeAny_handlers_suite_as ?_
          refine HandSPX.lands_againZ fly fun g4 fly4 up4 => ?_
          have J4 : Inv X pn0 σ1 H1 { s2 with heap := g4 } := J.landed nb fly4.1 ((up.trans up3).trans up4) os ag
          obtain ⟨o4, w4, at4, z4, d4⟩ := fly4.there
          have S4 := J4.suite at4 d4 na nL nF
          refine store_ok (X := X.suite a ((a, o4) :: (X.pn ++ pn0))) (v := .ref a) S4 hN hi locN rfl (fun t5 S5 => ?_) (.inr hln)
          refine wpAny_mono ((hsu a o4 cls d (X.pn ++ pn0) z4 ⟨_, d4⟩).run [] t5 _ H1 _ S5 (hyes rfl a na)) (fun fl t6 done => ?_) (fun _ _ z => z.elim)
          have tidy : ∀ {σ6 : L2.St} {H6 : Hp} {Q : Shared → Prop}, Inv (X.suite a ((a, o4) :: (X.pn ++ pn0))) [] σ6 H6 t6 → (∀ t7, Inv X pn0 (σ6.set i none) H6 t7 → Q t7) →
              wpAny (model X.prog X.w) X.A (do bindName X.env n .none; unbindBehindTheSuite X.env n ps) (fun _ t7 => Q t7) X.xe t6 := fun {σ6 H6 Q} S6 hq => gone_ok (S6.unsuite ok) hN hi hln hq
          match fl, done with
          | .next, ⟨σ6, H6, S6, q6⟩ => exact tidy S6 fun t7 J7 => ⟨_, _, J7, q6⟩
          | .brk, ⟨σ6, H6, S6, q6⟩ => exact tidy S6 fun t7 J7 => ⟨_, _, J7, q6⟩
          | .cont, ⟨σ6, H6, S6, q6⟩ => exact tidy S6 fun t7 J7 => ⟨_, _, J7, q6⟩
          | .ret u, ⟨v6, σ6, H6, S6, r6, q6⟩ => exact tidy S6 fun t7 J7 => ⟨_, _, _, J7, r6, q6⟩
    exact go hh w
  · match fl, done with
    | .next, ⟨σ2, H2, J2, q⟩ => exact wpAny_execs_nil ⟨σ2, H2, J2.ofTry ok, q⟩
    | .brk, ⟨σ2, H2, J2, q⟩ => exact ⟨σ2, H2, J2.ofTry ok, q⟩
    | .cont, ⟨σ2, H2, J2, q⟩ => exact ⟨σ2, H2, J2.ofTry ok, q⟩
    | .ret u, ⟨v, σ2, H2, J2, r, q⟩ => exact ⟨v, σ2, H2, J2.ofTry ok, r, q⟩
end
end Ft
set_option Elab.async false
set_option linter.all false
set_option maxRecDepth 100000
set_option maxHeartbeats 1000000
set_option exponentiation.threshold 100000
namespace T13
open PySem PySem.Spec PyProof.Rows L2 Fa Fb K13
open M13 (Fc Bst)
abbrev sTld : Stmt := top 75
theorem scTld : FnScope ["_law_sheet", "_law_unit", "_law_one", "_law_other", "_law_known", "e"] ["_law_sheet", "_law_unit", "_law_one", "_law_other", "_law_known"] (defScope sTld) := ⟨rfl, rfl, rfl, by decide +kernel, rfl, by decide +kernel, by decide +kernel⟩

def tsT (C : Addr) (nm fld : Str) : Addr → Value → Option Addr → TS := fun a cls d => tRet (tLst (tCons (tC (.str nm)) (tCons (Xb.tByX C fld a cls d (tVar 5)) tNil)))
def clT (K : PySem.W.Frag) : List Ft.Cl := [(.ref (CIS K), tsT (CIS K) "sheet" "value"), (.ref (CU K), tsT (CU K) "unit" "value"), (.ref (CI K), tsT (CI K) "integer" "value"), (.ref (CIP K), tsT (CIP K) "part" "value"), (.ref (CIF K), tsT (CIF K) "fact" "value"), (.ref (CUn K), tsT (CUn K) "cue" "label")]
/-- no class of these is under an earlier one -/
def nots (K : PySem.W.Frag) : List (Addr × Addr) := [(CU K, CIS K), (CI K, CIS K), (CI K, CU K), (CIP K, CIS K), (CIP K, CU K), (CIP K, CI K), (CIF K, CIS K), (CIF K, CU K), (CIF K, CI K), (CIF K, CIP K), (CUn K, CIS K), (CUn K, CU K), (CUn K, CI K), (CUn K, CIP K), (CUn K, CIF K)]
def NotX (K : PySem.W.Frag) : Prop := ∀ p ∈ nots K, PySem.W.exmOne K (.ref p.1) (.ref p.2) = some false
/-- the answer: the name and the thing -/
abbrev Rt (H : Hp) (Q : VK) (nm : Str) (y : V) : Prop := ∀ l H', Same H H' → H' l = some (.lst [.str nm, y]) → H l = none → Q (.ref l) H'
def spTld (K : PySem.W.Frag) : Sp := fun vs H Q _ => ∃ x un a b fa, vs = [x, un, a, b, fa] ∧ ((NoSheet K H x ∧ Rt H Q "sheet" x) ∨ ∃ o mm H0 gs, x = .ref o ∧ ShAt K mm H0 H o gs ∧ ((BadU K H un ∧ Rt H Q "unit" un) ∨ ∃ u, un = .str u ∧ isUnit u = true ∧
  ((BadM K H gs a ∧ Rt H Q "integer" a) ∨ ∃ i : Nat, a = .int (i : Int) ∧ i < nR gs ∧ ((BadM K H gs b ∧ Rt H Q "integer" b) ∨ ∃ j : Nat, b = .int (j : Int) ∧ j < nR gs ∧ ((NoL K H fa ∧ Rt H Q "part" fa) ∨ ∃ p y, fa = .ref p ∧ H p = some (.lst [y, .non]) ∧ ((NoL K H y ∧ Rt H Q "fact" y) ∨
  ∃ q f n, y = .ref q ∧ FcV K n H q f ∧ (nmo gs f.names.1).isSome = true ∧ nmo gs f.names.2 = none ∧ Rt H Q "cue" (.str f.names.2)))))))
section
variable {P : Program} {w : World} {K : PySem.W.Frag} {mg : Str → Option Value} {base : Heap} {f fB fIS fIU fII fIP fIF fUC : Addr} {fd fdB : FuncData} {qIS tIS qIU tIU qII tII qIP tIP qIF tIF qUC tUC : Str}
theorem ok_tld (F : FnP K "_law_told" sTld f fd) (gIS : mg "InvalidSheet" = some (.ref (CIS K))) (gIU : mg "InvalidUnit" = some (.ref (CU K))) (gII : mg "InvalidInteger" = some (.ref (CI K))) (gIP : mg "InvalidPart" = some (.ref (CIP K))) (gIF : mg "InvalidFact" = some (.ref (CIF K))) (gUC : mg "UnknownCue" = some (.ref (CUn K)))
    (XIS : Xb.Txt P.main.file K qIS "value" tIS (CIS K) fIS) (XIU : Xb.Txt P.main.file K qIU "value" tIU (CU K) fIU) (XII : Xb.Txt P.main.file K qII "value" tII (CI K) fII) (XIP : Xb.Txt P.main.file K qIP "value" tIP (CIP K) fIP) (XIF : Xb.Txt P.main.file K qIF "value" tIF (CIF K) fIF) (XUC : Xk.Txt P.main.file K qUC "label" tUC (CUn K) fUC) (nx : NotX K)
    (BD : FnOk P w K mg base (L2.CX P w) 9 fB fdB ["sheet", "unit", "one", "other", "facts"] (spBnd K)) (gBD : mg "bound" = some (.ref fB)) (kBD : PySem.W.keepIn K (.ref fB) = true) (kbBD : KBn K fdB ["sheet", "unit", "one", "other", "facts"] 4 ["facts"] (fun us ws => us ++ ws) (fun vs zs => vs ++ zs)) : FnOk P w K mg base (L2.CX P w) 10 f fd ["_law_sheet", "_law_unit", "_law_one", "_law_other", "_law_known"] (spTld K) := by
  refine F.ok scTld (fun vs H Q E h => ?_) (fun cdv A outer s H vs Q E hr h => ?_)
  · obtain ⟨x, un, a, b, fa, rfl, _⟩ := h
    rfl
  · obtain ⟨x, un, a, b, fa, rfl, c⟩ := h
    have hr9 := hr.mono (show 9 ≤ 9 by decide)
    refine ⟨_, (pss_one (Ft.ps_try_all (n := "e") (i := 5) (l := clT K) (Wo := fun cls d _ H => E cls d H) rfl rfl scTld.nd rfl rfl (takes_of rfl rfl rfl rfl)
        (fun W pn xe tk _ => pss_one (ps_ret (pe_lst (pa_cons pe_str (pa_cons (Gb.pe_callNS BD hr9 rfl gBD kBD kbBD (fun σ => passAt tk σ) (pa_cons (pv 0) (pa_cons (pv 1) (pa_cons (pv 2) (pa_cons (pv 3) pa_nil)))) (pk_cons (pv 4) pk_nil)) pa_nil)))))
        (.cons ⟨rfl, by decide, Or.inl gIS⟩ (fun a oe cls d pn hz hf => pss_one (ps_ret (pe_lst (pa_cons pe_str (pa_cons (Xb.pe_byX XIS hz hf (pv 5)) pa_nil)))))
          (.cons ⟨rfl, by decide, Or.inl gIU⟩ (fun a oe cls d pn hz hf => pss_one (ps_ret (pe_lst (pa_cons pe_str (pa_cons (Xb.pe_byX XIU hz hf (pv 5)) pa_nil)))))
          (.cons ⟨rfl, by decide, Or.inl gII⟩ (fun a oe cls d pn hz hf => pss_one (ps_ret (pe_lst (pa_cons pe_str (pa_cons (Xb.pe_byX XII hz hf (pv 5)) pa_nil)))))
          (.cons ⟨rfl, by decide, Or.inl gIP⟩ (fun a oe cls d pn hz hf => pss_one (ps_ret (pe_lst (pa_cons pe_str (pa_cons (Xb.pe_byX XIP hz hf (pv 5)) pa_nil)))))
          (.cons ⟨rfl, by decide, Or.inl gIF⟩ (fun a oe cls d pn hz hf => pss_one (ps_ret (pe_lst (pa_cons pe_str (pa_cons (Xb.pe_byX XIF hz hf (pv 5)) pa_nil)))))
          (.cons ⟨rfl, by decide, Or.inl gUC⟩ (fun a oe cls d pn hz hf => pss_one (ps_ret (pe_lst (pa_cons pe_str (pa_cons (Xk.pe_byX XUC hz hf (pv 5)) pa_nil)))))
          .nil)))))))), ?_⟩
    have suite : ∀ (C : Addr) (nm fld : Str) (bad : V) (a d : Addr) (v0 v1 v2 v3 v4 : V) (H1 : Hp) (D : Ends), D.rt = Q → Same H H1 → H1 d = none → Rt H Q nm bad →
        tsT C nm fld a (.ref C) (some d) D [some v0, some v1, some v2, some v3, some v4, some (.ref a)] (upd H1 d (.xd [(fld, bad)])) := by
      intro C nm fld bad a d v0 v1 v2 v3 v4 H1 D hD s1 hd k
      refine ⟨_, rfl, rfl, rfl, d, bad, rfl, upd_same, by show 2 ≤ sizeLine; decide, fun l hl => ?_⟩
      rw [hD]
      exact k l _ (s1.trans ((Same.upd hd).trans (Same.upd hl))) upd_same (none_of (s1.trans (Same.upd hd)) hl)
    have er0 : ∀ (bad : V) (v0 v1 v2 v3 v4 : V) (D : Ends), D.rt = Q → Rt H Q "sheet" bad → ∀ J, Same H J → Err (CIS K) bad J (WE (Ft.wAll K 5 (fun cls d _ H => E cls d H) D (clT K)) [some v0, some v1, some v2, some v3, some v4, none]) := fun bad v0 v1 v2 v3 v4 D hD k J sJ d hd =>
      ⟨true, XIS.te, fun _ a _ => suite (CIS K) "sheet" "value" bad a d v0 v1 v2 v3 v4 J _ hD sJ hd k, fun z => by cases z⟩
    have er1 : ∀ (bad : V) (v0 v1 v2 v3 v4 : V) (D : Ends), D.rt = Q → Rt H Q "unit" bad → ∀ J, Same H J → Err (CU K) bad J (WE (Ft.wAll K 5 (fun cls d _ H => E cls d H) D (clT K)) [some v0, some v1, some v2, some v3, some v4, none]) := fun bad v0 v1 v2 v3 v4 D hD k J sJ d hd =>
      ⟨false, nx (CU K, CIS K) (by simp [nots]), (fun z => by cases z), fun _ => ⟨true, XIU.te, fun _ a _ => suite (CU K) "unit" "value" bad a d v0 v1 v2 v3 v4 J _ hD sJ hd k, fun z => by cases z⟩⟩
    have er2 : ∀ (bad : V) (v0 v1 v2 v3 v4 : V) (D : Ends), D.rt = Q → Rt H Q "integer" bad → ∀ J, Same H J → Err (CI K) bad J (WE (Ft.wAll K 5 (fun cls d _ H => E cls d H) D (clT K)) [some v0, some v1, some v2, some v3, some v4, none]) := fun bad v0 v1 v2 v3 v4 D hD k J sJ d hd =>
      ⟨false, nx (CI K, CIS K) (by simp [nots]), (fun z => by cases z), fun _ => ⟨false, nx (CI K, CU K) (by simp [nots]), (fun z => by cases z), fun _ => ⟨true, XII.te, fun _ a _ => suite (CI K) "integer" "value" bad a d v0 v1 v2 v3 v4 J _ hD sJ hd k, fun z => by cases z⟩⟩⟩
    have er3 : ∀ (bad : V) (v0 v1 v2 v3 v4 : V) (D : Ends), D.rt = Q → Rt H Q "part" bad → ∀ J, Same H J → Err (CIP K) bad J (WE (Ft.wAll K 5 (fun cls d _ H => E cls d H) D (clT K)) [some v0, some v1, some v2, some v3, some v4, none]) := fun bad v0 v1 v2 v3 v4 D hD k J sJ d hd =>
      ⟨false, nx (CIP K, CIS K) (by simp [nots]), (fun z => by cases z), fun _ => ⟨false, nx (CIP K, CU K) (by simp [nots]), (fun z => by cases z), fun _ => ⟨false, nx (CIP K, CI K) (by simp [nots]), (fun z => by cases z), fun _ => ⟨true, XIP.te, fun _ a _ => suite (CIP K) "part" "value" bad a d v0 v1 v2 v3 v4 J _ hD sJ hd k, fun z => by cases z⟩⟩⟩⟩
    have er4 : ∀ (bad : V) (v0 v1 v2 v3 v4 : V) (D : Ends), D.rt = Q → Rt H Q "fact" bad → ∀ J, Same H J → Err (CIF K) bad J (WE (Ft.wAll K 5 (fun cls d _ H => E cls d H) D (clT K)) [some v0, some v1, some v2, some v3, some v4, none]) := fun bad v0 v1 v2 v3 v4 D hD k J sJ d hd =>
      ⟨false, nx (CIF K, CIS K) (by simp [nots]), (fun z => by cases z), fun _ => ⟨false, nx (CIF K, CU K) (by simp [nots]), (fun z => by cases z), fun _ => ⟨false, nx (CIF K, CI K) (by simp [nots]), (fun z => by cases z), fun _ => ⟨false, nx (CIF K, CIP K) (by simp [nots]), (fun z => by cases z), fun _ => ⟨true, XIF.te, fun _ a _ => suite (CIF K) "fact" "value" bad a d v0 v1 v2 v3 v4 J _ hD sJ hd k, fun z => by cases z⟩⟩⟩⟩⟩
    have er5 : ∀ (bad : V) (v0 v1 v2 v3 v4 : V) (D : Ends), D.rt = Q → Rt H Q "cue" bad → ∀ J, Same H J → ErrL (CUn K) bad J (WE (Ft.wAll K 5 (fun cls d _ H => E cls d H) D (clT K)) [some v0, some v1, some v2, some v3, some v4, none]) := fun bad v0 v1 v2 v3 v4 D hD k J sJ d hd =>
      ⟨false, nx (CUn K, CIS K) (by simp [nots]), (fun z => by cases z), fun _ => ⟨false, nx (CUn K, CU K) (by simp [nots]), (fun z => by cases z), fun _ => ⟨false, nx (CUn K, CI K) (by simp [nots]), (fun z => by cases z), fun _ => ⟨false, nx (CUn K, CIP K) (by simp [nots]), (fun z => by cases z), fun _ => ⟨false, nx (CUn K, CIF K) (by simp [nots]), (fun z => by cases z), fun _ => ⟨true, XUC.te, fun _ a _ => suite (CUn K) "cue" "label" bad a d v0 v1 v2 v3 v4 J _ hD sJ hd k, fun z => by cases z⟩⟩⟩⟩⟩⟩
    refine ⟨_, rfl, _, rfl, _, rfl, _, rfl, _, rfl, rfl, rfl, x, un, a, b, fa, rfl, ?_⟩
    rcases c with ⟨ns, k⟩ | ⟨o, mm, H0, gs, rfl, sh, c⟩
    · exact .inl ⟨ns, er0 _ _ _ _ _ _ _ rfl k _ (Same.refl _)⟩
    refine .inr ⟨o, mm, H0, gs, rfl, sh, ?_⟩
    rcases c with ⟨bu, k⟩ | ⟨u, rfl, hu, c⟩
    · exact .inl ⟨bu, er1 _ _ _ _ _ _ _ rfl k _ (Same.refl _)⟩
    refine .inr ⟨u, rfl, hu, ?_⟩
    rcases c with ⟨bm, k⟩ | ⟨i, rfl, hi, c⟩
    · exact .inl ⟨bm, er2 _ _ _ _ _ _ _ rfl k⟩
    refine .inr ⟨i, rfl, hi, ?_⟩
    rcases c with ⟨bm, k⟩ | ⟨j, rfl, hj, c⟩
    · exact .inl ⟨bm, er2 _ _ _ _ _ _ _ rfl k⟩
    refine .inr ⟨j, rfl, hj, ?_⟩
    rcases c with ⟨nl, k⟩ | ⟨p, y, rfl, hp, c⟩
    · exact .inl ⟨nl, er3 _ _ _ _ _ _ _ rfl k⟩
    refine .inr (.inr ⟨p, y, rfl, hp, ?_⟩)
    rcases c with ⟨nl, k⟩ | ⟨q, fc, n, rfl, fv, k1, k2, k⟩
    · exact .inl ⟨nl, er4 _ _ _ _ _ _ _ rfl k⟩
    · exact .inr ⟨q, fc, n, rfl, fv, k1, k2, er5 _ _ _ _ _ _ _ rfl k⟩
end
end T13
set_option Elab.async false
set_option linter.all false
set_option maxRecDepth 100000
set_option maxHeartbeats 1000000
set_option exponentiation.threshold 100000
namespace T13
open PySem PySem.Spec PyProof.Rows L2 Fa Fb K13
open M13 (Fc Bst)
abbrev sRef : Stmt := top 76
theorem scRef : FnScope ["_law_sheet", "_law_thing", "_law_fact_here"] ["_law_sheet"] (defScope sRef) := ⟨rfl, rfl, rfl, by decide +kernel, rfl, by decide +kernel, by decide +kernel⟩

abbrev ShT (nm : Str) (d : PyData) : Prop := (PyData.list [.str nm, d]).showable = true ∧ (PyData.list [.str nm, d]).depth ≤ 20 ∧ (PyData.list [.str nm, d]).shown.length ≤ sizeLine
structure Tg1 (K : PySem.W.Frag) (H : Hp) (gs : List Cu) (x : V) (d : PyData) : Prop where
  sv : Fg.Sv H x d
  ns : NoSheet K H x
  bu : BadU K H x
  bm : BadM K H gs x
  nl : NoL K H x
structure Tg (K : PySem.W.Frag) (H : Hp) (gs : List Cu) (x : V) (d : PyData) : Prop where
  go : ∀ {J}, Same H J → Tg1 K J gs x d
  k : ∀ nm ∈ [("sheet" : Str), "unit", "integer", "part", "fact"], ShT nm d
theorem Tg.same {K : PySem.W.Frag} {H H' : Hp} {gs : List Cu} {x : V} {d : PyData} (h : Tg K H gs x d) (s : Same H H') : Tg K H' gs x d := ⟨fun sJ => h.go (s.trans sJ), h.k⟩
theorem things13 {K : PySem.W.Frag} {gs : List Cu} {H : Hp} {q : Addr} (kTS : ∀ T ∈ tys, PySem.W.kitOne K (.type T) (.ref (CS K)) = some false) (n8 : nR gs ≤ 8) (h : H q = some (.dK [])) :
    ∀ x ∈ [V.non, .bl true, .str "zz9zz", .ref q, .int 99, .int (0 - 1)], ∃ d, Tg K H gs x d := by
  have kt : ∀ {T : String} {b1 b2 : Bool} {J : Hp} {x : V}, TyX K J x (.type T) → kitB T "int" = some b1 → kitB T "bool" = some b2 → (b1 && !b2) = false → Wh K J x false := fun ty a b c => ⟨_, _, _, ty, kit_ty a, kit_ty b, c.symm⟩
  have sho : ∀ d : PyData, (∀ nm ∈ [("sheet" : Str), "unit", "integer", "part", "fact"], ShT nm d) → ∀ nm ∈ [("sheet" : Str), "unit", "integer", "part", "fact"], ShT nm d := fun d h => h
  have nol : ∀ {T : String} {x : V}, (∀ J, Same H J → TyX K J x (.type T)) → (∀ J, Same H J → PySem.W.kitAny K (.type T) [.type "list", .type "tuple"] = some false) → ∀ J, Same H J → NoL K J x := fun a b J sJ => ⟨_, fun J2 s2 => a _ (sJ.trans s2), b J sJ⟩
  have ns : ∀ {T : String} {x : V} {J : Hp}, T ∈ tys → TyX K J x (.type T) → NoSheet K J x := fun hT ty => ⟨_, ty, kTS _ hT⟩
  intro x hx
  simp only [List.mem_cons, List.not_mem_nil, or_false] at hx
  have go : ∀ (T : String) (x : V) (d : PyData), T ∈ tys → (∀ J, Same H J → Fg.Sv J x d) → (∀ J, Same H J → TyX K J x (.type T)) → (∀ J, Same H J → BadU K J x) → (∀ J, Same H J → BadM K J gs x) → PySem.W.kitAny K (.type T) [.type "list", .type "tuple"] = some false → (∀ nm ∈ [("sheet" : Str), "unit", "integer", "part", "fact"], ShT nm d) → ∃ d, Tg K H gs x d :=
    fun T x d hT sv ty bu bm ka sh => ⟨d, fun sJ => ⟨sv _ sJ, ns hT (ty _ sJ), bu _ sJ, bm _ sJ, ⟨_, fun J2 s2 => ty _ (sJ.trans s2), ka⟩⟩, sh⟩
  rcases hx with rfl | rfl | rfl | rfl | rfl | rfl
  · refine go "NoneType" _ .none (by decide) (fun J sJ => .non) (fun J sJ => .base .non) (fun J sJ => .inl ⟨_, .base .non, kit_ty (by decide +kernel)⟩) (fun J sJ => .inl fun J2 s2 => kt (b1 := false) (b2 := false) (.base .non) (by decide +kernel) (by decide +kernel) rfl) (ka_no (by decide +kernel) (by decide +kernel)) ?_
    simp only [List.mem_cons, List.not_mem_nil, or_false]
    rintro nm (rfl | rfl | rfl | rfl | rfl) <;> exact ⟨by decide +kernel, by decide +kernel, by decide +kernel⟩
  · refine go "bool" _ (.bool true) (by decide) (fun J sJ => .bl _) (fun J sJ => .base (.bl _)) (fun J sJ => .inl ⟨_, .base (.bl _), kit_ty (by decide +kernel)⟩) (fun J sJ => .inl fun J2 s2 => kt (b1 := true) (b2 := true) (.base (.bl _)) (by decide +kernel) (by decide +kernel) rfl) (ka_no (by decide +kernel) (by decide +kernel)) ?_
    simp only [List.mem_cons, List.not_mem_nil, or_false]
    rintro nm (rfl | rfl | rfl | rfl | rfl) <;> exact ⟨by decide +kernel, by decide +kernel, by decide +kernel⟩
  · refine go "str" _ (.str "zz9zz") (by decide) (fun J sJ => .str _) (fun J sJ => .base (.str _)) (fun J sJ => .inr ⟨_, rfl, by decide +kernel⟩) (fun J sJ => .inl fun J2 s2 => kt (b1 := false) (b2 := false) (.base (.str _)) (by decide +kernel) (by decide +kernel) rfl) (ka_no (by decide +kernel) (by decide +kernel)) ?_
    simp only [List.mem_cons, List.not_mem_nil, or_false]
    rintro nm (rfl | rfl | rfl | rfl | rfl) <;> exact ⟨by decide +kernel, by decide +kernel, by decide +kernel⟩
  · refine go "dict" _ (.dict []) (by decide) (fun J sJ => .dic (sJ _ _ h)) (fun J sJ => .base (.dK (sJ _ _ h))) (fun J sJ => .inl ⟨_, .base (.dK (sJ _ _ h)), kit_ty (by decide +kernel)⟩) (fun J sJ => .inl fun J2 s2 => kt (b1 := false) (b2 := false) (.base (.dK (s2 _ _ (sJ _ _ h)))) (by decide +kernel) (by decide +kernel) rfl) (ka_no (by decide +kernel) (by decide +kernel)) ?_
    simp only [List.mem_cons, List.not_mem_nil, or_false]
    rintro nm (rfl | rfl | rfl | rfl | rfl) <;> exact ⟨by decide +kernel, by decide +kernel, by decide +kernel⟩
  · refine go "int" _ (.int 99) (by decide) (fun J sJ => .int _) (fun J sJ => .base (.int _)) (fun J sJ => .inl ⟨_, .base (.int _), kit_ty (by decide +kernel)⟩) (fun J sJ => .inr ⟨_, rfl, by omega⟩) (ka_no (by decide +kernel) (by decide +kernel)) ?_
    simp only [List.mem_cons, List.not_mem_nil, or_false]
    rintro nm (rfl | rfl | rfl | rfl | rfl) <;> exact ⟨by decide +kernel, by decide +kernel, by decide +kernel⟩
  · refine go "int" _ (.int (0 - 1)) (by decide) (fun J sJ => .int _) (fun J sJ => .base (.int _)) (fun J sJ => .inl ⟨_, .base (.int _), kit_ty (by decide +kernel)⟩) (fun J sJ => .inr ⟨_, rfl, by omega⟩) (ka_no (by decide +kernel) (by decide +kernel)) ?_
    simp only [List.mem_cons, List.not_mem_nil, or_false]
    rintro nm (rfl | rfl | rfl | rfl | rfl) <;> exact ⟨by decide +kernel, by decide +kernel, by decide +kernel⟩
theorem nmo_start (gs : List Cu) : (nmo gs "start").isSome = true := by
  unfold nmo
  have := M04.num_none (l := (M04.all (gs.map cv)).nums) (x := "start")
  cases e : M04.num (M04.all (gs.map cv)).nums "start" with
  | none =>
    rw [M04.names_all] at this
    exact absurd List.mem_cons_self (this.mp e)
  | some i => rfl
theorem nR_pos (gs : List Cu) : 0 < nR gs := by
  obtain ⟨i, e⟩ := Option.isSome_iff_exists.mp (nmo_start gs)
  have := M04.all_ok _ _ M04.init_ok _ _ e
  exact Nat.lt_of_le_of_lt (Nat.zero_le _) this
def sRef1 (K : PySem.W.Frag) (o : Addr) (mm : Nat) (H0 : Hp) (gs : List Cu) : TS := fun D σ H' => ∃ (x : V) (d : PyData), σ = [some (.ref o), some x, none] ∧ ShAt K mm H0 H' o gs ∧ Tg K H' gs x d ∧ ∀ J, Same H' J → D.nx [some (.ref o), some x, none] J
def spRef (K : PySem.W.Frag) : Sp := fun vs H Q _ => ∃ o mm H0 gs, vs = [.ref o] ∧ ShAt K mm H0 H o gs ∧ nR gs ≤ 8 ∧ nmo gs "zz9zz" = none ∧ ∀ H', Same H H' → Q (.bl true) H'
section
variable {P : Program} {w : World} {K : PySem.W.Frag} {mg : Str → Option Value} {base : Heap} {f f1 : Addr} {fd fd1 : FuncData}
theorem ok_ref (F : FnP K "_law_refused" sRef f fd) (hS : Fg.SysD K) (mR : mg "repr" = none) (kTS : ∀ T ∈ tys, PySem.W.kitOne K (.type T) (.ref (CS K)) = some false) (TL : Fn P w K mg base "_law_told" 10 ["_law_sheet", "_law_unit", "_law_one", "_law_other", "_law_known"] (spTld K) f1 fd1) : Fg.FnG P w K mg base (L2.CX P w) 11 f fd ["_law_sheet"] (spRef K) := by
  refine Fg.okG F scRef (fun vs H Q E h => ?_) (fun cdv A outer s H vs Q E G hr h => ?_)
  · obtain ⟨o, mm, H0, gs, rfl, _⟩ := h
    rfl
  · obtain ⟨o, mm, H0, gs, rfl, sh, n8, zz, k⟩ := h
    have hu : (A.deeper (envOfC "_law_refused" (defScope sRef) s.heap.objs.size f cdv)).units + 64 < cLine := by
      have := hr.un
      omega
    have hr10 := hr.mono (show 10 ≤ 10 by decide)
    have n0 := nR_pos gs
    have hbt : isUnit "beats" = true := by decide +kernel
    refine ⟨_, (pss_cons (ps_for (passes_of rfl) rfl (pi_list (pe_lst (pa_cons pe_non (pa_cons pe_bl (pa_cons pe_str (pa_cons pe_dnewK (pa_cons pe_int (pa_cons (pe_op op_sub pe_int pe_int) pa_nil)))))))) (pg_name (i := 1) scRef.nd rfl (Or.inl rfl))
      (pss_imp (S := sRef1 K o mm H0 gs) (pss_cons (ps_if (pt_cmpR op_ne (pe_callB (Fg.call_reprD hS G hu) rfl mR boot_repr (pa_cons (pe_call TL.ok hr10 rfl TL.g TL.k TL.b .nil passL (pa_cons (pv 1) (pa_cons (pv 1) (pa_cons (pv 1) (pa_cons (pv 1) (pa_cons (pv 1) pa_nil)))))) pa_nil)) (pe_callB (Fg.call_reprD hS G hu) rfl mR boot_repr (pa_cons (pe_lst (pa_cons pe_str (pa_cons (pv 1) pa_nil))) pa_nil)) (nomark _)) (pss_one (ps_ret pe_bl)) pss_nil)
      (pss_cons (ps_if (pt_cmpR op_ne (pe_callB (Fg.call_reprD hS G hu) rfl mR boot_repr (pa_cons (pe_call TL.ok hr10 rfl TL.g TL.k TL.b .nil passL (pa_cons (pv 0) (pa_cons (pv 1) (pa_cons (pv 1) (pa_cons (pv 1) (pa_cons (pv 1) pa_nil)))))) pa_nil)) (pe_callB (Fg.call_reprD hS G hu) rfl mR boot_repr (pa_cons (pe_lst (pa_cons pe_str (pa_cons (pv 1) pa_nil))) pa_nil)) (nomark _)) (pss_one (ps_ret pe_bl)) pss_nil)
      (pss_cons (ps_if (pt_cmpR op_ne (pe_callB (Fg.call_reprD hS G hu) rfl mR boot_repr (pa_cons (pe_call TL.ok hr10 rfl TL.g TL.k TL.b .nil passL (pa_cons (pv 0) (pa_cons pe_str (pa_cons (pv 1) (pa_cons (pv 1) (pa_cons (pv 1) pa_nil)))))) pa_nil)) (pe_callB (Fg.call_reprD hS G hu) rfl mR boot_repr (pa_cons (pe_lst (pa_cons pe_str (pa_cons (pv 1) pa_nil))) pa_nil)) (nomark _)) (pss_one (ps_ret pe_bl)) pss_nil)
      (pss_cons (ps_if (pt_cmpR op_ne (pe_callB (Fg.call_reprD hS G hu) rfl mR boot_repr (pa_cons (pe_call TL.ok hr10 rfl TL.g TL.k TL.b .nil passL (pa_cons (pv 0) (pa_cons pe_str (pa_cons pe_int (pa_cons (pv 1) (pa_cons (pv 1) pa_nil)))))) pa_nil)) (pe_callB (Fg.call_reprD hS G hu) rfl mR boot_repr (pa_cons (pe_lst (pa_cons pe_str (pa_cons (pv 1) pa_nil))) pa_nil)) (nomark _)) (pss_one (ps_ret pe_bl)) pss_nil)
      (pss_cons (ps_if (pt_cmpR op_ne (pe_callB (Fg.call_reprD hS G hu) rfl mR boot_repr (pa_cons (pe_call TL.ok hr10 rfl TL.g TL.k TL.b .nil passL (pa_cons (pv 0) (pa_cons pe_str (pa_cons pe_int (pa_cons pe_int (pa_cons (pv 1) pa_nil)))))) pa_nil)) (pe_callB (Fg.call_reprD hS G hu) rfl mR boot_repr (pa_cons (pe_lst (pa_cons pe_str (pa_cons (pv 1) pa_nil))) pa_nil)) (nomark _)) (pss_one (ps_ret pe_bl)) pss_nil)
      (pss_one (ps_if (pt_cmpR op_ne (pe_callB (Fg.call_reprD hS G hu) rfl mR boot_repr (pa_cons (pe_call TL.ok hr10 rfl TL.g TL.k TL.b .nil passL (pa_cons (pv 0) (pa_cons pe_str (pa_cons pe_int (pa_cons pe_int (pa_cons (pe_lst (pa_cons (pv 1) (pa_cons pe_non pa_nil))) pa_nil)))))) pa_nil)) (pe_callB (Fg.call_reprD hS G hu) rfl mR boot_repr (pa_cons (pe_lst (pa_cons pe_str (pa_cons (pv 1) pa_nil))) pa_nil)) (nomark _)) (pss_one (ps_ret pe_bl)) pss_nil))))))) ?c1))
      (pss_cons (ps_set (i := 2) scRef.nd rfl (Or.inl rfl) (pe_tup (pa_cons pe_str (pa_cons pe_str (pa_cons pe_str (pa_cons pe_str pa_nil))))))
      (pss_one (ps_ret (pe_cmpR (op_eqD hu) (pe_call TL.ok hr10 rfl TL.g TL.k TL.b .nil passL (pa_cons (pv 0) (pa_cons pe_str (pa_cons pe_int (pa_cons pe_int (pa_cons (pe_lst (pa_cons (pv 2) (pa_cons pe_non pa_nil))) pa_nil)))))) (pe_lst (pa_cons pe_str (pa_cons pe_str pa_nil))) (nomark _)))))), ?_⟩
    case c1 =>
      rintro D σ H1 ⟨x, d, rfl, sh, th, kk⟩
      have S0 := Same.refl H1
      refine ⟨_, rfl, _, rfl, _, rfl, _, rfl, _, rfl, x, x, x, x, x, rfl, .inl ⟨(th.go S0).ns, fun l A0 sJ0 hl0 l0 => ?_⟩⟩
      have B0 := S0.trans sJ0
      obtain ⟨k1, k2, k3⟩ := th.k "sheet" (by simp)
      refine ⟨l, .list [.str "sheet", d], rfl, .lst hl0 (.cons (.str _) (.cons (th.go B0).sv .nil)), k1, k2, k3, _, rfl, by show 2 ≤ sizeLine; decide, fun l2 hl2 => ?_⟩
      have s2 := Same.upd (o := .lst [V.str "sheet", x]) hl2
      have e2 : upd A0 l2 (.lst [V.str "sheet", x]) l2 = some (.lst [V.str "sheet", x]) := upd_same
      generalize upd A0 l2 (.lst [V.str "sheet", x]) = J1b at s2 e2 ⊢
      have S1 := B0.trans s2
      refine ⟨l2, .list [.str "sheet", d], rfl, .lst e2 (.cons (.str _) (.cons (th.go S1).sv .nil)), k1, k2, k3, rfl, _, rfl, if_false_of (by rw [decide_eq_true rfl]; rfl) ?_⟩
      refine ⟨_, rfl, _, rfl, _, rfl, _, rfl, _, rfl, _, x, x, x, x, rfl, .inr ⟨o, mm, H0, gs, rfl, sh.same S1, .inl ⟨(th.go S1).bu, fun l A1 sJ1 hl1 l0 => ?_⟩⟩⟩
      have B1 := S1.trans sJ1
      obtain ⟨k1, k2, k3⟩ := th.k "unit" (by simp)
      refine ⟨l, .list [.str "unit", d], rfl, .lst hl1 (.cons (.str _) (.cons (th.go B1).sv .nil)), k1, k2, k3, _, rfl, by show 2 ≤ sizeLine; decide, fun l2 hl2 => ?_⟩
      have s2 := Same.upd (o := .lst [V.str "unit", x]) hl2
      have e2 : upd A1 l2 (.lst [V.str "unit", x]) l2 = some (.lst [V.str "unit", x]) := upd_same
      generalize upd A1 l2 (.lst [V.str "unit", x]) = J2b at s2 e2 ⊢
      have S2 := B1.trans s2
      refine ⟨l2, .list [.str "unit", d], rfl, .lst e2 (.cons (.str _) (.cons (th.go S2).sv .nil)), k1, k2, k3, rfl, _, rfl, if_false_of (by rw [decide_eq_true rfl]; rfl) ?_⟩
      refine ⟨_, rfl, _, rfl, _, rfl, _, rfl, _, _, x, x, x, rfl, .inr ⟨o, mm, H0, gs, rfl, sh.same S2, .inr ⟨_, rfl, hbt, .inl ⟨(th.go S2).bm, fun l A2 sJ2 hl2 l0 => ?_⟩⟩⟩⟩
      have B2 := S2.trans sJ2
      obtain ⟨k1, k2, k3⟩ := th.k "integer" (by simp)
      refine ⟨l, .list [.str "integer", d], rfl, .lst hl2 (.cons (.str _) (.cons (th.go B2).sv .nil)), k1, k2, k3, _, rfl, by show 2 ≤ sizeLine; decide, fun l2 hl2 => ?_⟩
      have s2 := Same.upd (o := .lst [V.str "integer", x]) hl2
      have e2 : upd A2 l2 (.lst [V.str "integer", x]) l2 = some (.lst [V.str "integer", x]) := upd_same
      generalize upd A2 l2 (.lst [V.str "integer", x]) = J3b at s2 e2 ⊢
      have S3 := B2.trans s2
      refine ⟨l2, .list [.str "integer", d], rfl, .lst e2 (.cons (.str _) (.cons (th.go S3).sv .nil)), k1, k2, k3, rfl, _, rfl, if_false_of (by rw [decide_eq_true rfl]; rfl) ?_⟩
      refine ⟨_, rfl, _, rfl, _, rfl, _, _, _, x, x, rfl, .inr ⟨o, mm, H0, gs, rfl, sh.same S3, .inr ⟨_, rfl, hbt, .inr ⟨0, rfl, n0, .inl ⟨(th.go S3).bm, fun l A3 sJ3 hl3 l0 => ?_⟩⟩⟩⟩⟩
      have B3 := S3.trans sJ3
      obtain ⟨k1, k2, k3⟩ := th.k "integer" (by simp)
      refine ⟨l, .list [.str "integer", d], rfl, .lst hl3 (.cons (.str _) (.cons (th.go B3).sv .nil)), k1, k2, k3, _, rfl, by show 2 ≤ sizeLine; decide, fun l2 hl2 => ?_⟩
      have s2 := Same.upd (o := .lst [V.str "integer", x]) hl2
      have e2 : upd A3 l2 (.lst [V.str "integer", x]) l2 = some (.lst [V.str "integer", x]) := upd_same
      generalize upd A3 l2 (.lst [V.str "integer", x]) = J4b at s2 e2 ⊢
      have S4 := B3.trans s2
      refine ⟨l2, .list [.str "integer", d], rfl, .lst e2 (.cons (.str _) (.cons (th.go S4).sv .nil)), k1, k2, k3, rfl, _, rfl, if_false_of (by rw [decide_eq_true rfl]; rfl) ?_⟩
      refine ⟨_, rfl, _, rfl, _, _, _, _, x, rfl, .inr ⟨o, mm, H0, gs, rfl, sh.same S4, .inr ⟨_, rfl, hbt, .inr ⟨0, rfl, n0, .inr ⟨0, rfl, n0, .inl ⟨(th.go S4).nl, fun l A4 sJ4 hl4 l0 => ?_⟩⟩⟩⟩⟩⟩
      have B4 := S4.trans sJ4
      obtain ⟨k1, k2, k3⟩ := th.k "part" (by simp)
      refine ⟨l, .list [.str "part", d], rfl, .lst hl4 (.cons (.str _) (.cons (th.go B4).sv .nil)), k1, k2, k3, _, rfl, by show 2 ≤ sizeLine; decide, fun l2 hl2 => ?_⟩
      have s2 := Same.upd (o := .lst [V.str "part", x]) hl2
      have e2 : upd A4 l2 (.lst [V.str "part", x]) l2 = some (.lst [V.str "part", x]) := upd_same
      generalize upd A4 l2 (.lst [V.str "part", x]) = J5b at s2 e2 ⊢
      have S5 := B4.trans s2
      refine ⟨l2, .list [.str "part", d], rfl, .lst e2 (.cons (.str _) (.cons (th.go S5).sv .nil)), k1, k2, k3, rfl, _, rfl, if_false_of (by rw [decide_eq_true rfl]; rfl) ?_⟩
      refine ⟨_, rfl, _, rfl, by show 2 ≤ sizeLine; decide, fun p hp => ?_⟩
      have sp := Same.upd (o := .lst [x, V.non]) hp
      have ep : upd J5b p (.lst [x, V.non]) p = some (.lst [x, V.non]) := upd_same
      generalize upd J5b p (.lst [x, V.non]) = HP at sp ep ⊢
      have P5 := S5.trans sp
      refine ⟨_, _, _, _, _, rfl, .inr ⟨o, mm, H0, gs, rfl, sh.same P5, .inr ⟨_, rfl, hbt, .inr ⟨0, rfl, n0, .inr ⟨0, rfl, n0, .inr ⟨p, x, rfl, ep, .inl ⟨(th.go P5).nl, fun l A5 sJ5 hl5 l0 => ?_⟩⟩⟩⟩⟩⟩⟩
      have B5 := P5.trans sJ5
      obtain ⟨k1, k2, k3⟩ := th.k "fact" (by simp)
      refine ⟨l, .list [.str "fact", d], rfl, .lst hl5 (.cons (.str _) (.cons (th.go B5).sv .nil)), k1, k2, k3, _, rfl, by show 2 ≤ sizeLine; decide, fun l2 hl2 => ?_⟩
      have s2 := Same.upd (o := .lst [V.str "fact", x]) hl2
      have e2 : upd A5 l2 (.lst [V.str "fact", x]) l2 = some (.lst [V.str "fact", x]) := upd_same
      generalize upd A5 l2 (.lst [V.str "fact", x]) = J6b at s2 e2 ⊢
      have S6 := B5.trans s2
      refine ⟨l2, .list [.str "fact", d], rfl, .lst e2 (.cons (.str _) (.cons (th.go S6).sv .nil)), k1, k2, k3, rfl, _, rfl, if_false_of (by rw [decide_eq_true rfl]; rfl) ?_⟩
      exact kk _ S6
    refine fun q hq => ⟨_, _, rfl, rfl, by show 6 ≤ sizeLine; decide, fun l hl => ⟨l, rfl, ⟨_, SqL.of upd_same⟩, ?_⟩⟩
    have g2 := Same.upd (o := .dK []) hq
    have e2 : upd H q (.dK []) q = some (.dK []) := upd_same
    generalize upd H q (.dK []) = H3 at g2 e2 hl ⊢
    have g3 := Same.upd (o := .lst [V.non, .bl true, .str "zz9zz", .ref q, .int 99, .int (0 - 1)]) hl
    have el : upd H3 l (.lst [V.non, .bl true, .str "zz9zz", .ref q, .int 99, .int (0 - 1)]) l = some (.lst [V.non, .bl true, .str "zz9zz", .ref q, .int 99, .int (0 - 1)]) := upd_same
    generalize upd H3 l (.lst [V.non, .bl true, .str "zz9zz", .ref q, .int 99, .int (0 - 1)]) = HB at g3 el ⊢
    have things := things13 (K := K) (gs := gs) (H := HB) kTS n8 (g3 _ _ e2)
    have sB := g2.trans g3
    refine for_list (K := K) (a := l) (xs := [V.non, .bl true, .str "zz9zz", .ref q, .int 99, .int (0 - 1)]) (fun i σ H' => ∃ v1, σ = [some (.ref o), v1, none] ∧ Same HB H') ⟨_, rfl, Same.refl _⟩ (fun i σ H' _ ⟨_, _, s⟩ => SqL.of (s _ _ el)) ?_ ?_
    · rintro i x σ H5 hi ⟨v1, rfl, s5⟩
      obtain ⟨d, th⟩ := things x (List.mem_of_getElem? hi)
      exact ⟨x, d, rfl, sh.same (sB.trans s5), th.same s5, fun J sJ => ⟨_, rfl, s5.trans sJ⟩⟩
    · rintro σ H5 ⟨v1, rfl, s5⟩
      refine ⟨by show 4 ≤ sizeLine; decide, fun q1 h1 => ?_⟩
      have s6 := Same.upd (o := .tup [V.str "order", .str "start", .str "same", .str "zz9zz"]) h1
      have e6 : upd H5 q1 (.tup [V.str "order", .str "start", .str "same", .str "zz9zz"]) q1 = some (.tup [V.str "order", .str "start", .str "same", .str "zz9zz"]) := upd_same
      generalize upd H5 q1 (.tup [V.str "order", .str "start", .str "same", .str "zz9zz"]) = H6 at s6 e6 ⊢
      have s06 := sB.trans (s5.trans s6)
      refine ⟨_, rfl, _, rfl, by show 2 ≤ sizeLine; decide, fun p hp => ?_⟩
      have s7 := Same.upd (o := .lst [V.ref q1, V.non]) hp
      have e7 : upd H6 p (.lst [V.ref q1, V.non]) p = some (.lst [V.ref q1, V.non]) := upd_same
      generalize upd H6 p (.lst [V.ref q1, V.non]) = H7 at s7 e7 ⊢
      have s07 := s06.trans s7
      refine ⟨_, _, _, _, _, rfl, .inr ⟨o, mm, H0, gs, rfl, sh.same s07, .inr ⟨_, rfl, hbt, .inr ⟨0, rfl, n0, .inr ⟨0, rfl, n0, .inr ⟨p, .ref q1, rfl, e7, .inr ⟨q1, .ord "start" "same" "zz9zz", 0, rfl, ⟨s7 _ _ e6, by decide +kernel⟩, nmo_start gs, zz, fun l2 J sJ h2 _ => ?_⟩⟩⟩⟩⟩⟩⟩
      refine ⟨by show 2 ≤ sizeLine; decide, fun l3 h3 => ?_⟩
      have s8 := Same.upd (o := .lst [V.str "cue", .str "zz9zz"]) h3
      have d8 : SeqAt.shaped (.list [.str "cue", .str "zz9zz"]) = true := by decide +kernel
      refine ⟨.list [.str "cue", .str "zz9zz"], .list [.str "cue", .str "zz9zz"], .lst (SqL.of (s8 _ _ h2)) (.cons (.str _) (.cons (.str _) .nil)), .lst (SqL.of upd_same) (.cons (.str _) (.cons (.str _) .nil)), d8, d8, ?_⟩
      rw [SeqAt.eqv_refl _ (by decide +kernel)]
      exact k _ (s07.trans (sJ.trans s8))
end
end T13
set_option Elab.async false
set_option linter.all false
set_option maxRecDepth 100000
set_option maxHeartbeats 1000000
set_option exponentiation.threshold 100000
namespace T13
open PySem PySem.Spec PyProof.Rows L2 Fa Fb K13
open M13 (Fc Bst)
abbrev sRgt : Stmt := top 74
theorem scRgt : FnScope ["_law_box_here", "_law_sheet", "_law_cues_here", "_law_known", "_law_fact_here", "_law_given", "_law_unit", "_law_one", "_law_other", "_law_due_here", "_law_told_here", "_law_k"] ["_law_box_here", "_law_sheet", "_law_cues_here"] (defScope sRgt) := ⟨rfl, rfl, rfl, by decide +kernel, rfl, by decide +kernel, by decide +kernel⟩

def KR (H H' : Hp) : Prop := ∀ q o, H q = some o → (∀ a b c : Int, o ≠ .lst [.int a, .int b, .int c]) → H' q = some o
theorem KR.kp {H H' : Hp} {p : Addr} {n : Nat} (b : Box H p n) (k : Kp p H H') : KR H H' := fun q o h ne => k q o (fun e => by
  obtain ⟨a, x, c, z, _⟩ := b
  rw [e, z] at h
  exact ne _ _ _ (Option.some.inj h).symm) h
theorem KR.kt {H H' : Hp} (k : KR H H') : KT H H' := fun q o h nl => k q o h fun a b c => nl _
theorem _root_.K13.Inn.kp {K : PySem.W.Frag} {mm : Nat} {H0 H H' : Hp} {c r d : Addr} {gs : List Cu} {rs : List (Addr × List K13.It)} {p : Addr} {n m : Nat} (h : Inn K mm H0 H c r d gs rs) (b : Box H p n) (k : Kp p H H') (b' : Box H' p m) : Inn K mm H0 H' c r d gs rs := by
  have kr := KR.kp b k
  have kt := kr.kt
  refine ⟨kr _ _ h.cl (fun a b c z => ?_), fun g hg => ⟨kt _ _ (h.cok g hg).1 (fun l z => by cases z), (h.cok g hg).2.lift kt⟩, kr _ _ h.rl (fun a b c z => ?_), fun z hz => ⟨⟨kr _ _ (h.rok z hz).1.l (fun a b c e => ?_), fun g hg => ⟨kt _ _ ((h.rok z hz).1.ok g hg).1 (fun l e => by cases e), ((h.rok z hz).1.ok g hg).2.lift kt⟩, (h.rok z hz).1.n⟩, (h.rok z hz).2⟩, h.rv, kr _ _ h.dk (fun a b c z => by cases z), h.n, h.mm, h.c0, h.r0, h.d0, h.cr, fun q z => h.old q (k.no (b'.ne z).symm z)⟩
  · cases gs with
    | nil => cases z
    | cons x r => cases z
  · cases rs with
    | nil => cases z
    | cons x r => cases z
  · cases hz2 : z.2 with
    | nil => rw [hz2] at e; cases e
    | cons x r => rw [hz2] at e; cases e
theorem _root_.K13.ShAt.kp {K : PySem.W.Frag} {mm : Nat} {H0 H H' : Hp} {o : Addr} {gs : List Cu} {p : Addr} {n m : Nat} (h : ShAt K mm H0 H o gs) (b : Box H p n) (k : Kp p H H') (b' : Box H' p m) : ShAt K mm H0 H' o gs := let ⟨dx, c, r, d, rs, x, y⟩ := h; ⟨dx, c, r, d, rs, (KR.kp b k).kt _ _ x (fun l z => by cases z), y.kp b k b'⟩
theorem FcV.kt {K : PySem.W.Frag} {n : Nat} {H H' : Hp} {q : Addr} {f : Fc} (h : FcV K n H q f) (k : KT H H') : FcV K n H' q f := by
  cases f with
  | ord a w b => exact ⟨k _ _ h.1 (fun l z => by cases z), h.2⟩
  | apt un a b x => obtain ⟨hu, v, t, u, h1, h2, h3⟩ := h; exact ⟨hu, v, t, u, k _ _ h1 (fun l z => by cases z), h2.lift k, h3⟩
  | btw un a b lo hi => obtain ⟨hu, v, w, h1, h2, h3⟩ := h; exact ⟨hu, v, w, k _ _ h1 (fun l z => by cases z), h2.kt k, h3.kt k⟩
theorem DuV.kt {H H' : Hp} {x : V} {b : Bst} (h : DuV H x b) (k : KT H H') : DuV H' x b := h.imp id fun ⟨w, r, t, u, f, e, h1, h2, h3⟩ => ⟨w, r, t, u, f, e, k _ _ h1 (fun l z => by cases z), h2.kt k, h3⟩
theorem nmk_some {gs : List Lc} {z : Str} (h : NmK gs z) : (lnm gs z).isSome = true := by
  unfold lnm
  have h1 := M04.num_none (l := (M04.all (gs.map lcv)).nums) (x := z)
  cases e : M04.num (M04.all (gs.map lcv)).nums z with
  | none =>
    rw [M04.names_all, List.map_map] at h1
    exact absurd h (h1.mp e)
  | some i => rfl
/-- the law's sheet and cues -/
structure RgS (K : PySem.W.Frag) (H : Hp) (p o l : Addr) (gs : List Lc) (m : Nat) : Prop where
  bx : Box H p m
  lc : LsC 20 H l gs
  lp : l ≠ p
  good : M04.Good (gs.map lcv)
  sh : ∃ mm H0 cs, ShAt K mm H0 H o cs ∧ cs.map cv = gs.map lcv
  n8 : (M04.all (gs.map lcv)).rows.length ≤ 8
theorem RgS.kp {K : PySem.W.Frag} {H H' : Hp} {p o l : Addr} {gs : List Lc} {m m' : Nat} (h : RgS K H p o l gs m) (k : Kp p H H') (b : Box H' p m') : RgS K H' p o l gs m' :=
  ⟨b, h.lc.kp h.bx k h.lp, h.lp, h.good, let ⟨mm, H0, cs, s, e⟩ := h.sh; ⟨mm, H0, cs, s.kp h.bx k b, e⟩, h.n8⟩
/-- the law's known facts in its list -/
structure RgF (H : Hp) (p kn : Addr) (gs : List Lc) (fs : List (Addr × Fc)) : Prop where
  ne : kn ≠ p
  l : H kn = some (.lst (fs.map fun z => V.ref z.1))
  ok : ∀ z ∈ fs, FcL 20 H z.1 z.2 ∧ NmK gs z.2.names.1 ∧ NmK gs z.2.names.2
  n : fs.length ≤ 6
theorem RgF.kp {H H' : Hp} {p kn : Addr} {gs : List Lc} {fs : List (Addr × Fc)} {m : Nat} (h : RgF H p kn gs fs) (b : Box H p m) (k : Kp p H H') : RgF H' p kn gs fs := ⟨h.ne, k _ _ h.ne h.l, fun z hz => ⟨(h.ok z hz).1.kt (KT.kp b k), (h.ok z hz).2⟩, h.n⟩
theorem RgF.fl {H : Hp} {p kn : Addr} {gs : List Lc} {fs : List (Addr × Fc)} (h : RgF H p kn gs fs) : FlL H kn fs := ⟨h.l, fun z hz => (h.ok z hz).1⟩
/-- the facts as they are passed -/
structure RgG (K : PySem.W.Frag) (H : Hp) (p gn : Addr) (fs gf : List (Addr × Fc)) : Prop where
  ne : gn ≠ p
  l : H gn = some (.lst (gf.map fun z => V.ref z.1))
  ok : ∀ z ∈ gf, FcV K 20 H z.1 z.2
  ev : gf.map (fun z => z.2) = fs.map fun z => z.2
theorem RgG.kp {K : PySem.W.Frag} {H H' : Hp} {p gn : Addr} {fs gf : List (Addr × Fc)} {m : Nat} (h : RgG K H p gn fs gf) (b : Box H p m) (k : Kp p H H') : RgG K H' p gn fs gf := ⟨h.ne, k _ _ h.ne h.l, fun z hz => (h.ok z hz).kt (KT.kp b k), h.ev⟩
abbrev SRg (p o l kn : Addr) (v4 v5 v6 v7 v8 v9 v10 : Option V) : L2.St := [some (.ref p), some (.ref o), some (.ref l), some (.ref kn), v4, v5, v6, v7, v8, v9, v10, none]
section
variable (K : PySem.W.Frag) (H : Hp) (p o l : Addr) (gs : List Lc)
def sRg0 : TS := fun D σ H' => ∃ (kn : Addr) (fs : List (Addr × Fc)) (m : Nat) (v4 v5 v6 v7 v8 v9 v10 : Option V), σ = SRg p o l kn v4 v5 v6 v7 v8 v9 v10 ∧ Kp p H H' ∧ RgS K H' p o l gs m ∧ m + 400 ≤ 1000000 ∧ H kn = none ∧ RgF H' p kn gs fs ∧ ∀ J, Kp p H J → Box J p (m + 400) → D.rt (.bl true) J
def sRg1 : TS := fun D σ H' => ∃ (kn : Addr) (fs : List (Addr × Fc)) (m : Nat) (v4 v5 v6 v7 v8 v9 v10 : Option V), σ = SRg p o l kn v4 v5 v6 v7 v8 v9 v10 ∧ Kp p H H' ∧ RgS K H' p o l gs m ∧ m + 300 ≤ 1000000 ∧ RgF H' p kn gs fs ∧ ∀ J, Kp p H J → Box J p (m + 300) → D.rt (.bl true) J
def sRg3 : TS := fun D σ H' => ∃ (kn q : Addr) (f : Fc) (fs : List (Addr × Fc)) (m : Nat) (v5 v6 v7 v8 v9 v10 : Option V), σ = SRg p o l kn (some (.ref q)) v5 v6 v7 v8 v9 v10 ∧ Kp p H H' ∧ RgS K H' p o l gs m ∧ m + 400 ≤ 1000000 ∧ H kn = none ∧ RgF H' p kn gs fs ∧ 1 < fs.length ∧ (q, f) ∈ fs ∧ ∀ H'' fs' m', m' ≤ m + 40 → Kp p H H'' → RgS K H'' p o l gs m' → RgF H'' p kn gs fs' → D.nx (SRg p o l kn (some (.ref q)) v5 v6 v7 v8 v9 v10) H''
def sRg2 : TS := fun D σ H' => ∃ (kn gn : Addr) (fs gf : List (Addr × Fc)) (u : Str) (i j m : Nat) (v4 v9 v10 : Option V), σ = SRg p o l kn v4 (some (.ref gn)) (some (.str u)) (some (.int (i : Int))) (some (.int (j : Int))) v9 v10 ∧ RgS K H' p o l gs m ∧ m + 1 ≤ 1000000 ∧ RgF H' p kn gs fs ∧ RgG K H' p gn fs gf ∧ isUnit u = true ∧ i < (M04.all (gs.map lcv)).rows.length ∧ j < (M04.all (gs.map lcv)).rows.length ∧
  ∀ J v9 v10, Kp p H' J → Box J p (m + 1) → D.nx (SRg p o l kn v4 (some (.ref gn)) (some (.str u)) (some (.int (i : Int))) (some (.int (j : Int))) v9 v10) J
end
def bsd (t u : Int) (f : Bool) : PyData := .tuple [.tuple [.int t, .int u], .bool f]
theorem bsd_eqv {t u t2 u2 : Int} {f g : Bool} (a : Am.Red t u) (b : Am.Red t2 u2) (e : vq t u = vq t2 u2) (h : f = g) : PyData.eqv (bsd t u f) (bsd t2 u2 g) = true := by
  have e1 : PyData.eqv (bsd t u f) (bsd t2 u2 g) = ((decide (t = t2) && decide (u = u2)) && decide (f = g)) := by
    simp [bsd, PyData.eqv, PyData.eqvAll]
    try rfl
  rw [e1, am_dec a b, decide_eq_true e, decide_eq_true h]
  rfl
theorem bsd_shaped (t u : Int) (f : Bool) : SeqAt.shaped (bsd t u f) = true := by
  simp [bsd, SeqAt.shaped, PyData.canLay0, PyData.canLayAll0, PyData.depth, PyData.depthAll]
def spRgt (K : PySem.W.Frag) : Sp := fun vs H Q _ => ∃ (p o l : Addr) (gs : List Lc) (m : Nat), vs = [.ref p, .ref o, .ref l] ∧ RgS K H p o l gs m ∧ m + 700 ≤ 1000000 ∧ ∀ J, Kp p H J → Box J p (m + 700) → Q (.bl true) J
section
variable {P : Program} {w : World} {K : PySem.W.Frag} {mg : Str → Option Value} {base : Heap} {f f1 f2 f3 f4 f5 f6 fB pT pB fTt fBt : Addr} {fd fd1 fd2 fd3 fd4 fd5 fd6 fdB fdT fdBt : FuncData} {T0 : Addr} {dsB : List Value}
theorem ok_rgt (F : FnP K "_law_right" sRgt f fd) (T : AF K mg) (mL : mg "len" = none) (mG : mg "range" = none) (mTu : mg "tuple" = none) (mB : mg "bool" = none) (GT : Fn0 P w K mg base "_law_take" 1 ["_law_box_here", "_law_many"] spTake f1 fd1) (FA : Fn P w K mg base "_law_fact" 3 ["_law_box_here", "_law_cues_here"] spFct f2 fd2) (AM : Fn P w K mg base "_law_amount" 2 ["_law_box_here"] spLam f3 fd3) (PF : Fn P w K mg base "_law_passed_fact" 7 ["_law_fact_here"] (spPfc K) f4 fd4)
    (MO : Fn P w K mg base "_law_moments" 5 ["_law_cues_here"] (spMoX K) f5 fd5) (DU : Fn P w K mg base "_law_due" 7 ["_law_cues_here", "_law_known", "_law_unit", "_law_one", "_law_other"] spDue f6 fd6)
    (BD : FnOk P w K mg base (L2.CX P w) 9 fB fdB ["sheet", "unit", "one", "other", "facts"] (spBnd K)) (gBD : mg "bound" = some (.ref fB)) (kBD : PySem.W.keepIn K (.ref fB) = true) (kbBD : KBn K fdB ["sheet", "unit", "one", "other", "facts"] 4 ["facts"] (fun us ws => us ++ ws) (fun vs zs => vs ++ zs))
    (bBD : Binds K fdB ["sheet", "unit", "one", "other", "facts"] dsB) (hdBD : Vals [.ref T0] dsB) (hT0 : ∀ H, SqT K H T0 []) (RT : PrF P w K mg base "top" "_top" pT fTt fdT) (RB : PrF P w K mg base "bottom" "_bottom" pB fBt fdBt) : FnOk P w K mg base (L2.CX P w) 10 f fd ["_law_box_here", "_law_sheet", "_law_cues_here"] (spRgt K) := by
  refine F.ok scRgt (fun vs H Q E h => ?_) (fun cdv A outer s H vs Q E hr h => ?_)
  · obtain ⟨p, o, l, gs, m, rfl, _⟩ := h
    rfl
  · obtain ⟨p, o, l, gs, m, rfl, rsH, hm, k⟩ := h
    have hu : (A.deeper (envOfC "_law_right" (defScope sRgt) s.heap.objs.size f cdv)).units + 64 < cLine := by
      have := hr.un
      omega
    have hr1 := hr.mono (show 1 ≤ 9 by decide)
    have hr2 := hr.mono (show 2 ≤ 9 by decide)
    have hr3 := hr.mono (show 3 ≤ 9 by decide)
    have hr5 := hr.mono (show 5 ≤ 9 by decide)
    have hr7 := hr.mono (show 7 ≤ 9 by decide)
    have hr9 := hr.mono (show 9 ≤ 9 by decide)
    refine ⟨_, (pss_cons (ps_setLc (i := 3) (own := [("_law_k", 11)]) (g := gName 11) (te := tCall spFct [] E0 (tCons (tVar 0) (tCons (tVar 2) tNil))) (by rfl) scRgt.nd rfl rfl (sw_true rfl rfl rfl (by decide +kernel)) (pi_range1 rfl mG (pa_cons (pe_call GT.ok hr1 rfl GT.g GT.k GT.b .nil pass0 (pa_cons (pv 0) (pa_cons pe_int pa_nil))) pa_nil)) (blkOk_by (own := [("_law_k", 11)]) (N := ["_law_box_here", "_law_sheet", "_law_cues_here", "_law_known", "_law_fact_here", "_law_given", "_law_unit", "_law_one", "_law_other", "_law_due_here", "_law_told_here", "_law_k"]) (sc := defScope sRgt) (by decide +kernel)) (fun _ _ _ _ _ => (pg_name (i := 11) scRgt.nd rfl (Or.inl rfl))) (fun _ _ _ _ _ => pts_nil) (fun _ _ _ _ _ => (pe_call FA.ok hr3 rfl FA.g FA.k FA.b .nil passL (pa_cons (pv 0) (pa_cons (pv 2) pa_nil)))))
      (pss_imp (S := sRg0 K H p o l gs) (pss_cons (ps_if (pt_cmpR op_gt (pe_callB call_len rfl mL PySem.boot_len (pa_cons (pv 3) pa_nil)) pe_int (nomark _)) (pss_cons (ps_set (i := 4) scRgt.nd rfl (Or.inl rfl) (pe_ifExp (pt_cmpR op_ne (pe_ix ix_tup (pe_ix ix_list (pv 3) pe_int (fun _ _ => rfl)) pe_int (fun _ _ => rfl)) pe_str (nomark _)) (pe_ix ix_list (pv 3) pe_int (fun _ _ => rfl)) (pe_ix ix_list (pv 3) pe_int (fun _ _ => rfl))))
      (pss_imp (S := sRg3 K H p o l gs) (pss_one (ps_if (pt_cmpR op_ne (pe_ix ix_tup (pv 4) pe_int (fun _ _ => rfl)) pe_str (nomark _)) (pss_one (ps_asg (pe_tup (pa_cons pe_str (pa_cons (pe_ix ix_tup (pv 4) pe_int (fun _ _ => rfl)) (pa_cons (pe_ix ix_tup (pv 4) pe_int (fun _ _ => rfl)) (pa_cons (pe_ix ix_tup (pv 4) pe_int (fun _ _ => rfl)) (pa_cons (pe_ix ix_list (pe_lst (pa_cons pe_non (pa_cons (pe_ix ix_tup (pv 4) pe_int (fun _ _ => rfl)) pa_nil))) (pe_call GT.ok hr1 rfl GT.g GT.k GT.b .nil pass0 (pa_cons (pv 0) (pa_cons pe_int pa_nil))) (fun _ _ => rfl)) (pa_cons (pe_call AM.ok hr2 rfl AM.g AM.k AM.b .nil passL (pa_cons (pv 0) pa_nil)) pa_nil))))))) (pg_sub (pv 3) (pe_un un_neg pe_int) set_list))) pss_nil)) ?c3)) pss_nil)
      (pss_imp (S := sRg1 K H p o l gs) (pss_cons (ps_setLc (i := 5) (own := [("_law_fact_here", 4)]) (g := gName 4) (te := tCall (spPfc K) [] E0 (tCons (tVar 4) tNil)) (by rfl) scRgt.nd rfl rfl (sw_true rfl rfl rfl (by decide +kernel)) (pi_list (pv 3)) (blkOk_by (own := [("_law_fact_here", 4)]) (N := ["_law_box_here", "_law_sheet", "_law_cues_here", "_law_known", "_law_fact_here", "_law_given", "_law_unit", "_law_one", "_law_other", "_law_due_here", "_law_told_here", "_law_k"]) (sc := defScope sRgt) (by decide +kernel)) (fun _ _ _ _ _ => (pg_name (i := 4) scRgt.nd rfl (Or.inl rfl))) (fun _ _ _ _ _ => pts_nil) (fun _ _ _ _ _ => (pe_call PF.ok hr7 rfl PF.g PF.k PF.b .nil passL (pa_cons (pv 4) pa_nil))))
      (pss_cons (ps_for (passes_of rfl) rfl (pi_list (pe_lst (pa_cons pe_str (pa_cons pe_str pa_nil)))) (pg_name (i := 6) scRgt.nd rfl (Or.inl rfl))
      (pss_one (ps_for (passes_of rfl) rfl (pi_range1 rfl mG (pa_cons (pe_callB call_len rfl mL PySem.boot_len (pa_cons (pe_call MO.ok hr5 rfl MO.g MO.k MO.b .nil passL (pa_cons (pv 2) pa_nil)) pa_nil)) pa_nil)) (pg_name (i := 7) scRgt.nd rfl (Or.inl rfl))
      (pss_one (ps_for (passes_of rfl) rfl (pi_range1 rfl mG (pa_cons (pe_callB call_len rfl mL PySem.boot_len (pa_cons (pe_call MO.ok hr5 rfl MO.g MO.k MO.b .nil passL (pa_cons (pv 2) pa_nil)) pa_nil)) pa_nil)) (pg_name (i := 8) scRgt.nd rfl (Or.inl rfl))
      (pss_imp (S := sRg2 K p o l gs) (pss_cons (ps_set (i := 9) scRgt.nd rfl (Or.inl rfl) (pe_call DU.ok hr7 rfl DU.g DU.k DU.b .nil passL (pa_cons (pv 2) (pa_cons (pv 3) (pa_cons (pv 6) (pa_cons (pv 7) (pa_cons (pv 8) pa_nil)))))))
      (pss_cons (ps_set (i := 10) scRgt.nd rfl (Or.inl rfl) (L2.pe_callN BD hr9 rfl gBD kBD kbBD passL (pa_cons (pv 1) (pa_cons (pv 6) (pa_cons (pv 7) (pa_cons (pv 8) pa_nil)))) (pk_cons (pe_ix ix_list (pe_lst (pa_cons (pv 5) (pa_cons (pe_callTy call_tuple_of rfl mTu (by decide +kernel : bootBuiltins "tuple" = some (.type "tuple")) (pa_cons (pv 5) pa_nil)) pa_nil))) (pe_call GT.ok hr1 rfl GT.g GT.k GT.b .nil pass0 (pa_cons (pv 0) (pa_cons pe_int pa_nil))) (fun _ _ => rfl)) pk_nil)))
      (pss_cons (ps_if (pt_cmpR (op_neD hu) (pe_ifExp (pt_cmpR op_isN (pv 10) pe_non (nomark _)) pe_non (pe_tup (pa_cons (pe_tup (pa_cons (pe_prop (pe_ix ix_tup (pv 10) pe_int (fun _ _ => rfl)) T.cl RT.pr RT.ok hr2 RT.bi .nil passL rfl) (pa_cons (pe_prop (pe_ix ix_tup (pv 10) pe_int (fun _ _ => rfl)) T.cl RB.pr RB.ok hr2 RB.bi .nil passL rfl) pa_nil))) (pa_cons (pe_ix ix_tup (pv 10) pe_int (fun _ _ => rfl)) pa_nil)))) (pv 9) (nomark _)) (pss_one (ps_ret pe_bl)) pss_nil)
      (pss_cons (ps_if (PW.pt (pw_and (pt_cmpR op_notN (pv 10) pe_non (nomark _)) (pw_and1 (PW.pt (pw_or (pt_not (pt_val (pe_isi T.isi (pv 10) (pe_ty mTu (by decide +kernel : bootBuiltins "tuple" = some (.type "tuple")))))) (pw_or1 (pt_not (pt_val (pe_isi T.isi (pe_ix ix_tup (pv 10) pe_int (fun _ _ => rfl)) (pe_ty mB (by decide +kernel : bootBuiltins "bool" = some (.type "bool")))))))))))) (pss_one (ps_ret pe_bl)) pss_nil)
      (pss_one (ps_if (pt_cmpR op_notN (pe_call BD hr9 rfl gBD kBD bBD hdBD passL (pa_cons (pv 1) (pa_cons (pv 6) (pa_cons (pv 7) (pa_cons (pv 8) pa_nil))))) pe_non (nomark _)) (pss_one (ps_ret pe_bl)) pss_nil)))))) ?c2))))))
      (pss_one (ps_ret pe_bl)))) ?c1)) ?c0)), ?_⟩
    case c2 =>
      rintro D σ H1 ⟨kn, gn, fs, gf, u, i, j, m, v4, v9, v10, rfl, rs, hm, rf, rg, hu1, hi, hj, kk⟩
      have r2 : 2 ≤ sizeLine := by decide
      have knl : ∀ z ∈ fs, KnL gs z.2 := fun z hz => ⟨nmk_some (rf.ok z hz).2.1, nmk_some (rf.ok z hz).2.2⟩
      obtain ⟨mm, H0, cs, sh, ev⟩ := rs.sh
      have enm : nmN cs = lnN gs := by
        funext z
        unfold nmN nmo lnN lnm
        rw [ev]
      have eR : nR cs = (M04.all (gs.map lcv)).rows.length := by
        unfold nR
        rw [ev]
      have kn2 : ∀ z ∈ gf, Kn cs z.2 := fun z hz => by
        have h1 : z.2 ∈ gf.map fun z => z.2 := List.mem_map.mpr ⟨z, hz, rfl⟩
        rw [rg.ev] at h1
        obtain ⟨y, hy, e⟩ := List.mem_map.mp h1
        have h2 := knl y hy
        rw [e] at h2
        unfold Kn nmo
        rw [ev]
        exact h2
      have ng : gf.length ≤ 20 := by
        have := congrArg List.length rg.ev
        rw [List.length_map, List.length_map] at this
        have := rf.n
        omega
      refine ⟨_, rfl, _, rfl, _, rfl, _, rfl, _, rfl, l, kn, u, i, j, gs, fs, rfl, rs.lc, rs.good, rf.fl, knl, fun H2 w9 s2 dv => ?_⟩
      have rg2 := rg.kp rs.bx (Kp.same s2)
      refine ⟨_, rfl, _, rfl, _, rfl, _, rfl, _, rfl, _, rfl, gn, _, rfl, .inl ⟨SqL.of rg2.l, fun t ht => ⟨r2, fun l1 hl1 => ?_⟩⟩⟩
      have s3 := Same.upd (o := .tup (gf.map fun z => V.ref z.1)) ht
      have e3 : upd H2 t (.tup (gf.map fun z => V.ref z.1)) t = some (.tup (gf.map fun z => V.ref z.1)) := upd_same
      generalize upd H2 t (.tup (gf.map fun z => V.ref z.1)) = H3 at s3 e3 hl1 ⊢
      have b3 := rs.bx.sm (s2.trans s3)
      have s4 := Same.upd (o := .lst [V.ref gn, V.ref t]) hl1
      have e4 : upd H3 l1 (.lst [V.ref gn, V.ref t]) l1 = some (.lst [V.ref gn, V.ref t]) := upd_same
      have nl1 := (b3.ne hl1).symm
      generalize upd H3 l1 (.lst [V.ref gn, V.ref t]) = H4 at s4 e4 ⊢
      have b4 := b3.sm s4
      have s14 := s2.trans (s3.trans s4)
      refine ⟨_, rfl, p, 2, _, rfl, b4, by omega, by decide, by decide, fun z H5 z0 z1 b5 k5 => ?_⟩
      have k5 := Kp.but k5
      obtain ⟨v, evv, mv⟩ := atI_in (xs := [V.ref gn, V.ref t]) z0 z1
      have k15 : Kp p H1 H5 := (Kp.same s14).trans k5
      have kt5 : KT H4 H5 := KT.kp b4 k5
      have sh5 := sh.kp rs.bx k15 b5
      have rg5 := rg.kp rs.bx k15
      have ht5 : H5 t = some (.tup (gf.map fun z => V.ref z.1)) := kt5 _ _ (s4 _ _ e3) (fun l z => by cases z)
      refine ⟨l1, _, z, _, rfl, rfl, SqL.of (k5 l1 _ nl1 e4), evv, rfl, rfl, ?_⟩
      obtain ⟨a, rfl, fsv⟩ : ∃ a, v = .ref a ∧ FsV K 20 H5 a gf := by
        rcases List.mem_cons.mp mv with e | e
        · exact ⟨gn, e, .inl rg5.l, rg5.ok, ng⟩
        · exact ⟨t, List.mem_singleton.mp e, .inr (SqT.of ht5), rg5.ok, ng⟩
      refine ⟨_, _, _, _, _, rfl, .inr ⟨o, mm, H0, cs, rfl, sh5, .inr ⟨u, rfl, hu1, .inr ⟨i, rfl, by rw [eR]; exact hi, .inr ⟨j, rfl, by rw [eR]; exact hj, .inr (.inl ⟨a, gf, 20, rfl, fsv, kn2, by decide, fun H6 v6 s6 bs => ?_⟩)⟩⟩⟩⟩⟩
      have dv6 := (dv.kt ((KT.of (s3.trans s4)).trans kt5)).same s6
      have k16 := k15.trans (Kp.same s6)
      have b6 := b5.sm s6
      have sh6 := sh5.same s6
      rw [rg.ev, enm] at bs
      have last : ∀ (J : Hp) (w10 : V), Same H6 J → ∀ D' : Ends, D'.nx = D.nx → tCall (spBnd K) [.ref T0] E0 (tCons (tVar 1) (tCons (tVar 6) (tCons (tVar 7) (tCons (tVar 8) tNil)))) (SRg p o l kn v4 (some (.ref gn)) (some (.str u)) (some (.int (i : Int))) (some (.int (j : Int))) (some w9) (some w10)) J (fun x H' => x = .non ∧ Same J H') := fun J w10 sJ D' _ => by
        refine ⟨_, rfl, _, rfl, _, rfl, _, rfl, _, _, _, _, _, rfl, .inr ⟨o, mm, H0, cs, rfl, sh6.same sJ, .inr ⟨u, rfl, hu1, .inr ⟨i, rfl, by rw [eR]; exact hi, .inr ⟨j, rfl, by rw [eR]; exact hj, .inr (.inl ⟨T0, [], 20, rfl, ⟨.inr (hT0 _), (fun z hz => by cases hz), Nat.zero_le _⟩, fun z hz => (by cases hz), by decide, fun H7 v7 s7 bs => ?_⟩)⟩⟩⟩⟩⟩
        rcases bs with ⟨rfl, _⟩ | ⟨_, _, _, _, _, _, _, _, e⟩
        · exact ⟨rfl, s7⟩
        · cases e
      generalize M13.best ((fs.map fun z => z.2).flatMap (M13.says (lnN gs))) u i j = b at dv6 bs
      have fin : ∀ (J : Hp) (w10 : V), Same H6 J → D.nx (SRg p o l kn v4 (some (.ref gn)) (some (.str u)) (some (.int (i : Int))) (some (.int (j : Int))) (some w9) (some w10)) J := fun J w10 sJ => kk J _ _ (k16.trans (Kp.same sJ)) (b6.sm sJ)
      rcases bs with ⟨rfl, rfl⟩ | ⟨w, am, t1, u1, g, rfl, hw, ia, rfl⟩
      · obtain rfl : w9 = .non := by
          rcases dv6 with ⟨e, _⟩ | ⟨_, _, _, _, _, _, _, _, e⟩
          · exact e
          · cases e
        refine ⟨_, rfl, rfl, _, rfl, iteT ⟨_, rfl, .none, .none, .non, .non, by decide, by decide, _, rfl, if_false_of (by rfl) ?_⟩⟩
        refine ⟨_, rfl, rfl, _, rfl, if_false_of (by rfl) ?_⟩
        refine ⟨_, rfl, _, rfl, _, rfl, _, rfl, _, _, _, _, _, rfl, .inr ⟨o, mm, H0, cs, rfl, sh6, .inr ⟨u, rfl, hu1, .inr ⟨i, rfl, by rw [eR]; exact hi, .inr ⟨j, rfl, by rw [eR]; exact hj, .inr (.inl ⟨T0, [], 20, rfl, ⟨.inr (hT0 _), (fun z hz => by cases hz), Nat.zero_le _⟩, fun z hz => (by cases hz), by decide, fun H7 v7 s7 bs => ?_⟩)⟩⟩⟩⟩⟩
        rcases bs with ⟨rfl, _⟩ | ⟨_, _, _, _, _, _, _, _, e⟩
        · exact ⟨rfl, _, rfl, if_false_of (by rfl) (fin _ _ s7)⟩
        · cases e
      · obtain ⟨w2, r, t2, u2, f2, rfl, hw2, fr, eb⟩ : ∃ w2 r t2 u2 f2, w9 = .ref w2 ∧ H6 w2 = some (.tup [.ref r, .bl f2]) ∧ Fr 20 H6 r t2 u2 ∧ some (vq t1 u1, g) = some (vq t2 u2, f2) := by
          rcases dv6 with ⟨_, e⟩ | h
          · cases e
          · exact h
        have eb1 : vq t1 u1 = vq t2 u2 := congrArg Prod.fst (Option.some.inj eb)
        have eb2 : g = f2 := congrArg Prod.snd (Option.some.inj eb)
        obtain ⟨pa, da, epa, hpa, rd, b1, b2⟩ := id ia
        cases epa
        refine ⟨_, rfl, rfl, _, rfl, iteF ⟨_, rfl, w, _, 0, _, rfl, rfl, SqT.of hw, rfl, am, da, _, rfl, hpa, am, da, _, _, rfl, hpa, fl_top _ _, ?_⟩⟩
        refine ⟨_, rfl, w, _, 0, _, rfl, rfl, SqT.of hw, rfl, am, da, _, rfl, hpa, am, da, _, _, rfl, hpa, fl_bot _ _, r2, fun q1 h1 => ?_⟩
        have s7 := Same.upd (o := .tup [.int t1, .int u1]) h1
        have e7 : upd H6 q1 (.tup [.int t1, .int u1]) q1 = some (.tup [.int t1, .int u1]) := upd_same
        generalize upd H6 q1 (.tup [.int t1, .int u1]) = H7 at s7 e7 ⊢
        have hw7 := s7 _ _ hw
        refine ⟨_, rfl, w, _, 1, _, rfl, rfl, SqT.of hw7, rfl, r2, fun q2 h2 => ?_⟩
        have s8 := Same.upd (o := .tup [V.ref q1, .bl g]) h2
        have e8 : upd H7 q2 (.tup [V.ref q1, .bl g]) q2 = some (.tup [V.ref q1, .bl g]) := upd_same
        generalize upd H7 q2 (.tup [V.ref q1, .bl g]) = H8 at s8 e8 ⊢
        have s78 := s7.trans s8
        have fr8 := fr.kt (KT.of s78)
        refine ⟨_, rfl, bsd t1 u1 g, bsd t2 u2 f2, .tup (SqT.of e8) (.cons (.tup (SqT.of (s8 _ _ e7)) (.cons (.int _) (.cons (.int _) .nil))) (.cons (.bl _) .nil)), .tup (SqT.of (s78 _ _ hw2)) (.cons (.tup (SqT.of fr8.at_) (.cons (.int _) (.cons (.int _) .nil))) (.cons (.bl _) .nil)), bsd_shaped _ _ _, bsd_shaped _ _ _, _, rfl, ?_⟩
        rw [bsd_eqv rd fr.rd eb1 eb2]
        refine if_false_of (by rfl) ?_
        have hw8 := s78 _ _ hw
        refine ⟨_, rfl, rfl, _, rfl, if_true_of (by rfl) ?_⟩
        refine ⟨_, rfl, .ref w, _, _, _, true, rfl, .ty "tuple", TyX.base (.tup hw8), kit_ty (by decide +kernel), true, rfl, if_false_of (by rfl) ?_⟩
        refine ⟨_, rfl, w, _, 1, _, rfl, rfl, SqT.of hw8, rfl, .bl g, _, _, _, true, rfl, .ty "bool", TyX.base (.bl g), kit_ty (by decide +kernel), true, rfl, if_false_of (by rfl) ?_⟩
        refine ⟨_, rfl, _, rfl, _, rfl, _, rfl, _, _, _, _, _, rfl, .inr ⟨o, mm, H0, cs, rfl, sh6.same s78, .inr ⟨u, rfl, hu1, .inr ⟨i, rfl, by rw [eR]; exact hi, .inr ⟨j, rfl, by rw [eR]; exact hj, .inr (.inl ⟨T0, [], 20, rfl, ⟨.inr (hT0 _), (fun z hz => by cases hz), Nat.zero_le _⟩, fun z hz => (by cases hz), by decide, fun H9 v7 s9 bs => ?_⟩)⟩⟩⟩⟩⟩
        rcases bs with ⟨rfl, _⟩ | ⟨_, _, _, _, _, _, _, _, e⟩
        · exact ⟨rfl, _, rfl, if_false_of (by rfl) (fin _ _ (s78.trans s9))⟩
        · cases e
    case c1 =>
      rintro D σ H1 ⟨kn, fs, m, v4, v5, v6, v7, v8, v9, v10, rfl, k1, rs, hm, rf, kk⟩
      have r2 : 2 ≤ sizeLine := by decide
      refine ⟨_, rfl, kn, rfl, ⟨_, SqL.of rf.l⟩, fun D2 hD2 => ?_⟩
      refine lc_list (K := K) (a := kn) (xs := fs.map fun z => V.ref z.1) (fun i H' => Same H1 H' ∧ ∃ gf : List (Addr × Fc), gf.map (fun z => z.2) = (fs.take i).map (fun z => z.2) ∧ gf.length = i ∧ H' D2 = some (.lst (gf.map fun z => V.ref z.1)) ∧ ∀ z ∈ gf, FcV K 20 H' z.1 z.2) ⟨Same.upd hD2, [], rfl, rfl, upd_same, fun z hz => by cases hz⟩ (fun i H' _ ⟨s, _⟩ => SqL.of (s _ _ rf.l)) ?_ ?_
      · rintro i x H2 hx ⟨s2, gf, e1, e2, e3, ok⟩
        obtain ⟨z, ez, rfl⟩ := map_at hx
        have hz := List.mem_of_getElem? ez
        have hi6 : i < 6 := by
          have h1 := (List.getElem?_eq_some_iff.mp ez).1
          have := rf.n
          omega
        refine ⟨rfl, _, rfl, z.1, z.2, rfl, (rf.ok z hz).1.kt (KT.of s2), fun q' H3 s3 fv => ?_⟩
        have e3' := s3 _ _ e3
        refine ⟨_, e3', by rw [List.length_map, e2]; exact Nat.lt_of_lt_of_le hi6 (by decide), same_put (s2.trans s3) hD2, gf ++ [(q', z.2)], ?_, by rw [List.length_append, e2]; rfl, by rw [upd_same, List.map_append]; rfl, fun y hy => ?_⟩
        · rw [List.map_append, e1, List.take_add_one, ez, List.map_append]
          rfl
        · rcases List.mem_append.mp hy with hy | hy
          · exact ((ok y hy).same s3).kt (KT.put e3')
          · rw [List.mem_singleton.mp hy]
            exact fv.kt (KT.put e3')
      · rintro H2 ⟨s2, gf, e1, e2, e3, ok⟩
        rw [List.length_map, List.take_length] at e1
        have b2 := rs.bx.sm s2
        have rg : RgG K H2 p D2 fs gf := ⟨(rs.bx.ne hD2).symm, e3, ok, e1⟩
        have rs2 := rs.kp (Kp.same s2) b2
        have rf2 := rf.kp rs.bx (Kp.same s2)
        refine ⟨r2, fun lu hlu => ⟨lu, rfl, ⟨_, SqL.of upd_same⟩, ?_⟩⟩
        have s3 := Same.upd (o := .lst [V.str "beats", .str "seconds"]) hlu
        have e3 : upd H2 lu (.lst [V.str "beats", .str "seconds"]) lu = some (.lst [V.str "beats", .str "seconds"]) := upd_same
        have nlu := (b2.ne hlu).symm
        generalize upd H2 lu (.lst [V.str "beats", .str "seconds"]) = H3 at s3 e3 ⊢
        have b3 := b2.sm s3
        have rs3 := rs2.kp (Kp.same s3) b3
        have rf3 := rf2.kp b2 (Kp.same s3)
        have rg3 := rg.kp b2 (Kp.same s3)
        have k3 : Kp p H H3 := k1.trans (Kp.same (s2.trans s3))
        refine for_list (K := K) (a := lu) (xs := [V.str "beats", .str "seconds"]) (fun n σ H' => ∃ v6 v7 v8 v9 v10 : Option V, σ = SRg p o l kn v4 (some (.ref D2)) v6 v7 v8 v9 v10 ∧ Kp p H3 H' ∧ Box H' p (m + n * 100)) ⟨_, _, _, _, _, rfl, Kp.refl _ _, b3⟩ (fun i σ H' _ ⟨_, _, _, _, _, _, kx, _⟩ => SqL.of (kx _ _ nlu e3)) ?_ ?_
        · rintro n x σ H4 hx ⟨v6, v7, v8, v9, v10, rfl, k4, b4⟩
          have hn : n < 2 := (List.getElem?_eq_some_iff.mp hx).1
          obtain ⟨u, rfl, hu1⟩ : ∃ u : Str, x = .str u ∧ isUnit u = true := by
            have m := List.mem_of_getElem? hx
            simp only [List.mem_cons, List.not_mem_nil, or_false] at m
            rcases m with rfl | rfl
            · exact ⟨_, rfl, by decide +kernel⟩
            · exact ⟨_, rfl, by decide +kernel⟩
          have rs4 := rs3.kp k4 b4
          refine ⟨_, rfl, l, gs, 20, rfl, rs4.lc, rs4.good, by decide, by decide, fun pm ms H5 s5 fo fv _ => ?_⟩
          have lnm : ms.length = (M04.all (gs.map lcv)).rows.length := by rw [← fv, List.length_map]
          refine ⟨_, _, rfl, .inl ⟨_, SqL.of fo.l, rfl⟩, ((M04.all (gs.map lcv)).rows.length : Int), by rw [List.length_map, lnm], by have := rs.n8; omega, by have := rs.n8; omega, ?_⟩
          rw [Int.toNat_natCast]
          have b5 := b4.sm s5
          refine for_range (lo := 0) (n := (M04.all (gs.map lcv)).rows.length) (fun i σ H' => ∃ v7 v8 v9 v10 : Option V, σ = SRg p o l kn v4 (some (.ref D2)) (some (.str u)) v7 v8 v9 v10 ∧ Kp p H3 H' ∧ Box H' p (m + n * 100 + i * 10)) ⟨_, _, _, _, rfl, k4.trans (Kp.same s5), b5⟩ ?_ ?_
          · rintro i σ H6 hi ⟨v7, v8, v9, v10, rfl, k6, b6⟩
            rw [Int.zero_add]
            have rs6 := rs3.kp k6 b6
            refine ⟨_, rfl, l, gs, 20, rfl, rs6.lc, rs6.good, by decide, by decide, fun pm2 ms2 H7 s7 fo2 fv2 _ => ?_⟩
            have lnm2 : ms2.length = (M04.all (gs.map lcv)).rows.length := by rw [← fv2, List.length_map]
            refine ⟨_, _, rfl, .inl ⟨_, SqL.of fo2.l, rfl⟩, ((M04.all (gs.map lcv)).rows.length : Int), by rw [List.length_map, lnm2], by have := rs.n8; omega, by have := rs.n8; omega, ?_⟩
            rw [Int.toNat_natCast]
            have b7 := b6.sm s7
            refine for_range (lo := 0) (n := (M04.all (gs.map lcv)).rows.length) (fun j σ H' => ∃ v8 v9 v10 : Option V, σ = SRg p o l kn v4 (some (.ref D2)) (some (.str u)) (some (.int (i : Int))) v8 v9 v10 ∧ Kp p H3 H' ∧ Box H' p (m + n * 100 + i * 10 + j)) ⟨_, _, _, rfl, k6.trans (Kp.same s7), b7⟩ ?_ ?_
            · rintro j σ H8 hj ⟨v8, v9, v10, rfl, k8, b8⟩
              rw [Int.zero_add]
              have := rs.n8
              exact ⟨kn, D2, fs, gf, u, i, j, _, v4, v9, v10, rfl, rs3.kp k8 b8, by omega, rf3.kp b3 k8, rg3.kp b3 k8, hu1, hi, hj, fun J v9 v10 kJ bJ => ⟨_, v9, v10, rfl, k8.trans kJ, bJ⟩⟩
            · rintro σ H8 ⟨v8, v9, v10, rfl, k8, b8⟩
              have := rs.n8
              exact ⟨_, v8, v9, v10, rfl, k8, b8.mono (by omega)⟩
          · rintro σ H6 ⟨v7, v8, v9, v10, rfl, k6, b6⟩
            have := rs.n8
            exact ⟨_, v7, v8, v9, v10, rfl, k6, b6.mono (by omega)⟩
        · rintro σ H4 ⟨v6, v7, v8, v9, v10, rfl, k4, b4⟩
          exact kk _ (k3.trans k4) (b4.mono (by show m + 2 * 100 ≤ m + 300; omega))
    case c0 =>
      rintro D σ H1 ⟨kn, fs, m, v4, v5, v6, v7, v8, v9, v10, rfl, k1, rs, hm, hk0, rf, kk⟩
      have r2 : 2 ≤ sizeLine := by decide
      refine ⟨_, rfl, _, _, rfl, .inl ⟨_, SqL.of rf.l, rfl⟩, _, _, rfl, rfl, _, rfl, ?_⟩
      by_cases c : (fs.map fun z => V.ref z.1).length > 1
      · have c2 : 1 < fs.length := by rwa [List.length_map] at c
        refine if_true_of (decide_eq_true (by omega)) ?_
        obtain ⟨z0, y1, rest, rfl⟩ : ∃ z0 y1 rest, fs = z0 :: y1 :: rest := by
          match fs, c2 with
          | z0 :: y1 :: rest, _ => exact ⟨z0, y1, rest, rfl⟩
        have at0 : atI ((z0 :: y1 :: rest).map fun z => V.ref z.1) 0 = some (.ref z0.1) := atI_nat (j := 0) rfl
        have at1 : atI ((z0 :: y1 :: rest).map fun z => V.ref z.1) 1 = some (.ref y1.1) := atI_nat (j := 1) rfl
        have fin : ∀ z : Addr × Fc, z ∈ z0 :: y1 :: rest → sRg3 K H p o l gs { D with nx := sRg1 K H p o l gs D } (SRg p o l kn (some (.ref z.1)) v5 v6 v7 v8 v9 v10) H1 := fun z hz =>
          ⟨kn, z.1, z.2, _, m, v5, v6, v7, v8, v9, v10, rfl, k1, rs, by omega, hk0, rf, c2, hz, fun H'' fs' m' hm' kx rx fx => ⟨kn, fs', m', _, v5, v6, v7, v8, v9, v10, rfl, kx, rx, by omega, fx, fun J kJ bJ => kk J kJ (bJ.mono (by omega))⟩⟩
        have h0 := (rf.ok z0 List.mem_cons_self).1
        cases e : z0.2 with
        | ord a w b =>
          rw [e] at h0
          refine ⟨_, rfl, kn, _, 0, _, rfl, rfl, SqL.of rf.l, at0, z0.1, _, 0, _, rfl, rfl, SqT.of h0.1, rfl, rfl, _, rfl, if_false_of (by rfl) ?_⟩
          exact ⟨_, rfl, kn, _, 1, _, rfl, rfl, SqL.of rf.l, at1, fin y1 (List.mem_cons_of_mem _ List.mem_cons_self)⟩
        | apt un a b x =>
          rw [e] at h0
          obtain ⟨_, r, t, u, hq, _⟩ := h0
          refine ⟨_, rfl, kn, _, 0, _, rfl, rfl, SqL.of rf.l, at0, z0.1, _, 0, _, rfl, rfl, SqT.of hq, rfl, rfl, _, rfl, if_true_of (by rfl) ?_⟩
          exact ⟨_, rfl, kn, _, 0, _, rfl, rfl, SqL.of rf.l, at0, fin z0 List.mem_cons_self⟩
        | btw un a b lo hi =>
          rw [e] at h0
          obtain ⟨_, v, w, hq, _⟩ := h0
          refine ⟨_, rfl, kn, _, 0, _, rfl, rfl, SqL.of rf.l, at0, z0.1, _, 0, _, rfl, rfl, SqT.of hq, rfl, rfl, _, rfl, if_true_of (by rfl) ?_⟩
          exact ⟨_, rfl, kn, _, 0, _, rfl, rfl, SqL.of rf.l, at0, fin z0 List.mem_cons_self⟩
      · refine if_false_of (decide_eq_false (by omega)) ?_
        exact ⟨kn, fs, m, v4, v5, v6, v7, v8, v9, v10, rfl, k1, rs, by omega, rf, fun J kJ bJ => kk J kJ (bJ.mono (by omega))⟩
    case c3 =>
      rintro D σ H1 ⟨kn, q, f, fs, m, v5, v6, v7, v8, v9, v10, rfl, k1, rs1, hm1, hk0, rf, c2, hmem, kk⟩
      have r2 : 2 ≤ sizeLine := by decide
      have skip : D.nx (SRg p o l kn (some (.ref q)) v5 v6 v7 v8 v9 v10) H1 := kk H1 fs m (by omega) k1 rs1 rf
      have hf := rf.ok _ hmem
      have ca : (∃ a w b, H1 q = some (.tup [.str "order", .str a, .str w, .str b])) ∨ ∃ (h0 un a b : Str) (v : V) (rest : List V) (lo : Option Rat), h0 ≠ "order" ∧ H1 q = some (.tup (.str h0 :: .str un :: .str a :: .str b :: v :: rest)) ∧ LimL 20 H1 v lo ∧ isUnit un = true ∧ NmK gs a ∧ NmK gs b := by
        cases f with
        | ord a w b => exact .inl ⟨a, w, b, hf.1.1⟩
        | apt un a b x =>
          obtain ⟨⟨hu, r, t, u, h1, h2, h3⟩, n1, n2⟩ := hf
          exact .inr ⟨"apart", un, a, b, .ref r, [], some (vq t u), by decide +kernel, h1, .inr ⟨r, t, u, rfl, h2, rfl⟩, hu, n1, n2⟩
        | btw un a b lo hi =>
          obtain ⟨⟨hu, v, w, h1, h2, h3⟩, n1, n2⟩ := hf
          exact .inr ⟨"between", un, a, b, v, [w], lo, by decide +kernel, h1, h2, hu, n1, n2⟩
      rcases ca with ⟨a, w, b, hq⟩ | ⟨h0, un, a, b, v, rest, lo, nh, hq, lv, hun, na, nb⟩
      · exact ⟨_, rfl, q, _, 0, _, rfl, rfl, SqT.of hq, rfl, rfl, _, rfl, if_false_of (by rfl) skip⟩
      · have nh2 : (!decide (V.str h0 = V.str "order")) = true := by
          rw [decide_eq_false fun e => nh (V.str.inj e)]
          rfl
        refine ⟨_, rfl, q, _, 0, _, rfl, rfl, SqT.of hq, atI_nat (j := 0) rfl, rfl, _, rfl, if_true_of nh2 ?_⟩
        refine ⟨_, rfl, q, _, 1, _, rfl, rfl, SqT.of hq, atI_nat (j := 1) rfl, _, rfl, q, _, 3, _, rfl, rfl, SqT.of hq, atI_nat (j := 3) rfl, _, rfl, q, _, 2, _, rfl, rfl, SqT.of hq, atI_nat (j := 2) rfl, _, rfl, q, _, 4, _, rfl, rfl, SqT.of hq, atI_nat (j := 4) rfl, r2, fun l1 hl1 => ?_⟩
        have s2 := Same.upd (o := .lst [V.non, v]) hl1
        have e2 : upd H1 l1 (.lst [V.non, v]) l1 = some (.lst [V.non, v]) := upd_same
        have nl1 := (rs1.bx.ne hl1).symm
        generalize upd H1 l1 (.lst [V.non, v]) = H2 at s2 e2 ⊢
        have b2 := rs1.bx.sm s2
        refine ⟨_, rfl, p, 2, _, rfl, b2, by omega, by decide, by decide, fun z H3 z0 z1 b3 k3 => ?_⟩
        have k3 := Kp.but k3
        obtain ⟨v', ev', mv⟩ := atI_in (xs := [V.non, v]) z0 z1
        refine ⟨l1, _, z, _, rfl, rfl, SqL.of (k3 l1 _ nl1 e2), ev', ?_⟩
        have k13 : Kp p H1 H3 := (Kp.same s2).trans k3
        have lv3 := lv.kt (KT.kp rs1.bx k13)
        obtain ⟨lo', lv'⟩ : ∃ lo', LimL 20 H3 v' lo' := by
          rcases List.mem_cons.mp mv with e | e
          · exact ⟨none, .inl ⟨e, rfl⟩⟩
          · rw [List.mem_singleton.mp e]
            exact ⟨lo, lv3⟩
        refine ⟨_, rfl, p, _, rfl, b3, by omega, fun r t u H4 k4 b4 fr => ⟨by show 6 ≤ sizeLine; decide, fun q2 hq2 => ?_⟩⟩
        have s5 := Same.upd (o := .tup [.str "between", .str un, .str b, .str a, v', .ref r]) hq2
        have e5 : upd H4 q2 (.tup [.str "between", .str un, .str b, .str a, v', .ref r]) q2 = some (.tup [.str "between", .str un, .str b, .str a, v', .ref r]) := upd_same
        generalize upd H4 q2 (.tup [.str "between", .str un, .str b, .str a, v', .ref r]) = H5 at s5 e5 ⊢
        have b5 := b4.sm s5
        have k15 : Kp p H1 H5 := k13.trans (k4.trans (Kp.same s5))
        have rf5 := rf.kp rs1.bx k15
        have fc5 : FcL 20 H5 q2 (.btw un b a lo' (some (vq t u))) := ⟨hun, v', .ref r, e5, (lv'.kt (KT.kp b3 k4)).kt (KT.of s5), .inr ⟨r, t, u, rfl, fr.kt (KT.of s5), rfl⟩⟩
        have ixl : ixN (fs.map fun z => V.ref z.1).length (-1) = some (fs.length - 1) := by
          rw [List.length_map]
          unfold ixN
          rw [if_neg (by decide), if_pos (by omega)]
          congr 1
          omega
        refine ⟨_, rfl, _, rfl, kn, _, -1, fs.length - 1, rfl, rfl, rf5.l, ixl, ?_⟩
        have kt5 : KT H5 (upd H5 kn (.lst ((fs.map fun z => V.ref z.1).set (fs.length - 1) (.ref q2)))) := KT.put rf5.l
        have kH : Kp p H (upd H5 kn (.lst ((fs.map fun z => V.ref z.1).set (fs.length - 1) (.ref q2)))) := Kp.put (k1.trans k15) hk0
        have bx5 : Box (upd H5 kn (.lst ((fs.map fun z => V.ref z.1).set (fs.length - 1) (.ref q2)))) p (m + 1 + 7) := b5.put rf.ne
        refine kk _ (fs.set (fs.length - 1) (q2, .btw un b a lo' (some (vq t u)))) (m + 1 + 7) (by omega) kH (rsH.kp kH bx5) ⟨rf.ne, by rw [upd_same, List.map_set], fun z hz => ?_, by rw [List.length_set]; exact rf.n⟩
        rcases List.mem_or_eq_of_mem_set hz with hz | rfl
        · exact ⟨(rf5.ok z hz).1.kt kt5, (rf5.ok z hz).2⟩
        · exact ⟨fc5.kt kt5, nb, na⟩
    refine ⟨_, rfl, p, 7, _, rfl, rsH.bx, by omega, by decide, by decide, fun z H1 z0 z1 b1 k1 => ?_⟩
    have k1 := Kp.but k1
    refine ⟨z, rfl, by omega, by omega, fun D2 hD2 => ?_⟩
    have nD2 := (b1.ne hD2).symm
    refine lc_range (lo := 0) (n := z.toNat) (fun i H' => Kp p H H' ∧ Box H' p (m + 1 + i * 40) ∧ ∃ fs : List (Addr × Fc), fs.length = i ∧ H' D2 = some (.lst (fs.map fun z => V.ref z.1)) ∧ ∀ z ∈ fs, FcL 20 H' z.1 z.2 ∧ NmK gs z.2.names.1 ∧ NmK gs z.2.names.2) ⟨k1.trans (Kp.same (Same.upd hD2)), b1.upd hD2, [], rfl, upd_same, fun z hz => by cases hz⟩ ?_ ?_
    · rintro i H2 hi ⟨k2, b2, fs, e1, e2, ok⟩
      have rs2 := rsH.kp k2 b2
      refine ⟨rfl, _, rfl, _, rfl, p, l, _, gs, rfl, b2, by omega, rs2.lc, rs2.lp, fun H3 q f k3 b3 fl n1 n2 hq => ?_⟩
      have e3 := k3 _ _ nD2 e2
      have hn0 : H D2 = none := k1.no nD2 hD2
      refine ⟨_, e3, by rw [List.length_map, e1]; exact Nat.lt_of_lt_of_le (show i < 7 by omega) (by decide), Kp.put (k2.trans k3) hn0, (b3.put nD2).mono (by omega), fs ++ [(q, f)], by rw [List.length_append, e1]; rfl, by rw [upd_same, List.map_append]; rfl, fun y hy => ?_⟩
      rcases List.mem_append.mp hy with hy | hy
      · exact ⟨((ok y hy).1.kt (KT.kp b2 k3)).kt (KT.put e3), (ok y hy).2⟩
      · rw [List.mem_singleton.mp hy]
        exact ⟨fl.kt (KT.put e3), n1, n2⟩
    · rintro H2 ⟨k2, b2, fs, e1, e2, ok⟩
      have hz6 : z.toNat ≤ 6 := by omega
      exact ⟨D2, fs, _, none, none, none, none, none, none, none, rfl, k2, rsH.kp k2 b2, by omega, k1.no nD2 hD2, ⟨nD2, e2, ok, by omega⟩, fun J kJ bJ => k J kJ (bJ.mono (by omega))⟩
end
end T13
set_option Elab.async false
set_option linter.all false
set_option maxRecDepth 100000
set_option maxHeartbeats 1000000
set_option exponentiation.threshold 100000
namespace T13
open PySem PySem.Spec PyProof.Rows L2 Fa Fb K13
open M13 (Fc Bst)
abbrev sLaw : Stmt := top 77
theorem scLaw : FnScope ["_law_script", "_law_k", "_law_box_here", "_law_cues_here", "_law_sheet", "_law_turn"] ["_law_script"] (defScope sLaw) := ⟨rfl, rfl, rfl, by decide +kernel, rfl, by decide +kernel, by decide +kernel⟩
abbrev aS (K : PySem.W.Frag) : Addr := He.ma K (CS K) "__init__"
def GoodS (cs : List M04.Cue) : Prop := M04.Good cs ∧ ∀ c ∈ cs, isName c.nm = true ∧ isUnit c.un = true
theorem _root_.K13.GoodL.s {cs : List M04.Cue} (h : GoodL cs) : GoodS cs := ⟨h.1, fun c hc => ⟨(h.2 c hc).1, (h.2 c hc).2.2⟩⟩
theorem _root_.K13.Inn.base {K : PySem.W.Frag} {mm : Nat} {H1 H0 H : Hp} {c r d : Addr} {gs : List Cu} {rs : List (Addr × List K13.It)} (h : Inn K mm H1 H c r d gs rs) (b : ∀ q, H1 q = none → H0 q = none) : Inn K mm H0 H c r d gs rs :=
  ⟨h.cl, h.cok, h.rl, fun z hz => let ⟨x, y, z', w⟩ := h.rok z hz; ⟨x, y, b _ z', w⟩, h.rv, h.dk, h.n, h.mm, b _ h.c0, b _ h.r0, b _ h.d0, h.cr, fun q z => b _ (h.old q z)⟩
theorem _root_.K13.ShAt.base {K : PySem.W.Frag} {mm : Nat} {H1 H0 H : Hp} {o : Addr} {gs : List Cu} (h : ShAt K mm H1 H o gs) (b : ∀ q, H1 q = none → H0 q = none) : ShAt K mm H0 H o gs := let ⟨dx, c, r, d, rs, x, y⟩ := h; ⟨dx, c, r, d, rs, x, y.base b⟩
theorem make_sheet {K : PySem.W.Frag} {mm : Nat} {cs : List M04.Cue} {H : Hp} {a : Addr} {xs : List V} {Q : VK} {E : XK} (ha : H a = some (.lst xs) ∨ H a = some (.tup xs)) (hl : xs.length = cs.length) (hi : ∀ (i : Nat) c, cs[i]? = some c → ∃ it, xs[i]? = some (V.ref it) ∧ CueArg K mm H it c) (g : GoodS cs) (n : cs.length ≤ 20) (r8 : (M04.all cs).rows.length ≤ 8) (m1 : 1 ≤ mm) (m2 : mm ≤ 200)
    {x dx : Addr} (hx : H x = none) (hdx : H dx = none) (hne : dx ≠ x) (k : ∀ H' gs, Same H H' → ShAt K mm H H' x gs → gs.map cv = cs → Q .non H') : spSI K [.ref x, .ref a] (upd (upd H dx (.own x)) x (.ins (CS K) dx [])) Q E := by
  have s : Same H (upd (upd H dx (.own x)) x (.ins (CS K) dx [])) := fun q ob hq => by
    rw [upd_ne (ne_of_none hq hx), upd_ne (ne_of_none hq hdx)]
    exact hq
  refine ⟨x, dx, a, xs, cs, mm, rfl, upd_same, ha.imp (s _ _) (s _ _), hl, fun i c e => ?_, fun i c e => ?_, n, r8, m1, m2, fun H' gs bt sh ev => k H' gs (fun q ob hq => bt _ _ (ne_of_none hq hx) (s _ _ hq)) (sh.base fun q hq => none_of s hq) ev⟩
  · obtain ⟨it, e1, e2⟩ := hi i c e
    exact ⟨it, e1, e2.same s⟩
  · obtain ⟨a1, a2⟩ := g.1 i c e
    obtain ⟨b1, b2⟩ := g.2 c (List.mem_of_getElem? e)
    exact ⟨b1, a1, a2, b2⟩
theorem ps_items {K : PySem.W.Frag} {H : Hp} {r : Addr} {xs : List Addr} {cs : List Lc} (h : PsL K H r xs cs) : (xs.map V.ref).length = (cs.map lcv).length ∧ ∀ (i : Nat) c, (cs.map lcv)[i]? = some c → ∃ it, (xs.map V.ref)[i]? = some (V.ref it) ∧ CueArg K 21 H it c := by
  refine ⟨by rw [List.length_map, List.length_map, h.len], fun i c e => ?_⟩
  obtain ⟨g, eg, rfl⟩ := map_at e
  have hi : i < xs.length := by
    rw [h.len]
    exact (List.getElem?_eq_some_iff.mp eg).1
  have ei : xs[i]? = some xs[i] := List.getElem?_eq_getElem hi
  obtain ⟨x, h1, h2⟩ := h.ok i _ g ei eg
  exact ⟨xs[i], by rw [List.getElem?_map, ei]; rfl, x, g.t, g.u, .inr h1, h2, rfl⟩
structure FnS2 (P : Program) (w : World) (K : PySem.W.Frag) (mg : Str → Option Value) (base : Heap) (x : Str) (lev : Nat) (ps : List Str) (sp : Sp) (f : Addr) (fd : FuncData) : Prop where
  ok : Fg.FnG P w K mg base (L2.CX P w) lev f fd ps sp
  g : mg x = some (.ref f)
  k : PySem.W.keepIn K (.ref f) = true
  b : Binds K fd ps []
def spLaw (K : PySem.W.Frag) : Sp := fun vs H Q _ => ∃ (a : Addr) (ns : List Int), vs = [.ref a] ∧ SqL K H a (ns.map V.int) ∧ ns.length ≤ 63 ∧ ∀ H', Q (.bl true) H'
theorem zz_none {gs : List Cu} {cs : List M04.Cue} (ev : gs.map cv = cs) (g : GoodL cs) : nmo gs "zz9zz" = none := by
  unfold nmo
  rw [ev]
  refine M04.num_none.mpr fun h => ?_
  rw [M04.names_all] at h
  rcases List.mem_cons.mp h with h | h
  · exact absurd h (by decide +kernel)
  · obtain ⟨c, hc, e⟩ := List.mem_map.mp h
    exact (g.2 c hc).2.1 e
section
variable {P : Program} {w : World} {K : PySem.W.Frag} {mg : Str → Option Value} {base : Heap} {f f1 f2 f4 f5 f6 f7 fI : Addr} {fd fd1 fd2 fd4 fd5 fd6 fd7 fdI : FuncData}
theorem ok_law (F : FnP K "law" sLaw f fd) (T : AF K mg) (M : MF K mg) (MKS : Mk K (CS K) (aS K)) (mL : mg "len" = none) (mG : mg "range" = none) (mMax : mg "max" = none) (mMin : mg "min" = none)
    (BC : Fn0 P w K mg base "_law_cell" 1 ["_law_script", "_law_k"] (spCel K) f1 fd1) (BB : Fn0 P w K mg base "_law_box" 1 ["_law_cell_here"] spBox f2 fd2) (LCU : Fn P w K mg base "_law_cues" 6 ["_law_box_here", "_law_limit", "_law_most_cues"] spLcu f4 fd4) (PA : Fn P w K mg base "_law_passed" 6 ["_law_box_here", "_law_cues_here"] (spPas K) f5 fd5)
    (RI : Fn P w K mg base "_law_right" 10 ["_law_box_here", "_law_sheet", "_law_cues_here"] (spRgt K) f6 fd6) (RF : FnS2 P w K mg base "_law_refused" 11 ["_law_sheet"] (spRef K) f7 fd7)
    (SI : FnOk P w K mg base (L2.CX P w) 10 (aS K) fdI ["self", "cues"] (spSI K)) (SIb : Binds K fdI ["self", "cues"] []) : Fg.FnG P w K mg base (L2.CX P w) 13 f fd ["_law_script"] (spLaw K) := by
  refine Fg.okG F scLaw (fun vs H Q E h => ?_) (fun cdv A outer s H vs Q E G hr h => ?_)
  · obtain ⟨a, ns, rfl, _⟩ := h
    rfl
  · obtain ⟨a, ns, rfl, ha, hn, q⟩ := h
    have hr1 := hr.mono (show 1 ≤ 12 by decide)
    have hr6 := hr.mono (show 6 ≤ 12 by decide)
    have hr10 := hr.mono (show 10 ≤ 12 by decide)
    have hr11 := hr.mono (show 11 ≤ 12 by decide)
    refine ⟨_, (pss_cons (ps_for (passes_of rfl) rfl (pi_range1 rfl mG (pa_cons (pe_callB (call_max2 rfl) rfl mMax (by decide +kernel) (pa_cons pe_int (pa_cons (pe_callB (call_min2 rfl) rfl mMin (by decide +kernel) (pa_cons pe_int (pa_cons (pe_callB call_len rfl mL PySem.boot_len (pa_cons (pv 0) pa_nil)) pa_nil))) pa_nil))) pa_nil)) (pg_name (i := 1) scLaw.nd rfl (Or.inl rfl))
      (pss_cons (ps_set (i := 2) scLaw.nd rfl (Or.inl rfl) (pe_call BB.ok hr1 rfl BB.g BB.k BB.b .nil pass0 (pa_cons (pe_call BC.ok hr1 rfl BC.g BC.k BC.b .nil pass0 (pa_cons (pv 0) (pa_cons (pv 1) pa_nil))) pa_nil)))
      (pss_cons (ps_set (i := 3) scLaw.nd rfl (Or.inl rfl) (pe_call LCU.ok hr6 rfl LCU.g LCU.k LCU.b .nil passL (pa_cons (pv 2) (pa_cons pe_int (pa_cons pe_int pa_nil)))))
      (pss_cons (ps_set (i := 4) scLaw.nd rfl (Or.inl rfl) (pe_make MKS SI hr11 rfl M.g SIb .nil passL (pa_cons (pe_call PA.ok hr6 rfl PA.g PA.k PA.b .nil passL (pa_cons (pv 2) (pa_cons (pv 3) pa_nil))) pa_nil)))
      (pss_one (ps_for (passes_of rfl) rfl (pi_range1 rfl mG (pa_cons pe_int pa_nil)) (pg_name (i := 5) scLaw.nd rfl (Or.inl rfl))
      (pss_one (ps_if (PW.pt (pw_or (pt_not (pt_val (pe_call RI.ok hr10 rfl RI.g RI.k RI.b .nil passL (pa_cons (pv 2) (pa_cons (pv 4) (pa_cons (pv 3) pa_nil)))))) (pw_or1 (pt_not (pt_val (Fg.pe_callG G RF.ok hr11 rfl RF.g RF.k RF.b passS (pa_cons (pv 4) pa_nil))))))) (pss_one (ps_ret pe_bl)) pss_nil))))))))
      (pss_one (ps_ret pe_bl))), ?_⟩
    refine ⟨_, rfl, _, (ns.map V.int).length, rfl, .inl ⟨_, ha, rfl⟩, _, _, rfl, _, _, rfl, _, rfl, ?_, ?_, ?_⟩
    · split <;> (try split) <;> omega
    · split <;> (try split) <;> omega
    refine for_range (lo := 0) (n := Int.toNat (if (if ((ns.map V.int).length : Int) < 6 then ((ns.map V.int).length : Int) else 6) > 2 then (if ((ns.map V.int).length : Int) < 6 then ((ns.map V.int).length : Int) else 6) else 2)) (fun i σ H' => Same H H' ∧ ∃ v1 v2 v3 v4 v5 : Option V, σ = [some (.ref a), v1, v2, v3, v4, v5]) ⟨Same.refl _, _, _, _, _, _, rfl⟩ ?_ ?_
    · rintro j σ H1 hj0 ⟨s1, v1, v2, v3, v4, v5, rfl⟩
      have hj : j < 6 := by
        revert hj0
        split <;> (try split) <;> omega
      rw [Int.zero_add]
      refine ⟨_, rfl, _, rfl, a, ns, j, rfl, ha.ext s1, by omega, fun c => ⟨c, rfl, fun p H2 hp1 hk2 hb2 => ?_⟩⟩
      refine ⟨_, rfl, p, 0, rfl, hb2, by decide, fun l gs H3 k3 b3 ls3 n6 gd r8 l0 => ?_⟩
      have lp : l ≠ p := (hb2.ne l0).symm
      refine ⟨_, rfl, _, rfl, p, l, _, gs, rfl, b3, ls3, lp, by decide, fun r0 xs0 H4 k4 b4 ps r00 => ?_⟩
      have ls4 := ls3.kp b3 k4 lp
      have sall : ∀ J, Kp p H2 J → Same H J := fun J kJ q o hq => by
        have h1 := s1 _ _ hq
        have qp : q ≠ p := fun e => by
          rw [e, hp1] at h1
          cases h1
        exact kJ _ _ qp ((hk2 q qp).trans h1)
      obtain ⟨il, ii⟩ := ps_items ps
      refine fun x dx hx hdx hne => make_sheet (mm := 21) (cs := gs.map lcv) (.inl ps.l) il ii gd.s (by rw [List.length_map]; omega) r8 (by decide) (by decide) hx hdx hne fun H5 hs s5 sh5 ev5 => ⟨rfl, ?_⟩
      have b5 := b4.sm s5
      have rs5 : RgS K H5 p x l gs (0 + 200 + 14) := ⟨b5, ls4.same s5, lp, gd.1, ⟨21, _, hs, sh5, ev5⟩, r8⟩
      have k25 : Kp p H2 H5 := k3.trans (k4.trans (Kp.same s5))
      refine ⟨2, rfl, by decide, by decide, ?_⟩
      refine for_range (lo := 0) (n := 2) (fun i σ H' => ∃ v5 : Option V, σ = [some (.ref a), some (.int (j : Int)), some (.ref p), some (.ref l), some (.ref x), v5] ∧ Kp p H5 H' ∧ Box H' p (0 + 200 + 14 + i * 700)) ⟨_, rfl, Kp.refl _ _, b5⟩ ?_ ?_
      · rintro i σ H6 hi ⟨v5, rfl, k6, b6⟩
        rw [Int.zero_add]
        have rs6 := rs5.kp k6 b6
        refine ⟨_, rfl, _, rfl, _, rfl, p, x, l, gs, _, rfl, rs6, by omega, fun H7 k7 b7 => ⟨_, rfl, if_false_of (by rfl) ?_⟩⟩
        have k67 := k6.trans k7
        have sh7 := sh5.kp b5 k67 b7
        refine ⟨_, rfl, x, 21, _, hs, rfl, sh7, by unfold nR; rw [ev5]; exact r8, zz_none ev5 gd, fun H8 s8 => ⟨_, rfl, if_false_of (by rfl) ?_⟩⟩
        exact ⟨_, rfl, k67.trans (Kp.same s8), (b7.sm s8).mono (by omega)⟩
      · rintro σ H6 ⟨v5, rfl, k6, b6⟩
        exact ⟨sall _ (k25.trans k6), _, _, _, _, _, rfl⟩
    · rintro σ H1 ⟨s1, _⟩
      exact q _
end
end T13
set_option Elab.async false
set_option linter.all false
set_option maxRecDepth 100000
set_option maxHeartbeats 0
set_option exponentiation.threshold 100000
namespace T13
open PySem PySem.Spec PyProof.Rows L2 Fa Fb K13
theorem strsB_ok : ∀ (us : List Value) (zs : List Str), strsB us zs = true → Vals (zs.map V.str) us
  | [], [], _ => .nil
  | .str x t :: l, z :: r, h => by
    obtain ⟨a, b⟩ := He.ba h
    have e := of_decide_eq_true a
    subst e
    exact .cons ⟨t, rfl⟩ (strsB_ok l r b)
theorem tupB_of {K : PySem.W.Frag} {a : Addr} {zs : List Str} (h : tupB K a zs = true) (H : Hp) : SqT K H a (zs.map V.str) := by
  unfold tupB at h
  split at h
  · rename_i t d its n sl e
    obtain ⟨h1, h⟩ := He.ba h
    obtain ⟨h2, h3⟩ := He.ba h
    have e1 := of_decide_eq_true h1
    subst e1
    exact .inr ⟨_, its, n, e, rfl, rfl, of_decide_eq_true h2, strsB_ok _ _ h3⟩
  · cases h
theorem prB_of {K : PySem.W.Frag} {f : Str} (h : prB K f = true) : PropOf K (CA K) f (pa K f) (ga2 K f) := by
  obtain ⟨h1, h⟩ := He.ba h
  obtain ⟨h2, h⟩ := He.ba h
  obtain ⟨h3, h4⟩ := He.ba h
  refine ⟨He.eqO_ok h1, He.eqO_ok h2, of_decide_eq_true h3, ?_⟩
  have h5 : (match PySem.W.recIn K (pa K f) "property" with
  | some (.ref g :: _) => decide (g = ga2 K f)
  | _ => false) = true := h4
  split at h5
  · rename_i g r e
    exact ⟨r, by rw [e, of_decide_eq_true h5]⟩
  · cases h5
theorem sysB_of {K : PySem.W.Frag} (h : sysB K = true) : Fg.SysD K := by
  unfold sysB at h
  split at h
  · rename_i c dd es ep sl e
    exact ⟨c, dd, es, ep, sl, e⟩
  · cases h
theorem meB_of {K : PySem.W.Frag} {m : Str} (h : meB K m = true) : Meth K (CA K) m (He.ma K (CA K) m) := by
  obtain ⟨h1, h⟩ := He.ba h
  obtain ⟨h2, h3⟩ := He.ba h
  exact ⟨He.eqO_ok h1, h2, h3⟩
theorem nm_label : Xb.Nm "label" := ⟨rfl, rfl, rfl, rfl, by decide, by decide, by decide, fun _ _ _ _ _ _ _ _ _ _ _ _ _ => rfl⟩
theorem smB_of {K : PySem.W.Frag} {m : Str} (h : smB K m = true) : Meth K (CS K) m (He.ma K (CS K) m) := by
  obtain ⟨h1, h⟩ := He.ba h
  obtain ⟨h2, h3⟩ := He.ba h
  exact ⟨He.eqO_ok h1, h2, h3⟩
theorem opF_of {K : PySem.W.Frag} {nm : String} {m : Str} (h : opB K nm m = true) (sf : PySem.W.selfFirst K (CA K) = true) (sub : ∀ T ∈ tys, PySem.W.subIn K (.type T) (.ref (CA K)) = some false) : OpF K nm (He.ma K (CA K) m) := by
  obtain ⟨h1, h⟩ := He.ba h
  obtain ⟨h2, h⟩ := He.ba h
  obtain ⟨h3, h4⟩ := He.ba h
  refine ⟨⟨sf, He.eqO_ok h1, h2, He.eqO_ok h3⟩, fun T hT => ?_⟩
  obtain ⟨a, b⟩ := He.ba (List.all_eq_true.mp h4 T hT)
  obtain ⟨fo, hfo⟩ := Option.isSome_iff_exists.mp a
  obtain ⟨ro, hro⟩ := Option.isSome_iff_exists.mp b
  exact ⟨fo, ro, hfo, hro, sub T hT⟩
end T13
set_option Elab.async false
set_option linter.all false
set_option maxRecDepth 100000
set_option maxHeartbeats 4000000
set_option exponentiation.threshold 100000
namespace T13
open PySem PySem.Spec PyProof.Rows L2 Fa Fb K13
abbrev PP : Program := PySem.Challenge.pw_anytempo_k13_bounds_of_facts
theorem facts {w : World} {K : PySem.W.Frag} {h : Heap} {mg : Str → Option Value} {f : Addr} (X : K.In h) (G : h.Ns mainGlobals mg) (hfa : mg ("law" : Str) = some (.ref f)) (c : Hd.obsK ds chk K = Hd.valK ds) :
    ∃ fd : FuncData, (∀ (s : Shared) (v : Value), BindsTo s fd ⟨[v], []⟩ [("_law_script", v)]) ∧ ∀ base : Heap, K.In base → base.Ns mainGlobals mg → Fg.FnG PP w K mg base (L2.CX PP w) 13 f fd ["_law_script"] (spLaw K) := by
  have ck : Hd.allB _ = true := Hd.says_chk c
  have cg := Hd.allB_at ck 0
  have cf := Hd.allB_at ck 1
  have cc : Hd.allB _ = true := (Hd.allB_at ck 2)
  have cm : Hd.allB _ = true := (Hd.allB_at ck 3)
  have glo : ∀ x ∈ glos, mg x = some (.ref (He.ga K x)) := fun x hx => PySem.W.mg_of X G (He.eqO_ok (List.all_eq_true.mp cg x hx))
  have fre : ∀ x ∈ frees, mg x = none := fun x hx => PySem.W.mg_none_of X G (He.eqO_ok (List.all_eq_true.mp cf x hx))
  have G_Amount := glo "Amount" (by simp [glos, glos0, glos1, glos2])
  have G_Sheet := glo "Sheet" (by simp [glos, glos0, glos1, glos2])
  have G_InvalidInteger := glo "InvalidInteger" (by simp [glos, glos0, glos1, glos2])
  have G_InvalidAmount := glo "InvalidAmount" (by simp [glos, glos0, glos1, glos2])
  have G_InvalidUnit := glo "InvalidUnit" (by simp [glos, glos0, glos1, glos2])
  have G_InvalidSheet := glo "InvalidSheet" (by simp [glos, glos0, glos1, glos2])
  have G_InvalidPart := glo "InvalidPart" (by simp [glos, glos0, glos1, glos2])
  have G_InvalidFact := glo "InvalidFact" (by simp [glos, glos0, glos1, glos2])
  have G_UnknownCue := glo "UnknownCue" (by simp [glos, glos0, glos1, glos2])
  have G_UNITS := glo "UNITS" (by simp [glos, glos0, glos1, glos2])
  have G_WORDS := glo "WORDS" (by simp [glos, glos0, glos1, glos2])
  have G__law_cell := glo "_law_cell" (by simp [glos, glos0, glos1, glos2])
  have G__law_box := glo "_law_box" (by simp [glos, glos0, glos1, glos2])
  have G__law_take := glo "_law_take" (by simp [glos, glos0, glos1, glos2])
  have G_is_whole := glo "is_whole" (by simp [glos, glos0, glos1, glos2])
  have G_is_amount := glo "is_amount" (by simp [glos, glos0, glos1, glos2])
  have G_as_amount := glo "as_amount" (by simp [glos, glos0, glos1, glos2])
  have G_has_only := glo "has_only" (by simp [glos, glos0, glos1, glos2])
  have G_is_name := glo "is_name" (by simp [glos, glos0, glos1, glos2])
  have G_is_unit := glo "is_unit" (by simp [glos, glos0, glos1, glos2])
  have G_check_unit := glo "check_unit" (by simp [glos, glos0, glos1, glos2])
  have G_is_listing := glo "is_listing" (by simp [glos, glos0, glos1, glos2])
  have G_parted := glo "parted" (by simp [glos, glos0, glos1, glos2])
  have G_extended := glo "extended" (by simp [glos, glos0, glos1, glos2])
  have G__law_lowest := glo "_law_lowest" (by simp [glos, glos0, glos1, glos2])
  have G_check_cue := glo "check_cue" (by simp [glos, glos0, glos1, glos2])
  have G_check_known := glo "check_known" (by simp [glos, glos0, glos1, glos2])
  have G__law_added := glo "_law_added" (by simp [glos, glos0, glos1, glos2])
  have G__law_led := glo "_law_led" (by simp [glos, glos0, glos1, glos2])
  have G__law_rows := glo "_law_rows" (by simp [glos, glos0, glos1, glos2])
  have G__law_moments := glo "_law_moments" (by simp [glos, glos0, glos1, glos2])
  have G__law_labels := glo "_law_labels" (by simp [glos, glos0, glos1, glos2])
  have G__law_amount := glo "_law_amount" (by simp [glos, glos0, glos1, glos2])
  have G__law_cues := glo "_law_cues" (by simp [glos, glos0, glos1, glos2])
  have G__law_passed := glo "_law_passed" (by simp [glos, glos0, glos1, glos2])
  have G_is_integer := glo "is_integer" (by simp [glos, glos0, glos1, glos2])
  have G_check_moment := glo "check_moment" (by simp [glos, glos0, glos1, glos2])
  have G_is_word := glo "is_word" (by simp [glos, glos0, glos1, glos2])
  have G__is_limit := glo "_is_limit" (by simp [glos, glos0, glos1, glos2])
  have G_names_of := glo "names_of" (by simp [glos, glos0, glos1, glos2])
  have G_has_form := glo "has_form" (by simp [glos, glos0, glos1, glos2])
  have G_check_sheet := glo "check_sheet" (by simp [glos, glos0, glos1, glos2])
  have G_check_fact := glo "check_fact" (by simp [glos, glos0, glos1, glos2])
  have G_check_facts := glo "check_facts" (by simp [glos, glos0, glos1, glos2])
  have G_sayings := glo "sayings" (by simp [glos, glos0, glos1, glos2])
  have G_strongest := glo "strongest" (by simp [glos, glos0, glos1, glos2])
  have G_bound := glo "bound" (by simp [glos, glos0, glos1, glos2])
  have G__law_far := glo "_law_far" (by simp [glos, glos0, glos1, glos2])
  have G__law_fact := glo "_law_fact" (by simp [glos, glos0, glos1, glos2])
  have G__law_passed_fact := glo "_law_passed_fact" (by simp [glos, glos0, glos1, glos2])
  have G__law_sayings := glo "_law_sayings" (by simp [glos, glos0, glos1, glos2])
  have G__law_due := glo "_law_due" (by simp [glos, glos0, glos1, glos2])
  have G__law_told := glo "_law_told" (by simp [glos, glos0, glos1, glos2])
  have G__law_refused := glo "_law_refused" (by simp [glos, glos0, glos1, glos2])
  have G__law_right := glo "_law_right" (by simp [glos, glos0, glos1, glos2])
  have R_abs := fre "abs" (by simp [frees])
  have R_all := fre "all" (by simp [frees])
  have R_bool := fre "bool" (by simp [frees])
  have R_int := fre "int" (by simp [frees])
  have R_isinstance := fre "isinstance" (by simp [frees])
  have R_len := fre "len" (by simp [frees])
  have R_list := fre "list" (by simp [frees])
  have R_max := fre "max" (by simp [frees])
  have R_min := fre "min" (by simp [frees])
  have R_range := fre "range" (by simp [frees])
  have R_repr := fre "repr" (by simp [frees])
  have R_str := fre "str" (by simp [frees])
  have R_tuple := fre "tuple" (by simp [frees])
  obtain ⟨fdinit, ginit⟩ := Hd.says_def c 0
  obtain ⟨fdtop, gtop⟩ := Hd.says_def c 1
  obtain ⟨fdbot, gbot⟩ := Hd.says_def c 2
  obtain ⟨fdeq, geq⟩ := Hd.says_def c 3
  obtain ⟨fdadd, gadd⟩ := Hd.says_def c 4
  obtain ⟨fdneg, gneg⟩ := Hd.says_def c 5
  obtain ⟨fdcmp, gcmp⟩ := Hd.says_def c 6
  obtain ⟨fdsi, gsi⟩ := Hd.says_def c 7
  obtain ⟨fdtel, gtel⟩ := Hd.says_def c 8
  obtain ⟨fdsin, gsin⟩ := Hd.says_def c 9
  obtain ⟨fdsmm, gsmm⟩ := Hd.says_def c 10
  obtain ⟨fdsms, gsms⟩ := Hd.says_def c 11
  obtain ⟨fdDlawcell, gDlawcell⟩ := Hd.says_def c 12
  obtain ⟨fdDlawbox, gDlawbox⟩ := Hd.says_def c 13
  obtain ⟨fdDlawtake, gDlawtake⟩ := Hd.says_def c 14
  obtain ⟨fdDiswhole, gDiswhole⟩ := Hd.says_def c 15
  obtain ⟨fdDisamount, gDisamount⟩ := Hd.says_def c 16
  obtain ⟨fdDasamount, gDasamount⟩ := Hd.says_def c 17
  obtain ⟨fdDhasonly, gDhasonly⟩ := Hd.says_def c 18
  obtain ⟨fdDisname, gDisname⟩ := Hd.says_def c 19
  obtain ⟨fdDisunit, gDisunit⟩ := Hd.says_def c 20
  obtain ⟨fdDcheckunit, gDcheckunit⟩ := Hd.says_def c 21
  obtain ⟨fdDislisting, gDislisting⟩ := Hd.says_def c 22
  obtain ⟨fdDparted, gDparted⟩ := Hd.says_def c 23
  obtain ⟨fdDextended, gDextended⟩ := Hd.says_def c 24
  obtain ⟨fdDlawlowest, gDlawlowest⟩ := Hd.says_def c 25
  obtain ⟨fdDcheckcue, gDcheckcue⟩ := Hd.says_def c 26
  obtain ⟨fdDcheckknown, gDcheckknown⟩ := Hd.says_def c 27
  obtain ⟨fdDlawadded, gDlawadded⟩ := Hd.says_def c 28
  obtain ⟨fdDlawled, gDlawled⟩ := Hd.says_def c 29
  obtain ⟨fdDlawrows, gDlawrows⟩ := Hd.says_def c 30
  obtain ⟨fdDlawmoments, gDlawmoments⟩ := Hd.says_def c 31
  obtain ⟨fdDlawlabels, gDlawlabels⟩ := Hd.says_def c 32
  obtain ⟨fdDlawamount, gDlawamount⟩ := Hd.says_def c 33
  obtain ⟨fdDlawcues, gDlawcues⟩ := Hd.says_def c 34
  obtain ⟨fdDlawpassed, gDlawpassed⟩ := Hd.says_def c 35
  obtain ⟨fdDisinteger, gDisinteger⟩ := Hd.says_def c 36
  obtain ⟨fdDcheckmoment, gDcheckmoment⟩ := Hd.says_def c 37
  obtain ⟨fdDisword, gDisword⟩ := Hd.says_def c 38
  obtain ⟨fdDislimit, gDislimit⟩ := Hd.says_def c 39
  obtain ⟨fdDnamesof, gDnamesof⟩ := Hd.says_def c 40
  obtain ⟨fdDhasform, gDhasform⟩ := Hd.says_def c 41
  obtain ⟨fdDchecksheet, gDchecksheet⟩ := Hd.says_def c 42
  obtain ⟨fdDcheckfact, gDcheckfact⟩ := Hd.says_def c 43
  obtain ⟨fdDcheckfacts, gDcheckfacts⟩ := Hd.says_def c 44
  obtain ⟨fdDsayings, gDsayings⟩ := Hd.says_def c 45
  obtain ⟨fdDstrongest, gDstrongest⟩ := Hd.says_def c 46
  obtain ⟨fdDbound, gDbound⟩ := Hd.says_def c 47
  obtain ⟨fdDlawfar, gDlawfar⟩ := Hd.says_def c 48
  obtain ⟨fdDlawfact, gDlawfact⟩ := Hd.says_def c 49
  obtain ⟨fdDlawpassedfact, gDlawpassedfact⟩ := Hd.says_def c 50
  obtain ⟨fdDlawsayings, gDlawsayings⟩ := Hd.says_def c 51
  obtain ⟨fdDlawdue, gDlawdue⟩ := Hd.says_def c 52
  obtain ⟨fdDlawtold, gDlawtold⟩ := Hd.says_def c 53
  obtain ⟨fdDlawrefused, gDlawrefused⟩ := Hd.says_def c 54
  obtain ⟨fdDlawright, gDlawright⟩ := Hd.says_def c 55
  obtain ⟨fdDlaw, gDlaw⟩ := Hd.says_def c 56
  obtain ⟨fdxInvalidInteger, gxInvalidInteger⟩ := Hd.says_def c 57
  obtain ⟨fdxInvalidAmount, gxInvalidAmount⟩ := Hd.says_def c 58
  obtain ⟨fdxInvalidUnit, gxInvalidUnit⟩ := Hd.says_def c 59
  obtain ⟨fdxInvalidSheet, gxInvalidSheet⟩ := Hd.says_def c 60
  obtain ⟨fdxInvalidPart, gxInvalidPart⟩ := Hd.says_def c 61
  obtain ⟨fdxInvalidFact, gxInvalidFact⟩ := Hd.says_def c 62
  obtain ⟨fdxUnknownCue, gxUnknownCue⟩ := Hd.says_def c 63
  have Finit := ginit.funD
  have Ftop := gtop.funD
  have Fbot := gbot.funD
  have Feq := geq.funD
  have Fadd := gadd.funD
  have Fneg := gneg.funD
  have Fcmp := gcmp.funD
  have Fsi := gsi.funD
  have Ftel := gtel.funD
  have Fsin := gsin.funD
  have Fsmm := gsmm.funD
  have Fsms := gsms.funD
  have FDlawcell := gDlawcell.funD
  have FDlawbox := gDlawbox.funD
  have FDlawtake := gDlawtake.funD
  have FDiswhole := gDiswhole.funD
  have FDisamount := gDisamount.funD
  have FDasamount := gDasamount.funD
  have FDhasonly := gDhasonly.funD
  have FDisname := gDisname.funD
  have FDisunit := gDisunit.funD
  have FDcheckunit := gDcheckunit.funD
  have FDislisting := gDislisting.funD
  have FDparted := gDparted.funD
  have FDextended := gDextended.funD
  have FDlawlowest := gDlawlowest.funD
  have FDcheckcue := gDcheckcue.funD
  have FDcheckknown := gDcheckknown.funD
  have FDlawadded := gDlawadded.funD
  have FDlawled := gDlawled.funD
  have FDlawrows := gDlawrows.funD
  have FDlawmoments := gDlawmoments.funD
  have FDlawlabels := gDlawlabels.funD
  have FDlawamount := gDlawamount.funD
  have FDlawcues := gDlawcues.funD
  have FDlawpassed := gDlawpassed.funD
  have FDisinteger := gDisinteger.funD
  have FDcheckmoment := gDcheckmoment.funD
  have FDisword := gDisword.funD
  have FDislimit := gDislimit.funD
  have FDnamesof := gDnamesof.funD
  have FDhasform := gDhasform.funD
  have FDchecksheet := gDchecksheet.funD
  have FDcheckfact := gDcheckfact.funD
  have FDcheckfacts := gDcheckfacts.funD
  have FDsayings := gDsayings.funD
  have FDstrongest := gDstrongest.funD
  have FDbound := gDbound.funD
  have FDlawfar := gDlawfar.funD
  have FDlawfact := gDlawfact.funD
  have FDlawpassedfact := gDlawpassedfact.funD
  have FDlawsayings := gDlawsayings.funD
  have FDlawdue := gDlawdue.funD
  have FDlawtold := gDlawtold.funD
  have FDlawrefused := gDlawrefused.funD
  have FDlawright := gDlawright.funD
  have FDlaw := gDlaw.funD
  have bDlawcell : Binds K fdDlawcell ["_law_script", "_law_k"] [] := FDlawcell.bindsN fun _ _ _ _ _ _ us hl => match us, hl with | [_, _], _ => rfl
  have bDlawbox : Binds K fdDlawbox ["_law_cell_here"] [] := FDlawbox.bindsN fun _ _ _ _ _ _ us hl => match us, hl with | [_], _ => rfl
  have bDlawtake : Binds K fdDlawtake ["_law_box_here", "_law_many"] [] := FDlawtake.bindsN fun _ _ _ _ _ _ us hl => match us, hl with | [_, _], _ => rfl
  have bDiswhole : Binds K fdDiswhole ["value"] [] := FDiswhole.bindsN fun _ _ _ _ _ _ us hl => match us, hl with | [_], _ => rfl
  have bDisamount : Binds K fdDisamount ["value"] [] := FDisamount.bindsN fun _ _ _ _ _ _ us hl => match us, hl with | [_], _ => rfl
  have bDasamount : Binds K fdDasamount ["value"] [] := FDasamount.bindsN fun _ _ _ _ _ _ us hl => match us, hl with | [_], _ => rfl
  have bDhasonly : Binds K fdDhasonly ["text", "characters"] [] := FDhasonly.bindsN fun _ _ _ _ _ _ us hl => match us, hl with | [_, _], _ => rfl
  have bDisname : Binds K fdDisname ["value"] [] := FDisname.bindsN fun _ _ _ _ _ _ us hl => match us, hl with | [_], _ => rfl
  have bDisunit : Binds K fdDisunit ["value"] [] := FDisunit.bindsN fun _ _ _ _ _ _ us hl => match us, hl with | [_], _ => rfl
  have bDcheckunit : Binds K fdDcheckunit ["unit"] [] := FDcheckunit.bindsN fun _ _ _ _ _ _ us hl => match us, hl with | [_], _ => rfl
  have bDislisting : Binds K fdDislisting ["value"] [] := FDislisting.bindsN fun _ _ _ _ _ _ us hl => match us, hl with | [_], _ => rfl
  have bDparted : Binds K fdDparted ["row", "unit"] [] := FDparted.bindsN fun _ _ _ _ _ _ us hl => match us, hl with | [_, _], _ => rfl
  have bDextended : Binds K fdDextended ["row", "unit", "amount"] [] := FDextended.bindsN fun _ _ _ _ _ _ us hl => match us, hl with | [_, _, _], _ => rfl
  have bDlawlowest : Binds K fdDlawlowest ["_law_top", "_law_bottom"] [] := FDlawlowest.bindsN fun _ _ _ _ _ _ us hl => match us, hl with | [_, _], _ => rfl
  have bDcheckcue : Binds K fdDcheckcue ["item", "known"] [] := FDcheckcue.bindsN fun _ _ _ _ _ _ us hl => match us, hl with | [_, _], _ => rfl
  have bDcheckknown : Binds K fdDcheckknown ["sheet", "name"] [] := FDcheckknown.bindsN fun _ _ _ _ _ _ us hl => match us, hl with | [_, _], _ => rfl
  have bDlawadded : Binds K fdDlawadded ["_law_one", "_law_other"] [] := FDlawadded.bindsN fun _ _ _ _ _ _ us hl => match us, hl with | [_, _], _ => rfl
  have bDlawled : Binds K fdDlawled ["_law_row", "_law_unit", "_law_amount_here"] [] := FDlawled.bindsN fun _ _ _ _ _ _ us hl => match us, hl with | [_, _, _], _ => rfl
  have bDlawrows : Binds K fdDlawrows ["_law_cues_here"] [] := FDlawrows.bindsN fun _ _ _ _ _ _ us hl => match us, hl with | [_], _ => rfl
  have bDlawmoments : Binds K fdDlawmoments ["_law_cues_here"] [] := FDlawmoments.bindsN fun _ _ _ _ _ _ us hl => match us, hl with | [_], _ => rfl
  have bDlawlabels : Binds K fdDlawlabels ["_law_box_here", "_law_many"] [] := FDlawlabels.bindsN fun _ _ _ _ _ _ us hl => match us, hl with | [_, _], _ => rfl
  have bDlawamount : Binds K fdDlawamount ["_law_box_here"] [] := FDlawamount.bindsN fun _ _ _ _ _ _ us hl => match us, hl with | [_], _ => rfl
  have bDlawcues : Binds K fdDlawcues ["_law_box_here", "_law_limit", "_law_most_cues"] [] := FDlawcues.bindsN fun _ _ _ _ _ _ us hl => match us, hl with | [_, _, _], _ => rfl
  have bDlawpassed : Binds K fdDlawpassed ["_law_box_here", "_law_cues_here"] [] := FDlawpassed.bindsN fun _ _ _ _ _ _ us hl => match us, hl with | [_, _], _ => rfl
  have bDisinteger : Binds K fdDisinteger ["value", "low", "high"] [] := FDisinteger.bindsN fun _ _ _ _ _ _ us hl => match us, hl with | [_, _, _], _ => rfl
  have bDcheckmoment : Binds K fdDcheckmoment ["sheet", "number"] [] := FDcheckmoment.bindsN fun _ _ _ _ _ _ us hl => match us, hl with | [_, _], _ => rfl
  have bDisword : Binds K fdDisword ["value"] [] := FDisword.bindsN fun _ _ _ _ _ _ us hl => match us, hl with | [_], _ => rfl
  have bDislimit : Binds K fdDislimit ["value"] [] := FDislimit.bindsN fun _ _ _ _ _ _ us hl => match us, hl with | [_], _ => rfl
  have bDnamesof : Binds K fdDnamesof ["fact"] [] := FDnamesof.bindsN fun _ _ _ _ _ _ us hl => match us, hl with | [_], _ => rfl
  have bDhasform : Binds K fdDhasform ["value"] [] := FDhasform.bindsN fun _ _ _ _ _ _ us hl => match us, hl with | [_], _ => rfl
  have bDchecksheet : Binds K fdDchecksheet ["sheet"] [] := FDchecksheet.bindsN fun _ _ _ _ _ _ us hl => match us, hl with | [_], _ => rfl
  have bDcheckfact : Binds K fdDcheckfact ["sheet", "fact"] [] := FDcheckfact.bindsN fun _ _ _ _ _ _ us hl => match us, hl with | [_, _], _ => rfl
  have bDcheckfacts : Binds K fdDcheckfacts ["sheet", "facts"] [] := FDcheckfacts.bindsN fun _ _ _ _ _ _ us hl => match us, hl with | [_, _], _ => rfl
  have bDsayings : Binds K fdDsayings ["sheet", "facts"] [] := FDsayings.bindsN fun _ _ _ _ _ _ us hl => match us, hl with | [_, _], _ => rfl
  have bDstrongest : Binds K fdDstrongest ["told", "unit", "one", "other"] [] := FDstrongest.bindsN fun _ _ _ _ _ _ us hl => match us, hl with | [_, _, _, _], _ => rfl
  have bDlawfar : Binds K fdDlawfar ["_law_amount_here"] [] := FDlawfar.bindsN fun _ _ _ _ _ _ us hl => match us, hl with | [_], _ => rfl
  have bDlawfact : Binds K fdDlawfact ["_law_box_here", "_law_cues_here"] [] := FDlawfact.bindsN fun _ _ _ _ _ _ us hl => match us, hl with | [_, _], _ => rfl
  have bDlawpassedfact : Binds K fdDlawpassedfact ["_law_fact_here"] [] := FDlawpassedfact.bindsN fun _ _ _ _ _ _ us hl => match us, hl with | [_], _ => rfl
  have bDlawsayings : Binds K fdDlawsayings ["_law_cues_here", "_law_fact_here"] [] := FDlawsayings.bindsN fun _ _ _ _ _ _ us hl => match us, hl with | [_, _], _ => rfl
  have bDlawdue : Binds K fdDlawdue ["_law_cues_here", "_law_known", "_law_unit", "_law_one", "_law_other"] [] := FDlawdue.bindsN fun _ _ _ _ _ _ us hl => match us, hl with | [_, _, _, _, _], _ => rfl
  have bDlawtold : Binds K fdDlawtold ["_law_sheet", "_law_unit", "_law_one", "_law_other", "_law_known"] [] := FDlawtold.bindsN fun _ _ _ _ _ _ us hl => match us, hl with | [_, _, _, _, _], _ => rfl
  have bDlawrefused : Binds K fdDlawrefused ["_law_sheet"] [] := FDlawrefused.bindsN fun _ _ _ _ _ _ us hl => match us, hl with | [_], _ => rfl
  have bDlawright : Binds K fdDlawright ["_law_box_here", "_law_sheet", "_law_cues_here"] [] := FDlawright.bindsN fun _ _ _ _ _ _ us hl => match us, hl with | [_, _, _], _ => rfl
  have btop : Binds K fdtop ["self"] [] := Ftop.bindsN fun _ _ _ _ _ _ us hl => match us, hl with | [_], _ => rfl
  have bbot : Binds K fdbot ["self"] [] := Fbot.bindsN fun _ _ _ _ _ _ us hl => match us, hl with | [_], _ => rfl
  have beq : Binds K fdeq ["self", "other"] [] := Feq.bindsN fun _ _ _ _ _ _ us hl => match us, hl with | [_, _], _ => rfl
  have badd : Binds K fdadd ["self", "other"] [] := Fadd.bindsN fun _ _ _ _ _ _ us hl => match us, hl with | [_, _], _ => rfl
  have bneg : Binds K fdneg ["self"] [] := Fneg.bindsN fun _ _ _ _ _ _ us hl => match us, hl with | [_], _ => rfl
  have bcmp : Binds K fdcmp ["self", "other"] [] := Fcmp.bindsN fun _ _ _ _ _ _ us hl => match us, hl with | [_, _], _ => rfl
  have bsi : Binds K fdsi ["self", "cues"] [] := Fsi.bindsN fun _ _ _ _ _ _ us hl => match us, hl with | [_, _], _ => rfl
  have btel : Binds K fdtel ["self", "item"] [] := Ftel.bindsN fun _ _ _ _ _ _ us hl => match us, hl with | [_, _], _ => rfl
  have bsin : Binds K fdsin ["self", "value"] [] := Fsin.bindsN fun _ _ _ _ _ _ us hl => match us, hl with | [_, _], _ => rfl
  have bsmm : Binds K fdsmm ["self", "name"] [] := Fsmm.bindsN fun _ _ _ _ _ _ us hl => match us, hl with | [_, _], _ => rfl
  have bsms : Binds K fdsms ["self"] [] := Fsms.bindsN fun _ _ _ _ _ _ us hl => match us, hl with | [_], _ => rfl
  have sub : ∀ T ∈ tys, PySem.W.subIn K (.type T) (.ref (CA K)) = some false := fun T hT => of_decide_eq_true (List.all_eq_true.mp (Hd.allB_at cc 19) T hT)
  have sf : PySem.W.selfFirst K (CA K) = true := Hd.allB_at cc 20
  have A : AF K mg :=
    { cl := ⟨Hd.allB_at cc 0, Hd.allB_at cc 1, Hd.allB_at cc 2, He.eqO_ok (Hd.allB_at cc 3)⟩
      noT := He.eqO_ok (Hd.allB_at cc 4)
      noB := He.eqO_ok (Hd.allB_at cc 5)
      mkA := ⟨Hd.allB_at cc 6, He.eqO_ok (Hd.allB_at cc 7), Hd.allB_at cc 8, Hd.allB_at cc 9⟩
      g := G_Amount
      isi := R_isinstance
      int := R_int
      bool := R_bool
      gcd := PySem.W.mg_of X G (He.eqO_ok (Hd.allB_at cc 10))
      gI := G_InvalidInteger
      gV := G_InvalidAmount
      kI := of_decide_eq_true (Hd.allB_at cc 11)
      kB := of_decide_eq_true (Hd.allB_at cc 12)
      kS := of_decide_eq_true (Hd.allB_at cc 13)
      kT := fun T hT => of_decide_eq_true (List.all_eq_true.mp (Hd.allB_at cc 14) T hT)
      ca := He.eqO_ok (Hd.allB_at cc 15)
      cn := He.eqO_ok (Hd.allB_at cc 16)
      ct := of_decide_eq_true (Hd.allB_at cc 17)
      cm := of_decide_eq_true (Hd.allB_at cc 18) }
  have xInvalidInteger := Hd.exc_txt Xb.nm_value gxInvalidInteger (Hd.allB_at ck 32) ⟨_, _, _, _, _, _, _, _, _, _, _, _, _, rfl, rfl, rfl, rfl⟩
  have xInvalidAmount := Hd.exc_txt Xb.nm_value gxInvalidAmount (Hd.allB_at ck 33) ⟨_, _, _, _, _, _, _, _, _, _, _, _, _, rfl, rfl, rfl, rfl⟩
  have xInvalidUnit := Hd.exc_txt Xb.nm_value gxInvalidUnit (Hd.allB_at ck 34) ⟨_, _, _, _, _, _, _, _, _, _, _, _, _, rfl, rfl, rfl, rfl⟩
  have xInvalidSheet := Hd.exc_txt Xb.nm_value gxInvalidSheet (Hd.allB_at ck 35) ⟨_, _, _, _, _, _, _, _, _, _, _, _, _, rfl, rfl, rfl, rfl⟩
  have xInvalidPart := Hd.exc_txt Xb.nm_value gxInvalidPart (Hd.allB_at ck 36) ⟨_, _, _, _, _, _, _, _, _, _, _, _, _, rfl, rfl, rfl, rfl⟩
  have xInvalidFact := Hd.exc_txt Xb.nm_value gxInvalidFact (Hd.allB_at ck 37) ⟨_, _, _, _, _, _, _, _, _, _, _, _, _, rfl, rfl, rfl, rfl⟩
  have xUnknownCue := Hd.exc_txtK nm_label gxUnknownCue (Hd.allB_at ck 38) ⟨_, _, _, _, _, _, _, _, _, _, _, _, _, rfl, rfl, rfl, rfl⟩
  have M : MF K mg := ⟨⟨Hd.allB_at cm 0, Hd.allB_at cm 1, Hd.allB_at cm 2, He.eqO_ok (Hd.allB_at cm 3)⟩, He.eqO_ok (Hd.allB_at cm 4), He.eqO_ok (Hd.allB_at cm 5), He.eqO_ok (Hd.allB_at cm 6), G_Sheet⟩
  have MKS : Mk K (CS K) (aS K) := ⟨Hd.allB_at cm 7, He.eqO_ok (Hd.allB_at cm 8), Hd.allB_at cm 9, Hd.allB_at cm 10⟩
  have mE := meB_of (Hd.allB_at ck 4)
  have neE := He.eqO_ok (Hd.allB_at ck 5)
  have obE := of_decide_eq_true (Hd.allB_at ck 6)
  have oA := opF_of (Hd.allB_at ck 7) sf sub
  have mN := meB_of (Hd.allB_at ck 8)
  have mC := meB_of (Hd.allB_at ck 9)
  have m_tel := smB_of (Hd.allB_at ck 12)
  have m_sin := smB_of (Hd.allB_at ck 13)
  have m_smm := smB_of (Hd.allB_at ck 14)
  have m_sms := smB_of (Hd.allB_at ck 15)
  have nca := of_decide_eq_true (Hd.allB_at ck 16)
  have kS := of_decide_eq_true (Hd.allB_at ck 17)
  have cmS := of_decide_eq_true (Hd.allB_at ck 20)
  have caS := He.eqO_ok (Hd.allB_at ck 19)
  have kTS : ∀ T ∈ tys, PySem.W.kitOne K (.type T) (.ref (CS K)) = some false := fun T hT => of_decide_eq_true (List.all_eq_true.mp (Hd.allB_at ck 18) T hT)
  have nx : NotX K := fun p hp => of_decide_eq_true (List.all_eq_true.mp (Hd.allB_at ck 21) p hp)
  have hS := sysB_of (Hd.allB_at ck 24)
  have mStart := He.str_ok X G (Hd.allB_at ck 31)
  have mMost := He.int_ok X G (Hd.allB_at ck 28)
  have V : VF K mg (He.ga K "UNITS") :=
    { str := R_str, len := R_len, all := R_all, letters := He.str_ok X G (Hd.allB_at ck 29), digits := He.str_ok X G (Hd.allB_at ck 30), longest := He.int_ok X G (Hd.allB_at ck 27), units := G_UNITS, unitsT := fun H => tupB_of (Hd.allB_at ck 25) H }
  have hWds : ∀ H, SqT K H (He.ga K "WORDS") [.str "before", .str "same", .str "after"] := fun H => tupB_of (zs := ["before", "same", "after"]) (Hd.allB_at ck 26) H
  have hT0 : ∀ H, SqT K H (Gb.kwAt K (He.ga K "bound") "facts") [] := fun H => tupB_of (zs := []) (Hd.allB_at ck 23) H
  obtain ⟨dsB, hdBD, bBD⟩ := (FDbound.kw1 (y := "facts") (Hd.allB_at ck 22)).binds0 (ps := ["sheet", "unit", "one", "other", "facts"]) 4 (by simp) rfl (fun _ _ _ _ _ _ us ks hu hk => match us, ks, hu, hk with | [_, _, _, _], [_], _, _ => ⟨_, _, _, _, _, _, rfl, rfl, rfl⟩)
  have kbBD := Gb.kbn (n := 4) (k := "facts") (ps := ["sheet", "unit", "one", "other", "facts"]) FDbound fun _ _ _ _ _ _ us _ hu => match us, hu with | [_, _, _, _], _ => rfl
  have hlaw := glo "law" (by simp [glos, glos0, glos1, glos2])
  cases hfa.symm.trans hlaw
  have htop : (PP.main.scope.names.lookup ("super" : Str)).isSome = false := by decide +kernel
  have blaw := FDlaw.bindsA (ps := ["_law_script"]) fun _ _ _ _ _ _ us hl => match us, hl with | [_], _ => rfl
  refine ⟨fdDlaw, fun s v => blaw s [v] rfl, fun base _ _ => ?_⟩
  obtain ⟨dv, hds, bI⟩ := Finit.binds1 (ps := ["self", "top", "bottom"]) 2 0 (by simp [dC]) rfl (fun _ _ _ _ _ _ _ us its hu hi => match us, its, hu, hi with | [_, _], [_], _, _ => ⟨_, rfl, rfl⟩)
  obtain ⟨ds2', hds2, bI2⟩ := Finit.binds1 (ps := ["self", "top", "bottom"]) 3 1 (by simp [dC]) rfl (fun _ _ _ _ _ _ _ us its hu hi => match us, its, hu, hi with | [_, _, _], [_], _, _ => ⟨_, rfl, rfl⟩)
  cases hds2
  have OI : FnOk PP w K mg base (L2.CX PP w) 4 (aI K) fdinit ["self", "top", "bottom"] (spInit K) := ok_init Finit A FDiswhole G_is_whole xInvalidInteger htop
  have OS : FnOk PP w K mg base (L2.CX PP w) 6 _ fdDasamount ["value"] (spAs K) := ok_as FDasamount A FDiswhole G_is_whole FDisamount G_is_amount Finit xInvalidInteger xInvalidAmount htop
  have Oadd : OpK PP w K mg base "add" 7 (spAdd K) _ fdadd := ⟨oA, ok_add Fadd A OS G_as_amount FDasamount.kp bDasamount OI bI2, badd⟩
  have Eq : EqK PP w K mg base _ fdeq := ⟨mE.at_, mE.fn, ok_eq Feq A, beq, neE, obE⟩
  have Ptop : PrF PP w K mg base "top" "_top" _ _ fdtop := ⟨prB_of (Hd.allB_at ck 10), ok_top Ftop A, btop⟩
  have Pbottom : PrF PP w K mg base "bottom" "_bottom" _ _ fdbot := ⟨prB_of (Hd.allB_at ck 11), ok_bot Fbot A, bbot⟩
  have VDasamount : Fn PP w K mg base "as_amount" 6 ["value"] (spAs K) _ fdDasamount := ⟨OS, G_as_amount, FDasamount.kp, bDasamount⟩
  have NG : NgK PP w K mg base _ fdneg := ⟨mN.at_, mN.fn, ok_neg Fneg A OI bI2, bneg⟩
  have Mcompare : MeK PP w K mg base "compare" 7 (spCmp K) _ fdcmp := ⟨mC, ok_cmp Fcmp A OS G_as_amount FDasamount.kp bDasamount, bcmp⟩
  have VDlawcell : Fn0 PP w K mg base "_law_cell" 1 ["_law_script", "_law_k"] (spCel K) _ fdDlawcell := ⟨ok_cell FDlawcell R_len, G__law_cell, FDlawcell.kp, bDlawcell⟩
  have VDlawbox : Fn0 PP w K mg base "_law_box" 1 ["_law_cell_here"] spBox _ fdDlawbox := ⟨ok_box FDlawbox R_max, G__law_box, FDlawbox.kp, bDlawbox⟩
  have VDlawtake : Fn0 PP w K mg base "_law_take" 1 ["_law_box_here", "_law_many"] spTake _ fdDlawtake := ⟨ok_take FDlawtake, G__law_take, FDlawtake.kp, bDlawtake⟩
  have VDisamount : Fn PP w K mg base "is_amount" 2 ["value"] (spIsA K) _ fdDisamount := ⟨ok_isA FDisamount A FDiswhole G_is_whole, G_is_amount, FDisamount.kp, bDisamount⟩
  have VDhasonly : Fn PP w K mg base "has_only" 1 ["text", "characters"] spHas _ fdDhasonly := ⟨ok_has FDhasonly R_all, G_has_only, FDhasonly.kp, bDhasonly⟩
  have VDisname : Fn PP w K mg base "is_name" 2 ["value"] (spName K) _ fdDisname := ⟨ok_name FDisname A V VDhasonly.ok G_has_only FDhasonly.kp bDhasonly, G_is_name, FDisname.kp, bDisname⟩
  have VDisunit : Fn PP w K mg base "is_unit" 1 ["value"] (spText K isUnit) _ fdDisunit := ⟨ok_unit FDisunit A V, G_is_unit, FDisunit.kp, bDisunit⟩
  have VDcheckunit : Fn PP w K mg base "check_unit" 2 ["unit"] (spChk K) _ fdDcheckunit := ⟨ok_chk FDcheckunit VDisunit.ok G_is_unit FDisunit.kp bDisunit G_InvalidUnit xInvalidUnit htop, G_check_unit, FDcheckunit.kp, bDcheckunit⟩
  have VDislisting : Fn PP w K mg base "is_listing" 1 ["value"] (spLs K) _ fdDislisting := ⟨ok_ls FDislisting A R_list R_tuple, G_is_listing, FDislisting.kp, bDislisting⟩
  have VDparted : Fn PP w K mg base "parted" 6 ["row", "unit"] (spPart K) _ fdDparted := ⟨ok_par FDparted A R_len R_list OI hds bI, G_parted, FDparted.kp, bDparted⟩
  have VDextended : Fn PP w K mg base "extended" 8 ["row", "unit", "amount"] (spExt K) _ fdDextended := ⟨ok_ext FDextended A Eq Oadd VDparted OI hds bI, G_extended, FDextended.kp, bDextended⟩
  have VDlawlowest : Fn PP w K mg base "_law_lowest" 1 ["_law_top", "_law_bottom"] spLow _ fdDlawlowest := ⟨ok_low FDlawlowest R_abs, G__law_lowest, FDlawlowest.kp, bDlawlowest⟩
  have VDcheckcue : Fn PP w K mg base "check_cue" 3 ["item", "known"] (spCC K) _ fdDcheckcue := ⟨ok_cc FDcheckcue A V R_len VDislisting VDisname VDcheckunit VDisamount, G_check_cue, FDcheckcue.kp, bDcheckcue⟩
  have S_tell : MeS PP w K mg base "_tell" 9 ["self", "item"] (spTell K) _ fdtel := ⟨m_tel, ok_tel Ftel A M Eq VDasamount VDextended, btel⟩
  have SI : FnOk PP w K mg base (L2.CX PP w) 10 (aS K) fdsi ["self", "cues"] (spSI K) := ok_si Fsi M nca R_len mStart mMost VDislisting VDcheckcue S_tell
  have SC : SCn PP w K mg base _ fdsin := ⟨m_sin.at_, m_sin.fn, ok_sIn Fsin A V M, bsin⟩
  have VDcheckknown : Fn PP w K mg base "check_known" 3 ["sheet", "name"] (spCN K) _ fdDcheckknown := ⟨ok_cn FDcheckknown M SC G_UnknownCue xUnknownCue htop, G_check_known, FDcheckknown.kp, bDcheckknown⟩
  have VDlawadded : Fn PP w K mg base "_law_added" 2 ["_law_one", "_law_other"] spAdd2 _ fdDlawadded := ⟨ok_add2 FDlawadded VDlawlowest, G__law_added, FDlawadded.kp, bDlawadded⟩
  have VDlawled : Fn PP w K mg base "_law_led" 3 ["_law_row", "_law_unit", "_law_amount_here"] spLed _ fdDlawled := ⟨ok_led FDlawled VDlawadded, G__law_led, FDlawled.kp, bDlawled⟩
  have VDlawrows : Fn PP w K mg base "_law_rows" 4 ["_law_cues_here"] (spRws K) _ fdDlawrows := ⟨ok_rws FDlawrows VDlawled, G__law_rows, FDlawrows.kp, bDlawrows⟩
  have VDlawmoments : Fn PP w K mg base "_law_moments" 5 ["_law_cues_here"] (spMom K) _ fdDlawmoments := ⟨ok_mom FDlawmoments R_len R_range VDlawrows, G__law_moments, FDlawmoments.kp, bDlawmoments⟩
  have VDlawlabels : Fn PP w K mg base "_law_labels" 2 ["_law_box_here", "_law_many"] spLab _ fdDlawlabels := ⟨ok_lab FDlawlabels R_range R_str VDlawtake, G__law_labels, FDlawlabels.kp, bDlawlabels⟩
  have VDlawamount : Fn PP w K mg base "_law_amount" 2 ["_law_box_here"] spLam _ fdDlawamount := ⟨ok_lam FDlawamount VDlawtake VDlawlowest, G__law_amount, FDlawamount.kp, bDlawamount⟩
  have VDlawcues : Fn PP w K mg base "_law_cues" 6 ["_law_box_here", "_law_limit", "_law_most_cues"] spLcu _ fdDlawcues := ⟨ok_lcu FDlawcues R_len VDlawtake VDlawlabels VDlawamount VDlawmoments, G__law_cues, FDlawcues.kp, bDlawcues⟩
  have VDlawpassed : Fn PP w K mg base "_law_passed" 6 ["_law_box_here", "_law_cues_here"] (spPas K) _ fdDlawpassed := ⟨ok_pas FDlawpassed A VDlawtake OI bI2, G__law_passed, FDlawpassed.kp, bDlawpassed⟩
  have VDisinteger : Fn PP w K mg base "is_integer" 2 ["value", "low", "high"] (spIntg K) _ fdDisinteger := ⟨ok_intg FDisinteger A FDiswhole G_is_whole, G_is_integer, FDisinteger.kp, bDisinteger⟩
  have Smoment : MeS PP w K mg base "moment" 4 ["self", "name"] (spMm K) _ fdsmm := ⟨m_smm, ok_sMm Fsmm M VDcheckknown, bsmm⟩
  have Smoments : MeS PP w K mg base "moments" 1 ["self"] (spMos K) _ fdsms := ⟨m_sms, ok_sMs Fsms M R_list, bsms⟩
  have VDcheckmoment : Fn PP w K mg base "check_moment" 3 ["sheet", "number"] (spCM K) _ fdDcheckmoment := ⟨ok_cm FDcheckmoment A M R_len xInvalidInteger htop VDisinteger Smoments, G_check_moment, FDcheckmoment.kp, bDcheckmoment⟩
  have VDlawmomentsX : Fn PP w K mg base "_law_moments" 5 ["_law_cues_here"] (spMoX K) _ fdDlawmoments := ⟨ok_momX FDlawmoments R_len R_range VDlawrows, G__law_moments, FDlawmoments.kp, bDlawmoments⟩
  have VDisword : Fn PP w K mg base "is_word" 1 ["value"] (spText K isWord) _ fdDisword := ⟨ok_word FDisword A V G_WORDS hWds, G_is_word, FDisword.kp, bDisword⟩
  have VDislimit : Fn PP w K mg base "_is_limit" 3 ["value"] (spLim K) _ fdDislimit := ⟨ok_lim FDislimit A VDisamount, G__is_limit, FDislimit.kp, bDislimit⟩
  have VDnamesof : Fn PP w K mg base "names_of" 1 ["fact"] (spNof K) _ fdDnamesof := ⟨ok_nof FDnamesof, G_names_of, FDnamesof.kp, bDnamesof⟩
  have VDhasform : Fn PP w K mg base "has_form" 4 ["value"] (spHf K) _ fdDhasform := ⟨ok_hf FDhasform A R_len VDisword VDisunit VDisamount VDislimit, G_has_form, FDhasform.kp, bDhasform⟩
  have VDchecksheet : Fn PP w K mg base "check_sheet" 2 ["sheet"] (spChs K) _ fdDchecksheet := ⟨ok_chs FDchecksheet A M G_InvalidSheet xInvalidSheet htop kS caS cmS, G_check_sheet, FDchecksheet.kp, bDchecksheet⟩
  have VDcheckfact : Fn PP w K mg base "check_fact" 6 ["sheet", "fact"] (spCf K) _ fdDcheckfact := ⟨ok_cf FDcheckfact VDislisting VDhasform VDnamesof VDcheckknown G_InvalidFact xInvalidFact htop, G_check_fact, FDcheckfact.kp, bDcheckfact⟩
  have VDcheckfacts : Fn PP w K mg base "check_facts" 7 ["sheet", "facts"] (spCfs K) _ fdDcheckfacts := ⟨ok_cfs FDcheckfacts VDislisting VDcheckfact G_InvalidPart xInvalidPart htop, G_check_facts, FDcheckfacts.kp, bDcheckfacts⟩
  have VDsayings : Fn PP w K mg base "sayings" 7 ["sheet", "facts"] (spSay K) _ fdDsayings := ⟨ok_say FDsayings M VDnamesof Smoment VDasamount NG, G_sayings, FDsayings.kp, bDsayings⟩
  have VDstrongest : Fn PP w K mg base "strongest" 8 ["told", "unit", "one", "other"] (spStr K) _ fdDstrongest := ⟨ok_str FDstrongest A Mcompare, G_strongest, FDstrongest.kp, bDstrongest⟩
  have OBD : FnOk PP w K mg base (L2.CX PP w) 9 _ fdDbound ["sheet", "unit", "one", "other", "facts"] (spBnd K) := ok_bnd FDbound VDchecksheet VDcheckunit VDcheckmoment VDcheckfacts VDsayings VDstrongest
  have VDlawfar : Fn PP w K mg base "_law_far" 6 ["_law_amount_here"] (spFar K) _ fdDlawfar := ⟨ok_far FDlawfar A OI bI2, G__law_far, FDlawfar.kp, bDlawfar⟩
  have VDlawfact : Fn PP w K mg base "_law_fact" 3 ["_law_box_here", "_law_cues_here"] spFct _ fdDlawfact := ⟨ok_fct FDlawfact R_len VDlawtake VDlawamount, G__law_fact, FDlawfact.kp, bDlawfact⟩
  have VDlawpassedfact : Fn PP w K mg base "_law_passed_fact" 7 ["_law_fact_here"] (spPfc K) _ fdDlawpassedfact := ⟨ok_pfc FDlawpassedfact R_tuple VDlawfar, G__law_passed_fact, FDlawpassedfact.kp, bDlawpassedfact⟩
  have VDlawsayings : Fn PP w K mg base "_law_sayings" 6 ["_law_cues_here", "_law_fact_here"] spLsy _ fdDlawsayings := ⟨ok_lsy FDlawsayings VDlawmomentsX VDlawrows, G__law_sayings, FDlawsayings.kp, bDlawsayings⟩
  have VDlawdue : Fn PP w K mg base "_law_due" 7 ["_law_cues_here", "_law_known", "_law_unit", "_law_one", "_law_other"] spDue _ fdDlawdue := ⟨ok_due FDlawdue VDlawsayings, G__law_due, FDlawdue.kp, bDlawdue⟩
  have VDlawtold : Fn PP w K mg base "_law_told" 10 ["_law_sheet", "_law_unit", "_law_one", "_law_other", "_law_known"] (spTld K) _ fdDlawtold := ⟨ok_tld FDlawtold G_InvalidSheet G_InvalidUnit G_InvalidInteger G_InvalidPart G_InvalidFact G_UnknownCue xInvalidSheet xInvalidUnit xInvalidInteger xInvalidPart xInvalidFact xUnknownCue nx OBD G_bound FDbound.kp kbBD, G__law_told, FDlawtold.kp, bDlawtold⟩
  have VDlawrefused : FnS2 PP w K mg base "_law_refused" 11 ["_law_sheet"] (spRef K) _ fdDlawrefused := ⟨ok_ref FDlawrefused hS R_repr kTS VDlawtold, G__law_refused, FDlawrefused.kp, bDlawrefused⟩
  have VDlawright : Fn PP w K mg base "_law_right" 10 ["_law_box_here", "_law_sheet", "_law_cues_here"] (spRgt K) _ fdDlawright := ⟨ok_rgt FDlawright A R_len R_range R_tuple R_bool VDlawtake VDlawfact VDlawamount VDlawpassedfact VDlawmomentsX VDlawdue OBD G_bound FDbound.kp kbBD bBD hdBD hT0 Ptop Pbottom, G__law_right, FDlawright.kp, bDlawright⟩
  exact ok_law FDlaw A M MKS R_len R_range R_max R_min VDlawcell VDlawbox VDlawcues VDlawpassed VDlawright VDlawrefused SI bsi
end T13
set_option Elab.async false
set_option linter.all false
set_option maxRecDepth 100000
set_option maxHeartbeats 0
namespace T13
open PySem PySem.Spec PyProof.Rows L2
theorem noX (P : Program) (w : World) (H : Hp) (s : Shared) (e : Value) (s' : Shared) : L2.CX P w [] H s (fun _ _ _ => False) e s' → False := fun ⟨_, _, _, _, _, _, _, _, _, _, _, _, z⟩ => z
end T13
open PySem PySem.W PySem.Calls PyProof.Rows
theorem PySem.Challenge.cw_anytempo_k13_bounds_of_facts_holds : PySem.Challenge.rw_anytempo_k13_bounds_of_facts.Holds := by
  w_on; o_law
  refine HandSHeadRun.head_imp (r := OpenLaw.row PySem.Challenge.rw_anytempo_k13_bounds_of_facts) (q := view (OpenLaw.row PySem.Challenge.rw_anytempo_k13_bounds_of_facts).prog [0, 77]) (H := T13.hk) (ob := Hd.obL T13.asL T13.ds T13.chk) (M := 20000) (loose := T13.nms) (d := HandSHeadRun.topDef (OpenLaw.row PySem.Challenge.rw_anytempo_k13_bounds_of_facts).prog 77) (kwd := [])
    (Hd.obL_eq T13.asL T13.ds T13.chk) T13.run (by kernel_rfl) (by kernel_rfl) (by kernel_rfl) (by rfl) (by first | assumption | decide +kernel) (by decide +kernel) ⟨rfl, rfl, rfl, rfl, rfl, by decide +kernel⟩ ?hw ?hc
  case hw => w_witness2
  case hc =>
    refine Fg.walk_ofG (l := PySem.Challenge.rw_anytempo_k13_bounds_of_facts) (n := 63) (k := 13) (x := "_law_script") (CX := fun w => L2.CX T13.PP w) rfl (by decide) (by kernel_rfl) ⟨rfl, by decide, by decide⟩ ?F (fun w => T13.noX T13.PP w)
    intro w mg fa h Y G hmg0
    obtain ⟨K, KX, c⟩ := Y
    have hmg : mg ("law" : PySem.Str) = some (.ref fa) := by
      have e : (HandSHeadRun.topDef (OpenLaw.row PySem.Challenge.rw_anytempo_k13_bounds_of_facts).prog 77).name = ("law" : PySem.Str) := by kernel_rfl
      rw [← e]
      exact hmg0
    obtain ⟨fd, hb, hF⟩ := T13.facts (w := w) KX G hmg c
    exact ⟨K, fd, T13.spLaw K, KX, hb, fun H a ns hl _ hS => ⟨a, ns, rfl, hS, hl, fun _ => rfl⟩, hF⟩

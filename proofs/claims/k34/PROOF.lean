import PyProof.Rows.All
import Wide.All
import OpenK.AllK
import Wide.FinOn
import KE.KExcSuper
import HandS.Base
import HandS.Call
import HandS.List
import HandS.Exc
import HandS.ExcOwn
import HandS.TryOnly
import HandS.WordsExc
import HandS.ForMost
import HandS.Wide
import HandS.IsInst
import HandS.Gcd
import HandS.Property
import HandS.Defaults
import HandS.Star
import KE.KOpsOwn
import HandS.CallSlots
import HandS.SlotsOwn
import KE.KStateDown
import HandS.Ends
import HandS.Head0
import HandS.Head1
import HandS.Head2
import HandS.Head3
import HandS.HeadEnd
import HandS.HeadHook1
import HandS.HeadHook2
import HandS.Text
import HandS.Iter
import HandS.Comp
import HandS.RaiseMore
import HandS.Dict
import PyProof.ReprRoads
import HandS.MapJoin
import HandS.Rev
import HandS.RevTup
import PyProof.NeKinds
import PyProof.EqKinds
import PyProof.FactsAll.dict
import HandS.OwnEq
import KE.GoesMore
import PyProof.P3In
import HandS.Deep
import HandS.TupAny
import PyProof.StrBlock2
import HandS.ExcIs
import HandS.Walk
import HandS.SetFor
import KE.DataFind
import HandS.TryMany
import PyProof.ReprLen
import PyProof.Rows.RegFStrParts
import PySem.Challenge.RW_anytempo_k34_sheets_turned_and_joined
set_option Elab.async false
set_option linter.all false
set_option maxRecDepth 100000
set_option maxHeartbeats 4000000
/-! Exception classes whose __init__ says super().__init__(a text) and stores its one argument. -/
namespace Xb
open PySem PySem.W PySem.Calls PyProof.Rows
abbrev arg2 (F : Str) (p1 p2 : Pos) : Arguments :=
  { posonlyargs := [], args := [{ arg := "self", annotation := none, pos := p1 }, { arg := F, annotation := none, pos := p2 }],
    vararg := none, kwonlyargs := [], kw_defaults := [], kwarg := none, defaults := [] }
abbrev bod2 (F txt : Str) (k : Nat) (q1 q2 q3 q4 q5 q6 q7 q8 q9 q10 : Pos) : List Stmt :=
  [.Expr (.Call (.Attribute (.Call (.Name "super" q1) [] [] q2) "__init__" q3) [.Constant (.str txt) k q4] [] q5) q6,
   .Assign [.Attribute (.Name "self" q7) F q8] (.Name F q9) q10]
abbrev sco2 (F : Str) : Scope :=
  { kind := .function, names := [(PySem.Str.ofString "self", .local), (F, .local), (PySem.Str.ofString "__class__", .free), (PySem.Str.ofString "super", .globalImplicit)],
    isGenerator := false, isCoroutine := false, more := [] }
/-- the names of the one field are no other names -/
structure Nm (F : Str) : Prop where
  s : (sco2 F).names.lookup ("super" : Str) = some .globalImplicit
  c : (sco2 F).names.lookup ("__class__" : Str) = some .free
  f : (sco2 F).names.lookup F = some .local
  l : (sco2 F).names.lookup ("self" : Str) = some .local
  ne : (F == ("self" : Str)) = false
  en : (("self" : Str) == F) = false
  db : (F == ("__debug__" : Str)) = false
  b : ∀ (q : Str) (bd : List Stmt) (kV doc pm : Value) (an : Option Addr) (cd ct : Value) (cc : Addr) (p1 p2 : Pos) (u v : Value),
    bindArgs (ksFn "__init__" q (arg2 F p1 p2) bd (sco2 F) .none kV doc pm an cd ct cc) ⟨[u, v], []⟩ = pure [(("self" : Str), u), (F, v)]
theorem mcall1 {o : Expr} {name : Str} {apos pos p4 : Pos} {txt : Str} {kk : Nat} {env : Env} (h : (apos.endLine == pos.line) = true) :
    eval (.Call (.Attribute o name apos) [.Constant (.str txt) kk p4] [] pos) env = (do
      let ov ← attributeBase o name env (eval o env)
      standAt apos.atName
      let (f, first) ← holding [ov] (getMethod ov name (do return (← importBound o env).getD true))
      callWith pos f first (backTo pos (starEach [.Constant (.str txt) kk p4] env)) []) := by
  have e : ∀ ov, methodCall o name apos pos env ov 1 (backTo pos (starEach [.Constant (.str txt) kk p4] env)) [] = (do
      let (f, first) ← holding [ov] (getMethod ov name (do return (← importBound o env).getD true))
      callWith pos f first (backTo pos (starEach [.Constant (.str txt) kk p4] env)) []) := fun ov => by
    have hf : methodCallForm 1 (backTo pos (starEach [.Constant (.str txt) kk p4] env)) [] = true := rfl
    unfold methodCall methodCallPos calleeOf
    simp only [hf, h, Bool.not_true, Bool.false_or, if_true, pure_bind]
  show (do
      let ov ← attributeBase o name env (eval o env)
      standAt apos.atName
      methodCall o name apos pos env ov 1 (backTo pos (starEach [.Constant (.str txt) kk p4] env)) []) = _
  simp only [e]
theorem nm_value : Nm "value" := ⟨rfl, rfl, rfl, rfl, by decide, by decide, by decide, fun _ _ _ _ _ _ _ _ _ _ _ _ _ => rfl⟩
/-- what the written part says of the class at C and of its __init__ at fI -/
structure Txt (file : Str) (K : Frag) (q F txt : Str) (C fI : Addr) : Prop where
  nm : Nm F
  cls : ∃ nm q' N bs bm sn sub ab col dd k0 k1 k2 k3 k5, K.lookup C = some (excClassObj nm q' C N bs bm true sn sub ab col dd k0 k1 k2 k3 k5 "ValueError.__new__") ∧ HandSPX.refsVE bm = true
  sa : findIn K (.ref C) "__setattr__" = some (some (.builtin "object.__setattr__"))
  ga : findIn K (.ref C) "__getattribute__" = some (some (.builtin "BaseException.__getattribute__"))
  gg : findIn K (.ref C) "__getattr__" = some none
  noF : findIn K (.ref C) F = some none
  iC : findIn K (.ref C) "__init__" = some (some (.ref fI))
  tC : typeIn K (.ref fI) = some (.type "function")
  kC : keepIn K (.ref C) = true
  exC : subIn K (.ref C) (.type "BaseException") = some true
  veC : subIn K (.ref C) (.type "ValueError") = some true
  tyC : typeIn K (.ref C) = some (.type "type")
  hdC : hasDictIn K C = true
  te : exmOne K (.ref C) (.ref C) = some true
  sup : ks_superIn K C C "__init__" = some (some (.builtin "ValueError.__init__"))
  slf : mroIn K C (.ref C) = some true
  gs : nsIn K mainGlobals "super" = some none
  tp : nsIn K cStatics "thirdparty.any" = some none
  fn : ∃ (oc : Value) (od : Option Addr) (kV doc pm : Value) (an : Option Addr) (cda : Addr) (ct : Value) (osl : Array (Option Value)) (cc : Addr) (p1 p2 : Pos) (kk : Nat) (q1 q2 q3 q4 q5 q6 q7 q8 q9 q10 : Pos),
    K.lookup fI = some ⟨oc, od, .func (ksFn "__init__" q (arg2 F p1 p2) (bod2 F txt kk q1 q2 q3 q4 q5 q6 q7 q8 q9 q10) (sco2 F) .none kV doc pm an (.ref cda) ct cc), osl⟩ ∧ codeIn K (.ref cda) q = true ∧ (q3.endLine == q5.line) = true ∧
    (∃ ccl cdd vs ccs tf, K.lookup cda = some ⟨ccl, cdd, .fields vs, ccs⟩ ∧ vs[2]? = some (.str file tf)) ∧ (∃ cl cld csl, K.lookup cc = some ⟨cl, cld, .cell (some (.ref C)), csl⟩)
/-- behind __init__ -/
structure Done (h h' : Heap) (x C dx t1 : Addr) (F : Str) (v : Value) : Prop where
  keep : ∀ b o, b ≠ x → h.get? b = some o → h'.get? b = some o
  obj : h'.get? x = some { cls := .ref C, dict := some dx, data := .fields #[.ref t1, .none, .none, .none, .bool false, .none] }
  dbig : h.objs.size ≤ dx
  dne : dx ≠ x
  ns : h'.Ns1 dx (fun y => if y = F then some v else none)
section
variable {prog : Program} {w : World} {A : Around} {E : Value → Shared → Prop} {h : Heap} {g : Array GenState} {d : Drawn} {t : Nat} {os : OsState}
variable {nm q : Str} {C N : Addr} {bs bm : List Value} {hdct : Bool} {sn : List Str} {sub : List Value} {ab : Bool} {col : Option Bool} {dd : Option Addr} {k0 k1 k2 k3 k5 : Option Value}
/-- the bound built-in __init__ is called -/
theorem mw_call {u e t0 : Addr} {rest : List Value} {Q : Value → Shared → Prop}
    (hC : h.get? C = some (excClassObj nm q C N bs bm hdct sn sub ab col dd k0 k1 k2 k3 k5 "ValueError.__new__")) (he : h.get? e = some (HandSPX.excO C t0))
    (hu : h.get? u = some (kxs_mw "ValueError.__init__" e)) (hz : rest.length ≤ sizeLine)
    (hq : ∀ h' t1, (∀ b o, b ≠ e → h.get? b = some o → h'.get? b = some o) → h'.get? e = some (HandSPX.excO C t1) → Q .none ⟨h', g, d, t, os⟩) :
    wpAny (model prog w) A (call (.ref u) rest) Q E ⟨h, g, d, t, os⟩ := by
  have FB := F.excBase_ValueError
  have c1 : (Value.type "method-wrapper" == Value.type "method" || Value.type "method-wrapper" == Value.type "builtin_function_or_method" || Value.type "method-wrapper" == Value.type "method-wrapper") = true := by decide
  refine wpAny_call (codeAny_of_tree ?_)
  show wpAny _ A.in1 (callAny (.ref u) ⟨rest, []⟩) _ _ _
  simp only [callAny]
  refine wpAny_bind (wpAny_load hu ?_)
  simp only [kxs_mw, c1, if_true]
  refine KFB.if_so (by decide) ?_
  refine wpAny_bind (check_bound_init (initId := "ValueError.__init__") FB.toExcCallFacts hC he rfl ?_)
  refine wpAny_bind (wpAny_pure (wpAny_pure ?_))
  refine ⟨plainId_quiet FB.init.plain _, codeAny_builtin FB.initEntry ?_⟩
  refine exc_init_tree (cls := .ref C) (t0 := t0) (dv := none) (c2 := .none) (c3 := .none) (b4 := .bool false) he hz fun h' k e' _ => ?_
  exact hq h' _ k e'
end
section
variable {prog : Program} {w : World} {A : Around} {E : Value → Shared → Prop} {R : Result → Shared → Prop} {s : Shared} {K : Frag} {q F txt : Str} {C fI : Addr} {mg mb : Str → Option Value}
theorem initX (T : Txt prog.main.file K q F txt C fI) {x t0 : Addr} {v : Value} (X : K.In s.heap) (hlim : s.heap.NoLimit) (hg : s.heap.Ns mainGlobals mg) (hb : s.heap.Ns builtinsNs mb) (hbs : mb "super" = some (.type "super"))
    (htop : (prog.main.scope.names.lookup ("super" : Str)).isSome = false) (hx : s.heap.get? x = some (HandSPX.excO C t0)) (hnx : K.lookup x = none) (hroom : A.depth < recursionLimit)
    (hq : ∀ h' tk dx t1, Done s.heap h' x C dx t1 F v → R (.ok (.ret .none)) { s with heap := h', toks := tk }) :
    codeAny (model prog w) A (.call (.ref fI) ⟨[.ref x, v], []⟩) R s := by
  obtain ⟨oc, od, kV, doc, pm, an, cda, ct, osl, cc, p1, p2, kk, q1, q2, q3, q4, q5, q6, q7, q8, q9, q10, ho, hcd, hpl, ⟨ccl, cdd, vs, ccs, tf, hcode, hvs⟩, cl, cld, csl, hcell⟩ := T.fn
  obtain ⟨nm, q', N, bs, bm, sn, sub, ab, col, dd, k0, k1, k2, k3, k5, hC, hbm⟩ := T.cls
  have hcl : clsIn K C = some { name := nm, bases := bs, mro := .ref C :: bm, ns := N, qualname := q', hasDict := true, slotNames := sn, subclasses := sub, abstract := ab, collection := col, hasDel := false } := by unfold clsIn; rw [hC] <;> rfl
  refine ks_codeAny_call_defAt (fd := ksFn "__init__" q (arg2 F p1 p2) (bod2 F txt kk q1 q2 q3 q4 q5 q6 q7 q8 q9 q10) (sco2 F) .none kV doc pm an (.ref cda) ct cc) (binds := [("self", .ref x), (F, v)]) hroom (X _ _ ho) rfl hlim (codeRec_of X hcd) rfl
    (BindsTo.of_eq (T.nm.b _ _ _ _ _ _ _ _ _ _ _ _ _)) (fun y hy => ?_) (fun y hy => ?_) (fun h₁ hns hk => ?_)
  · simp only [List.mem_cons, List.not_mem_nil, or_false] at hy
    rcases hy with rfl | rfl | rfl | rfl <;> (intro z; cases z)
  · simp only [List.mem_cons, List.not_mem_nil, or_false] at hy
    rcases hy with rfl | rfl
    · exact T.nm.l
    · exact T.nm.f
  have X1 : K.In h₁ := X.keeps hk
  have g1 : h₁.Ns mainGlobals mg := hg.keeps hk
  have b1 : h₁.Ns builtinsNs mb := hb.keeps hk
  have x1 := hk _ _ hx
  have vS : ([(PySem.Str.ofString "self", Value.ref x), (F, v)] : List (Str × Value)).reverse.lookup ("self" : Str) = some (.ref x) := by
    show List.lookup ("self" : Str) [(F, v), (("self" : Str), Value.ref x)] = _
    simp [List.lookup, T.nm.en]
  have vF : ([(PySem.Str.ofString "self", Value.ref x), (F, v)] : List (Str × Value)).reverse.lookup F = some v := by
    show List.lookup F [(F, v), (("self" : Str), Value.ref x)] = _
    simp [List.lookup]
  show _root_.PySem.wpAt _ _ _ (execs (_ :: _) _) _ _ _
  refine ks_wpAt_execs_cons (ks_wpAt_Expr_any (ks_wpAt_MethodCall ?_ (mcall1 hpl)))
  obtain ⟨oD, hD1, hD2⟩ : ∃ oD, h₁.get? C = some oD ∧ oD.data = .cls { name := nm, bases := bs, mro := .ref C :: bm, ns := N, qualname := q', hasDict := true, slotNames := sn, subclasses := sub, abstract := ab, collection := col, hasDel := false } := ⟨_, X1 _ _ hC, rfl⟩
  have I1 : InstAt h₁ x (HandSPX.excO C t0) C none := ⟨x1, rfl, rfl, trivial⟩
  refine ks_wpAt_super_base T.nm.s T.nm.c (by decide) rfl (X1 _ _ ho) rfl rfl rfl (X1 _ _ hcode) rfl hvs (beq_self_eq_true _) htop ?_
  refine ks_loadName_global rfl T.nm.s (loadGlobal_builtin g1 (mg_none_of X1 g1 T.gs) b1 hbs ⟨rfl, ?_⟩)
  refine wpAny_loadName_free rfl T.nm.c (by rfl) ⟨_, X1 _ _ hcell, rfl⟩ ?_
  refine wpAny_loadName_local rfl T.nm.l hns vS ?_
  refine ks_wpAny_isType_cls hD1 hD2 ⟨rfl, ?_⟩
  refine ks_wpAny_call_super hD1 hD2 x1 rfl (fun c e => by cases e) (looks_mroIn X1 T.slf) (fun h₂ e2 k2' => ?_)
  have X2 : K.In h₂ := X1.keeps k2'
  have x2 := k2' _ _ x1
  have n2 : h₂.Ns s.heap.objs.size (fun y => ([(PySem.Str.ofString "self", Value.ref x), (F, v)] : List (Str × Value)).reverse.lookup y) := hns.keeps k2'
  have I2 : InstAt h₂ x (HandSPX.excO C t0) C none := ⟨x2, rfl, rfl, trivial⟩
  have hxC : x ≠ C := ks_ne X2 I2 hcl
  have hsup := T.sup
  unfold ks_superIn at hsup
  rw [hcl] at hsup
  have hI : Looks (model prog w) h₂ (isInstance (.ref x) (.type "ValueError")) true := I2.type.andThen (looks_subIn X2 T.veC)
  show wpAny _ _ (getMethod (.ref h₁.objs.size) "__init__" _) _ _ _
  refine kxs_getMethod kxs_ValueError e2 (looks_opaque X2 T.tp) (l₀ := .ref C :: bm) (fun A Q E s k z => wpAny_bind ((looks_clsIn X2 hcl) A _ E s k (wpAny_pure z))) rfl X2 hsup hI hxC (by decide) ?_
  have k3' : ∀ b o, h₂.get? b = some o → (h₂.push (kxs_mw "ValueError.__init__" x)).get? b = some o := fun b o e => Heap.get?_push_of_some _ e
  have u3 : (h₂.push (kxs_mw "ValueError.__init__" x)).get? h₂.objs.size = some (kxs_mw "ValueError.__init__" x) := Heap.get?_push_size _ rfl
  refine kxs_callWith (i := "ValueError.__init__") (x := x) rfl (evalArgs_plain (spliced_cons (Constant_str (k := kk) (pos := q4) (spliced_nil ⟨u3, ?_⟩))))
  refine mw_call (k3' _ _ (X2 _ _ hC)) (k3' _ _ x2) u3 (by show 1 ≤ sizeLine; rw [sizeLine_eq]; omega) fun h₄ t1 k4 x4 => ?_
  have X4 : K.In h₄ := fun a o e => k4 a o (fun z => by rw [z, hnx] at e; cases e) (k3' _ _ (X2 _ _ e))
  have hxL : s.heap.objs.size ≠ x := Nat.ne_of_gt (Heap.lt_size hx)
  have n4 : h₄.Ns s.heap.objs.size (fun y => ([(PySem.Str.ofString "self", Value.ref x), (F, v)] : List (Str × Value)).reverse.lookup y) := by
    obtain ⟨o, es, ep, e, r⟩ := n2
    exact ⟨o, es, ep, k4 _ _ hxL (k3' _ _ e), r⟩
  show _root_.PySem.wpAt _ _ _ (execs (_ :: _) _) _ _ _
  refine wpAt_of_wpAny (wpAny_execs_cons (plainObj_wpAny_Assign_Attribute ?_))
  refine wpAny_Name (wpAny_loadName_local rfl T.nm.f n4 vF ?_) T.nm.db
  refine wpAny_Name (wpAny_loadName_local rfl T.nm.l n4 vS ?_) (by decide)
  refine set_plain X4 (ox := HandSPX.excO C t1) (od := none) ⟨x4, rfl, rfl, trivial⟩ T.sa ?_
  refine HandSPX.exc_osa X4 x4 hcl (show HandSPX.refsVE (.ref C :: bm) = true from hbm) rfl T.noF (fun h₅ tk₅ dx k₅ dn dne hx₅ hn₅ => ?_)
  show wpAny _ _ (execs _ _) _ _ _
  have z4 : ∀ b o, b ≠ x → s.heap.get? b = some o → h₄.get? b = some o := fun b o hb e => k4 b o hb (k3' _ _ (k2' _ _ (hk _ _ e)))
  refine wpAny_execs_nil (hq h₅ tk₅ dx t1 ⟨fun b o hb e => k₅ b o hb (z4 b o hb e), hx₅, ?_, dne, hn₅⟩)
  obtain ⟨o4, es4, ep4, e4, _⟩ := n4
  exact Nat.le_of_lt (Nat.lt_of_lt_of_le (Heap.lt_size e4) dn)

/-- a made one -/
structure Made (h h' : Heap) (e C d : Addr) (F : Str) (v : Value) : Prop where
  keep : ∀ b o, h.get? b = some o → h'.get? b = some o
  new : h.objs.size ≤ e
  obj : ∃ t1 : Addr, h'.get? e = some { cls := .ref C, dict := some d, data := .fields #[.ref t1, .none, .none, .none, .bool false, .none] }
  dbig : h.objs.size ≤ d
  dne : d ≠ e
  ns : h'.Ns1 d (fun y => if y = F then some v else none)
theorem madeX (T : Txt prog.main.file K q F txt C fI) {v : Value} (X : K.In s.heap) (hlim : s.heap.NoLimit) (hg : s.heap.Ns mainGlobals mg) (hb : s.heap.Ns builtinsNs mb) (hbs : mb "super" = some (.type "super"))
    (htop : (prog.main.scope.names.lookup ("super" : Str)).isSome = false) (hroom : A.depth + 1 < recursionLimit)
    (hq : ∀ h' tk e d, Made s.heap h' e C d F v → R (.ok (.ret (.ref e))) { s with heap := h', toks := tk }) :
    codeAny (model prog w) A (.call (.ref C) ⟨[v], []⟩) R s := by
  obtain ⟨nm, q', N, bs, bm, sn, sub, ab, col, dd, k0, k1, k2, k3, k5, hC, hbm⟩ := T.cls
  obtain ⟨hp, g, dr, tk, os⟩ := s
  have k : ∀ b o, hp.get? b = some o → ((hp.push (kdv_tup [v])).push (HandSPX.excO C hp.objs.size)).get? b = some o := fun b o e => Heap.get?_push_of_some _ (Heap.get?_push_of_some _ e)
  have hget : ((hp.push (kdv_tup [v])).push (HandSPX.excO C hp.objs.size)).get? (hp.objs.size + 1) = some (HandSPX.excO C hp.objs.size) := by heap_get
  have hnx : K.lookup (hp.objs.size + 1) = none := by
    cases e : K.lookup (hp.objs.size + 1) with
    | none => rfl
    | some o =>
      have z : hp.get? (hp.objs.size + 1) = some o := X _ _ e
      exact absurd (Nat.lt_of_succ_lt (Heap.lt_size z)) (Nat.lt_irrefl _)
  refine HandSPX.call_own _root_.PySem.F.excBase_ValueError (fun X => HandSPX.refsVE_contains X bm hbm) (X _ _ hC) (looks_findIn X T.iC) (fun self => bind_fn X self T.tC) (by show 1 ≤ sizeLine; rw [sizeLine_eq]; omega) ?_
  refine initX (s := ⟨(hp.push (kdv_tup [v])).push (HandSPX.excO C hp.objs.size), g, dr, tk, os⟩) T (X.keeps k) (hlim.keeps k) (hg.keeps k) (hb.keeps k) hbs htop hget hnx ?_ fun h' tk' dx t1 D => ?_
  · show A.depth + 1 < recursionLimit
    exact hroom
  · have old : ∀ b o, hp.get? b = some o → h'.get? b = some o := fun b o e => D.keep b o (Nat.ne_of_lt (Nat.lt_succ_of_lt (Heap.lt_size e))) (k b o e)
    have z : hp.objs.size + 1 + 1 ≤ dx := by
      have q := D.dbig
      simp only [Heap.size_push] at q
      exact q
    exact ⟨rfl, hq h' tk' (hp.objs.size + 1) dx ⟨old, Nat.le_succ _, ⟨_, D.obj⟩, Nat.le_trans (Nat.le_trans (Nat.le_succ _) (Nat.le_succ _)) z, D.dne, D.ns⟩⟩
end
end Xb
set_option Elab.async false
set_option linter.all false
set_option maxRecDepth 100000
set_option maxHeartbeats 4000000
namespace Xb
open PySem PySem.Spec PyProof.Rows L2
theorem boot_super : bootBuiltins "super" = some (.type "super") := by decide +kernel
theorem relO_one {F : Str} {v : V} {v' : Value} (r : RelV v v') (f : Str) : RelO (List.lookup f [(F, v)]) (if f = F then some v' else none) := by
  by_cases hw : f = F
  · subst hw
    rw [if_pos rfl]
    have q : List.lookup f [(f, v)] = some v := by simp [List.lookup]
    rw [q]
    exact r
  · rw [if_neg hw]
    have qw : (f == F) = false := by simpa using hw
    have q2 : List.lookup f [(F, v)] = none := by simp [List.lookup, qw]
    rw [q2]
    trivial
section
variable {X : Cx} {C fI : Addr} {q F txt : Str}
/-- C(e), to be raised -/
def tMkX (C : Addr) (F : Str) (ta : TA) : L2.St → Hp → XK → Prop := fun σ H Q => ta σ H fun vs H1 => ∃ v, vs = [v] ∧ ∀ d, H1 d = none → Q (.ref C) (some d) (upd H1 d (.xd [(F, v)]))
theorem pmk_x {x : Str} {a : Expr} {ta : TA} {p pos : Pos} {k : Nat} (T : Txt X.prog.main.file X.K q F txt C fI) (hm : X.mg x = some (.ref C)) (htop : (X.prog.main.scope.names.lookup ("super" : Str)).isSome = false) (hr : Room k X.A) (ha : PA X [a] ta) (hg : Gl X x := by rfl)
    (hdb : (x == ("__debug__" : Str)) = false := by decide)
    (he : starEach (a :: []) X.env = (false, eval a X.env) :: starEach [] X.env := by rfl) (hpl : (backTo pos (starEach [] X.env)).any (·.1) = false := by rfl) :
    PMk X (.Call (.Name x p) [a] [] pos) (tMkX C F ta) := by
  intro pins s σ H Q I h
  refine wpAny_Call_Name_kw (ld_glob I hg hm ?_ hdb)
  refine PySem.W.callWith_K (h₀ := X.base) I.ok.mod.kin T.kC (thn (ha.run pos pins s σ H _ I h) fun us s1 hh => ?_) he hpl
  obtain ⟨vs, H1, I1, r1, v, ev, q1⟩ := hh
  subst ev
  refine ⟨I1.kIn, ?_⟩
  cases r1 with
  | cons rv rn =>
    rename_i v' us'
    cases rn
    show wpAny _ _ (call (.ref C) [v']) _ _ _
    have hlim := I1.nolimit
    have M := I1.mod
    have hns : s1.heap.Ns mainGlobals X.mg := M.glob.keeps I1.bk
    obtain ⟨mb, hb, hbb⟩ := M.blt
    have hb1 : s1.heap.Ns builtinsNs mb := hb.keeps I1.bk
    have hbs : mb "super" = some (.type "super") := (hbb _ (by decide)).trans boot_super
    obtain ⟨hp, g, dr, tk, os⟩ := s1
    refine wpAny_call (madeX T I1.kIn hlim hns hb1 hbs htop (by have := hr.dp; omega) fun h' tk' e d M => ?_)
    show MkP X pins σ Q (.ref e) ⟨h', g, dr, tk', os⟩
    obtain ⟨t1, hoe⟩ := M.obj
    obtain ⟨G', g1, g2⟩ := restrict h' fun b => decide (b ≠ e)
    have gk : ∀ b, b ≠ e → G'.get? b = h'.get? b := fun b hb => g1 b (decide_eq_true hb)
    have ge : G'.get? e = none := g2 e (by simp)
    have old : ∀ b o, hp.get? b = some o → G'.get? b = some o := fun b o q => (gk b (Nat.ne_of_lt (Nat.lt_of_lt_of_le (Heap.lt_size q) M.new))).trans (M.keep b o q)
    have ob : ObjOk X.prog X.w (upd H1 d (.xd [(F, v)])) G' d (.xd [(F, v)]) :=
      ⟨_, M.ns.at (fun o q => (gk d M.dne).trans q), fun f => relO_one rv f⟩
    have J : Inv X pins σ (upd H1 d (.xd [(F, v)])) ⟨G', g, dr, tk', os⟩ := I1.laid (t' := tk') old M.dbig ob
    refine ⟨e, _, _, ⟨G', g, dr, tk', os⟩, _, .ref C, some d, rfl, J, fun b o q => ?_, ge, hoe, ⟨rfl, rfl⟩, rfl, rfl, ?_, rfl, I1.bare, raises_own T.exC T.tyC, q1 d (I1.hok.fresh M.dbig)⟩
    · by_cases hb : b = e
      · have q' : G'.get? b = some o := q
        rw [hb, ge] at q'; cases q'
      · exact (gk b hb).symm.trans q
    · rw [upd_ne (Ne.symm M.dne)]
      exact I1.hok.fresh M.new
/-- raise C(e) -/
def tRaiseX (C : Addr) (F : Str) (W : WX) (ta : TA) : TS := fun _ σ H => tMkX C F ta σ H fun cls d H' => W cls d σ H'
theorem ps_raiseX {x : Str} {a : Expr} {ta : TA} {W : WX} {p pos pos2 : Pos} {k : Nat} (hc : X.calm = true) (T : Txt X.prog.main.file X.K q F txt C fI) (hm : X.mg x = some (.ref C)) (htop : (X.prog.main.scope.names.lookup ("super" : Str)).isSome = false) (hr : Room k X.A) (tk : Takes X W) (ha : PA X [a] ta) (hg : Gl X x := by rfl)
    (hdb : (x == ("__debug__" : Str)) = false := by decide)
    (he : starEach (a :: []) X.env = (false, eval a X.env) :: starEach [] X.env := by rfl) (hpl : (backTo pos (starEach [] X.env)).any (·.1) = false := by rfl) :
    PS X (.Raise (some (.Call (.Name x p) [a] [] pos)) none pos2) (tRaiseX C F W ta) := ps_raise hc tk (pmk_x T hm htop hr ha hg hdb he hpl)
/-- e.F, e the exception that the suite holds (at a; its class cls, its dict d) -/
def tByX (C : Addr) (F : Str) (a : Addr) (cls : Value) (d : Option Addr) (te : TE) : TE := fun σ H Q => te σ H fun x H1 => x = .ref a ∧ cls = .ref C ∧ ∃ (dd : Addr) (v : V), d = some dd ∧ H1 dd = some (.xd [(F, v)]) ∧ Q v H1
theorem pe_byX {a : Addr} {oe : Obj} {cls : Value} {d : Option Addr} {pn : List (Addr × Obj)} {e : Expr} {te : TE} {pos : Pos} (T : Txt X.prog.main.file X.K q F txt C fI) (hz : Zc cls d oe) (hf : ∃ vs, oe.data = .fields vs) (he : PE (X.suite a ((a, oe) :: pn)) e te)
    (hb : attributeBase e F X.env (eval e X.env) = eval e X.env := by rfl) :
    PE (X.suite a ((a, oe) :: pn)) (.Attribute e F pos) (tByX C F a cls d te) := by
  refine ⟨fun pins s σ H Q I h => ?_⟩
  refine attr_of hb (thn (he.run pins s σ H _ I h) fun u s1 hh => ?_)
  obtain ⟨x, H1, I1, rx, ex, ec, dd, v, ed, ea, q⟩ := hh
  subst ex
  obtain rfl : u = Value.ref a := rx
  subst ec
  subst ed
  obtain ⟨ha, _⟩ := I1.pin (a, oe) (List.mem_append_left _ List.mem_cons_self)
  obtain ⟨vs, hd⟩ := hf
  have hx : ObjOk X.prog X.w H1 s1.heap dd (.xd [(F, v)]) := I1.hok dd _ ea
  obtain ⟨mA, hns, hr⟩ := hx
  obtain ⟨od, ho, hl⟩ := lookIn_ns hns
  have l : List.lookup F [(F, v)] = some v := by simp [List.lookup]
  obtain ⟨u, hu, ru⟩ := RelO.some_of (v := v) (o := mA F) (by rw [← l]; exact hr F)
  have J : PySem.W.InstAt s1.heap a oe C (some od) := ⟨ha, hz.1, by unfold PySem.W.notCls; rw [hd] <;> rfl, by rw [hz.2]; exact ho⟩
  exact HandSPX.exc_get I1.kIn J T.ga T.gg T.exC (PySem.W.findObj_own T.hdC T.noF rfl (by rw [hl, hu])) (handed_of ru) ⟨v, H1, I1.tok _, ru, q⟩
end
end Xb
set_option Elab.async false
set_option linter.all false
set_option maxRecDepth 100000
set_option maxHeartbeats 4000000
namespace Fa
open PySem PySem.Spec PyProof.Rows L2
/-! ### the draws of the laws: a box of three ints -/
/-- a box at p, of which fewer than n draws were taken by the second way -/
def Box (H : Hp) (p : Addr) (n : Nat) : Prop := ∃ a b c : Int, H p = some (.lst [.int a, .int b, .int c]) ∧ 0 ≤ a ∧ 0 ≤ b ∧ b < 2147483648 ∧ 0 ≤ c ∧ c ≤ (n : Int)
theorem Box.mono {H : Hp} {p : Addr} {n m : Nat} (h : Box H p n) (e : n ≤ m) : Box H p m := by
  obtain ⟨a, b, c, h1, h2, h3, h4, h5, h6⟩ := h
  exact ⟨a, b, c, h1, h2, h3, h4, h5, by omega⟩
/-- all but p is as it was -/
def But (p : Addr) (H H' : Hp) : Prop := ∀ q, q ≠ p → H' q = H q
theorem But.refl (p : Addr) (H : Hp) : But p H H := fun _ _ => rfl
theorem But.trans {p : Addr} {H H1 H2 : Hp} (a : But p H H1) (b : But p H1 H2) : But p H H2 := fun q h => (b q h).trans (a q h)
theorem But.upd {p : Addr} {H : Hp} {o : HO} : But p H (upd H p o) := fun _ h => upd_ne h
def spCel (K : PySem.W.Frag) : Sp := fun vs H Q _ => ∃ (l : Addr) (ns : List Int) (j : Nat), vs = [.ref l, .int (j : Int)] ∧ SqL K H l (ns.map V.int) ∧ j ≤ 1000 ∧ ∀ z : Int, Q (.int z) H
def spBox : Sp := fun vs H Q _ => ∃ c : Int, vs = [.int c] ∧ ∀ p H', H p = none → (∀ q, q ≠ p → H' q = H q) → Box H' p 0 → Q (.ref p) H'
def spTake : Sp := fun vs H Q _ => ∃ (p : Addr) (m : Int) (n : Nat), vs = [.ref p, .int m] ∧ Box H p n ∧ n ≤ 1000000 ∧ 0 < m ∧ m < 2 ^ 1000 ∧ ∀ (z : Int) (H' : Hp), 0 ≤ z → z < m → Box H' p (n + 1) → But p H H' → Q (.int z) H'
theorem cdivW {a m : Int} (h : 0 < m) (h2 : m < 2 ^ 1000) : CDivW a m := ⟨h, by
  have e : m.natAbs < 2 ^ 1000 := by omega
  exact Nat.lt_of_lt_of_le ((Nat.log2_lt (by omega)).mpr e) (by omega)⟩
theorem atI3 {α : Type} {a b c : α} (i : Int) (h0 : i = 0 ∨ i = 1 ∨ i = 2) : atI [a, b, c] i = some (if i = 0 then a else if i = 1 then b else c) := by
  rcases h0 with rfl | rfl | rfl <;> rfl
end Fa
set_option Elab.async false
set_option linter.all false
set_option maxRecDepth 100000
set_option maxHeartbeats 4000000
namespace K34
open PySem PySem.Spec PyProof.Rows L2 Fa
def top (i : Nat) : Stmt := PySem.Challenge.pw_anytempo_k34_sheets_turned_and_joined.main.body.getD i (.Pass ⟨0, 0, 0, 0⟩)
abbrev FnP (K : PySem.W.Frag) (x : Str) (st : Stmt) (f : Addr) (fd : FuncData) : Prop := FunD K x x (defArgs st) (defBody st) (defScope st) [] [] f fd

abbrev sCell : Stmt := top 50
abbrev sBox : Stmt := top 51
abbrev sTake : Stmt := top 52
theorem scCell : FnScope ["_law_script", "_law_k"] ["_law_script", "_law_k"] (defScope sCell) := ⟨rfl, rfl, rfl, by decide +kernel, rfl, by decide +kernel, by decide +kernel⟩
theorem scBox : FnScope ["_law_cell_here"] ["_law_cell_here"] (defScope sBox) := ⟨rfl, rfl, rfl, by decide +kernel, rfl, by decide +kernel, by decide +kernel⟩
theorem scTake : FnScope ["_law_box_here", "_law_many", "_law_digit", "_law_mixed_here"] ["_law_box_here", "_law_many"] (defScope sTake) := ⟨rfl, rfl, rfl, by decide +kernel, rfl, by decide +kernel, by decide +kernel⟩
section
variable {P : Program} {w : World} {K : PySem.W.Frag} {mg : Str → Option Value} {base : Heap} {f : Addr} {fd : FuncData}
theorem ok_cell (F : FnP K "_law_cell" sCell f fd) (mL : mg "len" = none) : FnOk P w K mg base CX0 1 f fd ["_law_script", "_law_k"] (spCel K) := by
  refine F.ok scCell (fun vs H Q E h => ?_) (fun cdv A outer s H vs Q E hr h => ?_)
  · obtain ⟨l, ns, j, rfl, _⟩ := h
    rfl
  · obtain ⟨l, ns, j, rfl, hs, hj, q⟩ := h
    refine ⟨_, PSs.nox (pss_cons (ps_if (pt_cmpR op_lt (pv 1) (pe_callB call_len rfl mL boot_len (pa_cons (pv 0) pa_nil)) (nomark _)) (pss_one (ps_ret (pe_ix ix_list (pv 0) (pv 1) (fun _ _ => rfl)))) pss_nil)
      (pss_one (ps_ret (pe_op op_add (pe_op op_mul pe_int (pv 1)) pe_int)))), ?_⟩
    refine ⟨_, rfl, _, rfl, _, (ns.map V.int).length, rfl, .inl ⟨_, hs, rfl⟩, _, _, rfl, rfl, _, rfl, ?_⟩
    refine ite2 (fun c => ?_) (fun c => ?_)
    · have c2 := of_decide_eq_true c
      have c3 : j < ns.length := by
        rw [List.length_map] at c2
        omega
      have e : atI (ns.map V.int) (j : Int) = some (.int ns[j]) := atI_nat (by
        rw [List.getElem?_map, List.getElem?_eq_getElem c3]
        rfl)
      exact ⟨_, rfl, _, rfl, l, _, _, _, rfl, rfl, hs, e, q _⟩
    · refine ⟨_, rfl, _, _, rfl, rfl, .inl ⟨by decide, by decide⟩, _, _, rfl, rfl, q _⟩
theorem ok_box (F : FnP K "_law_box" sBox f fd) (mM : mg "max" = none) : FnOk P w K mg base CX0 1 f fd ["_law_cell_here"] spBox := by
  refine F.ok scBox (fun vs H Q E h => ?_) (fun cdv A outer s H vs Q E hr h => ?_)
  · obtain ⟨c, rfl, _⟩ := h
    rfl
  · obtain ⟨c, rfl, q⟩ := h
    refine ⟨_, PSs.nox (pss_one (ps_ret (pe_lst (pa_cons (pe_callB (call_max2 rfl) rfl mM (by decide +kernel) (pa_cons pe_int (pa_cons (pe_op op_sub (pv 0) (pe_op op_pow pe_int pe_int)) pa_nil)))
      (pa_cons (pe_op op_mod (pv 0) pe_int) (pa_cons pe_int pa_nil)))))), ?_⟩
    refine ⟨_, rfl, _, _, rfl, rfl, ⟨by decide, by decide, by decide⟩, _, _, rfl, rfl, _, _, rfl, ?_⟩
    refine ⟨_, rfl, _, _, rfl, rfl, (by show (0 : Int) < 2147483629; decide), (by show 3 ≤ sizeLine; decide), fun p hp => ?_⟩
    refine q p _ hp (fun z hz => upd_ne hz) ⟨_, _, _, upd_same, ?_, ?_, ?_, by decide, by decide⟩
    · split <;> omega
    · exact Int.emod_nonneg _ (by decide)
    · exact Int.lt_trans (Int.emod_lt_of_pos _ (by decide)) (by decide)
theorem ok_take (F : FnP K "_law_take" sTake f fd) : FnOk P w K mg base CX0 1 f fd ["_law_box_here", "_law_many"] spTake := by
  refine F.ok scTake (fun vs H Q E h => ?_) (fun cdv A outer s H vs Q E hr h => ?_)
  · obtain ⟨p, m, n, rfl, _⟩ := h
    rfl
  · obtain ⟨p, m, n, rfl, ⟨a, b, c, hp, ha, hb, hb2, hc, hc2⟩, hn, hm, hm2, q⟩ := h
    refine ⟨_, PSs.nox (pss_cons (ps_if (pt_cmpR op_gt (pe_ix ix_list (pv 0) pe_int (fun _ _ => rfl)) pe_int (nomark _))
        (pss_cons (ps_set (i := 2) scTake.nd rfl (Or.inl rfl) (pe_op op_mod (pe_ix ix_list (pv 0) pe_int (fun _ _ => rfl)) (pv 1)))
        (pss_cons (ps_asg (pe_op op_fdivW (pe_ix ix_list (pv 0) pe_int (fun _ _ => rfl)) (pv 1)) (pg_sub (pv 0) pe_int set_list))
        (pss_one (ps_ret (pv 2))))) pss_nil)
      (pss_cons (ps_asg (pe_op op_add (pe_ix ix_list (pv 0) pe_int (fun _ _ => rfl)) pe_int) (pg_sub (pv 0) pe_int set_list))
      (pss_cons (ps_set (i := 3) scTake.nd rfl (Or.inl rfl) (pe_op op_mod (pe_op op_pow (pe_op op_add (pe_op op_add (pe_ix ix_list (pv 0) pe_int (fun _ _ => rfl)) (pe_op op_mul pe_int (pe_ix ix_list (pv 0) pe_int (fun _ _ => rfl)))) pe_int) pe_int) pe_int))
      (pss_cons (ps_set (i := 3) scTake.nd rfl (Or.inl rfl) (pe_op op_mod (pe_op op_pow (pe_op op_add (pv 3) (pe_op op_mul pe_int (pe_ix ix_list (pv 0) pe_int (fun _ _ => rfl)))) pe_int) pe_int))
      (pss_one (ps_ret (pe_op op_mod (pe_op op_fdiv (pv 3) pe_int) (pv 1)))))))), ?_⟩
    refine ⟨_, rfl, p, _, _, _, rfl, rfl, SqL.of hp, rfl, _, _, rfl, rfl, _, rfl, ?_⟩
    refine ite2 (fun t => ?_) (fun t => ?_)
    · have t2 : (0 : Int) < a := of_decide_eq_true t
      refine ⟨_, rfl, p, _, _, _, rfl, rfl, SqL.of hp, rfl, _, rfl, _, _, rfl, rfl, hm, ?_⟩
      refine ⟨_, rfl, p, _, _, _, rfl, rfl, SqL.of hp, rfl, _, rfl, _, _, rfl, rfl, cdivW hm hm2, ?_⟩
      refine ⟨_, rfl, p, _, _, _, rfl, rfl, hp, rfl, ?_⟩
      refine ⟨_, rfl, ?_⟩
      refine q _ _ (Int.emod_nonneg _ (by omega)) (Int.emod_lt_of_pos _ hm) ⟨_, _, _, upd_same, Int.ediv_nonneg ha (by omega), hb, hb2, hc, by omega⟩ But.upd
    · refine ⟨_, rfl, p, _, _, _, rfl, rfl, SqL.of hp, rfl, _, _, rfl, rfl, _, rfl, p, _, _, _, rfl, rfl, hp, rfl, ?_⟩
      have s1 : SqL K (upd H p (.lst [.int a, .int b, .int (c + 1)])) p [.int a, .int b, .int (c + 1)] := SqL.of upd_same
      refine ⟨_, rfl, p, _, _, _, rfl, rfl, s1, rfl, _, rfl, p, _, _, _, rfl, rfl, s1, rfl, _, _, rfl, rfl, .inl ⟨by decide, by decide⟩, _, _, rfl, rfl, _, _, rfl, rfl, _, _, rfl, rfl, ⟨by decide, by decide, ?_⟩, _, _, rfl, rfl, (by show (0 : Int) < 2147483647; decide), ?_⟩
      · show (b + 15489409 * (c + 1) + 1663).natAbs < 2 ^ 64
        omega
      have g1 : 0 ≤ (b + 15489409 * (c + 1) + 1663) ^ Int.toNat 5 % 2147483647 := Int.emod_nonneg _ (by decide)
      have g2 : (b + 15489409 * (c + 1) + 1663) ^ Int.toNat 5 % 2147483647 < 2147483647 := Int.emod_lt_of_pos _ (by decide)
      refine ⟨_, rfl, _, rfl, p, _, _, _, rfl, rfl, s1, rfl, _, _, rfl, rfl, .inl ⟨by decide, by decide⟩, _, _, rfl, rfl, _, _, rfl, rfl, ⟨by decide, by decide, ?_⟩, _, _, rfl, rfl, (by show (0 : Int) < 2147483587; decide), ?_⟩
      · show ((b + 15489409 * (c + 1) + 1663) ^ Int.toNat 5 % 2147483647 + 104711 * (c + 1)).natAbs < 2 ^ 64
        omega
      refine ⟨_, rfl, _, _, rfl, rfl, ⟨by decide, by decide⟩, _, rfl, _, _, rfl, rfl, hm, ?_⟩
      exact q _ _ (Int.emod_nonneg _ (by omega)) (Int.emod_lt_of_pos _ hm) ⟨_, _, _, upd_same, ha, hb, hb2, by omega, by omega⟩ But.upd
end

end K34
set_option Elab.async false
set_option linter.all false
set_option maxRecDepth 100000
set_option maxHeartbeats 4000000
namespace Fb
open PySem PySem.W PySem.Calls PyProof.Rows
section
variable {prog : Program} {w : World} {A : Around} {E : Value → Shared → Prop} {s : Shared} {K : Frag} {x C L f : Addr} {h₀ : Heap} {m : Str → Option Value} {ox : Obj} {od : Option Obj} {T : String}
/-- x op b, x an instance with its own def for op, b of a built-in type T (b may be an object) -/
theorem bin_any {op : Operator} {b : Value} {fo ro rc : Option Value} {Q : Value → Shared → Prop}
    (X : K.In s.heap) (I : InstAt s.heap x ox C od) (hb : ∀ M : Model, Looks M s.heap (typeOf b) (.type T)) (hc : selfFirst K C = true)
    (hs : findIn K (.ref C) (PySem.dunder op.info.2) = some (some (.ref f))) (hf : isFn K (.ref f) = true)
    (hr : findIn K (.ref C) (dunderR op.info.2) = some rc) (hp : rc = none ∨ ∃ g : Addr, rc = some (.ref g))
    (h1 : findIn K (.type T) (PySem.dunder op.info.2) = some fo) (h2 : findIn K (.type T) (dunderR op.info.2) = some ro) (hsub : subIn K (.type T) (.ref C) = some false)
    (h : wpAny (model prog w) A (call (.ref f) [.ref x, b]) (W.CmpBack Q) E s) : wpAny (model prog w) A (binaryOp op (.ref x) b) Q E s := by
  obtain ⟨cd, rest, hcd, hm⟩ := ksp_first hc
  rcases hi : op.info with ⟨sym, nm⟩
  rw [hi] at hs hr h1 h2
  dsimp only at hs hr h1 h2
  have one := ksp_try X I hs hf h
  obtain ⟨hh, g, d, tt, os⟩ := s
  have A1 : Looks (model prog w) hh (typeOf (.ref x)) (.ref C) := I.type
  have A2 : Looks (model prog w) hh (typeOf b) (.type T) := hb _
  have A3 : Looks (model prog w) hh (fillsNumberSlot (.ref C) nm) true := fills_K X hcd hm hs
  have A4 := ksp_fillsT (M := model prog w) (nm := nm) (T := T) X h1 h2
  have A5 : Looks (model prog w) hh (isSubtype (.type T) (.ref C)) false := looks_subIn X hsub
  have A6 : Looks (model prog w) hh (numberSlotInPython (.ref C) nm) true := ksp_inPy X hs hr hp
  have A7 : Looks (model prog w) hh (numberSlotInPython (.type T) nm) false := Looks.of_pure rfl
  have A8 : Looks (model prog w) hh (typeLookup (.type T) (dunderR nm)) ro := looks_findIn X h2
  generalize ((fo.isSome && !isSeqSlot fo) || (ro.isSome && !isSeqSlot ro)) = rt at A4
  have ne : (Value.ref C == Value.type T) = false := Bool.eq_false_iff.mpr fun z => by cases beq_iff_eq.mp z
  simp only [binaryOp, hi]
  refine wpAny_holding (wpAny_bind ?_)
  unfold binaryOp1
  refine wpAny_bind (A1.at (wpAny_bind (A2.at (wpAny_bind (A3.at ?_)))))
  simp only [ne, Bool.false_eq_true, if_false]
  cases rt <;>
  · ksp_lk
    refine wpAny_mono one (fun r s' z => ?_) fun _ _ e => e
    obtain ⟨v, rfl, hq⟩ := z
    ksp_lk
    exact hq
end
end Fb
namespace Fb
open PySem PySem.Spec PyProof.Rows L2
/-- an own operator of the class C, at the def f -/
structure OwnOp (K : PySem.W.Frag) (C : Addr) (nm : String) (f : Addr) : Prop where
  sf : PySem.W.selfFirst K C = true
  at_ : PySem.W.findIn K (.ref C) (PySem.dunder nm) = some (some (.ref f))
  fn : PySem.W.isFn K (.ref f) = true
  nr : PySem.W.findIn K (.ref C) (dunderR nm) = some none
/-- a built-in type at the right of it -/
def TyOp (K : PySem.W.Frag) (C : Addr) (nm : String) (T : String) : Prop := ∃ fo ro, PySem.W.findIn K (.type T) (PySem.dunder nm) = some fo ∧ PySem.W.findIn K (.type T) (dunderR nm) = some ro ∧ PySem.W.subIn K (.type T) (.ref C) = some false
/-- what may stand at the right -/
def RK (K : PySem.W.Frag) (C : Addr) (nm : String) (H : Hp) (y : V) : Prop := (∃ q dy gs, y = .ref q ∧ H q = some (.ins C dy gs)) ∨ ∃ T, TyX K H y (.type T) ∧ TyOp K C nm T
def tBinX (K : PySem.W.Frag) (C : Addr) (nm : String) (sp : Sp) (E : L2.St → XK) (ta tb : TE) : TE := fun σ H Q => ta σ H fun x H1 => tb σ H1 fun y H2 => ∃ p dx fs, x = .ref p ∧ H2 p = some (.ins C dx fs) ∧ RK K C nm H2 y ∧ sp [x, y] H2 Q (E σ)
def tUnX (C : Addr) (sp : Sp) (E : L2.St → XK) (ta : TE) : TE := fun σ H Q => ta σ H fun x H1 => ∃ p dx fs, x = .ref p ∧ H1 p = some (.ins C dx fs) ∧ sp [x] H1 Q (E σ)
section
variable {X : Cx} {CX : CXT} {k : Nat} {f C : Addr} {fd : FuncData} {ps : List Str} {sp : Sp} {E : L2.St → XK} {a b : Expr} {ta tb : TE} {pos : Pos}
theorem pe_binX {op : Operator} (W : OwnOp X.K C op.info.2 f) (F : FnOk X.prog X.w X.K X.mg X.base CX k f fd ps sp) (hr : Room k X.A) (hb : Binds X.K fd ps []) (hx : ∀ σ, PassesAt CX X σ (E σ)) (ha : PE X a ta) (hb2 : PE X b tb) :
    PE X (.BinOp a op b pos) (tBinX X.K C op.info.2 sp E ta tb) := by
  refine ⟨fun pins s σ H Q I h => ?_⟩
  refine wpAny_BinOp (bin ha hb2 I h fun v u s2 x y H2 I2 rx ry q => ?_)
  obtain ⟨p, dx, fs, ex, hp, rk, q⟩ := q
  subst ex
  obtain rfl : v = Value.ref p := rx
  obtain ⟨mA, O, _⟩ := ins_get I2.hok hp
  obtain ⟨od, J, _⟩ := O.look
  have go : wpAny (model X.prog X.w) X.A (call (.ref f) [.ref p, u]) (PySem.W.CmpBack (EP X pins σ Q)) X.xe s2 :=
    wpAny_mono (run_fnSD (dvs := []) (ds := []) (us := [.ref p, u]) (vs := [.ref p, y]) F hr hb .nil (hx σ) I2 (.cons rfl (.cons ry .nil)) q) (fun z s' hz => by
      obtain ⟨z', H', I', rz, qz⟩ := hz
      exact SlX.cmpback rz ⟨z', H', I', rz, qz⟩) fun _ _ x => x
  obtain ⟨m, hF⟩ := I2.fr
  rcases rk with ⟨q', dy, gs, ey, hq'⟩ | ⟨T, ty, fo, ro, h1, h2, h3⟩
  · subst ey
    obtain rfl : u = Value.ref q' := ry
    obtain ⟨mB, O', _⟩ := ins_get I2.hok hq'
    obtain ⟨od', J', _⟩ := O'.look
    exact PySem.W.binop_K hF I2.ok.mod.kin J J'.type W.sf W.at_ W.fn go
  · obtain ⟨P, Z, hP, _⟩ := kit_of I2 ry ty
    exact bin_any I2.kIn J (fun M => Z.ty M _ I2.kIn hP) W.sf W.at_ W.fn W.nr (.inl rfl) h1 h2 h3 go
/-- -a -/
theorem pe_negX (at_ : PySem.W.findIn X.K (.ref C) "__neg__" = some (some (.ref f))) (fn : PySem.W.isFn X.K (.ref f) = true) (F : FnOk X.prog X.w X.K X.mg X.base CX k f fd ps sp) (hr : Room k X.A) (hb : Binds X.K fd ps []) (hx : ∀ σ, PassesAt CX X σ (E σ)) (ha : PE X a ta) :
    PE X (.UnaryOp .USub a pos) (tUnX C sp E ta) := by
  refine ⟨fun pins s σ H Q I h => ?_⟩
  refine UnaryOp_ (thn (ha.run pins s σ H _ I h) fun v s1 ⟨x, H1, I1, r1, q1⟩ => ?_)
  obtain ⟨p, dx, fs, ex, hp, q⟩ := q1
  subst ex
  obtain rfl : v = Value.ref p := r1
  obtain ⟨mA, O, _⟩ := ins_get I1.hok hp
  obtain ⟨od, J, _⟩ := O.look
  obtain ⟨m, hF⟩ := I1.fr
  exact PySem.W.ksp_neg hF I1.ok.mod.kin J at_ fn (run_fnSD (dvs := []) (ds := []) (us := [.ref p]) (vs := [.ref p]) F hr hb .nil (hx σ) I1 (.cons rfl .nil) q)
/-- a == b, a an instance -/
theorem pe_eqX (at_ : PySem.W.findIn X.K (.ref C) "__eq__" = some (some (.ref f))) (fn : PySem.W.isFn X.K (.ref f) = true) (F : FnOk X.prog X.w X.K X.mg X.base CX k f fd ps sp) (hr : Room k X.A) (hb : Binds X.K fd ps []) (hx : ∀ σ, PassesAt CX X σ (E σ)) (ha : PE X a ta) (hb2 : PE X b tb) :
    PC X .Eq a b (fun σ H Q => ta σ H fun x H1 => tb σ H1 fun y H2 => ∃ p dx fs, x = .ref p ∧ H2 p = some (.ins C dx fs) ∧ ((∃ q dy gs, y = .ref q ∧ H2 q = some (.ins C dy gs)) ∨ ∃ T, TyX X.K H2 y (.type T) ∧ PySem.W.subIn X.K (.type T) (.ref C) = some false) ∧ sp [x, y] H2 Q (E σ)) := by
  refine ⟨fun pins s σ H Q I h => ?_⟩
  refine bin ha hb2 I h fun v u s2 x y H2 I2 rx ry q => ?_
  obtain ⟨p, dx, fs, ex, hp, rk, q⟩ := q
  subst ex
  obtain rfl : v = Value.ref p := rx
  obtain ⟨mA, O, _⟩ := ins_get I2.hok hp
  obtain ⟨od, J, _⟩ := O.look
  have go : wpAny (model X.prog X.w) X.A (call (.ref f) [.ref p, u]) (PySem.W.CmpBack (EP X pins σ Q)) X.xe s2 :=
    wpAny_mono (run_fnSD (dvs := []) (ds := []) (us := [.ref p, u]) (vs := [.ref p, y]) F hr hb .nil (hx σ) I2 (.cons rfl (.cons ry .nil)) q) (fun z s' hz => by
      obtain ⟨z', H', I', rz, qz⟩ := hz
      exact SlX.cmpback rz ⟨z', H', I', rz, qz⟩) fun _ _ x => x
  obtain ⟨m, hF⟩ := I2.fr
  rcases rk with ⟨q', dy, gs, ey, hq'⟩ | ⟨T, ty, h3⟩
  · subst ey
    obtain rfl : u = Value.ref q' := ry
    obtain ⟨mB, O', _⟩ := ins_get I2.hok hq'
    obtain ⟨od', J', _⟩ := O'.look
    exact PySem.W.cmp_K (op := .Eq) (tb := .ref C) hr.units0 hF I2.ok.mod.kin J J'.type (by simp [PySem.W.notFirst]) at_ fn go
  · obtain ⟨P, Z, hP, _⟩ := kit_of I2 ry ty
    exact PySem.W.cmp_K (op := .Eq) (tb := .type T) hr.units0 hF I2.ok.mod.kin J (fun A Q E s k z => Z.ty _ _ I2.kIn hP A Q E s k z) (by simp [PySem.W.notFirst, h3]) at_ fn go
end
end Fb
set_option Elab.async false
set_option linter.all false
set_option maxRecDepth 100000
set_option maxHeartbeats 4000000
namespace Fb
open PySem PySem.Spec PyProof.Rows L2
section
variable {X : Cx} {CX : CXT} {k : Nat} {f C : Addr} {fd : FuncData} {ps : List Str} {sp : Sp} {E : L2.St → XK} {a b : Expr} {ta tb : TE} {pos p : Pos}
theorem pe_absX (at_ : PySem.W.findIn X.K (.ref C) "__abs__" = some (some (.ref f))) (fn : PySem.W.isFn X.K (.ref f) = true) (F : FnOk X.prog X.w X.K X.mg X.base CX k f fd ps sp) (hr : Room (k + 2) X.A) (hb : Binds X.K fd ps []) (hx : ∀ σ, PassesAt CX X σ (E σ)) (hg : Gl X "abs") (hm : X.mg "abs" = none) (ha : PE X a ta)
    (he : starEach [a] X.env = (false, eval a X.env) :: starEach [] X.env := by rfl) (hpl : (backTo pos (starEach [] X.env)).any (·.1) = false := by rfl) :
    PE X (.Call (.Name "abs" p) [a] [] pos) (tUnX C sp E ta) := by
  refine ⟨fun pins s σ H Q I h => ?_⟩
  refine wpAny_Call_Name_kw (ld_blt I hg hm (by decide +kernel : bootBuiltins "abs" = some (.builtin "abs")) ?_)
  refine PyProof.Rows.callWith_builtin1 ?_ he hpl
  rw [he]
  show wpAny _ _ (spliced ((false, eval a X.env) :: backTo pos (starEach [] X.env))) _ _ s
  refine Calls.spliced_cons (thn (ha.run pins s σ H _ I h) fun v s1 ⟨x, H1, I1, r1, q1⟩ => Calls.spliced_nil ?_)
  obtain ⟨q0, dx, fs, ex, hp, q⟩ := q1
  subst ex
  obtain rfl : v = Value.ref q0 := r1
  obtain ⟨mA, O, _⟩ := ins_get I1.hok hp
  obtain ⟨od, J, _⟩ := O.look
  refine Calls.call_function_entry kind_abs plain_abs entry_abs (args_abs _) ?_
  have hr2 : Room k X.A.in1 := (show Room (k + 1) X.A.in1 from Room.in1 hr).mono (Nat.le_succ _)
  have hl : ([Value.ref q0]).length = ps.length := by
    rw [← F.len _ _ _ _ q]
    rfl
  have go : wpAny (model X.prog X.w) X.A.in1 (call (.ref f) [.ref q0]) (EP X pins σ Q) X.xe s1 := by
    refine wpAny_call (codeAny_mono (F.run X.A.in1 X.stack s1 H1 ⟨[.ref q0], []⟩ [.ref q0] [.ref q0] Q (E σ) hr2 I1.env0.in1 (hb s1 [.ref q0] I1.kIn hl) (.cons rfl .nil) q) fun r s' hq => ?_)
    cases r with
    | error e => exact hx σ pins H1 s1 e s' I1 hq
    | ok fl =>
      cases fl with
      | ret u => exact I1.after hq
      | next => exact False.elim hq
      | brk => exact False.elim hq
      | cont => exact False.elim hq
  unfold Builtin.«abs»
  refine wpAny_bind (m := oneArg "abs" _) (wpAny_pure ?_)
  refine wpAny_bind (m := callSpecial? (.ref q0) (Str.ofString "__abs__")) (PySem.W.special_fn I1.kIn J at_ (beq_iff_eq.mp fn) (wpAny_mono go (fun v' s' hv => ?_) fun _ _ y => y))
  exact wpAny_pure ⟨_, rfl, hv⟩
end
end Fb
set_option maxRecDepth 100000
namespace Am
/-- in lowest terms, the bottom above 0 -/
def Red (t u : Int) : Prop := 0 < u ∧ Nat.gcd t.natAbs u.natAbs = 1
theorem mk (a b : Int) (hb : b ≠ 0) (c : Int) (hc : c = (if b < 0 then -((Nat.gcd a.natAbs b.natAbs : Nat) : Int) else ((Nat.gcd a.natAbs b.natAbs : Nat) : Int))) :
    c ≠ 0 ∧ c.natAbs ≤ b.natAbs ∧ Red (a.fdiv c) (b.fdiv c) ∧ a.fdiv c * b = a * b.fdiv c ∧ (a.fdiv c).natAbs ≤ a.natAbs ∧ (b.fdiv c).natAbs ≤ b.natAbs := by
  have hbp : 0 < b.natAbs := Int.natAbs_pos.mpr hb
  have hg : 0 < Nat.gcd a.natAbs b.natAbs := Nat.gcd_pos_of_pos_right _ hbp
  have hgb : Nat.gcd a.natAbs b.natAbs ≤ b.natAbs := Nat.le_of_dvd hbp (Nat.gcd_dvd_right _ _)
  have hn : c.natAbs = Nat.gcd a.natAbs b.natAbs := by
    rw [hc]
    split <;> omega
  have h0 : c ≠ 0 := by omega
  have da : c ∣ a := Int.natAbs_dvd_natAbs.mp (by rw [hn]; exact Nat.gcd_dvd_left _ _)
  have db : c ∣ b := Int.natAbs_dvd_natAbs.mp (by rw [hn]; exact Nat.gcd_dvd_right _ _)
  obtain ⟨t, ht⟩ := da
  obtain ⟨u, hu⟩ := db
  have ea : a.fdiv c = t := by
    rw [ht]
    exact Int.mul_fdiv_cancel_left _ h0
  have eb : b.fdiv c = u := by
    rw [hu]
    exact Int.mul_fdiv_cancel_left _ h0
  have na : a.natAbs = c.natAbs * t.natAbs := by rw [ht, Int.natAbs_mul]
  have nb : b.natAbs = c.natAbs * u.natAbs := by rw [hu, Int.natAbs_mul]
  have hcp : 0 < c.natAbs := by omega
  have co : Nat.gcd t.natAbs u.natAbs = 1 := by
    have e : c.natAbs = c.natAbs * Nat.gcd t.natAbs u.natAbs := by
      rw [← Nat.gcd_mul_left, ← na, ← nb]
      exact hn
    exact Nat.eq_of_mul_eq_mul_left hcp (by rw [← e, Nat.mul_one])
  rw [ea, eb]
  have up : 0 < u := by
    by_cases h : b < 0
    · have c0 : c < 0 := by
        rw [hc, if_pos h]
        omega
      have : 0 < c * u ∨ ¬ 0 < c * u := Classical.em _
      rcases Int.lt_or_le 0 u with q | q
      · exact q
      · have z : 0 ≤ c * u := Int.mul_nonneg_of_nonpos_of_nonpos (Int.le_of_lt c0) q
        omega
    · have c0 : 0 < c := by
        rw [hc, if_neg h]
        omega
      rcases Int.lt_or_le 0 u with q | q
      · exact q
      · have z : c * u ≤ 0 := Int.mul_nonpos_of_nonneg_of_nonpos (Int.le_of_lt c0) q
        omega
  refine ⟨h0, by omega, ⟨up, co⟩, ?_, ?_, ?_⟩
  · rw [ht, hu]
    rw [Int.mul_left_comm, Int.mul_assoc]
  · rw [na]
    exact Nat.le_mul_of_pos_left _ hcp
  · rw [nb]
    exact Nat.le_mul_of_pos_left _ hcp
theorem uniq {t u n d : Int} (h : Red t u) (h' : Red n d) (e : t * d = n * u) : t = n ∧ u = d := by
  obtain ⟨hu, ht⟩ := h
  obtain ⟨hd, hn⟩ := h'
  have e1 : t.natAbs * d.natAbs = n.natAbs * u.natAbs := by rw [← Int.natAbs_mul, ← Int.natAbs_mul, e]
  have d1 : u.natAbs ∣ d.natAbs := by
    have z : u.natAbs ∣ t.natAbs * d.natAbs := by
      rw [e1]
      exact Nat.dvd_mul_left _ _
    exact (Nat.Coprime.dvd_of_dvd_mul_left (show Nat.Coprime u.natAbs t.natAbs by rw [Nat.coprime_comm]; exact ht) z)
  have d2 : d.natAbs ∣ u.natAbs := by
    have z : d.natAbs ∣ n.natAbs * u.natAbs := by
      rw [← e1]
      exact Nat.dvd_mul_left _ _
    exact (Nat.Coprime.dvd_of_dvd_mul_left (show Nat.Coprime d.natAbs n.natAbs by rw [Nat.coprime_comm]; exact hn) z)
  have e2 : u.natAbs = d.natAbs := Nat.dvd_antisymm d1 d2
  have e3 : u = d := by omega
  subst e3
  exact ⟨Int.eq_of_mul_eq_mul_right (by omega) e, rfl⟩
/-- what a pair of ints is worth: (t, u) in lowest terms and (n, d), d not 0 -/
def Is (t u n d : Int) : Prop := Red t u ∧ d ≠ 0 ∧ t * d = n * u
theorem is_of {t u a b n d : Int} (h : Red t u) (hb : b ≠ 0) (e : t * b = a * u) (hd : d ≠ 0) (e2 : a * d = n * b) : Is t u n d := by
  refine ⟨h, hd, ?_⟩
  have z : (t * d) * b = (n * u) * b := by
    calc (t * d) * b = (t * b) * d := by rw [Int.mul_assoc, Int.mul_comm d b, ← Int.mul_assoc]
      _ = (a * u) * d := by rw [e]
      _ = (a * d) * u := by rw [Int.mul_assoc, Int.mul_comm u d, ← Int.mul_assoc]
      _ = (n * b) * u := by rw [e2]
      _ = (n * u) * b := by rw [Int.mul_assoc, Int.mul_comm b u, ← Int.mul_assoc]
  exact Int.eq_of_mul_eq_mul_right hb z
theorem gcd_step {x y : Nat} (hy : 0 < y) : Nat.gcd y (x % y) = Nat.gcd x y := by
  rw [Nat.gcd_comm y, ← Nat.gcd_rec, Nat.gcd_comm]
end Am
set_option Elab.async false
set_option linter.all false
set_option maxRecDepth 100000
set_option maxHeartbeats 0
namespace Hd
open PySem PySem.Spec PyProof.Rows L2
def hookB (n : Nat) (chk : PySem.W.Frag → Bool) : PySem.W.Hook where
  α := Bool
  obs := fun s => chk (He.frG s.heap.get? (He.asD s.heap.get? n))
  val := fun _ => true
  says := fun _ h => ∃ K : PySem.W.Frag, K.In h ∧ chk K = true
  of := fun _ _ e => ⟨_, He.frG_in, e⟩
  keeps := fun _ _ _ ⟨K, hK, c⟩ k => ⟨K, PySem.W.Frag.In.keeps hK k, c⟩
def obT (n : Nat) (chk : PySem.W.Frag → Bool) (s : PySem.W.SharedT) : Bool := chk (He.frG (HandSHeadRun.getT s) (He.asD (HandSHeadRun.getT s) n))
theorem obT_eq (n : Nat) (chk : PySem.W.Frag → Bool) (s : PySem.W.SharedT) : obT n chk s = (hookB n chk).obs s.abs := by
  have e : HandSHeadRun.getT s = s.abs.heap.get? := funext fun a => HandSHeadRun.getT_eq s a
  unfold obT
  rw [e]
  rfl
end Hd
set_option Elab.async false
set_option linter.all false
set_option maxRecDepth 100000
set_option maxHeartbeats 4000000
/-! The facts that a law leans on, read off the heap behind the top by one run. -/
namespace Hd
open PySem PySem.Spec PyProof.Rows L2
/-- a def of the text: where it stands, and what it is -/
structure Def where
  ad : PySem.W.Frag → Addr
  name : Str
  qual : Str
  st : Stmt
  cl : List Str := []
  dfl : List He.Dv := []
abbrev FnZ : Type := Option (Str × Str × Arguments × FuncBody × Scope × Addr × List Str × Addr)
def obs1 (K : PySem.W.Frag) (f : Addr) : FnZ := match K.lookup f with
  | some ⟨_, _, .func fd, _⟩ => some (fd.name, fd.qualname, fd.params, fd.body, fd.scope, fd.globals, fd.closure.map (·.1), fd.builtins)
  | _ => none
def Def.val (d : Def) : FnZ := some (d.name, d.qual, defArgs d.st, .stmts (defBody d.st), defScope d.st, mainGlobals, d.cl, builtinsNs)
def Def.ok (K : PySem.W.Frag) (d : Def) : Bool := PySem.W.keepIn K (.ref (d.ad K)) && (match K.lookup (d.ad K) with
  | some ⟨_, _, .func fd, _⟩ => PySem.W.codeIn K fd.code d.qual && He.dflB K fd.defaults (d.dfl.map (He.Dv.v K))
  | _ => false)
/-- what is known of one def -/
structure Got (K : PySem.W.Frag) (d : Def) (fd : FuncData) : Prop where
  kp : PySem.W.keepIn K (.ref (d.ad K)) = true
  ex : ∃ (oc : Value) (od : Option Addr) (dV kV doc pm : Value) (an : Option Addr) (cdv ct : Value) (osl : Array (Option Value)) (cl : List (Str × Addr)),
    fd = PySem.W.fnX d.name d.qual (defArgs d.st) (defBody d.st) (defScope d.st) cl dV kV doc pm an cdv ct ∧ K.lookup (d.ad K) = some ⟨oc, od, .func fd, osl⟩ ∧ PySem.W.codeIn K cdv d.qual = true ∧
    DflV K dV (d.dfl.map (He.Dv.v K)) ∧ cl.map (·.1) = d.cl
theorem got {K : PySem.W.Frag} {d : Def} (e : obs1 K (d.ad K) = d.val) (c : d.ok K = true) : ∃ fd, Got K d fd := by
  obtain ⟨kp, c2⟩ := He.ba c
  unfold obs1 at e
  cases q : K.lookup (d.ad K) with
  | none =>
    rw [q] at c2
    cases c2
  | some o =>
    obtain ⟨oc, od, dt, osl⟩ := o
    rw [q] at c2 e
    cases dt with
    | func fd =>
      obtain ⟨n1, n2, n3, n4, n5, n6, n7, n8, n9, n10, n11, n12, n13, n14, n15⟩ := fd
      have e2 : (some (n1, n2, n3, n4, n5, n6, n7.map (·.1), n15) : FnZ) = some (d.name, d.qual, defArgs d.st, .stmts (defBody d.st), defScope d.st, mainGlobals, d.cl, builtinsNs) := e
      simp only [Option.some.injEq, Prod.mk.injEq] at e2
      obtain ⟨h1, h2, h3, h4, h5, h6, h7, h8⟩ := e2
      subst h1 h2 h3 h4 h5 h6 h8
      obtain ⟨k1, k2⟩ := He.ba (show (PySem.W.codeIn K n13 d.qual && He.dflB K n8 (d.dfl.map (He.Dv.v K))) = true from c2)
      exact ⟨_, kp, oc, od, n8, n9, n10, n11, n12, n13, n14, osl, n7, rfl, q, k1, He.dflB_ok k2, h7⟩
    | _ => cases c2
theorem Got.funD {K : PySem.W.Frag} {d : Def} {fd : FuncData} (g : Got K d fd) (h : d.cl = [] := by rfl) : FunD K d.name d.qual (defArgs d.st) (defBody d.st) (defScope d.st) (d.dfl.map (He.Dv.v K)) [] (d.ad K) fd := by
  obtain ⟨oc, od, dV, kV, doc, pm, an, cdv, ct, osl, cl, h1, h2, h3, h4, h5⟩ := g.ex
  rw [h] at h5
  have h6 : cl = [] := List.map_eq_nil_iff.mp h5
  subst h6
  exact ⟨⟨oc, od, dV, kV, doc, pm, an, cdv, ct, osl, h1, h2, h3, h4, .inl rfl⟩, g.kp⟩
/-- all of them, and a further check -/
abbrev Al : Type := List FnZ × Bool × Bool
def obsK (ds : List Def) (chk : PySem.W.Frag → Bool) (K : PySem.W.Frag) : Al := (ds.map fun d => obs1 K (d.ad K), ds.all fun d => d.ok K, chk K)
def valK (ds : List Def) : Al := (ds.map Def.val, true, true)
def grow (g : Addr → Option Obj) : Nat → List Addr
  | 0 => [mainGlobals, cStatics]
  | n + 1 => He.growD g (grow g n)
def hook (n : Nat) (ds : List Def) (chk : PySem.W.Frag → Bool) : PySem.W.Hook where
  α := Al
  obs := fun s => obsK ds chk (He.frG s.heap.get? (grow s.heap.get? n))
  val := fun _ => valK ds
  says := fun _ h => ∃ K : PySem.W.Frag, K.In h ∧ obsK ds chk K = valK ds
  of := fun _ _ e => ⟨_, He.frG_in, e⟩
  keeps := fun _ _ _ ⟨K, hK, c⟩ k => ⟨K, PySem.W.Frag.In.keeps hK k, c⟩
def ob (n : Nat) (ds : List Def) (chk : PySem.W.Frag → Bool) (s : PySem.W.SharedT) : Al := obsK ds chk (He.frG (HandSHeadRun.getT s) (grow (HandSHeadRun.getT s) n))
theorem ob_eq (n : Nat) (ds : List Def) (chk : PySem.W.Frag → Bool) (s : PySem.W.SharedT) : ob n ds chk s = (hook n ds chk).obs s.abs := by
  have e : HandSHeadRun.getT s = s.abs.heap.get? := funext fun a => HandSHeadRun.getT_eq s a
  unfold ob
  rw [e]
  rfl
section
variable {K : PySem.W.Frag} {ds : List Def} {chk : PySem.W.Frag → Bool}
theorem says_def (c : obsK ds chk K = valK ds) (i : Nat) {d : Def} (h : ds[i]? = some d := by rfl) : ∃ fd, Got K d fd := by
  have e : ds.map (fun d => obs1 K (d.ad K)) = ds.map Def.val := congrArg (fun z : Al => z.1) c
  have c2 : (ds.all fun d => d.ok K) = true := congrArg (fun z : Al => z.2.1) c
  have e2 : (ds.map fun d => obs1 K (d.ad K))[i]? = (ds.map Def.val)[i]? := by rw [e]
  rw [List.getElem?_map, List.getElem?_map, h] at e2
  exact got (Option.some.inj e2) (List.all_eq_true.mp c2 d (List.mem_of_getElem? h))
theorem says_chk (c : obsK ds chk K = valK ds) : chk K = true := congrArg (fun z : Al => z.2.2) c
end
/-- a list of checks -/
def allB (l : List Bool) : Bool := l.all id
theorem allB_at {l : List Bool} (h : allB l = true) (i : Nat) {b : Bool} (e : l[i]? = some b := by rfl) : b = true := List.all_eq_true.mp h b (List.mem_of_getElem? e)
/-! ### an exception class -/
def clsVE (K : PySem.W.Frag) (C : Addr) : Bool := match K.lookup C with
  | some ⟨.type t, _, .cls cd, sl⟩ => (match cd.mro, sl.toList with
    | .ref C' :: bm, [_, _, _, _, some (.builtin n), _] => decide (t = "type") && (decide (C' = C) && (decide (n = "ValueError.__new__") && (!cd.hasDel && (cd.hasDict && HandSPX.refsVE bm))))
    | _, _ => false)
  | _ => false
theorem clsVE_ok {K : PySem.W.Frag} {C : Addr} (h : clsVE K C = true) : ∃ nm q' N bs bm sn sub ab col dd k0 k1 k2 k3 k5, K.lookup C = some (excClassObj nm q' C N bs bm true sn sub ab col dd k0 k1 k2 k3 k5 "ValueError.__new__") ∧ HandSPX.refsVE bm = true := by
  unfold clsVE at h
  split at h
  · rename_i t dd cd sl ho
    split at h
    · rename_i C' bm k0 k1 k2 k3 n k5 hm hs
      obtain ⟨h0, h⟩ := He.ba h
      obtain ⟨h1, h⟩ := He.ba h
      obtain ⟨h2, h⟩ := He.ba h
      obtain ⟨h3, h⟩ := He.ba h
      obtain ⟨h4, h5⟩ := He.ba h
      have h0 := of_decide_eq_true h0
      have h1 := of_decide_eq_true h1
      have h2 := of_decide_eq_true h2
      subst h0 h1 h2
      obtain ⟨nm, bs, mro, ns, qn, hd, sn, sub, ab, col, del⟩ := cd
      dsimp only at hm h3 h4
      subst hm h4
      have h3 : del = false := by simpa using h3
      subst h3
      have hsl : sl = #[k0, k1, k2, k3, some (.builtin "ValueError.__new__"), k5] := by
        obtain ⟨l⟩ := sl
        simp only at hs
        rw [hs]
      subst hsl
      exact ⟨_, _, _, _, _, _, _, _, _, _, _, _, _, _, _, ho, h5⟩
    · cases h
  · cases h
def fileB (file : Str) (vs : Array Value) : Bool := match vs[2]? with
  | some (Value.str fl _) => decide (fl = file)
  | _ => false
theorem fileB_ok {file : Str} {vs : Array Value} (h : fileB file vs = true) : ∃ tf, vs[2]? = some (Value.str file tf) := by
  unfold fileB at h
  split at h
  · rename_i fl tf e
    have z := of_decide_eq_true h
    subst z
    exact ⟨tf, e⟩
  · cases h
/-- the further facts of the class x whose one field is F -/
def excB (file : Str) (K : PySem.W.Frag) (x F : Str) : Bool :=
  let C := He.ga K x
  let fI := He.ma K C "__init__"
  allB [He.eqO (PySem.W.nsIn K mainGlobals x) (some (some (.ref C))), clsVE K C, He.eqO (PySem.W.findIn K (.ref C) "__setattr__") (some (some (.builtin "object.__setattr__"))),
    He.eqO (PySem.W.findIn K (.ref C) "__getattribute__") (some (some (.builtin "BaseException.__getattribute__"))), He.eqO (PySem.W.findIn K (.ref C) "__getattr__") (some none), He.eqO (PySem.W.findIn K (.ref C) F) (some none),
    He.eqO (PySem.W.findIn K (.ref C) "__init__") (some (some (.ref fI))), decide (PySem.W.typeIn K (.ref fI) = some (.type "function")), PySem.W.keepIn K (.ref C), decide (PySem.W.subIn K (.ref C) (.type "BaseException") = some true),
    decide (PySem.W.subIn K (.ref C) (.type "ValueError") = some true), decide (PySem.W.typeIn K (.ref C) = some (.type "type")), PySem.W.hasDictIn K C, decide (PySem.W.exmOne K (.ref C) (.ref C) = some true),
    He.eqO (PySem.W.ks_superIn K C C "__init__") (some (some (.builtin "ValueError.__init__"))), decide (PySem.W.mroIn K C (.ref C) = some true), He.eqO (PySem.W.nsIn K mainGlobals "super") (some none), He.eqO (PySem.W.nsIn K cStatics "thirdparty.any") (some none),
    (match K.lookup fI with
      | some ⟨_, _, .func fd, _⟩ => (match fd.code, fd.closure with
        | .ref cda, [(_, cc)] => (match K.lookup cda with
          | some ⟨_, _, .fields vs, _⟩ => fileB file vs
          | _ => false) && (match K.lookup cc with
          | some ⟨_, _, .cell (some (.ref D)), _⟩ => decide (D = C)
          | _ => false)
        | _, _ => false)
      | _ => false)]
/-- the def of its __init__ -/
def excD (x q : Str) (st : Stmt) : Def := { ad := fun K => He.ma K (He.ga K x) "__init__", name := "__init__", qual := q, st := st, cl := ["__class__"] }
theorem exc_txt {file : Str} {K : PySem.W.Frag} {x q F txt : Str} {st : Stmt} {fd : FuncData} (nm : Xb.Nm F) (g : Got K (excD x q st) fd) (c : excB file K x F = true)
    (hst : ∃ (p1 p2 : Pos) (kk : Nat) (q1 q2 q3 q4 q5 q6 q7 q8 q9 q10 : Pos), defArgs st = Xb.arg2 F p1 p2 ∧ defBody st = Xb.bod2 F txt kk q1 q2 q3 q4 q5 q6 q7 q8 q9 q10 ∧ defScope st = Xb.sco2 F ∧ (q3.endLine == q5.line) = true) :
    Xb.Txt file K q F txt (He.ga K x) (He.ma K (He.ga K x) "__init__") := by
  obtain ⟨oc, od, dV, kV, doc, pm, an, cdv, ct, osl, cl, h1, h2, h3, h4, h5⟩ := g.ex
  obtain ⟨p1, p2, kk, q1, q2, q3, q4, q5, q6, q7, q8, q9, q10, s1, s2, s3, s4⟩ := hst
  have hdV : dV = .none := by
    rcases h4 with ⟨_, e⟩ | ⟨e, _⟩
    · exact e
    · exact absurd rfl e
  have last := allB_at c 18
  have lk : K.lookup (He.ma K (He.ga K x) "__init__") = some ⟨oc, od, .func fd, osl⟩ := h2
  rw [lk] at last
  rw [h1] at last
  refine ⟨nm, clsVE_ok (allB_at c 1), He.eqO_ok (allB_at c 2), He.eqO_ok (allB_at c 3), He.eqO_ok (allB_at c 4), He.eqO_ok (allB_at c 5), He.eqO_ok (allB_at c 6), of_decide_eq_true (allB_at c 7), allB_at c 8, of_decide_eq_true (allB_at c 9), of_decide_eq_true (allB_at c 10),
    of_decide_eq_true (allB_at c 11), allB_at c 12, of_decide_eq_true (allB_at c 13), He.eqO_ok (allB_at c 14), of_decide_eq_true (allB_at c 15), He.eqO_ok (allB_at c 16), He.eqO_ok (allB_at c 17), ?_⟩
  cases cdv with
  | ref cda =>
    cases cl with
    | nil => cases h5
    | cons y r =>
      obtain ⟨y1, cc⟩ := y
      cases r with
      | cons _ _ => cases h5
      | nil =>
        have e1 : y1 = ("__class__" : Str) := (List.cons.inj h5).1
        subst e1
        obtain ⟨l1, l2⟩ := He.ba (show ((match K.lookup cda with
          | some ⟨_, _, .fields vs, _⟩ => fileB file vs
          | _ => false) && (match K.lookup cc with
          | some ⟨_, _, .cell (some (.ref D)), _⟩ => decide (D = He.ga K x)
          | _ => false)) = true from last)
        refine ⟨oc, od, kV, doc, pm, an, cda, ct, osl, cc, p1, p2, kk, q1, q2, q3, q4, q5, q6, q7, q8, q9, q10, ?_, h3, s4, ?_, ?_⟩
        · rw [lk, h1, hdV]
          show some (⟨oc, od, .func (PySem.W.fnX "__init__" q (defArgs st) (defBody st) (defScope st) [("__class__", cc)] .none kV doc pm an (.ref cda) ct), osl⟩ : Obj) = _
          rw [s1, s2, s3]
        · split at l1
          · rename_i ccl cdd vs ccs hk
            obtain ⟨tf, e⟩ := fileB_ok l1
            exact ⟨_, _, _, _, tf, hk, e⟩
          · cases l1
        · split at l2
          · rename_i a b D c2 hk
            have e := of_decide_eq_true l2
            subst e
            exact ⟨_, _, _, hk⟩
          · cases l2
  | _ => cases last
end Hd
set_option Elab.async false
set_option linter.all false
set_option maxRecDepth 100000
set_option maxHeartbeats 4000000
namespace K34
open PySem PySem.Spec PyProof.Rows L2 Fa Fb
theorem if_true_of {c : Bool} {A B : Prop} (hc : c = true) (h : A) : if c = true then A else B := by
  rw [if_pos hc]
  exact h
theorem if_false_of {c : Bool} {A B : Prop} (hc : c = false) (h : B) : if c = true then A else B := by
  rw [hc, if_neg Bool.false_ne_true]
  exact h


abbrev CA (K : PySem.W.Frag) : Addr := He.ga K "Amount"
abbrev CI (K : PySem.W.Frag) : Addr := He.ga K "InvalidInteger"
abbrev CV (K : PySem.W.Frag) : Addr := He.ga K "InvalidAmount"
abbrev aI (K : PySem.W.Frag) : Addr := He.ma K (CA K) "__init__"
abbrev sWhole : Stmt := top 21
abbrev sIsA : Stmt := top 30
abbrev sAsA : Stmt := top 31
abbrev sInit : Stmt := inClass (top 29) 0
abbrev sTop : Stmt := inClass (top 29) 1
abbrev sBot : Stmt := inClass (top 29) 2
abbrev sEq : Stmt := inClass (top 29) 3
theorem scWhole : FnScope ["value"] ["value"] (defScope sWhole) := ⟨rfl, rfl, rfl, by decide +kernel, rfl, by decide +kernel, by decide +kernel⟩
theorem scIsA : FnScope ["value"] ["value"] (defScope sIsA) := ⟨rfl, rfl, rfl, by decide +kernel, rfl, by decide +kernel, by decide +kernel⟩
theorem scAsA : FnScope ["value"] ["value"] (defScope sAsA) := ⟨rfl, rfl, rfl, by decide +kernel, rfl, by decide +kernel, by decide +kernel⟩
theorem scInit : FnScope ["self", "top", "bottom", "common"] ["self", "top", "bottom"] (defScope sInit) := ⟨rfl, rfl, rfl, by decide +kernel, rfl, by decide +kernel, by decide +kernel⟩
theorem scTop : FnScope ["self"] ["self"] (defScope sTop) := ⟨rfl, rfl, rfl, by decide +kernel, rfl, by decide +kernel, by decide +kernel⟩
theorem scBot : FnScope ["self"] ["self"] (defScope sBot) := ⟨rfl, rfl, rfl, by decide +kernel, rfl, by decide +kernel, by decide +kernel⟩
theorem scEq : FnScope ["self", "other"] ["self", "other"] (defScope sEq) := ⟨rfl, rfl, rfl, by decide +kernel, rfl, by decide +kernel, by decide +kernel⟩
/-- the fields of an amount -/
def fl (t u : Int) : List (Str × V) := putF "_bottom" (.int u) (putF "_top" (.int t) [])
theorem tb : ¬ (("_top" : Str) = "_bottom") := by decide +kernel
theorem fl_top (t u : Int) : (fl t u).lookup ("_top" : Str) = some (.int t) := by
  unfold fl
  rw [lookup_putF, if_neg tb, lookup_putF, if_pos rfl]
theorem fl_bot (t u : Int) : (fl t u).lookup ("_bottom" : Str) = some (.int u) := by
  unfold fl
  rw [lookup_putF, if_pos rfl]
theorem fl_no (t u : Int) {m : Str} (h1 : ¬ m = "_bottom") (h2 : ¬ m = "_top") : (fl t u).lookup m = none := by
  unfold fl
  rw [lookup_putF, if_neg h1, lookup_putF, if_neg h2]
  rfl
/-- x is an amount, in lowest terms, of less than n bits -/
def IsA (K : PySem.W.Frag) (H : Hp) (x : V) (t u : Int) (n : Nat) : Prop := ∃ p dx, x = .ref p ∧ H p = some (.ins (CA K) dx (fl t u)) ∧ Am.Red t u ∧ t.natAbs < 2 ^ n ∧ u.natAbs < 2 ^ n
theorem IsA.same {K : PySem.W.Frag} {H H' : Hp} {x : V} {t u : Int} {n : Nat} (h : IsA K H x t u n) (s : Same H H') : IsA K H' x t u n := by
  obtain ⟨p, dx, e, h1, h2⟩ := h
  exact ⟨p, dx, e, s _ _ h1, h2⟩
/-- whether a value counts as a whole number -/
def Wh (K : PySem.W.Frag) (H : Hp) (x : V) (b : Bool) : Prop := ∃ t b1 b2, TyX K H x t ∧ PySem.W.kitOne K t (.type "int") = some b1 ∧ PySem.W.kitOne K t (.type "bool") = some b2 ∧ b = (b1 && !b2)
theorem wh_int {K : PySem.W.Frag} {H : Hp} (i : Int) : Wh K H (.int i) true := ⟨_, true, false, .base (.int i), kit_ty (by decide +kernel), kit_ty (by decide +kernel), rfl⟩
def tys : List String := ["int", "bool", "NoneType", "str", "list", "tuple", "dict"]
/-- what the written part says of the class -/
structure AF (K : PySem.W.Frag) (mg : Str → Option Value) : Prop where
  cl : Cls K (CA K)
  noT : NoAttr K (CA K) "_top"
  noB : NoAttr K (CA K) "_bottom"
  mkA : Mk K (CA K) (aI K)
  g : mg "Amount" = some (.ref (CA K))
  isi : mg "isinstance" = none
  int : mg "int" = none
  bool : mg "bool" = none
  gcd : mg "gcd" = some (.builtin "math.gcd")
  gI : mg "InvalidInteger" = some (.ref (CI K))
  gV : mg "InvalidAmount" = some (.ref (CV K))
  kI : PySem.W.kitOne K (.ref (CA K)) (.type "int") = some false
  kB : PySem.W.kitOne K (.ref (CA K)) (.type "bool") = some false
  kS : PySem.W.kitOne K (.ref (CA K)) (.ref (CA K)) = some true
  kT : ∀ T ∈ tys, PySem.W.kitOne K (.type T) (.ref (CA K)) = some false
  ca : PySem.W.findIn K (.ref (CA K)) "__class__" = some (some (.builtin "object.__class__"))
  cn : PySem.W.specialIn K (.builtin "object.__class__") "__get__" = some (some (.builtin "getset_descriptor.__get__"))
  ct : PySem.W.takesIn K (.builtin "object.__class__") = some true
  cm : PySem.W.mroIn K (CA K) (.type "object") = some true
section
variable {K : PySem.W.Frag} {mg : Str → Option Value}
theorem AF.ty (T : AF K mg) {H : Hp} {p dx : Addr} {fs : List (Str × V)} (h : H p = some (.ins (CA K) dx fs)) : TyX K H (.ref p) (.ref (CA K)) := .base (.ins h T.cl T.ca T.cn T.ct T.cm)
theorem AF.wh (T : AF K mg) {H : Hp} {p dx : Addr} {fs : List (Str × V)} (h : H p = some (.ins (CA K) dx fs)) : Wh K H (.ref p) false := ⟨_, false, false, T.ty h, T.kI, T.kB, rfl⟩
end
def spWhole (K : PySem.W.Frag) : Sp := fun vs H Q _ => ∃ x b, vs = [x] ∧ Wh K H x b ∧ Q (.bl b) H
/-- an error of the class at C with the one field value = v -/
def Err (C : Addr) (v : V) (H : Hp) (E : XK) : Prop := ∀ d, H d = none → E (.ref C) (some d) (upd H d (.xd [("value", v)]))
def spInit (K : PySem.W.Frag) : Sp := fun vs H Q E => ∃ (p dx : Addr) (x y : V) (bx bz : Bool), vs = [.ref p, x, y] ∧ H p = some (.ins (CA K) dx []) ∧ Wh K H x bx ∧ Wh K H y bz ∧
  (bx = false → Err (CI K) x H E) ∧ (bx = true → bz = false → Err (CI K) y H E) ∧
  (bx = true → bz = true → ∃ a b : Int, x = .int a ∧ y = .int b ∧ (b = 0 → Err (CI K) y H E) ∧
    (b ≠ 0 → b.natAbs < 2 ^ 8000 ∧ ∀ t u : Int, Am.Red t u → t * b = a * u → t.natAbs ≤ a.natAbs → u.natAbs ≤ b.natAbs → Q .non (upd H p (.ins (CA K) dx (fl t u)))))
section
variable {X : Cx}
theorem op_fdivX : OpR X (binaryOp .FloorDiv) (rI (fun _ j => j ≠ 0 ∧ j.natAbs.log2 < 9000) fun i j => .int (i.fdiv j)) := opI fun _ _ _ _ _ _ _ hc q => floordiv_int hc.1 q (.inl (PyProof.noPylong_of_log2 hc.2))
theorem boot_isi : bootBuiltins "isinstance" = some (.builtin "isinstance") := by decide +kernel
theorem pe_isi {e c : Expr} {te tc : TE} {p pos : Pos} (hm : X.mg "isinstance" = none) (he : PE X e te) (hc : PE X c tc) (hg : Gl X "isinstance" := by rfl)
    (hs : starEach (e :: [c]) X.env = (false, eval e X.env) :: starEach [c] X.env := by rfl) (hs2 : starEach (c :: []) X.env = (false, eval c X.env) :: starEach [] X.env := by rfl) (hpl : (backTo pos (starEach [c] X.env)).any (·.1) = false := by rfl) : PE X (.Call (.Name "isinstance" p) [e, c] [] pos) (tCB (rIsi X.K) (tCons te (tCons tc tNil))) :=
  pe_callB call_isi hg hm boot_isi (pa_cons he (pa_cons hc pa_nil hs2) hs) (by decide) (by decide) hs hpl
theorem pe_ty {x : Str} {n : String} {p : Pos} (hm : X.mg x = none) (hv : bootBuiltins x = some (.type n)) (hg : Gl X x := by rfl) (hn : x ≠ "__name__" := by decide) (hd : (x == ("__debug__" : Str)) = false := by decide) : PE X (.Name x p) (tC (.ty n)) := pe_bltn hg hm hv rfl hn hd
theorem boot_int' : bootBuiltins "int" = some (.type "int") := by decide +kernel
theorem boot_bool' : bootBuiltins "bool" = some (.type "bool") := by decide +kernel
end
section
variable {P : Program} {w : World} {K : PySem.W.Frag} {mg : Str → Option Value} {base : Heap} {f fW : Addr} {fd fdW : FuncData} {F' : Str} {qi ti qv tv : Str} {fI fV : Addr}
theorem ok_whole (F : FnP K "is_whole" sWhole f fd) (T : AF K mg) {CX : CXT} : FnOk P w K mg base CX 1 f fd ["value"] (spWhole K) := by
  refine F.ok scWhole (fun vs H Q E h => ?_) (fun cdv A outer s H vs Q E hr h => ?_)
  · obtain ⟨x, b, rfl, _⟩ := h
    rfl
  · obtain ⟨x, b, rfl, ⟨t, b1, b2, ty, k1, k2, rfl⟩, q⟩ := h
    refine ⟨_, pss_one (ps_ret (pe_and (pe_isi T.isi (pv 0) (pe_ty T.int boot_int')) (pe_one (pe_not (pe_isi T.isi (pv 0) (pe_ty T.bool boot_bool')))))), ?_⟩
    refine ⟨_, rfl, x, _, t, _, b1, rfl, .ty "int", ty, k1, b1, rfl, ?_⟩
    cases b1 with
    | false => exact iteF q
    | true => exact iteT ⟨_, rfl, x, _, t, _, b2, rfl, .ty "bool", ty, k2, b2, rfl, q⟩
theorem ok_init (F : FunD K "__init__" "Amount.__init__" (defArgs sInit) (defBody sInit) (defScope sInit) [.int 1] [] f fd) (T : AF K mg) (FW : FnP K "is_whole" sWhole fW fdW) (gW : mg "is_whole" = some (.ref fW))
    (XI : Xb.Txt P.main.file K qi "value" ti (CI K) fI) (htop : (P.main.scope.names.lookup ("super" : Str)).isSome = false) : FnOk P w K mg base (L2.CX P w) 4 f fd ["self", "top", "bottom"] (spInit K) := by
  have GW : FnOk P w K mg base (L2.CX P w) 1 fW fdW ["value"] (spWhole K) := ok_whole FW T
  have bW : Binds K fdW ["value"] [] := FW.bindsN fun _ _ _ _ _ _ us hl => match us, hl with | [_], _ => rfl
  refine F.ok scInit (fun vs H Q E h => ?_) (fun cdv A outer s H vs Q E hr h => ?_)
  · obtain ⟨p, dx, x, y, bx, bz, rfl, _⟩ := h
    rfl
  · obtain ⟨p, dx, x, y, bx, bz, rfl, hp, wx, wy, e1, e2, e3⟩ := h
    have hr1 := hr.mono (show 1 ≤ 3 by decide)
    refine ⟨_, pss_cons (ps_if (pt_not (pt_val (pe_call GW hr1 rfl gW FW.kp bW .nil passL (pa_cons (pv 1) pa_nil)))) (pss_one (Xb.ps_raiseX (W := fun cls d _ H => E cls d H) rfl XI T.gI htop hr1 (takes_of rfl rfl rfl rfl) (pa_cons (pv 1) pa_nil))) pss_nil)
      (pss_cons (ps_if (PW.pt (pw_or (pt_not (pt_val (pe_call GW hr1 rfl gW FW.kp bW .nil passL (pa_cons (pv 2) pa_nil)))) (pw_or1 (pt_cmpR op_eq (pv 2) pe_int (nomark _)))))
        (pss_one (Xb.ps_raiseX (W := fun cls d _ H => E cls d H) rfl XI T.gI htop hr1 (takes_of rfl rfl rfl rfl) (pa_cons (pv 2) pa_nil))) pss_nil)
      (pss_cons (ps_set (i := 3) scInit.nd rfl (Or.inl rfl) (pe_callBfun cr_gcd rfl T.gcd (pa_cons (pv 1) (pa_cons (pv 2) pa_nil))))
      (pss_cons (ps_if (pt_cmpR op_lt (pv 2) pe_int (nomark _)) (pss_one (ps_set (i := 3) scInit.nd rfl (Or.inl rfl) (pe_un un_neg (pv 3)))) pss_nil)
      (pss_cons (ps_fld (pv 0) (pe_op op_fdivX (pv 1) (pv 3)) rfl)
      (pss_one (ps_fld (pv 0) (pe_op op_fdivX (pv 2) (pv 3)) rfl)))))), ?_⟩
    refine ⟨_, rfl, x, bx, rfl, wx, bx, rfl, ?_⟩
    cases bx with
    | false => exact iteT ⟨_, rfl, _, rfl, e1 rfl⟩
    | true =>
      refine iteF ⟨_, rfl, y, bz, rfl, wy, bz, rfl, ?_⟩
      cases bz with
      | false => exact iteT (iteT ⟨_, rfl, _, rfl, e2 rfl rfl⟩)
      | true =>
        obtain ⟨a, b, rfl, rfl, e4, e5⟩ := e3 rfl rfl
        refine iteF ⟨_, rfl, rfl, _, rfl, ?_⟩
        by_cases hb : b = 0
        · subst hb
          refine if_true_of (decide_eq_true rfl) ⟨_, rfl, _, rfl, e4 rfl⟩
        · refine if_false_of (decide_eq_false fun z => hb (V.int.inj z)) ?_
          obtain ⟨e6, e7⟩ := e5 hb
          obtain ⟨m1, m2, m3, m4, m5, m6⟩ := Am.mk a b hb _ rfl
          refine ⟨_, rfl, _, rfl, a, b, rfl, ?_⟩
          have fin : ∀ c : Int, c = (if b < 0 then -((Nat.gcd a.natAbs b.natAbs : Nat) : Int) else ((Nat.gcd a.natAbs b.natAbs : Nat) : Int)) →
              tSeq (sFld K (tVar 0) (tOp (rI (fun _ j => j ≠ 0 ∧ j.natAbs.log2 < 9000) fun i j => .int (i.fdiv j)) (tVar 1) (tVar 3)) "_top") (sFld K (tVar 0) (tOp (rI (fun _ j => j ≠ 0 ∧ j.natAbs.log2 < 9000) fun i j => .int (i.fdiv j)) (tVar 2) (tVar 3)) "_bottom")
                { nx := fun _ H' => Q .non H', rt := Q } [some (.ref p), some (.int a), some (.int b), some (.int c)] H := fun c hc => by
            rw [← hc] at m1 m2 m3 m4 m5 m6
            have lg : c.natAbs.log2 < 9000 := Nat.lt_trans ((Nat.log2_lt (by omega)).mpr (Nat.lt_of_le_of_lt m2 e6)) (by decide)
            refine ⟨_, rfl, _, rfl, _, _, rfl, rfl, ⟨m1, lg⟩, _, rfl, p, CA K, dx, [], rfl, hp, T.cl, T.noT, (by show 0 < 1000; decide), ?_⟩
            refine ⟨_, rfl, _, rfl, _, _, rfl, rfl, ⟨m1, lg⟩, _, rfl, p, CA K, dx, _, rfl, upd_same, T.cl, T.noB, (by show 1 < 1000; decide), ?_⟩
            rw [upd_upd]
            exact e7 _ _ m3 m4 m5 m6
          refine ⟨_, rfl, _, _, rfl, rfl, _, rfl, ?_⟩
          refine ite2 (fun c => ?_) (fun c => ?_)
          · have c2 : b < 0 := of_decide_eq_true c
            refine ⟨_, rfl, _, rfl, ?_⟩
            exact fin _ (by rw [if_pos c2])
          · have c2 : ¬ b < 0 := fun z => c (decide_eq_true z)
            exact fin _ (by rw [if_neg c2])
end

end K34
set_option Elab.async false
set_option linter.all false
set_option maxRecDepth 100000
set_option maxHeartbeats 4000000
namespace K34
open PySem PySem.Spec PyProof.Rows L2 Fa Fb


/-- an argument that counts as an amount -/
def Arg (K : PySem.W.Frag) (H : Hp) (x : V) (t u : Int) (n : Nat) : Prop := IsA K H x t u n ∨ (x = .int t ∧ u = 1 ∧ t.natAbs < 2 ^ n ∧ 1 ≤ n)
/-- one that doesn't -/
def Bad (K : PySem.W.Frag) (H : Hp) (x : V) : Prop := ∃ T, T ∈ tys ∧ TyX K H x (.type T) ∧ Wh K H x false
def spIsA (K : PySem.W.Frag) : Sp := fun vs H Q _ => ∃ x t b1 b2, vs = [x] ∧ TyX K H x t ∧ PySem.W.kitOne K t (.ref (CA K)) = some b1 ∧ Wh K H x b2 ∧ Q (.bl (b1 || b2)) H
def spAs (K : PySem.W.Frag) : Sp := fun vs H Q E => ∃ x, vs = [x] ∧ ((Bad K H x ∧ Err (CV K) x H E) ∨ ∃ t u n, Arg K H x t u n ∧ ∀ y H', Same H H' → IsA K H' y t u n → Q y H')
def spEq (K : PySem.W.Frag) : Sp := fun vs H Q _ => ∃ x y t u n, vs = [x, y] ∧ IsA K H x t u n ∧ ((∃ t2 u2 m, IsA K H y t2 u2 m ∧ Q (.bl (decide (t = t2) && decide (u = u2))) H) ∨ (∃ T, TyX K H y (.type T) ∧ PySem.W.kitOne K (.type T) (.ref (CA K)) = some false ∧ Q (.bl false) H))
section
variable {K : PySem.W.Frag} {mg : Str → Option Value}
theorem make_read (T : AF K mg) {H : Hp} {Q : VK} {E : XK} {a b : Int} {n : Nat} (hb : b ≠ 0) (hs : n ≤ 8000) (ha : a.natAbs < 2 ^ n) (hbn : b.natAbs < 2 ^ n)
    (k : ∀ y H' t u, Same H H' → IsA K H' y t u n → t * b = a * u → Q y H') : ∀ x dx, H x = none → H dx = none → dx ≠ x →
    spInit K [.ref x, .int a, .int b] (upd (upd H dx (.own x)) x (.ins (CA K) dx [])) (fun v H2 => v = .non ∧ Q (.ref x) H2) E := by
  intro x dx hx hdx hne
  refine ⟨x, dx, .int a, .int b, true, true, rfl, upd_same, wh_int _, wh_int _, (fun z => by cases z), (fun _ z => by cases z), fun _ _ => ⟨a, b, rfl, rfl, fun z => absurd z hb, fun _ => ⟨?_, fun t u r e h1 h2 => ⟨rfl, ?_⟩⟩⟩⟩
  · exact Nat.lt_of_lt_of_le hbn (Nat.pow_le_pow_right (by decide) hs)
  · refine k _ _ t u (fun c o z => ?_) ⟨x, dx, rfl, upd_same, r, Nat.lt_of_le_of_lt h1 ha, Nat.lt_of_le_of_lt h2 hbn⟩ e
    rw [upd_upd, upd_ne (ne_of_none z hx), upd_ne (ne_of_none z hdx)]
    exact z
theorem spInit_imp {vs : List V} {H : Hp} {Q Q' : VK} {E : XK} (h : spInit K vs H Q E) (k : ∀ v H2, Q v H2 → Q' v H2) : spInit K vs H Q' E := by
  obtain ⟨p, dx, x, y, bx, bz, e, hp, wx, wy, e1, e2, e3⟩ := h
  refine ⟨p, dx, x, y, bx, bz, e, hp, wx, wy, e1, e2, fun h1 h2 => ?_⟩
  obtain ⟨a, b, ea, eb, f1, f2⟩ := e3 h1 h2
  exact ⟨a, b, ea, eb, f1, fun hb => ⟨(f2 hb).1, fun t u r e4 e5 e6 => k _ _ ((f2 hb).2 t u r e4 e5 e6)⟩⟩
def MadeA (K : PySem.W.Frag) (H H2 : Hp) (x : Addr) (a b : Int) (n : Nat) : Prop := ∃ t u, Same H H2 ∧ IsA K H2 (.ref x) t u n ∧ t * b = a * u
theorem make_fact (T : AF K mg) {H : Hp} {E : XK} {a b : Int} {n : Nat} (hb : b ≠ 0) (hs : n ≤ 8000) (ha : a.natAbs < 2 ^ n) (hbn : b.natAbs < 2 ^ n) {x dx : Addr} (hx : H x = none) (hdx : H dx = none) (hne : dx ≠ x) :
    spInit K [.ref x, .int a, .int b] (upd (upd H dx (.own x)) x (.ins (CA K) dx [])) (fun v H2 => v = .non ∧ MadeA K H H2 x a b n) E := by
  refine ⟨x, dx, .int a, .int b, true, true, rfl, upd_same, wh_int _, wh_int _, (fun z => by cases z), (fun _ z => by cases z), fun _ _ => ⟨a, b, rfl, rfl, fun z => absurd z hb, fun _ => ⟨?_, fun t u r e h1 h2 => ⟨rfl, t, u, fun c o z => ?_, ⟨x, dx, rfl, upd_same, r, Nat.lt_of_le_of_lt h1 ha, Nat.lt_of_le_of_lt h2 hbn⟩, e⟩⟩⟩⟩
  · exact Nat.lt_of_lt_of_le hbn (Nat.pow_le_pow_right (by decide) hs)
  · rw [upd_upd, upd_ne (ne_of_none z hx), upd_ne (ne_of_none z hdx)]
    exact z
theorem one_pow {n : Nat} (h : 1 ≤ n) : (1 : Nat) < 2 ^ n := Nat.one_lt_two_pow (by omega)
theorem lt_pow_mul {a b n m : Nat} (h1 : a < 2 ^ n) (h2 : b < 2 ^ m) : a * b < 2 ^ (n + m) := by
  rw [Nat.pow_add]
  exact Nat.mul_lt_mul'' h1 h2
theorem mulW_of {i j : Int} {n m : Nat} (h1 : i.natAbs < 2 ^ n) (h2 : j.natAbs < 2 ^ m) (h : n + m < 900000) : CMulW i j := by
  have l : ∀ (x : Int) (k : Nat), x.natAbs < 2 ^ k → x.natAbs.log2 ≤ k := fun x k hx => by
    by_cases z : x.natAbs = 0
    · rw [z]
      exact Nat.zero_le _
    · exact Nat.le_of_lt ((Nat.log2_lt z).mpr hx)
  have a1 := l i n h1
  have a2 := l j m h2
  show i.natAbs.log2 + j.natAbs.log2 < 1000000
  omega
theorem abs_mul_lt {i j : Int} {n m : Nat} (h1 : i.natAbs < 2 ^ n) (h2 : j.natAbs < 2 ^ m) : (i * j).natAbs < 2 ^ (n + m) := by
  rw [Int.natAbs_mul]
  exact lt_pow_mul h1 h2
theorem abs_add_lt {i j : Int} {n : Nat} (h1 : i.natAbs < 2 ^ n) (h2 : j.natAbs < 2 ^ n) : (i + j).natAbs < 2 ^ (n + 1) := by
  have := Int.natAbs_add_le i j
  rw [Nat.pow_succ]
  omega
theorem abs_sub_lt {i j : Int} {n : Nat} (h1 : i.natAbs < 2 ^ n) (h2 : j.natAbs < 2 ^ n) : (i - j).natAbs < 2 ^ (n + 1) := by
  have := Int.natAbs_sub_le i j
  rw [Nat.pow_succ]
  omega
theorem pow_step {a n m : Nat} (h : a < 2 ^ n) (hm : n ≤ m) : a < 2 ^ m := Nat.lt_of_lt_of_le h (Nat.pow_le_pow_right (by decide) hm)
theorem IsA.one (h : IsA K H x t u n) : 1 ≤ n := by
  obtain ⟨p, dx, _, _, ⟨h1, _⟩, _, h2⟩ := h
  rcases Nat.eq_zero_or_pos n with z | z
  · subst z
    have : u.natAbs < 1 := h2
    omega
  · exact z
end
section
variable {P : Program} {w : World} {K : PySem.W.Frag} {mg : Str → Option Value} {base : Heap} {f fW : Addr} {fd fdW fdI fdA : FuncData} {qi ti qv tv : Str} {fI fV fAs : Addr}
theorem ok_top (F : FunD K "top" "Amount.top" (defArgs sTop) (defBody sTop) (defScope sTop) [] [] f fd) (T : AF K mg) {CX : CXT} : FnOk P w K mg base CX 1 f fd ["self"] (getSp (CA K) "_top") := by
  refine F.ok scTop (fun vs H Q E h => ?_) (fun cdv A outer s H vs Q E hr h => ?_)
  · obtain ⟨a, dx, fs, v, rfl, _⟩ := h
    rfl
  · obtain ⟨a, dx, fs, v, rfl, h1, h2, q⟩ := h
    exact ⟨_, pss_one (ps_ret (pe_fld (pv 0) rfl)), .ref a, rfl, a, CA K, dx, fs, v, rfl, h1, T.cl, T.noT, h2, q⟩
theorem ok_bot (F : FunD K "bottom" "Amount.bottom" (defArgs sBot) (defBody sBot) (defScope sBot) [] [] f fd) (T : AF K mg) {CX : CXT} : FnOk P w K mg base CX 1 f fd ["self"] (getSp (CA K) "_bottom") := by
  refine F.ok scBot (fun vs H Q E h => ?_) (fun cdv A outer s H vs Q E hr h => ?_)
  · obtain ⟨a, dx, fs, v, rfl, _⟩ := h
    rfl
  · obtain ⟨a, dx, fs, v, rfl, h1, h2, q⟩ := h
    exact ⟨_, pss_one (ps_ret (pe_fld (pv 0) rfl)), .ref a, rfl, a, CA K, dx, fs, v, rfl, h1, T.cl, T.noB, h2, q⟩
theorem ok_eq (F : FunD K "__eq__" "Amount.__eq__" (defArgs sEq) (defBody sEq) (defScope sEq) [] [] f fd) (T : AF K mg) {CX : CXT} : FnOk P w K mg base CX 1 f fd ["self", "other"] (spEq K) := by
  refine F.ok scEq (fun vs H Q E h => ?_) (fun cdv A outer s H vs Q E hr h => ?_)
  · obtain ⟨x, y, t, u, n, rfl, _⟩ := h
    rfl
  · obtain ⟨x, y, t, u, n, rfl, ⟨p, dx, rfl, hp, _⟩, q⟩ := h
    refine ⟨_, pss_one (ps_ret (pe_and (pe_isi T.isi (pv 1) (pe_glob (v := .ref (CA K)) rfl T.g rfl)) (pe_and (pe_cmpR op_eq (pe_fld (pv 0) rfl) (pe_fld (pv 1) rfl) (nomark _)) (pe_one (pe_cmpR op_eq (pe_fld (pv 0) rfl) (pe_fld (pv 1) rfl) (nomark _)))))), ?_⟩
    rcases q with ⟨t2, u2, m, ⟨p2, dx2, rfl, hp2, _⟩, q⟩ | ⟨Ty, ty, hk, q⟩
    · refine ⟨_, rfl, .ref p2, _, _, _, true, rfl, .own _, T.ty hp2, T.kS, true, rfl, iteT ?_⟩
      refine ⟨_, rfl, p, CA K, dx, _, _, rfl, hp, T.cl, T.noT, fl_top _ _, _, rfl, p2, CA K, dx2, _, _, rfl, hp2, T.cl, T.noT, fl_top _ _, rfl, decide (V.int t = V.int t2), rfl, ?_⟩
      by_cases e : t = t2
      · subst e
        refine if_true_of (decide_eq_true rfl) ?_
        refine ⟨_, rfl, p, CA K, dx, _, _, rfl, hp, T.cl, T.noB, fl_bot _ _, _, rfl, p2, CA K, dx2, _, _, rfl, hp2, T.cl, T.noB, fl_bot _ _, rfl, ?_⟩
        rw [decide_eq_true rfl, Bool.true_and] at q
        by_cases e2 : u = u2
        · subst e2
          rw [decide_eq_true rfl] at q
          show Q (.bl (decide (V.int u = V.int u))) H
          rw [decide_eq_true rfl]
          exact q
        · rw [decide_eq_false e2] at q
          show Q (.bl (decide (V.int u = V.int u2))) H
          rw [decide_eq_false fun z => e2 (V.int.inj z)]
          exact q
      · refine if_false_of (decide_eq_false fun z => e (V.int.inj z)) ?_
        rw [decide_eq_false e, Bool.false_and] at q
        exact q
    · exact ⟨_, rfl, y, _, _, _, false, rfl, .own _, ty, hk, false, rfl, iteF q⟩
theorem ok_isA (F : FnP K "is_amount" sIsA f fd) (T : AF K mg) (FW : FnP K "is_whole" sWhole fW fdW) (gW : mg "is_whole" = some (.ref fW)) : FnOk P w K mg base (L2.CX P w) 2 f fd ["value"] (spIsA K) := by
  have GW : FnOk P w K mg base (L2.CX P w) 1 fW fdW ["value"] (spWhole K) := ok_whole FW T
  have bW : Binds K fdW ["value"] [] := FW.bindsN fun _ _ _ _ _ _ us hl => match us, hl with | [_], _ => rfl
  refine F.ok scIsA (fun vs H Q E h => ?_) (fun cdv A outer s H vs Q E hr h => ?_)
  · obtain ⟨x, t, b1, b2, rfl, _⟩ := h
    rfl
  · obtain ⟨x, t, b1, b2, rfl, ty, k1, wh, q⟩ := h
    refine ⟨_, pss_one (ps_ret (pe_or (pe_isi T.isi (pv 0) (pe_glob (v := .ref (CA K)) rfl T.g rfl)) (pe_one (pe_call GW hr rfl gW FW.kp bW .nil passL (pa_cons (pv 0) pa_nil))))), ?_⟩
    refine ⟨_, rfl, x, _, t, _, b1, rfl, .own _, ty, k1, b1, rfl, ?_⟩
    cases b1 with
    | true => exact iteT q
    | false => exact iteF ⟨_, rfl, x, b2, rfl, wh, q⟩
theorem ok_as (F : FnP K "as_amount" sAsA f fd) (T : AF K mg) (FW : FnP K "is_whole" sWhole fW fdW) (gW : mg "is_whole" = some (.ref fW)) (FA : FnP K "is_amount" sIsA fAs fdA) (gA : mg "is_amount" = some (.ref fAs))
    (FI : FunD K "__init__" "Amount.__init__" (defArgs sInit) (defBody sInit) (defScope sInit) [.int 1] [] (aI K) fdI)
    (XI : Xb.Txt P.main.file K qi "value" ti (CI K) fI) (XV : Xb.Txt P.main.file K qv "value" tv (CV K) fV) (htop : (P.main.scope.names.lookup ("super" : Str)).isSome = false) : FnOk P w K mg base (L2.CX P w) 6 f fd ["value"] (spAs K) := by
  have GA : FnOk P w K mg base (L2.CX P w) 2 fAs fdA ["value"] (spIsA K) := ok_isA FA T FW gW
  have bA : Binds K fdA ["value"] [] := FA.bindsN fun _ _ _ _ _ _ us hl => match us, hl with | [_], _ => rfl
  have GI : FnOk P w K mg base (L2.CX P w) 4 (aI K) fdI ["self", "top", "bottom"] (spInit K) := ok_init FI T FW gW XI htop
  obtain ⟨ds, hds, bI⟩ := FI.binds1 (ps := ["self", "top", "bottom"]) 2 0 (by simp) rfl (fun _ _ _ _ _ _ _ us its hu hi => match us, its, hu, hi with | [_, _], [_], _, _ => ⟨_, rfl, rfl⟩)
  refine F.ok scAsA (fun vs H Q E h => ?_) (fun cdv A outer s H vs Q E hr h => ?_)
  · obtain ⟨x, rfl, _⟩ := h
    rfl
  · obtain ⟨x, rfl, q⟩ := h
    have hr1 := hr.mono (show 2 ≤ 5 by decide)
    refine ⟨_, pss_cons (ps_if (pt_not (pt_val (pe_call GA hr1 rfl gA FA.kp bA .nil passL (pa_cons (pv 0) pa_nil)))) (pss_one (Xb.ps_raiseX (W := fun cls d _ H => E cls d H) rfl XV T.gV htop hr1 (takes_of rfl rfl rfl rfl) (pa_cons (pv 0) pa_nil))) pss_nil)
      (pss_one (ps_ret (pe_ifExp (pt_val (pe_isi T.isi (pv 0) (pe_glob (v := .ref (CA K)) rfl T.g rfl))) (pv 0) (pe_make T.mkA GI hr rfl T.g bI hds passL (pa_cons (pv 0) pa_nil))))), ?_⟩
    rcases q with ⟨⟨Ty, hT, ty, wh⟩, er⟩ | ⟨t, u, n, ar, q⟩
    · refine ⟨_, rfl, x, _, false, false, rfl, ty, T.kT Ty hT, wh, false, rfl, iteT ⟨_, rfl, _, rfl, er⟩⟩
    · rcases ar with ia | ⟨rfl, rfl, hn, h1⟩
      · obtain ⟨p, dx, rfl, hp, r⟩ := id ia
        refine ⟨_, rfl, .ref p, _, true, false, rfl, T.ty hp, T.kS, T.wh hp, true, rfl, iteF ?_⟩
        exact ⟨_, rfl, .ref p, _, _, _, true, rfl, .own _, T.ty hp, T.kS, true, rfl, iteT ⟨_, rfl, q _ _ (Same.refl _) ia⟩⟩
      · have kI := T.kT "int" (by simp [tys])
        refine ⟨_, rfl, .int t, _, false, true, rfl, .base (.int t), kI, wh_int t, true, rfl, iteF ?_⟩
        refine ⟨_, rfl, .int t, _, _, _, false, rfl, .own _, .base (.int t), kI, false, rfl, iteF ⟨_, rfl, ?_⟩⟩
        intro y dy hy hdy hne
        refine ⟨y, dy, .int t, .int 1, true, true, rfl, upd_same, wh_int _, wh_int _, (fun z => by cases z), (fun _ z => by cases z), fun _ _ => ⟨t, 1, rfl, rfl, (fun z => by cases z), fun _ => ⟨by decide, fun t' u' r e h2 h3 => ⟨rfl, ?_⟩⟩⟩⟩
        have eu : u' = 1 := by
          have r0 := r.1
          have : u'.natAbs ≤ 1 := h3
          omega
        subst eu
        have et : t' = t := by omega
        subst et
        refine q _ _ (fun c o z => ?_) ⟨y, dy, rfl, upd_same, r, hn, by show (1 : Nat) < _; exact one_pow h1⟩
        rw [upd_upd, upd_ne (ne_of_none z hy), upd_ne (ne_of_none z hdy)]
        exact z
end

end K34
set_option Elab.async false
set_option linter.all false
set_option maxRecDepth 100000
set_option maxHeartbeats 4000000
set_option exponentiation.threshold 100000
namespace K34
open PySem PySem.Spec PyProof.Rows L2 Fa Fb
theorem Same.upd {H : Hp} {p : Addr} {o : HO} (h : H p = none) : Same H (upd H p o) := fun c u z => by
  rw [upd_ne (ne_of_none z h)]
  exact z
theorem same_put {H H' : Hp} {D : Addr} {o : HO} (s : Same H H') (h : H D = none) : Same H (upd H' D o) := fun c u z => by
  rw [upd_ne (ne_of_none z h)]
  exact s c u z
/-- a comprehension over a text's signs -/
theorem lc_signs {z : Str} {g : TG} {tt : TT} {te : TE} {vs : List Nat} {σ : L2.St} {H1 : Hp} {D : Addr} {Qd : Hp → Prop} (Pv : Nat → Hp → Prop) (h0 : Pv 0 (upd H1 D (.lst [])))
    (hs : ∀ i c H, z.cps[i]? = some c → Pv i H → g (.str ⟨#[c]⟩) (wipe σ vs) H fun σ2 H2 => wipe σ2 vs = wipe σ vs ∧ tt σ2 H2 fun b H3 =>
      if b = true then te σ2 H3 fun y H4 => ∃ acc, H4 D = some (.lst acc) ∧ acc.length < sizeLine ∧ Pv (i + 1) (upd H4 D (.lst (acc ++ [y]))) else Pv (i + 1) H3) (hd : ∀ H, Pv z.cps.size H → Qd H) :
    ∃ W : Nat → Nat → Hp → Prop, (∃ m, W 0 m (upd H1 D (.lst []))) ∧ ∀ i m H, W i m H →
      ((Its z).stop i H ∧ Qd H) ∨ ((Its z).go i H ∧ ∃ Nx : Hp → Prop, (∀ H', Nx H' → ∃ m', m' < m ∧ W (i + 1) m' H') ∧ ∀ x H', (Its z).yld i H x H' → g x (wipe σ vs) H' fun σ2 H2 => wipe σ2 vs = wipe σ vs ∧ tt σ2 H2 fun b H3 =>
        if b = true then te σ2 H3 fun y H4 => ∃ acc, H4 D = some (.lst acc) ∧ acc.length < sizeLine ∧ Nx (upd H4 D (.lst (acc ++ [y]))) else Nx H3) := by
  refine ⟨fun i m H => m + i = z.cps.size ∧ Pv i H, ⟨z.cps.size, rfl, h0⟩, fun i m H ⟨hm, p⟩ => ?_⟩
  rcases Nat.lt_or_ge i z.cps.size with c | c
  · refine .inr ⟨c, Pv (i + 1), fun H' p' => ⟨m - 1, by omega, by omega, p'⟩, fun x H' q => ?_⟩
    obtain ⟨eH, ch, hc, rfl⟩ := q
    cases eH
    exact hs i ch _ hc p
  · have e : i = z.cps.size := by omega
    rw [e] at p
    exact .inl ⟨c, hd H p⟩
/-- whether a value is a text -/
def Tx (K : PySem.W.Frag) (H : Hp) (x : V) (b : Bool) : Prop := ∃ t, TyX K H x t ∧ PySem.W.kitOne K t (.type "str") = some b
abbrev sHas : Stmt := top 24
abbrev sName : Stmt := top 23
abbrev sUnit : Stmt := top 25
abbrev sChk : Stmt := top 26
theorem scHas : FnScope ["text", "characters", "character"] ["text", "characters"] (defScope sHas) := ⟨rfl, rfl, rfl, by decide +kernel, rfl, by decide +kernel, by decide +kernel⟩
theorem scName : FnScope ["value"] ["value"] (defScope sName) := ⟨rfl, rfl, rfl, by decide +kernel, rfl, by decide +kernel, by decide +kernel⟩
theorem scUnit : FnScope ["value"] ["value"] (defScope sUnit) := ⟨rfl, rfl, rfl, by decide +kernel, rfl, by decide +kernel, by decide +kernel⟩
theorem scChk : FnScope ["unit"] ["unit"] (defScope sChk) := ⟨rfl, rfl, rfl, by decide +kernel, rfl, by decide +kernel, by decide +kernel⟩
/-- all signs of z stand in c -/
def only (z c : Str) : Bool := z.cps.toList.all fun x => decide (x ∈ c.cps.toList)
def spHas : Sp := fun vs H Q _ => ∃ z c : Str, vs = [.str z, .str c] ∧ z.cps.size ≤ 100000 ∧ ∀ H', Same H H' → Q (.bl (only z c)) H'
theorem boot_all : bootBuiltins "all" = some (.builtin "all") := by decide +kernel
section
variable {P : Program} {w : World} {K : PySem.W.Frag} {mg : Str → Option Value} {base : Heap} {f fW : Addr} {fd fdW : FuncData}
theorem ok_has (F : FnP K "has_only" sHas f fd) (mA : mg "all" = none) : FnOk P w K mg base (L2.CX P w) 1 f fd ["text", "characters"] spHas := by
  refine F.ok scHas (fun vs H Q E h => ?_) (fun cdv A outer s H vs Q E hr h => ?_)
  · obtain ⟨z, c, rfl, _⟩ := h
    rfl
  · obtain ⟨z, c, rfl, hz, q⟩ := h
    refine ⟨_, pss_one (ps_ret (pe_callB (cr_all rfl) rfl mA boot_all (pa_cons (pe_lc (own := [("character", 2)]) (g := gName 2) (te := tOp (fun x y H Q => ∃ (c : Nat) (z : Str), x = .str ⟨#[c]⟩ ∧ y = .str z ∧ Q (.bl (decide (c ∈ z.cps.toList))) H) (tVar 2) (tVar 1)) (by rfl) scHas.nd (pi_str (pv 0))
      (blkOk_by (own := [("character", 2)]) (N := ["text", "characters", "character"]) (sc := defScope sHas) (by decide +kernel)) (fun _ _ _ _ _ => pg_name (i := 2) scHas.nd rfl (Or.inl rfl)) (fun _ _ _ _ _ => pts_nil) (fun _ _ _ _ _ => pe_cmpR op_in_sign (pv 2) (pv 1) (by rfl))) pa_nil))), ?_⟩
    refine ⟨_, rfl, z, rfl, fun D hD => ?_⟩
    refine lc_signs (fun i H' => Same H H' ∧ H' D = some (.lst (((z.cps.toList.take i).map fun x => decide (x ∈ c.cps.toList)).map V.bl))) ⟨Same.upd hD, upd_same⟩ ?_ ?_
    · rintro i ch H1 hc ⟨s1, hl⟩
      refine ⟨rfl, _, rfl, _, rfl, ch, c, rfl, rfl, _, hl, ?_, same_put s1 hD, ?_⟩
      · have := (Array.getElem?_eq_some_iff.mp hc).1
        simp only [List.length_map, List.length_take]
        exact Nat.lt_of_le_of_lt (Nat.min_le_left _ _) (Nat.lt_of_lt_of_le this (Nat.le_trans hz (by decide)))
      · have hc2 : z.cps.toList[i]? = some ch := by rw [Array.getElem?_toList]; exact hc
        rw [upd_same, List.take_add_one, hc2]
        simp
    · rintro H1 ⟨s1, hl⟩
      have e : z.cps.toList.take z.cps.size = z.cps.toList := List.take_of_length_le (by simp)
      rw [e] at hl
      refine ⟨D, _, rfl, SqL.of hl, ?_⟩
      rw [List.all_map]
      exact q H1 s1
end
end K34

set_option Elab.async false
set_option linter.all false
set_option maxRecDepth 100000
set_option maxHeartbeats 4000000
set_option exponentiation.threshold 100000
namespace K34
open PySem PySem.Spec PyProof.Rows L2 Fa Fb
abbrev LET : Str := "abcdefghijklmnopqrstuvwxyz"
abbrev DIG : Str := "0123456789"
abbrev CU (K : PySem.W.Frag) : Addr := He.ga K "InvalidUnit"
/-- what the written part says of validation's names -/
structure VF (K : PySem.W.Frag) (mg : Str → Option Value) (aU : Addr) : Prop where
  str : mg "str" = none
  len : mg "len" = none
  all : mg "all" = none
  letters : ∃ t, mg "LETTERS" = some (.str LET t)
  digits : ∃ t, mg "DIGITS" = some (.str DIG t)
  longest : ∃ t, mg "LONGEST_NAME" = some (.int 8 t)
  units : mg "UNITS" = some (.ref aU)
  unitsT : ∀ H, SqT K H aU [.str "beats", .str "seconds"]
def isName (z : Str) : Bool := (decide (1 ≤ z.length) && decide (z.length ≤ 8)) && ((match z.cps.toList.head? with | some c => decide (c ∈ LET.cps.toList) | none => false) && only z (LET ++ DIG))
def spName (K : PySem.W.Frag) : Sp := fun vs H Q _ => ∃ x, vs = [x] ∧ ((Tx K H x false ∧ Q (.bl false) H) ∨ ∃ z : Str, x = .str z ∧ z.length ≤ 100000 ∧ ∀ H', Same H H' → Q (.bl (isName z)) H')
def isUnit (z : Str) : Bool := decide (z = "beats") || decide (z = "seconds")
def spText (K : PySem.W.Frag) (g : Str → Bool) : Sp := fun vs H Q _ => ∃ x, vs = [x] ∧ ((Tx K H x false ∧ Q (.bl false) H) ∨ ∃ z : Str, x = .str z ∧ Q (.bl (g z)) H)
theorem boot_str : bootBuiltins "str" = some (.type "str") := by decide +kernel
theorem tx_str {K : PySem.W.Frag} : PySem.W.kitOne K (.type "str") (.type "str") = some true := kit_ty (by decide +kernel)
section
variable {P : Program} {w : World} {K : PySem.W.Frag} {mg : Str → Option Value} {base : Heap} {f fW fH : Addr} {fd fdW fdH : FuncData} {aU : Addr}
theorem ok_name (F : FnP K "is_name" sName f fd) (T : AF K mg) (V : VF K mg aU) (GH : FnOk P w K mg base (L2.CX P w) 1 fH fdH ["text", "characters"] spHas) (gH : mg "has_only" = some (.ref fH)) (kH : PySem.W.keepIn K (.ref fH) = true) (bH : Binds K fdH ["text", "characters"] []) :
    FnOk P w K mg base (L2.CX P w) 2 f fd ["value"] (spName K) := by
  obtain ⟨t1, hL⟩ := V.letters
  obtain ⟨t2, hD⟩ := V.digits
  obtain ⟨t3, hN⟩ := V.longest
  refine F.ok scName (fun vs H Q E h => ?_) (fun cdv A outer s H vs Q E hr h => ?_)
  · obtain ⟨x, rfl, _⟩ := h
    rfl
  · obtain ⟨x, rfl, q⟩ := h
    refine ⟨_, pss_cons (ps_if (PW.pt (pw_or (pt_not (pt_val (pe_isi T.isi (pv 0) (pe_ty V.str boot_str)))) (pw_or1 (pt_not (pt_chain op_le op_le pe_int (pe_callB call_len_str rfl V.len PySem.boot_len (pa_cons (pv 0) pa_nil)) (pe_glob (v := .int 8) rfl hN ⟨t3, rfl⟩)))))) (pss_one (ps_ret pe_bl)) pss_nil)
      (pss_one (ps_ret (pe_and (pe_cmpR op_in_sign (pe_ix ix_str (pv 0) pe_int (fun _ _ => rfl)) (pe_glob (v := .str LET) rfl hL ⟨t1, rfl⟩) (by rfl)) (pe_one (pe_call GH hr rfl gH kH bH .nil passL (pa_cons (pv 0) (pa_cons (pe_op op_add_str (pe_glob (v := .str LET) rfl hL ⟨t1, rfl⟩) (pe_glob (v := .str DIG) rfl hD ⟨t2, rfl⟩)) pa_nil))))))), ?_⟩
    rcases q with ⟨⟨ty, h1, h2⟩, q⟩ | ⟨z, rfl, hz, q⟩
    · exact ⟨_, rfl, x, _, ty, _, false, rfl, .ty "str", h1, h2, false, rfl, iteT q⟩
    · refine ⟨_, rfl, .str z, _, _, _, true, rfl, .ty "str", TyX.base (.str z), tx_str, true, rfl, iteF ?_⟩
      have hz2 : z.length ≤ sizeLine := Nat.le_trans hz (by decide)
      refine ⟨_, rfl, z, rfl, hz2, _, _, rfl, rfl, _, rfl, ?_⟩
      by_cases c1 : 1 ≤ z.length
      · refine if_true_of (decide_eq_true (by omega)) ⟨_, _, rfl, rfl, _, rfl, ?_⟩
        by_cases c2 : z.length ≤ 8
        · rw [decide_eq_true (show (z.length : Int) ≤ 8 by omega)]
          refine iteF ?_
          have h0 : 0 < z.cps.toList.length := by
            have : z.cps.toList.length = z.length := by simp [Str.length]
            omega
          have hh : z.cps.toList.head? = some z.cps.toList[0] := by rw [List.head?_eq_getElem?, List.getElem?_eq_getElem h0]
          refine ⟨_, rfl, z, _, _, rfl, rfl, hz2, atI_nat (j := 0) (List.getElem?_eq_getElem h0), _, _, rfl, rfl, _, rfl, ?_⟩
          unfold isName at q
          rw [decide_eq_true c1, decide_eq_true c2, hh] at q
          by_cases c3 : z.cps.toList[0] ∈ LET.cps.toList
          · refine if_true_of (decide_eq_true c3) ⟨_, rfl, LET, DIG, rfl, rfl, by decide +kernel, z, LET ++ DIG, rfl, hz, fun H' s' => ?_⟩
            have q' := q H' s'
            simp only [decide_eq_true c3, Bool.true_and] at q'
            exact q'
          · refine if_false_of (decide_eq_false c3) ?_
            have q' := q H (Same.refl _)
            simp only [decide_eq_false c3, Bool.false_and, Bool.and_false] at q'
            exact q'
        · rw [decide_eq_false (show ¬ (z.length : Int) ≤ 8 by omega)]
          refine iteT ?_
          have q' := q H (Same.refl _)
          unfold isName at q'
          rw [decide_eq_false c2, Bool.and_false, Bool.false_and] at q'
          exact q'
      · refine if_false_of (decide_eq_false (by omega)) ⟨_, rfl, iteT ?_⟩
        have q' := q H (Same.refl _)
        unfold isName at q'
        rw [decide_eq_false c1, Bool.false_and, Bool.false_and] at q'
        exact q'
theorem sbeq (a z : Str) : (a == z) = decide (z = a) := by
  rw [Bool.eq_iff_iff, beq_iff_eq, decide_eq_true_iff]
  exact eq_comm
theorem inV_unit (z : Str) : inV (.str z) [.str "beats", .str "seconds"] = isUnit z := by
  unfold inV isUnit
  simp only [List.any_cons, List.any_nil, eqV, Bool.or_false, sbeq]
theorem ok_unit (F : FnP K "is_unit" sUnit f fd) (T : AF K mg) (V : VF K mg aU) : FnOk P w K mg base (L2.CX P w) 1 f fd ["value"] (spText K isUnit) := by
  refine F.ok scUnit (fun vs H Q E h => ?_) (fun cdv A outer s H vs Q E hr h => ?_)
  · obtain ⟨x, rfl, _⟩ := h
    rfl
  · obtain ⟨x, rfl, q⟩ := h
    refine ⟨_, pss_one (ps_ret (pe_and (pe_isi T.isi (pv 0) (pe_ty V.str boot_str)) (pe_one (pe_cmpR op_in_seq (pv 0) (pe_glob (v := .ref aU) rfl V.units rfl) (by rfl))))), ?_⟩
    rcases q with ⟨⟨ty, h1, h2⟩, q⟩ | ⟨z, rfl, q⟩
    · exact ⟨_, rfl, x, _, ty, _, false, rfl, .ty "str", h1, h2, false, rfl, iteF q⟩
    · refine ⟨_, rfl, .str z, _, _, _, true, rfl, .ty "str", TyX.base (.str z), tx_str, true, rfl, iteT ⟨_, rfl, aU, _, rfl, .inr (V.unitsT H), rfl, rfl, ?_⟩⟩
      rw [if_neg (by decide), inV_unit]
      exact q
/-- a unit passes; else an error -/
def spChk (K : PySem.W.Frag) : Sp := fun vs H Q E => ∃ x, vs = [x] ∧ ((Tx K H x false ∧ Err (CU K) x H E) ∨ ∃ z : Str, x = .str z ∧ (isUnit z = false → Err (CU K) x H E) ∧ (isUnit z = true → Q .non H))
theorem ok_chk {fU fI : Addr} {fdU : FuncData} {qu tu : Str} (F : FnP K "check_unit" sChk f fd) (GU : FnOk P w K mg base (L2.CX P w) 1 fU fdU ["value"] (spText K isUnit)) (gU : mg "is_unit" = some (.ref fU)) (kU : PySem.W.keepIn K (.ref fU) = true) (bU : Binds K fdU ["value"] [])
    (gE : mg "InvalidUnit" = some (.ref (CU K))) (XU : Xb.Txt P.main.file K qu "value" tu (CU K) fI) (htop : (P.main.scope.names.lookup ("super" : Str)).isSome = false) : FnOk P w K mg base (L2.CX P w) 2 f fd ["unit"] (spChk K) := by
  refine F.ok scChk (fun vs H Q E h => ?_) (fun cdv A outer s H vs Q E hr h => ?_)
  · obtain ⟨x, rfl, _⟩ := h
    rfl
  · obtain ⟨x, rfl, q⟩ := h
    refine ⟨_, pss_one (ps_if (pt_not (pt_val (pe_call GU hr rfl gU kU bU .nil passL (pa_cons (pv 0) pa_nil)))) (pss_one (Xb.ps_raiseX (W := fun cls d _ H => E cls d H) rfl XU gE htop hr (takes_of rfl rfl rfl rfl) (pa_cons (pv 0) pa_nil))) pss_nil), ?_⟩
    rcases q with ⟨tx, er⟩ | ⟨z, rfl, er, q⟩
    · exact ⟨_, rfl, x, rfl, .inl ⟨tx, false, rfl, iteT ⟨_, rfl, _, rfl, er⟩⟩⟩
    · refine ⟨_, rfl, .str z, rfl, .inr ⟨z, rfl, isUnit z, rfl, ?_⟩⟩
      cases g : isUnit z with
      | false => exact iteT ⟨_, rfl, _, rfl, er g⟩
      | true => exact iteF (q g)
end
end K34

set_option Elab.async false
set_option linter.all false
set_option maxRecDepth 100000
set_option maxHeartbeats 4000000
/-! Defs that show lists: the guards of repr stand empty around them. -/
namespace Fg
open PySem PySem.Spec PyProof.Rows L2
/-- a def's promise where no repr is under way -/
structure FnG (P : Program) (w : World) (K : PySem.W.Frag) (mg : Str → Option Value) (base : Heap) (CX : CXT) (k : Nat) (f : Addr) (fd : FuncData) (ps : List Str) (sp : Sp) : Prop where
  len : ∀ vs H Q E, sp vs H Q E → vs.length = ps.length
  run : ∀ (A : Around) (ou : List Env) (s : Shared) (H : Hp) (ar : Args) (us : List Value) (vs : List V) (Q : VK) (E : XK), A.guards = some [] → Room k A → Env0 P w K mg base A ou s H → BindsTo s fd ar (ps.zip us) →
    Vals vs us → sp vs H Q E → codeAny (model P w) A (.call (.ref f) ar) (CR CX ou P w H s Q E) s
section
variable {CX : CXT} {P : Program} {w : World} {K : PySem.W.Frag} {mg : Str → Option Value} {base : Heap} {k : Nat} {f : Addr} {fd : FuncData} {x qual : Str} {params : Arguments} {body : List Stmt} {scope : Scope} {dvs : List V} {kws : List (Str × V)} {N ps : List Str} {sp : Sp}
theorem okG (F : FunD K x qual params body scope dvs kws f fd) (S : FnScope N ps scope) (len : ∀ vs H Q E, sp vs H Q E → vs.length = ps.length)
    (hb : ∀ (cdv : Value) (A : Around) (ou : List Env) (s : Shared) (H : Hp) (vs : List V) (Q : VK) (E : XK), A.guards = some [] → Room k (A.deeper (envOfC qual scope s.heap.objs.size f cdv)) → sp vs H Q E →
      ∃ t, PSs (cxOf CX P w K mg base N qual scope f cdv A ou s H E) body t ∧ t { nx := fun _ H' => Q .non H', rt := Q } (start N vs) H) : FnG P w K mg base CX (k + 1) f fd ps sp := by
  obtain ⟨oc, od, dV, kV, doc, pm, an, cdv, ct, osl, rfl, lk, hcd, _, _⟩ := F.ex
  constructor
  · exact len
  intro A ou s H ar us vs Q E hg hr e0 bi rv hsp
  have keep : ∀ b o, base.get? b = some o → s.heap.get? b = some o := fun b o e => (e0.bs b o e).1
  have inK : K.In s.heap := e0.mod.kin.keeps keep
  have noL : s.heap.NoLimit := e0.mod.nolimit.keeps keep
  have kinds : ∀ y ∈ ps.zip us, scope.names.lookup y.1 = some .local ∨ (scope.names.lookup y.1 = some .cell ∧ ((cellsFrom (s.heap.objs.size + 1) scope.names []).lookup y.1).isSome = true) := by
    rintro ⟨n, v⟩ hy
    exact (S.par n (List.of_mem_zip hy).1).imp id fun q => ⟨q, PySem.W.cellsFrom_some _ _ _ (.inl q)⟩
  refine codeAny_call_function hr.depth (inK _ _ lk) rfl S.co S.gen rfl (PySem.W.codeRec_of inK hcd) (bi _ _ _ _ ?_)
  refine wpAny_newFunctionEnv_cells S.kind kinds fun env he s1 ic => ?_
  cases he
  refine ⟨noL.keeps ic.toInCall.keep, codeAny_func ?_⟩
  obtain ⟨t, pt, tq⟩ := hb cdv A ou s H vs Q E hg (hr.deeper _) hsp
  have J : Inv (cxOf CX P w K mg base N qual scope f cdv A ou s H E) [] (start N vs) H s1 := inv_start S hr.hd e0 (len _ _ _ _ hsp) rv ic
  refine wpAny_mono (pt.run [] s1 (start N vs) H _ J tq) (fun fl s2 h2 => ?_) fun _ _ h2 => h2
  match fl, h2 with
  | .ret u, h2 =>
    obtain ⟨v, σ2, H2, J2, ru, q2⟩ := h2
    exact ⟨v, H2, J2.os, J2.bare, J2.base, J2.hok, ru, q2⟩
  | .next, h2 =>
    obtain ⟨σ2, H2, J2, q2⟩ := h2
    exact ⟨V.non, H2, J2.os, J2.bare, J2.base, J2.hok, rfl, q2⟩
  | .brk, h2 => exact (let ⟨_, _, _, z⟩ := h2; False.elim z)
  | .cont, h2 => exact (let ⟨_, _, _, z⟩ := h2; False.elim z)
end
section
variable {X : Cx} {CX : CXT} {k : Nat} {f : Addr} {fd : FuncData} {ps : List Str} {sp : Sp} {E : L2.St → XK} {x : Str} {p pos : Pos} {e : Expr} {es : List Expr} {t : TA}
theorem run_G {pn : List (Addr × Obj)} {σ : L2.St} {H : Hp} {s : Shared} {Q : VK} {us : List Value} {vs : List V} (G : X.A.guards = some []) (F : FnG X.prog X.w X.K X.mg X.base CX k f fd ps sp) (hr : Room k X.A) (hb : Binds X.K fd ps []) (px : PassesAt CX X σ (E σ))
    (I : Inv X pn σ H s) (r : Vals vs us) (h : sp vs H Q (E σ)) : wpAny (model X.prog X.w) X.A (call (.ref f) us) (EP X pn σ Q) X.xe s := by
  have bi := hb s us I.kIn (by rw [List.append_nil, ← r.length]; exact F.len _ _ _ _ h)
  rw [List.append_nil] at bi
  refine wpAny_call (codeAny_mono (F.run X.A X.stack s H ⟨us, []⟩ us vs Q (E σ) G hr I.env0 bi r h) fun res s2 out => ?_)
  match res, out with
  | .error er, out => exact px pn H s er s2 I out
  | .ok (.ret u), out => exact I.after out
  | .ok .next, out => exact out.elim
  | .ok .brk, out => exact out.elim
  | .ok .cont, out => exact out.elim
theorem pe_callG (G : X.A.guards = some []) (F : FnG X.prog X.w X.K X.mg X.base CX k f fd ps sp) (hr : Room k X.A) (hg : Gl X x) (hm : X.mg x = some (.ref f)) (hk : PySem.W.keepIn X.K (.ref f) = true) (hb : Binds X.K fd ps []) (px : ∀ σ, PassesAt CX X σ (E σ))
    (ha : PA X (e :: es) t) (nd : (x == ("__debug__" : Str)) = false := by decide) (he : starEach (e :: es) X.env = (false, eval e X.env) :: starEach es X.env := by rfl) (hpl : (backTo pos (starEach es X.env)).any (·.1) = false := by rfl) :
    PE X (.Call (.Name x p) (e :: es) [] pos) (tCallS sp E t) := by
  constructor
  intro pn s σ H Q I h
  refine wpAny_Call_Name_kw (ld_glob I hg hm ?_ nd)
  refine PySem.W.callWith_K (h₀ := X.base) I.ok.mod.kin hk (thn (ha.run pos pn s σ H _ I h) ?_) he hpl
  rintro us s1 ⟨vs, H1, I1, r, q⟩
  exact ⟨I1.kIn, run_G G F hr hb (px σ) I1 r q⟩
theorem pe_callG0 (G : X.A.guards = some []) (F : FnG X.prog X.w X.K X.mg X.base CX k f fd ps sp) (hr : Room k X.A) (hg : Gl X x) (hm : X.mg x = some (.ref f)) (hk : PySem.W.keepIn X.K (.ref f) = true) (hb : Binds X.K fd ps []) (px : ∀ σ, PassesAt CX X σ (E σ))
    (nd : (x == ("__debug__" : Str)) = false := by decide) : PE X (.Call (.Name x p) [] [] pos) (tCallS sp E tNil) := by
  constructor
  intro pn s σ H Q I h
  exact wpAny_Call_Name_kw (ld_glob I hg hm (PySem.W.callWith_K0 I.kIn hk (run_G (us := []) G F hr hb (px σ) I .nil h)) nd)
end
/-! ### repr of what is tracked -/
/-- the object of sys.modules is a dict of the written part -/
def SysD (K : PySem.W.Frag) : Prop := ∃ c dd es ep sl, K.lookup sysModules = some ⟨c, dd, .dict es ep, sl⟩
def Sh (X : Cx) (H : Hp) (v : V) (d : PyData) : Prop := ∀ (pn : List (Addr × Obj)) (σ : L2.St) (s : Shared) (u : Value), Inv X pn σ H s → RelV v u → ∃ as, Reads s.heap u d as ∧ sysModules ∉ as
inductive ShA (X : Cx) (H : Hp) : List V → List PyData → Prop
  | nil : ShA X H [] []
  | cons {v : V} {vs : List V} {d : PyData} {ds : List PyData} : Sh X H v d → ShA X H vs ds → ShA X H (v :: vs) (d :: ds)
section
variable {X : Cx} {H : Hp}
theorem ShA.reads {pn : List (Addr × Obj)} {σ : L2.St} {s : Shared} (I : Inv X pn σ H s) : ∀ {vs : List V} {ds : List PyData} {us : List Value}, ShA X H vs ds → Vals vs us → ∃ as, ReadsAll s.heap us ds as ∧ sysModules ∉ as
  | _, _, _, .nil, .nil => ⟨[], .nil, by simp⟩
  | _, _, _, .cons h hs, .cons r rs => by
    obtain ⟨as, a1, a2⟩ := h _ _ _ _ I r
    obtain ⟨bs, b1, b2⟩ := ShA.reads I hs rs
    exact ⟨as ++ bs, .cons a1 b1, by simp [a2, b2]⟩
theorem sh_non : Sh X H .non .none := fun _ _ _ u _ r => by
  cases r
  exact ⟨[], .none, by simp⟩
theorem sh_bl (b : Bool) : Sh X H (.bl b) (.bool b) := fun _ _ _ u _ r => by
  cases r
  exact ⟨[], .bool b, by simp⟩
theorem sh_int (i : Int) : Sh X H (.int i) (.int i) := fun _ _ _ u _ ⟨t, e⟩ => by
  cases e
  exact ⟨[], .int i t, by simp⟩
theorem sh_str (x : Str) : Sh X H (.str x) (.str x) := fun _ _ _ u _ ⟨t, e⟩ => by
  cases e
  exact ⟨[], .str x t, by simp⟩
theorem sh_lst (S : SysD X.K) {a : Addr} {xs : List V} {ds : List PyData} (h : H a = some (.lst xs)) (hs : ShA X H xs ds) : Sh X H (.ref a) (.list ds) := fun pn σ s u I r => by
  cases r
  obtain ⟨its, rv, ⟨o, n, ho, hc, _, hd⟩, _⟩ := I.list (SqL.of (K := X.K) h)
  obtain ⟨as, a1, a2⟩ := hs.reads I rv
  refine ⟨a :: as, .list ho hc hd a1, fun z => ?_⟩
  rcases List.mem_cons.mp z with z | z
  · obtain ⟨c, dd, es, ep, sl, hk⟩ := S
    have h2 := I.kIn _ _ hk
    rw [z, ho] at h2
    cases h2
    cases hd
  · exact a2 z
theorem sh_tup {a : Addr} {xs : List V} {ds : List PyData} (h : H a = some (.tup xs)) (hs : ShA X H xs ds) : Sh X H (.ref a) (.tuple ds) := fun pn σ s u I r => by
  cases r
  obtain ⟨its, rv, ⟨o, ho, hc, n, hd⟩, _⟩ := I.tuple (SqT.of (K := X.K) h)
  obtain ⟨as, a1, a2⟩ := hs.reads I rv
  exact ⟨as, .tuple ho hc hd a1, a2⟩
theorem sh_dict0 {a : Addr} (h : H a = some (.dK [])) : Sh X H (.ref a) (.dict []) := fun pn σ s u I r => by
  cases r
  obtain ⟨_, h1, vs, kv, hd⟩ := dk_of I.hok h
  obtain ⟨o, es, ep, ho, hc, hdat, _, hp, _⟩ := hd
  cases kv
  have el : es.toList = [] := List.eq_nil_of_length_eq_zero hp.length
  refine ⟨a :: [] ++ [], Reads.dict ho hc.1 hdat (by rw [el]; exact .nil) (by rw [el]; exact .nil), fun z => ?_⟩
  have z2 : sysModules = a := by simpa using z
  rw [← z2] at h1
  simp at h1
mutual
/-- what is shown of a value, by the tracked heap alone -/
inductive Sv (H : Hp) : V → PyData → Prop
  | non : Sv H .non .none
  | bl (b : Bool) : Sv H (.bl b) (.bool b)
  | int (i : Int) : Sv H (.int i) (.int i)
  | str (x : Str) : Sv H (.str x) (.str x)
  | lst {a : Addr} {xs : List V} {ds : List PyData} : H a = some (.lst xs) → SvA H xs ds → Sv H (.ref a) (.list ds)
  | tup {a : Addr} {xs : List V} {ds : List PyData} : H a = some (.tup xs) → SvA H xs ds → Sv H (.ref a) (.tuple ds)
  | dic {a : Addr} : H a = some (.dK []) → Sv H (.ref a) (.dict [])
inductive SvA (H : Hp) : List V → List PyData → Prop
  | nil : SvA H [] []
  | cons {v : V} {vs : List V} {d : PyData} {ds : List PyData} : Sv H v d → SvA H vs ds → SvA H (v :: vs) (d :: ds)
end
mutual
theorem Sv.sh (S : SysD X.K) : ∀ {d : PyData} {v : V}, Sv H v d → Sh X H v d
  | _, _, .non => sh_non
  | _, _, .bl b => sh_bl b
  | _, _, .int i => sh_int i
  | _, _, .str x => sh_str x
  | _, _, .lst h hs => sh_lst S h (SvA.sh S hs)
  | _, _, .tup h hs => sh_tup h (SvA.sh S hs)
  | _, _, .dic h => sh_dict0 h
theorem SvA.sh (S : SysD X.K) : ∀ {ds : List PyData} {vs : List V}, SvA H vs ds → ShA X H vs ds
  | _, _, .nil => .nil
  | _, _, .cons h hs => .cons (Sv.sh S h) (SvA.sh S hs)
end
mutual
theorem Sv.same {H' : Hp} (s : ∀ a o, H a = some o → H' a = some o) : ∀ {d : PyData} {v : V}, Sv H v d → Sv H' v d
  | _, _, .non => .non
  | _, _, .bl b => .bl b
  | _, _, .int i => .int i
  | _, _, .str x => .str x
  | _, _, .lst h hs => .lst (s _ _ h) (SvA.same s hs)
  | _, _, .tup h hs => .tup (s _ _ h) (SvA.same s hs)
  | _, _, .dic h => .dic (s _ _ h)
theorem SvA.same {H' : Hp} (s : ∀ a o, H a = some o → H' a = some o) : ∀ {ds : List PyData} {vs : List V}, SvA H vs ds → SvA H' vs ds
  | _, _, .nil => .nil
  | _, _, .cons h hs => .cons (Sv.same s h) (SvA.same s hs)
end
theorem call_reprD (S : SysD X.K) (G : X.A.guards = some []) (hu : X.A.units + 64 < cLine) : CallR X (.builtin "repr") (fun xs H Q => ∃ a d, xs = [.ref a] ∧ Sv H (.ref a) d ∧ d.showable = true ∧ d.depth ≤ 20 ∧ d.shown.length ≤ sizeLine ∧ Q (.str d.shown) H) := by
  intro pn s σ H xs us Q I r h
  obtain ⟨a, d, rfl, sv, h1, h2, h3, q⟩ := h
  obtain ⟨u, rfl, r1⟩ := vals1 r
  obtain rfl : u = Value.ref a := r1
  obtain ⟨as, rd, ns⟩ := sv.sh S _ _ _ _ I rfl
  exact repr_of_reads' rd h1 (fun _ => ns) G (by omega) (fun _ _ e => e) (fun h' u tk hk => ⟨.str d.shown, H, I.kept (t' := tk) hk, ⟨u, rfl⟩, q⟩) h3
end
theorem deeper_guards {A : Around} {env : Env} : (A.deeper env).guards = A.guards := rfl
end Fg
set_option Elab.async false
set_option linter.all false
set_option maxRecDepth 100000
set_option maxHeartbeats 4000000
/-! A law's end where its def shows lists: no repr is under way when it is called. -/
namespace Fg
open PySem PySem.Spec PyProof.Rows L2
section
variable {P : Program} {w : World} {K : PySem.W.Frag} {mg mb : Str → Option Value} {CX : CXT} {k : Nat} {fa a : Addr} {fd : FuncData} {x : Str} {sp : Sp} {s₁ : Shared} {vs : List Value} {ns : List Int}
/-- from a heap H that tracks the script at the most -/
theorem call_from (KX : K.In s₁.heap) (hns : s₁.heap.Ns mainGlobals mg) (hb : s₁.heap.Ns builtinsNs mb) (hbb : ∀ x : Str, x ≠ "__name__" → mb x = bootBuiltins x) (hlim : s₁.heap.NoLimit) (hg : s₁.gens = #[])
    (obj : s₁.heap.get? a = some { cls := .type "list", data := .seq vs.toArray }) (hr : Room k callerA) (F : ∀ base : Heap, K.In base → base.Ns mainGlobals mg → FnG P w K mg base CX k fa fd [x] sp)
    (bind : ∀ (s : Shared) (u : Value), BindsTo s fd ⟨[u], []⟩ [(x, u)]) (noX : ∀ H e s', CX [] H s₁ (fun _ _ _ => False) e s' → False) {H : Hp} (only : Only H) (hsp : sp [.ref a] H (fun v _ => v = .bl true) fun _ _ _ => False)
    (hok : HOk P w H s₁.heap) (at_ : ∀ b, H b ≠ none → b = a) (own : H a ≠ none → K.lookup a = none) :
    codeAny (model P w) callerA (.call (.ref fa) ⟨[.ref a], []⟩) (fun r s' => r = .ok (.ret (.bool true)) ∧ OldK s₁.heap s'.heap ∧ s'.os = s₁.os ∧ AllBare s'.gens) s₁ := by
  have free : ∀ {b : Addr} {o : Obj}, s₁.heap.get? b = some o → (b = a → o ≠ { cls := .type "list", data := .seq vs.toArray }) → H b = none := by
    intro b o e ne
    cases q : H b with
    | none => rfl
    | some u =>
      have eb := at_ b (by rw [q]; exact fun z => nomatch z)
      rw [eb, obj] at e
      exact absurd (Option.some.inj e).symm (ne eb)
  have hid : ∀ {b : Addr} {o : Obj}, s₁.heap.get? b = some o → H b = none → (hidT s₁.heap H).get? b = some o := fun e n => hidT_get e n
  have nsp : ∀ {b : Addr} {m : Str → Option Value}, s₁.heap.Ns b m → (hidT s₁.heap H).Ns b m := by
    rintro b m ⟨o, es, ep, e, d, r⟩
    refine ⟨o, es, ep, hid e (free e fun _ z => ?_), d, r⟩
    rw [z] at d
    cases d
  have inB : K.In (hidT s₁.heap H) := fun b o e => hid (KX b o e) (by
    cases q : H b with
    | none => rfl
    | some u =>
      have eb := at_ b (by rw [q]; exact fun z => nomatch z)
      rw [eb] at q e
      rw [own (by rw [q]; exact fun z => nomatch z)] at e
      cases e)
  have M : Mod K mg (hidT s₁.heap H) := ⟨inB, nsp hns, ⟨mb, nsp hb, hbb⟩, hlim.imp fun _ h => ⟨nsp h.1, h.2⟩⟩
  have e0 : Env0 P w K mg (hidT s₁.heap H) callerA [] s₁ H := by
    refine ⟨rfl, M, fun b o e => of_hidT e, Nat.le_of_eq (hidT_size _ _), trivial, fun b hb => ?_, hok, .of_eq hg⟩
    exact (List.not_mem_nil hb).elim
  refine codeAny_mono ((F _ inB (nsp hns)).run callerA [] s₁ H ⟨[.ref a], []⟩ [.ref a] [.ref a] _ _ rfl hr e0 (bind s₁ (.ref a)) (.cons rfl .nil) hsp) fun res s2 out => ?_
  match res, out with
  | .error er, out => exact (noX H er s2 out).elim
  | .ok .next, out => exact out.elim
  | .ok .brk, out => exact out.elim
  | .ok .cont, out => exact out.elim
  | .ok (.ret u), out =>
    obtain ⟨v, H2, os, bare, un, hok2, ru, qv⟩ := out
    cases (show v = V.bl true from qv)
    cases ru
    refine ⟨rfl, OldK.of_keep fun b o e => ?_, os, bare⟩
    rcases only b with n | ⟨ob, xs, z⟩
    · exact un.keep b o e n (fun m => (List.not_mem_nil m).elim) (by simp)
    · obtain ⟨g1, _⟩ := hok b _ z
      obtain ⟨g2, _⟩ := hok2 b _ (un.frzs b ob _ z)
      rw [g1] at e
      rw [g2]
      exact e
theorem law_callG (KX : K.In s₁.heap) (hns : s₁.heap.Ns mainGlobals mg) (hb : s₁.heap.Ns builtinsNs mb) (hbb : ∀ x : Str, x ≠ "__name__" → mb x = bootBuiltins x) (hlim : s₁.heap.NoLimit) (hg : s₁.gens = #[])
    (obj : s₁.heap.get? a = some { cls := .type "list", data := .seq vs.toArray }) (hi : IntsAre vs ns) (hl : ns.length ≤ sizeLine) (hr : Room k callerA) (F : ∀ base : Heap, K.In base → base.Ns mainGlobals mg → FnG P w K mg base CX k fa fd [x] sp)
    (bind : ∀ (s : Shared) (u : Value), BindsTo s fd ⟨[u], []⟩ [(x, u)]) (hsp : ∀ H : Hp, Only H → SqL K H a (ns.map V.int) → sp [.ref a] H (fun v _ => v = .bl true) fun _ _ _ => False)
    (noX : ∀ H e s', CX [] H s₁ (fun _ _ _ => False) e s' → False) :
    codeAny (model P w) callerA (.call (.ref fa) ⟨[.ref a], []⟩) (fun r s' => r = .ok (.ret (.bool true)) ∧ OldK s₁.heap s'.heap ∧ s'.os = s₁.os ∧ AllBare s'.gens) s₁ := by
  have rv := vals_ints hi
  cases hk : K.lookup a with
  | some o =>
    -- the script is an object of the written part
    have e : o = { cls := .type "list", data := .seq vs.toArray } := by
      have z := KX a o hk
      rw [obj] at z
      exact (Option.some.inj z).symm
    subst e
    have sq : SqL K (fun _ => none) a (ns.map V.int) := .inr ⟨_, vs.toArray, _, hk, rfl, rfl, rfl, by rw [List.size_toArray, hi.length]; exact hl, by simpa using rv⟩
    exact call_from KX hns hb hbb hlim hg obj hr F bind noX (H := fun _ => none) (fun _ => .inl rfl) (hsp _ (fun _ => .inl rfl) sq) (fun b u z => nomatch z) (fun b z => absurd rfl z) (fun z => absurd rfl z)
  | none =>
    let H : Hp := fun b => if b = a then some (.frz { cls := .type "list", data := .seq vs.toArray } (.lst (ns.map V.int))) else none
    have ha : H a = some (.frz { cls := .type "list", data := .seq vs.toArray } (.lst (ns.map V.int))) := if_pos rfl
    have hn : ∀ {b}, b ≠ a → H b = none := fun z => if_neg z
    have only : Only H := fun b => by
      by_cases z : b = a
      · subst z
        exact .inr ⟨_, _, ha⟩
      · exact .inl (hn z)
    refine call_from KX hns hb hbb hlim hg obj hr F bind noX (H := H) only (hsp H only (.inl (.inr ⟨_, ha⟩))) (fun b u z => ?_) (fun b z => ?_) (fun _ => hk)
    · by_cases eb : b = a
      · subst eb
        cases ha.symm.trans z
        exact ⟨obj, by rw [List.length_map]; exact hl, vs, _, rv, obj⟩
      · cases (hn eb).symm.trans z
    · by_cases eb : b = a
      · exact eb
      · exact absurd (hn eb) z
end
theorem walk_ofG {l : PySem.W.OpenLaw} {n k : Nat} {q : Program} {loose : List Str} {XP : (Str → Option Value) → Heap → Prop} {YP : World → Heap → Prop} {d : DefRec} {CX : World → CXT} {x : Str}
    (hn : l.most = some n) (small : n ≤ sizeLine) (hdf : d.params.defaults = []) (hr : Room k callerA)
    (F : ∀ (w : World) (mg : Str → Option Value) (fa : Addr) (h : Heap), YP w h → h.Ns mainGlobals mg → mg d.name = some (.ref fa) → ∃ (K : PySem.W.Frag) (fd : FuncData) (sp : Sp), K.In h ∧ (∀ (s : Shared) (u : Value), BindsTo s fd ⟨[u], []⟩ [(x, u)]) ∧
        (∀ (H : Hp) (a : Addr) (ns : List Int), ns.length ≤ n → Only H → SqL K H a (ns.map V.int) → sp [.ref a] H (fun v _ => v = .bl true) fun _ _ _ => False) ∧ ∀ base : Heap, K.In base → base.Ns mainGlobals mg → FnG l.prog w K mg base (CX w) k fa fd [x] sp)
    (noX : ∀ (w : World) (H : Hp) (s : Shared) (e : Value) (s' : Shared), CX w [] H s (fun _ _ _ => False) e s' → False) : PySem.W.WalkO q loose XP YP l.row.toRowW d [] (fun f vs => PySem.call f vs) := by
  refine Att.attach_call hn hdf ?_
  intro w s₀ s₁ mg mb fa o pm cd doc a vs ns G Y ho hd hcd hmg obj hints len hg
  obtain ⟨K, fd, sp, KX, bi, hsp, hF⟩ := F w mg fa _ Y G.T.g hmg
  refine law_callG KX G.T.g G.T.b G.T.builtins G.T.nolimit hg obj hints (Nat.le_trans len small) hr hF bi ?_ (fun H e s' => noX w H s₁ e s')
  exact fun H hO hS => hsp H a ns len hO hS
end Fg
set_option Elab.async false
set_option linter.all false
set_option maxRecDepth 100000
set_option maxHeartbeats 4000000
/-! Exception classes above KeyError whose __init__ says super().__init__(a text) and stores its one argument. -/
namespace Xk
open PySem PySem.W PySem.Calls PyProof.Rows
open Xb (Nm arg2 bod2 sco2 mcall1 Done Made)
open Builtin Builtin.ObjectAttr
abbrev keTail : List Value := [.type "KeyError", .type "LookupError", .type "Exception", .type "BaseException", .type "object"]
/-- classes of one's own, then those above KeyError -/
def tailKE (l : List Value) : Bool := match l with
  | .ref _ :: r => tailKE r
  | l => l == keTail
theorem tailKE_or (l : List Value) (e : tailKE l = true) : (∃ c r, l = .ref c :: r ∧ tailKE r = true) ∨ l = keTail := by
  unfold tailKE at e
  split at e
  · exact .inl ⟨_, _, rfl, e⟩
  · exact .inr (beq_iff_eq.mp e)
theorem pass_KE (self : Value) : refuseLoop self "__setattr__" keTail = pure () := by kernel_rfl
theorem tailKE_all (self : Value) : ∀ l : List Value, tailKE l = true → refuseLoop self "__setattr__" l = pure () ∧ (∀ X : String, l.contains (.type X) = keTail.contains (.type X)) ∧ l.isEmpty = false
  | [], e => by cases e
  | a :: r, e => by
    rcases tailKE_or _ e with ⟨c, r', q, h⟩ | q
    · obtain ⟨rfl, rfl⟩ := List.cons.inj q
      obtain ⟨h1, h2, _⟩ := tailKE_all self _ h
      exact ⟨by rw [PySem.refuseLoop_ref]; exact h1, fun X => by rw [List.contains_cons, h2 X]; rfl, rfl⟩
    · rw [q]
      exact ⟨pass_KE self, fun _ => rfl, rfl⟩
theorem slot_KE : Slot "KeyError" "__init__" "KeyError.__init__" := .of (owner := "KeyError") (n := "__init__") (by rw [typeLookup_type, builtinLookup_eq_fast]; kernel_rfl) (by decide +kernel) (by decide +kernel) (by decide +kernel)
    (by first
      | exact .inl (by decide +kernel)
      | exact .inr (by decide +kernel)) (by rw [isSubtype_type]; kernel_rfl)
theorem entry_KE : entryFor table "KeyError.__init__" = some Builtin.«BaseException.__init__» := by
  refine entryFor_alias (id' := "BaseException.__init__") ?_ ?_ ?_ ?_
  · rw [fastTable_eq_tree]; kernel_rfl
  · first
    | rfl
    | decide +kernel
  · decide +kernel
  · rw [fastTable_eq_tree]; kernel_rfl
theorem kind_KE : builtinKind "KeyError.__init__" = some .slot := by kernel_rfl
theorem row_KE : Manifest.signature? "KeyError.__init__" = some ⟨.positional, "*", "KeyError", .self, [⟨"args", .varPos, false⟩]⟩ := by kernel_rfl
theorem kxs_KE : KxsFacts "KeyError" "KeyError.__init__" := by
  refine ⟨?_, ?_⟩
  · show builtinType _ = _
    rw [builtinType_eq_fast]; kernel_rfl
  · first
    | kernel_rfl
    | rfl
/-! ### the class is called: LookupError's new, then the own init -/
section
variable {prog : Program} {w : World} {A : Around} {hp : Heap} {g : Array GenState} {dr : Drawn} {tk : Nat} {os : OsState}
variable {n₁ n₂ : Str} {C nsA : Addr} {bs bm : List Value} {hdct : Bool} {sl₁ : List Str} {sb : List Value} {ab : Bool} {col : Option Bool} {dd : Option Addr} {k0 k1 k2 k3 k5 : Option Value}
abbrev Cls0 (hp : Heap) (n₁ n₂ : Str) (C nsA : Addr) (bs bm : List Value) (hdct : Bool) (sl₁ : List Str) (sb : List Value) (ab : Bool) (col : Option Bool) (dd : Option Addr) (k0 k1 k2 k3 k5 : Option Value) : Prop :=
  hp.get? C = some (excClassObj n₁ n₂ C nsA bs bm hdct sl₁ sb ab col dd k0 k1 k2 k3 k5 "LookupError.__new__")
abbrev bare (C t : Addr) : Obj := { cls := .ref C, data := .fields #[.ref t, .none, .none, .none, .bool false, .none] }
theorem has (hb : tailKE bm = true) (X : String) (b : Bool) (h : keTail.contains (.type X) = b) : (Value.ref C :: bm).contains (.type X) = b := by
  rw [List.contains_cons, (tailKE_all .none bm hb).2.1 X, h]
  cases b <;> rfl
theorem new_check (hC : Cls0 hp n₁ n₂ C nsA bs bm hdct sl₁ sb ab col dd k0 k1 k2 k3 k5) (hb : tailKE bm = true) {M : Model} {E : Value → Shared → Prop} {more : List Value} {Q : Unit → Shared → Prop} (q : Q () ⟨hp, g, dr, tk, os⟩) :
    wpAny M A (checkBuiltinCall "LookupError.__new__" ⟨.ref C :: more, []⟩) Q E ⟨hp, g, dr, tk, os⟩ := by
  have FL := _root_.PySem.F.excBase_LookupError
  have c1 : (Value.ref C :: bm).contains (.type "LookupError") = true := has hb _ _ (by decide +kernel)
  have star := FL.noStar
  simp only [checkBuiltinCall, FL.newKind, FL.newSplit, FL.newRow]
  repeat (first
    | refine wpAny_loadPart_at hC ?_
    | (refine wpAny_isSubtype_exc hC ?_; rw [c1])
    | refine wpAny_staticBase_exc hC ?_
    | refine wpAny_madeBy_exc hC ?_
    | simp only [bne_self_eq_false, Bool.false_eq_true, if_false]
    | wp_step)
  exact q
theorem new_run {R : Result → Shared → Prop} (hC : Cls0 hp n₁ n₂ C nsA bs bm hdct sl₁ sb ab col dd k0 k1 k2 k3 k5) (hb : tailKE bm = true) {more : List Value} (hz : more.length ≤ sizeLine)
    (q : R (.ok (.ret (.ref (hp.objs.size + 1)))) ⟨(hp.push (kdv_tup more)).push (bare C hp.objs.size), g, dr, tk, os⟩) :
    codeAny (model prog w) A (.builtin "LookupError.__new__" ⟨.ref C :: more, []⟩) R ⟨hp, g, dr, tk, os⟩ := by
  have FL := _root_.PySem.F.excBase_LookupError
  have ends := FL.ends
  have c1 : (Value.ref C :: bm).contains (.type "LookupError") = true := has hb _ _ (by decide +kernel)
  have c2 : (Value.ref C :: bm).contains (.type "AttributeError") = false := has hb _ _ (by decide +kernel)
  have c3 : (Value.ref C :: bm).contains (.type "NameError") = false := has hb _ _ (by decide +kernel)
  refine codeAny_builtinAt FL.entry (_root_.PySem.wpAt_bind ?_)
  show _root_.PySem.wpAt _ _ _ (stack >>= _) _ _ _
  refine _root_.PySem.wpAt_bind (_root_.PySem.wpAt_stack fun p below => _root_.PySem.wpAt_of_wpAny ?_)
  wp_walk
  refine _root_.PySem.wpAt_of_wpAny ?_
  rw [FL.owner]
  repeat (first
    | with_reducible refine wpAny_madeHere_exc FL.canon hC ?_
    | with_reducible refine wpAny_loadPart_at hC ?_
    | (with_reducible refine wpAny_isSubtype_exc hC ?_; rw [c1])
    | (with_reducible refine wpAny_isSubtype_exc hC ?_; rw [c2])
    | (with_reducible refine wpAny_isSubtype_exc hC ?_; rw [c3])
    | wp_step)
  show R _ _
  rw [Heap.size_push]
  exact q
theorem type_run {E : Value → Shared → Prop} (hC : Cls0 hp n₁ n₂ C nsA bs bm hdct sl₁ sb ab col dd k0 k1 k2 k3 k5) (hb : tailKE bm = true) {more : List Value} {own : Addr} {Q : Fin → Shared → Prop}
    (h1 : Looks (model prog w) hp (typeLookup (.ref C) "__init__") (some (.ref own))) (h2 : ∀ x, Looks (model prog w) hp (bindSpecial (.ref own) x) (.ref own, [x])) (hz : more.length ≤ sizeLine)
    (q : codeAny (model prog w) A (.call (.ref own) ⟨.ref (hp.objs.size + 1) :: more, []⟩)
      (fun r s' => match r with
        | .ok (.ret v) => v = .none ∧ Q (.done (.ret (.ref (hp.objs.size + 1)))) s'
        | .ok _ => False
        | .error e => E e s') ⟨(hp.push (kdv_tup more)).push (bare C hp.objs.size), g, dr, tk, os⟩) :
    wpAny (model prog w) A (Builtin.«type.__call__» ⟨.ref C :: more, []⟩) Q E ⟨hp, g, dr, tk, os⟩ := by
  have FL := _root_.PySem.F.excBase_LookupError
  repeat (first
    | with_reducible refine wpAny_loadPart_at hC ?_
    | with_reducible refine wpAny_madeBy_exc hC ?_
    | wp_step)
  refine codeAny_call_builtin_code (Code.quiet_builtin _ FL.quiet) (new_check hC hb (new_run hC hb hz ?_))
  show wpAny _ _ _ _ _ _
  have kp : ∀ b o, hp.get? b = some o → ((hp.push (kdv_tup more)).push (bare C hp.objs.size)).get? b = some o := fun b o e => Heap.get?_push_of_some _ (Heap.get?_push_of_some _ e)
  have gC := kp _ _ hC
  have gx : ((hp.push (kdv_tup more)).push (bare C hp.objs.size)).get? (hp.objs.size + 1) = some (bare C hp.objs.size) := by heap_get
  have cc : (Value.ref C :: bm).contains (.ref C) = true := by simp
  have j1 := h1.keeps kp
  have j2 := (h2 (.ref (hp.objs.size + 1))).keeps kp
  unfold isInstance
  repeat (first
    | with_reducible refine wpAny_loadPart_at gx ?_
    | (with_reducible refine wpAny_isSubtype_exc gC ?_; rw [cc])
    | wp_step)
  show wpAny _ _ (typeLookup (.ref C) _) _ _ _
  refine j1.at (wpAny_holding (wpAny_bind (j2.at (wpAny_bind (wpAny_call (codeAny_mono q fun r s' z => ?_))))))
  rcases r with e | (v | _ | _ | _) <;> first
    | exact z
    | exact z.elim
    | skip
  obtain ⟨rfl, z⟩ := z
  first
    | exact wpAny_pure (wpAny_pure z)
    | (wp_walk; exact z)
theorem call_run {R : Result → Shared → Prop} (hC : Cls0 hp n₁ n₂ C nsA bs bm hdct sl₁ sb ab col dd k0 k1 k2 k3 k5) (hb : tailKE bm = true) {more : List Value} {own : Addr}
    (h1 : Looks (model prog w) hp (typeLookup (.ref C) "__init__") (some (.ref own))) (h2 : ∀ x, Looks (model prog w) hp (bindSpecial (.ref own) x) (.ref own, [x])) (hz : more.length ≤ sizeLine)
    (q : codeAny (model prog w) (A.under (.builtin "type.__call__" ⟨.ref C :: more, []⟩)) (.call (.ref own) ⟨.ref (hp.objs.size + 1) :: more, []⟩) (InitBack (hp.objs.size + 1) R) ⟨(hp.push (kdv_tup more)).push (bare C hp.objs.size), g, dr, tk, os⟩) :
    codeAny (model prog w) A (.call (.ref C) ⟨more, []⟩) R ⟨hp, g, dr, tk, os⟩ := by
  have a1 := tc_lookup
  have a2 := tc_bind (.ref C)
  have ty : (⟨hp, g, dr, tk, os⟩ : Shared).TypeIs (.ref C) "type" := ⟨_, hC, rfl⟩
  refine codeAny_of_tree ?_
  show wpAny _ _ (callAny (.ref C) _) _ _ _
  repeat (any_goals (first
    | assumption
    | with_reducible refine wpAny_loadPart_at hC ?_
    | wp_step))
  refine ⟨rfl, codeAny_call_builtin_at (Code.quiet_builtin _ (by decide +kernel)) entry_typeCall (wpAny_check_type_call_sub hC (type_run hC hb h1 h2 hz ?_))⟩
  refine codeAny_mono q fun r s' z => ?_
  rcases r with e | (v | _ | _ | _) <;> exact z
/-- self.name = v, no dict yet -/
theorem set_new {R : Result → Shared → Prop} {K : Frag} {name : Str} {tn : Tok} {v : Value} {x : Addr} {fv : Array Value} {cd : ClassData} (X : K.In hp) (hx : hp.get? x = some { cls := .ref C, data := .fields fv }) (hcd : clsIn K C = some cd) (hm : tailKE cd.mro = true)
    (hh : cd.hasDict = true) (ha : findIn K (.ref C) name = some none)
    (q : ∀ h' tk' dx, (∀ b o, b ≠ x → hp.get? b = some o → h'.get? b = some o) → hp.objs.size ≤ dx → dx ≠ x → h'.get? x = some { cls := .ref C, dict := some dx, data := .fields fv } → h'.Ns1 dx (fun y => if y = name then some v else none) → R (.ok (.ret .none)) ⟨h', g, dr, tk', os⟩) :
    codeAny (model prog w) A (.call (.builtin "object.__setattr__") ⟨[.ref x, .str name tn, v], []⟩) R ⟨hp, g, dr, tk, os⟩ := by
  obtain ⟨pass, cont, ne⟩ := tailKE_all (.ref x) _ hm
  have J : InstAt hp x { cls := .ref C, data := .fields fv } C none := ⟨hx, rfl, rfl, trivial⟩
  have SO := _root_.PySem.F.store_object
  have c0 : cd.mro.contains (.type "object") = true := (cont "object").trans (by decide +kernel)
  have nx : x ≠ hp.objs.size := Nat.ne_of_lt (Heap.lt_size hx)
  have io : Looks (model prog w) hp (isInstance (.ref x) (.type "object")) true := by
    refine J.type.andThen (looks_mroIn X ?_)
    unfold mroIn
    rw [hcd, Option.bind_some, if_neg (by rw [ne]; decide), c0]
  refine codeAny_call_builtin SO.slot.plain SO.entry (@check_slot (model prog w) _ _ ⟨hp, g, dr, tk, os⟩ "object.__setattr__" "object" "__setattr__" (.ref x) [.str name tn, v] [] _ SO.kind SO.split io (SO.args (.ref x) (.str name tn) v) ?_)
  have m1 : Looks (model prog w) hp (mroOf (.ref C)) cd.mro := (looks_clsIn X hcd).andThen .now
  have m2 : Looks (model prog w) hp (storeTaker? none) none := .now
  have m3 : Looks (model prog w) hp (classData C) cd := looks_clsIn X hcd
  rw [osa_eq, refuse_eq]
  refine wpAny_bind (wpAny_bind (J.type.at (wpAny_bind (m1.at ?_))))
  rw [pass]
  refine wpAny_pure (wpAny_bind (J.type.at (wpAny_bind ((looks_findIn X ha).at (wpAny_bind (m2.at ?_))))))
  show wpAny _ _ (storeInOwnDict (.ref x) (.ref C) (.str name tn) name v false) _ _ _
  obtain ⟨y1, y2, y3, y4, y5, y6, y7, y8, y9, y10, y11⟩ := cd
  dsimp only at hh
  subst hh
  unfold storeInOwnDict ownDictForStores
  repeat (first
    | with_reducible refine HandSPX.store_in_new ?_ ?_
    | with_reducible refine wpAny_loadPart_at hx ?_
    | with_reducible refine m3.at ?_
    | wp_step)
  · have fresh := Heap.get?_push_at (h := hp) (o := { cls := .type "dict", data := .dict #[] }) rfl rfl
    exact ⟨_, #[], _, (Heap.get?_update_ne _ _ _ _ nx.symm).trans fresh, rfl, fun e he => absurd he (by simp), fun _ => rfl⟩
  · intro h' tk' hn' hs
    have px : (hp.push { cls := .type "dict", data := .dict #[] }).get? x = some { cls := .ref C, data := .fields fv } := Heap.get?_push_of_some _ hx
    refine q h' tk' hp.objs.size (fun b o hb ho => ?_) (Nat.le_refl _) nx.symm ((hs.2 x nx).trans (Heap.get?_update_self _ px rfl)) hn'
    refine (hs.2 b (Nat.ne_of_lt (Heap.lt_size ho))).trans ?_
    exact (Heap.get?_update_ne _ _ _ _ hb).trans (Heap.get?_push_of_some _ ho)
end
/-- what the written part says of the class at C and of its __init__ at fI -/
structure Txt (file : Str) (K : Frag) (q F txt : Str) (C fI : Addr) : Prop where
  nm : Nm F
  cls : ∃ nm q' N bs bm sn sub ab col dd k0 k1 k2 k3 k5, K.lookup C = some (excClassObj nm q' C N bs bm true sn sub ab col dd k0 k1 k2 k3 k5 "LookupError.__new__") ∧ tailKE bm = true
  sa : findIn K (.ref C) "__setattr__" = some (some (.builtin "object.__setattr__"))
  ga : findIn K (.ref C) "__getattribute__" = some (some (.builtin "BaseException.__getattribute__"))
  gg : findIn K (.ref C) "__getattr__" = some none
  noF : findIn K (.ref C) F = some none
  iC : findIn K (.ref C) "__init__" = some (some (.ref fI))
  tC : typeIn K (.ref fI) = some (.type "function")
  kC : keepIn K (.ref C) = true
  exC : subIn K (.ref C) (.type "BaseException") = some true
  keC : subIn K (.ref C) (.type "KeyError") = some true
  tyC : typeIn K (.ref C) = some (.type "type")
  hdC : hasDictIn K C = true
  te : exmOne K (.ref C) (.ref C) = some true
  sup : ks_superIn K C C "__init__" = some (some (.builtin "KeyError.__init__"))
  slf : mroIn K C (.ref C) = some true
  gs : nsIn K mainGlobals "super" = some none
  tp : nsIn K cStatics "thirdparty.any" = some none
  fn : ∃ (oc : Value) (od : Option Addr) (kV doc pm : Value) (an : Option Addr) (cda : Addr) (ct : Value) (osl : Array (Option Value)) (cc : Addr) (p1 p2 : Pos) (kk : Nat) (q1 q2 q3 q4 q5 q6 q7 q8 q9 q10 : Pos),
    K.lookup fI = some ⟨oc, od, .func (ksFn "__init__" q (arg2 F p1 p2) (bod2 F txt kk q1 q2 q3 q4 q5 q6 q7 q8 q9 q10) (sco2 F) .none kV doc pm an (.ref cda) ct cc), osl⟩ ∧ codeIn K (.ref cda) q = true ∧ (q3.endLine == q5.line) = true ∧
    (∃ ccl cdd vs ccs tf, K.lookup cda = some ⟨ccl, cdd, .fields vs, ccs⟩ ∧ vs[2]? = some (.str file tf)) ∧ (∃ cl cld csl, K.lookup cc = some ⟨cl, cld, .cell (some (.ref C)), csl⟩)
section
variable {M : Model} {A : Around} {E : Value → Shared → Prop} {hp : Heap} {g : Array GenState} {dr : Drawn} {tk : Nat} {os : OsState}
variable {n₁ n₂ : Str} {C nsA : Addr} {bs bm : List Value} {hdct : Bool} {sl₁ : List Str} {sb : List Value} {ab : Bool} {col : Option Bool} {dd : Option Addr} {k0 k1 k2 k3 k5 : Option Value}
theorem init_check {e : Addr} {oe : Obj} {more : List Value} {Q : Unit → Shared → Prop} (hC : Cls0 hp n₁ n₂ C nsA bs bm hdct sl₁ sb ab col dd k0 k1 k2 k3 k5) (he : hp.get? e = some oe) (hc : oe.cls = .ref C) (q : Q () ⟨hp, g, dr, tk, os⟩) :
    wpAny M A (checkBoundCall "KeyError.__init__" ⟨.ref e :: more, []⟩) Q E ⟨hp, g, dr, tk, os⟩ := by
  have star : ("KeyError" != "*") = true := by decide +kernel
  simp only [checkBoundCall, kind_KE, row_KE]
  repeat (first
    | (with_reducible refine wpAny_loadPart_at he ?_; rw [hc])
    | with_reducible refine wpAny_loadPart_at hC ?_
    | wp_step)
  refine wpAny_onRaise ?_
  have z : ∀ (a b : String) (n : Nat), Bind.check ⟨.positional, "*", "KeyError", .self, [⟨"args", .varPos, false⟩]⟩ a b n (List.map (fun x => x.fst) ({ pos := Value.ref e :: more } : Args).kw) = pure () := fun _ _ _ => check_star_args _ _ _ _ _ _
  rw [z]
  exact wpAny_pure q
end
section
variable {prog : Program} {w : World} {A : Around} {E : Value → Shared → Prop} {h : Heap} {g : Array GenState} {d : Drawn} {t : Nat} {os : OsState}
variable {nm q : Str} {C N : Addr} {bs bm : List Value} {hdct : Bool} {sn : List Str} {sub : List Value} {ab : Bool} {col : Option Bool} {dd : Option Addr} {k0 k1 k2 k3 k5 : Option Value}
/-- the bound built-in __init__ is called -/
theorem mw_call {u e t0 : Addr} {rest : List Value} {Q : Value → Shared → Prop}
    (hC : h.get? C = some (excClassObj nm q C N bs bm hdct sn sub ab col dd k0 k1 k2 k3 k5 "LookupError.__new__")) (he : h.get? e = some (HandSPX.excO C t0))
    (hu : h.get? u = some (kxs_mw "KeyError.__init__" e)) (hz : rest.length ≤ sizeLine)
    (hq : ∀ h' t1, (∀ b o, b ≠ e → h.get? b = some o → h'.get? b = some o) → h'.get? e = some (HandSPX.excO C t1) → Q .none ⟨h', g, d, t, os⟩) :
    wpAny (model prog w) A (call (.ref u) rest) Q E ⟨h, g, d, t, os⟩ := by
  have c1 : (Value.type "method-wrapper" == Value.type "method" || Value.type "method-wrapper" == Value.type "builtin_function_or_method" || Value.type "method-wrapper" == Value.type "method-wrapper") = true := by decide
  refine wpAny_call (codeAny_of_tree ?_)
  show wpAny _ A.in1 (callAny (.ref u) ⟨rest, []⟩) _ _ _
  simp only [callAny]
  refine wpAny_bind (wpAny_load hu ?_)
  simp only [kxs_mw, c1, if_true]
  refine KFB.if_so (by decide) ?_
  refine wpAny_bind (init_check hC he rfl ?_)
  refine wpAny_bind (wpAny_pure (wpAny_pure ?_))
  refine ⟨plainId_quiet slot_KE.plain _, codeAny_builtin entry_KE ?_⟩
  refine exc_init_tree (cls := .ref C) (t0 := t0) (dv := none) (c2 := .none) (c3 := .none) (b4 := .bool false) he hz fun h' k e' _ => ?_
  exact hq h' _ k e'
end
section
variable {prog : Program} {w : World} {A : Around} {E : Value → Shared → Prop} {R : Result → Shared → Prop} {s : Shared} {K : Frag} {q F txt : Str} {C fI : Addr} {mg mb : Str → Option Value}
theorem initX (T : Txt prog.main.file K q F txt C fI) {x t0 : Addr} {v : Value} (X : K.In s.heap) (hlim : s.heap.NoLimit) (hg : s.heap.Ns mainGlobals mg) (hb : s.heap.Ns builtinsNs mb) (hbs : mb "super" = some (.type "super"))
    (htop : (prog.main.scope.names.lookup ("super" : Str)).isSome = false) (hx : s.heap.get? x = some (HandSPX.excO C t0)) (hnx : K.lookup x = none) (hroom : A.depth < recursionLimit)
    (hq : ∀ h' tk dx t1, Done s.heap h' x C dx t1 F v → R (.ok (.ret .none)) { s with heap := h', toks := tk }) :
    codeAny (model prog w) A (.call (.ref fI) ⟨[.ref x, v], []⟩) R s := by
  obtain ⟨oc, od, kV, doc, pm, an, cda, ct, osl, cc, p1, p2, kk, q1, q2, q3, q4, q5, q6, q7, q8, q9, q10, ho, hcd, hpl, ⟨ccl, cdd, vs, ccs, tf, hcode, hvs⟩, cl, cld, csl, hcell⟩ := T.fn
  obtain ⟨nm, q', N, bs, bm, sn, sub, ab, col, dd, k0, k1, k2, k3, k5, hC, hbm⟩ := T.cls
  have hcl : clsIn K C = some { name := nm, bases := bs, mro := .ref C :: bm, ns := N, qualname := q', hasDict := true, slotNames := sn, subclasses := sub, abstract := ab, collection := col, hasDel := false } := by unfold clsIn; rw [hC] <;> rfl
  refine ks_codeAny_call_defAt (fd := ksFn "__init__" q (arg2 F p1 p2) (bod2 F txt kk q1 q2 q3 q4 q5 q6 q7 q8 q9 q10) (sco2 F) .none kV doc pm an (.ref cda) ct cc) (binds := [("self", .ref x), (F, v)]) hroom (X _ _ ho) rfl hlim (codeRec_of X hcd) rfl
    (BindsTo.of_eq (T.nm.b _ _ _ _ _ _ _ _ _ _ _ _ _)) (fun y hy => ?_) (fun y hy => ?_) (fun h₁ hns hk => ?_)
  · simp only [List.mem_cons, List.not_mem_nil, or_false] at hy
    rcases hy with rfl | rfl | rfl | rfl <;> (intro z; cases z)
  · simp only [List.mem_cons, List.not_mem_nil, or_false] at hy
    rcases hy with rfl | rfl
    · exact T.nm.l
    · exact T.nm.f
  have X1 : K.In h₁ := X.keeps hk
  have g1 : h₁.Ns mainGlobals mg := hg.keeps hk
  have b1 : h₁.Ns builtinsNs mb := hb.keeps hk
  have x1 := hk _ _ hx
  have vS : ([(PySem.Str.ofString "self", Value.ref x), (F, v)] : List (Str × Value)).reverse.lookup ("self" : Str) = some (.ref x) := by
    show List.lookup ("self" : Str) [(F, v), (("self" : Str), Value.ref x)] = _
    simp [List.lookup, T.nm.en]
  have vF : ([(PySem.Str.ofString "self", Value.ref x), (F, v)] : List (Str × Value)).reverse.lookup F = some v := by
    show List.lookup F [(F, v), (("self" : Str), Value.ref x)] = _
    simp [List.lookup]
  show _root_.PySem.wpAt _ _ _ (execs (_ :: _) _) _ _ _
  refine ks_wpAt_execs_cons (ks_wpAt_Expr_any (ks_wpAt_MethodCall ?_ (mcall1 hpl)))
  obtain ⟨oD, hD1, hD2⟩ : ∃ oD, h₁.get? C = some oD ∧ oD.data = .cls { name := nm, bases := bs, mro := .ref C :: bm, ns := N, qualname := q', hasDict := true, slotNames := sn, subclasses := sub, abstract := ab, collection := col, hasDel := false } := ⟨_, X1 _ _ hC, rfl⟩
  have I1 : InstAt h₁ x (HandSPX.excO C t0) C none := ⟨x1, rfl, rfl, trivial⟩
  refine ks_wpAt_super_base T.nm.s T.nm.c (by decide) rfl (X1 _ _ ho) rfl rfl rfl (X1 _ _ hcode) rfl hvs (beq_self_eq_true _) htop ?_
  refine ks_loadName_global rfl T.nm.s (loadGlobal_builtin g1 (mg_none_of X1 g1 T.gs) b1 hbs ⟨rfl, ?_⟩)
  refine wpAny_loadName_free rfl T.nm.c (by rfl) ⟨_, X1 _ _ hcell, rfl⟩ ?_
  refine wpAny_loadName_local rfl T.nm.l hns vS ?_
  refine ks_wpAny_isType_cls hD1 hD2 ⟨rfl, ?_⟩
  refine ks_wpAny_call_super hD1 hD2 x1 rfl (fun c e => by cases e) (looks_mroIn X1 T.slf) (fun h₂ e2 k2' => ?_)
  have X2 : K.In h₂ := X1.keeps k2'
  have x2 := k2' _ _ x1
  have n2 : h₂.Ns s.heap.objs.size (fun y => ([(PySem.Str.ofString "self", Value.ref x), (F, v)] : List (Str × Value)).reverse.lookup y) := hns.keeps k2'
  have I2 : InstAt h₂ x (HandSPX.excO C t0) C none := ⟨x2, rfl, rfl, trivial⟩
  have hxC : x ≠ C := ks_ne X2 I2 hcl
  have hsup := T.sup
  unfold ks_superIn at hsup
  rw [hcl] at hsup
  have hI : Looks (model prog w) h₂ (isInstance (.ref x) (.type "KeyError")) true := I2.type.andThen (looks_subIn X2 T.keC)
  show wpAny _ _ (getMethod (.ref h₁.objs.size) "__init__" _) _ _ _
  refine kxs_getMethod kxs_KE e2 (looks_opaque X2 T.tp) (l₀ := .ref C :: bm) (fun A Q E s k z => wpAny_bind ((looks_clsIn X2 hcl) A _ E s k (wpAny_pure z))) rfl X2 hsup hI hxC (by decide) ?_
  have k3' : ∀ b o, h₂.get? b = some o → (h₂.push (kxs_mw "KeyError.__init__" x)).get? b = some o := fun b o e => Heap.get?_push_of_some _ e
  have u3 : (h₂.push (kxs_mw "KeyError.__init__" x)).get? h₂.objs.size = some (kxs_mw "KeyError.__init__" x) := Heap.get?_push_size _ rfl
  refine kxs_callWith (i := "KeyError.__init__") (x := x) rfl (evalArgs_plain (spliced_cons (Constant_str (k := kk) (pos := q4) (spliced_nil ⟨u3, ?_⟩))))
  refine mw_call (k3' _ _ (X2 _ _ hC)) (k3' _ _ x2) u3 (by show 1 ≤ sizeLine; rw [sizeLine_eq]; omega) fun h₄ t1 k4 x4 => ?_
  have X4 : K.In h₄ := fun a o e => k4 a o (fun z => by rw [z, hnx] at e; cases e) (k3' _ _ (X2 _ _ e))
  have hxL : s.heap.objs.size ≠ x := Nat.ne_of_gt (Heap.lt_size hx)
  have n4 : h₄.Ns s.heap.objs.size (fun y => ([(PySem.Str.ofString "self", Value.ref x), (F, v)] : List (Str × Value)).reverse.lookup y) := by
    obtain ⟨o, es, ep, e, r⟩ := n2
    exact ⟨o, es, ep, k4 _ _ hxL (k3' _ _ e), r⟩
  show _root_.PySem.wpAt _ _ _ (execs (_ :: _) _) _ _ _
  refine wpAt_of_wpAny (wpAny_execs_cons (plainObj_wpAny_Assign_Attribute ?_))
  refine wpAny_Name (wpAny_loadName_local rfl T.nm.f n4 vF ?_) T.nm.db
  refine wpAny_Name (wpAny_loadName_local rfl T.nm.l n4 vS ?_) (by decide)
  refine set_plain X4 (ox := HandSPX.excO C t1) (od := none) ⟨x4, rfl, rfl, trivial⟩ T.sa ?_
  refine set_new X4 x4 hcl (show tailKE (.ref C :: bm) = true from hbm) rfl T.noF (fun h₅ tk₅ dx k₅ dn dne hx₅ hn₅ => ?_)
  show wpAny _ _ (execs _ _) _ _ _
  have z4 : ∀ b o, b ≠ x → s.heap.get? b = some o → h₄.get? b = some o := fun b o hb e => k4 b o hb (k3' _ _ (k2' _ _ (hk _ _ e)))
  refine wpAny_execs_nil (hq h₅ tk₅ dx t1 ⟨fun b o hb e => k₅ b o hb (z4 b o hb e), hx₅, ?_, dne, hn₅⟩)
  obtain ⟨o4, es4, ep4, e4, _⟩ := n4
  exact Nat.le_of_lt (Nat.lt_of_lt_of_le (Heap.lt_size e4) dn)

theorem madeX (T : Txt prog.main.file K q F txt C fI) {v : Value} (X : K.In s.heap) (hlim : s.heap.NoLimit) (hg : s.heap.Ns mainGlobals mg) (hb : s.heap.Ns builtinsNs mb) (hbs : mb "super" = some (.type "super"))
    (htop : (prog.main.scope.names.lookup ("super" : Str)).isSome = false) (hroom : A.depth + 1 < recursionLimit)
    (hq : ∀ h' tk e d, Made s.heap h' e C d F v → R (.ok (.ret (.ref e))) { s with heap := h', toks := tk }) :
    codeAny (model prog w) A (.call (.ref C) ⟨[v], []⟩) R s := by
  obtain ⟨nm, q', N, bs, bm, sn, sub, ab, col, dd, k0, k1, k2, k3, k5, hC, hbm⟩ := T.cls
  obtain ⟨hp, g, dr, tk, os⟩ := s
  have k : ∀ b o, hp.get? b = some o → ((hp.push (kdv_tup [v])).push (HandSPX.excO C hp.objs.size)).get? b = some o := fun b o e => Heap.get?_push_of_some _ (Heap.get?_push_of_some _ e)
  have hget : ((hp.push (kdv_tup [v])).push (HandSPX.excO C hp.objs.size)).get? (hp.objs.size + 1) = some (HandSPX.excO C hp.objs.size) := by heap_get
  have hnx : K.lookup (hp.objs.size + 1) = none := by
    cases e : K.lookup (hp.objs.size + 1) with
    | none => rfl
    | some o =>
      have z : hp.get? (hp.objs.size + 1) = some o := X _ _ e
      exact absurd (Nat.lt_of_succ_lt (Heap.lt_size z)) (Nat.lt_irrefl _)
  refine call_run (X _ _ hC) hbm (looks_findIn X T.iC) (fun self => bind_fn X self T.tC) (by show 1 ≤ sizeLine; rw [sizeLine_eq]; omega) ?_
  refine initX (s := ⟨(hp.push (kdv_tup [v])).push (HandSPX.excO C hp.objs.size), g, dr, tk, os⟩) T (X.keeps k) (hlim.keeps k) (hg.keeps k) (hb.keeps k) hbs htop hget hnx ?_ fun h' tk' dx t1 D => ?_
  · show A.depth + 1 < recursionLimit
    exact hroom
  · have old : ∀ b o, hp.get? b = some o → h'.get? b = some o := fun b o e => D.keep b o (Nat.ne_of_lt (Nat.lt_succ_of_lt (Heap.lt_size e))) (k b o e)
    have z : hp.objs.size + 1 + 1 ≤ dx := by
      have q := D.dbig
      simp only [Heap.size_push] at q
      exact q
    exact ⟨rfl, hq h' tk' (hp.objs.size + 1) dx ⟨old, Nat.le_succ _, ⟨_, D.obj⟩, Nat.le_trans (Nat.le_trans (Nat.le_succ _) (Nat.le_succ _)) z, D.dne, D.ns⟩⟩
end

end Xk
namespace Xk
open PySem PySem.Spec PyProof.Rows L2
open Xb (boot_super relO_one tMkX tRaiseX tByX Made)
section
variable {X : Cx} {C fI : Addr} {q F txt : Str}
theorem pmk_x {x : Str} {a : Expr} {ta : TA} {p pos : Pos} {k : Nat} (T : Txt X.prog.main.file X.K q F txt C fI) (hm : X.mg x = some (.ref C)) (htop : (X.prog.main.scope.names.lookup ("super" : Str)).isSome = false) (hr : Room k X.A) (ha : PA X [a] ta) (hg : Gl X x := by rfl)
    (hdb : (x == ("__debug__" : Str)) = false := by decide)
    (he : starEach (a :: []) X.env = (false, eval a X.env) :: starEach [] X.env := by rfl) (hpl : (backTo pos (starEach [] X.env)).any (·.1) = false := by rfl) :
    PMk X (.Call (.Name x p) [a] [] pos) (tMkX C F ta) := by
  intro pins s σ H Q I h
  refine wpAny_Call_Name_kw (ld_glob I hg hm ?_ hdb)
  refine PySem.W.callWith_K (h₀ := X.base) I.ok.mod.kin T.kC (thn (ha.run pos pins s σ H _ I h) fun us s1 hh => ?_) he hpl
  obtain ⟨vs, H1, I1, r1, v, ev, q1⟩ := hh
  subst ev
  refine ⟨I1.kIn, ?_⟩
  cases r1 with
  | cons rv rn =>
    rename_i v' us'
    cases rn
    show wpAny _ _ (call (.ref C) [v']) _ _ _
    have hlim := I1.nolimit
    have M := I1.mod
    have hns : s1.heap.Ns mainGlobals X.mg := M.glob.keeps I1.bk
    obtain ⟨mb, hb, hbb⟩ := M.blt
    have hb1 : s1.heap.Ns builtinsNs mb := hb.keeps I1.bk
    have hbs : mb "super" = some (.type "super") := (hbb _ (by decide)).trans boot_super
    obtain ⟨hp, g, dr, tk, os⟩ := s1
    refine wpAny_call (madeX T I1.kIn hlim hns hb1 hbs htop (by have := hr.dp; omega) fun h' tk' e d M => ?_)
    show MkP X pins σ Q (.ref e) ⟨h', g, dr, tk', os⟩
    obtain ⟨t1, hoe⟩ := M.obj
    obtain ⟨G', g1, g2⟩ := restrict h' fun b => decide (b ≠ e)
    have gk : ∀ b, b ≠ e → G'.get? b = h'.get? b := fun b hb => g1 b (decide_eq_true hb)
    have ge : G'.get? e = none := g2 e (by simp)
    have old : ∀ b o, hp.get? b = some o → G'.get? b = some o := fun b o q => (gk b (Nat.ne_of_lt (Nat.lt_of_lt_of_le (Heap.lt_size q) M.new))).trans (M.keep b o q)
    have ob : ObjOk X.prog X.w (upd H1 d (.xd [(F, v)])) G' d (.xd [(F, v)]) :=
      ⟨_, M.ns.at (fun o q => (gk d M.dne).trans q), fun f => relO_one rv f⟩
    have J : Inv X pins σ (upd H1 d (.xd [(F, v)])) ⟨G', g, dr, tk', os⟩ := I1.laid (t' := tk') old M.dbig ob
    refine ⟨e, _, _, ⟨G', g, dr, tk', os⟩, _, .ref C, some d, rfl, J, fun b o q => ?_, ge, hoe, ⟨rfl, rfl⟩, rfl, rfl, ?_, rfl, I1.bare, raises_own T.exC T.tyC, q1 d (I1.hok.fresh M.dbig)⟩
    · by_cases hb : b = e
      · have q' : G'.get? b = some o := q
        rw [hb, ge] at q'; cases q'
      · exact (gk b hb).symm.trans q
    · rw [upd_ne (Ne.symm M.dne)]
      exact I1.hok.fresh M.new
theorem ps_raiseX {x : Str} {a : Expr} {ta : TA} {W : WX} {p pos pos2 : Pos} {k : Nat} (hc : X.calm = true) (T : Txt X.prog.main.file X.K q F txt C fI) (hm : X.mg x = some (.ref C)) (htop : (X.prog.main.scope.names.lookup ("super" : Str)).isSome = false) (hr : Room k X.A) (tk : Takes X W) (ha : PA X [a] ta) (hg : Gl X x := by rfl)
    (hdb : (x == ("__debug__" : Str)) = false := by decide)
    (he : starEach (a :: []) X.env = (false, eval a X.env) :: starEach [] X.env := by rfl) (hpl : (backTo pos (starEach [] X.env)).any (·.1) = false := by rfl) :
    PS X (.Raise (some (.Call (.Name x p) [a] [] pos)) none pos2) (tRaiseX C F W ta) := ps_raise hc tk (pmk_x T hm htop hr ha hg hdb he hpl)
theorem pe_byX {a : Addr} {oe : Obj} {cls : Value} {d : Option Addr} {pn : List (Addr × Obj)} {e : Expr} {te : TE} {pos : Pos} (T : Txt X.prog.main.file X.K q F txt C fI) (hz : Zc cls d oe) (hf : ∃ vs, oe.data = .fields vs) (he : PE (X.suite a ((a, oe) :: pn)) e te)
    (hb : attributeBase e F X.env (eval e X.env) = eval e X.env := by rfl) :
    PE (X.suite a ((a, oe) :: pn)) (.Attribute e F pos) (tByX C F a cls d te) := by
  refine ⟨fun pins s σ H Q I h => ?_⟩
  refine attr_of hb (thn (he.run pins s σ H _ I h) fun u s1 hh => ?_)
  obtain ⟨x, H1, I1, rx, ex, ec, dd, v, ed, ea, q⟩ := hh
  subst ex
  obtain rfl : u = Value.ref a := rx
  subst ec
  subst ed
  obtain ⟨ha, _⟩ := I1.pin (a, oe) (List.mem_append_left _ List.mem_cons_self)
  obtain ⟨vs, hd⟩ := hf
  have hx : ObjOk X.prog X.w H1 s1.heap dd (.xd [(F, v)]) := I1.hok dd _ ea
  obtain ⟨mA, hns, hr⟩ := hx
  obtain ⟨od, ho, hl⟩ := lookIn_ns hns
  have l : List.lookup F [(F, v)] = some v := by simp [List.lookup]
  obtain ⟨u, hu, ru⟩ := RelO.some_of (v := v) (o := mA F) (by rw [← l]; exact hr F)
  have J : PySem.W.InstAt s1.heap a oe C (some od) := ⟨ha, hz.1, by unfold PySem.W.notCls; rw [hd] <;> rfl, by rw [hz.2]; exact ho⟩
  exact HandSPX.exc_get I1.kIn J T.ga T.gg T.exC (PySem.W.findObj_own T.hdC T.noF rfl (by rw [hl, hu])) (handed_of ru) ⟨v, H1, I1.tok _, ru, q⟩
end
end Xk
set_option Elab.async false
set_option linter.all false
set_option maxRecDepth 100000
set_option maxHeartbeats 4000000
namespace Hd
open PySem PySem.Spec PyProof.Rows L2
def clsKE (K : PySem.W.Frag) (C : Addr) : Bool := match K.lookup C with
  | some ⟨.type t, _, .cls cd, sl⟩ => (match cd.mro, sl.toList with
    | .ref C' :: bm, [_, _, _, _, some (.builtin n), _] => decide (t = "type") && (decide (C' = C) && (decide (n = "LookupError.__new__") && (!cd.hasDel && (cd.hasDict && Xk.tailKE bm))))
    | _, _ => false)
  | _ => false
theorem clsKE_ok {K : PySem.W.Frag} {C : Addr} (h : clsKE K C = true) : ∃ nm q' N bs bm sn sub ab col dd k0 k1 k2 k3 k5, K.lookup C = some (excClassObj nm q' C N bs bm true sn sub ab col dd k0 k1 k2 k3 k5 "LookupError.__new__") ∧ Xk.tailKE bm = true := by
  unfold clsKE at h
  split at h
  · rename_i t dd cd sl ho
    split at h
    · rename_i C' bm k0 k1 k2 k3 n k5 hm hs
      obtain ⟨h0, h⟩ := He.ba h
      obtain ⟨h1, h⟩ := He.ba h
      obtain ⟨h2, h⟩ := He.ba h
      obtain ⟨h3, h⟩ := He.ba h
      obtain ⟨h4, h5⟩ := He.ba h
      have h0 := of_decide_eq_true h0
      have h1 := of_decide_eq_true h1
      have h2 := of_decide_eq_true h2
      subst h0 h1 h2
      obtain ⟨nm, bs, mro, ns, qn, hd, sn, sub, ab, col, del⟩ := cd
      dsimp only at hm h3 h4
      subst hm h4
      have h3 : del = false := by simpa using h3
      subst h3
      have hsl : sl = #[k0, k1, k2, k3, some (.builtin "LookupError.__new__"), k5] := by
        obtain ⟨l⟩ := sl
        simp only at hs
        rw [hs]
      subst hsl
      exact ⟨_, _, _, _, _, _, _, _, _, _, _, _, _, _, _, ho, h5⟩
    · cases h
  · cases h
/-- the further facts of the class x whose one field is F -/
def excKB (file : Str) (K : PySem.W.Frag) (x F : Str) : Bool :=
  let C := He.ga K x
  let fI := He.ma K C "__init__"
  allB [He.eqO (PySem.W.nsIn K mainGlobals x) (some (some (.ref C))), clsKE K C, He.eqO (PySem.W.findIn K (.ref C) "__setattr__") (some (some (.builtin "object.__setattr__"))),
    He.eqO (PySem.W.findIn K (.ref C) "__getattribute__") (some (some (.builtin "BaseException.__getattribute__"))), He.eqO (PySem.W.findIn K (.ref C) "__getattr__") (some none), He.eqO (PySem.W.findIn K (.ref C) F) (some none),
    He.eqO (PySem.W.findIn K (.ref C) "__init__") (some (some (.ref fI))), decide (PySem.W.typeIn K (.ref fI) = some (.type "function")), PySem.W.keepIn K (.ref C), decide (PySem.W.subIn K (.ref C) (.type "BaseException") = some true),
    decide (PySem.W.subIn K (.ref C) (.type "KeyError") = some true), decide (PySem.W.typeIn K (.ref C) = some (.type "type")), PySem.W.hasDictIn K C, decide (PySem.W.exmOne K (.ref C) (.ref C) = some true),
    He.eqO (PySem.W.ks_superIn K C C "__init__") (some (some (.builtin "KeyError.__init__"))), decide (PySem.W.mroIn K C (.ref C) = some true), He.eqO (PySem.W.nsIn K mainGlobals "super") (some none), He.eqO (PySem.W.nsIn K cStatics "thirdparty.any") (some none),
    (match K.lookup fI with
      | some ⟨_, _, .func fd, _⟩ => (match fd.code, fd.closure with
        | .ref cda, [(_, cc)] => (match K.lookup cda with
          | some ⟨_, _, .fields vs, _⟩ => fileB file vs
          | _ => false) && (match K.lookup cc with
          | some ⟨_, _, .cell (some (.ref D)), _⟩ => decide (D = C)
          | _ => false)
        | _, _ => false)
      | _ => false)]
theorem exc_txtK {file : Str} {K : PySem.W.Frag} {x q F txt : Str} {st : Stmt} {fd : FuncData} (nm : Xb.Nm F) (g : Got K (excD x q st) fd) (c : excKB file K x F = true)
    (hst : ∃ (p1 p2 : Pos) (kk : Nat) (q1 q2 q3 q4 q5 q6 q7 q8 q9 q10 : Pos), defArgs st = Xb.arg2 F p1 p2 ∧ defBody st = Xb.bod2 F txt kk q1 q2 q3 q4 q5 q6 q7 q8 q9 q10 ∧ defScope st = Xb.sco2 F ∧ (q3.endLine == q5.line) = true) :
    Xk.Txt file K q F txt (He.ga K x) (He.ma K (He.ga K x) "__init__") := by
  obtain ⟨oc, od, dV, kV, doc, pm, an, cdv, ct, osl, cl, h1, h2, h3, h4, h5⟩ := g.ex
  obtain ⟨p1, p2, kk, q1, q2, q3, q4, q5, q6, q7, q8, q9, q10, s1, s2, s3, s4⟩ := hst
  have hdV : dV = .none := by
    rcases h4 with ⟨_, e⟩ | ⟨e, _⟩
    · exact e
    · exact absurd rfl e
  have last := allB_at c 18
  have lk : K.lookup (He.ma K (He.ga K x) "__init__") = some ⟨oc, od, .func fd, osl⟩ := h2
  rw [lk] at last
  rw [h1] at last
  refine ⟨nm, clsKE_ok (allB_at c 1), He.eqO_ok (allB_at c 2), He.eqO_ok (allB_at c 3), He.eqO_ok (allB_at c 4), He.eqO_ok (allB_at c 5), He.eqO_ok (allB_at c 6), of_decide_eq_true (allB_at c 7), allB_at c 8, of_decide_eq_true (allB_at c 9), of_decide_eq_true (allB_at c 10),
    of_decide_eq_true (allB_at c 11), allB_at c 12, of_decide_eq_true (allB_at c 13), He.eqO_ok (allB_at c 14), of_decide_eq_true (allB_at c 15), He.eqO_ok (allB_at c 16), He.eqO_ok (allB_at c 17), ?_⟩
  cases cdv with
  | ref cda =>
    cases cl with
    | nil => cases h5
    | cons y r =>
      obtain ⟨y1, cc⟩ := y
      cases r with
      | cons _ _ => cases h5
      | nil =>
        have e1 : y1 = ("__class__" : Str) := (List.cons.inj h5).1
        subst e1
        obtain ⟨l1, l2⟩ := He.ba (show ((match K.lookup cda with
          | some ⟨_, _, .fields vs, _⟩ => fileB file vs
          | _ => false) && (match K.lookup cc with
          | some ⟨_, _, .cell (some (.ref D)), _⟩ => decide (D = He.ga K x)
          | _ => false)) = true from last)
        refine ⟨oc, od, kV, doc, pm, an, cda, ct, osl, cc, p1, p2, kk, q1, q2, q3, q4, q5, q6, q7, q8, q9, q10, ?_, h3, s4, ?_, ?_⟩
        · rw [lk, h1, hdV]
          show some (⟨oc, od, .func (PySem.W.fnX "__init__" q (defArgs st) (defBody st) (defScope st) [("__class__", cc)] .none kV doc pm an (.ref cda) ct), osl⟩ : Obj) = _
          rw [s1, s2, s3]
        · split at l1
          · rename_i ccl cdd vs ccs hk
            obtain ⟨tf, e⟩ := fileB_ok l1
            exact ⟨_, _, _, _, tf, hk, e⟩
          · cases l1
        · split at l2
          · rename_i a b D c2 hk
            have e := of_decide_eq_true l2
            subst e
            exact ⟨_, _, _, hk⟩
          · cases l2
  | _ => cases last
end Hd
set_option Elab.async false
set_option linter.all false
set_option maxRecDepth 100000
set_option maxHeartbeats 4000000
/-! Exception classes right above LookupError whose __init__ says super().__init__(a text) and stores its one argument. -/
namespace Xl
open PySem PySem.W PySem.Calls PyProof.Rows
open Xb (Nm arg2 bod2 sco2 mcall1 Done Made)
open Builtin Builtin.ObjectAttr
abbrev keTail : List Value := [.type "LookupError", .type "Exception", .type "BaseException", .type "object"]
/-- classes of one's own, then those right above LookupError -/
def tailKE (l : List Value) : Bool := match l with
  | .ref _ :: r => tailKE r
  | l => l == keTail
theorem tailKE_or (l : List Value) (e : tailKE l = true) : (∃ c r, l = .ref c :: r ∧ tailKE r = true) ∨ l = keTail := by
  unfold tailKE at e
  split at e
  · exact .inl ⟨_, _, rfl, e⟩
  · exact .inr (beq_iff_eq.mp e)
theorem pass_KE (self : Value) : refuseLoop self "__setattr__" keTail = pure () := by kernel_rfl
theorem tailKE_all (self : Value) : ∀ l : List Value, tailKE l = true → refuseLoop self "__setattr__" l = pure () ∧ (∀ X : String, l.contains (.type X) = keTail.contains (.type X)) ∧ l.isEmpty = false
  | [], e => by cases e
  | a :: r, e => by
    rcases tailKE_or _ e with ⟨c, r', q, h⟩ | q
    · obtain ⟨rfl, rfl⟩ := List.cons.inj q
      obtain ⟨h1, h2, _⟩ := tailKE_all self _ h
      exact ⟨by rw [PySem.refuseLoop_ref]; exact h1, fun X => by rw [List.contains_cons, h2 X]; rfl, rfl⟩
    · rw [q]
      exact ⟨pass_KE self, fun _ => rfl, rfl⟩
theorem slot_KE : Slot "LookupError" "__init__" "LookupError.__init__" := .of (owner := "LookupError") (n := "__init__") (by rw [typeLookup_type, builtinLookup_eq_fast]; kernel_rfl) (by decide +kernel) (by decide +kernel) (by decide +kernel)
    (by first
      | exact .inl (by decide +kernel)
      | exact .inr (by decide +kernel)) (by rw [isSubtype_type]; kernel_rfl)
theorem entry_KE : entryFor table "LookupError.__init__" = some Builtin.«BaseException.__init__» := by
  refine entryFor_alias (id' := "BaseException.__init__") ?_ ?_ ?_ ?_
  · rw [fastTable_eq_tree]; kernel_rfl
  · first
    | rfl
    | decide +kernel
  · decide +kernel
  · rw [fastTable_eq_tree]; kernel_rfl
theorem kind_KE : builtinKind "LookupError.__init__" = some .slot := by kernel_rfl
theorem row_KE : Manifest.signature? "LookupError.__init__" = some ⟨.positional, "*", "LookupError", .self, [⟨"args", .varPos, false⟩]⟩ := by kernel_rfl
theorem kxs_KE : KxsFacts "LookupError" "LookupError.__init__" := by
  refine ⟨?_, ?_⟩
  · show builtinType _ = _
    rw [builtinType_eq_fast]; kernel_rfl
  · first
    | kernel_rfl
    | rfl
/-! ### the class is called: LookupError's new, then the own init -/
section
variable {prog : Program} {w : World} {A : Around} {hp : Heap} {g : Array GenState} {dr : Drawn} {tk : Nat} {os : OsState}
variable {n₁ n₂ : Str} {C nsA : Addr} {bs bm : List Value} {hdct : Bool} {sl₁ : List Str} {sb : List Value} {ab : Bool} {col : Option Bool} {dd : Option Addr} {k0 k1 k2 k3 k5 : Option Value}
abbrev Cls0 (hp : Heap) (n₁ n₂ : Str) (C nsA : Addr) (bs bm : List Value) (hdct : Bool) (sl₁ : List Str) (sb : List Value) (ab : Bool) (col : Option Bool) (dd : Option Addr) (k0 k1 k2 k3 k5 : Option Value) : Prop :=
  hp.get? C = some (excClassObj n₁ n₂ C nsA bs bm hdct sl₁ sb ab col dd k0 k1 k2 k3 k5 "LookupError.__new__")
abbrev bare (C t : Addr) : Obj := { cls := .ref C, data := .fields #[.ref t, .none, .none, .none, .bool false, .none] }
theorem has (hb : tailKE bm = true) (X : String) (b : Bool) (h : keTail.contains (.type X) = b) : (Value.ref C :: bm).contains (.type X) = b := by
  rw [List.contains_cons, (tailKE_all .none bm hb).2.1 X, h]
  cases b <;> rfl
theorem new_check (hC : Cls0 hp n₁ n₂ C nsA bs bm hdct sl₁ sb ab col dd k0 k1 k2 k3 k5) (hb : tailKE bm = true) {M : Model} {E : Value → Shared → Prop} {more : List Value} {Q : Unit → Shared → Prop} (q : Q () ⟨hp, g, dr, tk, os⟩) :
    wpAny M A (checkBuiltinCall "LookupError.__new__" ⟨.ref C :: more, []⟩) Q E ⟨hp, g, dr, tk, os⟩ := by
  have FL := _root_.PySem.F.excBase_LookupError
  have c1 : (Value.ref C :: bm).contains (.type "LookupError") = true := has hb _ _ (by decide +kernel)
  have star := FL.noStar
  simp only [checkBuiltinCall, FL.newKind, FL.newSplit, FL.newRow]
  repeat (first
    | refine wpAny_loadPart_at hC ?_
    | (refine wpAny_isSubtype_exc hC ?_; rw [c1])
    | refine wpAny_staticBase_exc hC ?_
    | refine wpAny_madeBy_exc hC ?_
    | simp only [bne_self_eq_false, Bool.false_eq_true, if_false]
    | wp_step)
  exact q
theorem new_run {R : Result → Shared → Prop} (hC : Cls0 hp n₁ n₂ C nsA bs bm hdct sl₁ sb ab col dd k0 k1 k2 k3 k5) (hb : tailKE bm = true) {more : List Value} (hz : more.length ≤ sizeLine)
    (q : R (.ok (.ret (.ref (hp.objs.size + 1)))) ⟨(hp.push (kdv_tup more)).push (bare C hp.objs.size), g, dr, tk, os⟩) :
    codeAny (model prog w) A (.builtin "LookupError.__new__" ⟨.ref C :: more, []⟩) R ⟨hp, g, dr, tk, os⟩ := by
  have FL := _root_.PySem.F.excBase_LookupError
  have ends := FL.ends
  have c1 : (Value.ref C :: bm).contains (.type "LookupError") = true := has hb _ _ (by decide +kernel)
  have c2 : (Value.ref C :: bm).contains (.type "AttributeError") = false := has hb _ _ (by decide +kernel)
  have c3 : (Value.ref C :: bm).contains (.type "NameError") = false := has hb _ _ (by decide +kernel)
  refine codeAny_builtinAt FL.entry (_root_.PySem.wpAt_bind ?_)
  show _root_.PySem.wpAt _ _ _ (stack >>= _) _ _ _
  refine _root_.PySem.wpAt_bind (_root_.PySem.wpAt_stack fun p below => _root_.PySem.wpAt_of_wpAny ?_)
  wp_walk
  refine _root_.PySem.wpAt_of_wpAny ?_
  rw [FL.owner]
  repeat (first
    | with_reducible refine wpAny_madeHere_exc FL.canon hC ?_
    | with_reducible refine wpAny_loadPart_at hC ?_
    | (with_reducible refine wpAny_isSubtype_exc hC ?_; rw [c1])
    | (with_reducible refine wpAny_isSubtype_exc hC ?_; rw [c2])
    | (with_reducible refine wpAny_isSubtype_exc hC ?_; rw [c3])
    | wp_step)
  show R _ _
  rw [Heap.size_push]
  exact q
theorem type_run {E : Value → Shared → Prop} (hC : Cls0 hp n₁ n₂ C nsA bs bm hdct sl₁ sb ab col dd k0 k1 k2 k3 k5) (hb : tailKE bm = true) {more : List Value} {own : Addr} {Q : Fin → Shared → Prop}
    (h1 : Looks (model prog w) hp (typeLookup (.ref C) "__init__") (some (.ref own))) (h2 : ∀ x, Looks (model prog w) hp (bindSpecial (.ref own) x) (.ref own, [x])) (hz : more.length ≤ sizeLine)
    (q : codeAny (model prog w) A (.call (.ref own) ⟨.ref (hp.objs.size + 1) :: more, []⟩)
      (fun r s' => match r with
        | .ok (.ret v) => v = .none ∧ Q (.done (.ret (.ref (hp.objs.size + 1)))) s'
        | .ok _ => False
        | .error e => E e s') ⟨(hp.push (kdv_tup more)).push (bare C hp.objs.size), g, dr, tk, os⟩) :
    wpAny (model prog w) A (Builtin.«type.__call__» ⟨.ref C :: more, []⟩) Q E ⟨hp, g, dr, tk, os⟩ := by
  have FL := _root_.PySem.F.excBase_LookupError
  repeat (first
    | with_reducible refine wpAny_loadPart_at hC ?_
    | with_reducible refine wpAny_madeBy_exc hC ?_
    | wp_step)
  refine codeAny_call_builtin_code (Code.quiet_builtin _ FL.quiet) (new_check hC hb (new_run hC hb hz ?_))
  show wpAny _ _ _ _ _ _
  have kp : ∀ b o, hp.get? b = some o → ((hp.push (kdv_tup more)).push (bare C hp.objs.size)).get? b = some o := fun b o e => Heap.get?_push_of_some _ (Heap.get?_push_of_some _ e)
  have gC := kp _ _ hC
  have gx : ((hp.push (kdv_tup more)).push (bare C hp.objs.size)).get? (hp.objs.size + 1) = some (bare C hp.objs.size) := by heap_get
  have cc : (Value.ref C :: bm).contains (.ref C) = true := by simp
  have j1 := h1.keeps kp
  have j2 := (h2 (.ref (hp.objs.size + 1))).keeps kp
  unfold isInstance
  repeat (first
    | with_reducible refine wpAny_loadPart_at gx ?_
    | (with_reducible refine wpAny_isSubtype_exc gC ?_; rw [cc])
    | wp_step)
  show wpAny _ _ (typeLookup (.ref C) _) _ _ _
  refine j1.at (wpAny_holding (wpAny_bind (j2.at (wpAny_bind (wpAny_call (codeAny_mono q fun r s' z => ?_))))))
  rcases r with e | (v | _ | _ | _) <;> first
    | exact z
    | exact z.elim
    | skip
  obtain ⟨rfl, z⟩ := z
  first
    | exact wpAny_pure (wpAny_pure z)
    | (wp_walk; exact z)
theorem call_run {R : Result → Shared → Prop} (hC : Cls0 hp n₁ n₂ C nsA bs bm hdct sl₁ sb ab col dd k0 k1 k2 k3 k5) (hb : tailKE bm = true) {more : List Value} {own : Addr}
    (h1 : Looks (model prog w) hp (typeLookup (.ref C) "__init__") (some (.ref own))) (h2 : ∀ x, Looks (model prog w) hp (bindSpecial (.ref own) x) (.ref own, [x])) (hz : more.length ≤ sizeLine)
    (q : codeAny (model prog w) (A.under (.builtin "type.__call__" ⟨.ref C :: more, []⟩)) (.call (.ref own) ⟨.ref (hp.objs.size + 1) :: more, []⟩) (InitBack (hp.objs.size + 1) R) ⟨(hp.push (kdv_tup more)).push (bare C hp.objs.size), g, dr, tk, os⟩) :
    codeAny (model prog w) A (.call (.ref C) ⟨more, []⟩) R ⟨hp, g, dr, tk, os⟩ := by
  have a1 := tc_lookup
  have a2 := tc_bind (.ref C)
  have ty : (⟨hp, g, dr, tk, os⟩ : Shared).TypeIs (.ref C) "type" := ⟨_, hC, rfl⟩
  refine codeAny_of_tree ?_
  show wpAny _ _ (callAny (.ref C) _) _ _ _
  repeat (any_goals (first
    | assumption
    | with_reducible refine wpAny_loadPart_at hC ?_
    | wp_step))
  refine ⟨rfl, codeAny_call_builtin_at (Code.quiet_builtin _ (by decide +kernel)) entry_typeCall (wpAny_check_type_call_sub hC (type_run hC hb h1 h2 hz ?_))⟩
  refine codeAny_mono q fun r s' z => ?_
  rcases r with e | (v | _ | _ | _) <;> exact z
/-- self.name = v, no dict yet -/
theorem set_new {R : Result → Shared → Prop} {K : Frag} {name : Str} {tn : Tok} {v : Value} {x : Addr} {fv : Array Value} {cd : ClassData} (X : K.In hp) (hx : hp.get? x = some { cls := .ref C, data := .fields fv }) (hcd : clsIn K C = some cd) (hm : tailKE cd.mro = true)
    (hh : cd.hasDict = true) (ha : findIn K (.ref C) name = some none)
    (q : ∀ h' tk' dx, (∀ b o, b ≠ x → hp.get? b = some o → h'.get? b = some o) → hp.objs.size ≤ dx → dx ≠ x → h'.get? x = some { cls := .ref C, dict := some dx, data := .fields fv } → h'.Ns1 dx (fun y => if y = name then some v else none) → R (.ok (.ret .none)) ⟨h', g, dr, tk', os⟩) :
    codeAny (model prog w) A (.call (.builtin "object.__setattr__") ⟨[.ref x, .str name tn, v], []⟩) R ⟨hp, g, dr, tk, os⟩ := by
  obtain ⟨pass, cont, ne⟩ := tailKE_all (.ref x) _ hm
  have J : InstAt hp x { cls := .ref C, data := .fields fv } C none := ⟨hx, rfl, rfl, trivial⟩
  have SO := _root_.PySem.F.store_object
  have c0 : cd.mro.contains (.type "object") = true := (cont "object").trans (by decide +kernel)
  have nx : x ≠ hp.objs.size := Nat.ne_of_lt (Heap.lt_size hx)
  have io : Looks (model prog w) hp (isInstance (.ref x) (.type "object")) true := by
    refine J.type.andThen (looks_mroIn X ?_)
    unfold mroIn
    rw [hcd, Option.bind_some, if_neg (by rw [ne]; decide), c0]
  refine codeAny_call_builtin SO.slot.plain SO.entry (@check_slot (model prog w) _ _ ⟨hp, g, dr, tk, os⟩ "object.__setattr__" "object" "__setattr__" (.ref x) [.str name tn, v] [] _ SO.kind SO.split io (SO.args (.ref x) (.str name tn) v) ?_)
  have m1 : Looks (model prog w) hp (mroOf (.ref C)) cd.mro := (looks_clsIn X hcd).andThen .now
  have m2 : Looks (model prog w) hp (storeTaker? none) none := .now
  have m3 : Looks (model prog w) hp (classData C) cd := looks_clsIn X hcd
  rw [osa_eq, refuse_eq]
  refine wpAny_bind (wpAny_bind (J.type.at (wpAny_bind (m1.at ?_))))
  rw [pass]
  refine wpAny_pure (wpAny_bind (J.type.at (wpAny_bind ((looks_findIn X ha).at (wpAny_bind (m2.at ?_))))))
  show wpAny _ _ (storeInOwnDict (.ref x) (.ref C) (.str name tn) name v false) _ _ _
  obtain ⟨y1, y2, y3, y4, y5, y6, y7, y8, y9, y10, y11⟩ := cd
  dsimp only at hh
  subst hh
  unfold storeInOwnDict ownDictForStores
  repeat (first
    | with_reducible refine HandSPX.store_in_new ?_ ?_
    | with_reducible refine wpAny_loadPart_at hx ?_
    | with_reducible refine m3.at ?_
    | wp_step)
  · have fresh := Heap.get?_push_at (h := hp) (o := { cls := .type "dict", data := .dict #[] }) rfl rfl
    exact ⟨_, #[], _, (Heap.get?_update_ne _ _ _ _ nx.symm).trans fresh, rfl, fun e he => absurd he (by simp), fun _ => rfl⟩
  · intro h' tk' hn' hs
    have px : (hp.push { cls := .type "dict", data := .dict #[] }).get? x = some { cls := .ref C, data := .fields fv } := Heap.get?_push_of_some _ hx
    refine q h' tk' hp.objs.size (fun b o hb ho => ?_) (Nat.le_refl _) nx.symm ((hs.2 x nx).trans (Heap.get?_update_self _ px rfl)) hn'
    refine (hs.2 b (Nat.ne_of_lt (Heap.lt_size ho))).trans ?_
    exact (Heap.get?_update_ne _ _ _ _ hb).trans (Heap.get?_push_of_some _ ho)
end
/-- what the written part says of the class at C and of its __init__ at fI -/
structure Txt (file : Str) (K : Frag) (q F txt : Str) (C fI : Addr) : Prop where
  nm : Nm F
  cls : ∃ nm q' N bs bm sn sub ab col dd k0 k1 k2 k3 k5, K.lookup C = some (excClassObj nm q' C N bs bm true sn sub ab col dd k0 k1 k2 k3 k5 "LookupError.__new__") ∧ tailKE bm = true
  sa : findIn K (.ref C) "__setattr__" = some (some (.builtin "object.__setattr__"))
  ga : findIn K (.ref C) "__getattribute__" = some (some (.builtin "BaseException.__getattribute__"))
  gg : findIn K (.ref C) "__getattr__" = some none
  noF : findIn K (.ref C) F = some none
  iC : findIn K (.ref C) "__init__" = some (some (.ref fI))
  tC : typeIn K (.ref fI) = some (.type "function")
  kC : keepIn K (.ref C) = true
  exC : subIn K (.ref C) (.type "BaseException") = some true
  keC : subIn K (.ref C) (.type "LookupError") = some true
  tyC : typeIn K (.ref C) = some (.type "type")
  hdC : hasDictIn K C = true
  te : exmOne K (.ref C) (.ref C) = some true
  sup : ks_superIn K C C "__init__" = some (some (.builtin "LookupError.__init__"))
  slf : mroIn K C (.ref C) = some true
  gs : nsIn K mainGlobals "super" = some none
  tp : nsIn K cStatics "thirdparty.any" = some none
  fn : ∃ (oc : Value) (od : Option Addr) (kV doc pm : Value) (an : Option Addr) (cda : Addr) (ct : Value) (osl : Array (Option Value)) (cc : Addr) (p1 p2 : Pos) (kk : Nat) (q1 q2 q3 q4 q5 q6 q7 q8 q9 q10 : Pos),
    K.lookup fI = some ⟨oc, od, .func (ksFn "__init__" q (arg2 F p1 p2) (bod2 F txt kk q1 q2 q3 q4 q5 q6 q7 q8 q9 q10) (sco2 F) .none kV doc pm an (.ref cda) ct cc), osl⟩ ∧ codeIn K (.ref cda) q = true ∧ (q3.endLine == q5.line) = true ∧
    (∃ ccl cdd vs ccs tf, K.lookup cda = some ⟨ccl, cdd, .fields vs, ccs⟩ ∧ vs[2]? = some (.str file tf)) ∧ (∃ cl cld csl, K.lookup cc = some ⟨cl, cld, .cell (some (.ref C)), csl⟩)
section
variable {M : Model} {A : Around} {E : Value → Shared → Prop} {hp : Heap} {g : Array GenState} {dr : Drawn} {tk : Nat} {os : OsState}
variable {n₁ n₂ : Str} {C nsA : Addr} {bs bm : List Value} {hdct : Bool} {sl₁ : List Str} {sb : List Value} {ab : Bool} {col : Option Bool} {dd : Option Addr} {k0 k1 k2 k3 k5 : Option Value}
theorem init_check {e : Addr} {oe : Obj} {more : List Value} {Q : Unit → Shared → Prop} (hC : Cls0 hp n₁ n₂ C nsA bs bm hdct sl₁ sb ab col dd k0 k1 k2 k3 k5) (he : hp.get? e = some oe) (hc : oe.cls = .ref C) (q : Q () ⟨hp, g, dr, tk, os⟩) :
    wpAny M A (checkBoundCall "LookupError.__init__" ⟨.ref e :: more, []⟩) Q E ⟨hp, g, dr, tk, os⟩ := by
  have star : ("LookupError" != "*") = true := by decide +kernel
  simp only [checkBoundCall, kind_KE, row_KE]
  repeat (first
    | (with_reducible refine wpAny_loadPart_at he ?_; rw [hc])
    | with_reducible refine wpAny_loadPart_at hC ?_
    | wp_step)
  refine wpAny_onRaise ?_
  have z : ∀ (a b : String) (n : Nat), Bind.check ⟨.positional, "*", "LookupError", .self, [⟨"args", .varPos, false⟩]⟩ a b n (List.map (fun x => x.fst) ({ pos := Value.ref e :: more } : Args).kw) = pure () := fun _ _ _ => check_star_args _ _ _ _ _ _
  rw [z]
  exact wpAny_pure q
end
section
variable {prog : Program} {w : World} {A : Around} {E : Value → Shared → Prop} {h : Heap} {g : Array GenState} {d : Drawn} {t : Nat} {os : OsState}
variable {nm q : Str} {C N : Addr} {bs bm : List Value} {hdct : Bool} {sn : List Str} {sub : List Value} {ab : Bool} {col : Option Bool} {dd : Option Addr} {k0 k1 k2 k3 k5 : Option Value}
/-- the bound built-in __init__ is called -/
theorem mw_call {u e t0 : Addr} {rest : List Value} {Q : Value → Shared → Prop}
    (hC : h.get? C = some (excClassObj nm q C N bs bm hdct sn sub ab col dd k0 k1 k2 k3 k5 "LookupError.__new__")) (he : h.get? e = some (HandSPX.excO C t0))
    (hu : h.get? u = some (kxs_mw "LookupError.__init__" e)) (hz : rest.length ≤ sizeLine)
    (hq : ∀ h' t1, (∀ b o, b ≠ e → h.get? b = some o → h'.get? b = some o) → h'.get? e = some (HandSPX.excO C t1) → Q .none ⟨h', g, d, t, os⟩) :
    wpAny (model prog w) A (call (.ref u) rest) Q E ⟨h, g, d, t, os⟩ := by
  have c1 : (Value.type "method-wrapper" == Value.type "method" || Value.type "method-wrapper" == Value.type "builtin_function_or_method" || Value.type "method-wrapper" == Value.type "method-wrapper") = true := by decide
  refine wpAny_call (codeAny_of_tree ?_)
  show wpAny _ A.in1 (callAny (.ref u) ⟨rest, []⟩) _ _ _
  simp only [callAny]
  refine wpAny_bind (wpAny_load hu ?_)
  simp only [kxs_mw, c1, if_true]
  refine KFB.if_so (by decide) ?_
  refine wpAny_bind (init_check hC he rfl ?_)
  refine wpAny_bind (wpAny_pure (wpAny_pure ?_))
  refine ⟨plainId_quiet slot_KE.plain _, codeAny_builtin entry_KE ?_⟩
  refine exc_init_tree (cls := .ref C) (t0 := t0) (dv := none) (c2 := .none) (c3 := .none) (b4 := .bool false) he hz fun h' k e' _ => ?_
  exact hq h' _ k e'
end
section
variable {prog : Program} {w : World} {A : Around} {E : Value → Shared → Prop} {R : Result → Shared → Prop} {s : Shared} {K : Frag} {q F txt : Str} {C fI : Addr} {mg mb : Str → Option Value}
theorem initX (T : Txt prog.main.file K q F txt C fI) {x t0 : Addr} {v : Value} (X : K.In s.heap) (hlim : s.heap.NoLimit) (hg : s.heap.Ns mainGlobals mg) (hb : s.heap.Ns builtinsNs mb) (hbs : mb "super" = some (.type "super"))
    (htop : (prog.main.scope.names.lookup ("super" : Str)).isSome = false) (hx : s.heap.get? x = some (HandSPX.excO C t0)) (hnx : K.lookup x = none) (hroom : A.depth < recursionLimit)
    (hq : ∀ h' tk dx t1, Done s.heap h' x C dx t1 F v → R (.ok (.ret .none)) { s with heap := h', toks := tk }) :
    codeAny (model prog w) A (.call (.ref fI) ⟨[.ref x, v], []⟩) R s := by
  obtain ⟨oc, od, kV, doc, pm, an, cda, ct, osl, cc, p1, p2, kk, q1, q2, q3, q4, q5, q6, q7, q8, q9, q10, ho, hcd, hpl, ⟨ccl, cdd, vs, ccs, tf, hcode, hvs⟩, cl, cld, csl, hcell⟩ := T.fn
  obtain ⟨nm, q', N, bs, bm, sn, sub, ab, col, dd, k0, k1, k2, k3, k5, hC, hbm⟩ := T.cls
  have hcl : clsIn K C = some { name := nm, bases := bs, mro := .ref C :: bm, ns := N, qualname := q', hasDict := true, slotNames := sn, subclasses := sub, abstract := ab, collection := col, hasDel := false } := by unfold clsIn; rw [hC] <;> rfl
  refine ks_codeAny_call_defAt (fd := ksFn "__init__" q (arg2 F p1 p2) (bod2 F txt kk q1 q2 q3 q4 q5 q6 q7 q8 q9 q10) (sco2 F) .none kV doc pm an (.ref cda) ct cc) (binds := [("self", .ref x), (F, v)]) hroom (X _ _ ho) rfl hlim (codeRec_of X hcd) rfl
    (BindsTo.of_eq (T.nm.b _ _ _ _ _ _ _ _ _ _ _ _ _)) (fun y hy => ?_) (fun y hy => ?_) (fun h₁ hns hk => ?_)
  · simp only [List.mem_cons, List.not_mem_nil, or_false] at hy
    rcases hy with rfl | rfl | rfl | rfl <;> (intro z; cases z)
  · simp only [List.mem_cons, List.not_mem_nil, or_false] at hy
    rcases hy with rfl | rfl
    · exact T.nm.l
    · exact T.nm.f
  have X1 : K.In h₁ := X.keeps hk
  have g1 : h₁.Ns mainGlobals mg := hg.keeps hk
  have b1 : h₁.Ns builtinsNs mb := hb.keeps hk
  have x1 := hk _ _ hx
  have vS : ([(PySem.Str.ofString "self", Value.ref x), (F, v)] : List (Str × Value)).reverse.lookup ("self" : Str) = some (.ref x) := by
    show List.lookup ("self" : Str) [(F, v), (("self" : Str), Value.ref x)] = _
    simp [List.lookup, T.nm.en]
  have vF : ([(PySem.Str.ofString "self", Value.ref x), (F, v)] : List (Str × Value)).reverse.lookup F = some v := by
    show List.lookup F [(F, v), (("self" : Str), Value.ref x)] = _
    simp [List.lookup]
  show _root_.PySem.wpAt _ _ _ (execs (_ :: _) _) _ _ _
  refine ks_wpAt_execs_cons (ks_wpAt_Expr_any (ks_wpAt_MethodCall ?_ (mcall1 hpl)))
  obtain ⟨oD, hD1, hD2⟩ : ∃ oD, h₁.get? C = some oD ∧ oD.data = .cls { name := nm, bases := bs, mro := .ref C :: bm, ns := N, qualname := q', hasDict := true, slotNames := sn, subclasses := sub, abstract := ab, collection := col, hasDel := false } := ⟨_, X1 _ _ hC, rfl⟩
  have I1 : InstAt h₁ x (HandSPX.excO C t0) C none := ⟨x1, rfl, rfl, trivial⟩
  refine ks_wpAt_super_base T.nm.s T.nm.c (by decide) rfl (X1 _ _ ho) rfl rfl rfl (X1 _ _ hcode) rfl hvs (beq_self_eq_true _) htop ?_
  refine ks_loadName_global rfl T.nm.s (loadGlobal_builtin g1 (mg_none_of X1 g1 T.gs) b1 hbs ⟨rfl, ?_⟩)
  refine wpAny_loadName_free rfl T.nm.c (by rfl) ⟨_, X1 _ _ hcell, rfl⟩ ?_
  refine wpAny_loadName_local rfl T.nm.l hns vS ?_
  refine ks_wpAny_isType_cls hD1 hD2 ⟨rfl, ?_⟩
  refine ks_wpAny_call_super hD1 hD2 x1 rfl (fun c e => by cases e) (looks_mroIn X1 T.slf) (fun h₂ e2 k2' => ?_)
  have X2 : K.In h₂ := X1.keeps k2'
  have x2 := k2' _ _ x1
  have n2 : h₂.Ns s.heap.objs.size (fun y => ([(PySem.Str.ofString "self", Value.ref x), (F, v)] : List (Str × Value)).reverse.lookup y) := hns.keeps k2'
  have I2 : InstAt h₂ x (HandSPX.excO C t0) C none := ⟨x2, rfl, rfl, trivial⟩
  have hxC : x ≠ C := ks_ne X2 I2 hcl
  have hsup := T.sup
  unfold ks_superIn at hsup
  rw [hcl] at hsup
  have hI : Looks (model prog w) h₂ (isInstance (.ref x) (.type "LookupError")) true := I2.type.andThen (looks_subIn X2 T.keC)
  show wpAny _ _ (getMethod (.ref h₁.objs.size) "__init__" _) _ _ _
  refine kxs_getMethod kxs_KE e2 (looks_opaque X2 T.tp) (l₀ := .ref C :: bm) (fun A Q E s k z => wpAny_bind ((looks_clsIn X2 hcl) A _ E s k (wpAny_pure z))) rfl X2 hsup hI hxC (by decide) ?_
  have k3' : ∀ b o, h₂.get? b = some o → (h₂.push (kxs_mw "LookupError.__init__" x)).get? b = some o := fun b o e => Heap.get?_push_of_some _ e
  have u3 : (h₂.push (kxs_mw "LookupError.__init__" x)).get? h₂.objs.size = some (kxs_mw "LookupError.__init__" x) := Heap.get?_push_size _ rfl
  refine kxs_callWith (i := "LookupError.__init__") (x := x) rfl (evalArgs_plain (spliced_cons (Constant_str (k := kk) (pos := q4) (spliced_nil ⟨u3, ?_⟩))))
  refine mw_call (k3' _ _ (X2 _ _ hC)) (k3' _ _ x2) u3 (by show 1 ≤ sizeLine; rw [sizeLine_eq]; omega) fun h₄ t1 k4 x4 => ?_
  have X4 : K.In h₄ := fun a o e => k4 a o (fun z => by rw [z, hnx] at e; cases e) (k3' _ _ (X2 _ _ e))
  have hxL : s.heap.objs.size ≠ x := Nat.ne_of_gt (Heap.lt_size hx)
  have n4 : h₄.Ns s.heap.objs.size (fun y => ([(PySem.Str.ofString "self", Value.ref x), (F, v)] : List (Str × Value)).reverse.lookup y) := by
    obtain ⟨o, es, ep, e, r⟩ := n2
    exact ⟨o, es, ep, k4 _ _ hxL (k3' _ _ e), r⟩
  show _root_.PySem.wpAt _ _ _ (execs (_ :: _) _) _ _ _
  refine wpAt_of_wpAny (wpAny_execs_cons (plainObj_wpAny_Assign_Attribute ?_))
  refine wpAny_Name (wpAny_loadName_local rfl T.nm.f n4 vF ?_) T.nm.db
  refine wpAny_Name (wpAny_loadName_local rfl T.nm.l n4 vS ?_) (by decide)
  refine set_plain X4 (ox := HandSPX.excO C t1) (od := none) ⟨x4, rfl, rfl, trivial⟩ T.sa ?_
  refine set_new X4 x4 hcl (show tailKE (.ref C :: bm) = true from hbm) rfl T.noF (fun h₅ tk₅ dx k₅ dn dne hx₅ hn₅ => ?_)
  show wpAny _ _ (execs _ _) _ _ _
  have z4 : ∀ b o, b ≠ x → s.heap.get? b = some o → h₄.get? b = some o := fun b o hb e => k4 b o hb (k3' _ _ (k2' _ _ (hk _ _ e)))
  refine wpAny_execs_nil (hq h₅ tk₅ dx t1 ⟨fun b o hb e => k₅ b o hb (z4 b o hb e), hx₅, ?_, dne, hn₅⟩)
  obtain ⟨o4, es4, ep4, e4, _⟩ := n4
  exact Nat.le_of_lt (Nat.lt_of_lt_of_le (Heap.lt_size e4) dn)

theorem madeX (T : Txt prog.main.file K q F txt C fI) {v : Value} (X : K.In s.heap) (hlim : s.heap.NoLimit) (hg : s.heap.Ns mainGlobals mg) (hb : s.heap.Ns builtinsNs mb) (hbs : mb "super" = some (.type "super"))
    (htop : (prog.main.scope.names.lookup ("super" : Str)).isSome = false) (hroom : A.depth + 1 < recursionLimit)
    (hq : ∀ h' tk e d, Made s.heap h' e C d F v → R (.ok (.ret (.ref e))) { s with heap := h', toks := tk }) :
    codeAny (model prog w) A (.call (.ref C) ⟨[v], []⟩) R s := by
  obtain ⟨nm, q', N, bs, bm, sn, sub, ab, col, dd, k0, k1, k2, k3, k5, hC, hbm⟩ := T.cls
  obtain ⟨hp, g, dr, tk, os⟩ := s
  have k : ∀ b o, hp.get? b = some o → ((hp.push (kdv_tup [v])).push (HandSPX.excO C hp.objs.size)).get? b = some o := fun b o e => Heap.get?_push_of_some _ (Heap.get?_push_of_some _ e)
  have hget : ((hp.push (kdv_tup [v])).push (HandSPX.excO C hp.objs.size)).get? (hp.objs.size + 1) = some (HandSPX.excO C hp.objs.size) := by heap_get
  have hnx : K.lookup (hp.objs.size + 1) = none := by
    cases e : K.lookup (hp.objs.size + 1) with
    | none => rfl
    | some o =>
      have z : hp.get? (hp.objs.size + 1) = some o := X _ _ e
      exact absurd (Nat.lt_of_succ_lt (Heap.lt_size z)) (Nat.lt_irrefl _)
  refine call_run (X _ _ hC) hbm (looks_findIn X T.iC) (fun self => bind_fn X self T.tC) (by show 1 ≤ sizeLine; rw [sizeLine_eq]; omega) ?_
  refine initX (s := ⟨(hp.push (kdv_tup [v])).push (HandSPX.excO C hp.objs.size), g, dr, tk, os⟩) T (X.keeps k) (hlim.keeps k) (hg.keeps k) (hb.keeps k) hbs htop hget hnx ?_ fun h' tk' dx t1 D => ?_
  · show A.depth + 1 < recursionLimit
    exact hroom
  · have old : ∀ b o, hp.get? b = some o → h'.get? b = some o := fun b o e => D.keep b o (Nat.ne_of_lt (Nat.lt_succ_of_lt (Heap.lt_size e))) (k b o e)
    have z : hp.objs.size + 1 + 1 ≤ dx := by
      have q := D.dbig
      simp only [Heap.size_push] at q
      exact q
    exact ⟨rfl, hq h' tk' (hp.objs.size + 1) dx ⟨old, Nat.le_succ _, ⟨_, D.obj⟩, Nat.le_trans (Nat.le_trans (Nat.le_succ _) (Nat.le_succ _)) z, D.dne, D.ns⟩⟩
end

end Xl
namespace Xl
open PySem PySem.Spec PyProof.Rows L2
open Xb (boot_super relO_one tMkX tRaiseX tByX Made)
section
variable {X : Cx} {C fI : Addr} {q F txt : Str}
theorem pmk_x {x : Str} {a : Expr} {ta : TA} {p pos : Pos} {k : Nat} (T : Txt X.prog.main.file X.K q F txt C fI) (hm : X.mg x = some (.ref C)) (htop : (X.prog.main.scope.names.lookup ("super" : Str)).isSome = false) (hr : Room k X.A) (ha : PA X [a] ta) (hg : Gl X x := by rfl)
    (hdb : (x == ("__debug__" : Str)) = false := by decide)
    (he : starEach (a :: []) X.env = (false, eval a X.env) :: starEach [] X.env := by rfl) (hpl : (backTo pos (starEach [] X.env)).any (·.1) = false := by rfl) :
    PMk X (.Call (.Name x p) [a] [] pos) (tMkX C F ta) := by
  intro pins s σ H Q I h
  refine wpAny_Call_Name_kw (ld_glob I hg hm ?_ hdb)
  refine PySem.W.callWith_K (h₀ := X.base) I.ok.mod.kin T.kC (thn (ha.run pos pins s σ H _ I h) fun us s1 hh => ?_) he hpl
  obtain ⟨vs, H1, I1, r1, v, ev, q1⟩ := hh
  subst ev
  refine ⟨I1.kIn, ?_⟩
  cases r1 with
  | cons rv rn =>
    rename_i v' us'
    cases rn
    show wpAny _ _ (call (.ref C) [v']) _ _ _
    have hlim := I1.nolimit
    have M := I1.mod
    have hns : s1.heap.Ns mainGlobals X.mg := M.glob.keeps I1.bk
    obtain ⟨mb, hb, hbb⟩ := M.blt
    have hb1 : s1.heap.Ns builtinsNs mb := hb.keeps I1.bk
    have hbs : mb "super" = some (.type "super") := (hbb _ (by decide)).trans boot_super
    obtain ⟨hp, g, dr, tk, os⟩ := s1
    refine wpAny_call (madeX T I1.kIn hlim hns hb1 hbs htop (by have := hr.dp; omega) fun h' tk' e d M => ?_)
    show MkP X pins σ Q (.ref e) ⟨h', g, dr, tk', os⟩
    obtain ⟨t1, hoe⟩ := M.obj
    obtain ⟨G', g1, g2⟩ := restrict h' fun b => decide (b ≠ e)
    have gk : ∀ b, b ≠ e → G'.get? b = h'.get? b := fun b hb => g1 b (decide_eq_true hb)
    have ge : G'.get? e = none := g2 e (by simp)
    have old : ∀ b o, hp.get? b = some o → G'.get? b = some o := fun b o q => (gk b (Nat.ne_of_lt (Nat.lt_of_lt_of_le (Heap.lt_size q) M.new))).trans (M.keep b o q)
    have ob : ObjOk X.prog X.w (upd H1 d (.xd [(F, v)])) G' d (.xd [(F, v)]) :=
      ⟨_, M.ns.at (fun o q => (gk d M.dne).trans q), fun f => relO_one rv f⟩
    have J : Inv X pins σ (upd H1 d (.xd [(F, v)])) ⟨G', g, dr, tk', os⟩ := I1.laid (t' := tk') old M.dbig ob
    refine ⟨e, _, _, ⟨G', g, dr, tk', os⟩, _, .ref C, some d, rfl, J, fun b o q => ?_, ge, hoe, ⟨rfl, rfl⟩, rfl, rfl, ?_, rfl, I1.bare, raises_own T.exC T.tyC, q1 d (I1.hok.fresh M.dbig)⟩
    · by_cases hb : b = e
      · have q' : G'.get? b = some o := q
        rw [hb, ge] at q'; cases q'
      · exact (gk b hb).symm.trans q
    · rw [upd_ne (Ne.symm M.dne)]
      exact I1.hok.fresh M.new
theorem ps_raiseX {x : Str} {a : Expr} {ta : TA} {W : WX} {p pos pos2 : Pos} {k : Nat} (hc : X.calm = true) (T : Txt X.prog.main.file X.K q F txt C fI) (hm : X.mg x = some (.ref C)) (htop : (X.prog.main.scope.names.lookup ("super" : Str)).isSome = false) (hr : Room k X.A) (tk : Takes X W) (ha : PA X [a] ta) (hg : Gl X x := by rfl)
    (hdb : (x == ("__debug__" : Str)) = false := by decide)
    (he : starEach (a :: []) X.env = (false, eval a X.env) :: starEach [] X.env := by rfl) (hpl : (backTo pos (starEach [] X.env)).any (·.1) = false := by rfl) :
    PS X (.Raise (some (.Call (.Name x p) [a] [] pos)) none pos2) (tRaiseX C F W ta) := ps_raise hc tk (pmk_x T hm htop hr ha hg hdb he hpl)
theorem pe_byX {a : Addr} {oe : Obj} {cls : Value} {d : Option Addr} {pn : List (Addr × Obj)} {e : Expr} {te : TE} {pos : Pos} (T : Txt X.prog.main.file X.K q F txt C fI) (hz : Zc cls d oe) (hf : ∃ vs, oe.data = .fields vs) (he : PE (X.suite a ((a, oe) :: pn)) e te)
    (hb : attributeBase e F X.env (eval e X.env) = eval e X.env := by rfl) :
    PE (X.suite a ((a, oe) :: pn)) (.Attribute e F pos) (tByX C F a cls d te) := by
  refine ⟨fun pins s σ H Q I h => ?_⟩
  refine attr_of hb (thn (he.run pins s σ H _ I h) fun u s1 hh => ?_)
  obtain ⟨x, H1, I1, rx, ex, ec, dd, v, ed, ea, q⟩ := hh
  subst ex
  obtain rfl : u = Value.ref a := rx
  subst ec
  subst ed
  obtain ⟨ha, _⟩ := I1.pin (a, oe) (List.mem_append_left _ List.mem_cons_self)
  obtain ⟨vs, hd⟩ := hf
  have hx : ObjOk X.prog X.w H1 s1.heap dd (.xd [(F, v)]) := I1.hok dd _ ea
  obtain ⟨mA, hns, hr⟩ := hx
  obtain ⟨od, ho, hl⟩ := lookIn_ns hns
  have l : List.lookup F [(F, v)] = some v := by simp [List.lookup]
  obtain ⟨u, hu, ru⟩ := RelO.some_of (v := v) (o := mA F) (by rw [← l]; exact hr F)
  have J : PySem.W.InstAt s1.heap a oe C (some od) := ⟨ha, hz.1, by unfold PySem.W.notCls; rw [hd] <;> rfl, by rw [hz.2]; exact ho⟩
  exact HandSPX.exc_get I1.kIn J T.ga T.gg T.exC (PySem.W.findObj_own T.hdC T.noF rfl (by rw [hl, hu])) (handed_of ru) ⟨v, H1, I1.tok _, ru, q⟩
end
end Xl
set_option Elab.async false
set_option linter.all false
set_option maxRecDepth 100000
set_option maxHeartbeats 4000000
namespace Hd
open PySem PySem.Spec PyProof.Rows L2
def clsLE (K : PySem.W.Frag) (C : Addr) : Bool := match K.lookup C with
  | some ⟨.type t, _, .cls cd, sl⟩ => (match cd.mro, sl.toList with
    | .ref C' :: bm, [_, _, _, _, some (.builtin n), _] => decide (t = "type") && (decide (C' = C) && (decide (n = "LookupError.__new__") && (!cd.hasDel && (cd.hasDict && Xl.tailKE bm))))
    | _, _ => false)
  | _ => false
theorem clsLE_ok {K : PySem.W.Frag} {C : Addr} (h : clsLE K C = true) : ∃ nm q' N bs bm sn sub ab col dd k0 k1 k2 k3 k5, K.lookup C = some (excClassObj nm q' C N bs bm true sn sub ab col dd k0 k1 k2 k3 k5 "LookupError.__new__") ∧ Xl.tailKE bm = true := by
  unfold clsLE at h
  split at h
  · rename_i t dd cd sl ho
    split at h
    · rename_i C' bm k0 k1 k2 k3 n k5 hm hs
      obtain ⟨h0, h⟩ := He.ba h
      obtain ⟨h1, h⟩ := He.ba h
      obtain ⟨h2, h⟩ := He.ba h
      obtain ⟨h3, h⟩ := He.ba h
      obtain ⟨h4, h5⟩ := He.ba h
      have h0 := of_decide_eq_true h0
      have h1 := of_decide_eq_true h1
      have h2 := of_decide_eq_true h2
      subst h0 h1 h2
      obtain ⟨nm, bs, mro, ns, qn, hd, sn, sub, ab, col, del⟩ := cd
      dsimp only at hm h3 h4
      subst hm h4
      have h3 : del = false := by simpa using h3
      subst h3
      have hsl : sl = #[k0, k1, k2, k3, some (.builtin "LookupError.__new__"), k5] := by
        obtain ⟨l⟩ := sl
        simp only at hs
        rw [hs]
      subst hsl
      exact ⟨_, _, _, _, _, _, _, _, _, _, _, _, _, _, _, ho, h5⟩
    · cases h
  · cases h
/-- the further facts of the class x whose one field is F -/
def excLB (file : Str) (K : PySem.W.Frag) (x F : Str) : Bool :=
  let C := He.ga K x
  let fI := He.ma K C "__init__"
  allB [He.eqO (PySem.W.nsIn K mainGlobals x) (some (some (.ref C))), clsLE K C, He.eqO (PySem.W.findIn K (.ref C) "__setattr__") (some (some (.builtin "object.__setattr__"))),
    He.eqO (PySem.W.findIn K (.ref C) "__getattribute__") (some (some (.builtin "BaseException.__getattribute__"))), He.eqO (PySem.W.findIn K (.ref C) "__getattr__") (some none), He.eqO (PySem.W.findIn K (.ref C) F) (some none),
    He.eqO (PySem.W.findIn K (.ref C) "__init__") (some (some (.ref fI))), decide (PySem.W.typeIn K (.ref fI) = some (.type "function")), PySem.W.keepIn K (.ref C), decide (PySem.W.subIn K (.ref C) (.type "BaseException") = some true),
    decide (PySem.W.subIn K (.ref C) (.type "LookupError") = some true), decide (PySem.W.typeIn K (.ref C) = some (.type "type")), PySem.W.hasDictIn K C, decide (PySem.W.exmOne K (.ref C) (.ref C) = some true),
    He.eqO (PySem.W.ks_superIn K C C "__init__") (some (some (.builtin "LookupError.__init__"))), decide (PySem.W.mroIn K C (.ref C) = some true), He.eqO (PySem.W.nsIn K mainGlobals "super") (some none), He.eqO (PySem.W.nsIn K cStatics "thirdparty.any") (some none),
    (match K.lookup fI with
      | some ⟨_, _, .func fd, _⟩ => (match fd.code, fd.closure with
        | .ref cda, [(_, cc)] => (match K.lookup cda with
          | some ⟨_, _, .fields vs, _⟩ => fileB file vs
          | _ => false) && (match K.lookup cc with
          | some ⟨_, _, .cell (some (.ref D)), _⟩ => decide (D = C)
          | _ => false)
        | _, _ => false)
      | _ => false)]
theorem exc_txtL {file : Str} {K : PySem.W.Frag} {x q F txt : Str} {st : Stmt} {fd : FuncData} (nm : Xb.Nm F) (g : Got K (excD x q st) fd) (c : excLB file K x F = true)
    (hst : ∃ (p1 p2 : Pos) (kk : Nat) (q1 q2 q3 q4 q5 q6 q7 q8 q9 q10 : Pos), defArgs st = Xb.arg2 F p1 p2 ∧ defBody st = Xb.bod2 F txt kk q1 q2 q3 q4 q5 q6 q7 q8 q9 q10 ∧ defScope st = Xb.sco2 F ∧ (q3.endLine == q5.line) = true) :
    Xl.Txt file K q F txt (He.ga K x) (He.ma K (He.ga K x) "__init__") := by
  obtain ⟨oc, od, dV, kV, doc, pm, an, cdv, ct, osl, cl, h1, h2, h3, h4, h5⟩ := g.ex
  obtain ⟨p1, p2, kk, q1, q2, q3, q4, q5, q6, q7, q8, q9, q10, s1, s2, s3, s4⟩ := hst
  have hdV : dV = .none := by
    rcases h4 with ⟨_, e⟩ | ⟨e, _⟩
    · exact e
    · exact absurd rfl e
  have last := allB_at c 18
  have lk : K.lookup (He.ma K (He.ga K x) "__init__") = some ⟨oc, od, .func fd, osl⟩ := h2
  rw [lk] at last
  rw [h1] at last
  refine ⟨nm, clsLE_ok (allB_at c 1), He.eqO_ok (allB_at c 2), He.eqO_ok (allB_at c 3), He.eqO_ok (allB_at c 4), He.eqO_ok (allB_at c 5), He.eqO_ok (allB_at c 6), of_decide_eq_true (allB_at c 7), allB_at c 8, of_decide_eq_true (allB_at c 9), of_decide_eq_true (allB_at c 10),
    of_decide_eq_true (allB_at c 11), allB_at c 12, of_decide_eq_true (allB_at c 13), He.eqO_ok (allB_at c 14), of_decide_eq_true (allB_at c 15), He.eqO_ok (allB_at c 16), He.eqO_ok (allB_at c 17), ?_⟩
  cases cdv with
  | ref cda =>
    cases cl with
    | nil => cases h5
    | cons y r =>
      obtain ⟨y1, cc⟩ := y
      cases r with
      | cons _ _ => cases h5
      | nil =>
        have e1 : y1 = ("__class__" : Str) := (List.cons.inj h5).1
        subst e1
        obtain ⟨l1, l2⟩ := He.ba (show ((match K.lookup cda with
          | some ⟨_, _, .fields vs, _⟩ => fileB file vs
          | _ => false) && (match K.lookup cc with
          | some ⟨_, _, .cell (some (.ref D)), _⟩ => decide (D = He.ga K x)
          | _ => false)) = true from last)
        refine ⟨oc, od, kV, doc, pm, an, cda, ct, osl, cc, p1, p2, kk, q1, q2, q3, q4, q5, q6, q7, q8, q9, q10, ?_, h3, s4, ?_, ?_⟩
        · rw [lk, h1, hdV]
          show some (⟨oc, od, .func (PySem.W.fnX "__init__" q (defArgs st) (defBody st) (defScope st) [("__class__", cc)] .none kV doc pm an (.ref cda) ct), osl⟩ : Obj) = _
          rw [s1, s2, s3]
        · split at l1
          · rename_i ccl cdd vs ccs hk
            obtain ⟨tf, e⟩ := fileB_ok l1
            exact ⟨_, _, _, _, tf, hk, e⟩
          · cases l1
        · split at l2
          · rename_i a b D c2 hk
            have e := of_decide_eq_true l2
            subst e
            exact ⟨_, _, _, hk⟩
          · cases l2
  | _ => cases last
end Hd
set_option Elab.async false
set_option linter.all false
set_option maxRecDepth 100000
set_option maxHeartbeats 0
set_option exponentiation.threshold 100000
namespace K34
open PySem PySem.Spec PyProof.Rows L2 Fa Fb
/-! ### where the defs stand, and what is asked of the written part -/
def pa (K : PySem.W.Frag) (f : Str) : Addr := He.ma K (CA K) f
def ga2 (K : PySem.W.Frag) (f : Str) : Addr := match PySem.W.recIn K (pa K f) "property" with
  | some (.ref g :: _) => g
  | _ => 0
open Hd in
def dG (x : Str) (i : Nat) : Def := { ad := fun K => He.ga K x, name := x, qual := x, st := top i }
open Hd in
def dM (m q : Str) (j : Nat) (dfl : List He.Dv := []) : Def := { ad := fun K => He.ma K (CA K) m, name := m, qual := q, st := inClass (top 29) j, dfl := dfl }
open Hd in
def dP (m q : Str) (j : Nat) : Def := { ad := fun K => ga2 K m, name := m, qual := q, st := inClass (top 29) j }
open Hd in
def dC (C : PySem.W.Frag → Addr) (m q : Str) (i j : Nat) (dfl : List He.Dv := []) : Def := { ad := fun K => He.ma K (C K) m, name := m, qual := q, st := inClass (top i) j, dfl := dfl }
open Hd in
def ds0 : List Hd.Def := [dC CA "__init__" "Amount.__init__" 29 0 [.int 1], dP "top" "Amount.top" 1, dP "bottom" "Amount.bottom" 2, dC CA "__eq__" "Amount.__eq__" 29 3 [], dC CA "__add__" "Amount.__add__" 29 4 [], dC CA "__mul__" "Amount.__mul__" 29 6 [], dC CA "__neg__" "Amount.__neg__" 29 7 [], dC CA "compare" "Amount.compare" 29 10 [], dC (fun K => He.ga K "Sheet") "__init__" "Sheet.__init__" 38 0 [], dC (fun K => He.ga K "Sheet") "_tell" "Sheet._tell" 38 1 [], dC (fun K => He.ga K "Sheet") "__contains__" "Sheet.__contains__" 38 3 [], dC (fun K => He.ga K "Sheet") "__eq__" "Sheet.__eq__" 38 4 [], dC (fun K => He.ga K "Sheet") "names" "Sheet.names" 38 5 [], dC (fun K => He.ga K "Sheet") "cues" "Sheet.cues" 38 6 [], dC (fun K => He.ga K "Sheet") "row" "Sheet.row" 38 9 [], dC (fun K => He.ga K "Sheet") "moment" "Sheet.moment" 38 13 [], dG "_law_cell" 50, dG "_law_box" 51, dG "_law_take" 52, dG "is_whole" 21]
open Hd in
def ds1 : List Hd.Def := [dG "is_amount" 30, dG "as_amount" 31, dG "has_only" 24, dG "is_name" 23, dG "is_unit" 25, dG "check_unit" 26, dG "is_listing" 22, dG "parted" 33, dG "extended" 34, dG "_law_lowest" 53, dG "check_cue" 39, dG "check_known" 41, dG "_law_added" 54, dG "_law_led" 56, dG "_law_rows" 57, dG "_law_moments" 58, dG "_law_amount" 55, dG "_law_cues" 59, dG "_law_passed" 60, dG "_law_plain" 61]
open Hd in
def ds2 : List Hd.Def := [dG "check_sheet" 40, dG "other_unit" 27, dG "exchanged" 45, dG "reversed_sheet" 46, dG "stretched" 47, dG "attached" 48, dG "unlike" 44, dG "is_alike" 43, dG "_law_times" 62, dG "_law_turned_right" 63, dG "_law_is_named" 68, dG "_law_unlike" 65, dG "_law_mixed" 64, dG "_law_alike_right" 66, dG "_law_due" 67, dG "_law_told" 69, dG "_law_start_right" 71, dG "_law_odd_right" 70, dG "law" 72, Hd.excD "InvalidInteger" "InvalidInteger.__init__" (inClass (top 6) 0)]
open Hd in
def ds3 : List Hd.Def := [Hd.excD "InvalidAmount" "InvalidAmount.__init__" (inClass (top 7) 0), Hd.excD "InvalidUnit" "InvalidUnit.__init__" (inClass (top 10) 0), Hd.excD "InvalidSheet" "InvalidSheet.__init__" (inClass (top 13) 0), Hd.excD "InvalidName" "InvalidName.__init__" (inClass (top 9) 0), Hd.excD "Duplicate" "Duplicate.__init__" (inClass (top 12) 0), Hd.excD "TooMany" "TooMany.__init__" (inClass (top 15) 0), Hd.excD "UnknownCue" "UnknownCue.__init__" (inClass (top 14) 0)]
def ds : List Hd.Def := ds0 ++ ds1 ++ ds2 ++ ds3
def gloB (K : PySem.W.Frag) (x : Str) : Bool := He.eqO (PySem.W.nsIn K mainGlobals x) (some (some (.ref (He.ga K x))))
def freeB (K : PySem.W.Frag) (x : Str) : Bool := He.eqO (PySem.W.nsIn K mainGlobals x) (some none)
def clsB (K : PySem.W.Frag) (C : Addr) : Bool := Hd.allB [PySem.W.plainGet K C Str.empty, PySem.W.hasDictIn K C, PySem.W.plainOver K C, He.eqO (PySem.W.findIn K (.ref C) "__setattr__") (some (some (.builtin "object.__setattr__"))), He.eqO (PySem.W.findIn K (.ref C) "_top") (some none), He.eqO (PySem.W.findIn K (.ref C) "_bottom") (some none),
  PySem.W.makesIn K C, He.eqO (PySem.W.findIn K (.ref C) "__init__") (some (some (.ref (He.ma K C "__init__")))), PySem.W.isFn K (.ref (He.ma K C "__init__")), PySem.W.keepIn K (.ref C), He.eqO (PySem.W.nsIn K mainGlobals "gcd") (some (some (.builtin "math.gcd"))),
  decide (PySem.W.kitOne K (.ref C) (.type "int") = some false), decide (PySem.W.kitOne K (.ref C) (.type "bool") = some false), decide (PySem.W.kitOne K (.ref C) (.ref C) = some true), tys.all fun T => decide (PySem.W.kitOne K (.type T) (.ref C) = some false),
  He.eqO (PySem.W.findIn K (.ref C) "__class__") (some (some (.builtin "object.__class__"))), He.eqO (PySem.W.specialIn K (.builtin "object.__class__") "__get__") (some (some (.builtin "getset_descriptor.__get__"))), decide (PySem.W.takesIn K (.builtin "object.__class__") = some true),
  decide (PySem.W.mroIn K C (.type "object") = some true), tys.all fun T => decide (PySem.W.subIn K (.type T) (.ref C) = some false), PySem.W.selfFirst K C]
def tyopB (K : PySem.W.Frag) (nm T : String) : Bool := (PySem.W.findIn K (.type T) (PySem.dunder nm)).isSome && (PySem.W.findIn K (.type T) (dunderR nm)).isSome
def opB (K : PySem.W.Frag) (nm : String) (m : Str) : Bool := He.eqO (PySem.W.findIn K (.ref (CA K)) (PySem.dunder nm)) (some (some (.ref (He.ma K (CA K) m)))) && (PySem.W.isFn K (.ref (He.ma K (CA K) m)) && (He.eqO (PySem.W.findIn K (.ref (CA K)) (dunderR nm)) (some none) && tys.all fun T => tyopB K nm T))
def meB (K : PySem.W.Frag) (m : Str) : Bool := He.eqO (PySem.W.findIn K (.ref (CA K)) m) (some (some (.ref (He.ma K (CA K) m)))) && (PySem.W.isFn K (.ref (He.ma K (CA K) m)) && PySem.W.keepIn K (.ref (He.ma K (CA K) m)))
def prB (K : PySem.W.Frag) (f : Str) : Bool := He.eqO (PySem.W.findIn K (.ref (CA K)) f) (some (some (.ref (pa K f)))) && (He.eqO (PySem.W.specialIn K (.ref (pa K f)) "__get__") (some (some (.builtin "property.__get__"))) && (decide (PySem.W.takesIn K (.ref (pa K f)) = some true) &&
  match PySem.W.recIn K (pa K f) "property" with
  | some (.ref g :: _) => decide (g = ga2 K f)
  | _ => false))
def sysB (K : PySem.W.Frag) : Bool := match K.lookup sysModules with
  | some ⟨_, _, .dict _ _, _⟩ => true
  | _ => false
def strsB : List Value → List Str → Bool
  | [], [] => true
  | .str x _ :: l, z :: r => decide (x = z) && strsB l r
  | _, _ => false
def tupB (K : PySem.W.Frag) (a : Addr) (zs : List Str) : Bool := match K.lookup a with
  | some ⟨.type t, _, .seq its _, _⟩ => decide (t = "tuple") && (decide (its.size ≤ sizeLine) && strsB its.toList zs)
  | _ => false
def smB (K : PySem.W.Frag) (m : Str) : Bool := He.eqO (PySem.W.findIn K (.ref (He.ga K "Sheet")) m) (some (some (.ref (He.ma K (He.ga K "Sheet") m)))) && (PySem.W.isFn K (.ref (He.ma K (He.ga K "Sheet") m)) && PySem.W.keepIn K (.ref (He.ma K (He.ga K "Sheet") m)))
def sheetB (K : PySem.W.Frag) (C : Addr) : Bool := Hd.allB [PySem.W.plainGet K C Str.empty, PySem.W.hasDictIn K C, PySem.W.plainOver K C, He.eqO (PySem.W.findIn K (.ref C) "__setattr__") (some (some (.builtin "object.__setattr__"))), He.eqO (PySem.W.findIn K (.ref C) "_cues") (some none), He.eqO (PySem.W.findIn K (.ref C) "_rows") (some none), He.eqO (PySem.W.findIn K (.ref C) "_numbers") (some none),
  PySem.W.makesIn K C, He.eqO (PySem.W.findIn K (.ref C) "__init__") (some (some (.ref (He.ma K C "__init__")))), PySem.W.isFn K (.ref (He.ma K C "__init__")), PySem.W.keepIn K (.ref C)]
def glos0 : List Str := ["law", "Amount", "Sheet", "InvalidInteger", "InvalidAmount", "InvalidUnit", "InvalidSheet", "InvalidName", "Duplicate", "TooMany", "UnknownCue", "UNITS", "_law_cell", "_law_box", "_law_take", "is_whole", "is_amount", "as_amount", "has_only", "is_name"]
def glos1 : List Str := ["is_unit", "check_unit", "is_listing", "parted", "extended", "_law_lowest", "check_cue", "check_known", "_law_added", "_law_led", "_law_rows", "_law_moments", "_law_amount", "_law_cues", "_law_passed", "_law_plain", "check_sheet", "other_unit", "exchanged", "reversed_sheet"]
def glos2 : List Str := ["stretched", "attached", "unlike", "is_alike", "_law_times", "_law_turned_right", "_law_is_named", "_law_unlike", "_law_mixed", "_law_alike_right", "_law_due", "_law_told", "_law_start_right", "_law_odd_right"]
def glos : List Str := glos0 ++ glos1 ++ glos2
def frees : List Str := ["abs", "all", "bool", "int", "isinstance", "len", "list", "max", "min", "range", "repr", "str", "tuple"]
def file : Str := PySem.Challenge.pw_anytempo_k34_sheets_turned_and_joined.main.file
def chk (K : PySem.W.Frag) : Bool := Hd.allB [glos.all (gloB K), frees.all (freeB K), clsB K (CA K), sheetB K (He.ga K "Sheet"), meB K "__eq__", He.eqO (PySem.W.findIn K (.ref (CA K)) "__ne__") (some (some (.builtin "object.__ne__"))), decide (PySem.W.subIn K (.ref (CA K)) (.type "object") = some true), opB K "add" "__add__", opB K "mul" "__mul__", He.eqO (PySem.W.findIn K (.ref (He.ga K "Sheet")) "__ne__") (some (some (.builtin "object.__ne__"))), decide (PySem.W.subIn K (.ref (He.ga K "Sheet")) (.type "object") = some true), meB K "__neg__", meB K "compare", prB K "top", prB K "bottom", smB K "_tell", smB K "__contains__", smB K "__eq__", smB K "names", smB K "cues", smB K "row", smB K "moment", decide (He.ga K "Sheet" ≠ CA K), decide (PySem.W.kitOne K (.ref (He.ga K "Sheet")) (.ref (He.ga K "Sheet")) = some true), tys.all fun T => decide (PySem.W.kitOne K (.type T) (.ref (He.ga K "Sheet")) = some false), He.eqO (PySem.W.findIn K (.ref (He.ga K "Sheet")) "__class__") (some (some (.builtin "object.__class__"))), decide (PySem.W.mroIn K (He.ga K "Sheet") (.type "object") = some true), [(He.ga K "UnknownCue", He.ga K "InvalidSheet"), (He.ga K "InvalidName", He.ga K "InvalidSheet"), (He.ga K "InvalidName", He.ga K "UnknownCue"), (He.ga K "Duplicate", He.ga K "InvalidSheet"), (He.ga K "Duplicate", He.ga K "UnknownCue"), (He.ga K "Duplicate", He.ga K "InvalidName"), (He.ga K "InvalidUnit", He.ga K "InvalidSheet"), (He.ga K "InvalidUnit", He.ga K "UnknownCue"), (He.ga K "InvalidUnit", He.ga K "InvalidName"), (He.ga K "InvalidUnit", He.ga K "Duplicate"), (He.ga K "InvalidAmount", He.ga K "InvalidSheet"), (He.ga K "InvalidAmount", He.ga K "UnknownCue"), (He.ga K "InvalidAmount", He.ga K "InvalidName"), (He.ga K "InvalidAmount", He.ga K "Duplicate"), (He.ga K "InvalidAmount", He.ga K "InvalidUnit"), (He.ga K "TooMany", He.ga K "InvalidSheet"), (He.ga K "TooMany", He.ga K "UnknownCue"), (He.ga K "TooMany", He.ga K "InvalidName"), (He.ga K "TooMany", He.ga K "Duplicate"), (He.ga K "TooMany", He.ga K "InvalidUnit"), (He.ga K "TooMany", He.ga K "InvalidAmount")].all fun p => decide (PySem.W.exmOne K (.ref p.1) (.ref p.2) = some false), sysB K, tupB K (He.ga K "UNITS") ["beats", "seconds"], (He.Fa.int "LONGEST_NAME" 8).ok K, (He.Fa.int "MOST_MOMENTS" 8).ok K, (He.Fa.str "LETTERS" LET).ok K, (He.Fa.str "DIGITS" DIG).ok K, (He.Fa.str "START" "start").ok K, Hd.excB file K "InvalidInteger" "value", Hd.excB file K "InvalidAmount" "value", Hd.excB file K "InvalidUnit" "value", Hd.excB file K "InvalidSheet" "value", Hd.excB file K "InvalidName" "value", Hd.excB file K "Duplicate" "label", Hd.excLB file K "TooMany" "most", Hd.excKB file K "UnknownCue" "label"]
end K34
set_option Elab.async false
set_option linter.all false
set_option maxRecDepth 100000
set_option maxHeartbeats 4000000
/-! As HK2's hook, the dict of sys.modules beside. -/
namespace Hd
open PySem PySem.Spec PyProof.Rows L2
def adS (g : Addr → Option Obj) (n : Nat) : List Addr := sysModules :: grow g n
def hookS (n : Nat) (ds : List Def) (chk : PySem.W.Frag → Bool) : PySem.W.Hook where
  α := Al
  obs := fun s => obsK ds chk (He.frG s.heap.get? (adS s.heap.get? n))
  val := fun _ => valK ds
  says := fun _ h => ∃ K : PySem.W.Frag, K.In h ∧ obsK ds chk K = valK ds
  of := fun _ _ e => ⟨_, He.frG_in, e⟩
  keeps := fun _ _ _ ⟨K, hK, c⟩ k => ⟨K, PySem.W.Frag.In.keeps hK k, c⟩
def obS (n : Nat) (ds : List Def) (chk : PySem.W.Frag → Bool) (s : PySem.W.SharedT) : Al := obsK ds chk (He.frG (HandSHeadRun.getT s) (adS (HandSHeadRun.getT s) n))
theorem obS_eq (n : Nat) (ds : List Def) (chk : PySem.W.Frag → Bool) (s : PySem.W.SharedT) : obS n ds chk s = (hookS n ds chk).obs s.abs := by
  have e : HandSHeadRun.getT s = s.abs.heap.get? := funext fun a => HandSHeadRun.getT_eq s a
  unfold obS
  rw [e]
  rfl
end Hd
set_option Elab.async false
set_option linter.all false
set_option maxRecDepth 100000
set_option maxHeartbeats 4000000
/-! As HK3's hook, over a list of places that is told. -/
namespace Hd
open PySem PySem.Spec PyProof.Rows L2
def hookL (as : List Addr) (ds : List Def) (chk : PySem.W.Frag → Bool) : PySem.W.Hook where
  α := Al
  obs := fun s => obsK ds chk (He.frG s.heap.get? as)
  val := fun _ => valK ds
  says := fun _ h => ∃ K : PySem.W.Frag, K.In h ∧ obsK ds chk K = valK ds
  of := fun _ _ e => ⟨_, He.frG_in, e⟩
  keeps := fun _ _ _ ⟨K, hK, c⟩ k => ⟨K, PySem.W.Frag.In.keeps hK k, c⟩
def obL (as : List Addr) (ds : List Def) (chk : PySem.W.Frag → Bool) (s : PySem.W.SharedT) : Al := obsK ds chk (He.frG (HandSHeadRun.getT s) as)
theorem obL_eq (as : List Addr) (ds : List Def) (chk : PySem.W.Frag → Bool) (s : PySem.W.SharedT) : obL as ds chk s = (hookL as ds chk).obs s.abs := by
  have e : HandSHeadRun.getT s = s.abs.heap.get? := funext fun a => HandSHeadRun.getT_eq s a
  unfold obL
  rw [e]
  rfl
end Hd
set_option Elab.async false
set_option linter.all false
set_option maxRecDepth 100000
set_option maxHeartbeats 0
namespace K34
open PySem PySem.Spec PyProof.Rows L2
def nm0 : List PySem.Str := ["_wall", "CueError", "MissingError", "StateError", "InvalidInteger", "InvalidAmount", "InvalidPart", "InvalidName", "InvalidUnit", "InvalidCue", "Duplicate", "InvalidSheet", "UnknownCue", "TooMany", "UNITS", "LETTERS", "DIGITS", "LONGEST_NAME", "is_whole", "is_listing", "is_name", "has_only", "is_unit", "check_unit", "other_unit"]
def nm1 : List PySem.Str := ["Amount", "is_amount", "as_amount", "parted", "extended", "START", "MOST_MOMENTS", "Sheet", "check_cue", "check_sheet", "check_known", "is_alike", "unlike", "exchanged", "reversed_sheet", "stretched", "attached", "_law_cell", "_law_box", "_law_take", "_law_lowest", "_law_added", "_law_amount", "_law_led", "_law_rows"]
def nm2 : List PySem.Str := ["_law_moments", "_law_cues", "_law_passed", "_law_plain", "_law_times", "_law_turned_right", "_law_mixed", "_law_unlike", "_law_alike_right", "_law_due", "_law_is_named", "_law_told", "_law_odd_right", "_law_start_right"]
def nms : List PySem.Str := nm0 ++ nm1 ++ nm2
def as0 : List Addr := [1, 3, 2, 6, 4, 49, 59, 72, 85, 107, 128, 149, 170, 191, 212, 233, 254, 275, 296, 299, 306, 313, 320, 325, 332, 339, 346, 436, 447, 454]
def as1 : List Addr := [461, 468, 595, 606, 613, 620, 627, 632, 637, 642, 647, 652, 659, 666, 673, 680, 687, 694, 701, 708, 713, 718, 723, 728, 735, 740, 745, 750, 757, 762]
def as2 : List Addr := [767, 774, 779, 786, 791, 16, 20, 22, 27, 33, 38, 0, 48, 58, 71, 84, 106, 127, 148, 169, 190, 211, 232, 253, 274, 295, 305, 312, 319, 324]
def as3 : List Addr := [331, 338, 345, 435, 446, 453, 460, 467, 594, 605, 612, 619, 626, 631, 636, 641, 646, 651, 658, 665, 672, 679, 686, 693, 700, 707, 712, 717, 722, 727]
def as4 : List Addr := [734, 739, 744, 749, 756, 761, 766, 773, 778, 785, 790, 15, 21, 26, 32, 43, 44, 45, 46, 47, 57, 60, 70, 73, 83, 86, 104, 105, 125, 126]
def as5 : List Addr := [146, 147, 167, 168, 188, 189, 209, 210, 230, 231, 251, 252, 272, 273, 293, 294, 300, 301, 302, 303, 304, 307, 308, 309, 310, 311, 314, 315, 316, 317]
def as6 : List Addr := [318, 321, 322, 323, 326, 327, 328, 329, 330, 333, 334, 335, 336, 337, 340, 341, 342, 343, 344, 361, 369, 377, 384, 391, 398, 405, 412, 419, 426, 433]
def as7 : List Addr := [434, 437, 438, 441, 442, 443, 444, 445, 448, 449, 450, 451, 452, 455, 456, 457, 458, 459, 462, 463, 464, 465, 466, 482, 489, 496, 503, 510, 515, 522]
def as8 : List Addr := [529, 536, 543, 550, 557, 564, 571, 578, 585, 592, 593, 596, 597, 600, 601, 602, 603, 604, 607, 608, 609, 610, 611, 614, 615, 616, 617, 618, 621, 622]
def as9 : List Addr := [623, 624, 625, 628, 629, 630, 633, 634, 635, 638, 639, 640, 643, 644, 645, 648, 649, 650, 653, 654, 655, 656, 657, 660, 661, 662, 663, 664, 667, 668]
def as10 : List Addr := [669, 670, 671, 674, 675, 676, 677, 678, 681, 682, 683, 684, 685, 688, 689, 690, 691, 692, 695, 696, 697, 698, 699, 702, 703, 704, 705, 706, 709, 710]
def as11 : List Addr := [711, 714, 715, 716, 719, 720, 721, 724, 725, 726, 729, 730, 731, 732, 733, 736, 737, 738, 741, 742, 743, 746, 747, 748, 751, 752, 753, 754, 755, 758]
def as12 : List Addr := [759, 760, 763, 764, 765, 768, 769, 770, 771, 772, 775, 776, 777, 780, 781, 782, 783, 784, 787, 788, 789, 17, 18, 19, 23, 24, 25, 28, 34, 35]
def as13 : List Addr := [36, 103, 92, 124, 113, 145, 134, 166, 155, 187, 176, 208, 197, 229, 218, 250, 239, 271, 260, 292, 281, 360, 354, 368, 376, 383, 390, 397, 404, 411]
def as14 : List Addr := [418, 425, 432, 481, 488, 495, 502, 509, 514, 521, 528, 535, 542, 549, 556, 563, 570, 577, 584, 591, 98, 99, 100, 101, 102, 119, 120, 121, 122, 123]
def as15 : List Addr := [140, 141, 142, 143, 144, 161, 162, 163, 164, 165, 182, 183, 184, 185, 186, 203, 204, 205, 206, 207, 224, 225, 226, 227, 228, 245, 246, 247, 248, 249]
def as16 : List Addr := [266, 267, 268, 269, 270, 287, 288, 289, 290, 291, 355, 356, 357, 358, 359, 367, 375, 378, 379, 380, 381, 382, 385, 386, 387, 388, 389, 392, 393, 394]
def as17 : List Addr := [395, 396, 399, 400, 401, 402, 403, 406, 407, 408, 409, 410, 413, 414, 415, 416, 417, 420, 421, 422, 423, 424, 427, 428, 429, 430, 431, 476, 477, 478]
def as18 : List Addr := [479, 480, 483, 484, 485, 486, 487, 490, 491, 492, 493, 494, 497, 498, 499, 500, 501, 504, 505, 506, 507, 508, 511, 512, 513, 516, 517, 518, 519, 520]
def as19 : List Addr := [523, 524, 525, 526, 527, 530, 531, 532, 533, 534, 537, 538, 539, 540, 541, 544, 545, 546, 547, 548, 551, 552, 553, 554, 555, 558, 559, 560, 561, 562]
def as20 : List Addr := [565, 566, 567, 568, 569, 572, 573, 574, 575, 576, 579, 580, 581, 582, 583, 586, 587, 588, 589, 590]
def asL : List Addr := as0 ++ as1 ++ as2 ++ as3 ++ as4 ++ as5 ++ as6 ++ as7 ++ as8 ++ as9 ++ as10 ++ as11 ++ as12 ++ as13 ++ as14 ++ as15 ++ as16 ++ as17 ++ as18 ++ as19 ++ as20
abbrev lawAt : Nat := 72
abbrev RR : PySem.W.OpenRow := PySem.W.OpenLaw.row PySem.Challenge.rw_anytempo_k34_sheets_turned_and_joined
abbrev hk : PySem.W.Hook := Hd.hookL asL ds chk
theorem run (w : World) : HandSHeadRun.RunEqI RR (PySem.W.view RR.prog [0, lawAt]) hk (Hd.obL asL ds chk) 20000 nms w := by
  unfold HandSHeadRun.RunEqI
  kernel_rfl
end K34
set_option Elab.async false
set_option linter.all false
set_option maxRecDepth 100000
set_option maxHeartbeats 4000000
set_option exponentiation.threshold 100000
namespace K34
open PySem PySem.Spec PyProof.Rows L2 Fa Fb
abbrev sLow : Stmt := top 53
theorem scLow : FnScope ["_law_top", "_law_bottom", "_law_one", "_law_other"] ["_law_top", "_law_bottom"] (defScope sLow) := ⟨rfl, rfl, rfl, by decide +kernel, rfl, by decide +kernel, by decide +kernel⟩
def spLow : Sp := fun vs H Q _ => ∃ a b : Int, vs = [.int a, .int b] ∧ b ≠ 0 ∧ b.natAbs < 2 ^ 8000 ∧ ∀ p t u, H p = none → Am.Red t u → t * b = a * u → t.natAbs ≤ a.natAbs → u.natAbs ≤ b.natAbs → Q (.ref p) (upd H p (.tup [.int t, .int u]))
section
variable {P : Program} {w : World} {K : PySem.W.Frag} {mg : Str → Option Value} {base : Heap} {f : Addr} {fd : FuncData}
theorem absI (x : Int) : (if x < 0 then -x else x) = (x.natAbs : Int) := by split <;> omega
theorem ok_low (F : FnP K "_law_lowest" sLow f fd) (mA : mg "abs" = none) : FnOk P w K mg base (L2.CX P w) 1 f fd ["_law_top", "_law_bottom"] spLow := by
  refine F.ok scLow (fun vs H Q E h => ?_) (fun cdv A outer s H vs Q E hr h => ?_)
  · obtain ⟨a, b, rfl, _⟩ := h
    rfl
  · obtain ⟨a, b, rfl, hb, hB, q⟩ := h
    refine ⟨_, pss_cons (ps_par (by rfl) scLow.nd (i := 2) (j := 3) rfl rfl (by decide) rfl rfl (pa_cons (pe_callB call_abs rfl mA (by decide +kernel) (pa_cons (pv 0) pa_nil)) (pa_cons (pe_callB call_abs rfl mA (by decide +kernel) (pa_cons (pv 1) pa_nil)) pa_nil)) (by rfl))
      (pss_cons (ps_while (passes_of rfl) (pt_cmpR op_gt (pv 3) pe_int (nomark _)) (pss_one (ps_par (by rfl) scLow.nd (i := 2) (j := 3) rfl rfl (by decide) rfl rfl (pa_cons (pv 3) (pa_cons (pe_op op_mod (pv 2) (pv 3)) pa_nil)) (by rfl))))
      (pss_cons (ps_set (i := 2) scLow.nd rfl (Or.inl rfl) (pe_ifExp (pt_cmpR op_gt (pv 1) pe_int (nomark _)) (pv 2) (pe_op op_sub pe_int (pv 2))))
      (pss_one (ps_ret (pe_tup (pa_cons (pe_op op_fdivX (pv 0) (pv 2)) (pa_cons (pe_op op_fdivX (pv 1) (pv 2)) pa_nil))))))), ?_⟩
    refine ⟨_, rfl, _, rfl, _, rfl, _, rfl, _, _, rfl, ?_⟩
    refine while_by (fun σ H' => H' = H ∧ ∃ x y : Int, σ = [some (.int a), some (.int b), some (.int x), some (.int y)] ∧ 0 ≤ x ∧ 0 ≤ y ∧ Nat.gcd x.natAbs y.natAbs = Nat.gcd a.natAbs b.natAbs)
      (fun σ _ => match σ with | [_, _, _, some (.int y)] => y.toNat | _ => 0) ⟨rfl, _, _, rfl, ?_, ?_, ?_⟩ ?_ ?_
    · split <;> omega
    · split <;> omega
    · rw [absI, absI, Int.natAbs_natCast, Int.natAbs_natCast]
    · rintro σ H' ⟨rfl, x, y, rfl, hx, hy, hg⟩
      refine ⟨_, rfl, _, _, rfl, rfl, _, rfl, ?_⟩
      by_cases c : 0 < y
      · refine if_true_of (decide_eq_true c) ?_
        refine ⟨_, rfl, _, rfl, _, rfl, _, _, rfl, rfl, c, _, _, rfl, ?_⟩
        have m0 : 0 ≤ x % y := Int.emod_nonneg _ (by omega)
        have m1 : x % y < y := Int.emod_lt_of_pos _ c
        refine ⟨⟨rfl, y, x % y, rfl, hy, m0, ?_⟩, ?_⟩
        · rw [← hg, ← Am.gcd_step (show 0 < y.natAbs by omega)]
          congr 1
          rw [Int.natAbs_emod_of_nonneg hx]
        · show (x % y).toNat < y.toNat
          omega
      · refine if_false_of (decide_eq_false c) ?_
        have y0 : y = 0 := by omega
        subst y0
        have ex : x = ((Nat.gcd a.natAbs b.natAbs : Nat) : Int) := by
          have : x.natAbs = Nat.gcd a.natAbs b.natAbs := by simpa using hg
          omega
        obtain ⟨k1, k2, k3, k4, k5, k6⟩ := Am.mk a b hb _ rfl
        have lg : (if b < 0 then -((Nat.gcd a.natAbs b.natAbs : Nat) : Int) else ((Nat.gcd a.natAbs b.natAbs : Nat) : Int)).natAbs.log2 < 9000 := Nat.lt_trans ((Nat.log2_lt (by omega)).mpr (Nat.lt_of_le_of_lt k2 hB)) (by decide)
        refine ⟨_, rfl, _, _, rfl, rfl, _, rfl, ?_⟩
        by_cases c2 : 0 < b
        · rw [if_neg (show ¬ b < 0 by omega), ← ex] at k1 k3 k4 k5 k6 lg
          refine if_true_of (decide_eq_true c2) ⟨_, rfl, _, rfl, _, rfl, _, _, rfl, rfl, ⟨k1, lg⟩, _, rfl, _, rfl, _, _, rfl, rfl, ⟨k1, lg⟩, by show 2 ≤ sizeLine; decide, fun p hp => ?_⟩
          exact q p _ _ hp k3 k4 k5 k6
        · have e0 : (0 : Int) - x = -x := by omega
          rw [if_pos (show b < 0 by omega), ← ex, ← e0] at k1 k3 k4 k5 k6 lg
          refine if_false_of (decide_eq_false c2) ⟨_, rfl, _, _, rfl, rfl, ?_⟩
          refine ⟨_, rfl, _, rfl, _, _, rfl, rfl, ⟨k1, lg⟩, _, rfl, _, rfl, _, _, rfl, rfl, ⟨k1, lg⟩, by show 2 ≤ sizeLine; decide, fun p hp => ?_⟩
          exact q p _ _ hp k3 k4 k5 k6
    · intro σ H' Q1 Q2 k h
      obtain ⟨v, h1, i, j, h2, h3, b', h4, h5⟩ := h
      exact ⟨v, h1, i, j, h2, h3, b', h4, k _ _ h5⟩
end
end K34

set_option Elab.async false
set_option linter.all false
set_option maxRecDepth 100000
set_option maxHeartbeats 4000000
/-! sep.join(reversed(a list of texts)) -/
namespace Fj
open PySem PySem.Spec PyProof.Rows PySem.Builtin PySem.Builtin.Str RT
section
variable {prog : Program} {w : World} {A : Around} {E : Value → Shared → Prop} {s : Shared}
theorem join_rev {x : Str} {t : Tok} {ys : List Str} {it l : Addr} {items : Array Value} {Q : Value → Shared → Prop} (hh : A.handled = none) (hit : s.heap.IsRevIter it l ((items.size : Int) - 1)) (hl : s.heap.IsList l items) (hne : l ≠ it) (hn : items.size ≤ sizeLine)
    (hP : ∀ acc : Array Value, ItemsOf (fun i v => items[items.size - 1 - i]? = some v) acc items.size → StrsAre acc.toList ys) (hok : (ys.map (·.length)).sum + ys.length * x.length ≤ 16777216)
    (hq : ∀ h' t' k, (∀ b o, b ≠ it → s.heap.get? b = some o → h'.get? b = some o) → Q (.str (Txt.join x ys) t') { s with heap := h', toks := k }) :
    wpAny (model prog w) A (call (.builtin "str.join") [.str x t, .ref it]) Q E s := by
  refine wpAny_call (codeAny_call_builtin F.slot_str_join.plain F.entry_str_join (F.slot_str_join.check _ _ _ _ _ _ _ _ (typeIs_str _ _ _) (F.args_str_join_2 _ _) ?_))
  have ty : s.TypeIs (.ref it) "list_reverseiterator" := hit.typeIs
  rw [join_tree_other]
  refine wpAny_bind (wpAny_typeOf ty ?_)
  show wpAny _ A.in1 ((pyIter (.ref it)).tryCatch _ >>= fun z => collect z >>= fun got => joinTail x got) _ _ s
  refine wpAny_bind (wpAny_tryCatch (wpAny_pyIter_revIter hit ?_))
  refine wpAny_bind (collect_rev (A := A.in1) hh hit hl hne hn fun h' tk acc hk hacc => ?_)
  obtain ⟨vals, hv, ht⟩ := strsAre_values (hP acc hacc)
  subst ht
  rw [hv]
  have fits := joinOk_of hok
  unfold JoinOk at fits
  rw [Bool.not_eq_true'] at fits
  have made : Gives (joinTail x (strValues vals)) (joinMade x vals) := by
    have z := gives_joinTail x vals fits
    cases vals with
    | nil => exact z
    | cons p1 rest => cases rest with
      | nil => exact z
      | cons p2 rest2 => exact z
  exact made prog w A (wants Q E) _ (post_join vals ⟨joinFit_length fits, fun t' k => hq h' t' k hk⟩)
end
end Fj
namespace Fj
open PySem PySem.Spec PyProof.Rows L2
section
variable {X : Cx}
/-- sep.join(reversed(xs)), xs a list of texts -/
def tJoinRev (K : PySem.W.Frag) (to te : TE) : TE := fun σ H Q => to σ H fun x H1 => (∃ a, x = .str a) ∧ te σ H1 fun v H2 => ∃ (a : Str) (q : Addr) (ys : List Str), x = .str a ∧ v = .ref q ∧ SqL K H2 q (ys.map V.str) ∧ (ys.map (·.length)).sum + ys.length * a.length ≤ 16777216 ∧ Q (.str (Txt.join a ys.reverse)) H2
theorem sum_rev : ∀ l : List Nat, l.reverse.sum = l.sum
  | [] => rfl
  | a :: l => by
    rw [List.reverse_cons, List.sum_append, sum_rev l, List.sum_cons, List.sum_cons, List.sum_nil]
    omega
theorem pe_joinRev {o e : Expr} {to te : TE} {apos pos p pos2 : Pos} (hc : X.calm = true) (ho : PE X o to) (hg : Gl X "reversed") (hm : X.mg "reversed" = none) (he : PE X e te)
    (hs1 : starEach [.Call (.Name "reversed" p) [e] [] pos2] X.env = [(false, eval (.Call (.Name "reversed" p) [e] [] pos2) X.env)] := by rfl) (hs : starEach [e] X.env = (false, eval e X.env) :: starEach [] X.env := by rfl)
    (hbase : attributeBase o "join" X.env (eval o X.env) = eval o X.env := by rfl) (hline : (apos.endLine == pos.line) = true := by rfl) :
    PE X (.Call (.Attribute o "join" apos) [.Call (.Name "reversed" p) [e] [] pos2] [] pos) (tJoinRev X.K to te) := by
  constructor
  intro pn s σ H Q I h
  refine PySem.Call_method1 hbase hs1 hline (thn (ho.run pn s σ H _ I h) ?_)
  rintro v s1 ⟨x, H1, I1, r1, ⟨a, rfl⟩, q1⟩
  obtain ⟨t, rfl⟩ := _root_.id r1
  refine ⟨"str", _, F.plainAttrs_str, F.slot_str_join, F.type_str_join, typeIs_str _ _ _, (fun _ e => nomatch e), Calls.callWith_builtin rfl (Calls.evalArgs_plain (Calls.spliced_cons ?_))⟩
  refine Call_ (ld_blt I1 hg hm PyProof.Rows.boot_reversed (PyProof.Rows.callWith_type1 (args_cons (thn (he.run pn s1 σ H1 _ I1 q1) fun u s2 ⟨v2, H2, I2, r2, q2⟩ => args_nil ?_) hs) hs rfl))
  obtain ⟨a', q, ys, ea, rfl, hq, fits, q3⟩ := q2
  cases ea
  cases r2
  obtain ⟨its, rv, pl, hz⟩ := I2.list hq
  refine call_reversed_list pl.isList (Calls.spliced_nil ?_)
  have keep : ∀ b o, s2.heap.get? b = some o → (s2.heap.push (revObj q ((its.toArray.size : Int) - 1))).get? b = some o := fun b o e => Heap.get?_push_of_some _ e
  have J : Inv X pn σ H2 { s2 with heap := s2.heap.push (revObj q ((its.toArray.size : Int) - 1)) } := I2.kept (t' := s2.toks) keep
  obtain ⟨f0, f1, f2, f3, f4, f5⟩ := I2.fpOk (H' := H2) (b := s2.heap.objs.size) (Nat.le_refl _) (I2.hok.fresh (Nat.le_refl _))
  have hl := pl.isList
  obtain ⟨ol, hol, _⟩ := id hl
  have ne : q ≠ s2.heap.objs.size := Nat.ne_of_lt (Heap.lt_size hol)
  have hn : its.toArray.size ≤ sizeLine := by rw [List.size_toArray, ← rv.length]; exact hz
  refine join_rev (s := { s2 with heap := s2.heap.push (revObj q ((its.toArray.size : Int) - 1)) }) (ys := ys.reverse) (I2.ok.hd hc) ⟨_, Heap.get?_push_size _ rfl, rfl, rfl⟩ (hl.push _) ne hn (fun acc hacc => ?_) ?_ fun h' t' k hk => ?_
  · have z := RT.vals_rev rv hacc
    rw [← List.map_reverse] at z
    exact strs_of_vals z
  · rw [List.map_reverse, sum_rev, List.length_reverse]
    exact fits
  · exact ⟨.str _, H2, J.turned (t' := k) (fun b o hb e => hk b o hb e) f0 f1 f3 f4 f5, ⟨t', rfl⟩, q3⟩
end
end Fj
set_option Elab.async false
set_option linter.all false
set_option maxRecDepth 100000
set_option maxHeartbeats 4000000
/-! xs != [], xs == [] of lists of any items. -/
namespace Fk
open PySem PySem.Spec PyProof.Rows L2
theorem op_neNil {X : Cx} (hu : X.A.units + 64 < cLine) : OpR X (compareOp .NotEq) (fun x y H Q => ∃ (a b : Addr) (xs : List V), x = .ref a ∧ y = .ref b ∧ SqL X.K H a xs ∧ SqL X.K H b [] ∧ Q (.bl (!xs.isEmpty)) H) := by
  intro pn s σ H x y v u Q I rx ry h
  obtain ⟨a, b, xs, rfl, rfl, ha, hb, q⟩ := h
  cases rx
  cases ry
  obtain ⟨its, rv, pl, _⟩ := I.list ha
  obtain ⟨its2, rv2, pl2, _⟩ := I.list hb
  cases rv2
  show wpAny (model X.prog X.w) X.A (richCompare .NotEq (.ref a) (.ref b)) (EP X pn σ Q) X.xe s
  have hu1 : X.A.units < cLine := by omega
  cases rv with
  | nil => exact SeqAt.RcNeAt.lists (e := fun _ => true) pl.isList pl2.isList rfl hu1 (fun j h1 _ => absurd h1 (by simp)) X.prog X.w X.xe _ ⟨.bl _, H, I, rfl, q⟩
  | cons r rs => exact SeqAt.RcNeAt.lists_lengths pl.isList pl2.isList (by simp) hu1 X.prog X.w X.xe _ ⟨.bl _, H, I, rfl, q⟩
theorem op_eqNil {X : Cx} (hu : X.A.units + 64 < cLine) : OpR X (compareOp .Eq) (fun x y H Q => ∃ (a b : Addr) (xs : List V), x = .ref a ∧ y = .ref b ∧ SqL X.K H a xs ∧ SqL X.K H b [] ∧ Q (.bl xs.isEmpty) H) := by
  intro pn s σ H x y v u Q I rx ry h
  obtain ⟨a, b, xs, rfl, rfl, ha, hb, q⟩ := h
  cases rx
  cases ry
  obtain ⟨its, rv, pl, _⟩ := I.list ha
  obtain ⟨its2, rv2, pl2, _⟩ := I.list hb
  cases rv2
  show wpAny (model X.prog X.w) X.A (richCompare .Eq (.ref a) (.ref b)) (EP X pn σ Q) X.xe s
  have hu1 : X.A.units < cLine := by omega
  cases rv with
  | nil => exact SeqAt.RcAt.lists (e := fun _ => true) pl.isList pl2.isList rfl hu1 (fun j h1 _ => absurd h1 (by simp)) X.prog X.w X.xe _ ⟨.bl _, H, I, rfl, q⟩
  | cons r rs => exact SeqAt.RcAt.lists_lengths pl.isList pl2.isList (by simp) hu1 X.prog X.w X.xe _ ⟨.bl _, H, I, rfl, q⟩
end Fk
set_option Elab.async false
set_option linter.all false
set_option maxRecDepth 100000
set_option maxHeartbeats 4000000
/-! a dict == a text: False -/
namespace Fd
open PySem PySem.SeqAt
open AutoSeq1 (wpAny_loadPart')
open MeetsSeq MeetsSeq2 MeetsSeq3 SeqRoads2
theorem dict_eq_declines_str (l : Addr) (o : Obj) (b : Str) (u : Tok) :
    Meets (Builtin.«dict.__eq__» ⟨[.ref l, .str b u], []⟩) (fun _ R s => (s.heap.get? l = some o ∧ o.cls = .type "dict" ∧ ∃ es ep, o.data = .dict es ep) ∧ R (.ok (.ret .notImplemented)) s) :=
  .of_wp fun prog w A R s h => by
    obtain ⟨hp, g, d, tk, os⟩ := s
    obtain ⟨⟨hl, hc, es, ep, hd⟩, h⟩ := h
    obtain ⟨c, dd, da, sl⟩ := o
    simp only at hc hd
    subst hc hd
    have f1 := F.sub_str_dict
    wp_walk using wpAny_loadPart' hl, wpAny_load hl
    exact ⟨_, rfl, h⟩
theorem str_eq_declines_dict (l : Addr) (o : Obj) (b : Str) (u : Tok) :
    Meets (Builtin.«str.__eq__» ⟨[.str b u, .ref l], []⟩) (fun _ R s => (s.heap.get? l = some o ∧ o.cls = .type "dict" ∧ ∃ es ep, o.data = .dict es ep) ∧ R (.ok (.ret .notImplemented)) s) :=
  .of_wp fun prog w A R s h => by
    obtain ⟨hp, g, d, tk, os⟩ := s
    obtain ⟨⟨hl, hc, es, ep, hd⟩, h⟩ := h
    obtain ⟨c, dd, da, sl⟩ := o
    simp only at hc hd
    subst hc hd
    wp_walk using wpAny_loadPart' hl, wpAny_load hl
    exact ⟨_, rfl, h⟩
end Fd
namespace Fd
open PySem PySem.Spec PyProof.Rows L2
theorem op_eqDS {X : Cx} (hu : X.A.units < cLine) : OpR X (compareOp .Eq) (fun x y H Q => ∃ a kvs z, x = .ref a ∧ y = .str z ∧ H a = some (.dK kvs) ∧ Q (.bl false) H) := by
  intro pins s σ H x y v u Q I rx ry h
  obtain ⟨a, kvs, z, rfl, rfl, ha, q⟩ := h
  cases rx
  obtain ⟨t, rfl⟩ := ry
  obtain ⟨_, h1, vs, kv, hd⟩ := dk_of I.hok ha
  obtain ⟨o, es, ep, ho, hc, hdat, _⟩ := hd
  have f : s.heap.get? a = some o ∧ o.cls = .type "dict" ∧ ∃ es ep, o.data = .dict es ep := ⟨ho, hc.1, es, ep, hdat⟩
  show wpAny (model X.prog X.w) X.A (richCompare .Eq (.ref a) (.str z t)) (EP X pins σ Q) X.xe s
  exact SeqAt.rc_eq_decline_or (k := false) ⟨_, ho, hc.1⟩ (typeIs_str s z t) (by decide) F.sub_str_dict F.slot_dict_eq F.slot_str_eq_refl
    (fun _ hq => call_meets F.slot_dict_eq ⟨_, ho, hc.1⟩ F.entry_dict_eq (F.args_dict_eq_2 _ _) (dict_eq_declines_str a o z t) ⟨f, hq⟩)
    (fun _ hq => call_meets F.slot_str_eq_refl (typeIs_str s z t) F.entry_str_eq (F.args_str_eq_2 _ _) (str_eq_declines_dict a o z t) ⟨f, hq⟩)
    (fun _ hq => wpAny_of_eq (rfl : isSame (.ref a) (.str z t) = pure false) hq) (.inr hu) ⟨.bl false, H, I, rfl, q⟩
end Fd
set_option Elab.async false
set_option linter.all false
set_option maxRecDepth 100000
set_option maxHeartbeats 4000000
/-! a != b by an own == of the class, != being object's. -/
namespace PySem.W
open PySem PySem.Spec PySem.Calls PyProof.Rows
theorem one_plain : plainId "object.__ne__" = true := by decide +kernel
theorem one_entry : entryFor table "object.__ne__" = some Builtin.«object.__ne__» := entryFor_of_fast (by kernel_rfl)
theorem one_args (a b : Value) : argsOk "object.__ne__" ⟨[a, b], []⟩ := by unfold argsOk; kernel_rfl
theorem one_bind (self : Value) : bindSpecial (.builtin "object.__ne__") self = pure (.builtin "object.__ne__", [self]) :=
  (Slot.of (T := "object") (name := "__ne__") (owner := "object") (n := "__ne__") (by rw [typeLookup_type, builtinLookup_eq_fast]; kernel_rfl) (by decide +kernel) (by decide +kernel) (by decide +kernel)
    (.inl (by decide +kernel)) (by rw [isSubtype_type]; kernel_rfl)).bind self
section
variable {prog : Program} {w : World} {A A₀ : Around} {E : Value → Shared → Prop} {s : Shared} {K : Frag} {x C L f : Addr} {h₀ : Heap} {m : Str → Option Value} {ox : Obj} {od : Option Obj} {name : Str} {b tb : Value}
theorem ifBound_B {M : Model} {args : List Value} {id : String} {Q : Option Value → Shared → Prop} (X : K.In s.heap) (I : InstAt s.heap x ox C od) (hs : findIn K (.ref C) name = some (some (.builtin id))) (hb : ∀ self, bindSpecial (.builtin id) self = pure (.builtin id, [self]))
    (h : wpAny M A (call (.builtin id) (.ref x :: args)) (fun v => Q (some v)) E s) : wpAny M A (callSpecialIfBound? (.ref x) name args) Q E s := by
  simp only [callSpecialIfBound?, bindSpecialIfBound?]
  refine wpAny_holding (wpAny_bind (wpAny_bind (wpAny_bind (I.type.here ((looks_findIn X hs).here ?_)))))
  refine wpAny_bind (wpAny_askSetting (wpAny_ite ?_))
  have fin : wpAny M A (call (.builtin id) ([.ref x] ++ args) >>= fun v => pure (some v)) Q E s := wpAny_bind (wpAny_mono h (fun v s' h' => wpAny_pure h') fun _ _ h' => h')
  split
  · exact wpAny_bind (wpAny_of_eq (hb _) (wpAny_pure (by exact fin)))
  · exact wpAny_tryCatch (wpAny_bind (wpAny_of_eq (hb _) (wpAny_pure (by exact fin))))
theorem ne_call {Q : Value → Shared → Prop} (hu : A.in1.units < cLine) (X : K.In s.heap) (I : InstAt s.heap x ox C od) (ho : subIn K (.ref C) (.type "object") = some true) (hs : findIn K (.ref C) "__eq__" = some (some (.ref f))) (hf : isFn K (.ref f) = true)
    (h : wpAny (model prog w) A.in1 (call (.ref f) [.ref x, b]) (fun v s' => ∃ k, v = .bool k ∧ Q (.bool (!k)) s') E s) : wpAny (model prog w) A (call (.builtin "object.__ne__") [.ref x, b]) Q E s := by
  refine wpAny_call (codeAny_call_builtin one_plain one_entry ?_)
  refine @check_slot (model prog w) _ _ s "object.__ne__" "object" "__ne__" (.ref x) [b] [] _ (by decide +kernel) (by decide +kernel) (I.type.andThen (looks_subIn X ho)) (one_args _ _) ?_
  unfold Builtin.«object.__ne__»
  refine wpAny_bind (wpAny_of_eq (a := ((Value.ref x : Value), [b])) (by first | rfl | (simp only [slotArgs]; rfl)) ?_)
  refine wpAny_bind (wpAny_cRoomFor hu ?_)
  refine wpAny_bind (ifBound_K X I hs hf (wpAny_mono h (fun v s' hv => ?_) fun _ _ e => e))
  obtain ⟨k, rfl, q⟩ := hv
  refine wpAny_bind (wpAny_truthy_bool ?_)
  exact wpAny_pure q
theorem ne_K {Q : Value → Shared → Prop} (hu : A.units < cLine) (hu1 : A.in1.units < cLine) (X : K.In s.heap) (I : InstAt s.heap x ox C od) (hb : Looks (model prog w) s.heap (typeOf b) tb) (hn : notFirst K C tb = true)
    (hne : findIn K (.ref C) "__ne__" = some (some (.builtin "object.__ne__"))) (ho : subIn K (.ref C) (.type "object") = some true) (hs : findIn K (.ref C) "__eq__" = some (some (.ref f))) (hf : isFn K (.ref f) = true)
    (h : wpAny (model prog w) A.in1 (call (.ref f) [.ref x, b]) (fun v s' => ∃ k, v = .bool k ∧ Q (.bool (!k)) s') E s) : wpAny (model prog w) A (richCompare .NotEq (.ref x) b) Q E s := by
  have one : wpAny (model prog w) A (tryCompare (.ref x) (cmpInfo .NotEq).2.1 b) (fun r s' => ∃ v, r = some v ∧ Q v s') E s := by
    unfold tryCompare
    have two : wpAny (model prog w) A (call (.builtin "object.__ne__") [.ref x, b]) (fun v s' => ∃ k, v = .bool k ∧ Q v s') E s := ne_call hu1 X I ho hs hf (wpAny_mono h (fun v s' hv => by
      obtain ⟨k, rfl, q⟩ := hv
      exact ⟨k, rfl, _, rfl, q⟩) fun _ _ e => e)
    refine wpAny_bind (ifBound_B X I hne one_bind (wpAny_mono two (fun v s' hv => ?_) fun _ _ e => e))
    obtain ⟨k, rfl, q⟩ := hv
    exact wpAny_pure ⟨_, rfl, q⟩
  unfold richCompare
  simp only [oneThing_ref]
  refine wpAny_holding (wpAny_bind (wpAny_cRoomFor hu ?_))
  refine wpAny_bind (I.type.here (wpAny_bind (hb.here ?_)))
  split
  · rename_i q
    have e : subIn K tb (.ref C) = some false := by
      rcases Bool.or_eq_true_iff.mp hn with e | e
      · rw [beq_iff_eq.mp e] at q; simp at q
      · exact beq_iff_eq.mp e
    refine wpAny_bind ((looks_subIn X e).here ?_)
    simp only [Bool.false_eq_true, if_false]
    refine wpAny_bind (wpAny_mono one (fun r s' z => ?_) fun _ _ e => e)
    obtain ⟨v, rfl, hq⟩ := z
    exact wpAny_pure hq
  · refine wpAny_bind (wpAny_pure ?_)
    simp only [Bool.false_eq_true, if_false]
    refine wpAny_bind (wpAny_mono one (fun r s' z => ?_) fun _ _ e => e)
    obtain ⟨v, rfl, hq⟩ := z
    exact wpAny_pure hq
end
end PySem.W
namespace Fn
open PySem PySem.Spec PyProof.Rows L2
section
variable {X : Cx} {CX : CXT} {k : Nat} {f C : Addr} {fd : FuncData} {ps : List Str} {sp : Sp} {E : L2.St → XK} {a b : Expr} {ta tb : TE} {pos p : Pos}
/-- a != b, a an instance, by its own == -/
theorem pe_neX (at_ : PySem.W.findIn X.K (.ref C) "__eq__" = some (some (.ref f))) (fn : PySem.W.isFn X.K (.ref f) = true) (hne : PySem.W.findIn X.K (.ref C) "__ne__" = some (some (.builtin "object.__ne__"))) (ho : PySem.W.subIn X.K (.ref C) (.type "object") = some true)
    (F : FnOk X.prog X.w X.K X.mg X.base CX k f fd ps sp) (hr : Room (k + 2) X.A) (hb : Binds X.K fd ps []) (hx : ∀ σ, PassesAt CX X σ (E σ)) (ha : PE X a ta) (hb2 : PE X b tb) :
    PC X .NotEq a b (fun σ H Q => ta σ H fun x H1 => tb σ H1 fun y H2 => ∃ p dx fs, x = .ref p ∧ H2 p = some (.ins C dx fs) ∧ ((∃ q dy gs, y = .ref q ∧ H2 q = some (.ins C dy gs)) ∨ ∃ T, TyX X.K H2 y (.type T) ∧ PySem.W.subIn X.K (.type T) (.ref C) = some false) ∧
      sp [x, y] H2 (fun v H3 => ∃ k : Bool, v = .bl k ∧ Q (.bl (!k)) H3) (E σ)) := by
  refine ⟨fun pins s σ H Q I h => ?_⟩
  refine bin ha hb2 I h fun v u s2 x y H2 I2 rx ry q => ?_
  obtain ⟨p, dx, fs, ex, hp, rk, q⟩ := q
  subst ex
  obtain rfl : v = Value.ref p := rx
  obtain ⟨mA, O, _⟩ := ins_get I2.hok hp
  obtain ⟨od, J, _⟩ := O.look
  have hr2 : Room k X.A.in1 := (show Room (k + 1) X.A.in1 from Room.in1 hr).mono (Nat.le_succ _)
  have hl : ([V.ref p, y]).length = ps.length := F.len _ _ _ _ q
  have go : wpAny (model X.prog X.w) X.A.in1 (call (.ref f) [.ref p, u]) (fun v s' => ∃ k, v = .bool k ∧ EP X pins σ Q (.bool (!k)) s') X.xe s2 := by
    refine wpAny_call (codeAny_mono (F.run X.A.in1 X.stack s2 H2 ⟨[.ref p, u], []⟩ [.ref p, u] [.ref p, y] _ (E σ) hr2 I2.env0.in1 (by
      have z := hb s2 [.ref p, u] I2.kIn (by simpa using hl)
      simpa using z) (.cons rfl (.cons ry .nil)) q) fun r s' hq => ?_)
    cases r with
    | error e => exact hx σ pins H2 s2 e s' I2 hq
    | ok fl =>
      cases fl with
      | ret u =>
        obtain ⟨z, H', I', rz, kk, ez, q2⟩ := I2.after hq
        subst ez
        cases rz
        exact ⟨kk, rfl, .bl (!kk), H', I', rfl, q2⟩
      | next => exact False.elim hq
      | brk => exact False.elim hq
      | cont => exact False.elim hq
  obtain ⟨m, hF⟩ := I2.fr
  have u1 : X.A.in1.units < cLine := (Room.in1 (show Room (k + 1 + 1) X.A from hr)).units0
  rcases rk with ⟨q', dy, gs, ey, hq'⟩ | ⟨T, ty, h3⟩
  · subst ey
    obtain rfl : u = Value.ref q' := ry
    obtain ⟨mB, O', _⟩ := ins_get I2.hok hq'
    obtain ⟨od', J', _⟩ := O'.look
    exact PySem.W.ne_K (tb := .ref C) hr.units0 u1 I2.kIn J J'.type (by simp [PySem.W.notFirst]) hne ho at_ fn go
  · obtain ⟨P, Z, hP, _⟩ := kit_of I2 ry ty
    exact PySem.W.ne_K (tb := .type T) hr.units0 u1 I2.kIn J (fun A Q E s k z => Z.ty _ _ I2.kIn hP A Q E s k z) (by simp [PySem.W.notFirst, h3]) hne ho at_ fn go
end
end Fn
set_option Elab.async false
set_option linter.all false
set_option maxRecDepth 100000
set_option maxHeartbeats 4000000
/-! enumerate(tuple) -/
namespace PySem
open Sem (wp)
open AutoSeq1 (wpAny_loadPart')
theorem meets_enumerate_newT (l : Addr) (items : Array Value) (n : Nat) (dct : Option Addr) (sl : Array (Option Value)) :
    Meets (Builtin.«enumerate.__new__» ⟨[.type "enumerate", .ref l], []⟩) (fun _ R s => s.heap.get? l = some { cls := .type "tuple", dict := dct, data := .seq items n, slots := sl } ∧
      R (.ok (.ret (.ref (s.heap.push { cls := .type "tuple_iterator", data := .fields #[.ref l, .int 0 0] }).objs.size)))
        { s with heap := (s.heap.push { cls := .type "tuple_iterator", data := .fields #[.ref l, .int 0 0] }).push { cls := .type "enumerate", data := .fields #[.none, .bool false, .ref s.heap.objs.size, rawInt 0, .none, .none] } }) :=
  .of_wp fun prog w A R s h => by
    obtain ⟨hp, g, d, tk, os⟩ := s; obtain ⟨hl, h⟩ := h
    have hsub := sub_enumerate
    have hL : Heap.IsTuple (Shared.heap ⟨hp, g, d, tk, os⟩) l items := ⟨_, hl, rfl, n, rfl⟩
    wp_walk using wpAny_loadPart' hl
    refine wpAny_stack_any fun st => wpAny_pure ?_
    split
    · rename_i c _ _ _ _ _
      cases (c == Value.type "enumerate")
      · wp_walk using wpAny_loadPart' hl, wpAny_pyIter_tuple hL
        exact ⟨_, rfl, h⟩
      · wp_walk using wpAny_loadPart' hl, wpAny_pyIter_tuple hL
        exact ⟨_, rfl, h⟩
    · wp_walk using wpAny_loadPart' hl, wpAny_pyIter_tuple hL
      exact ⟨_, rfl, h⟩
section
variable {prog : Program} {w : World} {A : Around} {E : Value → Shared → Prop} {s : Shared}
theorem call_enumerate_tuple {l : Addr} {items : Array Value} {Q : Value → Shared → Prop} (hL : s.heap.IsTuple l items)
    (h : ∀ h', IsEnum h' (s.heap.objs.size + 1) s.heap.objs.size 0 .none → h'.IsTupleIter s.heap.objs.size l 0 → h'.objs.size = s.heap.objs.size + 2 →
      (∀ b o, s.heap.get? b = some o → h'.get? b = some o) → Q (.ref (s.heap.objs.size + 1)) { s with heap := h' }) :
    wpAny (model prog w) A (call (.type "enumerate") [.ref l]) Q E s := by
  obtain ⟨⟨c, dct, dt, sl⟩, hl, hc, n, hd⟩ := hL
  replace hc : c = .type "tuple" := hc
  replace hd : dt = .seq items n := hd
  subst hc hd
  refine callType_new F.called_enumerate (by decide) (F.typeCall_enumerate_1 _) (F.newCall_enumerate_1 _) (fun obj => F.args_object_init_2 obj _) F.entry_enumerate_new
    (meets_enumerate_newT l items n dct sl) ⟨hl, ?_⟩
  have hz : (s.heap.push { cls := .type "tuple_iterator", data := .fields #[.ref l, .int 0 0] }).objs.size = s.heap.objs.size + 1 := Heap.size_push ..
  show _ ∧ _
  rw [hz]
  have he : IsEnum ((s.heap.push { cls := .type "tuple_iterator", data := .fields #[.ref l, .int 0 0] }).push
      { cls := .type "enumerate", data := .fields #[.none, .bool false, .ref s.heap.objs.size, rawInt 0, .none, .none] }) (s.heap.objs.size + 1) s.heap.objs.size 0 .none := by
    have := Heap.get?_push_size (s.heap.push { cls := .type "tuple_iterator", data := .fields #[.ref l, .int 0 0] })
      (o := { cls := .type "enumerate", data := .fields #[.none, .bool false, .ref s.heap.objs.size, rawInt 0, .none, .none] }) rfl
    rw [hz] at this; exact this
  refine ⟨⟨_, he, rfl⟩, h _ he ⟨_, Heap.get?_push_of_some _ (Heap.get?_push_size _ rfl), rfl, rfl⟩ (by rw [Heap.size_push, hz]) fun b o x => Heap.get?_push_of_some _ (Heap.get?_push_of_some _ x)⟩
end
end PySem
namespace Fp
open PySem PySem.Spec PyProof.Rows L2
def IteT (K : PySem.W.Frag) (a : Addr) : It :=
  ⟨fun i H => ∃ (xs : List V) (x : V), SqT K H a xs ∧ xs[i]? = some x, fun i H v H' => ∃ T x, v = .ref T ∧ H T = none ∧ H' = upd H T (.tup [.int (i : Nat), x]) ∧ ∀ xs, SqT K H a xs → xs[i]? = some x, fun i H => ∃ xs : List V, SqT K H a xs ∧ xs.length ≤ i⟩
theorem turn_enumT {P : Program} {w : World} {K : PySem.W.Frag} {elts : List Expr} {kk : Nat} {tpos : Pos} (a e it : Addr) (hna : a ≠ it) (hne0 : a ≠ e) :
    Turn P w K (.Tuple elts kk tpos) (IteT K a) [e, it] e (fun i h => (∃ old, IsEnum h e it ((i : Nat) : Int) old) ∧ h.IsTupleIter it a i ∧ e ≠ it) where
  mem := by simp
  obj := fun i h st b hb => by
    obtain ⟨⟨old, he⟩, ⟨o, ho, hc, hd⟩, _⟩ := st
    have e' : b = e ∨ b = it := by simpa using hb
    rcases e' with z | z
    · rw [z]; exact ⟨_, he, fun v q => nomatch q⟩
    · rw [z]; exact ⟨o, ho, fun v q => by rw [hd] at q; cases q⟩
  keep := fun i h h' st k => let ⟨⟨old, he⟩, hi, hne⟩ := st; ⟨⟨old, k e (by simp) _ he⟩, hi.at fun o q => k it (by simp) o q, hne⟩
  item := by
    intro X hP hw hK hc i pins s σ H E I hf st hg
    subst hP hw hK
    obtain ⟨⟨old, he⟩, hit, hne⟩ := st
    obtain ⟨xs, x, hq, hx⟩ := hg
    obtain ⟨its, rv, p, hz⟩ := I.tuple hq
    obtain ⟨u, hu, ru⟩ := rv.get hx
    have hel : e < s.heap.objs.size := Heap.lt_size he
    have hil : it < s.heap.objs.size := by obtain ⟨_, q, _⟩ := hit; exact Heap.lt_size q
    have hi : i < its.toArray.size := by
      rw [List.size_toArray]
      exact (List.getElem?_eq_some_iff.mp hu).1
    have D := Draws.tuple (prog := X.prog) (w := X.w) (A := X.A.in1) (show X.A.in1.handled = none from I.ok.hd hc) it a hna its.toArray
    refine wpAny_pyNext_enum_itemD D he ⟨hit, p⟩ hi hne (by simp [hne, Ne.symm hne0]) fun x0 h' tk hP0 ho hit' hT hsz hk => ?_
    have hxu : x0 = u := by
      rw [show its.toArray[i]? = some u by simpa using hu] at hP0
      exact (Option.some.inj hP0).symm
    subst hxu
    refine ⟨_, rfl, wpAny_letOwnedTupleGo_enum (s := { s with heap := h', toks := tk + 1 }) ho fun h'' he' sb => ?_⟩
    have hT2 : h''.get? s.heap.objs.size = some { cls := .type "tuple", data := .seq #[.int i tk, x0] } := (sb.2 _ (Nat.ne_of_gt hel)).trans hT
    have new : ObjOk X.prog X.w (upd H s.heap.objs.size (.tup [.int (i : Nat), x])) h'' s.heap.objs.size (.tup [.int (i : Nat), x]) :=
      ⟨by show 2 ≤ sizeLine; decide, [.int i tk, x0], .cons ⟨_, rfl⟩ (.cons ru .nil), ⟨_, hT2, rfl, _, rfl⟩⟩
    have I1 : Inv X pins σ (upd H s.heap.objs.size (.tup [.int (i : Nat), x])) { s with heap := h'', toks := tk + 1 } :=
      I.turnedNew (ch := [e, it]) (fun b ob hb q => (sb.2 b (fun z => hb (by simp [z]))).trans (hk b ob (fun z => hb (by simp [z])) (fun z => hb (by simp [z])) q)) hf (Nat.le_refl _) new
    refine ⟨.ref s.heap.objs.size, _, I1, rfl, ⟨_, x, rfl, I.hok.fresh (Nat.le_refl _), rfl, fun ys hy => by rw [I.tuple_inj hy hq]; exact hx⟩, ⟨⟨x0, ?_⟩, hit'.1.at fun o q => (sb.2 it (Ne.symm hne)).trans q, hne⟩, fun b hb => ?_⟩
    · have e1 : ((i + 1 : Nat) : Int) = (i : Int) + 1 := by omega
      rw [e1]; exact he'
    · have hb' : b < s.heap.objs.size := by
        have e' : b = e ∨ b = it := by simpa using hb
        rcases e' with z | z
        · rw [z]; exact hel
        · rw [z]; exact hil
      rw [upd_ne (Nat.ne_of_lt hb')]
      exact (hf b hb).1
  done := by
    intro X hP hw hK hc i pins s σ H E I hf st hg
    subst hP hw hK
    obtain ⟨⟨old, he⟩, hit, hne⟩ := st
    obtain ⟨xs, hq, hx⟩ := hg
    obtain ⟨its, rv, p, hz⟩ := I.tuple hq
    obtain ⟨f0, f1, f2, f3, f4, f5⟩ := hf it (by simp)
    have hl := rv.length
    have hT : s.TypeIs (.ref e) "enumerate" := ⟨_, he, rfl⟩
    unfold pyNext
    refine wpAny_bind (wpAny_attempt (wpAny_callSpecial?_slot (name := Str.ofString "__next__") hT F.slot_enumerate_next
      (wpAny_call_entry F.slot_enumerate_next hT F.entry_enumerate_next ?_ (F.args_enumerate_next_1 _))))
    show wpAny _ _ (field (.ref e) 2 >>= _) _ _ _
    refine wpAny_bind (wpAny_field he rfl (x := .ref it) rfl ?_)
    refine wpAny_bind (wpAny_nextOf_tuple_end (show X.A.in1.handled = none from I.ok.hd hc) hit p (by simp; omega) fun h' x he' hx' => ?_)
    obtain ⟨o, ho, hc'⟩ := hx'
    refine wpAny_bind (wpAny_isInstance (T := "StopIteration") (b := true) ⟨o, ho, hc'⟩ isSubtype_stop ?_)
    exact wpAny_pure ⟨rfl, I.turned (t' := s.toks) (fun b o hb q => he' b o hb q) f0 f1 f3 f4 f5⟩
  self := fun A i s Q E st h => let ⟨⟨_, he⟩, _⟩ := st; wpAny_pyIter_enum he h
def iEnumT (K : PySem.W.Frag) (ta : TA) : TI := fun σ H R => ta σ H fun vs H1 => ∃ a xs, vs = [.ref a] ∧ SqT K H1 a xs ∧ R (IteT K a) H1
theorem pi_enumT {X : Cx} {e : Expr} {ta : TA} {p pos tpos : Pos} {elts : List Expr} {kk : Nat} (hg : Gl X "enumerate") (hm : X.mg "enumerate" = none) (ha : PA X [e] ta) (hs : starEach [e] X.env = [(false, eval e X.env)] := by rfl) :
    PI X (.Tuple elts kk tpos) (.Call (.Name "enumerate" p) [e] [] pos) (iEnumT X.K ta) := by
  refine ⟨fun pins s σ H R I h => ?_⟩
  refine Call_ (ld_blt I hg hm boot_enumerate (PyProof.Rows.callWith_type1 (thn (ha.run pos pins s σ H _ I h) fun us s1 ⟨vs, H1, I1, r1, q1⟩ => ?_) hs rfl))
  obtain ⟨a, xs, ex, hq, q⟩ := q1
  subst ex
  cases r1 with
  | cons r rr =>
    cases rr
    cases r
    obtain ⟨its, rv, p', hz⟩ := I1.tuple hq
    have hal : a < s1.heap.objs.size := by
      obtain ⟨o, ho, _⟩ := id p'
      exact Heap.lt_size ho
    refine call_enumerate_tuple p' fun h' he hit hsz hk => wpAny_pyIter_enum he ?_
    have I2 : Inv X pins σ H1 { s1 with heap := h' } := I1.kept (t' := s1.toks) hk
    refine ⟨s1.heap.objs.size + 1, [s1.heap.objs.size + 1, s1.heap.objs.size], _, _, H1, rfl, I2, turn_enumT a (s1.heap.objs.size + 1) s1.heap.objs.size (Nat.ne_of_lt hal) (Nat.ne_of_lt (Nat.lt_succ_of_lt hal)), ⟨⟨.none, he⟩, hit, Nat.succ_ne_self _⟩, fun b hb => ?_, q⟩
    have e' : b = s1.heap.objs.size + 1 ∨ b = s1.heap.objs.size := by simpa using hb
    have hle : s1.heap.objs.size ≤ b := by
      rcases e' with z | z
      · rw [z]; exact Nat.le_add_right _ _
      · rw [z]; exact Nat.le_refl _
    exact I1.fpOk hle (I1.hok.fresh hle)
/-- one of two walks -/
theorem pi_or {X : Cx} {tg it : Expr} {w1 w2 : TI} (h1 : PI X tg it w1) (h2 : PI X tg it w2) : PI X tg it (fun σ H R => w1 σ H R ∨ w2 σ H R) :=
  ⟨fun pins s σ H R I h => h.elim (h1.run pins s σ H R I) (h2.run pins s σ H R I)⟩
end Fp
set_option Elab.async false
set_option linter.all false
set_option maxRecDepth 100000
set_option maxHeartbeats 1000000
set_option exponentiation.threshold 100000
namespace K34
open PySem PySem.Spec PyProof.Rows L2 Fa Fb
theorem IsA.mono {K : PySem.W.Frag} {H : Hp} {x : V} {t u : Int} {n m : Nat} (h : IsA K H x t u n) (e : n ≤ m) : IsA K H x t u m := by
  obtain ⟨p, dx, h1, h2, h3, h4, h5⟩ := h
  exact ⟨p, dx, h1, h2, h3, pow_step h4 e, pow_step h5 e⟩
abbrev gFl (K : PySem.W.Frag) (i : Nat) (f : Str) : TE := tFld K (tVar i) f
/-- a two-place operation: num and den are the fraction that is due -/
def spOp (K : PySem.W.Frag) (num den : Int → Int → Int → Int → Int) : Sp := fun vs H Q E => ∃ x y t u n, vs = [x, y] ∧ IsA K H x t u n ∧ ((Bad K H y ∧ Err (CV K) y H E) ∨ ∃ t2 u2 m, Arg K H y t2 u2 m ∧ n + m < 7000 ∧
  ∀ z H' t' u', Same H H' → IsA K H' z t' u' (n + m + 1) → t' * den t u t2 u2 = num t u t2 u2 * u' → Q z H')
abbrev sAdd : Stmt := inClass (top 29) 4
theorem scAdd : FnScope ["self", "other", "right"] ["self", "other"] (defScope sAdd) := ⟨rfl, rfl, rfl, by decide +kernel, rfl, by decide +kernel, by decide +kernel⟩
section
variable {P : Program} {w : World} {K : PySem.W.Frag} {mg : Str → Option Value} {base : Heap} {f fS : Addr} {fd fdS fdI : FuncData} {qv tv : Str} {fV : Addr}

theorem ok_add (F : FunD K "__add__" "Amount.__add__" (defArgs sAdd) (defBody sAdd) (defScope sAdd) [] [] f fd) (T : AF K mg) (GS : FnOk P w K mg base (L2.CX P w) 6 fS fdS ["value"] (spAs K)) (gS : mg "as_amount" = some (.ref fS)) (kS : PySem.W.keepIn K (.ref fS) = true) (bS : Binds K fdS ["value"] [])
    (GI : FnOk P w K mg base (L2.CX P w) 4 (aI K) fdI ["self", "top", "bottom"] (spInit K)) (bI : Binds K fdI ["self", "top", "bottom"] []) : FnOk P w K mg base (L2.CX P w) 7 f fd ["self", "other"] (spOp K (fun t u t2 u2 => t * u2 + t2 * u) (fun _ u _ u2 => u * u2)) := by
  refine F.ok scAdd (fun vs H Q E h => ?_) (fun cdv A outer s H vs Q E hr h => ?_)
  · obtain ⟨x, y, t, u, n, rfl, _⟩ := h
    rfl
  · obtain ⟨x, y, t, u, n, rfl, ix, q⟩ := h
    have hr1 := hr.mono (show 5 ≤ 6 by decide)
    refine ⟨_, pss_cons (ps_set (i := 2) scAdd.nd rfl (Or.inl rfl) (pe_callS GS hr rfl gS kS bS (fun σ => passAt (W := fun cls d _ H => E cls d H) (takes_of rfl rfl rfl rfl) σ) (pa_cons (pv 1) pa_nil)))
      (pss_one (ps_ret (pe_make T.mkA GI hr1 rfl T.g bI .nil passL (pa_cons (pe_op op_add (pe_op op_mulW (pe_fld (pv 0) rfl) (pe_fld (pv 2) rfl)) (pe_op op_mulW (pe_fld (pv 2) rfl) (pe_fld (pv 0) rfl))) (pa_cons (pe_op op_mulW (pe_fld (pv 0) rfl) (pe_fld (pv 2) rfl)) pa_nil))))), ?_⟩
    refine ⟨_, rfl, y, rfl, ?_⟩
    rcases q with ⟨hb, er⟩ | ⟨t2, u2, m, ar, hnm, q⟩
    · exact .inl ⟨hb, er⟩
    · refine .inr ⟨t2, u2, m, ar, fun z H' sm iz => ?_⟩
      have ix' := ix.same sm
      obtain ⟨p, dx, rfl, hp, r, b1, b2⟩ := id ix'
      obtain ⟨p2, dx2, rfl, hp2, r2, b3, b4⟩ := id iz
      refine ⟨_, rfl, p, CA K, dx, _, _, rfl, hp, T.cl, T.noT, fl_top _ _, ?_⟩
      refine ⟨_, rfl, p2, CA K, dx2, _, _, rfl, hp2, T.cl, T.noB, fl_bot _ _, ?_⟩
      refine ⟨_, _, rfl, rfl, mulW_of b1 b4 (by omega), ?_⟩
      refine ⟨_, rfl, p2, CA K, dx2, _, _, rfl, hp2, T.cl, T.noT, fl_top _ _, ?_⟩
      refine ⟨_, rfl, p, CA K, dx, _, _, rfl, hp, T.cl, T.noB, fl_bot _ _, ?_⟩
      refine ⟨_, _, rfl, rfl, mulW_of b3 b2 (by omega), _, _, rfl, rfl, ?_⟩
      refine ⟨_, rfl, p, CA K, dx, _, _, rfl, hp, T.cl, T.noB, fl_bot _ _, ?_⟩
      refine ⟨_, rfl, p2, CA K, dx2, _, _, rfl, hp2, T.cl, T.noB, fl_bot _ _, ?_⟩
      refine ⟨_, _, rfl, rfl, mulW_of b2 b4 (by omega), ?_⟩
      have hu : u * u2 ≠ 0 := Int.mul_ne_zero (by have := r.1; omega) (by have := r2.1; omega)
      refine make_read T (n := n + m + 1) hu (by omega) ?_ ?_ fun y' H2 t' u' s2 i2 e => q y' H2 t' u' (sm.trans s2) i2 e
      · exact abs_add_lt (abs_mul_lt b1 b4) (by rw [Nat.add_comm]; exact abs_mul_lt b3 b2)
      · exact pow_step (abs_mul_lt b2 b4) (by omega)

end
structure OpF (K : PySem.W.Frag) (nm : String) (f : Addr) : Prop where
  own : OwnOp K (CA K) nm f
  ty : ∀ T ∈ tys, TyOp K (CA K) nm T
theorem OpF.arg {K : PySem.W.Frag} {nm : String} {f : Addr} (o : OpF K nm f) {H : Hp} {x : V} {t u : Int} {n : Nat} (h : Arg K H x t u n) : RK K (CA K) nm H x := by
  rcases h with ⟨p, dx, e, hp, _⟩ | ⟨e, _⟩
  · exact .inl ⟨p, dx, _, e, hp⟩
  · rw [e]
    exact .inr ⟨"int", .base (.int t), o.ty "int" (by simp [tys])⟩
structure Fn (P : Program) (w : World) (K : PySem.W.Frag) (mg : Str → Option Value) (base : Heap) (x : Str) (lev : Nat) (ps : List Str) (sp : Sp) (f : Addr) (fd : FuncData) : Prop where
  ok : FnOk P w K mg base (L2.CX P w) lev f fd ps sp
  g : mg x = some (.ref f)
  k : PySem.W.keepIn K (.ref f) = true
  b : Binds K fd ps []
structure OpK (P : Program) (w : World) (K : PySem.W.Frag) (mg : Str → Option Value) (base : Heap) (nm : String) (lev : Nat) (sp : Sp) (f : Addr) (fd : FuncData) : Prop where
  op : OpF K nm f
  ok : FnOk P w K mg base (L2.CX P w) lev f fd ["self", "other"] sp
  b : Binds K fd ["self", "other"] []
structure MeK (P : Program) (w : World) (K : PySem.W.Frag) (mg : Str → Option Value) (base : Heap) (m : Str) (lev : Nat) (sp : Sp) (f : Addr) (fd : FuncData) : Prop where
  me : Meth K (CA K) m f
  ok : FnOk P w K mg base (L2.CX P w) lev f fd ["self", "other"] sp
  b : Binds K fd ["self", "other"] []
abbrev spAdd (K : PySem.W.Frag) : Sp := spOp K (fun t u t2 u2 => t * u2 + t2 * u) (fun _ u _ u2 => u * u2)
theorem passS {X : Cx} (σ : L2.St) : PassesAt (L2.CX X.prog X.w) X σ ((fun _ => E0 : L2.St → XK) σ) := fun pins H s e s' i c => passL pins σ H s e s' i c
structure EqK (P : Program) (w : World) (K : PySem.W.Frag) (mg : Str → Option Value) (base : Heap) (f : Addr) (fd : FuncData) : Prop where
  at_ : PySem.W.findIn K (.ref (CA K)) "__eq__" = some (some (.ref f))
  fn : PySem.W.isFn K (.ref f) = true
  ok : FnOk P w K mg base (L2.CX P w) 1 f fd ["self", "other"] (spEq K)
  b : Binds K fd ["self", "other"] []
  ne : PySem.W.findIn K (.ref (CA K)) "__ne__" = some (some (.builtin "object.__ne__"))
  ob : PySem.W.subIn K (.ref (CA K)) (.type "object") = some true
theorem pss_imp {X : Cx} {b : List Stmt} {u S : TS} (h : PSs X b u) (k : ∀ D σ H, S D σ H → u D σ H) : PSs X b S := ⟨fun pn s σ H D I z => h.run pn s σ H D I (k D σ H z)⟩
def spLs (K : PySem.W.Frag) : Sp := fun vs H Q _ => ∃ x t b, vs = [x] ∧ (∀ J, Same H J → TyX K J x t) ∧ PySem.W.kitAny K t [.type "list", .type "tuple"] = some b ∧ ∀ H', Same H H' → Q (.bl b) H'
abbrev sLs : Stmt := top 22
theorem scLs : FnScope ["value"] ["value"] (defScope sLs) := ⟨rfl, rfl, rfl, by decide +kernel, rfl, by decide +kernel, by decide +kernel⟩
section
variable {P : Program} {w : World} {K : PySem.W.Frag} {mg : Str → Option Value} {base : Heap} {f fC fD fA fS fM fE : Addr} {fd fdC fdD fdA fdS fdM fdE fdI : FuncData}
theorem ok_ls (F : FnP K "is_listing" sLs f fd) (T : AF K mg) (mLi : mg "list" = none) (mTu : mg "tuple" = none) : FnOk P w K mg base (L2.CX P w) 1 f fd ["value"] (spLs K) := by
  refine F.ok scLs (fun vs H Q E h => ?_) (fun cdv A outer s H vs Q E hr h => ?_)
  · obtain ⟨x, t, b, rfl, _⟩ := h
    rfl
  · obtain ⟨x, t, b, rfl, ty, kt, q⟩ := h
    refine ⟨_, pss_one (ps_ret (pe_callB call_isiT rfl T.isi (by decide +kernel) (pa_cons (pv 0) (pa_cons (pe_tup (pa_cons (pe_ty mLi (by decide +kernel : bootBuiltins "list" = some (.type "list"))) (pa_cons (pe_ty mTu (by decide +kernel : bootBuiltins "tuple" = some (.type "tuple"))) pa_nil))) pa_nil)))), ?_⟩
    refine ⟨_, rfl, by show 2 ≤ sizeLine; decide, fun tp htp => ?_⟩
    exact ⟨x, tp, _, t, [.type "list", .type "tuple"], b, rfl, upd_same, .cons (.ty _) (.cons (.ty _) .nil), ty _ (Same.upd htp), kt, q _ (Same.upd htp)⟩
end
def Kp (p : Addr) (H H' : Hp) : Prop := ∀ q o, q ≠ p → H q = some o → H' q = some o
theorem Kp.refl (p : Addr) (H : Hp) : Kp p H H := fun _ _ _ h => h
theorem Kp.trans {p : Addr} {H H1 H2 : Hp} (a : Kp p H H1) (b : Kp p H1 H2) : Kp p H H2 := fun q o n h => b q o n (a q o n h)
theorem Kp.but {p : Addr} {H H' : Hp} (h : But p H H') : Kp p H H' := fun q o n z => by rw [h q n]; exact z
theorem Kp.same {p : Addr} {H H' : Hp} (h : Same H H') : Kp p H H' := fun q o _ z => h q o z
theorem Kp.no {p D : Addr} {H H1 : Hp} (k : Kp p H H1) (ne : D ≠ p) (h : H1 D = none) : H D = none := by
  cases e : H D with
  | none => rfl
  | some o =>
    rw [k _ _ ne e] at h
    cases h
theorem Kp.put {p D : Addr} {H H' : Hp} {o : HO} (k : Kp p H H') (h : H D = none) : Kp p H (upd H' D o) := fun q u n z => by
  rw [upd_ne (ne_of_none z h)]
  exact k q u n z
theorem _root_.Fa.Box.ne {H : Hp} {p l : Addr} {n : Nat} (b : Box H p n) (hl : H l = none) : p ≠ l := by
  obtain ⟨_, _, _, h, _⟩ := b
  exact ne_of_none h hl
theorem _root_.Fa.Box.put {H : Hp} {p D : Addr} {n : Nat} {o : HO} (b : Box H p n) (ne : D ≠ p) : Box (upd H D o) p n := by
  obtain ⟨x, y, z, h, r⟩ := b
  exact ⟨x, y, z, by rw [upd_ne ne.symm]; exact h, r⟩
theorem _root_.Fa.Box.upd {H : Hp} {p l : Addr} {n : Nat} {o : HO} (b : Box H p n) (hl : H l = none) : Box (upd H l o) p n := b.put (b.ne hl).symm
theorem _root_.Fa.Box.sm {H H' : Hp} {p : Addr} {n : Nat} (b : Box H p n) (s : Same H H') : Box H' p n := by
  obtain ⟨x, y, z, h, r⟩ := b
  exact ⟨x, y, z, s _ _ h, r⟩
structure Fn0 (P : Program) (w : World) (K : PySem.W.Frag) (mg : Str → Option Value) (base : Heap) (x : Str) (lev : Nat) (ps : List Str) (sp : Sp) (f : Addr) (fd : FuncData) : Prop where
  ok : FnOk P w K mg base CX0 lev f fd ps sp
  g : mg x = some (.ref f)
  k : PySem.W.keepIn K (.ref f) = true
  b : Binds K fd ps []
def KT (H H' : Hp) : Prop := ∀ q o, H q = some o → (∀ l, o ≠ .lst l) → H' q = some o
theorem KT.of {H H' : Hp} (s : Same H H') : KT H H' := fun q o h _ => s q o h
theorem KT.kp {H H' : Hp} {p : Addr} {n : Nat} (b : Box H p n) (k : Kp p H H') : KT H H' := fun q o h nl => by
  refine k q o (fun e => ?_) h
  obtain ⟨_, _, _, z, _⟩ := b
  rw [e, z] at h
  exact nl _ (Option.some.inj h).symm
theorem KT.put {H : Hp} {D : Addr} {xs : List V} {o : HO} (h : H D = some (.lst xs)) : KT H (upd H D o) := fun q o' z nl => by
  rw [upd_ne fun e => by
    rw [e, h] at z
    exact nl _ (Option.some.inj z).symm]
  exact z
theorem KT.trans {H H1 H2 : Hp} (a : KT H H1) (b : KT H1 H2) : KT H H2 := fun q o h nl => b q o (a q o h nl) nl
end K34
set_option linter.all false
/-! Piecewise straight lines: points that rise in both, slope 1 before the first and behind the last. -/
namespace M08
abbrev Pt := Rat × Rat
def Up : List Pt → Prop
  | [] => True
  | [_] => True
  | p :: q :: r => p.1 < q.1 ∧ p.2 < q.2 ∧ Up (q :: r)
def slope (p q : Pt) : Rat := (q.2 - p.2) / (q.1 - p.1)
def nx (p : Pt) : List Pt → Rat
  | [] => 1
  | q :: _ => slope p q
def fil (l : Rat) : List Pt → List Pt
  | [] => []
  | p :: r => if l = nx p r then fil (nx p r) r else p :: fil (nx p r) r
def E (p : Pt) : List Pt → Rat → Rat
  | [], x => p.2 + (x - p.1)
  | q :: r, x => if x < q.1 then p.2 + (x - p.1) * slope p q else E q r x
def f : List Pt → Rat → Rat
  | [], x => x
  | p :: r, x => if x < p.1 then p.2 + (x - p.1) else E p r x
def S (p : Pt) : List Pt → Rat → Rat
  | [], _ => 1
  | q :: r, x => if x < q.1 then slope p q else S q r x
def sl : List Pt → Rat → Rat
  | [], _ => 1
  | p :: r, x => if x < p.1 then 1 else S p r x
def std (ps : List Pt) : List Pt := if fil 1 ps = [] then [(0, f ps 0)] else fil 1 ps
theorem Up.tail {p : Pt} {r : List Pt} (h : Up (p :: r)) : Up r := by
  cases r with
  | nil => exact True.intro
  | cons q r => exact h.2.2
theorem slope_line {p q : Pt} (h : p.1 < q.1) : q.2 = p.2 + (q.1 - p.1) * slope p q := by
  unfold slope
  have : q.1 - p.1 ≠ 0 := by grind
  grind
theorem slope_of {p q : Pt} {m : Rat} (h : p.1 < q.1) (e : q.2 = p.2 + (q.1 - p.1) * m) : slope p q = m := by
  unfold slope
  have : q.1 - p.1 ≠ 0 := by grind
  rw [e]
  grind
structure Line (p : Pt) (m : Rat) (r L : List Pt) : Prop where
  a : L = [] → m = 1
  b : ∀ q L', L = q :: L' → p.1 < q.1 ∧ q.2 = p.2 + (q.1 - p.1) * m
  c : ∀ x, p.1 ≤ x → E p r x = E p L x
  d : ∀ x, p.1 ≤ x → S p r x = S p L x
theorem line : ∀ (r : List Pt) (p : Pt), Up (p :: r) → Line p (nx p r) r (fil (nx p r) r)
  | [], p, _ => ⟨fun _ => rfl, (fun q L' e => by cases e), fun _ _ => rfl, fun _ _ => rfl⟩
  | q :: r, p, h => by
    obtain ⟨h1, h2, h3⟩ := h
    have ih := line r q h3
    have lp := slope_line h1
    show Line p (slope p q) (q :: r) (fil (slope p q) (q :: r))
    have ef : fil (slope p q) (q :: r) = if slope p q = nx q r then fil (nx q r) r else q :: fil (nx q r) r := rfl
    rw [ef]
    generalize hm : slope p q = m at lp ef ⊢
    by_cases c : m = nx q r
    · rw [if_pos c]
      generalize hL : fil (nx q r) r = L at ih ⊢
      rw [← c] at ih
      have hx : ∀ x, p.1 ≤ x → (E p (q :: r) x = E p L x) ∧ S p (q :: r) x = S p L x := by
        intro x hx
        show ((if x < q.1 then p.2 + (x - p.1) * slope p q else E q r x) = E p L x) ∧ (if x < q.1 then slope p q else S q r x) = S p L x
        rw [hm]
        cases L with
        | nil =>
          have m1 := ih.a rfl
          by_cases c2 : x < q.1
          · simp only [if_pos c2]
            refine ⟨?_, m1⟩
            show _ = p.2 + (x - p.1)
            rw [m1]
            grind
          · simp only [if_neg c2]
            rw [ih.c x (by grind), ih.d x (by grind)]
            refine ⟨?_, by first | rfl | exact True.intro⟩
            show q.2 + (x - q.1) = p.2 + (x - p.1)
            rw [lp, m1]
            grind
        | cons q2 L' =>
          obtain ⟨b1, b2⟩ := ih.b q2 L' rfl
          have s1 := slope_of b1 b2
          have s2 : slope p q2 = m := slope_of (by grind) (by rw [b2, lp]; grind)
          by_cases c2 : x < q.1
          · simp only [if_pos c2]
            show _ = (if x < q2.1 then p.2 + (x - p.1) * slope p q2 else E q2 L' x) ∧ m = (if x < q2.1 then slope p q2 else S q2 L' x)
            rw [if_pos (by grind), if_pos (by grind), s2]
            first | exact ⟨rfl, rfl⟩ | exact ⟨rfl, True.intro⟩ | exact True.intro | exact ⟨True.intro, True.intro⟩
          · simp only [if_neg c2]
            rw [ih.c x (by grind), ih.d x (by grind)]
            show (if x < q2.1 then q.2 + (x - q.1) * slope q q2 else E q2 L' x) = (if x < q2.1 then p.2 + (x - p.1) * slope p q2 else E q2 L' x) ∧ (if x < q2.1 then slope q q2 else S q2 L' x) = (if x < q2.1 then slope p q2 else S q2 L' x)
            rw [s1, s2]
            by_cases c3 : x < q2.1
            · simp only [if_pos c3]
              refine ⟨?_, by first | rfl | exact True.intro⟩
              rw [lp]
              grind
            · simp only [if_neg c3]
              first | exact ⟨rfl, rfl⟩ | exact ⟨rfl, True.intro⟩ | exact True.intro | exact ⟨True.intro, True.intro⟩
      refine ⟨fun e => ih.a e, fun q2 L' e => ?_, fun x hx' => (hx x hx').1, fun x hx' => (hx x hx').2⟩
      obtain ⟨b1, b2⟩ := ih.b q2 L' e
      exact ⟨by grind, by rw [b2, lp]; grind⟩
    · rw [if_neg c]
      refine ⟨(fun e => by cases e), fun q2 L' e => ?_, fun x hx => ?_, fun x hx => ?_⟩
      · cases e
        exact ⟨h1, lp⟩
      · show (if x < q.1 then p.2 + (x - p.1) * slope p q else E q r x) = (if x < q.1 then p.2 + (x - p.1) * slope p q else E q (fil (nx q r) r) x)
        by_cases c2 : x < q.1
        · simp only [if_pos c2]
        · simp only [if_neg c2]
          rw [ih.c x (by grind)]
      · show (if x < q.1 then slope p q else S q r x) = (if x < q.1 then slope p q else S q (fil (nx q r) r) x)
        by_cases c2 : x < q.1
        · simp only [if_pos c2]
        · simp only [if_neg c2]
          rw [ih.d x (by grind)]
theorem Line.nx {p : Pt} {r : List Pt} (h : Line p (nx p r) r (fil (nx p r) r)) : M08.nx p (fil (M08.nx p r) r) = M08.nx p r := by
  cases e : fil (M08.nx p r) r with
  | nil => exact (h.a e).symm
  | cons q L =>
    obtain ⟨b1, b2⟩ := h.b q L e
    exact slope_of b1 b2
/-- nothing is left: a straight line -/
theorem flat {p : Pt} {r : List Pt} (h : Up (p :: r)) (e : fil 1 (p :: r) = []) (x : Rat) : f (p :: r) x = p.2 + (x - p.1) ∧ sl (p :: r) x = 1 := by
  have l := line r p h
  have ef : fil 1 (p :: r) = if 1 = nx p r then fil (nx p r) r else p :: fil (nx p r) r := rfl
  rw [ef] at e
  by_cases c : 1 = nx p r
  · rw [if_pos c] at e
    show (if x < p.1 then p.2 + (x - p.1) else E p r x) = _ ∧ (if x < p.1 then 1 else S p r x) = 1
    by_cases c2 : x < p.1
    · simp only [if_pos c2]
      first | exact ⟨rfl, rfl⟩ | exact ⟨rfl, True.intro⟩ | exact True.intro | exact ⟨True.intro, True.intro⟩
    · simp only [if_neg c2]
      rw [l.c x (by grind), l.d x (by grind), e]
      first | exact ⟨rfl, rfl⟩ | exact ⟨rfl, True.intro⟩ | exact True.intro | exact ⟨True.intro, True.intro⟩
  · rw [if_neg c] at e
    cases e
theorem f_std (ps : List Pt) (h : Up ps) (x : Rat) : f (std ps) x = f ps x ∧ sl (std ps) x = sl ps x := by
  unfold std
  cases ps with
  | nil =>
    show (if x < 0 then (0 : Rat) + (x - 0) else 0 + (x - 0)) = x ∧ (if x < 0 then (1 : Rat) else 1) = 1
    by_cases c : x < 0 <;> simp [c] <;> grind
  | cons p r =>
    by_cases e : fil 1 (p :: r) = []
    · rw [if_pos e]
      have h0 := (flat h e 0).1
      have hx := flat h e x
      rw [hx.1, hx.2, h0]
      show (if x < 0 then (p.2 + (0 - p.1)) + (x - 0) else (p.2 + (0 - p.1)) + (x - 0)) = _ ∧ (if x < 0 then (1 : Rat) else 1) = 1
      by_cases c : x < 0 <;> simp [c] <;> grind
    · rw [if_neg e]
      have l := line r p h
      have ef : fil 1 (p :: r) = if 1 = nx p r then fil (nx p r) r else p :: fil (nx p r) r := rfl
      by_cases c : 1 = nx p r
      · rw [ef, if_pos c] at e ⊢
        generalize hL : fil (nx p r) r = L at l e ⊢
        cases L with
        | nil => exact absurd rfl e
        | cons q L' =>
          obtain ⟨b1, b2⟩ := l.b q L' rfl
          have s1 := slope_of b1 b2
          show (if x < q.1 then q.2 + (x - q.1) else E q L' x) = (if x < p.1 then p.2 + (x - p.1) else E p r x) ∧ (if x < q.1 then 1 else S q L' x) = (if x < p.1 then 1 else S p r x)
          by_cases c2 : x < p.1
          · rw [if_pos c2, if_pos c2, if_pos (show x < q.1 by grind), if_pos (show x < q.1 by grind)]
            refine ⟨?_, by first | rfl | exact True.intro⟩
            rw [b2, ← c]
            grind
          · simp only [if_neg c2]
            rw [l.c x (by grind), l.d x (by grind)]
            show _ = (if x < q.1 then p.2 + (x - p.1) * slope p q else E q L' x) ∧ _ = (if x < q.1 then slope p q else S q L' x)
            rw [s1, ← c]
            by_cases c3 : x < q.1
            · simp only [if_pos c3]
              refine ⟨?_, by first | rfl | exact True.intro⟩
              rw [b2, ← c]
              grind
            · simp only [if_neg c3]
              first | exact ⟨rfl, rfl⟩ | exact ⟨rfl, True.intro⟩ | exact True.intro | exact ⟨True.intro, True.intro⟩
      · rw [ef, if_neg c]
        show (if x < p.1 then p.2 + (x - p.1) else E p (fil (nx p r) r) x) = (if x < p.1 then p.2 + (x - p.1) else E p r x) ∧ (if x < p.1 then 1 else S p (fil (nx p r) r) x) = (if x < p.1 then 1 else S p r x)
        by_cases c2 : x < p.1
        · simp only [if_pos c2]
          first | exact ⟨rfl, rfl⟩ | exact ⟨rfl, True.intro⟩ | exact True.intro | exact ⟨True.intro, True.intro⟩
        · simp only [if_neg c2]
          rw [l.c x (by grind), l.d x (by grind)]
          first | exact ⟨rfl, rfl⟩ | exact ⟨rfl, True.intro⟩ | exact True.intro | exact ⟨True.intro, True.intro⟩
theorem fil_fil : ∀ (ps : List Pt) (l : Rat), Up ps → fil l (fil l ps) = fil l ps
  | [], _, _ => rfl
  | p :: r, l, h => by
    have li := line r p h
    have ih := fil_fil r (nx p r) h.tail
    have ef : fil l (p :: r) = if l = nx p r then fil (nx p r) r else p :: fil (nx p r) r := rfl
    rw [ef]
    by_cases c : l = nx p r
    · rw [if_pos c, c]
      exact ih
    · rw [if_neg c]
      show (if l = nx p (fil (nx p r) r) then fil (nx p (fil (nx p r) r)) (fil (nx p r) r) else p :: fil (nx p (fil (nx p r) r)) (fil (nx p r) r)) = _
      rw [li.nx, if_neg c, ih]
theorem std_std (ps : List Pt) (h : Up ps) : std (std ps) = std ps := by
  by_cases e : fil 1 ps = []
  · have e1 : std ps = [(0, f ps 0)] := if_pos e
    rw [e1]
    have e2 : fil 1 [((0 : Rat), f ps 0)] = [] := by
      show (if (1 : Rat) = 1 then fil 1 [] else _) = []
      rw [if_pos rfl]
      rfl
    unfold std
    rw [if_pos e2]
    show [((0 : Rat), (if (0 : Rat) < 0 then f ps 0 + (0 - 0) else f ps 0 + (0 - 0)))] = _
    congr 2
    split <;> grind
  · have e1 : std ps = fil 1 ps := if_neg e
    rw [e1]
    unfold std
    rw [fil_fil ps 1 h, if_neg e]
end M08
set_option linter.all false
namespace M08
/-! ### what rises -/
theorem Up.cons {p q : Pt} {r : List Pt} (h : Up (q :: r)) (h1 : p.1 < q.1) (h2 : p.2 < q.2) : Up (p :: q :: r) := ⟨h1, h2, h⟩
theorem up_pw : ∀ (ps : List Pt), Up ps → List.Pairwise (fun p q : Pt => p.1 < q.1 ∧ p.2 < q.2) ps
  | [], _ => .nil
  | [p], _ => .cons (fun q h => by cases h) .nil
  | p :: q :: r, h => by
    obtain ⟨h1, h2, h3⟩ := h
    have ih := up_pw (q :: r) h3
    refine .cons (fun z hz => ?_) ih
    rcases List.mem_cons.mp hz with e | m
    · rw [e]; exact ⟨h1, h2⟩
    · cases ih with
      | cons a _ =>
        obtain ⟨b1, b2⟩ := a z m
        exact ⟨by grind, by grind⟩
theorem pw_up : ∀ (ps : List Pt), List.Pairwise (fun p q : Pt => p.1 < q.1 ∧ p.2 < q.2) ps → Up ps
  | [], _ => True.intro
  | [p], _ => True.intro
  | p :: q :: r, h => by
    cases h with
    | cons a b => exact ⟨(a q List.mem_cons_self).1, (a q List.mem_cons_self).2, pw_up (q :: r) b⟩
theorem fil_sub : ∀ (ps : List Pt) (l : Rat), (fil l ps).Sublist ps
  | [], _ => .slnil
  | p :: r, l => by
    have ih := fil_sub r (nx p r)
    show (if l = nx p r then fil (nx p r) r else p :: fil (nx p r) r).Sublist (p :: r)
    split
    · exact ih.cons p
    · exact ih.cons₂ p
theorem up_std {ps : List Pt} (h : Up ps) : Up (std ps) := by
  unfold std
  split
  · exact True.intro
  · exact pw_up _ ((up_pw _ h).sublist (fil_sub ps 1))
theorem std_len (ps : List Pt) : (std ps).length ≤ ps.length + 1 ∧ std ps ≠ [] := by
  unfold std
  split
  · exact ⟨by simp, by simp⟩
  · rename_i h
    have := (fil_sub ps 1).length_le
    exact ⟨by omega, h⟩
/-! ### finer points -/
def mid (p q : Pt) : Pt := ((p.1 + q.1) / 2, (p.2 + q.2) / 2)
def fn (e : Bool) : List Pt → List Pt
  | [] => []
  | [p] => if e then [p, (p.1 + 3, p.2 + 3)] else [p]
  | p :: q :: r => p :: mid p q :: fn e (q :: r)
theorem fn_head (e : Bool) (q : Pt) (r : List Pt) : ∃ T, fn e (q :: r) = q :: T := by
  cases r with
  | nil =>
    cases e
    · exact ⟨[], rfl⟩
    · exact ⟨[(q.1 + 3, q.2 + 3)], rfl⟩
  | cons z r => exact ⟨mid q z :: fn e (z :: r), rfl⟩
theorem half (a b : Rat) (h : a < b) : a < (a + b) / 2 ∧ (a + b) / 2 < b := by
  constructor <;> grind
theorem up_fn : ∀ (e : Bool) (ps : List Pt), Up ps → Up (fn e ps)
  | _, [], _ => True.intro
  | e, [p], _ => by
    cases e
    · exact True.intro
    · exact ⟨by grind, by grind, True.intro⟩
  | e, p :: q :: r, h => by
    obtain ⟨h1, h2, h3⟩ := h
    have ih := up_fn e (q :: r) h3
    obtain ⟨T, eT⟩ := fn_head e q r
    show Up (p :: mid p q :: fn e (q :: r))
    rw [eT] at ih ⊢
    obtain ⟨a1, a2⟩ := half _ _ h1
    obtain ⟨b1, b2⟩ := half _ _ h2
    exact ⟨a1, b1, a2, b2, ih⟩
theorem mid_slope {p q : Pt} (h : p.1 < q.1) : slope p (mid p q) = slope p q ∧ slope (mid p q) q = slope p q := by
  have l := slope_line h
  obtain ⟨a1, a2⟩ := half _ _ h
  refine ⟨slope_of a1 ?_, slope_of a2 ?_⟩
  · show (p.2 + q.2) / 2 = p.2 + ((p.1 + q.1) / 2 - p.1) * slope p q
    rw [l]
    grind
  · show q.2 = (p.2 + q.2) / 2 + (q.1 - (p.1 + q.1) / 2) * slope p q
    rw [l]
    grind
theorem fil_fn : ∀ (e : Bool) (ps : List Pt) (l : Rat), Up ps → fil l (fn e ps) = fil l ps
  | _, [], _, _ => rfl
  | e, [p], l, _ => by
    cases e
    · rfl
    · have s : slope p (p.1 + 3, p.2 + 3) = 1 := slope_of (by grind) (by grind)
      show (if l = slope p (p.1 + 3, p.2 + 3) then fil (slope p (p.1 + 3, p.2 + 3)) [(p.1 + 3, p.2 + 3)] else p :: fil (slope p (p.1 + 3, p.2 + 3)) [(p.1 + 3, p.2 + 3)]) = (if l = 1 then fil 1 [] else p :: fil 1 [])
      rw [s]
      have : fil 1 [(p.1 + 3, p.2 + 3)] = [] := by
        show (if (1 : Rat) = 1 then fil 1 [] else _) = []
        rw [if_pos rfl]
        rfl
      rw [this]
      rfl
  | e, p :: q :: r, l, h => by
    obtain ⟨h1, h2, h3⟩ := h
    have ih := fil_fn e (q :: r) (slope p q) h3
    obtain ⟨T, eT⟩ := fn_head e q r
    obtain ⟨m1, m2⟩ := mid_slope h1
    show (if l = slope p (mid p q) then fil (slope p (mid p q)) (mid p q :: fn e (q :: r)) else p :: fil (slope p (mid p q)) (mid p q :: fn e (q :: r))) = (if l = slope p q then fil (slope p q) (q :: r) else p :: fil (slope p q) (q :: r))
    rw [m1]
    have e2 : fil (slope p q) (mid p q :: fn e (q :: r)) = fil (slope p q) (q :: r) := by
      rw [eT] at ih ⊢
      show (if slope p q = slope (mid p q) q then fil (slope (mid p q) q) (q :: T) else mid p q :: fil (slope (mid p q) q) (q :: T)) = _
      rw [m2, if_pos rfl]
      exact ih
    rw [e2]
theorem std_fn (e : Bool) {ps : List Pt} (h : Up ps) : std (fn e ps) = std ps := by
  have ef := fil_fn e ps 1 h
  unfold std
  rw [ef]
  by_cases c : fil 1 ps = []
  · rw [if_pos c, if_pos c]
    cases ps with
    | nil => rfl
    | cons p r =>
      obtain ⟨T, eT⟩ := fn_head e p r
      have h2 := up_fn e (p :: r) h
      rw [(flat h c 0).1]
      rw [eT] at h2 ef ⊢
      rw [(flat h2 (ef.trans c) 0).1]
  · rw [if_neg c, if_neg c]
/-! ### a further bend behind the last point -/
theorem fil_last : ∀ (r : List Pt) (l : Rat) (z e : Pt), slope z e ≠ 1 → ∃ K, fil l (r ++ [z, e]) = K ++ [e]
  | [], l, z, e, h => by
    have e1 : fil (slope z e) [e] = [e] := by
      show (if slope z e = 1 then fil 1 [] else e :: fil 1 []) = _
      rw [if_neg h]
      rfl
    show ∃ K, (if l = slope z e then fil (slope z e) [e] else z :: fil (slope z e) [e]) = K ++ [e]
    rw [e1]
    split
    · exact ⟨[], rfl⟩
    · exact ⟨[z], rfl⟩
  | p :: r, l, z, e, h => by
    obtain ⟨K, eK⟩ := fil_last r (nx p (r ++ [z, e])) z e h
    show ∃ K, (if l = nx p (r ++ [z, e]) then fil (nx p (r ++ [z, e])) (r ++ [z, e]) else p :: fil (nx p (r ++ [z, e])) (r ++ [z, e])) = K ++ [e]
    rw [eK]
    split
    · exact ⟨K, rfl⟩
    · exact ⟨p :: K, rfl⟩
theorem bent_ne (r : List Pt) (z : Pt) : std (r ++ [z, (z.1 + 1, z.2 + 3 / 2)]) ≠ r ++ [z] := by
  have s : slope z (z.1 + 1, z.2 + 3 / 2) = 3 / 2 := slope_of (by grind) (by grind)
  obtain ⟨K, eK⟩ := fil_last r 1 z (z.1 + 1, z.2 + 3 / 2) (by rw [s]; grind)
  unfold std
  rw [eK, if_neg (by simp)]
  intro e
  have h := List.append_inj_right' e rfl
  have h2 : (z.1 + 1, z.2 + 3 / 2) = z := (List.cons.inj h).1
  have h3 : z.1 + 1 = z.1 := congrArg Prod.fst h2
  grind
theorem up_bent : ∀ (r : List Pt) (z : Pt), Up (r ++ [z]) → Up (r ++ [z, (z.1 + 1, z.2 + 3 / 2)])
  | [], z, _ => ⟨by grind, by grind, True.intro⟩
  | [p], z, h => ⟨h.1, h.2.1, by grind, by grind, True.intro⟩
  | p :: q :: r, z, h => ⟨h.1, h.2.1, up_bent (q :: r) z h.2.2⟩
/-! ### by index -/
def pc (ps : List Pt) (n : Nat) : Rat := if n = 0 then 1 else nx (ps.getD (n - 1) (0, 0)) (ps.drop n)
theorem E_at : ∀ (r : List Pt) (p : Pt) (x : Rat) (n : Nat) (q : Pt), (p :: r)[n]? = some q → (∀ (j : Nat) z, j < n → r[j]? = some z → z.1 ≤ x) → (∀ (j : Nat) z, n ≤ j → r[j]? = some z → x < z.1) → E p r x = q.2 + (x - q.1) * nx q (r.drop n) ∧ S p r x = nx q (r.drop n)
  | [], p, x, n, q, h, _, _ => by
    cases n with
    | zero =>
      cases h
      show p.2 + (x - p.1) = p.2 + (x - p.1) * 1 ∧ (1 : Rat) = 1
      exact ⟨by grind, rfl⟩
    | succ n => simp at h
  | q0 :: r, p, x, n, q, h, h1, h2 => by
    cases n with
    | zero =>
      have eq : p = q := Option.some.inj h
      rw [← eq]
      have c := h2 0 q0 (Nat.le_refl _) rfl
      show (if x < q0.1 then p.2 + (x - p.1) * slope p q0 else E q0 r x) = p.2 + (x - p.1) * slope p q0 ∧ (if x < q0.1 then slope p q0 else S q0 r x) = slope p q0
      rw [if_pos c, if_pos c]
      exact ⟨rfl, rfl⟩
    | succ n =>
      have c := h1 0 q0 (Nat.zero_lt_succ _) rfl
      have ih := E_at r q0 x n q h (fun j z hj e => h1 (j + 1) z (by omega) e) (fun j z hj e => h2 (j + 1) z (by omega) e)
      show (if x < q0.1 then p.2 + (x - p.1) * slope p q0 else E q0 r x) = _ ∧ (if x < q0.1 then slope p q0 else S q0 r x) = _
      rw [if_neg (by grind), if_neg (by grind)]
      exact ih
theorem f_at {ps : List Pt} {x : Rat} {n : Nat} {q : Pt} (h : ps[n - 1]? = some q) (hn : n ≤ ps.length) (h1 : ∀ (j : Nat) z, j < n → ps[j]? = some z → z.1 ≤ x) (h2 : ∀ (j : Nat) z, n ≤ j → ps[j]? = some z → x < z.1) : f ps x = q.2 + (x - q.1) * pc ps n ∧ sl ps x = pc ps n := by
  cases ps with
  | nil => simp at h
  | cons p r =>
    cases n with
    | zero =>
      have eq : p = q := Option.some.inj h
      rw [← eq]
      have c := h2 0 p (Nat.le_refl _) rfl
      show (if x < p.1 then p.2 + (x - p.1) else E p r x) = p.2 + (x - p.1) * 1 ∧ (if x < p.1 then 1 else S p r x) = 1
      rw [if_pos c, if_pos c]
      exact ⟨by grind, rfl⟩
    | succ n =>
      have c := h1 0 p (Nat.zero_lt_succ _) rfl
      have hq : (p :: r)[n]? = some q := h
      have := E_at r p x n q hq (fun j z hj e => h1 (j + 1) z (by omega) e) (fun j z hj e => h2 (j + 1) z (by omega) e)
      show (if x < p.1 then p.2 + (x - p.1) else E p r x) = _ ∧ (if x < p.1 then 1 else S p r x) = _
      rw [if_neg (by grind), if_neg (by grind)]
      have e : pc (p :: r) (n + 1) = nx q (r.drop n) := by
        show nx ((p :: r).getD n (0, 0)) (r.drop n) = _
        rw [List.getD_eq_getElem?_getD, hq]
        rfl
      rw [e]
      exact this
theorem pc_zero (ps : List Pt) : pc ps 0 = 1 := rfl
theorem pc_end {ps : List Pt} : pc ps ps.length = 1 := by
  unfold pc
  split
  · rfl
  · rw [List.drop_length]
    rfl
theorem pc_at {ps : List Pt} {n : Nat} {p q : Pt} (hp : ps[n]? = some p) (hq : ps[n + 1]? = some q) : pc ps (n + 1) = slope p q := by
  unfold pc
  rw [if_neg (by omega), Nat.add_sub_cancel, List.getD_eq_getElem?_getD, hp]
  have hl := (List.getElem?_eq_some_iff.mp hq).1
  have e := (List.getElem?_eq_some_iff.mp hq).2
  rw [List.drop_eq_getElem_cons hl, e]
  rfl
theorem fil_step {ps : List Pt} {i : Nat} {p : Pt} (h : ps[i]? = some p) : fil (pc ps i) (ps.drop i) = if pc ps i = pc ps (i + 1) then fil (pc ps (i + 1)) (ps.drop (i + 1)) else p :: fil (pc ps (i + 1)) (ps.drop (i + 1)) := by
  have hl := (List.getElem?_eq_some_iff.mp h).1
  have e := (List.getElem?_eq_some_iff.mp h).2
  have e2 : pc ps (i + 1) = nx p (ps.drop (i + 1)) := by
    unfold pc
    rw [if_neg (by omega), Nat.add_sub_cancel, List.getD_eq_getElem?_getD, h]
    rfl
  rw [e2, List.drop_eq_getElem_cons hl, e]
  rfl
end M08
set_option Elab.async false
set_option linter.all false
set_option maxRecDepth 100000
set_option maxHeartbeats 1000000
set_option exponentiation.threshold 100000
namespace K34
open PySem PySem.Spec PyProof.Rows L2 Fa Fb
/-! ### the value of a fraction -/
def vq (t u : Int) : Rat := (t : Rat) / (u : Rat)
theorem cast_ne {u : Int} (h : u ≠ 0) : (u : Rat) ≠ 0 := fun z => h (Rat.intCast_inj.mp (z.trans Rat.intCast_zero.symm))
theorem cast_pos {u : Int} (h : 0 < u) : 0 < (u : Rat) := by
  have := Rat.intCast_lt_intCast.mpr h
  rwa [Rat.intCast_zero] at this
theorem vq_eq {t u t2 u2 : Int} (h : u ≠ 0) (h2 : u2 ≠ 0) : vq t u = vq t2 u2 ↔ t * u2 = t2 * u := by
  have hu := cast_ne h
  have hu2 := cast_ne h2
  unfold vq
  constructor
  · intro e
    have h3 : (t : Rat) * u2 = t2 * u := by grind
    exact Rat.intCast_inj.mp (by rw [Rat.intCast_mul, Rat.intCast_mul]; exact h3)
  · intro e
    have h3 : (t : Rat) * u2 = t2 * u := by
      rw [← Rat.intCast_mul, ← Rat.intCast_mul, e]
    grind
theorem vq_inj {t u t2 u2 : Int} (r : Am.Red t u) (r2 : Am.Red t2 u2) (e : vq t u = vq t2 u2) : t = t2 ∧ u = u2 := Am.uniq r r2 ((vq_eq (Int.ne_of_gt r.1) (Int.ne_of_gt r2.1)).mp e)
theorem vq_add {t u t2 u2 a b : Int} (h : u ≠ 0) (h2 : u2 ≠ 0) (hb : b ≠ 0) (e : a * (u * u2) = (t * u2 + t2 * u) * b) : vq a b = vq t u + vq t2 u2 := by
  rw [(vq_eq hb (Int.mul_ne_zero h h2)).mpr e]
  have hu := cast_ne h
  have hu2 := cast_ne h2
  unfold vq
  rw [Rat.intCast_add, Rat.intCast_mul, Rat.intCast_mul, Rat.intCast_mul]
  grind
theorem vq_sub {t u t2 u2 a b : Int} (h : u ≠ 0) (h2 : u2 ≠ 0) (hb : b ≠ 0) (e : a * (u * u2) = (t * u2 - t2 * u) * b) : vq a b = vq t u - vq t2 u2 := by
  rw [(vq_eq hb (Int.mul_ne_zero h h2)).mpr e]
  have hu := cast_ne h
  have hu2 := cast_ne h2
  unfold vq
  rw [Rat.intCast_sub, Rat.intCast_mul, Rat.intCast_mul, Rat.intCast_mul]
  grind
theorem vq_mul {t u t2 u2 a b : Int} (h : u ≠ 0) (h2 : u2 ≠ 0) (hb : b ≠ 0) (e : a * (u * u2) = (t * t2) * b) : vq a b = vq t u * vq t2 u2 := by
  rw [(vq_eq hb (Int.mul_ne_zero h h2)).mpr e]
  have hu := cast_ne h
  have hu2 := cast_ne h2
  unfold vq
  rw [Rat.intCast_mul, Rat.intCast_mul]
  grind
theorem vq_div {t u t2 u2 a b : Int} (h : u ≠ 0) (h2 : u2 ≠ 0) (ht : t2 ≠ 0) (hb : b ≠ 0) (e : a * (u * t2) = (t * u2) * b) : vq a b = vq t u / vq t2 u2 := by
  rw [(vq_eq hb (Int.mul_ne_zero h ht)).mpr e]
  have hu := cast_ne h
  have hu2 := cast_ne h2
  have ht2 := cast_ne ht
  unfold vq
  rw [Rat.intCast_mul, Rat.intCast_mul]
  grind
theorem vq_lt {t u t2 u2 : Int} (h : 0 < u) (h2 : 0 < u2) : t * u2 < t2 * u ↔ vq t u < vq t2 u2 := by
  have hu := cast_pos h
  have hu2 := cast_pos h2
  have hp := Rat.mul_pos hu hu2
  have nu : (u : Rat) ≠ 0 := by grind
  have nu2 : (u2 : Rat) ≠ 0 := by grind
  have e1 : vq t u * ((u : Rat) * u2) = ((t * u2 : Int) : Rat) := by
    rw [Rat.intCast_mul]
    unfold vq
    grind
  have e2 : vq t2 u2 * ((u : Rat) * u2) = ((t2 * u : Int) : Rat) := by
    rw [Rat.intCast_mul]
    unfold vq
    grind
  rw [← Rat.intCast_lt_intCast, ← e1, ← e2]
  exact Rat.mul_lt_mul_right hp
theorem vq_int (a : Int) : vq a 1 = (a : Rat) := by
  unfold vq
  have : ((1 : Int) : Rat) = 1 := rfl
  rw [this]
  grind
theorem vq_zero : vq 0 1 = 0 := by rw [vq_int]; rfl
theorem vq_one : vq 1 1 = 1 := by rw [vq_int]; rfl
/-- an amount of the value q -/
def QA (K : PySem.W.Frag) (H : Hp) (x : V) (q : Rat) (n : Nat) : Prop := ∃ t u, IsA K H x t u n ∧ vq t u = q
theorem QA.same {K : PySem.W.Frag} {H H' : Hp} {x : V} {q : Rat} {n : Nat} (h : QA K H x q n) (s : Same H H') : QA K H' x q n := let ⟨t, u, a, e⟩ := h; ⟨t, u, a.same s, e⟩
theorem QA.mono {K : PySem.W.Frag} {H : Hp} {x : V} {q : Rat} {n m : Nat} (h : QA K H x q n) (e : n ≤ m) : QA K H x q m := let ⟨t, u, a, e'⟩ := h; ⟨t, u, a.mono e, e'⟩
end K34
set_option linter.all false
namespace M04
open PySem
abbrev Row := List (Str × Rat)
structure Cue where
  nm : Str
  pa : Str
  un : Str
  q : Rat
def part (row : Row) (u : Str) : Row × Rat := match row.getLast? with
  | some (v, r) => if v = u then (row.dropLast, r) else (row, 0)
  | none => (row, 0)
def ext (row : Row) (u : Str) (q : Rat) : Row := if (part row u).2 + q = 0 then (part row u).1 else (part row u).1 ++ [(u, (part row u).2 + q)]
structure St where
  rows : List Row
  nums : List (Str × Nat)
def num (nums : List (Str × Nat)) (x : Str) : Option Nat := (nums.find? fun z => decide (z.1 = x)).map (·.2)
def idx (rows : List Row) (row : Row) : Nat := rows.findIdx fun z => decide (z = row)
def row (s : St) (c : Cue) : Row := ext (s.rows.getD ((num s.nums c.pa).getD 0) []) c.un c.q
def rows (s : St) (c : Cue) : List Row := if row s c ∈ s.rows then s.rows else s.rows ++ [row s c]
def step (s : St) (c : Cue) : St := ⟨rows s c, s.nums ++ [(c.nm, idx (rows s c) (row s c))]⟩
def init : St := ⟨[[]], [("start", 0)]⟩
def all (cs : List Cue) : St := cs.foldl step init
theorem all_app (cs : List Cue) (c : Cue) : all (cs ++ [c]) = step (all cs) c := by
  unfold all
  rw [List.foldl_append]
  rfl
/-- the numbers are those of rows -/
def NumOk (s : St) : Prop := ∀ x i, num s.nums x = some i → i < s.rows.length
theorem num_app (l : List (Str × Nat)) (a : Str) (i : Nat) (x : Str) : num (l ++ [(a, i)]) x = match num l x with
    | some j => some j
    | none => if a = x then some i else none := by
  unfold num
  rw [List.find?_append]
  cases h : l.find? fun z => decide (z.1 = x) with
  | some z => simp
  | none =>
    by_cases c : a = x
    · simp [c]
    · simp [c]
theorem row_mem (s : St) (c : Cue) : row s c ∈ rows s c := by
  unfold rows
  split
  · assumption
  · simp
theorem idx_lt {l : List Row} {r : Row} (h : r ∈ l) : idx l r < l.length := by
  unfold idx
  exact List.findIdx_lt_length_of_exists ⟨r, h, by simp⟩
theorem idx_at {l : List Row} {r : Row} (h : r ∈ l) : l[idx l r]? = some r := by
  have lt := idx_lt h
  rw [List.getElem?_eq_getElem lt]
  have : decide (l[idx l r] = r) = true := List.findIdx_getElem (xs := l) (p := fun z => decide (z = r)) (w := lt)
  rw [of_decide_eq_true this]
theorem idx_no {l : List Row} {r : Row} {m : Nat} (h : m < idx l r) (z : Row) (e : l[m]? = some z) : z ≠ r := by
  have := List.not_of_lt_findIdx (xs := l) (p := fun z => decide (z = r)) h
  have lm := (List.getElem?_eq_some_iff.mp e).1
  have e2 := (List.getElem?_eq_some_iff.mp e).2
  intro er
  rw [e2, er] at this
  simp at this
theorem step_ok (s : St) (c : Cue) (h : NumOk s) : NumOk (step s c) := by
  have le : s.rows.length ≤ (rows s c).length := by
    unfold rows
    split
    · exact Nat.le_refl _
    · rw [List.length_append]; omega
  intro x i e
  show i < (rows s c).length
  have e : num (s.nums ++ [(c.nm, idx (rows s c) (row s c))]) x = some i := e
  rw [num_app] at e
  cases hx : num s.nums x with
  | some j =>
    rw [hx] at e
    have := h x j hx
    simp at e
    omega
  | none =>
    rw [hx] at e
    dsimp only at e
    split at e
    · cases e
      exact idx_lt (row_mem s c)
    · cases e
theorem all_ok : ∀ (cs : List Cue) (s : St), NumOk s → NumOk (cs.foldl step s)
  | [], s, h => h
  | c :: r, s, h => all_ok r (step s c) (step_ok s c h)
theorem init_ok : NumOk init := by
  intro x i e
  unfold num init at e
  simp only [List.find?_cons, List.find?_nil] at e
  show i < 1
  split at e
  · cases e; decide
  · cases e
theorem len_step (s : St) (c : Cue) : (step s c).rows.length ≤ s.rows.length + 1 := by
  show (rows s c).length ≤ _
  unfold rows
  split
  · omega
  · rw [List.length_append]; exact Nat.le_refl _
theorem part_len (r : Row) (u : Str) : (part r u).1.length ≤ r.length := by
  unfold part
  split
  · split
    · rw [List.length_dropLast]; omega
    · exact Nat.le_refl _
  · exact Nat.le_refl _
theorem ext_len (r : Row) (u : Str) (q : Rat) : (ext r u q).length ≤ r.length + 1 := by
  have := part_len r u
  unfold ext
  split
  · omega
  · rw [List.length_append]; simp; omega
theorem nums_len (cs : List Cue) : (all cs).nums.length = cs.length + 1 := by
  suffices h : ∀ (cs : List Cue) (s : St), (cs.foldl step s).nums.length = s.nums.length + cs.length by
    rw [show all cs = cs.foldl step init from rfl, h, Nat.add_comm]
    rfl
  intro cs
  induction cs with
  | nil => intro s; rfl
  | cons c r ih =>
    intro s
    rw [List.foldl_cons, ih, List.length_cons]
    show (s.nums ++ [_]).length + _ = _
    rw [List.length_append, List.length_singleton]
    omega
theorem rows_len (cs : List Cue) : (all cs).rows.length ≤ cs.length + 1 := by
  suffices h : ∀ (cs : List Cue) (s : St), (cs.foldl step s).rows.length ≤ s.rows.length + cs.length by
    have := h cs init
    rw [show init.rows.length = 1 from rfl] at this
    rw [show all cs = cs.foldl step init from rfl]
    omega
  intro cs
  induction cs with
  | nil => intro s; exact Nat.le_refl _
  | cons c r ih =>
    intro s
    have := ih (step s c)
    have := len_step s c
    rw [List.foldl_cons, List.length_cons]
    omega
end M04
set_option Elab.async false
set_option linter.all false
set_option maxRecDepth 100000
set_option maxHeartbeats 4000000
/-! l != b of two lists whose items are equal by an own ==: False. -/
namespace Fe
open PySem PySem.SeqAt
open AutoSeq1 (wpAny_loadPart')
open MeetsSeq MeetsSeq2 MeetsSeq3 SeqRoads2 GQ
section
variable {prog : Program} {w : World} {A : Around} {R : Result → Shared → Prop}
theorem ne_goes (l b : Addr) (N : Nat) (I : Nat → Shared → Prop) (hl : ListI prog w A (fun e s' => R (.error e) s') l b N I) (fin : ∀ s, I N s → R (.ok (.ret (.bool false))) s) (m : Nat) :
    ∀ j : Nat, m + j = N → ∀ s, I j s → wpAny (model prog w) A.in1 (Builtin.«list.__eq__.loop» ⟨[.ref l, .ref b, rawInt j, rawInt 3], []⟩) (FinOf prog w A R) (fun e s' => R (.error e) s') s := by
  induction m with
  | zero =>
    intro j hj s h
    obtain ⟨xs, ys, n, n2, g1, g2, z1, z2, _⟩ := hl _ _ h
    have jN : j = N := by omega
    have done : R (.ok (.ret (.bool false))) s := fin s (jN ▸ h)
    obtain ⟨hp, gl, dr, tk, os⟩ := s
    wp_walk using wpAny_loadPart' g1, wpAny_loadPart' g2
    have e1 : xs[((j : Nat) : Int).toNat]? = none := by
      simp
      omega
    have e2 : ys[((j : Nat) : Int).toNat]? = none := by
      simp
      omega
    rw [e1, e2]
    wp_walk using wpAny_loadPart' g1, wpAny_loadPart' g2
    show R (.ok (.ret (.bool (xs.size != ys.size)))) _
    rw [z1, z2]
    simpa using done
  | succ m ih =>
    intro j hj s h
    obtain ⟨xs, ys, n, n2, g1, g2, z1, z2, turn⟩ := hl _ _ h
    have l1 : j < xs.size := by omega
    have l2 : j < ys.size := by omega
    have one := turn l1 l2
    obtain ⟨hp, gl, dr, tk, os⟩ := s
    wp_walk using wpAny_loadPart' g1, wpAny_loadPart' g2
    have e1 : xs[((j : Nat) : Int).toNat]? = some xs[j] := by simp [l1]
    have e2 : ys[((j : Nat) : Int).toNat]? = some ys[j] := by simp [l2]
    rw [e1, e2]
    refine wpAny_bind (wpAny_mono one (fun r s2 hr => ?_) fun _ _ z => z)
    obtain ⟨er, h2⟩ := hr
    subst er
    have rest := ih (j + 1) (by omega) s2 h2
    obtain ⟨hp2, gl2, dr2, tk2, os2⟩ := s2
    wp_walk
    rw [show ((j : Int) + 1) = ((j + 1 : Nat) : Int) by omega]
    refine ⟨plainId_quiet plain_eq_loop _, codeAny_builtin entry_eq_loop ?_⟩
    rw [Around.under_plainId plain_eq_loop _]
    exact rest
theorem list_ne (l b : Addr) (N : Nat) (I : Nat → Shared → Prop) (hl : ListI prog w A (fun e s' => R (.error e) s') l b N I) (fin : ∀ s, I N s → R (.ok (.ret (.bool false))) s) {s : Shared} (h : I 0 s) :
    wpAny (model prog w) A.in1 (Builtin.«list.__ne__» ⟨[.ref l, .ref b], []⟩) (FinOf prog w A R) (fun e s' => R (.error e) s') s := by
  obtain ⟨xs, ys, n, n2, g1, g2, z1, z2, _⟩ := hl _ _ h
  have rest := ne_goes (A := A) (R := R) l b N I hl fin N 0 (by omega) s h
  obtain ⟨hp, gl, dr, tk, os⟩ := s
  have sub := AutoSeq1.sub_list_list
  have same : ¬ (xs.size != ys.size) = true := by simp [z1, z2]
  wp_walk using wpAny_loadPart' g1, wpAny_loadPart' g2
  refine ⟨plainId_quiet plain_eq_loop _, codeAny_builtin entry_eq_loop ?_⟩
  rw [Around.under_plainId plain_eq_loop _]
  exact rest
theorem rc_ne {l b : Addr} {N : Nat} {E : Value → Shared → Prop} {s : Shared} {Q : Value → Shared → Prop} (hu : A.units < cLine) (I : Nat → Shared → Prop) (hl : ListI prog w A E l b N I) (fin : ∀ s, I N s → Q (.bool false) s) (h : I 0 s) :
    wpAny (model prog w) A (richCompare .NotEq (.ref l) (.ref b)) Q E s := by
  obtain ⟨xs, ys, n, n2, g1, g2, _, _, _⟩ := hl _ _ h
  refine wpAny_richCompare_same_room (op := .NotEq) ⟨_, g1, rfl⟩ ⟨_, g2, rfl⟩ F.slot_list_ne (call_here F.slot_list_ne ⟨_, g1, rfl⟩ F.entry_list_ne (F.args_list_ne_2 _ _) ?_) hu
  exact list_ne (R := wants (fun v s' => v ≠ .notImplemented ∧ Q v s') E) l b N I hl (fun s' q => ⟨(fun x => nomatch x), fin s' q⟩) h
end
end Fe
namespace Fe
open PySem PySem.Spec PyProof.Rows L2
theorem op_neG {X : Cx} {n : Nat} {D : Eqv} (hD : Mon D) (h : EqG X n D) (hr : Room (n + 1) X.A) : OpR X (compareOp .NotEq) (fun x y H Q => DList D x y H ∧ ∀ H', Ext H H' → Q (.bl false) H') := by
  intro pn s σ H x y v u Q I rx ry hq
  obtain ⟨⟨a, b, xs, ys, rfl, rfl, ha, hb, p⟩, q⟩ := hq
  cases rx
  cases ry
  show wpAny (model X.prog X.w) X.A (richCompare .NotEq (.ref a) (.ref b)) (EP X pn σ Q) X.xe s
  have sb : Sub X (n + 1) X.A := ⟨hr, rfl⟩
  refine rc_ne (N := xs.length) sb.room.units0 (fun _ s' => LoopI X pn σ H s') (fun i s' l => ?_) (fun s' l => ?_) ⟨H, I, Ext.rfl'⟩
  · obtain ⟨H1, I1, e1⟩ := id l
    obtain ⟨z, its, k, r, e⟩ := I1.hok a _ (e1 _ _ ha)
    obtain ⟨z2, its2, k2, r2, e2⟩ := I1.hok b _ (e1 _ _ hb)
    exact ⟨its.toArray, its2.toArray, k, k2, e, e2, by rw [List.size_toArray, ← r.length], by rw [List.size_toArray, ← r2.length, ← p.1], fun h1 h2 => turnG hD h sb p r r2 i h1 h2 s' l⟩
  · obtain ⟨H1, I1, e1⟩ := l
    exact ⟨.bl false, H1, I1, rfl, q H1 e1⟩
/-- one of two readings -/
theorem op_or {X : Cx} {f : Value → Value → Sem Value} {r1 r2 : R2} (h1 : OpR X f r1) (h2 : OpR X f r2) : OpR X f (fun x y H Q => r1 x y H Q ∨ r2 x y H Q) := by
  intro pn s σ H x y v u Q I rx ry h
  rcases h with h | h
  · exact h1 pn s σ H x y v u Q I rx ry h
  · exact h2 pn s σ H x y v u Q I rx ry h
end Fe
set_option Elab.async false
set_option linter.all false
set_option maxRecDepth 100000
set_option maxHeartbeats 4000000
/-! l == b of two lists or two tuples, with either answer. -/
namespace Fq
open PySem PySem.SeqAt
open AutoSeq1 (wpAny_loadPart')
open MeetsSeq MeetsSeq2 MeetsSeq3 SeqRoads2 GQ
section
variable {prog : Program} {w : World} {A : Around} {R : Result → Shared → Prop}
/-- as ListI; an item that is not equal ends it -/
def ListB (prog : Program) (w : World) (A : Around) (E : Value → Shared → Prop) (l b : Addr) (N M : Nat) (I : Nat → Shared → Prop) (J : Shared → Prop) : Prop :=
  ∀ i s, I i s → ∃ (xs ys : Array Value) (n n2 : Nat), s.heap.get? l = some { cls := .type "list", data := .seq xs n } ∧ s.heap.get? b = some { cls := .type "list", data := .seq ys n2 } ∧ xs.size = N ∧ ys.size = M ∧
    ∀ (h1 : i < xs.size) (h2 : i < ys.size), N = M → wpAny (model prog w) A.in1 (eqBool xs[i] ys[i]) (fun r s' => (r = true ∧ I (i + 1) s') ∨ (r = false ∧ J s')) E s
theorem goes (l b : Addr) (N : Nat) (I : Nat → Shared → Prop) (J : Shared → Prop) (hl : ListB prog w A (fun e s' => R (.error e) s') l b N N I J) (fin : ∀ s, I N s → R (.ok (.ret (.bool true))) s) (no : ∀ s, J s → (∃ (xs ys : Array Value) (n n2 : Nat), s.heap.get? l = some { cls := .type "list", data := .seq xs n } ∧ s.heap.get? b = some { cls := .type "list", data := .seq ys n2 } ∧ xs.size = N ∧ ys.size = N) ∧ R (.ok (.ret (.bool false))) s) (m : Nat) :
    ∀ j : Nat, m + j = N → ∀ s, I j s → wpAny (model prog w) A.in1 (Builtin.«list.__eq__.loop» ⟨[.ref l, .ref b, rawInt j, rawInt 2], []⟩) (FinOf prog w A R) (fun e s' => R (.error e) s') s := by
  induction m with
  | zero =>
    intro j hj s h
    obtain ⟨xs, ys, n, n2, g1, g2, z1, z2, _⟩ := hl _ _ h
    have jN : j = N := by omega
    have done : R (.ok (.ret (.bool true))) s := fin s (jN ▸ h)
    obtain ⟨hp, gl, dr, tk, os⟩ := s
    wp_walk using wpAny_loadPart' g1, wpAny_loadPart' g2
    have e1 : xs[((j : Nat) : Int).toNat]? = none := by
      simp
      omega
    have e2 : ys[((j : Nat) : Int).toNat]? = none := by
      simp
      omega
    rw [e1, e2]
    wp_walk using wpAny_loadPart' g1, wpAny_loadPart' g2
    show R (.ok (.ret (.bool (xs.size == ys.size)))) _
    rw [z1, z2]
    simpa using done
  | succ m ih =>
    intro j hj s h
    obtain ⟨xs, ys, n, n2, g1, g2, z1, z2, turn⟩ := hl _ _ h
    have l1 : j < xs.size := by omega
    have l2 : j < ys.size := by omega
    have one := turn l1 l2 rfl
    obtain ⟨hp, gl, dr, tk, os⟩ := s
    wp_walk using wpAny_loadPart' g1, wpAny_loadPart' g2
    have e1 : xs[((j : Nat) : Int).toNat]? = some xs[j] := by simp [l1]
    have e2 : ys[((j : Nat) : Int).toNat]? = some ys[j] := by simp [l2]
    rw [e1, e2]
    refine wpAny_bind (wpAny_mono one (fun r s2 hr => ?_) fun _ _ z => z)
    rcases hr with ⟨er, h2⟩ | ⟨er, h2⟩
    · subst er
      have rest := ih (j + 1) (by omega) s2 h2
      obtain ⟨hp2, gl2, dr2, tk2, os2⟩ := s2
      wp_walk
      rw [show ((j : Int) + 1) = ((j + 1 : Nat) : Int) by omega]
      refine ⟨plainId_quiet plain_eq_loop _, codeAny_builtin entry_eq_loop ?_⟩
      rw [Around.under_plainId plain_eq_loop _]
      exact rest
    · subst er
      obtain ⟨⟨xs2, ys2, m1, m2, k1, k2, y1, y2⟩, rest⟩ := no s2 h2
      obtain ⟨hp2, gl2, dr2, tk2, os2⟩ := s2
      wp_walk using wpAny_loadPart' k1, wpAny_loadPart' k2
      have f1 : xs2[((j : Nat) : Int).toNat]? = some (xs2[j]'(by omega)) := by simp
      have f2 : ys2[((j : Nat) : Int).toNat]? = some (ys2[j]'(by omega)) := by simp
      rw [f1, f2]
      wp_walk
      exact rest
theorem list_eqB (l b : Addr) (N M : Nat) (I : Nat → Shared → Prop) (J : Shared → Prop) (hl : ListB prog w A (fun e s' => R (.error e) s') l b N M I J) (fin : ∀ s, N = M → I N s → R (.ok (.ret (.bool true))) s) (no : ∀ s, J s → (∃ (xs ys : Array Value) (n n2 : Nat), s.heap.get? l = some { cls := .type "list", data := .seq xs n } ∧ s.heap.get? b = some { cls := .type "list", data := .seq ys n2 } ∧ xs.size = N ∧ ys.size = M) ∧ R (.ok (.ret (.bool false))) s) (ne : ∀ s, N ≠ M → I 0 s → R (.ok (.ret (.bool false))) s) {s : Shared} (h : I 0 s) :
    wpAny (model prog w) A.in1 (Builtin.«list.__eq__» ⟨[.ref l, .ref b], []⟩) (FinOf prog w A R) (fun e s' => R (.error e) s') s := by
  obtain ⟨xs, ys, n, n2, g1, g2, z1, z2, _⟩ := hl _ _ h
  by_cases c : N = M
  · subst c
    have rest := goes (A := A) (R := R) l b N I J hl (fun s q => fin s rfl q) no N 0 (by omega) s h
    obtain ⟨hp, gl, dr, tk, os⟩ := s
    have sub := AutoSeq1.sub_list_list
    have same : ¬ (xs.size != ys.size) = true := by simp [z1, z2]
    wp_walk using wpAny_loadPart' g1, wpAny_loadPart' g2
    refine ⟨plainId_quiet plain_eq_loop _, codeAny_builtin entry_eq_loop ?_⟩
    rw [Around.under_plainId plain_eq_loop _]
    exact rest
  · have rest := ne s c h
    obtain ⟨hp, gl, dr, tk, os⟩ := s
    have sub := AutoSeq1.sub_list_list
    have same : (xs.size != ys.size) = true := by simp [z1, z2, c]
    wp_walk using wpAny_loadPart' g1, wpAny_loadPart' g2
    exact rest
theorem rc_listB {l b : Addr} {N M : Nat} {E : Value → Shared → Prop} {s : Shared} {Q : Value → Shared → Prop} (hu : A.units < cLine) (I : Nat → Shared → Prop) (J : Shared → Prop) (hl : ListB prog w A E l b N M I J) (fin : ∀ s, N = M → I N s → Q (.bool true) s) (no : ∀ s, J s → (∃ (xs ys : Array Value) (n n2 : Nat), s.heap.get? l = some { cls := .type "list", data := .seq xs n } ∧ s.heap.get? b = some { cls := .type "list", data := .seq ys n2 } ∧ xs.size = N ∧ ys.size = M) ∧ Q (.bool false) s) (ne : ∀ s, N ≠ M → I 0 s → Q (.bool false) s) (h : I 0 s) :
    wpAny (model prog w) A (richCompare .Eq (.ref l) (.ref b)) Q E s := by
  obtain ⟨xs, ys, n, n2, g1, g2, _, _, _⟩ := hl _ _ h
  refine wpAny_richCompare_same_room (op := .Eq) ⟨_, g1, rfl⟩ ⟨_, g2, rfl⟩ F.slot_list_eq (call_here F.slot_list_eq ⟨_, g1, rfl⟩ F.entry_list_eq (F.args_list_eq_2 _ _) ?_) hu
  exact list_eqB (R := wants (fun v s' => v ≠ .notImplemented ∧ Q v s') E) l b N M I J hl (fun s' c q => ⟨(fun x => nomatch x), fin s' c q⟩) (fun s' q => ⟨(no s' q).1, (fun x => nomatch x), (no s' q).2⟩) (fun s' c q => ⟨(fun x => nomatch x), ne s' c q⟩) h
theorem tuple_eqB (l b : Addr) (xs ys : Array Value) (n n2 : Nat) (dd dd2 : Option Addr) (sl sl2 : Array (Option Value)) (hsz : xs.size = ys.size) (I : Nat → Shared → Prop) (J : Shared → Prop)
    (turn : ∀ i (h1 : i < xs.size) (h2 : i < ys.size) s, I i s → wpAny (model prog w) A.in1 (eqBool xs[i] ys[i]) (fun r s' => (r = true ∧ I (i + 1) s') ∨ (r = false ∧ J s')) (fun e s' => R (.error e) s') s)
    (fin : ∀ s, I xs.size s → R (.ok (.ret (.bool true))) s) (no : ∀ s, J s → R (.ok (.ret (.bool false))) s) {s : Shared} (g1 : s.heap.get? l = some { cls := .type "tuple", dict := dd, data := .seq xs n, slots := sl }) (g2 : s.heap.get? b = some { cls := .type "tuple", dict := dd2, data := .seq ys n2, slots := sl2 }) (h : I 0 s) :
    wpAny (model prog w) A.in1 (Builtin.«tuple.__eq__» ⟨[.ref l, .ref b], []⟩) (FinOf prog w A R) (fun e s' => R (.error e) s') s := by
  have sub := AutoSeq1.sub_tuple_tuple
  have hZ : (xs.toList.zip ys.toList).length = xs.size := by simp [hsz]
  have h0 := h
  obtain ⟨hp, g, d, tk, os⟩ := s
  wp_walk using wpAny_loadPart' g1, wpAny_loadPart' g2, wpAny_forIn_list _ (fun rest b s' => (b.1 = none ∧ ∃ i, rest = (xs.toList.zip ys.toList).drop i ∧ i ≤ xs.size ∧ I i s') ∨ (b.1 = some (.done (.ret (.bool false))) ∧ rest = [] ∧ J s')) _
  case turn =>
    rintro ⟨y, x⟩ rest b s' hyp
    rcases hyp with ⟨hb', i, hz, hi, hI⟩ | ⟨_, hz, _⟩
    · have hlt : i < (xs.toList.zip ys.toList).length := by
        rcases Nat.lt_or_ge i (xs.toList.zip ys.toList).length with h' | h'
        · exact h'
        · rw [List.drop_of_length_le h'] at hz; cases hz
      have h1 : i < xs.size := hZ ▸ hlt
      have h2 : i < ys.size := hsz ▸ h1
      rw [List.drop_eq_getElem_cons hlt] at hz
      injection hz with hyx hrest
      have hy : y = xs[i] := by have := congrArg Prod.fst hyx; simpa using this
      have hx : x = ys[i] := by have := congrArg Prod.snd hyx; simpa using this
      subst hy hx
      refine wpAny_bind (wpAny_mono (turn i h1 h2 s' hI) (fun r s2 q2 => ?_) fun _ _ x => x)
      rcases q2 with ⟨hr, q2⟩ | ⟨hr, q2⟩
      · subst hr
        wp_walk
        exact .inl ⟨rfl, i + 1, hrest, h1, q2⟩
      · subst hr
        wp_walk
        exact no s2 q2
    · cases hz
  case fin =>
    rintro ⟨b1, b2⟩ s' hyp
    rcases hyp with ⟨hb', i, hz, hi, hI⟩ | ⟨hb', _, hJ⟩
    · simp only at hb'
      subst hb'
      have hge : xs.size ≤ i := by
        rcases Nat.lt_or_ge i (xs.toList.zip ys.toList).length with h' | h'
        · rw [List.drop_eq_getElem_cons h'] at hz; cases hz
        · exact hZ ▸ h'
      have hi' : i = xs.size := by omega
      have hR : R (.ok (.ret (.bool true))) s' := fin s' (hi' ▸ hI)
      wp_walk
      simpa [Builtin.Tuple.tupleCompareSizes, hsz] using hR
    · simp only at hb'
      subst hb'
      have hR := no s' hJ
      wp_walk
      exact hR
  case h =>
    exact .inl ⟨rfl, 0, rfl, Nat.zero_le _, h0⟩
theorem rc_tupB {l b : Addr} {xs ys : Array Value} {E : Value → Shared → Prop} {s : Shared} {Q : Value → Shared → Prop} (hsz : xs.size = ys.size) (hu : A.units < cLine) (I : Nat → Shared → Prop) (J : Shared → Prop)
    (hl : s.heap.IsTuple l xs) (hb : s.heap.IsTuple b ys)
    (turn : ∀ i (h1 : i < xs.size) (h2 : i < ys.size) s, I i s → wpAny (model prog w) A.in1 (eqBool xs[i] ys[i]) (fun r s' => (r = true ∧ I (i + 1) s') ∨ (r = false ∧ J s')) E s)
    (fin : ∀ s, I xs.size s → Q (.bool true) s) (no : ∀ s, J s → Q (.bool false) s) (h : I 0 s) : wpAny (model prog w) A (richCompare .Eq (.ref l) (.ref b)) Q E s := by
  obtain ⟨⟨cls, dd, data, sl⟩, ho, hc, n, hd⟩ := id hl
  obtain ⟨⟨cls2, dd2, data2, sl2⟩, ho2, hc2, n2, hd2⟩ := id hb
  simp only at hc hd hc2 hd2
  subst hc hd hc2 hd2
  refine wpAny_richCompare_same_room (op := .Eq) ⟨_, ho, rfl⟩ ⟨_, ho2, rfl⟩ F.slot_tuple_eq (call_here F.slot_tuple_eq ⟨_, ho, rfl⟩ F.entry_tuple_eq (F.args_tuple_eq_2 _ _) ?_) hu
  exact tuple_eqB (R := wants (fun v s' => v ≠ .notImplemented ∧ Q v s') E) l b xs ys n n2 dd dd2 sl sl2 hsz I J turn (fun s' q => ⟨(fun x => nomatch x), fin s' q⟩) (fun s' q => ⟨(fun x => nomatch x), no s' q⟩) ho ho2 h
end
end Fq
namespace Fq
open PySem PySem.Spec PyProof.Rows L2
abbrev EqvB := V → V → Bool → Hp → Prop
def MonB (D : EqvB) : Prop := ∀ x y b H H', Ext H H' → D x y b H → D x y b H'
/-- == gives what D says, and only makes objects -/
def EqB (X : Cx) (n : Nat) (D : EqvB) : Prop :=
  ∀ (A : Around) (pins : List (Addr × Obj)) (s : Shared) (σ : L2.St) (H : Hp) (x y : V) (u v : Value) (b : Bool), Sub X n A → Inv X pins σ H s → RelV x u → RelV y v → D x y b H →
    wpAny (model X.prog X.w) A (eqBool u v) (fun r s' => r = b ∧ ∃ H', Inv X pins σ H' s' ∧ Ext H H') X.xe s
def RcB (X : Cx) (n : Nat) (D : EqvB) : Prop :=
  ∀ (A : Around) (pins : List (Addr × Obj)) (s : Shared) (σ : L2.St) (H : Hp) (x y : V) (u v : Value) (b : Bool), Sub X n A → Inv X pins σ H s → RelV x u → RelV y v → D x y b H →
    wpAny (model X.prog X.w) A (richCompare .Eq u v) (fun r s' => r = .bool b ∧ ∃ H', Inv X pins σ H' s' ∧ Ext H H') X.xe s
def AllB (D : EqvB) (xs ys : List V) (b : Bool) (H : Hp) : Prop := (xs.length ≠ ys.length ∧ b = false) ∨ (xs.length = ys.length ∧ ∃ bs : Nat → Bool, (∀ (i : Nat) x y, xs[i]? = some x → ys[i]? = some y → D x y (bs i) H) ∧ ((b = true ∧ ∀ i, i < xs.length → bs i = true) ∨ (b = false ∧ ∃ i, i < xs.length ∧ bs i = false)))
variable {X : Cx} {n : Nat} {D : EqvB}
theorem turnB (hD : MonB D) (h : EqB X n D) {A : Around} (sb : Sub X (n + 1) A) {pins : List (Addr × Obj)} {σ : L2.St} {H : Hp} {xs ys : List V} {its its2 : List Value} {bs : Nat → Bool} (p : ∀ (i : Nat) x y, xs[i]? = some x → ys[i]? = some y → D x y (bs i) H) (r : Vals xs its) (r2 : Vals ys its2)
    (i : Nat) (h1 : i < its.toArray.size) (h2 : i < its2.toArray.size) (s' : Shared) (l : LoopI X pins σ H s') :
    wpAny (model X.prog X.w) A.in1 (eqBool its.toArray[i] its2.toArray[i]) (fun r s2 => r = bs i ∧ LoopI X pins σ H s2) X.xe s' := by
  obtain ⟨H1, I1, e1⟩ := l
  have g1 : its[i]? = some its.toArray[i] := by
    have h1' : i < its.length := by simpa using h1
    rw [List.getElem?_eq_getElem h1'] <;> simp
  have g2 : its2[i]? = some its2.toArray[i] := by
    have h2' : i < its2.length := by simpa using h2
    rw [List.getElem?_eq_getElem h2'] <;> simp
  have k1 : i < xs.length := by rw [r.length]; simpa using h1
  have k2 : i < ys.length := by rw [r2.length]; simpa using h2
  obtain ⟨u, hu, ru⟩ := r.get (List.getElem?_eq_getElem k1)
  obtain ⟨v, hv, rv⟩ := r2.get (List.getElem?_eq_getElem k2)
  rw [g1] at hu
  rw [g2] at hv
  rw [Option.some.inj hu, Option.some.inj hv]
  refine wpAny_mono (h A.in1 pins s' σ H1 _ _ u v (bs i) sb.in1 I1 ru rv (hD _ _ _ _ _ e1 (p i _ _ (List.getElem?_eq_getElem k1) (List.getElem?_eq_getElem k2)))) (fun r s2 q => ?_) fun _ _ x => x
  obtain ⟨hr, H2, I2, e2⟩ := q
  exact ⟨hr, H2, I2, e1.trans e2⟩
def DListB (D : EqvB) : EqvB := fun x y b H => ∃ a c xs ys, x = .ref a ∧ y = .ref c ∧ H a = some (.lst xs) ∧ H c = some (.lst ys) ∧ AllB D xs ys b H
def DTupB (D : EqvB) : EqvB := fun x y b H => ∃ a c xs ys, x = .ref a ∧ y = .ref c ∧ H a = some (.tup xs) ∧ H c = some (.tup ys) ∧ xs.length = ys.length ∧ AllB D xs ys b H
theorem AllB.mon (hD : MonB D) {xs ys : List V} {b : Bool} {H H' : Hp} (e : Ext H H') (h : AllB D xs ys b H) : AllB D xs ys b H' := by
  rcases h with h | ⟨h1, bs, h2, h3⟩
  · exact .inl h
  · exact .inr ⟨h1, bs, fun i x y a c => hD _ _ _ _ _ e (h2 i x y a c), h3⟩
theorem monB_tup (hD : MonB D) : MonB (DTupB D) := fun x y b H H' e d => by
  obtain ⟨a, c, xs, ys, hx, hy, h1, h2, h3, p⟩ := d
  exact ⟨a, c, xs, ys, hx, hy, e _ _ h1, e _ _ h2, h3, p.mon hD e⟩
theorem rcB_list (hD : MonB D) (h : EqB X n D) : RcB X (n + 1) (DListB D) := by
  intro A pins s σ H x y u v b sb I rx ry d
  obtain ⟨a, c, xs, ys, rfl, rfl, ha, hb, p⟩ := d
  cases rx
  cases ry
  have rd : ∀ s', LoopI X pins σ H s' → ∃ (its its2 : List Value) (k k2 : Nat), s'.heap.get? a = some { cls := .type "list", data := .seq its.toArray k } ∧ s'.heap.get? c = some { cls := .type "list", data := .seq its2.toArray k2 } ∧ its.toArray.size = xs.length ∧ its2.toArray.size = ys.length ∧ Vals xs its ∧ Vals ys its2 := by
    intro s' q
    obtain ⟨H1, I1, e1⟩ := q
    obtain ⟨z, its, k, r, e⟩ := I1.hok a _ (e1 _ _ ha)
    obtain ⟨z2, its2, k2, r2, e2⟩ := I1.hok c _ (e1 _ _ hb)
    exact ⟨its, its2, k, k2, e, e2, by rw [List.size_toArray, ← r.length], by rw [List.size_toArray, ← r2.length], r, r2⟩
  rcases p with ⟨ne, rfl⟩ | ⟨el, bs, pb, hbs⟩
  · refine rc_listB (N := xs.length) (M := ys.length) sb.room.units0 (fun i s' => i = 0 ∧ LoopI X pins σ H s') (fun s' => False) (fun i s' q => ?_) (fun s' e q => absurd e ne) (fun s' q => q.elim) (fun s' _ q => ⟨rfl, q.2⟩) ⟨rfl, H, I, Ext.rfl'⟩
    obtain ⟨its, its2, k, k2, e, e2, z1, z2, r, r2⟩ := rd s' q.2
    exact ⟨its.toArray, its2.toArray, k, k2, e, e2, z1, z2, fun _ _ e => absurd e ne⟩
  · refine rc_listB (N := xs.length) (M := ys.length) sb.room.units0 (fun i s' => LoopI X pins σ H s' ∧ ∀ j, j < i → bs j = true) (fun s' => LoopI X pins σ H s' ∧ b = false) (fun i s' q => ?_) (fun s' _ q => ⟨?_, q.1⟩) (fun s' q => ⟨?_, by rw [q.2], q.1⟩) (fun s' e => absurd el e) ⟨⟨H, I, Ext.rfl'⟩, fun j hj => absurd hj (by omega)⟩
    · obtain ⟨its, its2, k, k2, e, e2, z1, z2, r, r2⟩ := rd s' q.1
      refine ⟨its.toArray, its2.toArray, k, k2, e, e2, z1, z2, fun h1 h2 _ => ?_⟩
      refine wpAny_mono (turnB hD h sb pb r r2 i h1 h2 s' q.1) (fun rr s2 z => ?_) fun _ _ z => z
      obtain ⟨er, l2⟩ := z
      cases hb' : bs i with
      | true => exact .inl ⟨by rw [er, hb'], l2, fun j hj => by
          rcases Nat.lt_or_ge j i with c | c
          · exact q.2 j c
          · rw [show j = i by omega]; exact hb'⟩
      | false =>
        refine .inr ⟨by rw [er, hb'], l2, ?_⟩
        rcases hbs with ⟨_, all⟩ | ⟨e, _⟩
        · rw [all i (by omega)] at hb'
          cases hb'
        · exact e
    · rcases hbs with ⟨e, _⟩ | ⟨_, i, hi, e⟩
      · rw [e]
      · rw [q.2 i hi] at e
        cases e
    · obtain ⟨its, its2, k, k2, e, e2, z1, z2, r, r2⟩ := rd s' q.1
      exact ⟨its.toArray, its2.toArray, k, k2, e, e2, z1, z2⟩
theorem rcB_tup (hD : MonB D) (h : EqB X n D) : RcB X (n + 1) (DTupB D) := by
  intro A pins s σ H x y u v b sb I rx ry d
  obtain ⟨a, c, xs, ys, rfl, rfl, ha, hb, hl, p⟩ := d
  cases rx
  cases ry
  obtain ⟨its, r, e, z⟩ := I.tuple (SqT.of ha)
  obtain ⟨its2, r2, e2, z2⟩ := I.tuple (SqT.of hb)
  have hsz : its.toArray.size = its2.toArray.size := by rw [List.size_toArray, List.size_toArray, ← r.length, ← r2.length]; exact hl
  rcases p with ⟨ne, _⟩ | ⟨_, bs, pb, hbs⟩
  · exact absurd hl ne
  refine rc_tupB hsz sb.room.units0 (fun i s' => LoopI X pins σ H s' ∧ ∀ j, j < i → bs j = true) (fun s' => LoopI X pins σ H s' ∧ b = false) e e2 (fun i h1 h2 s' q => ?_) (fun s' q => ⟨?_, q.1⟩) (fun s' q => ⟨by rw [q.2], q.1⟩) ⟨⟨H, I, Ext.rfl'⟩, fun j hj => absurd hj (by omega)⟩
  · refine wpAny_mono (turnB hD h sb pb r r2 i h1 h2 s' q.1) (fun rr s2 z => ?_) fun _ _ z => z
    obtain ⟨er, l2⟩ := z
    have hx : i < xs.length := by rw [r.length]; simpa using h1
    cases hb' : bs i with
    | true => exact .inl ⟨by rw [er, hb'], l2, fun j hj => by
        rcases Nat.lt_or_ge j i with c | c
        · exact q.2 j c
        · rw [show j = i by omega]; exact hb'⟩
    | false =>
      refine .inr ⟨by rw [er, hb'], l2, ?_⟩
      rcases hbs with ⟨_, all⟩ | ⟨e, _⟩
      · rw [all i hx] at hb'
        cases hb'
      · exact e
  · rcases hbs with ⟨e, _⟩ | ⟨_, i, hi, e⟩
    · rw [e]
    · rw [q.2 i (by rw [List.size_toArray, ← r.length]; exact hi)] at e
      cases e
/-- the same object is equal to itself -/
theorem RcB.eqB (h : RcB X n D) (hr : ∀ x y b H, D x y b H → ∃ a c, x = .ref a ∧ y = .ref c ∧ (a = c → b = true)) : EqB X n D := by
  intro A pins s σ H x y u v b sb I rx ry d
  obtain ⟨a, c, rfl, rfl, hs⟩ := hr _ _ _ _ d
  cases rx
  cases ry
  by_cases hac : a = c
  · rw [hs hac]
    subst hac
    exact SeqAt.EqAt.same (A := A) (s := s) (.ref a) X.prog X.w X.xe _ ⟨rfl, H, I, Ext.rfl'⟩
  · refine GQ.eqBool_refG hac (wpAny_mono (h A pins s σ H (.ref a) (.ref c) _ _ b sb I rfl rfl d) (fun r s' q => ?_) fun _ _ x => x)
    obtain ⟨hr', q⟩ := q
    exact ⟨b, hr', rfl, q⟩
def rEqB (D : EqvB) : R2 := fun x y H Q => ∃ b, D x y b H ∧ ∀ H', Ext H H' → Q (.bl b) H'
theorem op_eqB (h : RcB X n D) (hr : Room n X.A) : OpR X (compareOp .Eq) (rEqB D) := by
  intro pn s σ H x y v u Q I rx ry hq
  obtain ⟨b, d, q⟩ := hq
  show wpAny (model X.prog X.w) X.A (richCompare .Eq v u) (EP X pn σ Q) X.xe s
  refine wpAny_mono (h X.A pn s σ H x y v u b ⟨hr, rfl⟩ I rx ry d) (fun r s' z => ?_) fun _ _ z => z
  obtain ⟨er, H', I', e⟩ := z
  exact ⟨.bl b, H', I', er, q H' e⟩
end Fq
set_option Elab.async false
set_option linter.all false
set_option maxRecDepth 100000
set_option maxHeartbeats 4000000
/-! x in l, x not in l, l.index(x) where the items have a == of their own. -/
namespace Fr
open PySem PySem.SeqAt
open AutoSeq1 (wpAny_loadPart')
open MeetsSeq MeetsSeq2 MeetsSeq3 SeqRoads2 GQ
section
variable {prog : Program} {w : World} {A : Around} {R : Result → Shared → Prop}
/-- the list at l has N items at each turn; an item is x or the next one is asked -/
def ItemsB (prog : Program) (w : World) (A : Around) (E : Value → Shared → Prop) (l : Addr) (x : Value) (N : Nat) (I : Nat → Shared → Prop) (J : Nat → Shared → Prop) : Prop :=
  ∀ i s, I i s → ∃ (xs : Array Value) (n : Nat), s.heap.get? l = some { cls := .type "list", data := .seq xs n } ∧ xs.size = N ∧
    ∀ (h1 : i < xs.size), wpAny (model prog w) A.in1 (eqBool xs[i] x) (fun r s' => (r = false ∧ I (i + 1) s') ∨ (r = true ∧ J i s')) E s
theorem has_goes (l : Addr) (x : Value) (N : Nat) (I : Nat → Shared → Prop) (J : Nat → Shared → Prop) (hl : ItemsB prog w A (fun e s' => R (.error e) s') l x N I J) (no : ∀ s, I N s → R (.ok (.ret (.bool false))) s) (yes : ∀ i s, J i s → R (.ok (.ret (.bool true))) s) (m : Nat) :
    ∀ j : Nat, m + j = N → ∀ s, I j s → wpAny (model prog w) A.in1 (Builtin.«list.__contains__.loop» ⟨[.ref l, x, rawInt j], []⟩) (FinOf prog w A R) (fun e s' => R (.error e) s') s := by
  induction m with
  | zero =>
    intro j hj s h
    obtain ⟨xs, n, g1, z1, _⟩ := hl _ _ h
    have jN : j = N := by omega
    have done : R (.ok (.ret (.bool false))) s := no s (jN ▸ h)
    obtain ⟨hp, gl, dr, tk, os⟩ := s
    wp_walk using wpAny_loadPart' g1
    have e1 : xs[((j : Nat) : Int).toNat]? = none := by
      simp
      omega
    rw [e1]
    wp_walk
    exact done
  | succ m ih =>
    intro j hj s h
    obtain ⟨xs, n, g1, z1, turn⟩ := hl _ _ h
    have l1 : j < xs.size := by omega
    have one := turn l1
    obtain ⟨hp, gl, dr, tk, os⟩ := s
    wp_walk using wpAny_loadPart' g1
    have e1 : xs[((j : Nat) : Int).toNat]? = some xs[j] := by simp [l1]
    rw [e1]
    refine wpAny_bind (wpAny_mono one (fun r s2 hr => ?_) fun _ _ z => z)
    rcases hr with ⟨er, h2⟩ | ⟨er, h2⟩
    · subst er
      have rest := ih (j + 1) (by omega) s2 h2
      obtain ⟨hp2, gl2, dr2, tk2, os2⟩ := s2
      wp_walk
      rw [show ((j : Int) + 1) = ((j + 1 : Nat) : Int) by omega]
      refine ⟨plainId_quiet plain_contains_loop _, codeAny_builtin entry_contains_loop ?_⟩
      rw [Around.under_plainId plain_contains_loop _]
      exact rest
    · subst er
      have done := yes j s2 h2
      obtain ⟨hp2, gl2, dr2, tk2, os2⟩ := s2
      wp_walk
      exact done
theorem list_has (l : Addr) (x : Value) (N : Nat) (I : Nat → Shared → Prop) (J : Nat → Shared → Prop) (hl : ItemsB prog w A (fun e s' => R (.error e) s') l x N I J) (no : ∀ s, I N s → R (.ok (.ret (.bool false))) s) (yes : ∀ i s, J i s → R (.ok (.ret (.bool true))) s) {s : Shared} (h : I 0 s) :
    wpAny (model prog w) A.in1 (Builtin.«list.__contains__» ⟨[.ref l, x], []⟩) (FinOf prog w A R) (fun e s' => R (.error e) s') s := by
  have rest := has_goes (A := A) (R := R) l x N I J hl no yes N 0 (by omega) s h
  obtain ⟨hp, gl, dr, tk, os⟩ := s
  wp_walk
  refine ⟨plainId_quiet plain_contains_loop _, codeAny_builtin entry_contains_loop ?_⟩
  rw [Around.under_plainId plain_contains_loop _]
  exact rest
theorem at_goes (l : Addr) (x : Value) (N : Nat) (upto : Int) (hup : (N : Int) ≤ upto) (I : Nat → Shared → Prop) (J : Nat → Shared → Prop) (hl : ItemsB prog w A (fun e s' => R (.error e) s') l x N I J) (no : ∀ s, ¬ I N s) (yes : ∀ i s, i < N → J i s → R (.ok (.ret (.int i s.toks))) { s with toks := s.toks + 1 }) (m : Nat) :
    ∀ j : Nat, m + j = N → ∀ s, I j s → wpAny (model prog w) A.in1 (Builtin.«list.index.loop» ⟨[.ref l, x, rawInt j, rawInt upto], []⟩) (FinOf prog w A R) (fun e s' => R (.error e) s') s := by
  induction m with
  | zero =>
    intro j hj s h
    have jN : j = N := by omega
    exact absurd (jN ▸ h) (no s)
  | succ m ih =>
    intro j hj s h
    obtain ⟨xs, n, g1, z1, turn⟩ := hl _ _ h
    have l1 : j < xs.size := by omega
    have one := turn l1
    obtain ⟨hp, gl, dr, tk, os⟩ := s
    wp_walk using wpAny_loadPart' g1
    have e1 : (if (j : Int) < upto then xs[((j : Nat) : Int).toNat]? else none) = some xs[j] := by
      rw [if_pos (by omega)]
      simp [l1]
    rw [e1]
    refine wpAny_bind (wpAny_mono one (fun r s2 hr => ?_) fun _ _ z => z)
    rcases hr with ⟨er, h2⟩ | ⟨er, h2⟩
    · subst er
      have rest := ih (j + 1) (by omega) s2 h2
      obtain ⟨hp2, gl2, dr2, tk2, os2⟩ := s2
      wp_walk
      rw [show ((j : Int) + 1) = ((j + 1 : Nat) : Int) by omega]
      refine ⟨plainId_quiet plain_index_loop _, codeAny_builtin entry_index_loop ?_⟩
      rw [Around.under_plainId plain_index_loop _]
      exact rest
    · subst er
      have done := yes j s2 (by omega) h2
      obtain ⟨hp2, gl2, dr2, tk2, os2⟩ := s2
      wp_walk
      exact done
theorem list_at (l : Addr) (x : Value) (N : Nat) (hN : (N : Int) ≤ 2 ^ 63 - 1) (I : Nat → Shared → Prop) (J : Nat → Shared → Prop) (hl : ItemsB prog w A (fun e s' => R (.error e) s') l x N I J) (no : ∀ s, ¬ I N s) (yes : ∀ i s, i < N → J i s → R (.ok (.ret (.int i s.toks))) { s with toks := s.toks + 1 }) {s : Shared} (h : I 0 s) :
    wpAny (model prog w) A.in1 (Builtin.«list.index» ⟨[.ref l, x], []⟩) (FinOf prog w A R) (fun e s' => R (.error e) s') s := by
  obtain ⟨xs, n, g1, z1, _⟩ := hl _ _ h
  have rest := at_goes (A := A) (R := R) l x N (2 ^ 63 - 1) hN I J hl no yes N 0 (by omega) s h
  obtain ⟨hp, gl, dr, tk, os⟩ := s
  wp_walk using wpAny_loadPart' g1
  have a1 : ((fun i : Int => if i < 0 then max 0 (i + (xs.size : Int)) else i) ((none : Option Int).getD 0)) = ((0 : Nat) : Int) := by simp
  have a2 : ((fun i : Int => if i < 0 then max 0 (i + (xs.size : Int)) else i) ((none : Option Int).getD (2 ^ 63 - 1))) = 2 ^ 63 - 1 := by simp
  rw [a1, a2]
  refine ⟨plainId_quiet plain_index_loop _, codeAny_builtin entry_index_loop ?_⟩
  rw [Around.under_plainId plain_index_loop _]
  exact rest
end
section
variable {prog : Program} {w : World} {A : Around} {E : Value → Shared → Prop} {s : Shared}
theorem in_own {l : Addr} {x : Value} {N : Nat} {Q : Value → Shared → Prop} (I : Nat → Shared → Prop) (J : Nat → Shared → Prop) (hl : ItemsB prog w A E l x N I J) (no : ∀ s, I N s → Q (.bool false) s) (yes : ∀ i s, J i s → Q (.bool true) s) (h : I 0 s) : wpAny (model prog w) A (compareOp .In x (.ref l)) Q E s := by
  obtain ⟨xs, n, g1, _, _⟩ := hl _ _ h
  show wpAny _ _ (do return .bool (← contains (.ref l) x)) Q E s
  refine wpAny_bind (wpAny_contains_slot ⟨_, g1, rfl⟩ F.slot_list_contains (call_here (Q := fun v s' => wpAny _ A (truthy v) (fun b s'' => wpAny _ A (pure (Value.bool b)) Q E s'') E s') F.slot_list_contains ⟨_, g1, rfl⟩ F.entry_list_contains (F.args_list_contains_2 _ _) ?_))
  exact list_has (R := wants (fun v s' => wpAny _ A (truthy v) (fun b s'' => wpAny _ A (pure (Value.bool b)) Q E s'') E s') E) l x N I J hl (fun s' q => wpAny_pure (wpAny_pure (no s' q))) (fun i s' q => wpAny_pure (wpAny_pure (yes i s' q))) h
theorem notIn_own {l : Addr} {x : Value} {N : Nat} {Q : Value → Shared → Prop} (I : Nat → Shared → Prop) (J : Nat → Shared → Prop) (hl : ItemsB prog w A E l x N I J) (no : ∀ s, I N s → Q (.bool true) s) (yes : ∀ i s, J i s → Q (.bool false) s) (h : I 0 s) : wpAny (model prog w) A (compareOp .NotIn x (.ref l)) Q E s := by
  obtain ⟨xs, n, g1, _, _⟩ := hl _ _ h
  show wpAny _ _ (do return .bool (!(← contains (.ref l) x))) Q E s
  refine wpAny_bind (wpAny_contains_slot ⟨_, g1, rfl⟩ F.slot_list_contains (call_here (Q := fun v s' => wpAny _ A (truthy v) (fun b s'' => wpAny _ A (pure (Value.bool (!b))) Q E s'') E s') F.slot_list_contains ⟨_, g1, rfl⟩ F.entry_list_contains (F.args_list_contains_2 _ _) ?_))
  exact list_has (R := wants (fun v s' => wpAny _ A (truthy v) (fun b s'' => wpAny _ A (pure (Value.bool (!b))) Q E s'') E s') E) l x N I J hl (fun s' q => wpAny_pure (wpAny_pure (no s' q))) (fun i s' q => wpAny_pure (wpAny_pure (yes i s' q))) h
theorem index_own {l : Addr} {x : Value} {N : Nat} {Q : Value → Shared → Prop} (hN : (N : Int) ≤ 2 ^ 63 - 1) (I : Nat → Shared → Prop) (J : Nat → Shared → Prop) (hl : ItemsB prog w A E l x N I J) (no : ∀ s, ¬ I N s) (yes : ∀ i s, i < N → J i s → Q (.int i s.toks) { s with toks := s.toks + 1 }) (h : I 0 s) : wpAny (model prog w) A (call (.builtin "list.index") [.ref l, x]) Q E s := by
  obtain ⟨xs, n, g1, _, _⟩ := hl _ _ h
  refine call_here F.slot_list_index ⟨_, g1, rfl⟩ F.entry_list_index (F.args_list_index_2 _ _) ?_
  exact list_at (R := wants Q E) l x N hN I J hl no yes h
end
end Fr
namespace Fr
open PySem PySem.Spec PyProof.Rows L2 Fq
variable {X : Cx} {n : Nat} {D : EqvB}
/-- what D says of each item against y -/
def Each (D : EqvB) (ys : List V) (y : V) (bs : Nat → Bool) (H : Hp) : Prop := ∀ (i : Nat) z, ys[i]? = some z → D z y (bs i) H
theorem items_of (hD : MonB D) (h : EqB X n D) (sb : Sub X (n + 1) X.A) {pn : List (Addr × Obj)} {σ : L2.St} {H : Hp} {l : Addr} {ys : List V} {y : V} {u : Value} {bs : Nat → Bool} (hl : H l = some (.lst ys)) (ry : RelV y u) (p : Each D ys y bs H) :
    ItemsB X.prog X.w X.A X.xe l u ys.length (fun i s' => LoopI X pn σ H s' ∧ ∀ j, j < i → bs j = false) (fun i s' => LoopI X pn σ H s' ∧ bs i = true ∧ i < ys.length ∧ ∀ m, m < i → bs m = false) := by
  intro i s' q
  obtain ⟨⟨H1, I1, e1⟩, all⟩ := id q
  obtain ⟨z, its, k, r, e⟩ := I1.hok l _ (e1 _ _ hl)
  refine ⟨its.toArray, k, e, by rw [List.size_toArray, ← r.length], fun h1 => ?_⟩
  have hx : i < ys.length := by rw [r.length]; simpa using h1
  obtain ⟨v, hv, rv⟩ := r.get (List.getElem?_eq_getElem hx)
  have g1 : its[i]? = some its.toArray[i] := by
    have h1' : i < its.length := by simpa using h1
    rw [List.getElem?_eq_getElem h1'] <;> simp
  rw [g1] at hv
  rw [Option.some.inj hv]
  refine wpAny_mono (h X.A.in1 pn s' σ H1 _ _ v u (bs i) sb.in1 I1 rv ry (hD _ _ _ _ _ e1 (p i _ (List.getElem?_eq_getElem hx)))) (fun r s2 q2 => ?_) fun _ _ x => x
  obtain ⟨hr, H2, I2, e2⟩ := q2
  cases hb : bs i with
  | false => exact .inl ⟨by rw [hr, hb], ⟨H2, I2, e1.trans e2⟩, fun j hj => by
      rcases Nat.lt_or_ge j i with c | c
      · exact all j c
      · rw [show j = i by omega]; exact hb⟩
  | true => exact .inr ⟨by rw [hr, hb], ⟨H2, I2, e1.trans e2⟩, hb, hx, all⟩
def AnyB (bs : Nat → Bool) (N : Nat) (b : Bool) : Prop := (b = true ∧ ∃ i, i < N ∧ bs i = true) ∨ (b = false ∧ ∀ i, i < N → bs i = false)
def rNotInB (D : EqvB) : R2 := fun x y H Q => ∃ (l : Addr) (ys : List V) (bs : Nat → Bool) (b : Bool), y = .ref l ∧ H l = some (.lst ys) ∧ Each D ys x bs H ∧ AnyB bs ys.length b ∧ ∀ H', Ext H H' → Q (.bl (!b)) H'
theorem op_notInB (hD : MonB D) (h : EqB X n D) (hr : Room (n + 1) X.A) : OpR X (compareOp .NotIn) (rNotInB D) := by
  intro pn s σ H x y v u Q I rx ry hq
  obtain ⟨l, ys, bs, b, rfl, hl, p, hb, q⟩ := hq
  cases ry
  refine notIn_own (N := ys.length) _ _ (items_of hD h (pn := pn) (σ := σ) ⟨hr, rfl⟩ hl rx p) (fun s' z => ?_) (fun i s' z => ?_) ⟨⟨H, I, Ext.rfl'⟩, fun j hj => absurd hj (by omega)⟩
  · obtain ⟨⟨H', I', e⟩, all⟩ := z
    rcases hb with ⟨rfl, i, hi, hbi⟩ | ⟨rfl, _⟩
    · rw [all i hi] at hbi
      cases hbi
    · exact ⟨.bl true, H', I', rfl, q H' e⟩
  · obtain ⟨⟨H', I', e⟩, hbi, hi, bef⟩ := z
    rcases hb with ⟨rfl, _⟩ | ⟨rfl, all⟩
    · exact ⟨.bl false, H', I', rfl, q H' e⟩
    · rw [all i hi] at hbi
      cases hbi
def rInB (D : EqvB) : R2 := fun x y H Q => ∃ (l : Addr) (ys : List V) (bs : Nat → Bool) (b : Bool), y = .ref l ∧ H l = some (.lst ys) ∧ Each D ys x bs H ∧ AnyB bs ys.length b ∧ ∀ H', Ext H H' → Q (.bl b) H'
theorem op_inB (hD : MonB D) (h : EqB X n D) (hr : Room (n + 1) X.A) : OpR X (compareOp .In) (rInB D) := by
  intro pn s σ H x y v u Q I rx ry hq
  obtain ⟨l, ys, bs, b, rfl, hl, p, hb, q⟩ := hq
  cases ry
  refine in_own (N := ys.length) _ _ (items_of hD h (pn := pn) (σ := σ) ⟨hr, rfl⟩ hl rx p) (fun s' z => ?_) (fun i s' z => ?_) ⟨⟨H, I, Ext.rfl'⟩, fun j hj => absurd hj (by omega)⟩
  · obtain ⟨⟨H', I', e⟩, all⟩ := z
    rcases hb with ⟨rfl, i, hi, hbi⟩ | ⟨rfl, _⟩
    · rw [all i hi] at hbi
      cases hbi
    · exact ⟨.bl false, H', I', rfl, q H' e⟩
  · obtain ⟨⟨H', I', e⟩, hbi, hi, bef⟩ := z
    rcases hb with ⟨rfl, _⟩ | ⟨rfl, all⟩
    · exact ⟨.bl true, H', I', rfl, q H' e⟩
    · rw [all i hi] at hbi
      cases hbi
/-- l.index(x): the first place of an equal one -/
def rIndexB (D : EqvB) : V → List V → Hp → VK → Prop := fun x xs H Q => ∃ (l : Addr) (ys : List V) (y : V) (bs : Nat → Bool) (j : Nat), x = V.ref l ∧ xs = [y] ∧ H l = some (.lst ys) ∧ Each D ys y bs H ∧ j < ys.length ∧ bs j = true ∧ (∀ m, m < j → bs m = false) ∧ ∀ H', Ext H H' → Q (.int (j : Nat)) H'
theorem mt_indexB (hD : MonB D) (h : EqB X n D) (hr : Room (n + 1) X.A) : MtR X "list.index" (rIndexB D) := by
  intro pn s σ H x xs v us Q I rx rxs hq
  obtain ⟨l, ys, y, bs, j, rfl, rfl, hl, p, hj, hbj, no, q⟩ := hq
  cases rx
  cases rxs with
  | cons ry rt =>
    rename_i uy ut
    cases rt
    obtain ⟨z, _⟩ := I.hok l _ hl
    have zz : ys.length ≤ sizeLine := z
    have hsl := sizeLine_eq
    refine index_own (N := ys.length) (by omega) _ _ (items_of hD h (pn := pn) (σ := σ) ⟨hr, rfl⟩ hl ry p) (fun s' z => ?_) (fun i s' _ z => ?_) ⟨⟨H, I, Ext.rfl'⟩, fun j hj => absurd hj (by omega)⟩
    · obtain ⟨_, all⟩ := z
      rw [all j hj] at hbj
      cases hbj
    · obtain ⟨⟨H', I', e⟩, hbi, hi, bef⟩ := z
      have ij : i = j := by
        rcases Nat.lt_trichotomy i j with c | c | c
        · rw [no i c] at hbi
          cases hbi
        · exact c
        · rw [bef j c] at hbj
          cases hbj
      subst ij
      exact ⟨.int (i : Nat), H', I'.tok _, ⟨_, rfl⟩, q H' e⟩
end Fr
set_option Elab.async false
set_option linter.all false
set_option maxRecDepth 100000
set_option maxHeartbeats 1000000
set_option exponentiation.threshold 100000
namespace K34
open PySem PySem.Spec PyProof.Rows L2 Fa Fb
/-! ### rows -/
structure It where
  q : Addr
  a : Addr
  s : Str
  t : Int
  u : Int
def ItOk (K : PySem.W.Frag) (n : Nat) (H : Hp) (g : It) : Prop := H g.q = some (.tup [.str g.s, .ref g.a]) ∧ IsA K H (.ref g.a) g.t g.u n
theorem ItOk.same {K : PySem.W.Frag} {n : Nat} {H H' : Hp} {g : It} (h : ItOk K n H g) (s : Same H H') : ItOk K n H' g := ⟨s _ _ h.1, h.2.same s⟩
theorem ItOk.mono {K : PySem.W.Frag} {n m : Nat} {H : Hp} {g : It} (h : ItOk K n H g) (e : n ≤ m) : ItOk K m H g := ⟨h.1, h.2.mono e⟩
structure RowOk (K : PySem.W.Frag) (m : Nat) (H : Hp) (p : Addr) (gs : List It) : Prop where
  l : H p = some (.lst (gs.map fun g => V.ref g.q))
  ok : ∀ g ∈ gs, ItOk K m H g
  n : gs.length ≤ 40
theorem RowOk.same {K : PySem.W.Frag} {n : Nat} {H H' : Hp} {p : Addr} {gs : List It} (h : RowOk K n H p gs) (s : Same H H') : RowOk K n H' p gs := ⟨s _ _ h.l, fun g hg => (h.ok g hg).same s, h.n⟩
theorem RowOk.mono {K : PySem.W.Frag} {n m : Nat} {H : Hp} {p : Addr} {gs : List It} (h : RowOk K n H p gs) (e : n ≤ m) : RowOk K m H p gs := ⟨h.l, fun g hg => (h.ok g hg).mono e, h.n⟩
def rv (gs : List It) : M04.Row := gs.map fun g => (g.s, vq g.t g.u)
abbrev sPar : Stmt := top 33
abbrev sExt : Stmt := top 34
theorem scPar : FnScope ["row", "unit"] ["row", "unit"] (defScope sPar) := ⟨rfl, rfl, rfl, by decide +kernel, rfl, by decide +kernel, by decide +kernel⟩
theorem scExt : FnScope ["row", "unit", "amount", "before", "last", "shift"] ["row", "unit", "amount"] (defScope sExt) := ⟨rfl, rfl, rfl, by decide +kernel, rfl, by decide +kernel, by decide +kernel⟩
def spPart (K : PySem.W.Frag) : Sp := fun vs H Q _ => ∃ (p : Addr) (gs : List It) (z : Str) (m : Nat), vs = [.ref p, .str z] ∧ RowOk K m H p gs ∧ 1 ≤ m ∧ m ≤ 6000 ∧ ∀ H' w l a hs t u, Same H H' → H' w = some (.tup [.ref l, .ref a]) → RowOk K m H' l hs → IsA K H' (.ref a) t u m → M04.part (rv gs) z = (rv hs, vq t u) → hs.length ≤ gs.length → H l = none → Q (.ref w) H'
def spExt (K : PySem.W.Frag) : Sp := fun vs H Q _ => ∃ (p : Addr) (gs : List It) (z : Str) (y : V) (q : Rat) (m k : Nat), vs = [.ref p, .str z, y] ∧ RowOk K m H p gs ∧ gs.length < 40 ∧ 1 ≤ m ∧ m + k ≤ 6000 ∧ QA K H y q k ∧ ∀ H' l hs, Same H H' → RowOk K (m + k + 1) H' l hs → rv hs = M04.ext (rv gs) z q → hs.length ≤ gs.length + 1 → H l = none → Q (.ref l) H'
theorem none_of {H H' : Hp} {p : Addr} (s : Same H H') (h : H' p = none) : H p = none := by
  cases e : H p with
  | none => rfl
  | some o =>
    rw [s _ _ e] at h
    cases h
def sParR (K : PySem.W.Frag) (gs : List It) (p : Addr) (z : Str) (Q : VK) (H : Hp) : TS := fun D σ H' => σ = [some (.ref p), some (.str z)] ∧ D.rt = Q ∧ M04.part (rv gs) z = (rv gs, 0) ∧ H = H'
theorem atI_end {α : Type} {xs : List α} {v : α} (h : xs[xs.length - 1]? = some v) : atI xs (-1) = some v := by
  have hl : 0 < xs.length := by
    rcases Nat.eq_zero_or_pos xs.length with e | e
    · have : xs = [] := List.eq_nil_of_length_eq_zero e
      subst this
      cases h
    · exact e
  have e : ixN xs.length (-1) = some (xs.length - 1) := by
    unfold ixN
    rw [if_neg (by decide), if_pos (by omega)]
    congr 1
    omega
  unfold atI
  rw [e]
  exact h
theorem am_dec {t u t2 u2 : Int} (r : Am.Red t u) (r2 : Am.Red t2 u2) : (decide (t = t2) && decide (u = u2)) = decide (vq t u = vq t2 u2) := by
  by_cases c : vq t u = vq t2 u2
  · obtain ⟨a, b⟩ := vq_inj r r2 c
    rw [decide_eq_true a, decide_eq_true b, decide_eq_true c]
    rfl
  · rw [decide_eq_false c]
    cases h : (decide (t = t2) && decide (u = u2)) with
    | false => rfl
    | true =>
      rw [Bool.and_eq_true, decide_eq_true_eq, decide_eq_true_eq] at h
      exact absurd (by rw [h.1, h.2]) c
theorem rv_last {gs : List It} {g : It} (h : gs[gs.length - 1]? = some g) : (rv gs).getLast? = some (g.s, vq g.t g.u) := by
  unfold rv
  rw [List.getLast?_eq_getElem?, List.length_map, List.getElem?_map, h]
  rfl
section
variable {P : Program} {w : World} {K : PySem.W.Frag} {mg : Str → Option Value} {base : Heap} {f fA fP fI fE : Addr} {fd fdA fdP fdI fdE : FuncData}
theorem ok_par (F : FnP K "parted" sPar f fd) (T : AF K mg) (mL : mg "len" = none) (mLi : mg "list" = none) (GI : FnOk P w K mg base (L2.CX P w) 4 (aI K) fdI ["self", "top", "bottom"] (spInit K)) {ds : List Value} (hds : Vals [.int 1] ds) (bI : Binds K fdI ["self", "top", "bottom"] ds) :
    FnOk P w K mg base (L2.CX P w) 6 f fd ["row", "unit"] (spPart K) := by
  refine F.ok scPar (fun vs H Q E h => ?_) (fun cdv A outer s H vs Q E hr h => ?_)
  · obtain ⟨p, gs, z, m, rfl, _⟩ := h
    rfl
  · obtain ⟨p, gs, z, m, rfl, hp, hm1, hm, k⟩ := h
    have hr5 := hr.mono (show 5 ≤ 5 by decide)
    refine ⟨_, (pss_cons (ps_if (PW.pt (pw_and (pt_cmpR op_gt (pe_callB call_len rfl mL PySem.boot_len (pa_cons (pv 0) pa_nil)) pe_int (nomark _)) (pw_and1 (pt_cmpR op_eq (pe_ix ix_tup (pe_ix ix_list (pv 0) (pe_un un_neg pe_int) (fun _ _ => rfl)) pe_int (fun _ _ => rfl)) (pv 1) (nomark _))))) (pss_one (ps_ret (pe_tup (pa_cons (pe_slice sl_list (pv 0) po_none (po_some (pe_un un_neg pe_int))) (pa_cons (pe_ix ix_tup (pe_ix ix_list (pv 0) (pe_un un_neg pe_int) (fun _ _ => rfl)) pe_int (fun _ _ => rfl)) pa_nil))))) pss_nil)
      (pss_imp (S := sParR K gs p z Q H) (pss_one (ps_ret (pe_tup (pa_cons (pe_callTy call_list_of rfl mLi (by decide +kernel : bootBuiltins "list" = some (.type "list")) (pa_cons (pv 0) pa_nil)) (pa_cons (pe_make T.mkA GI hr5 rfl T.g bI hds passL (pa_cons pe_int pa_nil)) pa_nil))))) ?rest)), ?_⟩
    have gl := hp.n
    case rest =>
      rintro D σ H1 ⟨rfl, hD, pe, eH⟩
      subst eH
      refine ⟨_, rfl, p, _, rfl, .inl (SqL.of hp.l), fun l hl => ?_⟩
      have s1 := Same.upd (o := .lst (gs.map fun g => V.ref g.q)) hl
      have hl1 : upd H l (HO.lst (gs.map fun g => V.ref g.q)) l = some (HO.lst (gs.map fun g => V.ref g.q)) := upd_same
      generalize upd H l (HO.lst (gs.map fun g => V.ref g.q)) = H2 at s1 hl1 ⊢
      refine fun y dy hy hdy hne => spInit_imp (make_fact T (n := 1) (a := 0) (b := 1) (by decide) (by decide) (by decide) (by decide) hy hdy hne) fun v3 H3 ⟨hv, t, u, s3, iy, e3⟩ => ⟨hv, ?_⟩
      refine ⟨by show 2 ≤ sizeLine; decide, fun q hq => ?_⟩
      have s4 := Same.upd (o := .tup [.ref l, .ref y]) hq
      rw [hD]
      obtain ⟨_, _, _, _, ⟨u0, _⟩, _⟩ := id iy
      refine k _ q l y gs t u (s1.trans (s3.trans s4)) upd_same ⟨s4 _ _ (s3 _ _ hl1), fun g hg => (hp.ok g hg).same (s1.trans (s3.trans s4)), hp.n⟩ ((iy.same s4).mono hm1) ?_ (Nat.le_refl _) hl
      rw [pe, (vq_eq (Int.ne_of_gt u0) (by decide)).mpr e3, vq_zero]
    refine ⟨_, rfl, _, (gs.map fun g => V.ref g.q).length, rfl, .inl ⟨_, SqL.of hp.l, rfl⟩, _, _, rfl, rfl, _, rfl, ?_⟩
    rw [List.length_map]
    by_cases c0 : gs.length = 0
    · refine if_false_of (decide_eq_false (by omega)) ?_
      refine iteF ⟨rfl, rfl, ?_, rfl⟩
      rw [List.eq_nil_of_length_eq_zero c0]
      rfl
    · refine if_true_of (decide_eq_true (by omega)) ?_
      have h1 : gs.length - 1 < gs.length := by omega
      have eg : gs[gs.length - 1]? = some gs[gs.length - 1] := List.getElem?_eq_getElem h1
      generalize gs[gs.length - 1] = g at eg
      have em : (gs.map fun g => V.ref g.q)[(gs.map fun g => V.ref g.q).length - 1]? = some (V.ref g.q) := by rw [List.length_map, List.getElem?_map, eg]; rfl
      have ea : atI (gs.map fun g => V.ref g.q) (-1) = some (V.ref g.q) := atI_end em
      obtain ⟨hg1, hg2⟩ := hp.ok g (List.mem_of_getElem? eg)
      refine ⟨_, rfl, _, rfl, p, _, -1, _, rfl, rfl, SqL.of hp.l, ea, g.q, _, 0, _, rfl, rfl, SqT.of hg1, rfl, _, rfl, rfl, _, rfl, ?_⟩
      have pt : M04.part (rv gs) z = if g.s = z then ((rv gs).dropLast, vq g.t g.u) else (rv gs, 0) := by
        unfold M04.part
        rw [rv_last eg]
      by_cases c : g.s = z
      · rw [decide_eq_true (by rw [c])]
        rw [if_pos c] at pt
        refine iteT ⟨_, rfl, _, rfl, _, rfl, p, _, rfl, SqL.of hp.l, fun l hl => ?_⟩
        have ec : cutV (gs.map fun g => V.ref g.q) none (some (-1)) = (gs.dropLast).map fun g => V.ref g.q := by
          show List.take ((-1 + ((gs.map fun g => V.ref g.q).length : Int)).toNat - 0) (gs.map fun g => V.ref g.q) = _
          rw [List.length_map, Nat.sub_zero, show (-1 + (gs.length : Int)).toNat = gs.length - 1 by omega, ← List.map_take, List.dropLast_eq_take]
        rw [ec]
        have s1 := Same.upd (o := .lst (gs.dropLast.map fun g => V.ref g.q)) hl
        have hl1 : upd H l (HO.lst (gs.dropLast.map fun g => V.ref g.q)) l = some (HO.lst (gs.dropLast.map fun g => V.ref g.q)) := upd_same
        generalize upd H l (HO.lst (gs.dropLast.map fun g => V.ref g.q)) = H2 at s1 hl1 ⊢
        refine ⟨_, rfl, _, rfl, p, _, -1, _, rfl, rfl, SqL.of (s1 _ _ hp.l), ea, g.q, _, 1, _, rfl, rfl, SqT.of (s1 _ _ hg1), rfl, by show 2 ≤ sizeLine; decide, fun q hq => ?_⟩
        have s4 := Same.upd (o := .tup [.ref l, .ref g.a]) hq
        refine k _ q l g.a gs.dropLast g.t g.u (s1.trans s4) upd_same ⟨s4 _ _ hl1, fun g hg => (hp.ok g (List.dropLast_subset _ hg)).same (s1.trans s4), by have := hp.n; rw [List.length_dropLast]; omega⟩ (hg2.same (s1.trans s4)) ?_ (by rw [List.length_dropLast]; omega) hl
        rw [pt]
        congr 1
        unfold rv
        rw [List.map_dropLast]
      · rw [decide_eq_false fun e => c (V.str.inj e)]
        rw [if_neg c] at pt
        exact iteF ⟨rfl, rfl, pt, rfl⟩
theorem qa_zero {K : PySem.W.Frag} {H : Hp} {x : V} {t u : Int} {n : Nat} (h : IsA K H x t u n) : (decide (t = 0) && decide (u = 1)) = decide (vq t u = 0) := by
  obtain ⟨_, _, _, _, r, _⟩ := id h
  rw [← vq_zero]
  exact am_dec r (by refine ⟨by decide, ?_⟩; decide)
theorem ok_ext (F : FnP K "extended" sExt f fd) (T : AF K mg) (EQ : EqK P w K mg base fE fdE) (OA : OpK P w K mg base "add" 7 (spAdd K) fA fdA) (PA : Fn P w K mg base "parted" 6 ["row", "unit"] (spPart K) fP fdP) (GI : FnOk P w K mg base (L2.CX P w) 4 (aI K) fdI ["self", "top", "bottom"] (spInit K)) {ds : List Value} (hds : Vals [.int 1] ds) (bI : Binds K fdI ["self", "top", "bottom"] ds) :
    FnOk P w K mg base (L2.CX P w) 8 f fd ["row", "unit", "amount"] (spExt K) := by
  refine F.ok scExt (fun vs H Q E h => ?_) (fun cdv A outer s H vs Q E hr h => ?_)
  · obtain ⟨p, gs, z, y, q, m, k, rfl, _⟩ := h
    rfl
  · obtain ⟨p, gs, z, y, q, m, kb, rfl, hp, gl, hm1, hm, ⟨ty, uy, iy, rfl⟩, k⟩ := h
    have hr1 := hr.mono (show 1 ≤ 7 by decide)
    have hr5 := hr.mono (show 5 ≤ 7 by decide)
    have hr6 := hr.mono (show 6 ≤ 7 by decide)
    have hr7 := hr.mono (show 7 ≤ 7 by decide)
    refine ⟨_, (pss_cons (ps_asg (pe_call PA.ok hr6 rfl PA.g PA.k PA.b .nil passL (pa_cons (pv 0) (pa_cons (pv 1) pa_nil))) (pg_tup (by rfl) (pgs_cons (pg_name (i := 3) scExt.nd rfl (Or.inl rfl)) (pgs_cons (pg_name (i := 4) scExt.nd rfl (Or.inl rfl)) pgs_nil))))
      (pss_cons (ps_set (i := 5) scExt.nd rfl (Or.inl rfl) (pe_binX (op := .Add) OA.op.own OA.ok hr7 OA.b passS (pv 4) (pv 2)))
      (pss_one (ps_ret (pe_ifExp (pt_cmp (pe_eqX EQ.at_ EQ.fn EQ.ok hr1 EQ.b passS (pv 5) (pe_make T.mkA GI hr5 rfl T.g bI hds passL (pa_cons pe_int pa_nil)))) (pv 3) (pe_op op_cat (pv 3) (pe_lst (pa_cons (pe_tup (pa_cons (pv 1) (pa_cons (pv 5) pa_nil))) pa_nil)))))))), ?_⟩
    refine ⟨_, rfl, _, rfl, p, gs, z, m, rfl, hp, hm1, by omega, fun H1 w l a hs t u s1 hw hl ia pe hle lnone => ?_⟩
    have iy1 := iy.same s1
    obtain ⟨pa, da, ea, ha, ⟨u0, _⟩, _⟩ := id ia
    obtain ⟨py, dy, ey, hy, ⟨uy0, _⟩, _⟩ := id iy1
    refine ⟨w, _, rfl, SqT.of hw, rfl, _, _, rfl, _, _, rfl, rfl, ?_⟩
    refine ⟨_, rfl, _, rfl, pa, da, _, ea, ha, OA.op.arg (.inl iy1), _, _, _, _, _, rfl, ia, .inr ⟨_, _, _, .inl iy1, by omega, fun z2 H2 t2 u2 s2 iz ez => ?_⟩⟩
    obtain ⟨pz, dz, rfl, hz, ⟨uz, _⟩, _⟩ := id iz
    have sv := vq_add (Int.ne_of_gt u0) (Int.ne_of_gt uy0) (Int.ne_of_gt uz) ez
    refine ⟨_, rfl, fun y3 dy3 h3 hd3 n3 => spInit_imp (make_fact T (n := 1) (a := 0) (b := 1) (by decide) (by decide) (by decide) (by decide) h3 hd3 n3) fun v3 H3 ⟨hv, t3, u3, s3, i3, e3⟩ => ⟨hv, ?_⟩⟩
    obtain ⟨p3, d3, eq3, hp3, r3, _⟩ := id i3
    have e30 : t3 = 0 ∧ u3 = 1 := Am.uniq r3 (by refine ⟨by decide, ?_⟩; decide) (by rw [e3])
    obtain ⟨rfl, rfl⟩ := e30
    refine ⟨pz, dz, _, rfl, s3 _ _ hz, .inl ⟨_, _, _, rfl, by cases eq3; exact hp3⟩, _, _, _, _, _, rfl, iz.same s3, .inl ⟨_, _, _, i3, _, rfl, ?_⟩⟩
    rw [qa_zero iz]
    have ex : M04.ext (rv gs) z (vq ty uy) = if vq t2 u2 = 0 then rv hs else rv hs ++ [(z, vq t2 u2)] := by
      unfold M04.ext
      rw [pe, ← sv]
    have s13 := s1.trans (s2.trans s3)
    by_cases c : vq t2 u2 = 0
    · rw [decide_eq_true c]
      rw [if_pos c] at ex
      refine iteT ⟨_, rfl, ?_⟩
      exact k _ l hs s13 ((hl.same (s2.trans s3)).mono (by omega)) ex.symm (by omega) lnone
    · rw [decide_eq_false c]
      rw [if_neg c] at ex
      refine iteF ⟨_, rfl, _, rfl, _, rfl, by show 2 ≤ sizeLine; decide, fun q4 h4 => ⟨by show 1 ≤ sizeLine; decide, fun l5 h5 => ?_⟩⟩
      have s4 := Same.upd (o := .tup [.str z, .ref pz]) h4
      have s5 := Same.upd (o := .lst [.ref q4]) h5
      refine ⟨l, l5, _, _, rfl, rfl, s5 _ _ (s4 _ _ (s3 _ _ (s2 _ _ hl.l))), upd_same, ?_, fun r6 h6 => ?_⟩
      · rw [List.length_map]
        exact Nat.le_trans (show hs.length + 1 ≤ 100 by omega) (by decide)
      · have s6 := Same.upd (o := .lst ((hs.map fun g => V.ref g.q) ++ [.ref q4])) h6
        have s36 := s4.trans (s5.trans s6)
        refine k _ r6 (hs ++ [⟨q4, pz, z, t2, u2⟩]) (s13.trans s36) ⟨by rw [upd_same, List.map_append]; rfl, fun g hg => ?_, by rw [List.length_append]; show hs.length + 1 ≤ 40; omega⟩ ?_ (by rw [List.length_append]; show hs.length + 1 ≤ _; omega) (none_of (s13.trans (s4.trans s5)) h6)
        · rcases List.mem_append.mp hg with hg | hg
          · exact ((hl.ok g hg).same ((s2.trans s3).trans s36)).mono (by omega)
          · rw [List.mem_singleton] at hg
            rw [hg]
            exact ⟨s6 _ _ (s5 _ _ upd_same), iz.same (s3.trans s36)⟩
        · rw [ex]
          unfold rv
          rw [List.map_append]
          rfl
end
end K34
set_option Elab.async false
set_option linter.all false
set_option maxRecDepth 100000
set_option maxHeartbeats 1000000
set_option exponentiation.threshold 100000
namespace K34
open PySem PySem.Spec PyProof.Rows L2 Fa Fb
/-- == of two points -/
def DAm (K : PySem.W.Frag) : Fq.EqvB := fun x y b H => ∃ t u n t2 u2 m, IsA K H x t u n ∧ IsA K H y t2 u2 m ∧ b = (decide (t = t2) && decide (u = u2))
theorem monB_am {K : PySem.W.Frag} : Fq.MonB (DAm K) := fun x y b H H' e ⟨t, u, n, t2, u2, m, h1, h2, h3⟩ => ⟨t, u, n, t2, u2, m, h1.same e, h2.same e, h3⟩
theorem am_same {x y : V} {K : PySem.W.Frag} {b : Bool} {H : Hp} (d : DAm K x y b H) : ∃ a c, x = .ref a ∧ y = .ref c ∧ (a = c → b = true) := by
  obtain ⟨t, u, n, t2, u2, m, ⟨p, dx, rfl, hp, _⟩, ⟨p2, dx2, rfl, hp2, _⟩, rfl⟩ := d
  refine ⟨p, p2, rfl, rfl, fun e => ?_⟩
  subst e
  rw [hp] at hp2
  have ef := (HO.ins.inj (Option.some.inj hp2)).2.2
  have e1 : t = t2 := by
    have := fl_top t u
    rw [ef, fl_top] at this
    cases this
    rfl
  have e2 : u = u2 := by
    have := fl_bot t u
    rw [ef, fl_bot] at this
    cases this
    rfl
  rw [e1, e2]
  simp
theorem rc_am {X : Cx} {f : Addr} {fd : FuncData} (EQ : EqK X.prog X.w X.K X.mg X.base f fd) : Fq.RcB X 1 (DAm X.K) := by
  intro A pins s σ H x y u v b sb I rx ry d
  obtain ⟨t, u', n, t2, u2, m, h1, h2, rfl⟩ := d
  obtain ⟨a, dx, rfl, ha, r1⟩ := id h1
  obtain ⟨c, dy, rfl, hc, r2⟩ := id h2
  cases rx
  cases ry
  obtain ⟨mA, J, _⟩ := ins_get I.hok ha
  obtain ⟨mB, J', _⟩ := ins_get I.hok hc
  obtain ⟨od, J, _⟩ := J.look
  obtain ⟨od', J', _⟩ := J'.look
  obtain ⟨m', hF⟩ := I.fr
  refine PySem.W.cmp_K (op := .Eq) (tb := .ref (CA X.K)) sb.room.units0 hF I.ok.mod.kin J J'.type (by simp [PySem.W.notFirst]) EQ.at_ EQ.fn ?_
  have hsp : spEq X.K [.ref a, .ref c] H (fun z H' => z = .bl (decide (t = t2) && decide (u' = u2)) ∧ H' = H) E0 := ⟨_, _, t, u', n, rfl, h1, .inl ⟨t2, u2, m, h2, rfl, rfl⟩⟩
  have e0 : Env0 X.prog X.w X.K X.mg X.base A X.stack s H := by
    have e := I.env0
    exact ⟨by rw [sb.fr]; exact e.frames, e.mod, e.bs, e.bsz, e.funs, e.frf, e.hok, e.bare⟩
  have vals : Vals [V.ref a, V.ref c] [Value.ref a, Value.ref c] := .cons rfl (.cons rfl .nil)
  have kin := I.kIn
  refine wpAny_call (codeAny_mono (EQ.ok.run A X.stack s H ⟨[.ref a, .ref c], []⟩ [.ref a, .ref c] [.ref a, .ref c] _ E0 sb.room e0 (by
    have := EQ.b s [.ref a, .ref c] kin rfl
    simpa using this) vals hsp) fun r s' hq => ?_)
  cases r with
  | error e => exact passL pins σ H s e s' I hq
  | ok fl =>
    cases fl with
    | ret w =>
      obtain ⟨z, H', I', rz, ez, ex⟩ := I.after hq
      subst ez
      cases rz
      exact ⟨rfl, H', I', by rw [ex]; exact Ext.rfl'⟩
    | next => exact False.elim hq
    | brk => exact False.elim hq
    | cont => exact False.elim hq

/-! ### == of flat values, amounts, and both -/
def DFl : Fq.EqvB := fun x y b _ => flatV x = true ∧ flatV y = true ∧ eqV x y = b
theorem monB_fl : Fq.MonB DFl := fun _ _ _ _ _ _ d => d
theorem eqB_fl {X : Cx} : Fq.EqB X 0 DFl := by
  intro A pins s σ H x y u v b sb I rx ry d
  obtain ⟨fx, fy, e⟩ := d
  have q := eqAt_V (A := A) (s := s) rx ry fx fy
  rw [e] at q
  exact q X.prog X.w X.xe _ ⟨rfl, H, I, Ext.rfl'⟩
theorem eqB_mono {X : Cx} {n m : Nat} {D : Fq.EqvB} (h : Fq.EqB X n D) (e : n ≤ m) : Fq.EqB X m D := fun A pins s σ H x y u v b sb I rx ry d => h A pins s σ H x y u v b ⟨sb.room.mono e, sb.fr⟩ I rx ry d
def DMix (K : PySem.W.Frag) : Fq.EqvB := fun x y b H => DFl x y b H ∨ DAm K x y b H
theorem monB_mix {K : PySem.W.Frag} : Fq.MonB (DMix K) := fun x y b H H' e d => d.imp (monB_fl _ _ _ _ _ e) (monB_am _ _ _ _ _ e)
theorem eqB_mix {X : Cx} {f : Addr} {fd : FuncData} (EQ : EqK X.prog X.w X.K X.mg X.base f fd) : Fq.EqB X 1 (DMix X.K) := by
  intro A pins s σ H x y u v b sb I rx ry d
  rcases d with d | d
  · exact eqB_mono eqB_fl (Nat.zero_le _) A pins s σ H x y u v b sb I rx ry d
  · exact ((rc_am EQ).eqB fun _ _ _ _ d => am_same d) A pins s σ H x y u v b sb I rx ry d
theorem allB_nil {D : Fq.EqvB} {H : Hp} : Fq.AllB D [] [] true H := .inr ⟨rfl, fun _ => true, (fun i x y e => by cases e), .inl ⟨rfl, fun i h => absurd h (Nat.not_lt_zero _)⟩⟩
theorem allB_cons {D : Fq.EqvB} {H : Hp} {x y : V} {xs ys : List V} {a b : Bool} (d : D x y a H) (p : Fq.AllB D xs ys b H) : Fq.AllB D (x :: xs) (y :: ys) (a && b) H := by
  rcases p with ⟨ne, rfl⟩ | ⟨el, bs, pb, hb⟩
  · exact .inl ⟨by simpa using ne, by simp⟩
  · refine .inr ⟨by simpa using el, fun i => match i with | 0 => a | i + 1 => bs i, fun i x' y' e1 e2 => ?_, ?_⟩
    · cases i with
      | zero => cases e1; cases e2; exact d
      | succ i => exact pb i x' y' e1 e2
    · cases a with
      | false => exact .inr ⟨rfl, 0, Nat.succ_pos _, rfl⟩
      | true =>
        rcases hb with ⟨rfl, all⟩ | ⟨rfl, i, hi, e⟩
        · refine .inl ⟨rfl, fun i hi => ?_⟩
          cases i with
          | zero => rfl
          | succ i => exact all i (Nat.lt_of_succ_lt_succ hi)
        · exact .inr ⟨rfl, i + 1, Nat.succ_lt_succ hi, e⟩
theorem dec_cons {α : Type} [DecidableEq α] {x y : α} {xs ys : List α} : (decide (x = y) && decide (xs = ys)) = decide (x :: xs = y :: ys) := by
  by_cases c : x = y
  · by_cases c2 : xs = ys
    · subst c c2; simp
    · simp [c, c2]
  · simp [c]
theorem allB_map {D : Fq.EqvB} {H : Hp} {α β : Type} [DecidableEq α] {v : β → V} {f : β → α} : ∀ {gs hs : List β}, (∀ g ∈ gs, ∀ h ∈ hs, D (v g) (v h) (decide (f g = f h)) H) → Fq.AllB D (gs.map v) (hs.map v) (decide (gs.map f = hs.map f)) H
  | [], [], _ => allB_nil
  | [], h :: hs, _ => .inl ⟨by simp, by simp⟩
  | g :: gs, [], _ => .inl ⟨by simp, by simp⟩
  | g :: gs, h :: hs, p => by
    rw [List.map_cons, List.map_cons, List.map_cons, List.map_cons, ← dec_cons]
    exact allB_cons (p g List.mem_cons_self h List.mem_cons_self) (allB_map fun a ha b hb => p a (List.mem_cons_of_mem _ ha) b (List.mem_cons_of_mem _ hb))
theorem tupB_same {K : PySem.W.Frag} {x y : V} {b : Bool} {H : Hp} (d : Fq.DTupB (DMix K) x y b H) : ∃ a c, x = .ref a ∧ y = .ref c ∧ (a = c → b = true) := by
  obtain ⟨a, c, xs, ys, rfl, rfl, h1, h2, hl, p⟩ := d
  refine ⟨a, c, rfl, rfl, fun e => ?_⟩
  subst e
  rw [h1] at h2
  cases h2
  rcases p with ⟨ne, _⟩ | ⟨_, bs, pb, ⟨e, _⟩ | ⟨_, i, hi, eb⟩⟩
  · exact absurd rfl ne
  · exact e
  · have ei : xs[i]? = some xs[i] := List.getElem?_eq_getElem hi
    exfalso
    rcases pb i _ _ ei ei with ⟨f1, _, e⟩ | d
    · rw [eb] at e
      generalize xs[i] = z at f1 e
      cases z <;> simp [eqV, flatV] at e f1
    · obtain ⟨p, q, e1, e2, hs⟩ := am_same d
      rw [hs (V.ref.inj (e1.symm.trans e2))] at eb
      cases eb
theorem rc_row {X : Cx} {f : Addr} {fd : FuncData} (EQ : EqK X.prog X.w X.K X.mg X.base f fd) : Fq.RcB X 3 (Fq.DListB (Fq.DTupB (DMix X.K))) :=
  Fq.rcB_list (Fq.monB_tup monB_mix) ((Fq.rcB_tup monB_mix (eqB_mix EQ)).eqB fun _ _ _ _ d => tupB_same d)
theorem monB_list {D : Fq.EqvB} (hD : Fq.MonB D) : Fq.MonB (Fq.DListB D) := fun x y b H H' e d => by
  obtain ⟨a, c, xs, ys, hx, hy, h1, h2, p⟩ := d
  exact ⟨a, c, xs, ys, hx, hy, e _ _ h1, e _ _ h2, p.mon hD e⟩
theorem monB_row {K : PySem.W.Frag} : Fq.MonB (Fq.DListB (Fq.DTupB (DMix K))) := monB_list (Fq.monB_tup monB_mix)
theorem listB_same {D : Fq.EqvB} (hs : ∀ {x y b H}, D x y b H → ∃ a c, x = .ref a ∧ y = .ref c ∧ (a = c → b = true)) {x y : V} {b : Bool} {H : Hp} (d : Fq.DListB D x y b H) : ∃ a c, x = .ref a ∧ y = .ref c ∧ (a = c → b = true) := by
  obtain ⟨a, c, xs, ys, rfl, rfl, h1, h2, p⟩ := d
  refine ⟨a, c, rfl, rfl, fun e => ?_⟩
  subst e
  rw [h1] at h2
  cases h2
  rcases p with ⟨ne, _⟩ | ⟨_, bs, pb, ⟨e, _⟩ | ⟨_, i, hi, eb⟩⟩
  · exact absurd rfl ne
  · exact e
  · have ei : xs[i]? = some xs[i] := List.getElem?_eq_getElem hi
    obtain ⟨p, q, e1, e2, hs⟩ := hs (pb i _ _ ei ei)
    rw [hs (V.ref.inj (e1.symm.trans e2))] at eb
    cases eb
theorem eqB_row {X : Cx} {f : Addr} {fd : FuncData} (EQ : EqK X.prog X.w X.K X.mg X.base f fd) : Fq.EqB X 3 (Fq.DListB (Fq.DTupB (DMix X.K))) := (rc_row EQ).eqB fun _ _ _ _ d => listB_same tupB_same d
theorem strB {K : PySem.W.Frag} {a b : Str} {H : Hp} : DMix K (.str a) (.str b) (decide (a = b)) H := .inl ⟨rfl, rfl, by show (a == b) = _; rw [Bool.eq_iff_iff, beq_iff_eq, decide_eq_true_iff]⟩
theorem amB {K : PySem.W.Frag} {x y : V} {t u t2 u2 : Int} {n m : Nat} {H : Hp} (h : IsA K H x t u n) (h2 : IsA K H y t2 u2 m) : DMix K x y (decide (vq t u = vq t2 u2)) H := by
  obtain ⟨_, _, _, _, r, _⟩ := id h
  obtain ⟨_, _, _, _, r2, _⟩ := id h2
  exact .inr ⟨t, u, n, t2, u2, m, h, h2, (am_dec r r2).symm⟩
theorem dec_pair {α β : Type} [DecidableEq α] [DecidableEq β] {a b : α} {c d : β} : (decide (a = b) && (decide (c = d) && true)) = decide ((a, c) = (b, d)) := by
  by_cases h : a = b
  · by_cases h2 : c = d
    · simp [h, h2]
    · simp [h, h2]
  · simp [h]
theorem it_eqB {K : PySem.W.Frag} {n m : Nat} {H : Hp} {g h : It} (a : ItOk K n H g) (b : ItOk K m H h) : Fq.DTupB (DMix K) (.ref g.q) (.ref h.q) (decide ((g.s, vq g.t g.u) = (h.s, vq h.t h.u))) H := by
  refine ⟨g.q, h.q, _, _, rfl, rfl, a.1, b.1, rfl, ?_⟩
  rw [← dec_pair]
  exact allB_cons strB (allB_cons (amB a.2 b.2) allB_nil)
theorem row_eqB {K : PySem.W.Frag} {n m : Nat} {H : Hp} {p q : Addr} {gs hs : List It} (a : RowOk K n H p gs) (b : RowOk K m H q hs) : Fq.DListB (Fq.DTupB (DMix K)) (.ref p) (.ref q) (decide (rv gs = rv hs)) H :=
  ⟨p, q, _, _, rfl, rfl, a.l, b.l, allB_map fun g hg h hh => it_eqB (a.ok g hg) (b.ok h hh)⟩
end K34
set_option Elab.async false
set_option linter.all false
set_option maxRecDepth 100000
set_option maxHeartbeats 4000000
/-! x in o and len(o) by methods of o's own class. -/
namespace Fo
open PySem PySem.Spec PyProof.Rows L2
section
variable {X : Cx} {CX : CXT} {k : Nat} {f C : Addr} {fd : FuncData} {ps : List Str} {sp : Sp} {E : L2.St → XK} {a b e : Expr} {ta tb : TE} {pos p : Pos}
def tInX (C : Addr) (sp : Sp) (E : L2.St → XK) (neg : Bool) (ta tb : TE) : TE := fun σ H Q => ta σ H fun x H1 => tb σ H1 fun y H2 => ∃ p dx fs, y = .ref p ∧ H2 p = some (.ins C dx fs) ∧ sp [y, x] H2 (fun v H3 => ∃ k : Bool, v = .bl k ∧ Q (.bl (if neg then !k else k)) H3) (E σ)
theorem in_go (at_ : PySem.W.findIn X.K (.ref C) "__contains__" = some (some (.ref f))) (F : FnOk X.prog X.w X.K X.mg X.base CX k f fd ps sp) (hr : Room k X.A) (hb : Binds X.K fd ps []) {E0 : XK} {σ : L2.St} (hx : PassesAt CX X σ E0) {pins : List (Addr × Obj)} {H2 : Hp} {s2 : Shared} {p0 : Addr} {x : V} {v : Value} {Q : VK} {neg : Bool} (I2 : Inv X pins σ H2 s2) (rx : RelV x v)
    (q : sp [.ref p0, x] H2 (fun v H3 => ∃ k : Bool, v = .bl k ∧ Q (.bl (if neg then !k else k)) H3) E0) :
    wpAny (model X.prog X.w) X.A (call (.ref f) [.ref p0, v]) (fun r s' => wpAny (model X.prog X.w) X.A (truthy r) (fun b => EP X pins σ Q (.bool (if neg then !b else b))) X.xe s') X.xe s2 := by
  have hl : ([V.ref p0, x]).length = ps.length := F.len _ _ _ _ q
  refine wpAny_call (codeAny_mono (F.run X.A X.stack s2 H2 ⟨[.ref p0, v], []⟩ [.ref p0, v] [.ref p0, x] _ E0 hr I2.env0 (by
    have z := hb s2 [.ref p0, v] I2.kIn (by simpa using hl)
    simpa using z) (.cons rfl (.cons rx .nil)) q) fun r s' hq => ?_)
  cases r with
  | error e => exact hx pins H2 s2 e s' I2 hq
  | ok fl =>
    cases fl with
    | ret u =>
      obtain ⟨z, H', I', rz, kk, ez, q2⟩ := I2.after hq
      subst ez
      cases rz
      exact wpAny_truthy_bool ⟨.bl (if neg then !kk else kk), H', I', by cases neg <;> rfl, q2⟩
    | next => exact False.elim hq
    | brk => exact False.elim hq
    | cont => exact False.elim hq
theorem pc_inX (at_ : PySem.W.findIn X.K (.ref C) "__contains__" = some (some (.ref f))) (fn : PySem.W.isFn X.K (.ref f) = true) (F : FnOk X.prog X.w X.K X.mg X.base CX k f fd ps sp) (hr : Room k X.A) (hb : Binds X.K fd ps []) (hx : ∀ σ, PassesAt CX X σ (E σ)) (ha : PE X a ta) (hb2 : PE X b tb) :
    PC X .In a b (tInX C sp E false ta tb) := by
  refine ⟨fun pins s σ H Q I h => ?_⟩
  refine bin ha hb2 I h fun v u s2 x y H2 I2 rx ry q => ?_
  obtain ⟨p0, dx, fs, ey, hp, q⟩ := q
  subst ey
  obtain rfl : u = Value.ref p0 := ry
  obtain ⟨mA, O, _⟩ := ins_get I2.hok hp
  obtain ⟨od, J, _⟩ := O.look
  obtain ⟨m, hF⟩ := I2.fr
  exact PySem.W.in_K hF I2.ok.mod.kin J at_ fn (in_go (neg := false) at_ F hr hb (hx σ) I2 rx q)
theorem pc_notInX (at_ : PySem.W.findIn X.K (.ref C) "__contains__" = some (some (.ref f))) (fn : PySem.W.isFn X.K (.ref f) = true) (F : FnOk X.prog X.w X.K X.mg X.base CX k f fd ps sp) (hr : Room k X.A) (hb : Binds X.K fd ps []) (hx : ∀ σ, PassesAt CX X σ (E σ)) (ha : PE X a ta) (hb2 : PE X b tb) :
    PC X .NotIn a b (tInX C sp E true ta tb) := by
  refine ⟨fun pins s σ H Q I h => ?_⟩
  refine bin ha hb2 I h fun v u s2 x y H2 I2 rx ry q => ?_
  obtain ⟨p0, dx, fs, ey, hp, q⟩ := q
  subst ey
  obtain rfl : u = Value.ref p0 := ry
  obtain ⟨mA, O, _⟩ := ins_get I2.hok hp
  obtain ⟨od, J, _⟩ := O.look
  obtain ⟨m, hF⟩ := I2.fr
  exact PySem.W.notIn_K hF I2.ok.mod.kin J at_ fn (in_go (neg := true) at_ F hr hb (hx σ) I2 rx q)
def tLenX (C : Addr) (sp : Sp) (E : L2.St → XK) (ta : TE) : TE := fun σ H Q => ta σ H fun x H1 => ∃ p dx fs, x = .ref p ∧ H1 p = some (.ins C dx fs) ∧ sp [x] H1 (fun v H3 => ∃ n : Nat, v = .int (n : Int) ∧ n ≤ 1000000 ∧ Q (.int (n : Int)) H3) (E σ)
theorem pe_lenX (at_ : PySem.W.findIn X.K (.ref C) "__len__" = some (some (.ref f))) (fn : PySem.W.isFn X.K (.ref f) = true) (F : FnOk X.prog X.w X.K X.mg X.base CX k f fd ps sp) (hr : Room (k + 2) X.A) (hb : Binds X.K fd ps []) (hx : ∀ σ, PassesAt CX X σ (E σ)) (hg : Gl X "len") (hm : X.mg "len" = none) (ha : PE X e ta)
    (he : starEach [e] X.env = (false, eval e X.env) :: starEach [] X.env := by rfl) (hpl : (backTo pos (starEach [] X.env)).any (·.1) = false := by rfl) :
    PE X (.Call (.Name "len" p) [e] [] pos) (tLenX C sp E ta) := by
  refine ⟨fun pins s σ H Q I h => ?_⟩
  refine wpAny_Call_Name_kw (ld_blt I hg hm PySem.boot_len ?_)
  refine PyProof.Rows.callWith_builtin1 ?_ he hpl
  rw [he]
  show wpAny _ _ (spliced ((false, eval e X.env) :: backTo pos (starEach [] X.env))) _ _ s
  refine Calls.spliced_cons (thn (ha.run pins s σ H _ I h) fun v s1 ⟨x, H1, I1, r1, q1⟩ => Calls.spliced_nil ?_)
  obtain ⟨q0, dx, fs, ex, hp, q⟩ := q1
  subst ex
  obtain rfl : v = Value.ref q0 := r1
  obtain ⟨mA, O, _⟩ := ins_get I1.hok hp
  obtain ⟨od, J, _⟩ := O.look
  obtain ⟨m, hF⟩ := I1.fr
  have hr2 : Room k X.A.in1 := (show Room (k + 1) X.A.in1 from Room.in1 hr).mono (Nat.le_succ _)
  have hl : ([Value.ref q0]).length = ps.length := by
    rw [← F.len _ _ _ _ q]
    rfl
  refine PySem.W.len_K hF I1.ok.mod.kin J at_ fn ?_
  refine wpAny_call (codeAny_mono (F.run X.A.in1 X.stack s1 H1 ⟨[.ref q0], []⟩ [.ref q0] [.ref q0] _ (E σ) hr2 I1.env0.in1 (hb s1 [.ref q0] I1.kIn hl) (.cons rfl .nil) q) fun r s' hq => ?_)
  cases r with
  | error e => exact hx σ pins H1 s1 e s' I1 hq
  | ok fl =>
    cases fl with
    | ret u =>
      obtain ⟨z, H', I', rz, n, ez, hn, q2⟩ := I1.after hq
      subst ez
      obtain ⟨t, rfl⟩ := rz
      exact ⟨⟨by omega, Int.lt_of_le_of_lt (show (n : Int) ≤ 1000000 by omega) (by decide)⟩, .int (n : Int), H', I'.tok _, ⟨_, rfl⟩, q2⟩
    | next => exact False.elim hq
    | brk => exact False.elim hq
    | cont => exact False.elim hq
end
end Fo
set_option linter.all false
namespace M04
open PySem
def AllOk (s : St) : Prop := ∀ z ∈ s.nums, z.2 < s.rows.length
theorem init_all : AllOk init := fun z hz => by
  have : z = (("start" : Str), 0) := List.mem_singleton.mp hz
  rw [this]
  decide
theorem rows_at (s : St) (c : Cue) {i : Nat} (h : i < s.rows.length) : (rows s c)[i]? = s.rows[i]? := by
  unfold rows
  split
  · rfl
  · rw [List.getElem?_append_left h]
theorem rows_le (s : St) (c : Cue) : s.rows.length ≤ (rows s c).length := by
  unfold rows
  split
  · exact Nat.le_refl _
  · rw [List.length_append]; omega
theorem step_all (s : St) (c : Cue) (h : AllOk s) : AllOk (step s c) := fun z hz => by
  show z.2 < (rows s c).length
  rcases List.mem_append.mp hz with hz | hz
  · exact Nat.lt_of_lt_of_le (h z hz) (rows_le s c)
  · rw [List.mem_singleton] at hz
    subst hz
    exact idx_lt (row_mem s c)
theorem all_all : ∀ (cs : List Cue) (s : St), AllOk s → AllOk (cs.foldl step s)
  | [], s, h => h
  | c :: r, s, h => all_all r (step s c) (step_all s c h)
/-- each name and its row -/
def tab (s : St) : List (Str × Option Row) := s.nums.map fun z => (z.1, s.rows[z.2]?)
theorem tab_step {s : St} (c : Cue) (h : AllOk s) : tab (step s c) = tab s ++ [(c.nm, some (row s c))] := by
  unfold tab
  show (s.nums ++ [(c.nm, idx (rows s c) (row s c))]).map (fun z => (z.1, (rows s c)[z.2]?)) = _
  rw [List.map_append]
  congr 1
  · refine List.map_congr_left fun z hz => ?_
    rw [rows_at s c (h z hz)]
  · show [(c.nm, (rows s c)[idx (rows s c) (row s c)]?)] = _
    rw [idx_at (row_mem s c)]
theorem tab_len (s : St) : (tab s).length = s.nums.length := List.length_map ..
theorem rows_tab : ∀ (cs : List Cue) (s : St), AllOk s → (∀ r ∈ s.rows, ∃ x, (x, some r) ∈ tab s) → ∀ r ∈ (cs.foldl step s).rows, ∃ x, (x, some r) ∈ tab (cs.foldl step s)
  | [], s, _, h => h
  | c :: rest, s, a, h => by
    refine rows_tab rest (step s c) (step_all s c a) fun r hr => ?_
    rw [tab_step c a]
    have hr : r ∈ rows s c := hr
    unfold rows at hr
    split at hr
    · obtain ⟨x, hx⟩ := h r hr
      exact ⟨x, List.mem_append_left _ hx⟩
    · rcases List.mem_append.mp hr with hr | hr
      · obtain ⟨x, hx⟩ := h r hr
        exact ⟨x, List.mem_append_left _ hx⟩
      · rw [List.mem_singleton] at hr
        subst hr
        exact ⟨c.nm, List.mem_append_right _ (List.mem_singleton.mpr rfl)⟩
theorem init_tab : ∀ r ∈ init.rows, ∃ x, (x, some r) ∈ tab init := fun r hr => by
  have : r = [] := List.mem_singleton.mp hr
  subst this
  exact ⟨"start", List.mem_singleton.mpr rfl⟩
/-- no name twice, and each parent is known -/
def Good (cs : List Cue) : Prop := ∀ (i : Nat) c, cs[i]? = some c → num (all (cs.take i)).nums c.nm = none ∧ (num (all (cs.take i)).nums c.pa).isSome = true
theorem all_take {cs : List Cue} {i : Nat} {c : Cue} (h : cs[i]? = some c) : all (cs.take (i + 1)) = step (all (cs.take i)) c := by
  rw [List.take_add_one, h]
  exact all_app _ _
theorem find_nm {α : Type} : ∀ {l : List (Str × α)} {x : Str} {a : α}, (l.map (·.1)).Nodup → (x, a) ∈ l → l.find? (fun z => decide (z.1 = x)) = some (x, a)
  | [], _, _, _, h => by cases h
  | z :: r, x, a, nd, h => by
    rw [List.map_cons, List.nodup_cons] at nd
    rw [List.find?_cons]
    rcases List.mem_cons.mp h with e | m
    · subst e
      simp
    · have : z.1 ≠ x := fun e => nd.1 (List.mem_map.mpr ⟨_, m, e.symm⟩)
      rw [decide_eq_false this]
      exact find_nm nd.2 m
theorem num_none {l : List (Str × Nat)} {x : Str} : num l x = none ↔ x ∉ l.map (·.1) := by
  unfold num
  rw [Option.map_eq_none_iff, List.find?_eq_none]
  constructor
  · intro h m
    obtain ⟨z, hz, e⟩ := List.mem_map.mp m
    exact h z hz (decide_eq_true e)
  · intro h z hz e
    exact h (List.mem_map.mpr ⟨z, hz, of_decide_eq_true e⟩)
theorem names_all (cs : List Cue) : (all cs).nums.map (·.1) = ("start" : Str) :: cs.map (·.nm) := by
  suffices h : ∀ (cs : List Cue) (s : St), (cs.foldl step s).nums.map (·.1) = s.nums.map (·.1) ++ cs.map (·.nm) by
    rw [show all cs = cs.foldl step init from rfl, h]
    rfl
  intro cs
  induction cs with
  | nil => intro s; simp
  | cons c r ih =>
    intro s
    rw [List.foldl_cons, ih]
    show (s.nums ++ [(c.nm, idx (rows s c) (row s c))]).map (fun z => z.1) ++ _ = _
    simp
theorem tab_nm (s : St) : (tab s).map (fun z => z.1) = s.nums.map (fun z => z.1) := by
  unfold tab
  rw [List.map_map]
  rfl
theorem all_take_len {cs : List Cue} {i : Nat} {c : Cue} (h : cs[i]? = some c) : (cs.take (i + 1)).length = i + 1 := by
  have := (List.getElem?_eq_some_iff.mp h).1
  rw [List.length_take]
  omega
/-- by the names alone -/
theorem good_iff (cs : List Cue) : Good cs ↔ ∀ (i : Nat) c, cs[i]? = some c → c.nm ∉ ("start" : Str) :: (cs.take i).map (·.nm) ∧ c.pa ∈ ("start" : Str) :: (cs.take i).map (·.nm) := by
  have h : ∀ (cs : List Cue) x, (num (all cs).nums x).isSome = true ↔ x ∈ ("start" : Str) :: cs.map (·.nm) := fun cs x => by
    rw [← names_all]
    have := num_none (l := (all cs).nums) (x := x)
    cases e : num (all cs).nums x with
    | none => simp [this.mp e]
    | some i =>
      refine ⟨fun _ => ?_, fun _ => rfl⟩
      apply Classical.byContradiction
      intro c
      rw [this.mpr c] at e
      cases e
  constructor
  · intro g i c e
    obtain ⟨a, b⟩ := g i c e
    exact ⟨by rw [← names_all]; exact num_none.mp a, (h _ _).mp b⟩
  · intro g i c e
    obtain ⟨a, b⟩ := g i c e
    exact ⟨num_none.mpr (by rw [names_all]; exact a), (h _ _).mpr b⟩
theorem good_take {cs : List Cue} (g : Good cs) (n : Nat) : Good (cs.take n) := fun i c e => by
  have hi : i < n := by
    have := (List.getElem?_eq_some_iff.mp e).1
    rw [List.length_take] at this
    omega
  rw [List.getElem?_take_of_lt hi] at e
  rw [List.take_take, Nat.min_eq_left (Nat.le_of_lt hi)]
  exact g i c e
theorem names_nodup {cs : List Cue} (g : Good cs) : (("start" : Str) :: cs.map (·.nm)).Nodup := by
  suffices h : ∀ n, (("start" : Str) :: (cs.take n).map (·.nm)).Nodup by
    have := h cs.length
    rwa [List.take_length] at this
  intro n
  induction n with
  | zero => simp
  | succ n ih =>
    rw [List.take_add_one]
    cases e : cs[n]? with
    | none => simpa using ih
    | some c =>
      have := ((good_iff cs).mp g n c e).1
      rw [List.map_append]
      show ((("start" : Str) :: (cs.take n).map (·.nm)) ++ [c.nm]).Nodup
      rw [List.nodup_append]
      refine ⟨ih, by simp, fun a ha b hb => ?_⟩
      have : b = c.nm := List.mem_singleton.mp hb
      subst this
      intro e
      subst e
      exact ((good_iff cs).mp g n c (by assumption)).1 ha
theorem rows_nodup : ∀ (cs : List Cue) (s : St), s.rows.Nodup → (cs.foldl step s).rows.Nodup
  | [], _, h => h
  | c :: r, s, h => by
    refine rows_nodup r (step s c) ?_
    show (rows s c).Nodup
    unfold rows
    split
    · exact h
    · rename_i n
      rw [List.nodup_append]
      refine ⟨h, by simp, fun a ha b hb => ?_⟩
      have : b = row s c := List.mem_singleton.mp hb
      subst this
      intro e
      subst e
      exact n ha
theorem sub_len {α : Type} [DecidableEq α] : ∀ {l m : List α}, l.Nodup → (∀ x ∈ l, x ∈ m) → l.length ≤ m.length
  | [], _, _, _ => Nat.zero_le _
  | a :: l, m, nd, h => by
    rw [List.nodup_cons] at nd
    have hm := h a List.mem_cons_self
    have := sub_len (l := l) (m := m.erase a) nd.2 fun x hx => by
      have ne : x ≠ a := fun e => nd.1 (e ▸ hx)
      exact (List.mem_erase_of_ne ne).mpr (h x (List.mem_cons_of_mem _ hx))
    rw [List.length_erase_of_mem hm] at this
    have : 0 < m.length := List.length_pos_of_mem hm
    rw [List.length_cons]
    omega
theorem good_snoc {cs : List Cue} {c : Cue} (g : Good cs) (h1 : c.nm ∉ ("start" : Str) :: cs.map (·.nm)) (h2 : c.pa ∈ ("start" : Str) :: cs.map (·.nm)) : Good (cs ++ [c]) := by
  rw [good_iff]
  intro i x e
  rcases Nat.lt_or_ge i cs.length with hi | hi
  · rw [List.getElem?_append_left hi] at e
    rw [List.take_append_of_le_length (Nat.le_of_lt hi)]
    exact (good_iff cs).mp g i x e
  · have : i = cs.length := by
      have := (List.getElem?_eq_some_iff.mp e).1
      rw [List.length_append, List.length_singleton] at this
      omega
    subst this
    rw [List.getElem?_append_right (Nat.le_refl _), Nat.sub_self] at e
    cases e
    rw [List.take_append_of_le_length (Nat.le_refl _), List.take_length]
    exact ⟨h1, h2⟩
/-- all rows are among xs: so many at most -/
theorem rows_few {cs : List Cue} (g : Good cs) {xs : List Row} (h0 : [] ∈ xs) (h : ∀ (i : Nat) c, cs[i]? = some c → row (all (cs.take i)) c ∈ xs) : (all cs).rows.length ≤ xs.length := by
  refine sub_len (rows_nodup cs init (by decide)) fun r hr => ?_
  suffices q : ∀ n, ∀ r ∈ (all (cs.take n)).rows, r ∈ xs by
    have := q cs.length r
    rw [List.take_length] at this
    exact this hr
  intro n
  induction n with
  | zero =>
    intro r hr
    have : r = [] := List.mem_singleton.mp hr
    rw [this]
    exact h0
  | succ n ih =>
    intro r hr
    cases e : cs[n]? with
    | none =>
      rw [List.take_of_length_le (by have := List.getElem?_eq_none_iff.mp e; omega)] at hr
      rw [List.take_of_length_le (by have := List.getElem?_eq_none_iff.mp e; omega)] at ih
      exact ih r hr
    | some c =>
      rw [all_take e] at hr
      have hr : r ∈ rows (all (cs.take n)) c := hr
      unfold rows at hr
      split at hr
      · exact ih r hr
      · rcases List.mem_append.mp hr with hr | hr
        · exact ih r hr
        · rw [List.mem_singleton] at hr
          rw [hr]
          exact h n c e
theorem tab_pre (cs : List Cue) (i : Nat) {z : Str × Option Row} (h : z ∈ tab (all (cs.take i))) : z ∈ tab (all cs) := by
  suffices q : ∀ n, z ∈ tab (all (cs.take (i + n))) by
    have := q cs.length
    rwa [List.take_of_length_le (by omega)] at this
  intro n
  induction n with
  | zero => exact h
  | succ n ih =>
    cases e : cs[i + n]? with
    | none =>
      have e0 := List.getElem?_eq_none_iff.mp e
      rw [List.take_of_length_le (by omega)]
      rwa [List.take_of_length_le (by omega)] at ih
    | some c =>
      rw [show i + (n + 1) = (i + n) + 1 from rfl, all_take e, tab_step c (show AllOk (all _) from all_all _ _ init_all)]
      exact List.mem_append_left _ ih
theorem tab_mem {cs : List Cue} {i : Nat} {c : Cue} (g : Good cs) (e : cs[i]? = some c) : (c.nm, some (row (all (cs.take i)) c)) ∈ tab (all cs) := by
  refine tab_pre cs (i + 1) ?_
  rw [all_take e, tab_step c (show AllOk (all _) from all_all _ _ init_all)]
  exact List.mem_append_right _ (List.mem_singleton.mpr rfl)
end M04
set_option linter.all false
/-! Rows as reduced words: leading on by the way from one row to another one. -/
namespace M06
open PySem M04
def Ne (p : Row) (u : Str) : Prop := ∀ v a, p.getLast? = some (v, a) → v ≠ u
inductive W : Row → Prop
  | nil : W []
  | snoc {r : Row} {u : Str} {q : Rat} : W r → q ≠ 0 → Ne r u → W (r ++ [(u, q)])
def glue (p : Row) (u : Str) (c : Rat) : Row := if c = 0 then p else p ++ [(u, c)]
theorem part_snoc (r : Row) (v u : Str) (a : Rat) : part (r ++ [(v, a)]) u = if v = u then (r, a) else (r ++ [(v, a)], 0) := by
  unfold part
  rw [List.getLast?_concat]
  simp
theorem part_ne {p : Row} {u : Str} (h : Ne p u) : part p u = (p, 0) := by
  unfold part
  cases e : p.getLast? with
  | none => rfl
  | some z =>
    obtain ⟨v, a⟩ := z
    simp [h v a e]
theorem part_glue {p : Row} {u : Str} {b : Rat} (h : Ne p u) : part (glue p u b) u = (p, b) := by
  unfold glue
  by_cases c : b = 0
  · rw [if_pos c, part_ne h, c]
  · rw [if_neg c, part_snoc, if_pos rfl]
theorem ext_glue {p : Row} {u : Str} {b q : Rat} (h : Ne p u) : ext (glue p u b) u q = glue p u (b + q) := by
  unfold ext
  rw [part_glue h]
  rfl
theorem W_glue {p : Row} {u : Str} {b : Rat} (w : W p) (h : Ne p u) : W (glue p u b) := by
  unfold glue
  by_cases c : b = 0
  · rw [if_pos c]
    exact w
  · rw [if_neg c]
    exact w.snoc c h
theorem W_dec {r : Row} (w : W r) (u : Str) : ∃ p b, W p ∧ Ne p u ∧ r = glue p u b := by
  cases w with
  | nil => exact ⟨[], 0, .nil, (fun v a e => by cases e), by unfold glue; rw [if_pos rfl]⟩
  | @snoc r v q w c h =>
    by_cases e : v = u
    · exact ⟨r, q, w, e ▸ h, by unfold glue; rw [if_neg c, e]⟩
    · refine ⟨r ++ [(v, q)], 0, w.snoc c h, fun v' a e' => ?_, by unfold glue; rw [if_pos rfl]⟩
      rw [List.getLast?_concat] at e'
      cases e'
      exact e
theorem ext_W {r : Row} (w : W r) (u : Str) (q : Rat) : W (ext r u q) := by
  obtain ⟨p, b, wp, h, rfl⟩ := W_dec w u
  rw [ext_glue h]
  exact W_glue wp h
theorem ext_ext {r : Row} (w : W r) (u : Str) (a b : Rat) : ext (ext r u a) u b = ext r u (a + b) := by
  obtain ⟨p, c, wp, h, rfl⟩ := W_dec w u
  rw [ext_glue h, ext_glue h, ext_glue h, Rat.add_assoc]
theorem ext_zero {r : Row} (w : W r) (u : Str) : ext r u 0 = r := by
  obtain ⟨p, c, wp, h, rfl⟩ := W_dec w u
  rw [ext_glue h, Rat.add_zero]
def act (s r : Row) : Row := s.foldl (fun r z => ext r z.1 z.2) r
theorem act_app (s t r : Row) : act (s ++ t) r = act t (act s r) := List.foldl_append
theorem act_W : ∀ (s : Row) {r : Row}, W r → W (act s r)
  | [], _, w => w
  | z :: s, _, w => act_W s (ext_W w z.1 z.2)
theorem act_glue {p r : Row} {u : Str} {c : Rat} (w : W r) : act (glue p u c) r = ext (act p r) u c := by
  unfold glue
  by_cases e : c = 0
  · rw [if_pos e, e, ext_zero (act_W p w)]
  · rw [if_neg e, act_app]
    rfl
theorem act_ext {w r : Row} (hw : W w) (hr : W r) (u : Str) (a : Rat) : act (ext w u a) r = ext (act w r) u a := by
  obtain ⟨p, b, wp, h, rfl⟩ := W_dec hw u
  rw [ext_glue h, act_glue hr, act_glue hr, ext_ext (act_W p hr)]
theorem act_act : ∀ (s : Row) {w r : Row}, W w → W r → act (act s w) r = act s (act w r)
  | [], _, _, _, _ => rfl
  | z :: s, w, r, hw, hr => by
    show act (act s (ext w z.1 z.2)) r = act s (ext (act w r) z.1 z.2)
    rw [act_act s (ext_W hw _ _) hr, act_ext hw hr]
def neg (r : Row) : Row := (r.map fun z => (z.1, -z.2)).reverse
theorem act_neg {r : Row} (w : W r) : act (neg r) r = [] := by
  induction w with
  | nil => rfl
  | @snoc r u q w c h ih =>
    have e : neg (r ++ [(u, q)]) = (u, -q) :: neg r := by
      unfold neg
      rw [List.map_append, List.reverse_append]
      rfl
    have g : r ++ [(u, q)] = glue r u q := by
      unfold glue
      rw [if_neg c]
    rw [e]
    show act (neg r) (ext (r ++ [(u, q)]) u (-q)) = []
    rw [g, ext_glue h, Rat.add_neg_cancel]
    unfold glue
    rw [if_pos rfl]
    exact ih
theorem act_self {r : Row} (w : W r) : act r [] = r := by
  induction w with
  | nil => rfl
  | @snoc r u q w c h ih =>
    have g : r ++ [(u, q)] = glue r u q := by
      unfold glue
      rw [if_neg c]
    rw [g, act_glue .nil, ih]
    have g0 : glue r u 0 = r := by
      unfold glue
      rw [if_pos rfl]
    have := ext_glue (b := 0) (q := q) h
    rw [g0, Rat.zero_add] at this
    exact this
def way (r1 r2 : Row) : Row := act r2 (act (neg r1) [])
/-- led on by the way to the other row, a row is the other one -/
theorem way_leads {r1 r2 : Row} (w1 : W r1) (w2 : W r2) : act (way r1 r2) r1 = r2 := by
  unfold way
  rw [← act_app, act_act _ .nil w1, act_app]
  show act r2 (act (neg r1) r1) = r2
  rw [act_neg w1, act_self w2]
theorem way_W {r1 r2 : Row} : W (way r1 r2) := act_W _ (act_W _ .nil)
theorem rows_W : ∀ (cs : List Cue) (s : M04.St), (∀ r ∈ s.rows, W r) → ∀ r ∈ (cs.foldl step s).rows, W r
  | [], _, h => h
  | c :: cs, s, h => by
    refine rows_W cs (step s c) fun r hr => ?_
    have hg : W (row s c) := by
      unfold row
      refine ext_W ?_ _ _
      rw [List.getD_eq_getElem?_getD]
      cases e : s.rows[(num s.nums c.pa).getD 0]? with
      | none => exact .nil
      | some z => exact h z (List.mem_of_getElem? e)
    have hr' : r ∈ rows s c := hr
    unfold rows at hr'
    split at hr'
    · exact h r hr'
    · rcases List.mem_append.mp hr' with m | m
      · exact h r m
      · rw [List.mem_singleton.mp m]
        exact hg
theorem all_W (cs : List Cue) : ∀ r ∈ (all cs).rows, W r := rows_W cs init fun r hr => by
  rw [List.mem_singleton.mp hr]
  exact .nil
end M06
set_option linter.all false
/-! Bounds by value: all amounts of a sheet's rows have one common bottom. -/
namespace M06
open PySem M04
/-- q times D is an int of at most X -/
def VB (D X : Nat) (q : Rat) : Prop := ∃ N : Int, q * (D : Rat) = (N : Rat) ∧ N.natAbs ≤ X
theorem VB.zero {D X : Nat} : VB D X 0 := ⟨0, by rw [Rat.zero_mul]; rfl, Nat.zero_le _⟩
theorem VB.mono {D X Y : Nat} {q : Rat} (h : VB D X q) (e : X ≤ Y) : VB D Y q := let ⟨N, a, b⟩ := h; ⟨N, a, Nat.le_trans b e⟩
theorem VB.neg {D X : Nat} {q : Rat} (h : VB D X q) : VB D X (-q) := by
  obtain ⟨N, a, b⟩ := h
  exact ⟨-N, by rw [Rat.neg_mul, a, Rat.intCast_neg], by rw [Int.natAbs_neg]; exact b⟩
theorem VB.add {D X Y : Nat} {q r : Rat} (h : VB D X q) (k : VB D Y r) : VB D (X + Y) (q + r) := by
  obtain ⟨N, a, b⟩ := h
  obtain ⟨M, c, d⟩ := k
  exact ⟨N + M, by rw [Rat.add_mul, a, c, Rat.intCast_add], Nat.le_trans (Int.natAbs_add_le _ _) (Nat.add_le_add b d)⟩
def RVB (D X : Nat) (r : Row) : Prop := ∀ z ∈ r, VB D X z.2
theorem RVB.nil {D X : Nat} : RVB D X [] := fun z hz => by cases hz
theorem RVB.mono {D X Y : Nat} {r : Row} (h : RVB D X r) (e : X ≤ Y) : RVB D Y r := fun z hz => (h z hz).mono e
theorem part_VB {D X : Nat} {r : Row} (h : RVB D X r) (u : Str) : RVB D X (part r u).1 ∧ VB D X (part r u).2 := by
  unfold part
  cases e : r.getLast? with
  | none => exact ⟨h, VB.zero⟩
  | some z =>
    obtain ⟨v, q⟩ := z
    show RVB D X (if v = u then (r.dropLast, q) else (r, 0)).1 ∧ VB D X (if v = u then (r.dropLast, q) else (r, 0)).2
    by_cases c : v = u
    · rw [if_pos c]
      exact ⟨fun z hz => h z (List.dropLast_subset _ hz), h (v, q) (List.mem_of_getLast? e)⟩
    · rw [if_neg c]
      exact ⟨h, VB.zero⟩
theorem ext_VB {D X Y : Nat} {r : Row} {q : Rat} (h : RVB D X r) (u : Str) (k : VB D Y q) : RVB D (X + Y) (ext r u q) := by
  obtain ⟨h1, h2⟩ := part_VB h u
  unfold ext
  split
  · exact h1.mono (Nat.le_add_right _ _)
  · intro z hz
    rcases List.mem_append.mp hz with m | m
    · exact (h1 z m).mono (Nat.le_add_right _ _)
    · rw [List.mem_singleton.mp m]
      exact h2.add k
theorem act_VB {D X Y : Nat} : ∀ (s : Row) {r : Row}, RVB D Y s → RVB D X r → RVB D (X + s.length * Y) (act s r)
  | [], r, _, h => by
    show RVB D _ r
    exact h.mono (Nat.le_add_right _ _)
  | z :: s, r, hs, h => by
    show RVB D _ (act s (ext r z.1 z.2))
    refine (act_VB s (fun y hy => hs y (List.mem_cons_of_mem _ hy)) (ext_VB h z.1 (hs z List.mem_cons_self))).mono ?_
    rw [List.length_cons, Nat.add_mul, Nat.one_mul]
    omega
theorem neg_VB {D X : Nat} {r : Row} (h : RVB D X r) : RVB D X (neg r) := fun z hz => by
  unfold neg at hz
  obtain ⟨y, hy, e⟩ := List.mem_map.mp (List.mem_reverse.mp hz)
  rw [← e]
  exact (h y hy).neg
theorem neg_len (r : Row) : (neg r).length = r.length := by
  unfold neg
  rw [List.length_reverse, List.length_map]
theorem act_len : ∀ (s r : Row), (act s r).length ≤ r.length + s.length
  | [], r => Nat.le_refl _
  | z :: s, r => by
    have h1 := act_len s (ext r z.1 z.2)
    have h2 := ext_len r z.1 z.2
    show (act s (ext r z.1 z.2)).length ≤ _
    rw [List.length_cons]
    omega
theorem way_VB {D X : Nat} {r1 r2 : Row} (h1 : RVB D X r1) (h2 : RVB D X r2) : RVB D ((r1.length + r2.length) * X) (way r1 r2) := by
  unfold way
  refine (act_VB r2 h2 (act_VB (neg r1) (neg_VB h1) RVB.nil (X := 0))).mono ?_
  rw [neg_len, Nat.add_mul]
  omega
theorem way_len (r1 r2 : Row) : (way r1 r2).length ≤ r1.length + r2.length := by
  have h1 := act_len r2 (act (neg r1) [])
  have h2 := act_len (neg r1) []
  rw [neg_len] at h2
  unfold way
  simp only [List.length_nil] at h2
  omega
theorem act_take (s r : Row) (n : Nat) {z : Str × Rat} (h : s[n]? = some z) : act (s.take (n + 1)) r = ext (act (s.take n) r) z.1 z.2 := by
  rw [List.take_add_one, h, act_app]
  rfl
theorem rows_VB {D X : Nat} : ∀ (cs : List Cue) (s : M04.St) (n : Nat), (∀ c ∈ cs, VB D X c.q) → (∀ r ∈ s.rows, RVB D (n * X) r) → ∀ r ∈ (cs.foldl step s).rows, RVB D ((n + cs.length) * X) r
  | [], _, n, _, h => h
  | c :: cs, s, n, hc, h => by
    have hs : ∀ r ∈ (step s c).rows, RVB D ((n + 1) * X) r := fun r hr => by
      have hg : RVB D ((n + 1) * X) (row s c) := by
        unfold row
        rw [Nat.add_mul, Nat.one_mul]
        refine ext_VB ?_ _ (hc c List.mem_cons_self)
        rw [List.getD_eq_getElem?_getD]
        cases e : s.rows[(num s.nums c.pa).getD 0]? with
        | none => exact RVB.nil
        | some z => exact h z (List.mem_of_getElem? e)
      have hr' : r ∈ rows s c := hr
      unfold rows at hr'
      split at hr'
      · exact (h r hr').mono (Nat.mul_le_mul_right _ (Nat.le_succ _))
      · rcases List.mem_append.mp hr' with m | m
        · exact (h r m).mono (Nat.mul_le_mul_right _ (Nat.le_succ _))
        · rw [List.mem_singleton.mp m]
          exact hg
    intro r hr
    have := rows_VB cs (step s c) (n + 1) (fun c' hc' => hc c' (List.mem_cons_of_mem _ hc')) hs r hr
    rw [List.length_cons, show n + (cs.length + 1) = n + 1 + cs.length by omega]
    exact this
theorem all_VB {D X : Nat} {cs : List Cue} (h : ∀ c ∈ cs, VB D X c.q) : ∀ r ∈ (all cs).rows, RVB D (cs.length * X) r := fun r hr => by
  have := rows_VB cs init 0 h (fun r hr => by
    rw [List.mem_singleton.mp hr]
    exact RVB.nil) r hr
  rwa [Nat.zero_add] at this
/-- the product of the bottoms -/
def prodB (us : List Int) : Nat := us.foldr (fun u n => u.natAbs * n) 1
theorem prodB_pos : ∀ {us : List Int}, (∀ u ∈ us, 0 < u) → 0 < prodB us
  | [], _ => Nat.one_pos
  | u :: r, h => Nat.mul_pos (Int.natAbs_pos.mpr (Int.ne_of_gt (h u List.mem_cons_self))) (prodB_pos fun v hv => h v (List.mem_cons_of_mem _ hv))
theorem prodB_dvd : ∀ {us : List Int} {u : Int}, u ∈ us → u.natAbs ∣ prodB us
  | v :: r, u, h => by
    rcases List.mem_cons.mp h with e | m
    · rw [e]
      exact Nat.dvd_mul_right _ _
    · exact Nat.dvd_trans (prodB_dvd m) (Nat.dvd_mul_left _ _)
theorem prodB_lt {n : Nat} : ∀ {us : List Int}, (∀ u ∈ us, u.natAbs < 2 ^ n) → prodB us ≤ 2 ^ (n * us.length)
  | [], _ => Nat.le_refl _
  | u :: r, h => by
    show u.natAbs * prodB r ≤ _
    rw [List.length_cons, Nat.mul_add, Nat.mul_one, Nat.pow_add, Nat.mul_comm]
    exact Nat.mul_le_mul (prodB_lt fun v hv => h v (List.mem_cons_of_mem _ hv)) (Nat.le_of_lt (h u List.mem_cons_self))
end M06
set_option linter.all false
/-! A sheet's rows hold each beginning of each row. -/
namespace M06
open PySem M04
def PC (rows : List Row) : Prop := ∀ r ∈ rows, ∀ k, r.take k ∈ rows
theorem part_take (r : Row) (u : Str) : ∃ k, (part r u).1 = r.take k := by
  unfold part
  cases e : r.getLast? with
  | none => exact ⟨r.length, (List.take_length).symm⟩
  | some z =>
    obtain ⟨v, q⟩ := z
    show ∃ k, (if v = u then (r.dropLast, q) else (r, 0)).1 = r.take k
    by_cases c : v = u
    · rw [if_pos c]
      exact ⟨r.length - 1, List.dropLast_eq_take⟩
    · rw [if_neg c]
      exact ⟨r.length, (List.take_length).symm⟩
theorem ext_pre {rows : List Row} (pc : PC rows) {r : Row} (h : r ∈ rows) (u : Str) (q : Rat) {k : Nat} (hk : k < (ext r u q).length) : (ext r u q).take k ∈ rows := by
  obtain ⟨k0, e0⟩ := part_take r u
  have hp : ∀ j, ((part r u).1).take j ∈ rows := fun j => by
    rw [e0, List.take_take]
    exact pc r h _
  unfold ext at hk ⊢
  split at hk
  · rename_i c
    rw [if_pos c]
    exact hp k
  · rename_i c
    rw [if_neg c]
    rw [List.length_append] at hk
    have hk : k < (part r u).1.length + 1 := hk
    rw [List.take_append_of_le_length (by omega)]
    exact hp k
theorem row_in {s : M04.St} (h0 : [] ∈ s.rows) (c : Cue) : s.rows.getD ((num s.nums c.pa).getD 0) [] ∈ s.rows := by
  rw [List.getD_eq_getElem?_getD]
  cases e : s.rows[(num s.nums c.pa).getD 0]? with
  | none => exact h0
  | some z => exact List.mem_of_getElem? e
theorem row_pre {s : M04.St} (pc : PC s.rows) (h0 : [] ∈ s.rows) (c : Cue) {k : Nat} (hk : k < (row s c).length) : (row s c).take k ∈ s.rows := ext_pre pc (row_in h0 c) _ _ hk
theorem step_PC {s : M04.St} (pc : PC s.rows) (h0 : [] ∈ s.rows) (c : Cue) : PC (step s c).rows ∧ [] ∈ (step s c).rows := by
  show PC (rows s c) ∧ [] ∈ rows s c
  unfold rows
  split
  · exact ⟨pc, h0⟩
  · refine ⟨fun r hr k => ?_, List.mem_append_left _ h0⟩
    rcases List.mem_append.mp hr with m | m
    · exact List.mem_append_left _ (pc r m k)
    · rw [List.mem_singleton.mp m]
      rcases Nat.lt_or_ge k (row s c).length with c1 | c1
      · exact List.mem_append_left _ (row_pre pc h0 c c1)
      · rw [List.take_of_length_le c1]
        exact List.mem_append_right _ (List.mem_singleton.mpr rfl)
theorem fold_PC : ∀ (cs : List Cue) (s : M04.St), PC s.rows → [] ∈ s.rows → PC (cs.foldl step s).rows ∧ [] ∈ (cs.foldl step s).rows
  | [], _, pc, h0 => ⟨pc, h0⟩
  | c :: cs, s, pc, h0 => let ⟨a, b⟩ := step_PC pc h0 c; fold_PC cs (step s c) a b
theorem all_PC (cs : List Cue) : PC (all cs).rows ∧ [] ∈ (all cs).rows := fold_PC cs init (fun r hr k => by
  rw [List.mem_singleton.mp hr, List.take_nil]
  exact List.mem_singleton.mpr rfl) (List.mem_singleton.mpr rfl)
end M06
set_option linter.all false
namespace M06
open PySem M04
theorem step_nodup {s : M04.St} (h : s.rows.Nodup) (c : Cue) : (step s c).rows.Nodup := by
  show (rows s c).Nodup
  unfold rows
  split
  · exact h
  · rename_i n
    rw [List.nodup_append]
    refine ⟨h, by simp, fun a ha b hb => ?_⟩
    rw [List.mem_singleton.mp hb]
    exact fun e => n (e ▸ ha)
theorem fold_nodup : ∀ (cs : List Cue) (s : M04.St), s.rows.Nodup → (cs.foldl step s).rows.Nodup
  | [], _, h => h
  | c :: cs, s, h => fold_nodup cs (step s c) (step_nodup h c)
theorem all_nodup (cs : List Cue) : (all cs).rows.Nodup := fold_nodup cs init (by simp [init])
theorem at_inj {α : Type} {l : List α} (h : l.Nodup) {i j : Nat} {r : α} (e1 : l[i]? = some r) (e2 : l[j]? = some r) : i = j := by
  obtain ⟨h1, h2⟩ := List.getElem?_eq_some_iff.mp e1
  obtain ⟨h3, h4⟩ := List.getElem?_eq_some_iff.mp e2
  have := (List.nodup_iff_pairwise_ne.mp h)
  rw [List.pairwise_iff_getElem] at this
  rcases Nat.lt_trichotomy i j with c | c | c
  · exact absurd (h2.trans h4.symm) (this i j h1 h3 c)
  · exact c
  · exact absurd (h4.trans h2.symm) (this j i h3 h1 c)
/-- the names at the n-th row -/
theorem names_row {cs : List Cue} {n : Nat} {r : Row} (e : (all cs).rows[n]? = some r) : (((all cs).nums.filter fun z => decide ((z.2 : Int) = (n : Int))).map fun z => z.1) = ((tab (all cs)).filter fun y => decide (y.2 = some r)).map fun y => y.1 := by
  unfold tab
  rw [List.filter_map, List.map_map]
  show List.map _ _ = List.map (fun z : Str × Nat => z.1) _
  congr 1
  refine List.filter_congr fun z hz => ?_
  have lt := all_all cs init init_all z hz
  have lt : z.2 < (all cs).rows.length := lt
  show decide ((z.2 : Int) = (n : Int)) = decide ((all cs).rows[z.2]? = some r)
  rw [decide_eq_decide]
  constructor
  · intro h
    have : z.2 = n := by omega
    rw [this]
    exact e
  · intro h
    have := at_inj (all_nodup cs) h e
    omega
end M06
set_option linter.all false
/-! What is wrong with told cues: the first that is due. -/
namespace M34
open PySem M04
inductive Bad | name (z : Str) | dup (z : Str) | unk (z : Str)
/-- what is wrong with one cue behind these names; g: whether a text is a name -/
def bad (g : Str → Bool) (nums : List (Str × Nat)) (c : Cue) : Option Bad := if g c.nm = false then some (.name c.nm) else if (num nums c.nm).isSome = true then some (.dup c.nm) else if (num nums c.pa).isSome = false then some (.unk c.pa) else none
def told (g : Str → Bool) : List Cue → List Cue → Option Bad
  | _, [] => none
  | pre, c :: r => match bad g (all pre).nums c with
    | some b => some b
    | none => told g (pre ++ [c]) r
theorem bad_none {g : Str → Bool} {nums : List (Str × Nat)} {c : Cue} : bad g nums c = none ↔ g c.nm = true ∧ num nums c.nm = none ∧ (num nums c.pa).isSome = true := by
  unfold bad
  cases h1 : g c.nm with
  | false => simp
  | true =>
    cases h2 : num nums c.nm with
    | some i => simp
    | none =>
      cases h3 : num nums c.pa with
      | none => simp
      | some i => simp
theorem told_take {g : Str → Bool} {cs : List Cue} {i : Nat} {c : Cue} (h : cs[i]? = some c) : told g (cs.take i) (cs.drop i) = match bad g (all (cs.take i)).nums c with
    | some b => some b
    | none => told g (cs.take (i + 1)) (cs.drop (i + 1)) := by
  obtain ⟨hi, e⟩ := List.getElem?_eq_some_iff.mp h
  have e1 : cs.drop i = c :: cs.drop (i + 1) := by rw [← e]; exact List.drop_eq_getElem_cons hi
  have e2 : cs.take (i + 1) = cs.take i ++ [c] := by rw [List.take_add_one, h]; rfl
  rw [e1, e2]
  rfl
/-- nothing is wrong: each cue is right behind those before -/
theorem told_none {g : Str → Bool} : ∀ {r pre : List Cue}, told g pre r = none ↔ ∀ (i : Nat) c, r[i]? = some c → bad g (all (pre ++ r.take i)).nums c = none
  | [], pre => ⟨fun _ i c e => (by cases e), fun _ => rfl⟩
  | c :: r, pre => by
    have ih := told_none (g := g) (r := r) (pre := pre ++ [c])
    constructor
    · intro h i x e
      unfold told at h
      cases hb : bad g (all pre).nums c with
      | some b => rw [hb] at h; cases h
      | none =>
        rw [hb] at h
        cases i with
        | zero =>
          cases e
          rw [List.take_zero, List.append_nil]
          exact hb
        | succ i =>
          have := ih.mp h i x e
          rw [List.take_succ_cons, ← List.singleton_append, ← List.append_assoc]
          exact this
    · intro h
      unfold told
      have h0 := h 0 c rfl
      rw [List.take_zero, List.append_nil] at h0
      rw [h0]
      refine ih.mpr fun i x e => ?_
      have := h (i + 1) x e
      rwa [List.take_succ_cons, ← List.singleton_append, ← List.append_assoc] at this
theorem told_good {g : Str → Bool} {cs : List Cue} (h : told g [] cs = none) : Good cs := fun i c e => by
  have := bad_none.mp (told_none.mp h i c e)
  rw [List.nil_append] at this
  exact ⟨this.2.1, this.2.2⟩
theorem told_of {g : Str → Bool} {cs : List Cue} (h : Good cs) (n : ∀ c ∈ cs, g c.nm = true) : told g [] cs = none := told_none.mpr fun i c e => bad_none.mpr (by
  rw [List.nil_append]
  obtain ⟨a, b⟩ := h i c e
  exact ⟨n c (List.mem_of_getElem? e), a, b⟩)
theorem num_mem (cs : List Cue) (z : Str) : (num (all cs).nums z).isSome = true ↔ z ∈ ("start" : Str) :: cs.map (·.nm) := by
  rw [← names_all]
  have := num_none (l := (all cs).nums) (x := z)
  cases e : num (all cs).nums z with
  | none => simp [this.mp e]
  | some i =>
    refine ⟨fun _ => ?_, fun _ => rfl⟩
    apply Classical.byContradiction
    intro c
    rw [this.mpr c] at e
    cases e
end M34
set_option Elab.async false
set_option linter.all false
set_option maxRecDepth 100000
set_option maxHeartbeats 1000000
set_option exponentiation.threshold 100000
namespace K34
open PySem PySem.Spec PyProof.Rows L2 Fa Fb
theorem kT {K : PySem.W.Frag} {A B : String} (h : kitB A B = some true) : PySem.W.kitOne K (.type A) (.type B) = some true := kit_ty h
theorem kF {K : PySem.W.Frag} {A B : String} (h : kitB A B = some false) : PySem.W.kitOne K (.type A) (.type B) = some false := kit_ty h
theorem ka_list {K : PySem.W.Frag} : PySem.W.kitAny K (.type "list") [.type "list", .type "tuple"] = some true := by
  unfold PySem.W.kitAny
  rw [kT (by decide +kernel)]
theorem ka_tuple {K : PySem.W.Frag} : PySem.W.kitAny K (.type "tuple") [.type "list", .type "tuple"] = some true := by
  unfold PySem.W.kitAny
  rw [kF (by decide +kernel)]
  unfold PySem.W.kitAny
  rw [kT (by decide +kernel)]
theorem ty_sqt {K : PySem.W.Frag} {H : Hp} {a : Addr} {xs : List V} (h : SqT K H a xs) : TyX K H (.ref a) (.type "tuple") := by
  rcases h with (h | ⟨o, h⟩) | ⟨o, its, n, h, hc, _⟩
  · exact .base (.tup h)
  · exact .fTuple h
  · exact .kTuple h hc
theorem arg_am {K : PySem.W.Frag} {mg : Str → Option Value} (T : AF K mg) {H : Hp} {x : V} {t u : Int} {n : Nat} (h : Arg K H x t u n) : ∃ ty b1 b2, TyX K H x ty ∧ PySem.W.kitOne K ty (.ref (CA K)) = some b1 ∧ Wh K H x b2 ∧ (b1 || b2) = true := by
  rcases h with ⟨p, dx, rfl, hp, _⟩ | ⟨rfl, _⟩
  · exact ⟨_, true, false, T.ty hp, T.kS, T.wh hp, rfl⟩
  · exact ⟨_, false, true, .base (.int t), T.kT "int" (by simp [tys]), wh_int t, rfl⟩
theorem Arg.same {K : PySem.W.Frag} {H H' : Hp} {x : V} {t u : Int} {n : Nat} (h : Arg K H x t u n) (s : Same H H') : Arg K H' x t u n := h.imp (fun h => h.same s) id
theorem Arg.pos {K : PySem.W.Frag} {H : Hp} {x : V} {t u : Int} {n : Nat} (h : Arg K H x t u n) : 0 < u := by
  rcases h with ⟨_, _, _, _, ⟨a, _⟩, _⟩ | ⟨_, e, _⟩
  · exact a
  · rw [e]; decide
theorem ka_no {K : PySem.W.Frag} {T : String} (h1 : kitB T "list" = some false) (h2 : kitB T "tuple" = some false) : PySem.W.kitAny K (.type T) [.type "list", .type "tuple"] = some false := by
  unfold PySem.W.kitAny
  rw [kit_ty h1]
  unfold PySem.W.kitAny
  rw [kit_ty h2]
  rfl
theorem pg_or {X : Cx} {e : Expr} {t u : TG} (h : PG X e t) (h2 : PG X e u) : PG X e (fun v σ H Q => t v σ H Q ∨ u v σ H Q) := ⟨fun pins s σ H v u Q I r z => z.elim (h.run pins s σ H v u Q I r) (h2.run pins s σ H v u Q I r)⟩
/-! ### a sheet in the heap -/
abbrev CS (K : PySem.W.Frag) : Addr := He.ga K "Sheet"
abbrev shFl (c r d : Addr) : List (Str × V) := putF "_numbers" (.ref d) (putF "_rows" (.ref r) (putF "_cues" (.ref c) []))
theorem sh_c (c r d : Addr) : (shFl c r d).lookup ("_cues" : Str) = some (.ref c) := rfl
theorem sh_r (c r d : Addr) : (shFl c r d).lookup ("_rows" : Str) = some (.ref r) := rfl
theorem sh_d (c r d : Addr) : (shFl c r d).lookup ("_numbers" : Str) = some (.ref d) := rfl
structure MF (K : PySem.W.Frag) (mg : Str → Option Value) : Prop where
  cl : Cls K (CS K)
  n1 : NoAttr K (CS K) "_cues"
  n2 : NoAttr K (CS K) "_rows"
  n3 : NoAttr K (CS K) "_numbers"
  g : mg "Sheet" = some (.ref (CS K))
structure Cu where
  q : Addr
  a : Addr
  nm : Str
  pa : Str
  un : Str
  t : Int
  u : Int
def cv (g : Cu) : M04.Cue := ⟨g.nm, g.pa, g.un, vq g.t g.u⟩
def CuOk (K : PySem.W.Frag) (n : Nat) (H : Hp) (g : Cu) : Prop := H g.q = some (.tup [.str g.nm, .str g.pa, .str g.un, .ref g.a]) ∧ IsA K H (.ref g.a) g.t g.u n
theorem CuOk.same {K : PySem.W.Frag} {n : Nat} {H H' : Hp} {g : Cu} (h : CuOk K n H g) (s : Same H H') : CuOk K n H' g := ⟨s _ _ h.1, h.2.same s⟩
def numK (nums : List (Str × Nat)) : List (Key × V) := nums.map fun z => (Sum.inr z.1, V.int (z.2 : Int))
theorem valV_num (nums : List (Str × Nat)) (x : Str) : valV (numK nums) (Sum.inr x) = (M04.num nums x).map fun (i : Nat) => V.int (i : Int) := by
  induction nums with
  | nil => rfl
  | cons z r ih =>
    unfold valV numK M04.num at *
    rw [List.map_cons, List.find?_cons, List.find?_cons]
    by_cases c : z.1 = x
    · simp [c]
    · have e1 : decide ((Sum.inr z.1 : Key) = Sum.inr x) = false := decide_eq_false fun e => c (Sum.inr.inj e)
      have e2 : decide (z.1 = x) = false := decide_eq_false c
      rw [e1, e2]
      exact ih
def bitsOf (mm : Nat) (gs : List Cu) : Nat := (gs.length + 1) * (mm + 1)
structure Inn (K : PySem.W.Frag) (mm : Nat) (H0 H : Hp) (c r d : Addr) (gs : List Cu) (rs : List (Addr × List It)) : Prop where
  cl : H c = some (.lst (gs.map fun g => V.ref g.q))
  cok : ∀ g ∈ gs, CuOk K mm H g
  rl : H r = some (.lst (rs.map fun z => V.ref z.1))
  rok : ∀ z ∈ rs, RowOk K (bitsOf mm gs) H z.1 z.2 ∧ z.2.length ≤ gs.length ∧ H0 z.1 = none ∧ z.1 ≠ c ∧ z.1 ≠ r
  rv : (rs.map fun z => rv z.2) = (M04.all (gs.map cv)).rows
  dk : H d = some (.dK (numK (M04.all (gs.map cv)).nums))
  n : gs.length ≤ 20
  mm : 1 ≤ mm ∧ mm ≤ 200
  c0 : H0 c = none
  r0 : H0 r = none
  d0 : H0 d = none
  cr : c ≠ r
  old : ∀ q, H q = none → H0 q = none
theorem Inn.same {K : PySem.W.Frag} {mm : Nat} {H0 H H' : Hp} {c r d : Addr} {gs : List Cu} {rs : List (Addr × List It)} (h : Inn K mm H0 H c r d gs rs) (s : Same H H') : Inn K mm H0 H' c r d gs rs :=
  ⟨s _ _ h.cl, fun g hg => (h.cok g hg).same s, s _ _ h.rl, fun z hz => ⟨(h.rok z hz).1.same s, (h.rok z hz).2⟩, h.rv, s _ _ h.dk, h.n, h.mm, h.c0, h.r0, h.d0, h.cr, fun q z => h.old q (none_of s z)⟩
/-- an item of the told cues -/
def CueArg (K : PySem.W.Frag) (n : Nat) (H : Hp) (it : Addr) (c : M04.Cue) : Prop := ∃ x t u, (H it = some (.lst [.str c.nm, .str c.pa, .str c.un, x]) ∨ H it = some (.tup [.str c.nm, .str c.pa, .str c.un, x])) ∧ Arg K H x t u n ∧ vq t u = c.q
theorem CueArg.same {K : PySem.W.Frag} {n : Nat} {H H' : Hp} {it : Addr} {c : M04.Cue} (h : CueArg K n H it c) (s : Same H H') : CueArg K n H' it c := by
  obtain ⟨x, t, u, h1, h2, h3⟩ := h
  exact ⟨x, t, u, h1.imp (s _ _) (s _ _), h2.same s, h3⟩
abbrev Ok4 (nums : List (Str × Nat)) (c : M04.Cue) : Prop := isName c.nm = true ∧ M04.num nums c.nm = none ∧ (M04.num nums c.pa).isSome = true ∧ isUnit c.un = true
abbrev CUn (K : PySem.W.Frag) : Addr := He.ga K "UnknownCue"
abbrev CNm (K : PySem.W.Frag) : Addr := He.ga K "InvalidName"
abbrev CDp (K : PySem.W.Frag) : Addr := He.ga K "Duplicate"
abbrev CTm (K : PySem.W.Frag) : Addr := He.ga K "TooMany"
def ErrL (C : Addr) (v : V) (H : Hp) (E : XK) : Prop := ∀ d, H d = none → E (.ref C) (some d) (upd H d (.xd [("label", v)]))
def ErrM (C : Addr) (v : V) (H : Hp) (E : XK) : Prop := ∀ d, H d = none → E (.ref C) (some d) (upd H d (.xd [("most", v)]))
/-- what is raised of it -/
def BadE (K : PySem.W.Frag) (b : M34.Bad) (H : Hp) (E : XK) : Prop := match b with
  | .name z => Err (CNm K) (.str z) H E
  | .dup z => ErrL (CDp K) (.str z) H E
  | .unk z => ErrL (CUn K) (.str z) H E
def CcP (K : PySem.W.Frag) (ob : Option M34.Bad) (H : Hp) (Q : VK) (E : XK) : Prop := match ob with
  | some b => ∀ H', Same H H' → BadE K b H' E
  | none => ∀ H', Same H H' → Q .non H'
def spCC (K : PySem.W.Frag) : Sp := fun vs H Q E => ∃ it d n c nums, vs = [.ref it, .ref d] ∧ CueArg K n H it c ∧ H d = some (.dK (numK nums)) ∧ isUnit c.un = true ∧ c.nm.length ≤ 1000 ∧ CcP K (M34.bad isName nums c) H Q E
/-- all but the three parts is as it was -/
def Kp3 (c r d : Addr) (H H' : Hp) : Prop := ∀ q o, q ≠ c → q ≠ r → q ≠ d → H q = some o → H' q = some o
theorem Kp3.same {c r d : Addr} {H H' : Hp} (s : Same H H') : Kp3 c r d H H' := fun q o _ _ _ h => s q o h
theorem Kp3.trans {c r d : Addr} {H H1 H2 : Hp} (a : Kp3 c r d H H1) (b : Kp3 c r d H1 H2) : Kp3 c r d H H2 := fun q o h1 h2 h3 h => b q o h1 h2 h3 (a q o h1 h2 h3 h)
def spTell (K : PySem.W.Frag) : Sp := fun vs H Q _ => ∃ (o it dx c r d : Addr) (mm : Nat) (H0 : Hp) (gs : List Cu) (rs : List (Addr × List It)) (cu : M04.Cue), vs = [.ref o, .ref it] ∧ H o = some (.ins (CS K) dx (shFl c r d)) ∧ Inn K mm H0 H c r d gs rs ∧ gs.length < 20 ∧ CueArg K mm H it cu ∧ Ok4 (M04.all (gs.map cv)).nums cu ∧
  ∀ H' g rs', Kp3 c r d H H' → Inn K mm H0 H' c r d (gs ++ [g]) rs' → cv g = cu → Q .non H'
abbrev sCC : Stmt := top 39
abbrev sTel : Stmt := inClass (top 38) 1
theorem scCC : FnScope ["item", "known", "name", "parent", "unit", "amount"] ["item", "known"] (defScope sCC) := ⟨rfl, rfl, rfl, by decide +kernel, rfl, by decide +kernel, by decide +kernel⟩
theorem scTel : FnScope ["self", "item", "name", "parent", "unit", "amount", "shift", "row"] ["self", "item"] (defScope sTel) := ⟨rfl, rfl, rfl, by decide +kernel, rfl, by decide +kernel, by decide +kernel⟩
theorem isName_len {z : Str} (h : isName z = true) : z.length ≤ 8 := by
  unfold isName at h
  rw [Bool.and_eq_true, Bool.and_eq_true] at h
  exact of_decide_eq_true h.1.2
section
variable {P : Program} {w : World} {K : PySem.W.Frag} {mg : Str → Option Value} {base : Heap} {f fL fN fC fA fS fX fE x1 x2 x3 : Addr} {fd fdL fdN fdC fdA fdS fdX fdE : FuncData} {aU : Addr} {q1 t1 q2 t2 q3 t3 : Str}
theorem ok_cc (F : FnP K "check_cue" sCC f fd) (T : AF K mg) (V : VF K mg aU) (mL : mg "len" = none) (LS : Fn P w K mg base "is_listing" 1 ["value"] (spLs K) fL fdL) (NA : Fn P w K mg base "is_name" 2 ["value"] (spName K) fN fdN) (CK : Fn P w K mg base "check_unit" 2 ["unit"] (spChk K) fC fdC) (IA : Fn P w K mg base "is_amount" 2 ["value"] (spIsA K) fA fdA)
    (gN : mg "InvalidName" = some (.ref (CNm K))) (XN : Xb.Txt P.main.file K q1 "value" t1 (CNm K) x1) (gD : mg "Duplicate" = some (.ref (CDp K))) (XD : Xb.Txt P.main.file K q2 "label" t2 (CDp K) x2) (gE : mg "UnknownCue" = some (.ref (CUn K))) (XU : Xk.Txt P.main.file K q3 "label" t3 (CUn K) x3) (htop : (P.main.scope.names.lookup ("super" : Str)).isSome = false) :
    FnOk P w K mg base (L2.CX P w) 3 f fd ["item", "known"] (spCC K) := by
  refine F.ok scCC (fun vs H Q E h => ?_) (fun cdv A outer s H vs Q E hr h => ?_)
  · obtain ⟨it, d, n, c, nums, rfl, _⟩ := h
    rfl
  · obtain ⟨it, d, n, c, nums, rfl, ca, hd, o4, nl, k⟩ := h
    have hu1 : (A.deeper (envOfC "check_cue" (defScope sCC) s.heap.objs.size f cdv)).units + 1 < cLine := by
      have := hr.un
      omega
    have hr1 := hr.mono (show 1 ≤ 2 by decide)
    have hr2 := hr.mono (show 2 ≤ 2 by decide)
    refine ⟨_, (pss_cons (ps_if (PW.pt (pw_or (pt_not (pt_val (pe_call LS.ok hr1 rfl LS.g LS.k LS.b .nil passL (pa_cons (pv 0) pa_nil)))) (pw_or1 (pt_cmpR op_ne (pe_callB call_len rfl mL PySem.boot_len (pa_cons (pv 0) pa_nil)) pe_int (nomark _))))) pss_never pss_nil)
      (pss_cons (ps_asg (pv 0) (pg_or (pg_lst (by rfl) (pgs_cons (pg_name (i := 2) scCC.nd rfl (Or.inl rfl)) (pgs_cons (pg_name (i := 3) scCC.nd rfl (Or.inl rfl)) (pgs_cons (pg_name (i := 4) scCC.nd rfl (Or.inl rfl)) (pgs_cons (pg_name (i := 5) scCC.nd rfl (Or.inl rfl)) pgs_nil))))) (pg_tup (by rfl) (pgs_cons (pg_name (i := 2) scCC.nd rfl (Or.inl rfl)) (pgs_cons (pg_name (i := 3) scCC.nd rfl (Or.inl rfl)) (pgs_cons (pg_name (i := 4) scCC.nd rfl (Or.inl rfl)) (pgs_cons (pg_name (i := 5) scCC.nd rfl (Or.inl rfl)) pgs_nil)))))))
      (pss_cons (ps_if (pt_not (pt_val (pe_call NA.ok hr2 rfl NA.g NA.k NA.b .nil passL (pa_cons (pv 2) pa_nil)))) (pss_one (Xb.ps_raiseX (W := fun cls d _ H => E cls d H) rfl XN gN htop hr2 (takes_of rfl rfl rfl rfl) (pa_cons (pv 2) pa_nil))) pss_nil)
      (pss_cons (ps_if (pt_cmp (pc_din hu1 (pv 2) (pv 1))) (pss_one (Xb.ps_raiseX (W := fun cls d _ H => E cls d H) rfl XD gD htop hr2 (takes_of rfl rfl rfl rfl) (pa_cons (pv 2) pa_nil))) pss_nil)
      (pss_cons (ps_if (PW.pt (pw_or (pt_not (pt_val (pe_isi T.isi (pv 3) (pe_ty V.str boot_str)))) (pw_or1 (pt_cmp (pc_dnotin hu1 (pv 3) (pv 1)))))) (pss_one (Xk.ps_raiseX (W := fun cls d _ H => E cls d H) rfl XU gE htop hr2 (takes_of rfl rfl rfl rfl) (pa_cons (pv 3) pa_nil))) pss_nil)
      (pss_cons (ps_expr (pe_call CK.ok hr2 rfl CK.g CK.k CK.b .nil passL (pa_cons (pv 4) pa_nil)))
      (pss_one (ps_if (pt_not (pt_val (pe_call IA.ok hr2 rfl IA.g IA.k IA.b .nil passL (pa_cons (pv 5) pa_nil)))) pss_never pss_nil)))))))), ?_⟩
    obtain ⟨x, t, u, hit, ar, eq⟩ := id ca
    have ty : ∃ T0, (∀ J, Same H J → TyX K J (.ref it) T0) ∧ PySem.W.kitAny K T0 [.type "list", .type "tuple"] = some true := by
      rcases hit with h | h
      · exact ⟨_, fun J s => .base (.lst (s _ _ h)), ka_list⟩
      · exact ⟨_, fun J s => .base (.tup (s _ _ h)), ka_tuple⟩
    obtain ⟨T0, ty, kt⟩ := ty
    refine ⟨_, rfl, _, T0, true, rfl, ty, kt, fun H1 s1 => ?_⟩
    have un : ∀ J, Same H J → ∀ (m : Nat) (tt : TGs) (σ : L2.St) (Q' : L2.St → Hp → Prop), m = 4 → tt [.str c.nm, .str c.pa, .str c.un, x] σ J Q' → gLst K m tt (.ref it) σ J Q' ∨ gTup K m tt (.ref it) σ J Q' := fun J sJ m tt σ Q' e z => by
      subst e
      rcases hit with h | h
      · exact .inl ⟨it, _, rfl, SqL.of (sJ _ _ h), rfl, z⟩
      · exact .inr ⟨it, _, rfl, SqT.of (sJ _ _ h), rfl, z⟩
    have len4 : LenV K (.ref it) H1 4 := by
      rcases hit with h | h
      · exact .inl ⟨_, SqL.of (s1 _ _ h), rfl⟩
      · exact .inr ⟨_, SqT.of (s1 _ _ h), rfl⟩
    refine ⟨_, rfl, iteF ⟨_, rfl, _, 4, rfl, len4, rfl, _, rfl, if_false_of (by rfl) ?_⟩⟩
    refine ⟨_, rfl, un H1 s1 _ _ _ _ rfl ⟨_, _, rfl, _, _, rfl, _, _, rfl, _, _, rfl, rfl, ?_⟩⟩
    refine ⟨_, rfl, _, rfl, .inr ⟨c.nm, rfl, Nat.le_trans nl (by decide), fun H2 s2 => ⟨_, rfl, ?_⟩⟩⟩
    have s12 := s1.trans s2
    have hd2 := s12 _ _ hd
    cases o1 : isName c.nm with
    | false =>
      have eb : M34.bad isName nums c = some (.name c.nm) := by
        unfold M34.bad
        rw [if_pos o1]
      rw [eb] at k
      exact iteT ⟨_, rfl, _, rfl, k _ s12⟩
    | true =>
    refine iteF ?_
    cases o2 : M04.num nums c.nm with
    | some j =>
      have eb : M34.bad isName nums c = some (.dup c.nm) := by
        unfold M34.bad
        rw [if_neg (by rw [o1]; decide), if_pos (by rw [o2]; rfl)]
      rw [eb] at k
      refine ⟨_, rfl, _, rfl, d, some (.int j), rfl, .inl ⟨_, Sum.inr c.nm, Rd.of hd2, rfl, by rw [valV_num, o2]; rfl⟩, _, rfl, iteT ⟨_, rfl, _, rfl, k _ s12⟩⟩
    | none =>
    refine ⟨_, rfl, _, rfl, d, none, rfl, .inl ⟨_, Sum.inr c.nm, Rd.of hd2, rfl, by rw [valV_num, o2]; rfl⟩, ?_⟩
    refine ⟨_, rfl, iteF ?_⟩
    refine ⟨_, rfl, .str c.pa, _, _, _, true, rfl, .ty "str", TyX.base (.str c.pa), tx_str, true, rfl, iteF ?_⟩
    cases o3 : M04.num nums c.pa with
    | none =>
      have eb : M34.bad isName nums c = some (.unk c.pa) := by
        unfold M34.bad
        rw [if_neg (by rw [o1]; decide), if_neg (by rw [o2]; decide), if_pos (by rw [o3]; rfl)]
      rw [eb] at k
      exact ⟨_, rfl, _, rfl, d, none, rfl, .inl ⟨_, Sum.inr c.pa, Rd.of hd2, rfl, by rw [valV_num, o3]; rfl⟩, _, rfl, iteT ⟨_, rfl, _, rfl, k _ s12⟩⟩
    | some i =>
    have eb : M34.bad isName nums c = none := M34.bad_none.mpr ⟨o1, o2, by rw [o3]; rfl⟩
    rw [eb] at k
    refine ⟨_, rfl, _, rfl, d, some (.int i), rfl, .inl ⟨_, Sum.inr c.pa, Rd.of hd2, rfl, by rw [valV_num, o3]; rfl⟩, _, rfl, iteF ?_⟩
    refine ⟨_, rfl, _, rfl, .inr ⟨c.un, rfl, (fun h => by rw [o4] at h; cases h), fun _ => ?_⟩⟩
    obtain ⟨ty1, c1, c2, d1, d2, d3, d4⟩ := arg_am T (ar.same s12)
    refine ⟨_, rfl, _, ty1, c1, c2, rfl, d1, d2, d3, _, rfl, ?_⟩
    rw [d4]
    exact iteF (k _ s12)
end
end K34
set_option Elab.async false
set_option linter.all false
set_option maxRecDepth 100000
set_option maxHeartbeats 1000000
set_option exponentiation.threshold 100000
namespace K34
open PySem PySem.Spec PyProof.Rows L2 Fa Fb
/-- a list or a dict stands at a -/
def NoTI (H : Hp) (a : Addr) : Prop := (∃ xs, H a = some (.lst xs)) ∨ ∃ kv, H a = some (.dK kv)
theorem NoTI.tup {H : Hp} {a q : Addr} {xs : List V} (h : NoTI H a) (z : H q = some (.tup xs)) : q ≠ a := fun e => by
  subst e
  rcases h with ⟨_, h⟩ | ⟨_, h⟩ <;> (rw [z] at h; cases h)
theorem NoTI.ins {H : Hp} {a q C dx : Addr} {fs : List (Str × V)} (h : NoTI H a) (z : H q = some (.ins C dx fs)) : q ≠ a := fun e => by
  subst e
  rcases h with ⟨_, h⟩ | ⟨_, h⟩ <;> (rw [z] at h; cases h)
theorem IsA.put {K : PySem.W.Frag} {H : Hp} {a : Addr} {ob : HO} {x : V} {t u : Int} {n : Nat} (h : IsA K H x t u n) (na : NoTI H a) : IsA K (upd H a ob) x t u n := by
  obtain ⟨p, dx, e, hp, r⟩ := h
  exact ⟨p, dx, e, by rw [upd_ne (na.ins hp)]; exact hp, r⟩
theorem ItOk.put {K : PySem.W.Frag} {H : Hp} {a : Addr} {ob : HO} {n : Nat} {g : It} (h : ItOk K n H g) (na : NoTI H a) : ItOk K n (upd H a ob) g := ⟨by rw [upd_ne (na.tup h.1)]; exact h.1, h.2.put na⟩
theorem CuOk.put {K : PySem.W.Frag} {H : Hp} {a : Addr} {ob : HO} {n : Nat} {g : Cu} (h : CuOk K n H g) (na : NoTI H a) : CuOk K n (upd H a ob) g := ⟨by rw [upd_ne (na.tup h.1)]; exact h.1, h.2.put na⟩
theorem RowOk.put {K : PySem.W.Frag} {H : Hp} {a p : Addr} {ob : HO} {n : Nat} {gs : List It} (h : RowOk K n H p gs) (na : NoTI H a) (ne : p ≠ a) : RowOk K n (upd H a ob) p gs := ⟨by rw [upd_ne ne]; exact h.l, fun g hg => (h.ok g hg).put na, h.n⟩
theorem putK_num {nums : List (Str × Nat)} {x : Str} {j : Nat} (h : M04.num nums x = none) : putK (numK nums) (Sum.inr x) (V.int (j : Int)) = numK (nums ++ [(x, j)]) := by
  have : (numK nums).any (fun kv => decide (kv.1 = (Sum.inr x : Key))) = false := by
    unfold numK
    unfold M04.num at h
    rw [List.any_map, List.any_eq_false]
    intro z hz e
    have e := of_decide_eq_true e
    have : (nums.find? fun z => decide (z.1 = x)) = none := by simpa using h
    rw [List.find?_eq_none] at this
    exact this z hz (decide_eq_true (Sum.inr.inj e))
  unfold putK
  rw [this]
  unfold numK
  rw [List.map_append]
  rfl
theorem map_at {α β : Type} {l : List α} {f : α → β} {i : Nat} {b : β} (h : (l.map f)[i]? = some b) : ∃ a, l[i]? = some a ∧ f a = b := by
  rw [List.getElem?_map] at h
  cases e : l[i]? with
  | none => rw [e] at h; cases h
  | some a => rw [e] at h; cases h; exact ⟨a, rfl, rfl⟩
theorem bits_app {mm : Nat} {gs : List Cu} {g : Cu} : bitsOf mm (gs ++ [g]) = (gs.length + 2) * (mm + 1) := by
  unfold bitsOf
  rw [List.length_append]
  rfl
theorem un4 {K : PySem.W.Frag} {J : Hp} {it : Addr} {a b c x : V} (hit : J it = some (.lst [a, b, c, x]) ∨ J it = some (.tup [a, b, c, x])) (m : Nat) (tt : TGs) (σ : L2.St) (Q' : L2.St → Hp → Prop) (e : m = 4) (z : tt [a, b, c, x] σ J Q') : gLst K m tt (.ref it) σ J Q' ∨ gTup K m tt (.ref it) σ J Q' := by
  subst e
  rcases hit with h | h
  · exact .inl ⟨it, _, rfl, SqL.of h, rfl, z⟩
  · exact .inr ⟨it, _, rfl, SqT.of h, rfl, z⟩
/-- behind the row, before the cue is noted -/
structure Mid (K : PySem.W.Frag) (mm : Nat) (H0 H H' : Hp) (o dx c r d : Addr) (gs : List Cu) (cu : M04.Cue) (sh l : Addr) (hs : List It) (rs : List (Addr × List It)) (t u : Int) : Prop where
  kp : Kp3 c r d H H'
  ho : H' o = some (.ins (CS K) dx (shFl c r d))
  am : IsA K H' (.ref sh) t u mm
  av : vq t u = cu.q
  cl : H' c = some (.lst (gs.map fun g => V.ref g.q))
  cok : ∀ g ∈ gs, CuOk K mm H' g
  rl : H' r = some (.lst (rs.map fun z => V.ref z.1))
  rok : ∀ z ∈ rs, RowOk K ((gs.length + 2) * (mm + 1)) H' z.1 z.2 ∧ z.2.length ≤ gs.length + 1 ∧ H0 z.1 = none ∧ z.1 ≠ c ∧ z.1 ≠ r
  rv : (rs.map fun z => rv z.2) = M04.rows (M04.all (gs.map cv)) cu
  dk : H' d = some (.dK (numK (M04.all (gs.map cv)).nums))
  row : RowOk K ((gs.length + 2) * (mm + 1)) H' l hs
  rowv : K34.rv hs = M04.row (M04.all (gs.map cv)) cu
  lc : l ≠ c
def sTelM (K : PySem.W.Frag) (mm : Nat) (H0 H : Hp) (o it dx c r d : Addr) (gs : List Cu) (cu : M04.Cue) (Q : VK) : TS := fun D σ H' => ∃ (x : V) (sh l : Addr) (hs : List It) (rs : List (Addr × List It)) (t u : Int), σ = [some (.ref o), some (.ref it), some (.str cu.nm), some (.str cu.pa), some (.str cu.un), some x, some (.ref sh), some (.ref l)] ∧
  Mid K mm H0 H H' o dx c r d gs cu sh l hs rs t u ∧ D.nx = fun _ H'' => Q .non H''
section
variable {P : Program} {w : World} {K : PySem.W.Frag} {mg : Str → Option Value} {base : Heap} {f fS fX fE : Addr} {fd fdS fdX fdE : FuncData}
theorem ok_tel (F : FunD K "_tell" "Sheet._tell" (defArgs sTel) (defBody sTel) (defScope sTel) [] [] f fd) (T : AF K mg) (M : MF K mg) (EQ : EqK P w K mg base fE fdE) (AS : Fn P w K mg base "as_amount" 6 ["value"] (spAs K) fS fdS) (EX : Fn P w K mg base "extended" 8 ["row", "unit", "amount"] (spExt K) fX fdX) :
    FnOk P w K mg base (L2.CX P w) 9 f fd ["self", "item"] (spTell K) := by
  refine F.ok scTel (fun vs H Q E h => ?_) (fun cdv A outer s H vs Q E hr h => ?_)
  · obtain ⟨o, it, dx, c, r, d, mm, H0, gs, rs, cu, rfl, _⟩ := h
    rfl
  · obtain ⟨o, it, dx, c, r, d, mm, H0, gs, rs, cu, rfl, ho, inn, hlen, ca, ⟨o1, o2, o3, o4⟩, k⟩ := h
    have hu1 : (A.deeper (envOfC "Sheet._tell" (defScope sTel) s.heap.objs.size f cdv)).units + 1 < cLine := by
      have := hr.un
      omega
    have hr4 := hr.mono (show 4 ≤ 8 by decide)
    have hr6 := hr.mono (show 6 ≤ 8 by decide)
    have hr8 := hr.mono (show 8 ≤ 8 by decide)
    refine ⟨_, (pss_cons (ps_asg (pv 1) (pg_or (pg_lst (by rfl) (pgs_cons (pg_name (i := 2) scTel.nd rfl (Or.inl rfl)) (pgs_cons (pg_name (i := 3) scTel.nd rfl (Or.inl rfl)) (pgs_cons (pg_name (i := 4) scTel.nd rfl (Or.inl rfl)) (pgs_cons (pg_name (i := 5) scTel.nd rfl (Or.inl rfl)) pgs_nil))))) (pg_tup (by rfl) (pgs_cons (pg_name (i := 2) scTel.nd rfl (Or.inl rfl)) (pgs_cons (pg_name (i := 3) scTel.nd rfl (Or.inl rfl)) (pgs_cons (pg_name (i := 4) scTel.nd rfl (Or.inl rfl)) (pgs_cons (pg_name (i := 5) scTel.nd rfl (Or.inl rfl)) pgs_nil)))))))
      (pss_cons (ps_set (i := 6) scTel.nd rfl (Or.inl rfl) (pe_call AS.ok hr6 rfl AS.g AS.k AS.b .nil passL (pa_cons (pv 5) pa_nil)))
      (pss_cons (ps_set (i := 7) scTel.nd rfl (Or.inl rfl) (pe_call EX.ok hr8 rfl EX.g EX.k EX.b .nil passL (pa_cons (pe_ix ix_list (pe_fld (pv 0) rfl) (pe_dget hu1 (pe_fld (pv 0) rfl) (pv 3) (fun _ _ => rfl)) (fun _ _ => rfl)) (pa_cons (pv 4) (pa_cons (pv 6) pa_nil)))))
      (pss_cons (ps_if (pt_cmpR (Fr.op_notInB monB_row (eqB_row EQ) hr4) (pv 7) (pe_fld (pv 0) rfl) (by rfl)) (pss_one (ps_expr (pe_bm PySem.F.plainAttrs_list PySem.F.slot_list_append PySem.F.type_list_append mt_append (pe_fld (pv 0) rfl) (pa_cons (pv 7) pa_nil)))) pss_nil)
      (pss_imp (S := sTelM K mm H0 H o it dx c r d gs cu Q) (pss_cons (ps_expr (pe_bm PySem.F.plainAttrs_list PySem.F.slot_list_append PySem.F.type_list_append mt_append (pe_fld (pv 0) rfl) (pa_cons (pe_tup (pa_cons (pv 2) (pa_cons (pv 3) (pa_cons (pv 4) (pa_cons (pv 6) pa_nil))))) pa_nil)))
      (pss_one (ps_dput hu1 (pe_fld (pv 0) rfl) (pv 2) (pe_bm PySem.F.plainAttrs_list PySem.F.slot_list_index PySem.F.type_list_index (Fr.mt_indexB monB_row (eqB_row EQ) hr4) (pe_fld (pv 0) rfl) (pa_cons (pv 7) pa_nil)) (by rfl)))) ?mid))))), ?_⟩
    case mid =>
      rintro D σ H1 ⟨x, sh, l, hs, rs1, t, u, rfl, m, hD⟩
      obtain ⟨m1, m2⟩ := inn.mm
      have nc : NoTI H1 c := .inl ⟨_, m.cl⟩
      refine ⟨_, rfl, o, _, dx, _, _, rfl, m.ho, M.cl, M.n1, sh_c c r d, .inl ⟨rfl, _, SqL.of m.cl⟩, ?_⟩
      refine ⟨_, rfl, _, rfl, _, rfl, _, rfl, by show 4 ≤ sizeLine; decide, fun q hq => ?_⟩
      have s2 := Same.upd (o := .tup [.str cu.nm, .str cu.pa, .str cu.un, .ref sh]) hq
      have hq2 : upd H1 q (.tup [.str cu.nm, .str cu.pa, .str cu.un, .ref sh]) q = some (.tup [.str cu.nm, .str cu.pa, .str cu.un, .ref sh]) := upd_same
      generalize upd H1 q (.tup [.str cu.nm, .str cu.pa, .str cu.un, .ref sh]) = H2 at s2 hq2
      have c2 := s2 _ _ m.cl
      have nc2 : NoTI H2 c := .inl ⟨_, c2⟩
      refine ⟨c, _, _, rfl, rfl, c2, ?_, ?_⟩
      · rw [List.length_map]
        exact Nat.lt_of_lt_of_le (show gs.length < 100 by omega) (by decide)
      have c3 : upd H2 c (.lst ((gs.map fun g => V.ref g.q) ++ [.ref q])) c = some (.lst ((gs.map fun g => V.ref g.q) ++ [.ref q])) := upd_same
      have o3 : upd H2 c (.lst ((gs.map fun g => V.ref g.q) ++ [.ref q])) o = some (.ins (CS K) dx (shFl c r d)) := by
        rw [upd_ne (nc2.ins (s2 _ _ m.ho))]
        exact s2 _ _ m.ho
      have r3 : upd H2 c (.lst ((gs.map fun g => V.ref g.q) ++ [.ref q])) r = some (.lst (rs1.map fun z => V.ref z.1)) := by
        rw [upd_ne (Ne.symm inn.cr)]
        exact s2 _ _ m.rl
      have d3 : upd H2 c (.lst ((gs.map fun g => V.ref g.q) ++ [.ref q])) d = some (.dK (numK (M04.all (gs.map cv)).nums)) := by
        rw [upd_ne fun e => by
          have := s2 _ _ m.dk
          rw [e, c2] at this
          cases this]
        exact s2 _ _ m.dk
      have cok3 : ∀ g ∈ gs, CuOk K mm (upd H2 c (.lst ((gs.map fun g => V.ref g.q) ++ [.ref q]))) g := fun g hg => ((m.cok g hg).same s2).put nc2
      have new3 : CuOk K mm (upd H2 c (.lst ((gs.map fun g => V.ref g.q) ++ [.ref q]))) ⟨q, sh, cu.nm, cu.pa, cu.un, t, u⟩ := CuOk.put ⟨hq2, m.am.same s2⟩ nc2
      have rok3 : ∀ z ∈ rs1, RowOk K ((gs.length + 2) * (mm + 1)) (upd H2 c (.lst ((gs.map fun g => V.ref g.q) ++ [.ref q]))) z.1 z.2 := fun z hz => ((m.rok z hz).1.same s2).put nc2 (m.rok z hz).2.2.2.1
      have kp3 : Kp3 c r d H (upd H2 c (.lst ((gs.map fun g => V.ref g.q) ++ [.ref q]))) := m.kp.trans ((Kp3.same s2).trans fun p ob h1 h2 h3 h => by rw [upd_ne h1]; exact h)
      have rowc := m.lc
      have row3 : RowOk K ((gs.length + 2) * (mm + 1)) (upd H2 c (.lst ((gs.map fun g => V.ref g.q) ++ [.ref q]))) l hs := (m.row.same s2).put nc2 rowc
      generalize upd H2 c (.lst ((gs.map fun g => V.ref g.q) ++ [.ref q])) = H3 at c3 o3 r3 d3 cok3 new3 rok3 kp3 row3
      have mem := M04.row_mem (M04.all (gs.map cv)) cu
      have jl := M04.idx_lt mem
      have lenR : rs1.length = (M04.rows (M04.all (gs.map cv)) cu).length := by rw [← m.rv, List.length_map]
      refine ⟨_, rfl, o, _, dx, _, _, rfl, o3, M.cl, M.n2, sh_r c r d, .inl ⟨rfl, _, SqL.of r3⟩, _, rfl, r, _, _, fun i => match rs1[i]? with
        | some z => decide (rv z.2 = rv hs)
        | none => false, M04.idx (M04.rows (M04.all (gs.map cv)) cu) (M04.row (M04.all (gs.map cv)) cu), rfl, rfl, r3, fun i z ez => ?_, ?_, ?_, fun m' hm' => ?_, fun H4 s4 => ?_⟩
      · obtain ⟨w', ew, e2⟩ := map_at ez
        subst e2
        dsimp only
        rw [ew]
        exact row_eqB (rok3 _ (List.mem_of_getElem? ew)) row3
      · rw [List.length_map, lenR]
        exact jl
      · have := M04.idx_at mem
        rw [← m.rv] at this
        obtain ⟨z, ez, e2⟩ := map_at this
        rw [m.rv] at ez
        dsimp only
        rw [ez]
        dsimp only
        rw [e2, m.rowv]
        exact decide_eq_true rfl
      · dsimp only
        cases ez : rs1[m']? with
        | none => rfl
        | some z =>
          refine decide_eq_false fun e => M04.idx_no hm' (rv z.2) ?_ (by rw [e, m.rowv])
          rw [← m.rv, List.getElem?_map, ez]
          rfl
      refine ⟨_, rfl, o, _, dx, _, _, rfl, s4 _ _ o3, M.cl, M.n3, sh_d c r d, _, rfl, d, _, rfl, .inl ⟨_, Sum.inr cu.nm, s4 _ _ d3, rfl, ?_, rfl⟩, ?_⟩
      · show (numK (M04.all (gs.map cv)).nums).length < sizeLine
        unfold numK
        rw [List.length_map, M04.nums_len, List.length_map]
        exact Nat.lt_of_lt_of_le (show gs.length + 1 < 100 by omega) (by decide)
      rw [putK_num o2, hD]
      have nd4 : NoTI H4 d := .inr ⟨_, s4 _ _ d3⟩
      have ne_d : ∀ {p xs}, H3 p = some (.lst xs) → p ≠ d := fun h e => by
        rw [e, d3] at h
        cases h
      have up : M04.all ((gs ++ [(⟨q, sh, cu.nm, cu.pa, cu.un, t, u⟩ : Cu)]).map cv) = M04.step (M04.all (gs.map cv)) cu := by
        rw [List.map_append, List.map_singleton, M04.all_app]
        congr 1
        unfold cv
        rw [m.av]
      refine k _ ⟨q, sh, cu.nm, cu.pa, cu.un, t, u⟩ rs1 ?_ ⟨?_, fun g hg => ?_, ?_, fun z hz => ?_, ?_, ?_, ?_, inn.mm, inn.c0, inn.r0, inn.d0, inn.cr, fun q' z => inn.old q' ?_⟩ (by unfold cv; rw [m.av])
      · refine (kp3.trans (Kp3.same s4)).trans fun p ob h1 h2 h3 h => ?_
        rw [upd_ne h3]
        exact h
      · rw [upd_ne (ne_d c3), List.map_append]
        exact s4 _ _ c3
      · rcases List.mem_append.mp hg with hg | hg
        · exact ((cok3 g hg).same s4).put nd4
        · rw [List.mem_singleton] at hg
          subst hg
          exact (new3.same s4).put nd4
      · rw [upd_ne (ne_d r3)]
        exact s4 _ _ r3
      · rw [bits_app, List.length_append]
        obtain ⟨_, z2, z3, z4, z5⟩ := m.rok z hz
        exact ⟨((rok3 z hz).same s4).put nd4 (ne_d (rok3 z hz).l), z2, z3, z4, z5⟩
      · rw [up]
        exact m.rv
      · rw [up]
        exact upd_same
      · rw [List.length_append]
        exact hlen
      · cases e : H q' with
        | none => rfl
        | some ob =>
          by_cases e1 : q' = c
          · rw [e1, upd_ne (ne_d c3), s4 _ _ c3] at z
            cases z
          · by_cases e2 : q' = r
            · rw [e2, upd_ne (ne_d r3), s4 _ _ r3] at z
              cases z
            · by_cases e3 : q' = d
              · rw [e3, upd_same] at z
                cases z
              · rw [upd_ne e3, s4 _ _ (kp3 _ _ e1 e2 e3 e)] at z
                cases z
    obtain ⟨m1, m2⟩ := inn.mm
    obtain ⟨x, t, u, hit, ar, eq⟩ := id ca
    obtain ⟨i, ei⟩ := Option.isSome_iff_exists.mp o3
    have il : i < (M04.all (gs.map cv)).rows.length := M04.all_ok _ _ M04.init_ok _ _ ei
    have er : ∃ z : Addr × List It, rs[i]? = some z ∧ rv z.2 = (M04.all (gs.map cv)).rows[i] := map_at (f := fun z : Addr × List It => rv z.2) (by rw [inn.rv, List.getElem?_eq_getElem il])
    obtain ⟨z, ez, ev⟩ := er
    obtain ⟨z1, z2, z3, z4, z5⟩ := inn.rok z (List.mem_of_getElem? ez)
    have bq : bitsOf mm gs = (gs.length + 1) * (mm + 1) := rfl
    have b0 : (gs.length + 1) * (mm + 1) ≤ 20 * 201 := Nat.mul_le_mul (by omega) (by omega)
    have b1 : 1 ≤ (gs.length + 1) * (mm + 1) := Nat.mul_pos (by omega) (by omega)
    have b2 : (gs.length + 1) * (mm + 1) + mm + 1 = (gs.length + 2) * (mm + 1) := by rw [show gs.length + 2 = (gs.length + 1) + 1 from rfl, Nat.add_mul (gs.length + 1) 1, Nat.one_mul]; omega
    refine ⟨_, rfl, un4 hit _ _ _ _ rfl ⟨_, _, rfl, _, _, rfl, _, _, rfl, _, _, rfl, rfl, ?_⟩⟩
    refine ⟨_, rfl, _, rfl, .inr ⟨t, u, mm, ar, fun ysh H1 s1 ia => ?_⟩⟩
    obtain ⟨psh, dsh, rfl, hpsh, _⟩ := id ia
    have ho1 := s1 _ _ ho
    have inn1 := inn.same s1
    refine ⟨_, rfl, o, _, dx, _, _, rfl, ho1, M.cl, M.n2, sh_r c r d, ?_⟩
    refine ⟨_, rfl, o, _, dx, _, _, rfl, ho1, M.cl, M.n3, sh_d c r d, _, rfl, d, .int (i : Int), rfl, .inl ⟨_, Sum.inr cu.pa, Rd.of inn1.dk, rfl, by rw [valV_num, ei]; rfl⟩, ?_⟩
    refine ⟨r, _, _, .ref z.1, rfl, rfl, SqL.of inn1.rl, atI_nat (by rw [List.getElem?_map, ez]; rfl), _, rfl, _, rfl, ?_⟩
    refine ⟨z.1, z.2, cu.un, .ref psh, vq t u, bitsOf mm gs, mm, rfl, z1.same s1, by omega, by omega, by omega, ⟨t, u, ia, rfl⟩, fun H2 l hs s2 hl ehs hln lnone => ?_⟩
    have s12 := s1.trans s2
    have lnew : H2 l = some (.lst (hs.map fun g => V.ref g.q)) := hl.l
    have erow : rv hs = M04.row (M04.all (gs.map cv)) cu := by
      unfold M04.row
      rw [ehs, ei, Option.getD_some, List.getD_eq_getElem?_getD, List.getElem?_eq_getElem il, Option.getD_some, ev, eq]
    have ho2 := s2 _ _ ho1
    have inn2 := inn.same s12
    rw [bq, b2] at hl
    have lc : l ≠ c := fun e => by
      rw [e, inn1.cl] at lnone
      cases lnone
    have lr : l ≠ r := fun e => by
      rw [e, inn1.rl] at lnone
      cases lnone
    refine ⟨_, rfl, _, rfl, o, _, dx, _, _, rfl, ho2, M.cl, M.n2, sh_r c r d, r, _, fun i => match rs[i]? with
      | some z => decide (rv z.2 = rv hs)
      | none => false, decide (M04.row (M04.all (gs.map cv)) cu ∈ (M04.all (gs.map cv)).rows), rfl, inn2.rl, fun i z ez => ?_, ?_, fun H3 s3 => ⟨_, rfl, ?_⟩⟩
    · obtain ⟨w', ew, e2⟩ := map_at ez
      subst e2
      dsimp only
      rw [ew]
      exact row_eqB (inn2.rok _ (List.mem_of_getElem? ew)).1 hl
    · by_cases c0 : M04.row (M04.all (gs.map cv)) cu ∈ (M04.all (gs.map cv)).rows
      · obtain ⟨j, ej⟩ := List.getElem?_of_mem c0
        rw [← inn.rv] at ej
        obtain ⟨z', ez', ev'⟩ := map_at ej
        refine .inl ⟨decide_eq_true c0, j, ?_, ?_⟩
        · rw [List.length_map]
          exact (List.getElem?_eq_some_iff.mp ez').1
        · dsimp only
          rw [ez']
          exact decide_eq_true (by rw [ev', erow])
      · refine .inr ⟨decide_eq_false c0, fun j hj => ?_⟩
        dsimp only
        cases ez' : rs[j]? with
        | none => rfl
        | some z' =>
          refine decide_eq_false fun e => c0 ?_
          rw [← erow, ← e, ← inn.rv]
          exact List.mem_map.mpr ⟨z', List.mem_of_getElem? ez', rfl⟩
    · have s13 := s12.trans s3
      have inn3 := inn.same s13
      have ho3 := s3 _ _ ho2
      have ia3 := ia.same (s2.trans s3)
      have hl3 := hl.same s3
      have l0 : H0 l = none := inn1.old l lnone
      have bm : bitsOf mm gs ≤ (gs.length + 2) * (mm + 1) := by rw [bq]; omega
      by_cases c0 : M04.row (M04.all (gs.map cv)) cu ∈ (M04.all (gs.map cv)).rows
      · rw [decide_eq_true c0]
        refine iteF ?_
        refine ⟨x, psh, l, hs, rs, t, u, rfl, ⟨Kp3.same s13, ho3, ia3, eq, inn3.cl, inn3.cok, inn3.rl, fun z hz => ?_, ?_, inn3.dk, hl3, erow, lc⟩, rfl⟩
        · obtain ⟨y1, y2, y3, y4, y5⟩ := inn3.rok z hz
          exact ⟨y1.mono bm, by omega, y3, y4, y5⟩
        · rw [inn3.rv]
          unfold M04.rows
          rw [if_pos c0]
      · rw [decide_eq_false c0]
        refine iteT ?_
        have nr : NoTI H3 r := .inl ⟨_, inn3.rl⟩
        refine ⟨_, rfl, o, _, dx, _, _, rfl, ho3, M.cl, M.n2, sh_r c r d, .inl ⟨rfl, _, SqL.of inn3.rl⟩, _, rfl, r, _, _, rfl, rfl, inn3.rl, ?_, ?_⟩
        · rw [List.length_map]
          have e1 : rs.length = (M04.all (gs.map cv)).rows.length := by rw [← inn.rv, List.length_map]
          have e2 := M04.rows_len (gs.map cv)
          rw [List.length_map] at e2
          exact Nat.lt_of_lt_of_le (show rs.length < 100 by omega) (by decide)
        · refine ⟨x, psh, l, hs, rs ++ [(l, hs)], t, u, rfl, ⟨?_, ?_, ia3.put nr, eq, ?_, fun g hg => (inn3.cok g hg).put nr, ?_, fun z hz => ?_, ?_, ?_, hl3.put nr lr, erow, lc⟩, rfl⟩
          · refine (Kp3.same s13).trans fun q ob h1 h2 h3 h => ?_
            rw [upd_ne h2]
            exact h
          · rw [upd_ne (nr.ins ho3)]
            exact ho3
          · rw [upd_ne inn.cr]
            exact inn3.cl
          · rw [upd_same, List.map_append]
            rfl
          · rcases List.mem_append.mp hz with hz | hz
            · obtain ⟨y1, y2, y3, y4, y5⟩ := inn3.rok z hz
              exact ⟨(y1.mono bm).put nr y5, by omega, y3, y4, y5⟩
            · rw [List.mem_singleton] at hz
              subst hz
              exact ⟨hl3.put nr lr, (by show hs.length ≤ _; omega), l0, lc, lr⟩
          · rw [List.map_append, inn3.rv]
            unfold M04.rows
            rw [if_neg c0, ← erow]
            rfl
          · rw [upd_ne fun e => by
              have h1 := inn3.dk
              rw [e, inn3.rl] at h1
              cases h1]
            exact inn3.dk
end
end K34
set_option Elab.async false
set_option linter.all false
set_option maxRecDepth 100000
set_option maxHeartbeats 1000000
set_option exponentiation.threshold 100000
namespace K34
open PySem PySem.Spec PyProof.Rows L2 Fa Fb
def ShAt (K : PySem.W.Frag) (mm : Nat) (H0 H : Hp) (o : Addr) (gs : List Cu) : Prop := ∃ dx c r d rs, H o = some (.ins (CS K) dx (shFl c r d)) ∧ Inn K mm H0 H c r d gs rs
theorem ShAt.same {K : PySem.W.Frag} {mm : Nat} {H0 H H' : Hp} {o : Addr} {gs : List Cu} (h : ShAt K mm H0 H o gs) (s : Same H H') : ShAt K mm H0 H' o gs := let ⟨dx, c, r, d, rs, a, b⟩ := h; ⟨dx, c, r, d, rs, s _ _ a, b.same s⟩
/-- all but o is as it was -/
def Bt (o : Addr) (H H' : Hp) : Prop := ∀ b ob, b ≠ o → H b = some ob → H' b = some ob
theorem Bt.trans {o : Addr} {H H1 H2 : Hp} (a : Bt o H H1) (b : Bt o H1 H2) : Bt o H H2 := fun q ob n h => b q ob n (a q ob n h)
theorem Bt.same {o : Addr} {H H' : Hp} (s : Same H H') : Bt o H H' := fun q ob _ h => s q ob h
theorem Bt.upd {o : Addr} {H : Hp} {ob : HO} : Bt o H (upd H o ob) := fun q _ n h => by rw [upd_ne n]; exact h
theorem IsA.bt {K : PySem.W.Frag} {H H' : Hp} {o dx : Addr} {fs : List (Str × V)} {x : V} {t u : Int} {n : Nat} (h : IsA K H x t u n) (b : Bt o H H') (ho : H o = some (.ins (CS K) dx fs)) (ne : CS K ≠ CA K) : IsA K H' x t u n := by
  obtain ⟨p, d, e, hp, r⟩ := h
  exact ⟨p, d, e, b _ _ (fun z => by rw [z, ho] at hp; exact ne (HO.ins.inj (Option.some.inj hp)).1) hp, r⟩
theorem CueArg.bt {K : PySem.W.Frag} {H H' : Hp} {o dx it : Addr} {fs : List (Str × V)} {c : M04.Cue} {n : Nat} (h : CueArg K n H it c) (b : Bt o H H') (ho : H o = some (.ins (CS K) dx fs)) (ne : CS K ≠ CA K) : CueArg K n H' it c := by
  obtain ⟨x, t, u, h1, h2, h3⟩ := h
  refine ⟨x, t, u, ?_, h2.imp (fun h => h.bt b ho ne) id, h3⟩
  rcases h1 with h1 | h1
  · exact .inl (b _ _ (fun z => by rw [z, ho] at h1; cases h1) h1)
  · exact .inr (b _ _ (fun z => by rw [z, ho] at h1; cases h1) h1)
/-- what is old is as it was -/
def SiP (K : PySem.W.Frag) (mm : Nat) (o : Addr) (H : Hp) (cs : List M04.Cue) (Q : VK) (E : XK) : Prop := match M34.told isName [] cs with
  | some b => ∀ H', Bt o H H' → BadE K b H' E
  | none => if 8 < (M04.all cs).rows.length then ∀ H', Bt o H H' → ErrM (CTm K) (.int 8) H' E else ∀ H' gs, Bt o H H' → ShAt K mm H H' o gs → gs.map cv = cs → Q .non H'
def spSI (K : PySem.W.Frag) : Sp := fun vs H Q E => ∃ (o dx a : Addr) (xs : List V) (cs : List M04.Cue) (mm : Nat), vs = [.ref o, .ref a] ∧ H o = some (.ins (CS K) dx []) ∧ (H a = some (.lst xs) ∨ H a = some (.tup xs)) ∧ xs.length = cs.length ∧ (∀ (i : Nat) c, cs[i]? = some c → ∃ it, xs[i]? = some (V.ref it) ∧ CueArg K mm H it c) ∧
  (∀ c ∈ cs, isUnit c.un = true ∧ c.nm.length ≤ 1000) ∧ cs.length ≤ 20 ∧ 1 ≤ mm ∧ mm ≤ 200 ∧ SiP K mm o H cs Q E
abbrev sSI : Stmt := inClass (top 38) 0
theorem scSI : FnScope ["self", "cues", "item"] ["self", "cues"] (defScope sSI) := ⟨rfl, rfl, rfl, by decide +kernel, rfl, by decide +kernel, by decide +kernel⟩
def SI (K : PySem.W.Frag) (mm : Nat) (H : Hp) (o dx c r d : Addr) (cs : List M04.Cue) (i : Nat) (H' : Hp) : Prop := M34.told isName (cs.take i) (cs.drop i) = M34.told isName [] cs ∧ Bt o H H' ∧ H' o = some (.ins (CS K) dx (shFl c r d)) ∧ ∃ gs rs, Inn K mm H H' c r d gs rs ∧ gs.map cv = cs.take i
def sSIb (K : PySem.W.Frag) (mm : Nat) (H : Hp) (o dx : Addr) (x : V) (xs : List V) (cs : List M04.Cue) : TS := fun D σ H' => ∃ (c r d : Addr) (i : Nat) (y : V), σ = [some (.ref o), some x, some y] ∧ xs[i]? = some y ∧ SI K mm H o dx c r d cs i H' ∧ ∀ H'', SI K mm H o dx c r d cs (i + 1) H'' → D.nx [some (.ref o), some x, some y] H''
structure MeS (P : Program) (w : World) (K : PySem.W.Frag) (mg : Str → Option Value) (base : Heap) (m : Str) (lev : Nat) (ps : List Str) (sp : Sp) (f : Addr) (fd : FuncData) : Prop where
  me : Meth K (CS K) m f
  ok : FnOk P w K mg base (L2.CX P w) lev f fd ps sp
  b : Binds K fd ps []
theorem sh_no (c r d : Addr) {m : Str} (h1 : ¬ m = "_cues") (h2 : ¬ m = "_rows") (h3 : ¬ m = "_numbers") : (shFl c r d).lookup m = none := by
  show List.lookup m [(("_cues" : Str), V.ref c), (("_rows" : Str), V.ref r), (("_numbers" : Str), V.ref d)] = none
  have e1 : (m == ("_cues" : Str)) = false := by simpa using h1
  have e2 : (m == ("_rows" : Str)) = false := by simpa using h2
  have e3 : (m == ("_numbers" : Str)) = false := by simpa using h3
  simp only [List.lookup, e1, e2, e3]
section
variable {P : Program} {w : World} {K : PySem.W.Frag} {mg : Str → Option Value} {base : Heap} {f fL fC fT x1 : Addr} {fd fdL fdC fdT : FuncData} {q1 t1 : Str}
theorem ok_si (F : FunD K "__init__" "Sheet.__init__" (defArgs sSI) (defBody sSI) (defScope sSI) [] [] f fd) (M : MF K mg) (ne : CS K ≠ CA K) (mL : mg "len" = none) (hSt : ∃ t, mg "START" = some (.str "start" t)) (hMo : ∃ t, mg "MOST_MOMENTS" = some (.int 8 t)) (gTm : mg "TooMany" = some (.ref (CTm K))) (XT : Xl.Txt P.main.file K q1 "most" t1 (CTm K) x1) (htop : (P.main.scope.names.lookup ("super" : Str)).isSome = false) (LS : Fn P w K mg base "is_listing" 1 ["value"] (spLs K) fL fdL)
    (CC : Fn P w K mg base "check_cue" 3 ["item", "known"] (spCC K) fC fdC) (TL : MeS P w K mg base "_tell" 9 ["self", "item"] (spTell K) fT fdT) : FnOk P w K mg base (L2.CX P w) 10 f fd ["self", "cues"] (spSI K) := by
  obtain ⟨tS, hSt⟩ := hSt
  obtain ⟨tM, hMo⟩ := hMo
  refine F.ok scSI (fun vs H Q E h => ?_) (fun cdv A outer s H vs Q E hr h => ?_)
  · obtain ⟨o, dx, a, xs, cs, mm, rfl, _⟩ := h
    rfl
  · obtain ⟨o, dx, a, xs, cs, mm, rfl, ho, hseq, hlen, hit, hun, h20, m1, m2, k⟩ := h
    have hr1 := hr.mono (show 1 ≤ 9 by decide)
    have hr3 := hr.mono (show 3 ≤ 9 by decide)
    have hr9 := hr.mono (show 9 ≤ 9 by decide)
    generalize hx : V.ref a = x
    refine ⟨_, (pss_cons (ps_if (pt_not (pt_val (pe_call LS.ok hr1 rfl LS.g LS.k LS.b .nil passL (pa_cons (pv 1) pa_nil)))) pss_never pss_nil)
      (pss_cons (ps_fld (pv 0) (pe_lst pa_nil) rfl)
      (pss_cons (ps_fld (pv 0) (pe_lst (pa_cons (pe_lst pa_nil) pa_nil)) rfl)
      (pss_cons (ps_fld (pv 0) (pe_disp (pps_cons (pe_glob (v := .str "start") rfl hSt ⟨tS, rfl⟩) pe_int pps_nil) rfl rfl (by simp) (by decide)) rfl)
      (pss_cons (ps_for (passes_of rfl) rfl (Fp.pi_or (pi_list (pv 1)) (pi_tup (pv 1))) (pg_name (i := 2) scSI.nd rfl (Or.inl rfl))
      (pss_imp (S := sSIb K mm H o dx x xs cs) (pss_cons (ps_expr (pe_callS CC.ok hr3 rfl CC.g CC.k CC.b (fun σ => passAt (W := fun cls d _ H => E cls d H) (takes_of rfl rfl rfl rfl) σ) (pa_cons (pv 2) (pa_cons (pe_fld (pv 0) rfl) pa_nil))))
      (pss_one (ps_expr (pe_meth (pv 0) M.cl TL.me TL.ok hr9 TL.b .nil passL (pa_cons (pv 2) pa_nil))))) ?body))
      (pss_one (ps_if (pt_cmpR op_gt (pe_callB call_len rfl mL PySem.boot_len (pa_cons (pe_fld (pv 0) rfl) pa_nil)) (pe_glob (v := .int 8) rfl hMo ⟨tM, rfl⟩) (nomark _)) (pss_one (Xl.ps_raiseX (W := fun cls d _ H => E cls d H) rfl XT gTm htop hr9 (takes_of rfl rfl rfl rfl) (pa_cons (pe_glob (v := .int 8) rfl hMo ⟨tM, rfl⟩) pa_nil))) pss_nil))))))), ?_⟩
    case body =>
      rintro D σ H1 ⟨c, r, d, i, y, rfl, hy, ⟨tl, b1, ho1, gs, rs, inn, ecs⟩, kn⟩
      have hi : i < cs.length := by
        rw [← hlen]
        exact (List.getElem?_eq_some_iff.mp hy).1
      have ec : cs[i]? = some cs[i] := List.getElem?_eq_getElem hi
      have uni := hun _ (List.mem_of_getElem? ec)
      rw [M34.told_take ec] at tl
      obtain ⟨it, e1, ca⟩ := hit i _ ec
      rw [hy] at e1
      cases e1
      have tk : cs.take (i + 1) = cs.take i ++ [cs[i]] := by rw [List.take_add_one, ec]; rfl
      generalize cs[i] = cu at ec uni ca tk tl
      have ca1 := ca.bt b1 ho ne
      have lgs : gs.length = i := by
        have := congrArg List.length ecs
        rw [List.length_map, List.length_take] at this
        omega
      rw [← ecs] at tl
      refine ⟨_, rfl, _, rfl, o, _, dx, _, _, rfl, ho1, M.cl, M.n3, sh_d c r d, it, d, mm, cu, _, rfl, ca1, inn.dk, uni.1, uni.2, ?_⟩
      cases hb : M34.bad isName (M04.all (gs.map cv)).nums cu with
      | some b =>
        rw [hb] at tl
        unfold SiP at k
        rw [← tl] at k
        exact fun H2 s2 => k H2 (b1.trans (Bt.same s2))
      | none =>
      rw [hb] at tl
      obtain ⟨ob1, ob2, ob3⟩ := M34.bad_none.mp hb
      have oki : Ok4 (M04.all (gs.map cv)).nums cu := ⟨ob1, ob2, ob3, uni.1⟩
      intro H2 s2
      have ho2 := s2 _ _ ho1
      have inn2 := inn.same s2
      refine ⟨_, rfl, o, dx, _, rfl, ho2, sh_no c r d (by decide +kernel) (by decide +kernel) (by decide +kernel), _, rfl, o, it, dx, c, r, d, mm, H, gs, rs, cu, rfl, ho2, inn2, by omega, ca1.same s2, oki, fun H3 g rs' kp inn3 eg => ?_⟩
      have nl : ∀ {z ob}, H2 z = some ob → (∀ C dx fs, ob ≠ .ins C dx fs) → o ≠ z := fun hz no e => by
        rw [← e, ho2] at hz
        exact no _ _ _ (Option.some.inj hz).symm
      have oc := nl inn2.cl (fun _ _ _ e => by cases e)
      have or_ := nl inn2.rl (fun _ _ _ e => by cases e)
      have od := nl inn2.dk (fun _ _ _ e => by cases e)
      refine kn H3 ⟨tl, ?_, kp _ _ oc or_ od ho2, gs ++ [g], rs', inn3, by rw [List.map_append, ecs, tk, List.map_singleton, eg]⟩
      intro b ob nb hb
      have hb2 := s2 _ _ (b1 b ob nb hb)
      refine kp b ob (fun e => ?_) (fun e => ?_) (fun e => ?_) hb2
      · rw [e, inn.c0] at hb
        cases hb
      · rw [e, inn.r0] at hb
        cases hb
      · rw [e, inn.d0] at hb
        cases hb
    subst hx
    have tyX : ∃ t, (∀ J, Same H J → TyX K J (.ref a) t) ∧ PySem.W.kitAny K t [.type "list", .type "tuple"] = some true := by
      rcases hseq with h | h
      · exact ⟨.type "list", fun J sJ => .base (.lst (sJ _ _ h)), ka_list⟩
      · exact ⟨.type "tuple", fun J sJ => .base (.tup (sJ _ _ h)), ka_tuple⟩
    obtain ⟨t, ty, kt⟩ := tyX
    refine ⟨_, rfl, _, t, true, rfl, ty, kt, fun H1 s1 => ⟨_, rfl, iteF ?_⟩⟩
    refine ⟨by show 0 ≤ sizeLine; decide, fun c hc => ?_⟩
    have b1 : Bt o H (upd H1 c (.lst [])) := Bt.same (s1.trans (Same.upd hc))
    have ho1 := s1 _ _ ho
    have c0 := none_of s1 hc
    have oc : o ≠ c := fun e => by
      rw [e, hc] at ho1
      cases ho1
    have c1 : upd H1 c (.lst []) c = some (.lst []) := upd_same
    have ho2 : upd H1 c (.lst []) o = some (.ins (CS K) dx []) := by rw [upd_ne oc]; exact ho1
    have old2 : ∀ q, upd H1 c (.lst []) q = none → H q = none := fun q z => none_of (s1.trans (Same.upd hc)) z
    generalize upd H1 c (.lst []) = H2 at b1 c1 ho2 old2
    refine ⟨_, rfl, o, _, dx, _, rfl, ho2, M.cl, M.n1, by show 0 < 1000; decide, ?_⟩
    have b3 := b1.trans (Bt.upd (H := H2) (ob := .ins (CS K) dx (putF "_cues" (.ref c) [])))
    have c3 : upd H2 o (.ins (CS K) dx (putF "_cues" (.ref c) [])) c = some (.lst []) := by rw [upd_ne (Ne.symm oc)]; exact c1
    have ho3 : upd H2 o (.ins (CS K) dx (putF "_cues" (.ref c) [])) o = some (.ins (CS K) dx (putF "_cues" (.ref c) [])) := upd_same
    have old3 : ∀ q, upd H2 o (.ins (CS K) dx (putF "_cues" (.ref c) [])) q = none → H q = none := fun q z => by
      by_cases e : q = o
      · rw [e, upd_same] at z
        cases z
      · rw [upd_ne e] at z
        exact old2 q z
    generalize upd H2 o (.ins (CS K) dx (putF "_cues" (.ref c) [])) = H3 at b3 c3 ho3 old3
    refine ⟨by show 0 ≤ sizeLine; decide, fun l2 hl2 => ⟨by show 1 ≤ sizeLine; decide, fun r hr0 => ?_⟩⟩
    have ol2 : o ≠ l2 := fun e => by
      rw [e, hl2] at ho3
      cases ho3
    have cl2 : c ≠ l2 := fun e => by
      rw [e, hl2] at c3
      cases c3
    have l20 := old3 _ hl2
    have r0' : r ≠ l2 ∧ H3 r = none := by
      by_cases e : r = l2
      · rw [e, upd_same] at hr0
        cases hr0
      · rw [upd_ne e] at hr0
        exact ⟨e, hr0⟩
    have r00 := old3 _ r0'.2
    have or_ : o ≠ r := fun e => by
      rw [← e, ho3] at r0'
      cases r0'.2
    have cr_ : c ≠ r := fun e => by
      rw [← e, c3] at r0'
      cases r0'.2
    have s4 := (Same.upd (o := .lst []) hl2).trans (Same.upd (o := .lst [.ref l2]) hr0)
    have r4 : upd (upd H3 l2 (.lst [])) r (.lst [.ref l2]) r = some (.lst [.ref l2]) := upd_same
    have l4 : upd (upd H3 l2 (.lst [])) r (.lst [.ref l2]) l2 = some (.lst []) := by rw [upd_ne (Ne.symm r0'.1)]; exact upd_same
    have ho4 := s4 _ _ ho3
    have c4 := s4 _ _ c3
    have b4 := b3.trans (Bt.same (o := o) s4)
    have old4 : ∀ q, upd (upd H3 l2 (.lst [])) r (.lst [.ref l2]) q = none → H q = none := fun q z => old3 q (none_of s4 z)
    generalize upd (upd H3 l2 (.lst [])) r (.lst [.ref l2]) = H4 at r4 l4 ho4 c4 b4 old4
    refine ⟨_, rfl, o, _, dx, _, rfl, ho4, M.cl, M.n2, by show 1 < 1000; decide, ?_⟩
    have b5 := b4.trans (Bt.upd (H := H4) (ob := .ins (CS K) dx (putF "_rows" (.ref r) (putF "_cues" (.ref c) []))))
    have c5 : upd H4 o (.ins (CS K) dx (putF "_rows" (.ref r) (putF "_cues" (.ref c) []))) c = some (.lst []) := by rw [upd_ne (Ne.symm oc)]; exact c4
    have r5 : upd H4 o (.ins (CS K) dx (putF "_rows" (.ref r) (putF "_cues" (.ref c) []))) r = some (.lst [.ref l2]) := by rw [upd_ne (Ne.symm or_)]; exact r4
    have l5 : upd H4 o (.ins (CS K) dx (putF "_rows" (.ref r) (putF "_cues" (.ref c) []))) l2 = some (.lst []) := by rw [upd_ne (Ne.symm ol2)]; exact l4
    have ho5 : upd H4 o (.ins (CS K) dx (putF "_rows" (.ref r) (putF "_cues" (.ref c) []))) o = some (.ins (CS K) dx (putF "_rows" (.ref r) (putF "_cues" (.ref c) []))) := upd_same
    have old5 : ∀ q, upd H4 o (.ins (CS K) dx (putF "_rows" (.ref r) (putF "_cues" (.ref c) []))) q = none → H q = none := fun q z => by
      by_cases e : q = o
      · rw [e, upd_same] at z
        cases z
      · rw [upd_ne e] at z
        exact old4 q z
    generalize upd H4 o (.ins (CS K) dx (putF "_rows" (.ref r) (putF "_cues" (.ref c) []))) = H5 at b5 c5 r5 l5 ho5 old5
    intro d hd
    have d0 := old5 _ hd
    have od : o ≠ d := fun e => by
      rw [e, hd] at ho5
      cases ho5
    have em : mergeK [] [((Sum.inr ("start" : Str) : Key), V.int 0)] = numK (M04.all []).nums := rfl
    refine ⟨upd_same, [(Sum.inr "start", .int 0)], rfl, by decide, ?_⟩
    rw [em, upd_upd]
    have s6 := Same.upd (o := .dK (numK (M04.all []).nums)) hd
    have d6 : upd H5 d (.dK (numK (M04.all []).nums)) d = some (.dK (numK (M04.all []).nums)) := upd_same
    have ho6 := s6 _ _ ho5
    have c6 := s6 _ _ c5
    have r6 := s6 _ _ r5
    have l6 := s6 _ _ l5
    have b6 := b5.trans (Bt.same (o := o) s6)
    have old6 : ∀ q, upd H5 d (.dK (numK (M04.all []).nums)) q = none → H q = none := fun q z => old5 q (none_of s6 z)
    generalize upd H5 d (.dK (numK (M04.all []).nums)) = H6 at d6 ho6 c6 r6 l6 b6 old6
    refine ⟨_, rfl, o, _, dx, _, rfl, ho6, M.cl, M.n3, by show 2 < 1000; decide, ?_⟩
    have b7 := b6.trans (Bt.upd (H := H6) (ob := .ins (CS K) dx (shFl c r d)))
    have c7 : upd H6 o (.ins (CS K) dx (shFl c r d)) c = some (.lst []) := by rw [upd_ne (Ne.symm oc)]; exact c6
    have r7 : upd H6 o (.ins (CS K) dx (shFl c r d)) r = some (.lst [.ref l2]) := by rw [upd_ne (Ne.symm or_)]; exact r6
    have l7 : upd H6 o (.ins (CS K) dx (shFl c r d)) l2 = some (.lst []) := by rw [upd_ne (Ne.symm ol2)]; exact l6
    have d7 : upd H6 o (.ins (CS K) dx (shFl c r d)) d = some (.dK (numK (M04.all []).nums)) := by rw [upd_ne (Ne.symm od)]; exact d6
    have ho7 : upd H6 o (.ins (CS K) dx (shFl c r d)) o = some (.ins (CS K) dx (shFl c r d)) := upd_same
    have old7 : ∀ q, upd H6 o (.ins (CS K) dx (shFl c r d)) q = none → H q = none := fun q z => by
      by_cases e : q = o
      · rw [e, upd_same] at z
        cases z
      · rw [upd_ne e] at z
        exact old6 q z
    show tSeq _ _ _ _ (upd H6 o (.ins (CS K) dx (shFl c r d)))
    generalize upd H6 o (.ins (CS K) dx (shFl c r d)) = H7 at b7 c7 r7 l7 d7 ho7 old7
    have si0 : SI K mm H o dx c r d cs 0 H7 := by
      refine ⟨rfl, b7, ho7, [], [(l2, [])], ⟨c7, (fun g hg => by cases hg), r7, fun z hz => ?_, rfl, d7, by decide, ⟨m1, m2⟩, c0, r00, d0, cr_, old7⟩, rfl⟩
      rw [List.mem_singleton] at hz
      subst hz
      exact ⟨⟨l7, (fun g hg => by cases hg), Nat.zero_le _⟩, Nat.le_refl _, l20, Ne.symm cl2, Ne.symm r0'.1⟩
    have stop : ∀ (σ : L2.St) H', (∃ v2, σ = [some (.ref o), some (.ref a), v2] ∧ SI K mm H o dx c r d cs xs.length H') → tIfS (tTest (tOp (rI0 fun i j => V.bl (decide (j < i))) (tCB (fun xs H_1 Q => ∃ x n, xs = [x] ∧ LenV K x H_1 n ∧ Q (V.int (n : Nat)) H_1) (tCons (tFld K (tVar 0) "_rows") tNil)) (tC (V.int 8)))) (Xb.tRaiseX (CTm K) "most" (fun cls d _ H => E cls d H) (tCons (tC (V.int 8)) tNil)) tNext { nx := fun _ H' => Q V.non H', rt := Q } σ H' := by
      rintro σ H' ⟨v2, rfl, tl, b8, ho8, gs, rs, inn, ecs⟩
      rw [hlen, List.take_length, List.drop_length] at tl
      rw [hlen, List.take_length] at ecs
      unfold SiP at k
      rw [← tl] at k
      have k : if 8 < (M04.all cs).rows.length then ∀ H', Bt o H H' → ErrM (CTm K) (.int 8) H' E else ∀ H' gs, Bt o H H' → ShAt K mm H H' o gs → gs.map cv = cs → Q .non H' := k
      refine ⟨_, rfl, o, _, dx, _, _, rfl, ho8, M.cl, M.n2, sh_r c r d, _, _, rfl, .inl ⟨_, SqL.of inn.rl, rfl⟩, _, _, rfl, rfl, _, rfl, ?_⟩
      have e1 : rs.length = (M04.all (gs.map cv)).rows.length := by rw [← inn.rv, List.length_map]
      rw [List.length_map]
      by_cases c8 : 8 < (M04.all cs).rows.length
      · rw [if_pos c8] at k
        exact if_true_of (decide_eq_true (by rw [e1, ecs]; omega)) ⟨_, rfl, k H' b8⟩
      · rw [if_neg c8] at k
        refine if_false_of (decide_eq_false (by rw [e1, ecs]; omega)) ?_
        exact k _ gs b8 ⟨dx, c, r, d, rs, ho8, inn⟩ ecs
    have na : a ≠ o := fun e => by
      rw [e, ho] at hseq
      rcases hseq with h | h <;> cases h
    rcases hseq with h | h
    · refine .inl ⟨_, rfl, a, rfl, ⟨xs, SqL.of ?_⟩, for_list (K := K) (a := a) (xs := xs) (fun i σ H' => ∃ v2, σ = [some (.ref o), some (.ref a), v2] ∧ SI K mm H o dx c r d cs i H') ⟨_, rfl, si0⟩ (fun i σ H' _ ⟨_, _, si⟩ => SqL.of (si.2.1 _ _ na h)) (fun i x σ H2 hx ⟨v2, e, si⟩ => ?_) stop⟩
      · exact si0.2.1 _ _ na h
      · subst e
        exact ⟨c, r, d, i, x, rfl, hx, si, fun H'' si' => ⟨_, rfl, si'⟩⟩
    · refine .inr ⟨_, rfl, a, rfl, ⟨xs, SqT.of ?_⟩, for_tup (K := K) (a := a) (xs := xs) (fun i σ H' => ∃ v2, σ = [some (.ref o), some (.ref a), v2] ∧ SI K mm H o dx c r d cs i H') ⟨_, rfl, si0⟩ (fun i σ H' _ ⟨_, _, si⟩ => SqT.of (si.2.1 _ _ na h)) (fun i x σ H2 hx ⟨v2, e, si⟩ => ?_) stop⟩
      · exact si0.2.1 _ _ na h
      · subst e
        exact ⟨c, r, d, i, x, rfl, hx, si, fun H'' si' => ⟨_, rfl, si'⟩⟩
end
end K34
set_option Elab.async false
set_option linter.all false
set_option maxRecDepth 100000
set_option maxHeartbeats 1000000
set_option exponentiation.threshold 100000
namespace Fd
open PySem PySem.Spec PyProof.Rows L2
theorem op_eqSD {X : Cx} (hu : X.A.units < cLine) : OpR X (compareOp .Eq) (fun x y H Q => ∃ a kvs z, x = .str z ∧ y = .ref a ∧ H a = some (.dK kvs) ∧ Q (.bl false) H) := by
  intro pins s σ H x y v u Q I rx ry h
  obtain ⟨a, kvs, z, rfl, rfl, ha, q⟩ := h
  cases ry
  obtain ⟨t, rfl⟩ := rx
  obtain ⟨_, h1, vs, kv, hd⟩ := dk_of I.hok ha
  obtain ⟨o, es, ep, ho, hc, hdat, _⟩ := hd
  have f : s.heap.get? a = some o ∧ o.cls = .type "dict" ∧ ∃ es ep, o.data = .dict es ep := ⟨ho, hc.1, es, ep, hdat⟩
  show wpAny (model X.prog X.w) X.A (richCompare .Eq (.str z t) (.ref a)) (EP X pins σ Q) X.xe s
  exact SeqAt.rc_eq_decline_or (k := false) (typeIs_str s z t) ⟨_, ho, hc.1⟩ (by decide) F.sub_dict_str F.slot_str_eq_refl F.slot_dict_eq
    (fun _ hq => call_meets F.slot_str_eq_refl (typeIs_str s z t) F.entry_str_eq (F.args_str_eq_2 _ _) (str_eq_declines_dict a o z t) ⟨f, hq⟩)
    (fun _ hq => call_meets F.slot_dict_eq ⟨_, ho, hc.1⟩ F.entry_dict_eq (F.args_dict_eq_2 _ _) (dict_eq_declines_str a o z t) ⟨f, hq⟩)
    (fun _ hq => wpAny_of_eq (rfl : isSame (.str z t) (.ref a) = pure false) hq) (.inr hu) ⟨.bl false, H, I, rfl, q⟩
end Fd
namespace K34
open PySem PySem.Spec PyProof.Rows L2 Fa Fb
instance : DecidableEq M04.Cue := fun a b => if h : a.nm = b.nm ∧ a.pa = b.pa ∧ a.un = b.un ∧ a.q = b.q then isTrue (by
    cases a
    cases b
    simp only [M04.Cue.mk.injEq]
    exact h) else isFalse fun e => h (by rw [e]; exact ⟨rfl, rfl, rfl, rfl⟩)
def rEqO (K : PySem.W.Frag) : R2 := fun x y H Q => rEq x y H Q ∨ (rEqD K x y H Q ∨ ∃ a kvs z, x = .str z ∧ y = .ref a ∧ H a = some (.dK kvs) ∧ Q (.bl false) H)
theorem op_eqO {X : Cx} (hu1 : X.A.units + 1 < cLine) (hu : X.A.units + 64 < cLine) : OpR X (compareOp .Eq) (rEqO X.K) := Fe.op_or op_eq (Fe.op_or (op_eqD hu) (Fd.op_eqSD (Nat.lt_of_succ_lt hu1)))
/-- no text, and unequal to each -/
def Odd (K : PySem.W.Frag) (H : Hp) (y : V) : Prop := Tx K H y false ∧ (∀ z : Str, y ≠ .str z) ∧ ∀ (a : Str) (Q : VK), PyData.strOk a = true → Q (.bl false) H → rEqO K (.str a) y H Q
def spNm (K : PySem.W.Frag) : Sp := fun vs H Q _ => ∃ o mm H0 gs, vs = [.ref o] ∧ ShAt K mm H0 H o gs ∧ ∀ l H', Same H H' → H' l = some (.lst (gs.map fun g => V.str g.nm)) → H l = none → Q (.ref l) H'
def spCs (K : PySem.W.Frag) : Sp := fun vs H Q _ => ∃ o mm H0 gs, vs = [.ref o] ∧ ShAt K mm H0 H o gs ∧ ∀ l H', Same H H' → H' l = some (.lst (gs.map fun g => V.ref g.q)) → H l = none → Q (.ref l) H'
def spSLen (K : PySem.W.Frag) : Sp := fun vs H Q _ => ∃ o mm H0 gs, vs = [.ref o] ∧ ShAt K mm H0 H o gs ∧ Q (.int (gs.length : Nat)) H
def spSIn (K : PySem.W.Frag) : Sp := fun vs H Q _ => ∃ o mm H0 gs y, vs = [.ref o, y] ∧ ShAt K mm H0 H o gs ∧ ((Tx K H y false ∧ Q (.bl false) H) ∨ ∃ z : Str, y = .str z ∧ Q (.bl (M04.num (M04.all (gs.map cv)).nums z).isSome) H)
def spSEq (K : PySem.W.Frag) : Sp := fun vs H Q _ => ∃ o mm H0 gs y, vs = [.ref o, y] ∧ ShAt K mm H0 H o gs ∧ ((∃ o2 m2 H2 hs, y = .ref o2 ∧ ShAt K m2 H2 H o2 hs ∧ ∀ H', Same H H' → Q (.bl (decide (gs.map cv = hs.map cv))) H') ∨ (∃ T, TyX K H y (.type T) ∧ PySem.W.kitOne K (.type T) (.ref (CS K)) = some false ∧ ∀ H', Same H H' → Q (.bl false) H'))
def spCu (K : PySem.W.Frag) : Sp := fun vs H Q E => ∃ o mm H0 gs y, vs = [.ref o, y] ∧ ShAt K mm H0 H o gs ∧ ((Odd K H y ∧ (∀ g ∈ gs, PyData.strOk g.nm = true) ∧ ErrL (CUn K) y H E) ∨ ∃ z : Str, y = .str z ∧ ((∀ g ∈ gs, g.nm ≠ z) → ErrL (CUn K) y H E) ∧
  ∀ (i : Nat) g, gs[i]? = some g → g.nm = z → (∀ j h, j < i → gs[j]? = some h → h.nm ≠ z) → ∀ H' w, Same H H' → H' w = some (.tup [.str g.pa, .str g.un, .ref g.a]) → Q (.ref w) H')
def spCN (K : PySem.W.Frag) : Sp := fun vs H Q E => ∃ o mm H0 gs y, vs = [.ref o, y] ∧ ShAt K mm H0 H o gs ∧ ((Tx K H y false ∧ ErrL (CUn K) y H E) ∨ ∃ z : Str, y = .str z ∧ (M04.num (M04.all (gs.map cv)).nums z = none → ErrL (CUn K) y H E) ∧ ((M04.num (M04.all (gs.map cv)).nums z).isSome = true → Q .non H))
def spCh (K : PySem.W.Frag) : Sp := fun vs H Q E => ∃ o mm H0 gs y, vs = [.ref o, y] ∧ ShAt K mm H0 H o gs ∧ ((Tx K H y false ∧ ErrL (CUn K) y H E) ∨ ∃ z : Str, y = .str z ∧ (M04.num (M04.all (gs.map cv)).nums z = none → ErrL (CUn K) y H E) ∧
  ((M04.num (M04.all (gs.map cv)).nums z).isSome = true → ∀ l H', Same H H' → H' l = some (.lst ((gs.filter fun g => decide (g.pa = z)).map fun g => V.str g.nm)) → H l = none → Q (.ref l) H'))
abbrev sSLen : Stmt := inClass (top 38) 2
abbrev sSIn : Stmt := inClass (top 38) 3
abbrev sSEq : Stmt := inClass (top 38) 4
abbrev sSNm : Stmt := inClass (top 38) 5
abbrev sSCs : Stmt := inClass (top 38) 6
abbrev sSCu : Stmt := inClass (top 38) 7
abbrev sCN : Stmt := top 41
theorem scSLen : FnScope ["self"] ["self"] (defScope sSLen) := ⟨rfl, rfl, rfl, by decide +kernel, rfl, by decide +kernel, by decide +kernel⟩
theorem scSIn : FnScope ["self", "value"] ["self", "value"] (defScope sSIn) := ⟨rfl, rfl, rfl, by decide +kernel, rfl, by decide +kernel, by decide +kernel⟩
theorem scSEq : FnScope ["self", "other"] ["self", "other"] (defScope sSEq) := ⟨rfl, rfl, rfl, by decide +kernel, rfl, by decide +kernel, by decide +kernel⟩
theorem scSNm : FnScope ["self", "cue"] ["self"] (defScope sSNm) := ⟨rfl, rfl, rfl, by decide +kernel, rfl, by decide +kernel, by decide +kernel⟩
theorem scSCs : FnScope ["self"] ["self"] (defScope sSCs) := ⟨rfl, rfl, rfl, by decide +kernel, rfl, by decide +kernel, by decide +kernel⟩
theorem scSCu : FnScope ["self", "name", "cue"] ["self", "name"] (defScope sSCu) := ⟨rfl, rfl, rfl, by decide +kernel, rfl, by decide +kernel, by decide +kernel⟩
theorem scCN : FnScope ["sheet", "name"] ["sheet", "name"] (defScope sCN) := ⟨rfl, rfl, rfl, by decide +kernel, rfl, by decide +kernel, by decide +kernel⟩
theorem dec4 {α β γ δ : Type} [DecidableEq α] [DecidableEq β] [DecidableEq γ] [DecidableEq δ] {a b : α} {c d : β} {e f : γ} {g h : δ} : (decide (a = b) && (decide (c = d) && (decide (e = f) && (decide (g = h) && true)))) = decide (a = b ∧ c = d ∧ e = f ∧ g = h) := by
  by_cases h1 : a = b <;> by_cases h2 : c = d <;> by_cases h3 : e = f <;> by_cases h4 : g = h <;> simp [h1, h2, h3, h4]
theorem cue_dec (a b : M04.Cue) : decide (a = b) = decide (a.nm = b.nm ∧ a.pa = b.pa ∧ a.un = b.un ∧ a.q = b.q) := by
  by_cases c : a = b
  · subst c
    simp
  · rw [decide_eq_false c]
    refine (decide_eq_false fun h => c ?_).symm
    cases a
    cases b
    simp only [M04.Cue.mk.injEq]
    exact h
theorem cu_eqB {K : PySem.W.Frag} {n m : Nat} {H : Hp} {g h : Cu} (a : CuOk K n H g) (b : CuOk K m H h) : Fq.DTupB (DMix K) (.ref g.q) (.ref h.q) (decide (cv g = cv h)) H := by
  refine ⟨g.q, h.q, _, _, rfl, rfl, a.1, b.1, rfl, ?_⟩
  rw [cue_dec]
  show Fq.AllB (DMix K) _ _ (decide (g.nm = h.nm ∧ g.pa = h.pa ∧ g.un = h.un ∧ vq g.t g.u = vq h.t h.u)) H
  rw [← dec4]
  exact allB_cons strB (allB_cons strB (allB_cons strB (allB_cons (amB a.2 b.2) allB_nil)))
structure SCn (P : Program) (w : World) (K : PySem.W.Frag) (mg : Str → Option Value) (base : Heap) (f : Addr) (fd : FuncData) : Prop where
  at_ : PySem.W.findIn K (.ref (CS K)) "__contains__" = some (some (.ref f))
  fn : PySem.W.isFn K (.ref f) = true
  ok : FnOk P w K mg base (L2.CX P w) 1 f fd ["self", "value"] (spSIn K)
  b : Binds K fd ["self", "value"] []
section
variable {P : Program} {w : World} {K : PySem.W.Frag} {mg : Str → Option Value} {base : Heap} {f fS fE fI : Addr} {fd fdS fdE : FuncData} {q tu : Str} {aU : Addr}
theorem ok_sLen (F : FunD K "__len__" "Sheet.__len__" (defArgs sSLen) (defBody sSLen) (defScope sSLen) [] [] f fd) (M : MF K mg) (mL : mg "len" = none) : FnOk P w K mg base (L2.CX P w) 1 f fd ["self"] (spSLen K) := by
  refine F.ok scSLen (fun vs H Q E h => ?_) (fun cdv A outer s H vs Q E hr h => ?_)
  · obtain ⟨o, mm, H0, gs, rfl, _⟩ := h
    rfl
  · obtain ⟨o, mm, H0, gs, rfl, ⟨dx, c, r, d, rs, ho, inn⟩, k⟩ := h
    refine ⟨_, (pss_one (ps_ret (pe_callB call_len rfl mL PySem.boot_len (pa_cons (pe_fld (pv 0) rfl) pa_nil)))), ?_⟩
    refine ⟨_, rfl, o, _, dx, _, _, rfl, ho, M.cl, M.n1, sh_c c r d, _, _, rfl, .inl ⟨_, SqL.of inn.cl, rfl⟩, ?_⟩
    rw [List.length_map]
    exact k
theorem ok_sIn (F : FunD K "__contains__" "Sheet.__contains__" (defArgs sSIn) (defBody sSIn) (defScope sSIn) [] [] f fd) (T : AF K mg) (V : VF K mg aU) (M : MF K mg) : FnOk P w K mg base (L2.CX P w) 1 f fd ["self", "value"] (spSIn K) := by
  refine F.ok scSIn (fun vs H Q E h => ?_) (fun cdv A outer s H vs Q E hr h => ?_)
  · obtain ⟨o, mm, H0, gs, y, rfl, _⟩ := h
    rfl
  · obtain ⟨o, mm, H0, gs, y, rfl, ⟨dx, c, r, d, rs, ho, inn⟩, k⟩ := h
    have hu1 : (A.deeper (envOfC "Sheet.__contains__" (defScope sSIn) s.heap.objs.size f cdv)).units + 1 < cLine := by
      have := hr.un
      omega
    refine ⟨_, (pss_one (ps_ret (pe_and (pe_isi T.isi (pv 1) (pe_ty V.str boot_str)) (pe_one (pe_cmp (pc_din hu1 (pv 1) (pe_fld (pv 0) rfl))))))), ?_⟩
    rcases k with ⟨⟨ty, h1, h2⟩, k⟩ | ⟨z, rfl, k⟩
    · exact ⟨_, rfl, y, _, ty, _, false, rfl, .ty "str", h1, h2, false, rfl, iteF k⟩
    · refine ⟨_, rfl, .str z, _, _, _, true, rfl, .ty "str", TyX.base (.str z), tx_str, true, rfl, iteT ?_⟩
      refine ⟨_, rfl, _, rfl, o, _, dx, _, _, rfl, ho, M.cl, M.n3, sh_d c r d, ?_⟩
      refine ⟨d, _, rfl, .inl ⟨_, Sum.inr z, Rd.of inn.dk, rfl, rfl⟩, ?_⟩
      rw [valV_num, Option.isSome_map]
      exact k
theorem ok_sEq (F : FunD K "__eq__" "Sheet.__eq__" (defArgs sSEq) (defBody sSEq) (defScope sSEq) [] [] f fd) (T : AF K mg) (M : MF K mg) (EQ : EqK P w K mg base fE fdE) (kM : PySem.W.kitOne K (.ref (CS K)) (.ref (CS K)) = some true)
    (ca : PySem.W.findIn K (.ref (CS K)) "__class__" = some (some (.builtin "object.__class__"))) (cm : PySem.W.mroIn K (CS K) (.type "object") = some true) : FnOk P w K mg base (L2.CX P w) 5 f fd ["self", "other"] (spSEq K) := by
  refine F.ok scSEq (fun vs H Q E h => ?_) (fun cdv A outer s H vs Q E hr h => ?_)
  · obtain ⟨o, mm, H0, gs, y, rfl, _⟩ := h
    rfl
  · obtain ⟨o, mm, H0, gs, y, rfl, ⟨dx, c, r, d, rs, ho, inn⟩, h⟩ := h
    have hr3 := hr.mono (show 3 ≤ 4 by decide)
    refine ⟨_, (pss_one (ps_ret (pe_and (pe_isi T.isi (pv 1) (pe_glob (v := .ref (CS K)) rfl M.g rfl)) (pe_one (pe_cmpR (Fq.op_eqB (rc_row EQ) hr3) (pe_fld (pv 0) rfl) (pe_fld (pv 1) rfl) (nomark _)))))), ?_⟩
    rcases h with ⟨o2, m2, H2, hs, rfl, ⟨dx2, c2, r2, d2, rs2, ho2, inn2⟩, k⟩ | ⟨Ty, ty, kt, k⟩
    · refine ⟨_, rfl, _, _, _, _, true, rfl, .own _, .base (.ins ho2 M.cl ca T.cn T.ct cm), kM, true, rfl, iteT ?_⟩
      refine ⟨_, rfl, o, _, dx, _, _, rfl, ho, M.cl, M.n1, sh_c c r d, _, rfl, o2, _, dx2, _, _, rfl, ho2, M.cl, M.n1, sh_c c2 r2 d2, _, ⟨c, c2, _, _, rfl, rfl, inn.cl, inn2.cl, allB_map fun g hg h hh => cu_eqB (inn.cok g hg) (inn2.cok h hh)⟩, fun H' e => k H' e⟩
    · exact ⟨_, rfl, _, _, _, _, false, rfl, .own _, ty, kt, false, rfl, iteF (k H (Same.refl _))⟩
theorem ok_sCs (F : FunD K "cues" "Sheet.cues" (defArgs sSCs) (defBody sSCs) (defScope sSCs) [] [] f fd) (M : MF K mg) (mLi : mg "list" = none) : FnOk P w K mg base (L2.CX P w) 1 f fd ["self"] (spCs K) := by
  refine F.ok scSCs (fun vs H Q E h => ?_) (fun cdv A outer s H vs Q E hr h => ?_)
  · obtain ⟨o, mm, H0, gs, rfl, _⟩ := h
    rfl
  · obtain ⟨o, mm, H0, gs, rfl, ⟨dx, c, r, d, rs, ho, inn⟩, k⟩ := h
    refine ⟨_, (pss_one (ps_ret (pe_callTy call_list_of rfl mLi (by decide +kernel : bootBuiltins "list" = some (.type "list")) (pa_cons (pe_fld (pv 0) rfl) pa_nil)))), ?_⟩
    exact ⟨_, rfl, o, _, dx, _, _, rfl, ho, M.cl, M.n1, sh_c c r d, c, _, rfl, .inl (SqL.of inn.cl), fun l hl => k l _ (Same.upd hl) upd_same hl⟩
theorem ok_sNm (F : FunD K "names" "Sheet.names" (defArgs sSNm) (defBody sSNm) (defScope sSNm) [] [] f fd) (M : MF K mg) : FnOk P w K mg base (L2.CX P w) 1 f fd ["self"] (spNm K) := by
  refine F.ok scSNm (fun vs H Q E h => ?_) (fun cdv A outer s H vs Q E hr h => ?_)
  · obtain ⟨o, mm, H0, gs, rfl, _⟩ := h
    rfl
  · obtain ⟨o, mm, H0, gs, rfl, ⟨dx, c, r, d, rs, ho, inn⟩, k⟩ := h
    refine ⟨_, (pss_one (ps_ret (pe_lc (own := [("cue", 1)]) (g := gName 1) (te := tOp (rIxT K) (tVar 1) (tC (.int 0))) (by rfl) scSNm.nd (pi_list (pe_fld (pv 0) rfl)) (blkOk_by (own := [("cue", 1)]) (N := ["self", "cue"]) (sc := defScope sSNm) (by decide +kernel)) (fun _ _ _ _ _ => (pg_name (i := 1) scSNm.nd rfl (Or.inl rfl))) (fun _ _ _ _ _ => pts_nil) (fun _ _ _ _ _ => (pe_ix ix_tup (pv 1) pe_int (fun _ _ => rfl)))))), ?_⟩
    refine ⟨_, rfl, o, _, dx, _, _, rfl, ho, M.cl, M.n1, sh_c c r d, c, rfl, ⟨_, SqL.of inn.cl⟩, fun D hD => ?_⟩
    have inn1 := inn.same (Same.upd (o := .lst []) hD)
    refine lc_list (K := K) (a := c) (xs := gs.map fun g => V.ref g.q) (fun i H' => Same H H' ∧ H' D = some (.lst ((gs.take i).map fun g => V.str g.nm))) ⟨Same.upd hD, upd_same⟩ (fun i H' _ ⟨s, _⟩ => SqL.of (s _ _ inn.cl)) ?_ ?_
    · rintro i x H1 hx ⟨s1, ha⟩
      obtain ⟨g, eg, rfl⟩ := map_at hx
      have hi := (List.getElem?_eq_some_iff.mp eg).1
      refine ⟨rfl, _, rfl, g.q, _, 0, _, rfl, rfl, SqT.of (s1 _ _ (inn.cok g (List.mem_of_getElem? eg)).1), rfl, _, ha, ?_, same_put s1 hD, ?_⟩
      · rw [List.length_map, List.length_take]
        exact Nat.lt_of_lt_of_le (show min i gs.length < 100 by have := inn.n; omega) (by decide)
      · rw [upd_same, List.take_add_one, eg, List.map_append]
        rfl
    · rintro H1 ⟨s1, ha⟩
      rw [List.length_map, List.take_length] at ha
      exact k D H1 s1 ha hD
theorem ok_sCu (F : FunD K "cue" "Sheet.cue" (defArgs sSCu) (defBody sSCu) (defScope sSCu) [] [] f fd) (M : MF K mg) (gE : mg "UnknownCue" = some (.ref (CUn K))) (XU : Xk.Txt P.main.file K q "label" tu (CUn K) fI) (htop : (P.main.scope.names.lookup ("super" : Str)).isSome = false) : FnOk P w K mg base (L2.CX P w) 3 f fd ["self", "name"] (spCu K) := by
  refine F.ok scSCu (fun vs H Q E h => ?_) (fun cdv A outer s H vs Q E hr h => ?_)
  · obtain ⟨o, mm, H0, gs, y, rfl, _⟩ := h
    rfl
  · obtain ⟨o, mm, H0, gs, y, rfl, ⟨dx, c, r, d, rs, ho, inn⟩, k⟩ := h
    have hu1 : (A.deeper (envOfC "Sheet.cue" (defScope sSCu) s.heap.objs.size f cdv)).units + 1 < cLine := by
      have := hr.un
      omega
    have hu : (A.deeper (envOfC "Sheet.cue" (defScope sSCu) s.heap.objs.size f cdv)).units + 64 < cLine := by
      have := hr.un
      omega
    have hr2 := hr.mono (show 2 ≤ 2 by decide)
    refine ⟨_, (pss_cons (ps_for (passes_of rfl) rfl (pi_list (pe_fld (pv 0) rfl)) (pg_name (i := 2) scSCu.nd rfl (Or.inl rfl))
      (pss_one (ps_if (pt_cmpR (op_eqO hu1 hu) (pe_ix ix_tup (pv 2) pe_int (fun _ _ => rfl)) (pv 1) (nomark _)) (pss_one (ps_ret (pe_slice sl_tup (pv 2) (po_some pe_int) po_none))) pss_nil)))
      (pss_one (Xk.ps_raiseX (W := fun cls d _ H => E cls d H) rfl XU gE htop hr2 (takes_of rfl rfl rfl rfl) (pa_cons (pv 1) pa_nil)))), ?_⟩
    refine ⟨_, rfl, o, _, dx, _, _, rfl, ho, M.cl, M.n1, sh_c c r d, c, rfl, ⟨_, SqL.of inn.cl⟩, ?_⟩
    refine for_list (K := K) (a := c) (xs := gs.map fun g => V.ref g.q) (fun i σ H' => ∃ v2, σ = [some (.ref o), some y, v2] ∧ H' = H ∧ ∀ z : Str, y = .str z → ∀ j g, j < i → gs[j]? = some g → g.nm ≠ z) ⟨_, rfl, rfl, fun z _ j g hj => absurd hj (Nat.not_lt_zero _)⟩ (fun i σ H' _ ⟨_, _, e, _⟩ => by rw [e]; exact SqL.of inn.cl) ?_ ?_
    · rintro i x σ H1 hx ⟨v2, rfl, rfl, bef⟩
      obtain ⟨g, eg, rfl⟩ := map_at hx
      have ht := (inn.cok g (List.mem_of_getElem? eg)).1
      refine ⟨_, rfl, g.q, _, 0, _, rfl, rfl, SqT.of ht, rfl, _, rfl, ?_⟩
      rcases k with ⟨⟨_, k2, k3⟩, ks, _⟩ | ⟨z, rfl, _, k⟩
      · exact k3 g.nm _ (ks g (List.mem_of_getElem? eg)) ⟨false, rfl, iteF ⟨_, rfl, rfl, fun z e => absurd e (k2 z)⟩⟩
      · refine .inl ⟨rfl, _, rfl, ?_⟩
        by_cases e : g.nm = z
        · rw [decide_eq_true (by rw [e])]
          refine iteT ⟨_, rfl, _, rfl, g.q, _, rfl, SqT.of ht, (by show ¬ (min 1 4 = 0 ∧ 4 = 4); decide), fun p hp => ?_⟩
          exact k i g eg e (fun j h hj eh => bef z rfl j h hj eh) _ p (Same.upd hp) upd_same
        · rw [decide_eq_false fun x => e (V.str.inj x)]
          refine iteF ⟨_, rfl, rfl, fun z' e' j h hj eh => ?_⟩
          cases e'
          by_cases c : j < i
          · exact bef z rfl j h c eh
          · rw [show j = i by omega, eg] at eh
            cases eh
            exact e
    · rintro σ H1 ⟨v2, rfl, rfl, bef⟩
      rcases k with ⟨_, _, k⟩ | ⟨z, rfl, k, _⟩
      · exact ⟨_, rfl, _, rfl, k⟩
      · refine ⟨_, rfl, _, rfl, k fun g hg => ?_⟩
        obtain ⟨j, ej⟩ := List.getElem?_of_mem hg
        exact bef z rfl j g (by rw [List.length_map]; exact (List.getElem?_eq_some_iff.mp ej).1) ej
theorem ok_cn (F : FnP K "check_known" sCN f fd) (M : MF K mg) (SC : SCn P w K mg base fS fdS) (gE : mg "UnknownCue" = some (.ref (CUn K))) (XU : Xk.Txt P.main.file K q "label" tu (CUn K) fI) (htop : (P.main.scope.names.lookup ("super" : Str)).isSome = false) : FnOk P w K mg base (L2.CX P w) 3 f fd ["sheet", "name"] (spCN K) := by
  refine F.ok scCN (fun vs H Q E h => ?_) (fun cdv A outer s H vs Q E hr h => ?_)
  · obtain ⟨o, mm, H0, gs, y, rfl, _⟩ := h
    rfl
  · obtain ⟨o, mm, H0, gs, y, rfl, sh, k⟩ := h
    have hr2 := hr.mono (show 2 ≤ 2 by decide)
    have hr1 := hr.mono (show 1 ≤ 2 by decide)
    refine ⟨_, (pss_one (ps_if (pt_cmp (Fo.pc_notInX SC.at_ SC.fn SC.ok hr1 SC.b passS (pv 1) (pv 0))) (pss_one (Xk.ps_raiseX (W := fun cls d _ H => E cls d H) rfl XU gE htop hr2 (takes_of rfl rfl rfl rfl) (pa_cons (pv 1) pa_nil))) pss_nil)), ?_⟩
    obtain ⟨dx, c, r, d, rs, ho, inn⟩ := id sh
    refine ⟨_, rfl, _, rfl, o, dx, _, rfl, ho, o, mm, H0, gs, y, rfl, sh, ?_⟩
    rcases k with ⟨tx, er⟩ | ⟨z, rfl, er, k⟩
    · exact .inl ⟨tx, false, rfl, _, rfl, iteT ⟨_, rfl, _, rfl, er⟩⟩
    · refine .inr ⟨z, rfl, _, rfl, _, rfl, ?_⟩
      cases e : M04.num (M04.all (gs.map cv)).nums z with
      | none => exact iteT ⟨_, rfl, _, rfl, er e⟩
      | some i => exact iteF (k (by rw [e]; rfl))
end
end K34
set_option Elab.async false
set_option linter.all false
set_option maxRecDepth 100000
set_option maxHeartbeats 1000000
set_option exponentiation.threshold 100000
namespace K34
open PySem PySem.Spec PyProof.Rows L2 Fa Fb
/-! ### the law's rows and cues -/
/-- a fraction of the law at p -/
structure Fr (n : Nat) (H : Hp) (p : Addr) (t u : Int) : Prop where
  at_ : H p = some (.tup [.int t, .int u])
  rd : Am.Red t u
  bt : t.natAbs < 2 ^ n
  bu : u.natAbs < 2 ^ n
/-- what is no list stays -/
theorem Fr.kt {n : Nat} {H H' : Hp} {p : Addr} {t u : Int} (h : Fr n H p t u) (k : KT H H') : Fr n H' p t u := ⟨k _ _ h.at_ (fun _ e => by cases e), h.rd, h.bt, h.bu⟩
theorem Fr.mono {n m : Nat} {H : Hp} {p : Addr} {t u : Int} (h : Fr n H p t u) (e : n ≤ m) : Fr m H p t u := ⟨h.at_, h.rd, pow_step h.bt e, pow_step h.bu e⟩
structure Li where
  q : Addr
  a : Addr
  s : Str
  t : Int
  u : Int
def LiOk (n : Nat) (H : Hp) (g : Li) : Prop := H g.q = some (.tup [.str g.s, .ref g.a]) ∧ Fr n H g.a g.t g.u ∧ PyData.strOk g.s = true
theorem LiOk.kt {n : Nat} {H H' : Hp} {g : Li} (h : LiOk n H g) (k : KT H H') : LiOk n H' g := ⟨k _ _ h.1 (fun _ e => by cases e), h.2.1.kt k, h.2.2⟩
theorem LiOk.mono {n m : Nat} {H : Hp} {g : Li} (h : LiOk n H g) (e : n ≤ m) : LiOk m H g := ⟨h.1, h.2.1.mono e, h.2.2⟩
structure LRow (n : Nat) (H : Hp) (p : Addr) (gs : List Li) : Prop where
  l : H p = some (.tup (gs.map fun g => V.ref g.q))
  ok : ∀ g ∈ gs, LiOk n H g
  n : gs.length ≤ 40
theorem LRow.kt {n : Nat} {H H' : Hp} {p : Addr} {gs : List Li} (h : LRow n H p gs) (k : KT H H') : LRow n H' p gs := ⟨k _ _ h.l (fun _ e => by cases e), fun g hg => (h.ok g hg).kt k, h.n⟩
theorem LRow.mono {n m : Nat} {H : Hp} {p : Addr} {gs : List Li} (h : LRow n H p gs) (e : n ≤ m) : LRow m H p gs := ⟨h.l, fun g hg => (h.ok g hg).mono e, h.n⟩
def lrv (gs : List Li) : M04.Row := gs.map fun g => (g.s, vq g.t g.u)
def lid (g : Li) : PyData := .tuple [.str g.s, .tuple [.int g.t, .int g.u]]
def rowd (gs : List Li) : PyData := .tuple (gs.map lid)
theorem li_dp {K : PySem.W.Frag} {n : Nat} {H : Hp} {g : Li} (h : LiOk n H g) : Dp K H (.ref g.q) (lid g) := .tup (SqT.of h.1) (.cons (.str _) (.cons (.tup (SqT.of h.2.1.at_) (.cons (.int _) (.cons (.int _) .nil))) .nil))
theorem lis_dp {K : PySem.W.Frag} {n : Nat} {H : Hp} : ∀ {gs : List Li}, (∀ g ∈ gs, LiOk n H g) → DpAll K H (gs.map fun g => V.ref g.q) (gs.map lid)
  | [], _ => .nil
  | g :: r, h => .cons (li_dp (h g List.mem_cons_self)) (lis_dp fun x hx => h x (List.mem_cons_of_mem _ hx))
theorem row_dp {K : PySem.W.Frag} {n : Nat} {H : Hp} {p : Addr} {gs : List Li} (h : LRow n H p gs) : Dp K H (.ref p) (rowd gs) := .tup (SqT.of h.l) (lis_dp h.ok)
theorem lid_lay (g : Li) (h : PyData.strOk g.s = true) : (lid g).canLay0 = true := by simp [lid, PyData.canLay0, PyData.canLayAll0, h]
theorem lid_depth (g : Li) : (lid g).depth = 2 := by simp [lid, PyData.depth, PyData.depthAll]
theorem lids_lay : ∀ gs : List Li, (∀ g ∈ gs, PyData.strOk g.s = true) → PyData.canLayAll0 (gs.map lid) = true
  | [], _ => rfl
  | g :: r, h => by simp only [List.map_cons, PyData.canLayAll0, lid_lay g (h g List.mem_cons_self), lids_lay r fun x hx => h x (List.mem_cons_of_mem _ hx), Bool.and_self]
theorem lids_depth : ∀ gs : List Li, PyData.depthAll (gs.map lid) ≤ 2
  | [] => by simp [PyData.depthAll]
  | g :: r => by
    have := lids_depth r
    simp only [List.map_cons, PyData.depthAll, lid_depth]
    omega
theorem rowd_lay (gs : List Li) (h : ∀ g ∈ gs, PyData.strOk g.s = true) : (rowd gs).canLay0 = true := by
  unfold rowd
  simp only [PyData.canLay0, lids_lay gs h]
theorem rowd_depth (gs : List Li) : (rowd gs).depth ≤ 3 := by
  have := lids_depth gs
  unfold rowd
  simp only [PyData.depth]
  omega
theorem rowd_shaped (gs : List Li) (h : ∀ g ∈ gs, PyData.strOk g.s = true) : SeqAt.shaped (rowd gs) = true := by
  unfold SeqAt.shaped
  rw [rowd_lay gs h, Bool.true_and]
  have := rowd_depth gs
  exact decide_eq_true (by omega)
theorem lid_eqv {g h : Li} (a : Am.Red g.t g.u) (b : Am.Red h.t h.u) : PyData.eqv (lid g) (lid h) = decide ((g.s, vq g.t g.u) = (h.s, vq h.t h.u)) := by
  have e : PyData.eqv (lid g) (lid h) = (decide (g.s = h.s) && (decide (g.t = h.t) && decide (g.u = h.u))) := by
    simp [lid, PyData.eqv, PyData.eqvAll]
    try rfl
  rw [e, am_dec a b, ← dec_pair, Bool.and_true]
theorem lids_eqv : ∀ {gs hs : List Li}, (∀ g ∈ gs, Am.Red g.t g.u) → (∀ g ∈ hs, Am.Red g.t g.u) → PyData.eqvAll (gs.map lid) (hs.map lid) = decide (lrv gs = lrv hs)
  | [], [], _, _ => rfl
  | [], _ :: _, _, _ => by
    rw [decide_eq_false (by simp [lrv])]
    rfl
  | _ :: _, [], _, _ => by
    rw [decide_eq_false (by simp [lrv])]
    rfl
  | g :: gs, h :: hs, p, q => by
    have ih := lids_eqv (gs := gs) (hs := hs) (fun x hx => p x (List.mem_cons_of_mem _ hx)) fun x hx => q x (List.mem_cons_of_mem _ hx)
    have e : PyData.eqvAll ((g :: gs).map lid) ((h :: hs).map lid) = (PyData.eqv (lid g) (lid h) && PyData.eqvAll (gs.map lid) (hs.map lid)) := by simp [PyData.eqvAll]
    rw [e, ih, lid_eqv (p g List.mem_cons_self) (q h List.mem_cons_self), dec_cons]
    rfl
theorem rowd_eqv {gs hs : List Li} (p : ∀ g ∈ gs, Am.Red g.t g.u) (q : ∀ g ∈ hs, Am.Red g.t g.u) : PyData.eqv (rowd gs) (rowd hs) = decide (lrv gs = lrv hs) := by
  rw [← lids_eqv p q]
  unfold rowd
  simp [PyData.eqv]
abbrev sAdd2 : Stmt := top 54
abbrev sLed : Stmt := top 56
theorem scAdd2 : FnScope ["_law_one", "_law_other"] ["_law_one", "_law_other"] (defScope sAdd2) := ⟨rfl, rfl, rfl, by decide +kernel, rfl, by decide +kernel, by decide +kernel⟩
theorem scLed : FnScope ["_law_row", "_law_unit", "_law_amount_here"] ["_law_row", "_law_unit", "_law_amount_here"] (defScope sLed) := ⟨rfl, rfl, rfl, by decide +kernel, rfl, by decide +kernel, by decide +kernel⟩
def spAdd2 : Sp := fun vs H Q _ => ∃ (p q : Addr) (t u t2 u2 : Int) (n m : Nat), vs = [.ref p, .ref q] ∧ Fr n H p t u ∧ Fr m H q t2 u2 ∧ n + m ≤ 7000 ∧ ∀ r a b H', Same H H' → Fr (n + m + 1) H' r a b → vq a b = vq t u + vq t2 u2 → Q (.ref r) H'
def spLed : Sp := fun vs H Q _ => ∃ (p a : Addr) (gs : List Li) (z : Str) (t u : Int) (n m : Nat), vs = [.ref p, .str z, .ref a] ∧ LRow n H p gs ∧ Fr m H a t u ∧ PyData.strOk z = true ∧ n + m ≤ 6000 ∧ gs.length < 40 ∧ ∀ H' l hs, Same H H' → LRow (n + m + 1) H' l hs → lrv hs = M04.ext (lrv gs) z (vq t u) → hs.length ≤ gs.length + 1 → Q (.ref l) H'
def sLedE (H : Hp) (z : Str) (Q : VK) (gs : List Li) (v : Rat) (nn : Nat) : TS := fun D σ H' => ∃ (p a : Addr) (hs : List Li) (t u : Int), σ = [some (.ref p), some (.str z), some (.ref a)] ∧ Same H H' ∧ LRow nn H' p hs ∧ Fr nn H' a t u ∧ hs.length ≤ gs.length ∧ M04.ext (lrv gs) z v = (if vq t u = 0 then lrv hs else lrv hs ++ [(z, vq t u)]) ∧ D.rt = Q
theorem lrv_last {gs : List Li} {g : Li} (h : gs[gs.length - 1]? = some g) : (lrv gs).getLast? = some (g.s, vq g.t g.u) := by
  unfold lrv
  rw [List.getLast?_eq_getElem?, List.length_map, List.getElem?_map, h]
  rfl
theorem vq_ne {t u : Int} (r : Am.Red t u) : decide (V.int t = V.int 0) = decide (vq t u = 0) := by
  by_cases c : t = 0
  · subst c
    have : u = 1 := by
      have h1 := r.2
      have h2 := r.1
      simp at h1
      omega
    subst this
    rw [decide_eq_true rfl, vq_zero]
    rfl
  · rw [decide_eq_false fun e => c (V.int.inj e)]
    refine (decide_eq_false fun e => c ?_).symm
    rw [← vq_zero] at e
    have := (vq_eq (Int.ne_of_gt r.1) (by decide)).mp e
    omega
section
variable {P : Program} {w : World} {K : PySem.W.Frag} {mg : Str → Option Value} {base : Heap} {f fF : Addr} {fd fdF : FuncData}
theorem ok_add2 (F : FnP K "_law_added" sAdd2 f fd) (LO : Fn P w K mg base "_law_lowest" 1 ["_law_top", "_law_bottom"] spLow fF fdF) : FnOk P w K mg base (L2.CX P w) 2 f fd ["_law_one", "_law_other"] spAdd2 := by
  refine F.ok scAdd2 (fun vs H Q E h => ?_) (fun cdv A outer s H vs Q E hr1 h => ?_)
  · obtain ⟨p, q, t, u, t2, u2, n, m, rfl, _⟩ := h
    rfl
  · obtain ⟨p, q, t, u, t2, u2, n, m, rfl, ⟨hp, r1, b1, b2⟩, ⟨hq, r2, b3, b4⟩, hn, k⟩ := h
    refine ⟨_, (pss_one (ps_ret (pe_call LO.ok hr1 rfl LO.g LO.k LO.b .nil passL (pa_cons (pe_op op_add (pe_op op_mulW (pe_ix ix_tup (pv 0) pe_int (fun _ _ => rfl)) (pe_ix ix_tup (pv 1) pe_int (fun _ _ => rfl))) (pe_op op_mulW (pe_ix ix_tup (pv 1) pe_int (fun _ _ => rfl)) (pe_ix ix_tup (pv 0) pe_int (fun _ _ => rfl)))) (pa_cons (pe_op op_mulW (pe_ix ix_tup (pv 0) pe_int (fun _ _ => rfl)) (pe_ix ix_tup (pv 1) pe_int (fun _ _ => rfl))) pa_nil))))), ?_⟩
    have i0 : ∀ x y : V, atI [x, y] 0 = some x := fun _ _ => rfl
    have i1 : ∀ x y : V, atI [x, y] 1 = some y := fun _ _ => rfl
    have P0 : ∀ Q' : VK, Q' (.int t) H → tOp (rIxT K) (tVar 0) (tC (.int 0)) [some (.ref p), some (.ref q)] H Q' := fun Q' h => ⟨_, rfl, p, _, _, _, rfl, rfl, SqT.of hp, i0 _ _, h⟩
    have P1 : ∀ Q' : VK, Q' (.int u) H → tOp (rIxT K) (tVar 0) (tC (.int 1)) [some (.ref p), some (.ref q)] H Q' := fun Q' h => ⟨_, rfl, p, _, _, _, rfl, rfl, SqT.of hp, i1 _ _, h⟩
    have Q0 : ∀ Q' : VK, Q' (.int t2) H → tOp (rIxT K) (tVar 1) (tC (.int 0)) [some (.ref p), some (.ref q)] H Q' := fun Q' h => ⟨_, rfl, q, _, _, _, rfl, rfl, SqT.of hq, i0 _ _, h⟩
    have Q1 : ∀ Q' : VK, Q' (.int u2) H → tOp (rIxT K) (tVar 1) (tC (.int 1)) [some (.ref p), some (.ref q)] H Q' := fun Q' h => ⟨_, rfl, q, _, _, _, rfl, rfl, SqT.of hq, i1 _ _, h⟩
    refine P0 _ (Q1 _ ⟨_, _, rfl, rfl, mulW_of b1 b4 (by omega), Q0 _ (P1 _ ⟨_, _, rfl, rfl, mulW_of b3 b2 (by omega), _, _, rfl, rfl, P1 _ (Q1 _ ⟨_, _, rfl, rfl, mulW_of b2 b4 (by omega), ?_⟩)⟩)⟩)
    have u0 := r1.1
    have u20 := r2.1
    have nz : u * u2 ≠ 0 := Int.mul_ne_zero (by omega) (by omega)
    refine ⟨_, _, rfl, nz, pow_step (abs_mul_lt b2 b4) (by omega), fun r a b hr rd e hl hb => k r a b _ (Same.upd hr) ⟨upd_same, rd, ?_, ?_⟩ ?_⟩
    · exact Nat.lt_of_le_of_lt hl (abs_add_lt (abs_mul_lt b1 b4) (by rw [Nat.add_comm]; exact abs_mul_lt b3 b2))
    · exact Nat.lt_of_le_of_lt hb (pow_step (abs_mul_lt b2 b4) (by omega))
    · exact vq_add (by omega) (by omega) (by have := rd.1; omega) e
theorem ok_led (F : FnP K "_law_led" sLed f fd) (AD : Fn P w K mg base "_law_added" 2 ["_law_one", "_law_other"] spAdd2 fF fdF) : FnOk P w K mg base (L2.CX P w) 3 f fd ["_law_row", "_law_unit", "_law_amount_here"] spLed := by
  refine F.ok scLed (fun vs H Q E h => ?_) (fun cdv A outer s H vs Q E hr h => ?_)
  · obtain ⟨p, a, gs, z, t, u, n, m, rfl, _⟩ := h
    rfl
  · obtain ⟨p, a, gs, z, t, u, n, m, rfl, hp, ha, hz, hn, hl, k⟩ := h
    have hu : (A.deeper (envOfC "_law_led" (defScope sLed) s.heap.objs.size f cdv)).units + 64 < cLine := by
      have := hr.un
      omega
    have hr2 := hr.mono (show 2 ≤ 2 by decide)
    generalize hv : vq t u = v at k
    obtain ⟨nn, hnn⟩ : ∃ nn, nn = n + m + 1 := ⟨_, rfl⟩
    refine ⟨_, (pss_cons (ps_if (PW.pt (pw_and (pt_cmpR (op_neD hu) (pv 0) (pe_tup pa_nil) (nomark _)) (pw_and1 (pt_cmpR op_eq (pe_ix ix_tup (pe_ix ix_tup (pv 0) (pe_un un_neg pe_int) (fun _ _ => rfl)) pe_int (fun _ _ => rfl)) (pv 1) (nomark _))))) (pss_one (ps_par (by rfl) scLed.nd (i := 2) (j := 0) rfl rfl (by decide) rfl rfl (pa_cons (pe_call AD.ok hr2 rfl AD.g AD.k AD.b .nil passL (pa_cons (pe_ix ix_tup (pe_ix ix_tup (pv 0) (pe_un un_neg pe_int) (fun _ _ => rfl)) pe_int (fun _ _ => rfl)) (pa_cons (pv 2) pa_nil))) (pa_cons (pe_slice sl_tupA (pv 0) po_none (po_some (pe_un un_neg pe_int))) pa_nil)) (by rfl))) pss_nil)
      (pss_imp (S := sLedE H z Q gs v nn) (pss_one (ps_ret (pe_ifExp (pt_cmpR op_ne (pe_ix ix_tup (pv 2) pe_int (fun _ _ => rfl)) pe_int (nomark _)) (pe_op op_catA (pv 0) (pe_tup (pa_cons (pe_tup (pa_cons (pv 1) (pa_cons (pv 2) pa_nil))) pa_nil))) (pv 0)))) ?fin)), ?_⟩
    case fin =>
      rintro D σ H1 ⟨p1, a1, hs, t1, u1, rfl, s1, hp1, ha1, hle, ee, hD⟩
      refine ⟨_, rfl, a1, _, 0, _, rfl, rfl, SqT.of ha1.at_, rfl, rfl, _, rfl, ?_⟩
      rw [vq_ne ha1.rd]
      by_cases c : vq t1 u1 = 0
      · rw [decide_eq_true c]
        rw [if_pos c] at ee
        refine iteF ⟨_, rfl, ?_⟩
        rw [hD]
        subst hnn
        exact k _ p1 hs s1 hp1 ee.symm (by omega)
      · rw [decide_eq_false c]
        rw [if_neg c] at ee
        refine iteT ⟨_, rfl, _, rfl, _, rfl, by show 2 ≤ sizeLine; decide, fun q hq => ⟨by show 1 ≤ sizeLine; decide, fun l hl0 => ?_⟩⟩
        have s2 := Same.upd (o := .tup [.str z, .ref a1]) hq
        have q2 : upd H1 q (.tup [.str z, .ref a1]) q = some (.tup [.str z, .ref a1]) := upd_same
        generalize upd H1 q (.tup [.str z, .ref a1]) = H2 at s2 q2 hl0 ⊢
        have s3 := Same.upd (o := .tup [.ref q]) hl0
        have l3 : upd H2 l (.tup [.ref q]) l = some (.tup [.ref q]) := upd_same
        generalize upd H2 l (.tup [.ref q]) = H3 at s3 l3 ⊢
        have s23 := s2.trans s3
        have k23 := KT.of s23
        have new : LiOk nn H3 ⟨q, a1, z, t1, u1⟩ := ⟨s3 _ _ q2, ha1.kt k23, hz⟩
        refine ⟨p1, l, _, _, rfl, rfl, SqT.of (s23 _ _ hp1.l), SqT.of l3, ?_, fun e => ?_, fun _ e => (by cases e), fun _ _ r hr0 => ?_⟩
        · rw [List.length_map]
          exact Nat.le_trans (show hs.length + 1 ≤ 100 by omega) (by decide)
        · have e0 : hs = [] := List.map_eq_nil_iff.mp e
          subst e0
          rw [hD]
          subst hnn
          refine k _ l [⟨q, a1, z, t1, u1⟩] (s1.trans s23) ⟨l3, fun g hg => ?_, by show 1 ≤ 40; decide⟩ ee.symm (by show 1 ≤ _; omega)
          rw [List.mem_singleton] at hg
          rw [hg]
          exact new
        · have s4 := Same.upd (o := .tup ((hs.map fun g => V.ref g.q) ++ [.ref q])) hr0
          rw [hD]
          subst hnn
          refine k _ r (hs ++ [⟨q, a1, z, t1, u1⟩]) (s1.trans (s23.trans s4)) ⟨by rw [upd_same, List.map_append]; rfl, fun g hg => ?_, by rw [List.length_append]; show hs.length + 1 ≤ 40; omega⟩ ?_ (by rw [List.length_append]; show hs.length + 1 ≤ _; omega)
          · rcases List.mem_append.mp hg with hg | hg
            · exact (hp1.ok g hg).kt (KT.of (s23.trans s4))
            · rw [List.mem_singleton] at hg
              rw [hg]
              exact new.kt (KT.of s4)
          · rw [ee]
            unfold lrv
            rw [List.map_append]
            rfl
    have idle : M04.part (lrv gs) z = (lrv gs, 0) → ∀ (D : Ends), D.rt = Q → ∀ H1, Same H H1 → sLedE H z Q gs v nn D [some (.ref p), some (.str z), some (.ref a)] H1 := fun pe D hD H1 s1 => by
      refine ⟨p, a, gs, t, u, rfl, s1, (hp.mono (by omega)).kt (KT.of s1), (ha.mono (by omega)).kt (KT.of s1), Nat.le_refl _, ?_, hD⟩
      unfold M04.ext
      rw [pe, hv]
      simp only [Rat.zero_add]
    refine ⟨_, rfl, by show 0 ≤ sizeLine; decide, fun e0 he0 => ?_⟩
    have s1 := Same.upd (o := .tup []) he0
    have e1 : upd H e0 (.tup []) e0 = some (.tup []) := upd_same
    generalize upd H e0 (.tup []) = H1 at s1 e1 ⊢
    have hp1 := hp.kt (KT.of s1)
    have dne : PyData.eqv (rowd gs) (.tuple []) = decide (gs = []) := by
      cases gs with
      | nil => rfl
      | cons g r =>
        rw [decide_eq_false (by simp)]
        rfl
    refine ⟨rowd gs, .tuple [], row_dp hp1, .tup (SqT.of e1) .nil, rowd_shaped gs fun g hg => (hp.ok g hg).2.2, by decide, ?_⟩
    refine ⟨_, rfl, ?_⟩
    rw [dne]
    by_cases c0 : gs = []
    · rw [decide_eq_true c0]
      refine if_false_of (by rfl) (iteF (idle ?_ _ rfl H1 s1))
      rw [c0]
      rfl
    · rw [decide_eq_false c0]
      refine if_true_of (by rfl) ?_
      have h1 : gs.length - 1 < gs.length := by
        have := List.length_pos_iff.mpr c0
        omega
      have eg : gs[gs.length - 1]? = some gs[gs.length - 1] := List.getElem?_eq_getElem h1
      generalize gs[gs.length - 1] = g at eg
      have em : (gs.map fun g => V.ref g.q)[(gs.map fun g => V.ref g.q).length - 1]? = some (V.ref g.q) := by rw [List.length_map, List.getElem?_map, eg]; rfl
      have ea : atI (gs.map fun g => V.ref g.q) (-1) = some (V.ref g.q) := atI_end em
      obtain ⟨hg1, hg2, hg3⟩ := hp1.ok g (List.mem_of_getElem? eg)
      have pt : M04.part (lrv gs) z = if g.s = z then ((lrv gs).dropLast, vq g.t g.u) else (lrv gs, 0) := by
        unfold M04.part
        rw [lrv_last eg]
      refine ⟨_, rfl, _, rfl, p, _, -1, _, rfl, rfl, SqT.of hp1.l, ea, g.q, _, 0, _, rfl, rfl, SqT.of hg1, rfl, _, rfl, rfl, _, rfl, ?_⟩
      by_cases c : g.s = z
      · rw [decide_eq_true (by rw [c])]
        rw [if_pos c] at pt
        refine iteT ⟨_, rfl, _, rfl, p, _, -1, _, rfl, rfl, SqT.of hp1.l, ea, g.q, _, 1, _, rfl, rfl, SqT.of hg1, rfl, _, rfl, ?_⟩
        refine ⟨g.a, a, g.t, g.u, t, u, n, m, rfl, hg2, ha.kt (KT.of s1), by omega, fun r t2 u2 H2 s2 fr ev => ?_⟩
        have hp2 := hp1.kt (KT.of s2)
        have ec : cutV (gs.map fun g => V.ref g.q) none (some (-1)) = (gs.dropLast).map fun g => V.ref g.q := by
          show List.take ((-1 + ((gs.map fun g => V.ref g.q).length : Int)).toNat - 0) (gs.map fun g => V.ref g.q) = _
          rw [List.length_map, Nat.sub_zero, show (-1 + (gs.length : Int)).toNat = gs.length - 1 by omega, ← List.map_take, List.dropLast_eq_take]
        have fin2 : ∀ (D : Ends), D.rt = Q → ∀ H3 l, Same H2 H3 → H3 l = some (.tup (gs.dropLast.map fun g => V.ref g.q)) → sLedE H z Q gs v nn D [some (.ref l), some (.str z), some (.ref r)] H3 := fun D hD H3 l s3 hl3 => by
          subst hnn
          refine ⟨l, r, gs.dropLast, t2, u2, rfl, s1.trans (s2.trans s3), ⟨hl3, fun g hg => ((hp2.ok g (List.dropLast_subset _ hg)).kt (KT.of s3)).mono (by omega), by rw [List.length_dropLast]; omega⟩, fr.kt (KT.of s3), by rw [List.length_dropLast]; omega, ?_, hD⟩
          unfold M04.ext
          rw [pt, ev, hv]
          unfold lrv
          rw [List.map_dropLast]
        refine ⟨_, rfl, _, rfl, _, rfl, p, _, rfl, SqT.of hp2.l, fun hw => ?_, fun hw l hl0 => ?_⟩
        · exfalso
          have h2 := hw.2
          rw [List.length_map] at h2
          have h2 : (-1 + (gs.length : Int)).toNat = gs.length := h2
          omega
        · rw [ec]
          have := fin2 { nx := fun _ H' => Q V.non H', rt := Q } rfl _ l (Same.upd hl0) upd_same
          exact ⟨_, _, rfl, this⟩
      · rw [decide_eq_false fun e => c (V.str.inj e)]
        rw [if_neg c] at pt
        exact iteF (idle pt _ rfl H1 s1)
end
end K34
set_option Elab.async false
set_option linter.all false
set_option maxRecDepth 100000
set_option maxHeartbeats 1000000
set_option exponentiation.threshold 100000
namespace K34
open PySem PySem.Spec PyProof.Rows L2 Fa Fb
structure Lc where
  q : Addr
  a : Addr
  nm : Str
  pa : Str
  un : Str
  t : Int
  u : Int
def lcv (g : Lc) : M04.Cue := ⟨g.nm, g.pa, g.un, vq g.t g.u⟩
def LcOk (n : Nat) (H : Hp) (g : Lc) : Prop := H g.q = some (.tup [.str g.nm, .str g.pa, .str g.un, .ref g.a]) ∧ Fr n H g.a g.t g.u ∧ PyData.strOk g.nm = true ∧ PyData.strOk g.pa = true ∧ PyData.strOk g.un = true
theorem LcOk.kt {n : Nat} {H H' : Hp} {g : Lc} (h : LcOk n H g) (k : KT H H') : LcOk n H' g := ⟨k _ _ h.1 (fun _ e => by cases e), h.2.1.kt k, h.2.2⟩
structure LsC (n : Nat) (H : Hp) (l : Addr) (gs : List Lc) : Prop where
  l : H l = some (.lst (gs.map fun g => V.ref g.q))
  ok : ∀ g ∈ gs, LcOk n H g
  n : gs.length ≤ 14
theorem LsC.same {n : Nat} {H H' : Hp} {l : Addr} {gs : List Lc} (h : LsC n H l gs) (s : Same H H') : LsC n H' l gs := ⟨s _ _ h.l, fun g hg => (h.ok g hg).kt (KT.of s), h.n⟩
/-- an entry of the dict: name, address, row -/
abbrev En : Type := Str × Addr × List Li
def enK (es : List En) : List (Key × V) := es.map fun e => (Sum.inr e.1, V.ref e.2.1)
def ent (es : List En) : List (Str × Option M04.Row) := es.map fun e => (e.1, some (lrv e.2.2))
structure RwsOk (N : Nat) (H : Hp) (d : Addr) (cs : List M04.Cue) (es : List En) : Prop where
  dk : H d = some (.dK (enK es))
  ok : ∀ e ∈ es, LRow N H e.2.1 e.2.2 ∧ e.2.2.length ≤ cs.length
  tab : ent es = M04.tab (M04.all cs)
theorem RwsOk.same {N : Nat} {H H' : Hp} {d : Addr} {cs : List M04.Cue} {es : List En} (h : RwsOk N H d cs es) (s : Same H H') : RwsOk N H' d cs es := ⟨s _ _ h.dk, fun e he => ⟨(h.ok e he).1.kt (KT.of s), (h.ok e he).2⟩, h.tab⟩
/-- what is found by a name -/
theorem find_en {es : List En} {s : M04.St} {x : Str} {i : Nat} {r : M04.Row} (h : ent es = M04.tab s) (e : M04.num s.nums x = some i) (er : s.rows[i]? = some r) : ∃ p hs, (x, p, hs) ∈ es ∧ lrv hs = r ∧ valV (enK es) (Sum.inr x) = some (.ref p) := by
  have f1 : (ent es).find? (fun z => decide (z.1 = x)) = (es.find? fun z => decide (z.1 = x)).map fun e => (e.1, some (lrv e.2.2)) := by
    unfold ent
    rw [List.find?_map]
    rfl
  have f2 : (M04.tab s).find? (fun z => decide (z.1 = x)) = (s.nums.find? fun z => decide (z.1 = x)).map fun z => (z.1, s.rows[z.2]?) := by
    unfold M04.tab
    rw [List.find?_map]
    rfl
  have f3 : valV (enK es) (Sum.inr x) = (es.find? fun z => decide (z.1 = x)).map fun e => V.ref e.2.1 := by
    unfold valV enK
    rw [List.find?_map, Option.map_map]
    congr 1
    congr 1
    funext z
    show decide ((Sum.inr z.1 : Key) = Sum.inr x) = decide (z.1 = x)
    by_cases c : z.1 = x
    · simp [c]
    · rw [decide_eq_false c, decide_eq_false fun e => c (Sum.inr.inj e)]
  rw [h, f2] at f1
  unfold M04.num at e
  cases en : s.nums.find? fun z => decide (z.1 = x) with
  | none => rw [en] at e; cases e
  | some z =>
    rw [en] at e f1
    cases e
    cases ee : es.find? fun z => decide (z.1 = x) with
    | none => rw [ee] at f1; cases f1
    | some w =>
      rw [ee] at f1 f3
      have f1 := Option.some.inj f1
      have wx : w.1 = x := of_decide_eq_true (List.find?_some (p := fun z : En => decide (z.1 = x)) ee)
      refine ⟨w.2.1, w.2.2, ?_, ?_, f3⟩
      · rw [← wx]
        exact List.mem_of_find?_eq_some ee
      · have this : s.rows[z.2]? = some (lrv w.2.2) := congrArg Prod.snd f1
        have er : s.rows[z.2]? = some r := er
        rw [er] at this
        exact (Option.some.inj this).symm
theorem putK_en {es : List En} {s : M04.St} {x : Str} {p : Addr} {hs : List Li} (h : ent es = M04.tab s) (e : M04.num s.nums x = none) : putK (enK es) (Sum.inr x) (V.ref p) = enK (es ++ [(x, p, hs)]) := by
  have nm : es.map (fun e => e.1) = s.nums.map (fun z => z.1) := by
    rw [← M04.tab_nm, ← h]
    unfold ent
    rw [List.map_map]
    rfl
  have : (enK es).any (fun kv => decide (kv.1 = (Sum.inr x : Key))) = false := by
    unfold enK
    rw [List.any_map, List.any_eq_false]
    intro z hz e2
    have e2 := Sum.inr.inj (of_decide_eq_true e2)
    refine M04.num_none.mp e ?_
    rw [← nm]
    exact List.mem_map.mpr ⟨z, hz, e2⟩
  unfold putK
  rw [this]
  unfold enK
  rw [List.map_append]
  rfl
theorem Fr.put {n : Nat} {H : Hp} {p a : Addr} {ob : HO} {t u : Int} (h : Fr n H p t u) (na : NoTI H a) : Fr n (upd H a ob) p t u := ⟨by rw [upd_ne (na.tup h.at_)]; exact h.at_, h.rd, h.bt, h.bu⟩
theorem LiOk.put {n : Nat} {H : Hp} {a : Addr} {ob : HO} {g : Li} (h : LiOk n H g) (na : NoTI H a) : LiOk n (upd H a ob) g := ⟨by rw [upd_ne (na.tup h.1)]; exact h.1, h.2.1.put na, h.2.2⟩
theorem LRow.put {n : Nat} {H : Hp} {p a : Addr} {ob : HO} {gs : List Li} (h : LRow n H p gs) (na : NoTI H a) : LRow n (upd H a ob) p gs := ⟨by rw [upd_ne (na.tup h.l)]; exact h.l, fun g hg => (h.ok g hg).put na, h.n⟩
abbrev sRws : Stmt := top 57
theorem scRws : FnScope ["_law_cues_here", "_law_rows_here", "_law_name", "_law_parent", "_law_unit", "_law_amount_here"] ["_law_cues_here"] (defScope sRws) := ⟨rfl, rfl, rfl, by decide +kernel, rfl, by decide +kernel, by decide +kernel⟩
def spRws (K : PySem.W.Frag) : Sp := fun vs H Q _ => ∃ l gs n, vs = [.ref l] ∧ LsC n H l gs ∧ M04.Good (gs.map lcv) ∧ 1 ≤ n ∧ n ≤ 200 ∧ ∀ d H' es, Same H H' → RwsOk ((gs.length + 1) * (n + 1)) H' d (gs.map lcv) es → Q (.ref d) H'
def sRwsB (K : PySem.W.Frag) (n : Nat) (H : Hp) (l : Addr) (gs : List Lc) : TS := fun D σ H' => ∃ (d : Addr) (i : Nat) (g : Lc) (es : List En), σ = [some (.ref l), some (.ref d), some (.str g.nm), some (.str g.pa), some (.str g.un), some (.ref g.a)] ∧ gs[i]? = some g ∧ Same H H' ∧ H d = none ∧ RwsOk ((i + 1) * (n + 1)) H' d ((gs.map lcv).take i) es ∧
  ∀ H'' es', Same H H'' → RwsOk ((i + 2) * (n + 1)) H'' d ((gs.map lcv).take (i + 1)) es' → D.nx [some (.ref l), some (.ref d), some (.str g.nm), some (.str g.pa), some (.str g.un), some (.ref g.a)] H''
theorem RwsOk.put {N : Nat} {H : Hp} {d f : Addr} {ob : HO} {xs : List V} {cs : List M04.Cue} {es : List En} (h : RwsOk N H d cs es) (hf : H f = some (.lst xs)) : RwsOk N (upd H f ob) d cs es := ⟨by
  rw [upd_ne fun e => by
    have h1 := h.dk
    rw [e, hf] at h1
    cases h1]
  exact h.dk, fun e he => ⟨(h.ok e he).1.put (.inl ⟨_, hf⟩), (h.ok e he).2⟩, h.tab⟩
/-- the list of what was found -/
structure FoOk (N : Nat) (H : Hp) (f : Addr) (fs : List (Addr × List Li)) : Prop where
  l : H f = some (.lst (fs.map fun z => V.ref z.1))
  ok : ∀ z ∈ fs, LRow N H z.1 z.2
  z : [] ∈ fs.map fun z => lrv z.2
theorem FoOk.same {N : Nat} {H H' : Hp} {f : Addr} {fs : List (Addr × List Li)} (h : FoOk N H f fs) (s : Same H H') : FoOk N H' f fs := ⟨s _ _ h.l, fun z hz => (h.ok z hz).kt (KT.of s), h.z⟩
theorem LRow.str {N : Nat} {H : Hp} {p : Addr} {gs : List Li} (h : LRow N H p gs) : ∀ g ∈ gs, PyData.strOk g.s = true := fun g hg => (h.ok g hg).2.2
theorem LRow.red {N : Nat} {H : Hp} {p : Addr} {gs : List Li} (h : LRow N H p gs) : ∀ g ∈ gs, Am.Red g.t g.u := fun g hg => (h.ok g hg).2.1.rd
theorem fo_dp {K : PySem.W.Frag} {N : Nat} {H : Hp} : ∀ {fs : List (Addr × List Li)}, (∀ z ∈ fs, LRow N H z.1 z.2) → DpAll K H (fs.map fun z => V.ref z.1) (fs.map fun z => rowd z.2)
  | [], _ => .nil
  | z :: r, h => .cons (row_dp (h z List.mem_cons_self)) (fo_dp fun x hx => h x (List.mem_cons_of_mem _ hx))
theorem fo_lay {N : Nat} {H : Hp} : ∀ {fs : List (Addr × List Li)}, (∀ z ∈ fs, LRow N H z.1 z.2) → PyData.canLayAll0 (fs.map fun z => rowd z.2) = true ∧ PyData.depthAll (fs.map fun z => rowd z.2) ≤ 3
  | [], _ => ⟨rfl, by simp [PyData.depthAll]⟩
  | z :: r, h => by
    obtain ⟨h1, h2⟩ := fo_lay (fs := r) fun x hx => h x (List.mem_cons_of_mem _ hx)
    have h3 := rowd_depth z.2
    have h4 := rowd_lay z.2 (h z List.mem_cons_self).str
    simp only [List.map_cons, PyData.canLayAll0, PyData.depthAll, h4, h1]
    exact ⟨rfl, by omega⟩
theorem fo_shaped {N : Nat} {H : Hp} {fs : List (Addr × List Li)} (h : ∀ z ∈ fs, LRow N H z.1 z.2) : SeqAt.shaped (.list (fs.map fun z => rowd z.2)) = true := by
  obtain ⟨h1, h2⟩ := fo_lay h
  unfold SeqAt.shaped
  have h3 : PyData.canLay0 (.list (fs.map fun z => rowd z.2)) = true := by simp only [PyData.canLay0, h1]
  have h4 : PyData.depth (.list (fs.map fun z => rowd z.2)) ≤ 64 := by
    simp only [PyData.depth]
    omega
  rw [h3, decide_eq_true h4]
  rfl
theorem fo_any {N : Nat} {H : Hp} {fs : List (Addr × List Li)} {p : Addr} {hs : List Li} (h : ∀ z ∈ fs, LRow N H z.1 z.2) (hp : LRow N H p hs) : ((fs.map fun z => rowd z.2).any fun z => PyData.eqv z (rowd hs)) = decide (lrv hs ∈ fs.map fun z => lrv z.2) := by
  rw [List.any_map, Bool.eq_iff_iff, List.any_eq_true, decide_eq_true_iff, List.mem_map]
  constructor
  · rintro ⟨z, hz, e⟩
    have e : PyData.eqv (rowd z.2) (rowd hs) = true := e
    rw [rowd_eqv (h z hz).red hp.red] at e
    exact ⟨z, hz, of_decide_eq_true e⟩
  · rintro ⟨z, hz, e⟩
    refine ⟨z, hz, ?_⟩
    show PyData.eqv (rowd z.2) (rowd hs) = true
    rw [rowd_eqv (h z hz).red hp.red]
    exact decide_eq_true e
theorem slA {K : PySem.W.Frag} {N : Nat} {H : Hp} {p : Addr} {hs : List Li} {m : Nat} {Q' : VK} (h : LRow N H p hs) (hm : m < hs.length) (k : ∀ H2 p2, Same H H2 → LRow N H2 p2 (hs.take (m + 1)) → Q' (.ref p2) H2) : rSlA K (.ref p) none (some (1 + m : Int)) H Q' := by
  have e2 : HT.sIx (hs.map fun g => V.ref g.q).length (hs.map fun g => V.ref g.q).length (some (1 + m : Int)) = m + 1 := by
    show (if (1 + m : Int) < 0 then ((1 + m : Int) + ((hs.map fun g => V.ref g.q).length : Int)).toNat else min (1 + m : Int).toNat (hs.map fun g => V.ref g.q).length) = m + 1
    rw [if_neg (by omega), List.length_map]
    omega
  refine ⟨p, _, rfl, SqT.of h.l, fun hw => ?_, fun hw q hq => ?_⟩
  · have h2 := hw.2
    rw [e2, List.length_map] at h2
    refine k H p (Same.refl _) ?_
    rw [h2, List.take_length]
    exact h
  · have ec : cutV (hs.map fun g => V.ref g.q) none (some (1 + m : Int)) = (hs.take (m + 1)).map fun g => V.ref g.q := by
      unfold cutV
      rw [e2]
      show List.take (m + 1 - 0) (List.drop 0 _) = _
      rw [List.drop_zero, Nat.sub_zero, List.map_take]
    rw [ec]
    have s2 := Same.upd (o := .tup ((hs.take (m + 1)).map fun g => V.ref g.q)) hq
    exact k _ q s2 ⟨upd_same, fun g hg => (h.ok g (List.mem_of_mem_take hg)).kt (KT.of s2), by rw [List.length_take]; have := h.n; omega⟩
/-- the entry of a cue -/
theorem en_at {cs : List M04.Cue} {es : List En} {i : Nat} {c : M04.Cue} (g : M04.Good cs) (h : ent es = M04.tab (M04.all cs)) (ec : cs[i]? = some c) : ∃ p hs, ((c.nm, p, hs) ∈ es ∧ valV (enK es) (Sum.inr c.nm) = some (.ref p)) ∧ lrv hs = M04.row (M04.all (cs.take i)) c := by
  have hm := M04.tab_mem g ec
  have nd : ((M04.all cs).nums.map (fun z => z.1)).Nodup := by
    rw [M04.names_all]
    exact M04.names_nodup g
  obtain ⟨z, hz, e⟩ := List.mem_map.mp hm
  have e1 : z.1 = c.nm := congrArg Prod.fst e
  have e2 : (M04.all cs).rows[z.2]? = some (M04.row (M04.all (cs.take i)) c) := congrArg Prod.snd e
  have f := M04.find_nm nd (show (z.1, z.2) ∈ (M04.all cs).nums from hz)
  have nn : M04.num (M04.all cs).nums c.nm = some z.2 := by
    unfold M04.num
    rw [← e1, f]
    rfl
  obtain ⟨p, hs, h1, h2, h3⟩ := find_en h nn e2
  exact ⟨p, hs, ⟨h1, h3⟩, h2⟩
section
variable {P : Program} {w : World} {K : PySem.W.Frag} {mg : Str → Option Value} {base : Heap} {f fF : Addr} {fd fdF : FuncData}
theorem ok_rws (F : FnP K "_law_rows" sRws f fd) (LD : Fn P w K mg base "_law_led" 3 ["_law_row", "_law_unit", "_law_amount_here"] spLed fF fdF) : FnOk P w K mg base (L2.CX P w) 4 f fd ["_law_cues_here"] (spRws K) := by
  refine F.ok scRws (fun vs H Q E h => ?_) (fun cdv A outer s H vs Q E hr h => ?_)
  · obtain ⟨l, gs, n, rfl, _⟩ := h
    rfl
  · obtain ⟨l, gs, n, rfl, hl, good, n1, n2, k⟩ := h
    have hu1 : (A.deeper (envOfC "_law_rows" (defScope sRws) s.heap.objs.size f cdv)).units + 1 < cLine := by
      have := hr.un
      omega
    have hr3 := hr.mono (show 3 ≤ 3 by decide)
    refine ⟨_, (pss_cons (ps_set (i := 1) scRws.nd rfl (Or.inl rfl) (pe_disp (pps_cons pe_str (pe_tup pa_nil) pps_nil) rfl rfl (by simp) (by decide)))
      (pss_cons (ps_for (passes_of rfl) rfl (pi_list (pv 0)) (pg_tup (by rfl) (pgs_cons (pg_name (i := 2) scRws.nd rfl (Or.inl rfl)) (pgs_cons (pg_name (i := 3) scRws.nd rfl (Or.inl rfl)) (pgs_cons (pg_name (i := 4) scRws.nd rfl (Or.inl rfl)) (pgs_cons (pg_name (i := 5) scRws.nd rfl (Or.inl rfl)) pgs_nil)))))
      (pss_imp (S := sRwsB K n H l gs) (pss_one (ps_dput hu1 (pv 1) (pv 2) (pe_call LD.ok hr3 rfl LD.g LD.k LD.b .nil passL (pa_cons (pe_dget hu1 (pv 1) (pv 3) (fun _ _ => rfl)) (pa_cons (pv 4) (pa_cons (pv 5) pa_nil)))) (by rfl))) ?body))
      (pss_one (ps_ret (pv 1))))), ?_⟩
    case body =>
      rintro D σ H1 ⟨d, i, g, es, rfl, eg, s1, d0, ro, kn⟩
      have ec : (gs.map lcv)[i]? = some (lcv g) := by rw [List.getElem?_map, eg]; rfl
      obtain ⟨g1, g2⟩ := good i _ ec
      obtain ⟨j, ej⟩ := Option.isSome_iff_exists.mp g2
      have jl : j < (M04.all ((gs.map lcv).take i)).rows.length := M04.all_ok _ _ M04.init_ok _ _ ej
      obtain ⟨p, hs, mem, ev, vv⟩ := find_en ro.tab ej (List.getElem?_eq_getElem jl)
      obtain ⟨r1, r2⟩ := ro.ok _ mem
      have hi := (List.getElem?_eq_some_iff.mp eg).1
      have hi14 := hl.n
      obtain ⟨c1, c2, c3, c4, c5⟩ := (hl.ok g (List.mem_of_getElem? eg)).kt (KT.of s1)
      have lt : ((gs.map lcv).take i).length = i := by rw [List.length_take, List.length_map]; omega
      rw [lt] at r2
      have r2 : hs.length ≤ i := r2
      have g1 : M04.num (M04.all ((gs.map lcv).take i)).nums g.nm = none := g1
      have b0 : (i + 1) * (n + 1) ≤ 14 * 201 := Nat.mul_le_mul (by omega) (by omega)
      have b2 : (i + 1) * (n + 1) + n + 1 = (i + 2) * (n + 1) := by rw [show i + 2 = (i + 1) + 1 from rfl, Nat.add_mul (i + 1) 1, Nat.one_mul]; omega
      refine ⟨_, rfl, _, rfl, d, _, rfl, .inl ⟨_, Sum.inr g.pa, Rd.of ro.dk, rfl, vv.symm⟩, _, rfl, _, rfl, ?_⟩
      refine ⟨p, g.a, hs, g.un, g.t, g.u, (i + 1) * (n + 1), n, rfl, r1, c2, c5, by omega, by omega, fun H2 l2 hs2 s2 lr2 ev2 hl2 => ?_⟩
      rw [b2] at lr2
      have ro2 := ro.same s2
      refine ⟨_, rfl, _, rfl, d, _, rfl, .inl ⟨_, Sum.inr g.nm, ro2.dk, rfl, ?_, rfl⟩, ?_⟩
      · have e1 : es.length = i + 1 := by
          have := congrArg List.length ro.tab
          rw [M04.tab_len, M04.nums_len, lt] at this
          unfold ent at this
          rw [List.length_map] at this
          exact this
        unfold enK
        rw [List.length_map]
        exact Nat.lt_of_lt_of_le (show es.length < 100 by omega) (by decide)
      · rw [putK_en (hs := hs2) ro.tab g1]
        have nd : NoTI H2 d := .inr ⟨_, ro2.dk⟩
        refine kn _ (es ++ [(g.nm, l2, hs2)]) (same_put (s1.trans s2) d0) ⟨upd_same, fun e he => ?_, ?_⟩
        · rw [M04.all_take_len ec]
          rcases List.mem_append.mp he with he | he
          · obtain ⟨y1, y2⟩ := ro2.ok e he
            exact ⟨(y1.mono (by omega)).put nd, by rw [lt] at y2; omega⟩
          · rw [List.mem_singleton] at he
            subst he
            exact ⟨lr2.put nd, by show hs2.length ≤ _; omega⟩
        · have aok : M04.AllOk (M04.all ((gs.map lcv).take i)) := M04.all_all ((gs.map lcv).take i) M04.init M04.init_all
          rw [M04.all_take ec, M04.tab_step _ aok, ← ro.tab]
          unfold ent
          rw [List.map_append]
          show _ ++ [(g.nm, some (lrv hs2))] = _
          rw [ev2]
          unfold M04.row
          have ej' : M04.num (M04.all ((gs.map lcv).take i)).nums (lcv g).pa = some j := ej
          rw [ej', Option.getD_some, List.getD_eq_getElem?_getD, List.getElem?_eq_getElem jl, Option.getD_some, ev]
          rfl
    intro d hd
    have hd0 := hd
    refine ⟨by show 0 ≤ sizeLine; decide, fun p0 hp0 => ?_⟩
    have pd : p0 ≠ d ∧ H p0 = none := by
      by_cases e : p0 = d
      · rw [e, upd_same] at hp0
        cases hp0
      · rw [upd_ne e] at hp0
        exact ⟨e, hp0⟩
    refine ⟨by rw [upd_ne (Ne.symm pd.1)]; exact upd_same, [(Sum.inr "start", .ref p0)], rfl, (by show 1 ≤ 15; decide), ?_⟩
    have em : mergeK [] [((Sum.inr ("start" : Str) : Key), V.ref p0)] = enK [("start", p0, [])] := rfl
    rw [em]
    have s1 : Same H (upd (upd (upd H d (.dK [])) p0 (.tup [])) d (.dK (enK [("start", p0, [])]))) := fun q ob hq => by
      rw [upd_ne (ne_of_none hq hd), upd_ne (ne_of_none hq pd.2), upd_ne (ne_of_none hq hd)]
      exact hq
    have d1 : upd (upd (upd H d (.dK [])) p0 (.tup [])) d (.dK (enK [("start", p0, [])])) d = some (.dK (enK [("start", p0, [])])) := upd_same
    have p1 : upd (upd (upd H d (.dK [])) p0 (.tup [])) d (.dK (enK [("start", p0, [])])) p0 = some (.tup []) := by rw [upd_ne pd.1]; exact upd_same
    show tSeq _ _ _ _ (upd (upd (upd H d (.dK [])) p0 (.tup [])) d (.dK (enK [("start", p0, [])])))
    generalize upd (upd (upd H d (.dK [])) p0 (.tup [])) d (.dK (enK [("start", p0, [])])) = H1 at s1 d1 p1
    have ro0 : RwsOk ((0 + 1) * (n + 1)) H1 d ((gs.map lcv).take 0) [("start", p0, [])] := ⟨d1, fun e he => by
      rw [List.mem_singleton] at he
      subst he
      exact ⟨⟨p1, (fun g hg => by cases hg), Nat.zero_le _⟩, Nat.le_refl _⟩, rfl⟩
    refine ⟨_, rfl, l, rfl, ⟨_, SqL.of (s1 _ _ hl.l)⟩, for_list (K := K) (a := l) (xs := gs.map fun g => V.ref g.q) (fun i σ H' => ∃ v2 v3 v4 v5 : Option V, σ = [some (.ref l), some (.ref d), v2, v3, v4, v5] ∧ Same H H' ∧ ∃ es, RwsOk ((i + 1) * (n + 1)) H' d ((gs.map lcv).take i) es) ⟨_, _, _, _, rfl, s1, _, ro0⟩ (fun i σ H' _ ⟨_, _, _, _, _, s, _⟩ => SqL.of (s _ _ hl.l)) ?_ ?_⟩
    · rintro i x σ H2 hx ⟨v2, v3, v4, v5, rfl, s2, es, ro⟩
      obtain ⟨g, eg, rfl⟩ := map_at hx
      have c1 := s2 _ _ (hl.ok g (List.mem_of_getElem? eg)).1
      exact ⟨g.q, _, rfl, SqT.of c1, rfl, _, _, rfl, _, _, rfl, _, _, rfl, _, _, rfl, rfl, d, i, g, es, rfl, eg, s2, hd0, ro, fun H'' es' s' ro' => ⟨_, _, _, _, rfl, s', es', ro'⟩⟩
    · rintro σ H2 ⟨v2, v3, v4, v5, rfl, s2, es, ro⟩
      rw [List.length_map, show (gs.map lcv).take gs.length = gs.map lcv from by rw [← List.length_map (f := lcv) (as := gs), List.take_length]] at ro
      exact ⟨_, rfl, k d H2 es s2 ro⟩
end
end K34
set_option Elab.async false
set_option linter.all false
set_option maxRecDepth 100000
set_option maxHeartbeats 1000000
set_option exponentiation.threshold 100000
namespace K34
open PySem PySem.Spec PyProof.Rows L2 Fa Fb
abbrev sMom : Stmt := top 58
theorem scMom : FnScope ["_law_cues_here", "_law_found", "_law_rows_here", "_law_cue", "_law_row", "_law_many"] ["_law_cues_here"] (defScope sMom) := ⟨rfl, rfl, rfl, by decide +kernel, rfl, by decide +kernel, by decide +kernel⟩

/-! the law's moments, told exactly -/
theorem lrv_len (gs : List Li) : (lrv gs).length = gs.length := List.length_map ..
theorem lrv_take (hs : List Li) (k : Nat) : lrv (hs.take k) = (lrv hs).take k := by
  unfold lrv
  rw [List.map_take]
def spMom (K : PySem.W.Frag) : Sp := fun vs H Q _ => ∃ l gs n, vs = [.ref l] ∧ LsC n H l gs ∧ M04.Good (gs.map lcv) ∧ 1 ≤ n ∧ n ≤ 200 ∧ ∀ p fs H', Same H H' → FoOk ((gs.length + 1) * (n + 1)) H' p fs → (fs.map fun z => lrv z.2) = (M04.all (gs.map lcv)).rows → H p = none → Q (.ref p) H'
structure MoIX (N : Nat) (H : Hp) (f d : Addr) (gs : List Lc) (es : List En) (i : Nat) (H' : Hp) (fs : List (Addr × List Li)) : Prop where
  s : Same H H'
  f0 : H f = none
  ro : RwsOk N H' d (gs.map lcv) es
  fo : FoOk N H' f fs
  ev : (fs.map fun z => lrv z.2) = (M04.all ((gs.map lcv).take i)).rows
abbrev SMo (l f d q : Addr) (v4 : Option V) : L2.St := [some (.ref l), some (.ref f), some (.ref d), some (.ref q), v4, none]
def sMomB (N : Nat) (H : Hp) (l : Addr) (gs : List Lc) : TS := fun D σ H' => ∃ (d f : Addr) (i : Nat) (g : Lc) (es : List En) (fs : List (Addr × List Li)) (v4 : Option V), σ = SMo l f d g.q v4 ∧ gs[i]? = some g ∧ H' g.q = some (.tup [.str g.nm, .str g.pa, .str g.un, .ref g.a]) ∧ MoIX N H f d gs es i H' fs ∧
  ∀ H'' f' fs' v4, MoIX N H f' d gs es (i + 1) H'' fs' → D.nx (SMo l f' d g.q v4) H''
section
variable {P : Program} {w : World} {K : PySem.W.Frag} {mg : Str → Option Value} {base : Heap} {f fF : Addr} {fd fdF : FuncData}
theorem ok_mom (F : FnP K "_law_moments" sMom f fd) (mL : mg "len" = none) (mG : mg "range" = none) (RW : Fn P w K mg base "_law_rows" 4 ["_law_cues_here"] (spRws K) fF fdF) : FnOk P w K mg base (L2.CX P w) 5 f fd ["_law_cues_here"] (spMom K) := by
  refine F.ok scMom (fun vs H Q E h => ?_) (fun cdv A outer s H vs Q E hr h => ?_)
  · obtain ⟨l, gs, n, rfl, _⟩ := h
    rfl
  · obtain ⟨l, gs, n, rfl, hl, good, n1, n2, k⟩ := h
    have hu1 : (A.deeper (envOfC "_law_moments" (defScope sMom) s.heap.objs.size f cdv)).units + 1 < cLine := by
      have := hr.un
      omega
    have hu65 : (A.deeper (envOfC "_law_moments" (defScope sMom) s.heap.objs.size f cdv)).units + 65 < cLine := by
      have := hr.un
      omega
    have hr4 := hr.mono (show 4 ≤ 4 by decide)
    obtain ⟨N, hN⟩ : ∃ N, N = (gs.length + 1) * (n + 1) := ⟨_, rfl⟩
    refine ⟨_, (pss_cons (ps_asg (pe_tup (pa_cons (pe_lst (pa_cons (pe_tup pa_nil) pa_nil)) (pa_cons (pe_call RW.ok hr4 rfl RW.g RW.k RW.b .nil passL (pa_cons (pv 0) pa_nil)) pa_nil))) (pg_tup (by rfl) (pgs_cons (pg_name (i := 1) scMom.nd rfl (Or.inr rfl)) (pgs_cons (pg_name (i := 2) scMom.nd rfl (Or.inl rfl)) pgs_nil))))
      (pss_cons (ps_for (passes_of rfl) rfl (pi_list (pv 0)) (pg_name (i := 3) scMom.nd rfl (Or.inl rfl))
      (pss_imp (S := sMomB N H l gs) (pss_cons (ps_set (i := 4) scMom.nd rfl (Or.inr rfl) (pe_dget hu1 (pv 2) (pe_ix ix_tup (pv 3) pe_int (fun _ _ => rfl)) (fun _ _ => rfl)))
      (pss_one (ps_set (i := 1) scMom.nd rfl (Or.inr rfl) (pe_op op_cat (pv 1) (pe_lc (own := [("_law_many", 5)]) (g := gName 5) (tt := tTest (tOp (rNotInD K) (tSl (rSlA K) (tVar 4) tNoPart (tPart (tVar 5))) (tVar 1))) (te := tSl (rSlA K) (tVar 4) tNoPart (tPart (tVar 5))) (by rfl) scMom.nd (pi_range2 rfl mG (pa_cons pe_int (pa_cons (pe_op op_add (pe_callB call_len rfl mL PySem.boot_len (pa_cons (pv 4) pa_nil)) pe_int) pa_nil))) (blkOk_by (own := [("_law_many", 5)]) (N := ["_law_cues_here", "_law_found", "_law_rows_here", "_law_cue", "_law_row", "_law_many"]) (sc := defScope sMom) (by decide +kernel)) (fun _ _ _ _ _ => (pg_name (i := 5) scMom.nd rfl (Or.inl rfl))) (fun _ _ _ _ _ => pts_one (pt_cmpR (op_notInD hu65) (pe_slice sl_tupA (pv 4) po_none (po_some (pv 5))) (pv 1) (by rfl))) (fun _ _ _ _ _ => (pe_slice sl_tupA (pv 4) po_none (po_some (pv 5))))))))) ?body))
      (pss_one (ps_ret (pv 1))))), ?_⟩
    have fl : ∀ (i : Nat) (fs : List (Addr × List Li)), i ≤ 15 → (fs.map fun z => lrv z.2) = (M04.all ((gs.map lcv).take i)).rows → fs.length ≤ 16 := fun i fs hi e => by
      have h1 := congrArg List.length e
      have h2 := M04.rows_len ((gs.map lcv).take i)
      rw [List.length_take] at h2
      rw [List.length_map] at h1
      omega
    case body =>
      rintro D σ H1 ⟨d, f, i, g, es, fs, v4, rfl, eg, hq, I, kn⟩
      have ec : (gs.map lcv)[i]? = some (lcv g) := by rw [List.getElem?_map, eg]; rfl
      have hi := (List.getElem?_eq_some_iff.mp eg).1
      have h14 := hl.n
      obtain ⟨p, hs, mem, ev⟩ := en_at good I.ro.tab ec
      obtain ⟨r1, r2⟩ := I.ro.ok _ mem.1
      have r1 : LRow N H1 p hs := r1
      have hs40 := r1.n
      refine ⟨_, rfl, _, rfl, g.q, _, 0, _, rfl, rfl, SqT.of hq, rfl, d, _, rfl, .inl ⟨_, Sum.inr g.nm, Rd.of I.ro.dk, rfl, mem.2.symm⟩, ?_⟩
      refine ⟨_, rfl, _, rfl, _, _, rfl, .inr ⟨_, SqT.of r1.l, rfl⟩, _, _, rfl, rfl, _, _, rfl, ⟨by decide, by decide, by rw [List.length_map]; omega, by rw [List.length_map]; omega⟩, ?_⟩
      have eN : (((hs.map fun g => V.ref g.q).length : Int) + 1 - 1).toNat = hs.length := by rw [List.length_map]; omega
      rw [eN]
      have tk : (M04.all ((gs.map lcv).take (i + 1))).rows = M04.rows (M04.all ((gs.map lcv).take i)) (lcv g) := by rw [M04.all_take ec]; rfl
      have ln : (lrv hs).length = hs.length := lrv_len hs
      obtain ⟨pc, p0⟩ := M06.all_PC ((gs.map lcv).take i)
      have evI := I.ev
      -- what the comprehension finds: nothing, or the whole row at its end
      refine fun D2 hD2 => lc_range (lo := 1) (n := hs.length) (fun m H' => Same H1 H' ∧ ∃ ns : List (Addr × List Li), H' D2 = some (.lst (ns.map fun z => V.ref z.1)) ∧ (∀ z ∈ ns, LRow N H' z.1 z.2) ∧ (ns.map fun z => lrv z.2) = (if m = hs.length ∧ lrv hs ∉ fs.map (fun z => lrv z.2) then [lrv hs] else [])) ⟨Same.upd hD2, [], upd_same, (fun z hz => by cases hz), ?_⟩ ?_ ?_
      · rw [if_neg]
        · rfl
        · rintro ⟨h0, h1⟩
          have hn : hs = [] := List.eq_nil_of_length_eq_zero h0.symm
          rw [hn, evI] at h1
          exact h1 p0
      · rintro m H2 hm ⟨s2, ns, hns, okn, evn⟩
        have fo2 := I.fo.same s2
        have row2 := r1.kt (KT.of s2)
        refine ⟨rfl, _, rfl, _, rfl, _, rfl, slA row2 hm fun H3 p3 s3 r3 => ?_⟩
        have fo3 := fo2.same s3
        refine ⟨_, rfl, rowd (hs.take (m + 1)), _, row_dp r3, .lst (SqL.of fo3.l) (fo_dp fo3.ok), rowd_shaped _ r3.str, fo_shaped fo3.ok, _, rfl, ?_⟩
        rw [fo_any fo3.ok r3]
        have evn0 : ns = [] := by
          rw [if_neg (fun h => absurd h.1 (by omega))] at evn
          exact List.map_eq_nil_iff.mp evn
        subst evn0
        by_cases c0 : lrv (hs.take (m + 1)) ∈ fs.map fun z => lrv z.2
        · rw [decide_eq_true c0]
          refine iteF ⟨s2.trans s3, [], s3 _ _ hns, (fun z hz => by cases hz), ?_⟩
          rw [if_neg]
          · rfl
          · rintro ⟨h0, h1⟩
            rw [h0, List.take_length] at c0
            exact h1 c0
        · rw [decide_eq_false c0]
          have hm1 : m + 1 = hs.length := by
            apply Classical.byContradiction
            intro h
            refine c0 ?_
            rw [evI, lrv_take, ev]
            exact M06.row_pre pc p0 (lcv g) (by rw [← ev, ln]; omega)
          refine iteT ⟨_, rfl, _, rfl, _, rfl, slA (row2.kt (KT.of s3)) hm fun H4 p4 s4 r4 => ?_⟩
          have hns4 := s4 _ _ (s3 _ _ hns)
          refine ⟨_, hns4, (by show 0 < sizeLine; decide), same_put (s2.trans (s3.trans s4)) hD2, [(p4, hs.take (m + 1))], by rw [upd_same]; rfl, fun z hz => ?_, ?_⟩
          · rw [List.mem_singleton.mp hz]
            exact r4.put (.inl ⟨_, hns4⟩)
          · rw [hm1, List.take_length] at c0 ⊢
            rw [if_pos ⟨rfl, c0⟩]
            rfl
      · rintro H2 ⟨s2, ns, hns, okn, evn⟩
        have fo2 := I.fo.same s2
        have hfs := fl i fs (by omega) evI
        have hnl : ns.length ≤ 1 := by
          have := congrArg List.length evn
          rw [List.length_map] at this
          rw [this]
          split
          · exact Nat.le_refl _
          · exact Nat.zero_le _
        refine ⟨f, D2, _, _, rfl, rfl, fo2.l, hns, ?_, fun f2 hf2 => ?_⟩
        · rw [List.length_map, List.length_map]
          exact Nat.le_trans (show fs.length + ns.length ≤ 100 by omega) (by decide)
        have s3 := Same.upd (o := .lst ((fs.map fun z => V.ref z.1) ++ ns.map fun z => V.ref z.1)) hf2
        have s13 := I.s.trans (s2.trans s3)
        refine kn _ f2 (fs ++ ns) _ ⟨s13, none_of (I.s.trans s2) hf2, I.ro.same (s2.trans s3), ⟨by rw [upd_same, List.map_append], fun z hz => ?_, ?_⟩, ?_⟩
        · rcases List.mem_append.mp hz with hz | hz
          · exact (fo2.ok z hz).kt (KT.of s3)
          · exact (okn z hz).kt (KT.of s3)
        · rw [List.map_append]
          exact List.mem_append_left _ I.fo.z
        · rw [List.map_append, evn, evI, tk]
          unfold M04.rows
          rw [← ev]
          by_cases c0 : lrv hs ∈ (M04.all ((gs.map lcv).take i)).rows
          · rw [if_neg fun h => h.2 c0, List.append_nil, if_pos c0]
          · rw [if_pos ⟨rfl, c0⟩, if_neg c0]
    refine ⟨by show 0 ≤ sizeLine; decide, fun p0 hp0 => ⟨by show 1 ≤ sizeLine; decide, fun f0 hf0 => ?_⟩⟩
    have s1 := Same.upd (o := .tup []) hp0
    have p1 : upd H p0 (.tup []) p0 = some (.tup []) := upd_same
    have f00 := none_of s1 hf0
    generalize upd H p0 (.tup []) = H1 at s1 p1 hf0 ⊢
    have s2 := Same.upd (o := .lst [.ref p0]) hf0
    have f2 : upd H1 f0 (.lst [.ref p0]) f0 = some (.lst [.ref p0]) := upd_same
    generalize upd H1 f0 (.lst [.ref p0]) = H2 at s2 f2 ⊢
    refine ⟨_, rfl, l, gs, n, rfl, hl.same (s1.trans s2), good, n1, n2, fun d H3 es s3 ro => ?_⟩
    rw [← hN] at ro
    refine ⟨by show 2 ≤ sizeLine; decide, fun tq htq => ⟨tq, _, rfl, SqT.of upd_same, rfl, _, _, rfl, _, _, rfl, rfl, ?_⟩⟩
    have s4 := Same.upd (o := .tup [.ref f0, .ref d]) htq
    have s13 := s1.trans (s2.trans (s3.trans s4))
    have ro4 := ro.same s4
    have f4 := s4 _ _ (s3 _ _ f2)
    have p4 := s4 _ _ (s3 _ _ (s2 _ _ p1))
    generalize upd H3 tq (.tup [.ref f0, .ref d]) = H4 at s4 s13 ro4 f4 p4 ⊢
    have mo0 : MoIX N H f0 d gs es 0 H4 [(p0, [])] := ⟨s13, f00, ro4, ⟨f4, fun z hz => by
      rw [List.mem_singleton] at hz
      subst hz
      exact ⟨p4, (fun g hg => by cases hg), Nat.zero_le _⟩, List.mem_singleton.mpr rfl⟩, rfl⟩
    refine ⟨_, rfl, l, rfl, ⟨_, SqL.of (s13 _ _ hl.l)⟩, for_list (K := K) (a := l) (xs := gs.map fun g => V.ref g.q) (fun i σ H' => ∃ (f : Addr) (v3 v4 : Option V) (fs : List (Addr × List Li)), σ = [some (.ref l), some (.ref f), some (.ref d), v3, v4, none] ∧ MoIX N H f d gs es i H' fs) ⟨_, _, _, _, rfl, mo0⟩ (fun i σ H' _ ⟨_, _, _, _, _, I⟩ => SqL.of (I.s _ _ hl.l)) ?_ ?_⟩
    · rintro i x σ H4 hx ⟨f, v3, v4, fs, rfl, I⟩
      obtain ⟨g, eg, rfl⟩ := map_at hx
      have c1 := I.s _ _ (hl.ok g (List.mem_of_getElem? eg)).1
      exact ⟨d, f, i, g, es, fs, v4, rfl, eg, c1, I, fun H'' f' fs' v4 I' => ⟨f', _, _, fs', rfl, I'⟩⟩
    · rintro σ H4 ⟨f, v3, v4, fs, rfl, I⟩
      have hev := I.ev
      rw [List.length_map, List.take_of_length_le (by rw [List.length_map]; exact Nat.le_refl _)] at hev
      have hfo := I.fo
      have hf0' := I.f0
      subst hN
      exact ⟨_, rfl, k f _ H4 I.s hfo hev hf0'⟩
end
end K34
set_option Elab.async false
set_option linter.all false
set_option maxRecDepth 100000
set_option maxHeartbeats 1000000
/-! text * int. -/
namespace Gd
open PySem PySem.Spec PyProof.Rows L2
variable {X : Cx}
theorem op_mulS : OpR X (binaryOp .Mult) (fun x y H Q => ∃ i j, x = .str i ∧ y = .int j ∧ MulOk i j ∧ Q (.str (Txt.mul i j)) H) := by
  intro pins s σ H x y v u Q I rx ry h
  obtain ⟨i, j, rfl, rfl, hz, q⟩ := h
  obtain ⟨t, rfl⟩ := rx
  obtain ⟨t', rfl⟩ := ry
  exact SB.mul hz fun t' tk => ⟨.str (Txt.mul i j), H, I.tok _, ⟨_, rfl⟩, q⟩
end Gd
set_option Elab.async false
set_option linter.all false
set_option maxRecDepth 100000
set_option maxHeartbeats 1000000
set_option exponentiation.threshold 100000
namespace K34
open PySem PySem.Spec PyProof.Rows L2 Fa Fb
abbrev sLam : Stmt := top 55
theorem scLam : FnScope ["_law_box_here", "_law_plain_here", "_law_top", "_law_bottom"] ["_law_box_here"] (defScope sLam) := ⟨rfl, rfl, rfl, by decide +kernel, rfl, by decide +kernel, by decide +kernel⟩

def spLam : Sp := fun vs H Q _ => ∃ (p : Addr) (n : Nat), vs = [.ref p] ∧ Box H p n ∧ n + 7 ≤ 1000000 ∧ ∀ r t u H', Kp p H H' → Box H' p (n + 7) → Fr 20 H' r t u → Q (.ref r) H'
def Pq (H : Hp) (x : V) : Prop := ∃ (a : Addr) (t b : Int), x = .ref a ∧ H a = some (.tup [.int t, .int b]) ∧ t.natAbs < 1000000 ∧ 1 ≤ b ∧ b ≤ 1000
def Pqs (H : Hp) (xs : List V) : Prop := ∀ x ∈ xs, Pq H x
theorem Pqs.kp {H H' : Hp} {p : Addr} {n : Nat} {xs : List V} (h : Pqs H xs) (b : Box H p n) (k : Kp p H H') : Pqs H' xs := fun x hx => by
  obtain ⟨a, t, c, e, ha, r⟩ := h x hx
  refine ⟨a, t, c, e, k _ _ (fun z => ?_) ha, r⟩
  obtain ⟨_, _, _, hp, _⟩ := b
  rw [z, hp] at ha
  cases ha
theorem Pqs.add {H : Hp} {xs : List V} {a : Addr} {t b : Int} (h : Pqs H xs) (ha : H a = none) (h1 : t.natAbs < 1000000) (h2 : 1 ≤ b) (h3 : b ≤ 1000) : Pqs (upd H a (.tup [.int t, .int b])) (xs ++ [.ref a]) := fun x hx => by
  rcases List.mem_append.mp hx with hx | hx
  · obtain ⟨a', t', c, e, ha', r⟩ := h x hx
    exact ⟨a', t', c, e, Same.upd ha _ _ ha', r⟩
  · rw [List.mem_singleton] at hx
    exact ⟨a, t, b, hx, upd_same, h1, h2, h3⟩
theorem atI_in {α : Type} {xs : List α} {z : Int} (h0 : 0 ≤ z) (h1 : z < (xs.length : Int)) : ∃ v, atI xs z = some v ∧ v ∈ xs := by
  obtain ⟨j, rfl⟩ := Int.eq_ofNat_of_zero_le h0
  have hj : j < xs.length := by omega
  exact ⟨xs[j], atI_nat (List.getElem?_eq_getElem hj), List.getElem_mem hj⟩
section
variable {P : Program} {w : World} {K : PySem.W.Frag} {mg : Str → Option Value} {base : Heap} {f fT fL : Addr} {fd fdT fdL : FuncData}
theorem ok_lam (F : FnP K "_law_amount" sLam f fd) (GT : Fn0 P w K mg base "_law_take" 1 ["_law_box_here", "_law_many"] spTake fT fdT) (LO : Fn P w K mg base "_law_lowest" 1 ["_law_top", "_law_bottom"] spLow fL fdL) : FnOk P w K mg base (L2.CX P w) 2 f fd ["_law_box_here"] spLam := by
  refine F.ok scLam (fun vs H Q E h => ?_) (fun cdv A outer s H vs Q E hr h => ?_)
  · obtain ⟨p, n, rfl, _⟩ := h
    rfl
  · obtain ⟨p, n, rfl, hb, hn, k⟩ := h
    have hr1 := hr.mono (show 1 ≤ 1 by decide)
    refine ⟨_, (pss_cons (ps_set (i := 1) scLam.nd rfl (Or.inl rfl) (pe_lst (pa_cons (pe_tup (pa_cons pe_int (pa_cons pe_int pa_nil))) (pa_cons (pe_tup (pa_cons pe_int (pa_cons pe_int pa_nil))) (pa_cons (pe_tup (pa_cons pe_int (pa_cons pe_int pa_nil))) (pa_cons (pe_tup (pa_cons (pe_op op_add pe_int (pe_call GT.ok hr1 rfl GT.g GT.k GT.b .nil pass0 (pa_cons (pv 0) (pa_cons pe_int pa_nil)))) (pa_cons pe_int pa_nil))) (pa_cons (pe_tup (pa_cons (pe_op op_add pe_int (pe_call GT.ok hr1 rfl GT.g GT.k GT.b .nil pass0 (pa_cons (pv 0) (pa_cons pe_int pa_nil)))) (pa_cons (pe_op op_add pe_int (pe_call GT.ok hr1 rfl GT.g GT.k GT.b .nil pass0 (pa_cons (pv 0) (pa_cons pe_int pa_nil)))) pa_nil))) (pa_cons (pe_tup (pa_cons pe_int (pa_cons pe_int pa_nil))) pa_nil))))))))
      (pss_cons (ps_set (i := 1) scLam.nd rfl (Or.inl rfl) (pe_op op_cat (pv 1) (pe_lst (pa_cons (pe_tup (pa_cons pe_int (pa_cons pe_int pa_nil))) (pa_cons (pe_tup (pa_cons (pe_op op_add pe_int (pe_call GT.ok hr1 rfl GT.g GT.k GT.b .nil pass0 (pa_cons (pv 0) (pa_cons pe_int pa_nil)))) (pa_cons (pe_op op_add pe_int (pe_call GT.ok hr1 rfl GT.g GT.k GT.b .nil pass0 (pa_cons (pv 0) (pa_cons pe_int pa_nil)))) pa_nil))) pa_nil)))))
      (pss_cons (ps_asg (pe_ix ix_list (pv 1) (pe_call GT.ok hr1 rfl GT.g GT.k GT.b .nil pass0 (pa_cons (pv 0) (pa_cons pe_int pa_nil))) (fun _ _ => rfl)) (pg_tup (by rfl) (pgs_cons (pg_name (i := 2) scLam.nd rfl (Or.inl rfl)) (pgs_cons (pg_name (i := 3) scLam.nd rfl (Or.inl rfl)) pgs_nil))))
      (pss_one (ps_ret (pe_call LO.ok hr1 rfl LO.g LO.k LO.b .nil passL (pa_cons (pe_op op_mulW (pe_ix ix_list (pe_lst (pa_cons pe_int (pa_cons pe_int (pa_cons (pe_op op_sub pe_int pe_int) pa_nil)))) (pe_call GT.ok hr1 rfl GT.g GT.k GT.b .nil pass0 (pa_cons (pv 0) (pa_cons pe_int pa_nil))) (fun _ _ => rfl)) (pv 2)) (pa_cons (pv 3) pa_nil)))))))), ?_⟩
    have e3 : ∀ z : Int, 0 ≤ z → z < 3 → ∃ sg : Int, atI [V.int 1, .int 1, .int (0 - 1)] z = some (.int sg) ∧ sg.natAbs = 1 := fun z h0 h1 => by
      have c : z = 0 ∨ z = 1 ∨ z = 2 := by omega
      rcases c with rfl | rfl | rfl
      · exact ⟨1, rfl, rfl⟩
      · exact ⟨1, rfl, rfl⟩
      · exact ⟨0 - 1, rfl, rfl⟩
    have P0 : Pqs H [] := fun x hx => by cases hx
    have K0 := Kp.refl p H
    have B0 := hb
    refine ⟨by show 2 ≤ sizeLine; decide, fun q1 h1 => ?_⟩
    have P1 := P0.add (t := 1) (b := 1) h1 (by decide) (by decide) (by decide)
    have K1 := K0.trans (Kp.same (Same.upd (o := .tup [.int (1), .int (1)]) h1))
    have B1 := B0.upd (o := .tup [.int (1), .int (1)]) h1
    generalize upd H q1 (.tup [.int (1), .int (1)]) = H1 at P1 K1 B1 ⊢
    refine ⟨by show 2 ≤ sizeLine; decide, fun q2 h2 => ?_⟩
    have P2 := P1.add (t := 2) (b := 1) h2 (by decide) (by decide) (by decide)
    have K2 := K1.trans (Kp.same (Same.upd (o := .tup [.int (2), .int (1)]) h2))
    have B2 := B1.upd (o := .tup [.int (2), .int (1)]) h2
    generalize upd H1 q2 (.tup [.int (2), .int (1)]) = H2 at P2 K2 B2 ⊢
    refine ⟨by show 2 ≤ sizeLine; decide, fun q3 h3 => ?_⟩
    have P3 := P2.add (t := 1) (b := 2) h3 (by decide) (by decide) (by decide)
    have K3 := K2.trans (Kp.same (Same.upd (o := .tup [.int (1), .int (2)]) h3))
    have B3 := B2.upd (o := .tup [.int (1), .int (2)]) h3
    generalize upd H2 q3 (.tup [.int (1), .int (2)]) = H3 at P3 K3 B3 ⊢
    refine ⟨_, rfl, p, 4, _, rfl, B3, by omega, by decide, by decide, fun z4 H4 y4 x4 B4 k4 => ?_⟩
    have K4 := K3.trans (Kp.but k4)
    have P4 := P3.kp B3 (Kp.but k4)
    refine ⟨_, _, rfl, rfl, ?_⟩
    refine ⟨by show 2 ≤ sizeLine; decide, fun q5 h5 => ?_⟩
    have P5 := P4.add (t := 1 + z4) (b := 1) h5 (by omega) (by decide) (by decide)
    have K5 := K4.trans (Kp.same (Same.upd (o := .tup [.int (1 + z4), .int (1)]) h5))
    have B5 := B4.upd (o := .tup [.int (1 + z4), .int (1)]) h5
    generalize upd H4 q5 (.tup [.int (1 + z4), .int (1)]) = H5 at P5 K5 B5 ⊢
    refine ⟨_, rfl, p, 9, _, rfl, B5, by omega, by decide, by decide, fun z6 H6 y6 x6 B6 k6 => ?_⟩
    have K6 := K5.trans (Kp.but k6)
    have P6 := P5.kp B5 (Kp.but k6)
    refine ⟨_, _, rfl, rfl, ?_⟩
    refine ⟨_, rfl, p, 6, _, rfl, B6, by omega, by decide, by decide, fun z7 H7 y7 x7 B7 k7 => ?_⟩
    have K7 := K6.trans (Kp.but k7)
    have P7 := P6.kp B6 (Kp.but k7)
    refine ⟨_, _, rfl, rfl, ?_⟩
    refine ⟨by show 2 ≤ sizeLine; decide, fun q8 h8 => ?_⟩
    have P8 := P7.add (t := 1 + z6) (b := 1 + z7) h8 (by omega) (by omega) (by omega)
    have K8 := K7.trans (Kp.same (Same.upd (o := .tup [.int (1 + z6), .int (1 + z7)]) h8))
    have B8 := B7.upd (o := .tup [.int (1 + z6), .int (1 + z7)]) h8
    generalize upd H7 q8 (.tup [.int (1 + z6), .int (1 + z7)]) = H8 at P8 K8 B8 ⊢
    refine ⟨by show 2 ≤ sizeLine; decide, fun q9 h9 => ?_⟩
    have P9 := P8.add (t := 0) (b := 1) h9 (by decide) (by decide) (by decide)
    have K9 := K8.trans (Kp.same (Same.upd (o := .tup [.int (0), .int (1)]) h9))
    have B9 := B8.upd (o := .tup [.int (0), .int (1)]) h9
    generalize upd H8 q9 (.tup [.int (0), .int (1)]) = H9 at P9 K9 B9 ⊢
    refine ⟨by show 6 ≤ sizeLine; decide, fun la hla => ?_⟩
    have nla : la ≠ p := (B9.ne hla).symm
    have sla := Same.upd (o := .lst [.ref q1, .ref q2, .ref q3, .ref q5, .ref q8, .ref q9]) hla
    have K10 := K9.trans (Kp.same sla)
    have B10 := B9.sm sla
    have P10 := P9.kp B9 (Kp.same sla)
    have ela10 : upd H9 la (.lst [.ref q1, .ref q2, .ref q3, .ref q5, .ref q8, .ref q9]) la = some (.lst [.ref q1, .ref q2, .ref q3, .ref q5, .ref q8, .ref q9]) := upd_same
    generalize upd H9 la (.lst [.ref q1, .ref q2, .ref q3, .ref q5, .ref q8, .ref q9]) = H10 at K10 B10 P10 sla ela10 ⊢
    refine ⟨_, rfl, ?_⟩
    refine ⟨by show 2 ≤ sizeLine; decide, fun q11 h11 => ?_⟩
    have P11 := P10.add (t := 3) (b := 2) h11 (by decide) (by decide) (by decide)
    have K11 := K10.trans (Kp.same (Same.upd (o := .tup [.int (3), .int (2)]) h11))
    have B11 := B10.upd (o := .tup [.int (3), .int (2)]) h11
    have ela11 := Same.upd (o := .tup [.int (3), .int (2)]) h11 _ _ ela10
    generalize upd H10 q11 (.tup [.int (3), .int (2)]) = H11 at P11 K11 B11 ela11 ⊢
    refine ⟨_, rfl, p, 1000, _, rfl, B11, by omega, by decide, by decide, fun z12 H12 y12 x12 B12 k12 => ?_⟩
    have K12 := K11.trans (Kp.but k12)
    have P12 := P11.kp B11 (Kp.but k12)
    have ela12 := (k12 la nla).trans ela11
    refine ⟨_, _, rfl, rfl, ?_⟩
    refine ⟨_, rfl, p, 1000, _, rfl, B12, by omega, by decide, by decide, fun z13 H13 y13 x13 B13 k13 => ?_⟩
    have K13 := K12.trans (Kp.but k13)
    have P13 := P12.kp B12 (Kp.but k13)
    have ela13 := (k13 la nla).trans ela12
    refine ⟨_, _, rfl, rfl, ?_⟩
    refine ⟨by show 2 ≤ sizeLine; decide, fun q14 h14 => ?_⟩
    have P14 := P13.add (t := 1 + z12) (b := 1 + z13) h14 (by omega) (by omega) (by omega)
    have K14 := K13.trans (Kp.same (Same.upd (o := .tup [.int (1 + z12), .int (1 + z13)]) h14))
    have B14 := B13.upd (o := .tup [.int (1 + z12), .int (1 + z13)]) h14
    have ela14 := Same.upd (o := .tup [.int (1 + z12), .int (1 + z13)]) h14 _ _ ela13
    generalize upd H13 q14 (.tup [.int (1 + z12), .int (1 + z13)]) = H14 at P14 K14 B14 ela14 ⊢
    refine ⟨by show 2 ≤ sizeLine; decide, fun lb hlb => ?_⟩
    have nlb : lb ≠ p := (B14.ne hlb).symm
    have slb := Same.upd (o := .lst [.ref q11, .ref q14]) hlb
    have K15 := K14.trans (Kp.same slb)
    have B15 := B14.sm slb
    have P15 := P14.kp B14 (Kp.same slb)
    have elb15 : upd H14 lb (.lst [.ref q11, .ref q14]) lb = some (.lst [.ref q11, .ref q14]) := upd_same
    have ela15 := slb _ _ ela14
    generalize upd H14 lb (.lst [.ref q11, .ref q14]) = H15 at K15 B15 P15 slb elb15 ela15 ⊢
    refine ⟨la, lb, _, _, rfl, rfl, ela15, elb15, by show 6 + 2 ≤ sizeLine; decide, fun l3 hl3 => ?_⟩
    have s16 := Same.upd (o := .lst ([V.ref q1, V.ref q2, V.ref q3, V.ref q5, V.ref q8, V.ref q9] ++ [V.ref q11, V.ref q14])) hl3
    have K16 := K15.trans (Kp.same s16)
    have B16 := B15.sm s16
    have P16 := P15.kp B15 (Kp.same s16)
    have n3 : l3 ≠ p := (B15.ne hl3).symm
    have e16 : upd H15 l3 (.lst ([V.ref q1, V.ref q2, V.ref q3, V.ref q5, V.ref q8, V.ref q9] ++ [V.ref q11, V.ref q14])) l3 = some (.lst ([V.ref q1, V.ref q2, V.ref q3, V.ref q5, V.ref q8, V.ref q9] ++ [V.ref q11, V.ref q14])) := upd_same
    generalize upd H15 l3 (.lst ([V.ref q1, V.ref q2, V.ref q3, V.ref q5, V.ref q8, V.ref q9] ++ [V.ref q11, V.ref q14])) = H16 at s16 K16 B16 P16 e16 ⊢
    refine ⟨_, rfl, _, rfl, p, 8, _, rfl, B16, by omega, by decide, by decide, fun z17 H17 y17 x17 B17 k17 => ?_⟩
    have K17 := K16.trans (Kp.but k17)
    have P17 := P16.kp B16 (Kp.but k17)
    have e17 := (k17 l3 n3).trans e16
    obtain ⟨v, ev, mv⟩ := atI_in (xs := ([V.ref q1, V.ref q2, V.ref q3, V.ref q5, V.ref q8, V.ref q9] ++ [V.ref q11, V.ref q14])) y17 x17
    obtain ⟨a, t, b, rfl, ha, ht, b1, b2⟩ := P17 v mv
    refine ⟨l3, _, _, _, rfl, rfl, SqL.of e17, ev, a, _, rfl, SqT.of ha, rfl, _, _, rfl, _, _, rfl, rfl, ?_⟩
    refine ⟨_, _, rfl, rfl, by show 3 ≤ sizeLine; decide, fun l0 hl0 => ?_⟩
    have s18 := Same.upd (o := .lst [.int 1, .int 1, .int (0 - 1)]) hl0
    have e18 : upd H17 l0 (.lst [.int 1, .int 1, .int (0 - 1)]) l0 = some (.lst [.int 1, .int 1, .int (0 - 1)]) := upd_same
    have n0 : l0 ≠ p := (B17.ne hl0).symm
    have B18 := B17.sm s18
    generalize upd H17 l0 (.lst [.int 1, .int 1, .int (0 - 1)]) = H18 at s18 e18 B18 ⊢
    refine ⟨_, rfl, p, 3, _, rfl, B18, by omega, by decide, by decide, fun z19 H19 y19 x19 B19 k19 => ?_⟩
    obtain ⟨sg, es, hsg⟩ := e3 z19 y19 x19
    refine ⟨l0, _, _, _, rfl, rfl, SqL.of ((k19 l0 n0).trans e18), es, _, rfl, _, _, rfl, rfl, ?_, _, rfl, ?_⟩
    · exact mulW_of (n := 1) (m := 20) (by omega) (by omega) (by decide)
    · refine ⟨_, _, rfl, by omega, Nat.lt_of_le_of_lt (show b.natAbs ≤ 1000 by omega) (Nat.lt_of_lt_of_le (show 1000 < 2 ^ 10 by decide) (Nat.pow_le_pow_right (by decide) (by decide))), fun r t' u' hr0 rd _ hl hb => ?_⟩
      have e1 : (sg * t).natAbs = t.natAbs := by rw [Int.natAbs_mul, hsg, Nat.one_mul]
      exact k r t' u' _ (K17.trans (((Kp.same s18).trans (Kp.but k19)).trans (Kp.same (Same.upd hr0)))) ((B19.upd hr0).mono (by omega)) ⟨upd_same, rd, by omega, by omega⟩
end
end K34
set_option Elab.async false
set_option linter.all false
set_option maxRecDepth 100000
set_option maxHeartbeats 1000000
set_option exponentiation.threshold 100000
namespace K34
open PySem PySem.Spec PyProof.Rows L2 Fa Fb
abbrev sLcu : Stmt := top 59
theorem scLcu : FnScope ["_law_box_here", "_law_limit", "_law_most_cues", "_law_cues_here", "_law_stem", "_law_k", "_law_names", "_law_parent", "_law_unit", "_law_amount_here", "_law_other", "_law_name", "_law_more", "_law_cue"] ["_law_box_here", "_law_limit", "_law_most_cues"] (defScope sLcu) := ⟨rfl, rfl, rfl, by decide +kernel, rfl, by decide +kernel, by decide +kernel⟩

/-! ### labels -/
abbrev cl (z : Str) : List Nat := z.cps.toList
theorem let_list : cl LET = List.range' 97 26 := by decide +kernel
theorem dig_list : cl DIG = List.range' 48 10 := by decide +kernel
theorem mem_let {c : Nat} : c ∈ cl LET ↔ 97 ≤ c ∧ c < 123 := by
  rw [let_list, List.mem_range'_1]
theorem mem_dig {c : Nat} : c ∈ cl DIG ↔ 48 ≤ c ∧ c < 58 := by
  rw [dig_list, List.mem_range'_1]
theorem cl_app (a b : Str) : cl (a ++ b) = cl a ++ cl b := by
  show (a.cps ++ b.cps).toList = _
  simp
theorem cl_ext {a b : Str} (h : cl a = cl b) : a = b := by
  cases a
  cases b
  congr 1
  exact Array.toList_inj.mp h
theorem len_cl (z : Str) : z.length = (cl z).length := by
  show z.cps.size = _
  simp
def Low (c : Nat) : Prop := 97 ≤ c ∧ c < 123
def Dg (c : Nat) : Prop := 48 ≤ c ∧ c < 58
theorem isName_of {z : Str} {c : Nat} {r : List Nat} (h : cl z = c :: r) (l : Low c) (a : ∀ x ∈ r, Low x ∨ Dg x) (n : r.length ≤ 7) : isName z = true := by
  unfold isName
  have h1 : z.length = r.length + 1 := by rw [len_cl, h]; rfl
  have h' : z.cps.toList = c :: r := h
  rw [h1, decide_eq_true (by omega), decide_eq_true (by omega), h']
  show (true && true && (decide (c ∈ LET.cps.toList) && only z (LET ++ DIG))) = true
  rw [decide_eq_true (mem_let.mpr l)]
  show only z (LET ++ DIG) = true
  unfold only
  rw [h', List.all_eq_true]
  intro x hx
  refine decide_eq_true ?_
  show x ∈ cl (LET ++ DIG)
  rw [cl_app, List.mem_append, mem_let, mem_dig]
  rcases List.mem_cons.mp hx with e | m
  · rw [e]; exact .inl l
  · exact a x m
theorem isName_str {z : Str} (h : isName z = true) : PyData.strOk z = true := by
  unfold isName at h
  rw [Bool.and_eq_true, Bool.and_eq_true] at h
  have h2 := h.2
  rw [Bool.and_eq_true] at h2
  have o := h2.2
  unfold only at o
  rw [List.all_eq_true] at o
  unfold PyData.strOk
  rw [← Array.all_toList, List.all_eq_true]
  intro x hx
  have := of_decide_eq_true (o x hx)
  have this : x ∈ cl (LET ++ DIG) := this
  rw [cl_app, List.mem_append, mem_let, mem_dig] at this
  exact decide_eq_true (by omega)
/-- names of cues: valid, no two the same, none of two words -/
structure Lb (zs : List Str) : Prop where
  nd : zs.Nodup
  ok : ∀ z ∈ zs, isName z = true ∧ z ≠ "start" ∧ z ≠ "zz9zz"
def stems : List Str := ["c", "x1", "beats"]
/-- the name of the cue of number k -/
def nmz (st : Str) (k : Nat) : Str := if st = "c" then Txt.mul "c" ((k : Int) + 1) else st ++ Str.ofString (toString (k : Int))
def nmL (st : Str) : List Str := (List.range 8).map (nmz st)
theorem nmz_all : ∀ st ∈ stems, (nmL st).Nodup ∧ ∀ z ∈ nmL st, isName z = true ∧ z ≠ "start" ∧ z ≠ "zz9zz" := by decide +kernel
theorem nmz_lb (st : Str) (h : st ∈ stems) : Lb (nmL st) := ⟨(nmz_all st h).1, (nmz_all st h).2⟩
theorem mul_ok : ∀ i : Nat, i < 8 → MulOk "c" ((i : Int) + 1) := fun i hi => by
  refine ⟨?_, fun _ _ => ?_, fun _ _ => ?_⟩
  · rw [decide_eq_false (by omega), decide_eq_false (by omega)]
    rfl
  · have h1 : (Str.length ("c" : Str) : Int) = 1 := by decide +kernel
    rw [h1]
    have c : i = 0 ∨ i = 1 ∨ i = 2 ∨ i = 3 ∨ i = 4 ∨ i = 5 ∨ i = 6 ∨ i = 7 := by omega
    rcases c with rfl | rfl | rfl | rfl | rfl | rfl | rfl | rfl <;> decide
  · have h1 : Str.length ("c" : Str) = 1 := by decide +kernel
    rw [h1]
    have c : i = 0 ∨ i = 1 ∨ i = 2 ∨ i = 3 ∨ i = 4 ∨ i = 5 ∨ i = 6 ∨ i = 7 := by omega
    rcases c with rfl | rfl | rfl | rfl | rfl | rfl | rfl | rfl <;> decide +kernel
theorem st_len : ∀ st ∈ stems, st.length ≤ 5 := by decide +kernel
theorem dig_len : ∀ i : Nat, i < 8 → (Str.ofString (toString (i : Int))).length ≤ 2 := by decide +kernel
def GoodL (cs : List M04.Cue) : Prop := M04.Good cs ∧ ∀ c ∈ cs, isName c.nm = true ∧ c.nm ≠ "zz9zz" ∧ isUnit c.un = true
def spLcu : Sp := fun vs H Q _ => ∃ (p : Addr) (n lim most : Nat), vs = [.ref p, .int (lim : Int), .int (most : Int)] ∧ Box H p n ∧ n + 200 ≤ 1000000 ∧ 1 ≤ lim ∧ lim ≤ 8 ∧ most ≤ 7 ∧ ∀ l gs st H', Kp p H H' → Box H' p (n + 200) → LsC 20 H' l gs → gs.length ≤ most → GoodL (gs.map lcv) → (M04.all (gs.map lcv)).rows.length ≤ lim → st ∈ stems → (∀ g ∈ gs, g.nm ∈ (nmL st).take most) → H l = none → Q (.ref l) H'
/-- behind i names -/
structure LcI (H Hb : Hp) (p : Addr) (n lim : Nat) (zs : List Str) (i : Nat) (H' : Hp) (l : Addr) (gs : List Lc) : Prop where
  k : Kp p Hb H'
  kb : Kp p H Hb
  b : Box H' p (n + 10 + i * 13)
  ls : LsC 20 H' l gs
  le : gs.length ≤ i
  good : GoodL (gs.map lcv)
  rows : (M04.all (gs.map lcv)).rows.length ≤ lim
  new : H l = none
  sub : ∀ g ∈ gs, g.nm ∈ zs.take i
abbrev SLc (p : Addr) (lim most : Nat) (l : Addr) (st : Str) (i : Nat) (v6 v7 v8 v9 v10 v11 v12 : Option V) : L2.St := [some (.ref p), some (.int (lim : Int)), some (.int (most : Int)), some (.ref l), some (.str st), some (.int (i : Int)), v6, v7, v8, v9, v10, v11, v12, none]
def sLcuB (H : Hp) (p : Addr) (n lim most : Nat) : TS := fun D σ H' => ∃ (Hb : Hp) (st : Str) (l : Addr) (gs : List Lc) (i : Nat) (v6 v7 v8 v9 v10 v11 v12 : Option V), σ = SLc p lim most l st i v6 v7 v8 v9 v10 v11 v12 ∧ st ∈ stems ∧ i < 7 ∧ LcI H Hb p n lim (nmL st) i H' l gs ∧
  ∀ H'' l' gs' v6 v7 v8 v9 v10 v11 v12, LcI H Hb p n lim (nmL st) (i + 1) H'' l' gs' → D.nx (SLc p lim most l' st i v6 v7 v8 v9 v10 v11 v12) H''
def sLcuM (H : Hp) (p : Addr) (n lim most : Nat) : TS := fun D σ H' => ∃ (Hb : Hp) (st : Str) (l : Addr) (gs : List Lc) (i : Nat) (pa un : Str) (a : Addr) (t u : Int) (v6 v10 v11 v12 : Option V), σ = SLc p lim most l st i v6 (some (.str pa)) (some (.str un)) (some (.ref a)) v10 v11 v12 ∧ st ∈ stems ∧ i < 7 ∧ Kp p Hb H' ∧ Kp p H Hb ∧ Box H' p (n + 10 + (i + 1) * 13) ∧ LsC 20 H' l gs ∧ gs.length ≤ i ∧ GoodL (gs.map lcv) ∧ (M04.all (gs.map lcv)).rows.length ≤ lim ∧ H l = none ∧ (∀ g ∈ gs, g.nm ∈ (nmL st).take i) ∧
  pa ∈ ("start" : Str) :: (gs.map lcv).map (·.nm) ∧ isUnit un = true ∧ Fr 20 H' a t u ∧
  ∀ H'' l' gs' v11 v12, LcI H Hb p n lim (nmL st) (i + 1) H'' l' gs' → D.nx (SLc p lim most l' st i v6 (some (.str pa)) (some (.str un)) (some (.ref a)) v10 v11 v12) H''
def sLcuN (H : Hp) (p : Addr) (n lim most : Nat) : TS := fun D σ H' => ∃ (Hb : Hp) (st : Str) (l : Addr) (gs : List Lc) (i : Nat) (pa un : Str) (a : Addr) (t u : Int) (v6 v10 v12 : Option V), σ = SLc p lim most l st i v6 (some (.str pa)) (some (.str un)) (some (.ref a)) v10 (some (.str (nmz st i))) v12 ∧ st ∈ stems ∧ i < 7 ∧ Kp p Hb H' ∧ Kp p H Hb ∧ Box H' p (n + 10 + (i + 1) * 13) ∧ LsC 20 H' l gs ∧ gs.length ≤ i ∧ GoodL (gs.map lcv) ∧ (M04.all (gs.map lcv)).rows.length ≤ lim ∧ H l = none ∧ (∀ g ∈ gs, g.nm ∈ (nmL st).take i) ∧
  pa ∈ ("start" : Str) :: (gs.map lcv).map (·.nm) ∧ isUnit un = true ∧ Fr 20 H' a t u ∧
  ∀ H'' l' gs' v12, LcI H Hb p n lim (nmL st) (i + 1) H'' l' gs' → D.nx (SLc p lim most l' st i v6 (some (.str pa)) (some (.str un)) (some (.ref a)) v10 (some (.str (nmz st i))) v12) H''
theorem unit_ok {z : Str} (h : isUnit z = true) : PyData.strOk z = true := by
  unfold isUnit at h
  rw [Bool.or_eq_true] at h
  rcases h with h | h
  · rw [of_decide_eq_true h]; decide +kernel
  · rw [of_decide_eq_true h]; decide +kernel
theorem LsC.kp {n m : Nat} {H H' : Hp} {l p : Addr} {gs : List Lc} (h : LsC n H l gs) (b : Box H p m) (k : Kp p H H') (ne : l ≠ p) : LsC n H' l gs := ⟨k _ _ ne h.l, fun g hg => (h.ok g hg).kt (KT.kp b k), h.n⟩
section
variable {P : Program} {w : World} {K : PySem.W.Frag} {mg : Str → Option Value} {base : Heap} {f fT fL fA fM : Addr} {fd fdT fdL fdA fdM : FuncData}
theorem ok_lcu (F : FnP K "_law_cues" sLcu f fd) (mL : mg "len" = none) (mG : mg "range" = none) (mS : mg "str" = none) (GT : Fn0 P w K mg base "_law_take" 1 ["_law_box_here", "_law_many"] spTake fT fdT) (AM : Fn P w K mg base "_law_amount" 2 ["_law_box_here"] spLam fA fdA) (MO : Fn P w K mg base "_law_moments" 5 ["_law_cues_here"] (spMom K) fM fdM) :
    FnOk P w K mg base (L2.CX P w) 6 f fd ["_law_box_here", "_law_limit", "_law_most_cues"] spLcu := by
  refine F.ok scLcu (fun vs H Q E h => ?_) (fun cdv A outer s H vs Q E hr h => ?_)
  · obtain ⟨p, n, lim, most, rfl, _⟩ := h
    rfl
  · obtain ⟨p, n, lim, most, rfl, hb, hn, l1, l8, m7, k⟩ := h
    have hu : (A.deeper (envOfC "_law_cues" (defScope sLcu) s.heap.objs.size f cdv)).units + 64 < cLine := by
      have := hr.un
      omega
    have hr1 := hr.mono (show 1 ≤ 5 by decide)
    have hr2 := hr.mono (show 2 ≤ 5 by decide)
    have hr5 := hr.mono (show 5 ≤ 5 by decide)
    refine ⟨_, (pss_cons (ps_par (by rfl) scLcu.nd (i := 3) (j := 4) rfl rfl (by decide) rfl rfl (pa_cons (pe_lst pa_nil) (pa_cons (pe_ix ix_list (pe_lst (pa_cons pe_str (pa_cons pe_str (pa_cons pe_str pa_nil)))) (pe_call GT.ok hr1 rfl GT.g GT.k GT.b .nil pass0 (pa_cons (pv 0) (pa_cons pe_int pa_nil))) (fun _ _ => rfl)) pa_nil)) (by rfl))
      (pss_cons (ps_for (passes_of rfl) rfl (pi_range1 rfl mG (pa_cons (pe_call GT.ok hr1 rfl GT.g GT.k GT.b .nil pass0 (pa_cons (pv 0) (pa_cons (pe_op op_add (pv 2) pe_int) pa_nil))) pa_nil)) (pg_name (i := 5) scLcu.nd rfl (Or.inl rfl))
      (pss_imp (S := sLcuB H p n lim most) (pss_cons (ps_set (i := 6) scLcu.nd rfl (Or.inl rfl) (pe_op op_cat (pe_lst (pa_cons pe_str pa_nil)) (pe_lc (own := [("_law_cue", 13)]) (g := gName 13) (te := tOp (rIxT K) (tVar 13) (tC (.int 0))) (by rfl) scLcu.nd (pi_list (pv 3)) (blkOk_by (own := [("_law_cue", 13)]) (N := ["_law_box_here", "_law_limit", "_law_most_cues", "_law_cues_here", "_law_stem", "_law_k", "_law_names", "_law_parent", "_law_unit", "_law_amount_here", "_law_other", "_law_name", "_law_more", "_law_cue"]) (sc := defScope sLcu) (by decide +kernel)) (fun _ _ _ _ _ => (pg_name (i := 13) scLcu.nd rfl (Or.inl rfl))) (fun _ _ _ _ _ => pts_nil) (fun _ _ _ _ _ => (pe_ix ix_tup (pv 13) pe_int (fun _ _ => rfl))))))
      (pss_cons (ps_set (i := 7) scLcu.nd rfl (Or.inl rfl) (pe_ix ix_list (pe_lst (pa_cons (pe_ix ix_list (pv 6) (pe_call GT.ok hr1 rfl GT.g GT.k GT.b .nil pass0 (pa_cons (pv 0) (pa_cons (pe_callB call_len rfl mL PySem.boot_len (pa_cons (pv 6) pa_nil)) pa_nil))) (fun _ _ => rfl)) (pa_cons (pe_ix ix_list (pv 6) (pe_un un_neg pe_int) (fun _ _ => rfl)) pa_nil))) (pe_call GT.ok hr1 rfl GT.g GT.k GT.b .nil pass0 (pa_cons (pv 0) (pa_cons pe_int pa_nil))) (fun _ _ => rfl)))
      (pss_cons (ps_par (by rfl) scLcu.nd (i := 8) (j := 9) rfl rfl (by decide) rfl rfl (pa_cons (pe_ix ix_list (pe_lst (pa_cons pe_str (pa_cons pe_str pa_nil))) (pe_call GT.ok hr1 rfl GT.g GT.k GT.b .nil pass0 (pa_cons (pv 0) (pa_cons pe_int pa_nil))) (fun _ _ => rfl)) (pa_cons (pe_call AM.ok hr2 rfl AM.g AM.k AM.b .nil passL (pa_cons (pv 0) pa_nil)) pa_nil)) (by rfl))
      (pss_cons (ps_if (PW.pt (pw_and (pt_cmpR (Fk.op_neNil hu) (pv 3) (pe_lst pa_nil) (nomark _)) (pw_and1 (pt_cmpR op_eq (pe_call GT.ok hr1 rfl GT.g GT.k GT.b .nil pass0 (pa_cons (pv 0) (pa_cons pe_int pa_nil))) pe_int (nomark _))))) (pss_cons (ps_set (i := 10) scLcu.nd rfl (Or.inl rfl) (pe_ix ix_list (pv 3) (pe_call GT.ok hr1 rfl GT.g GT.k GT.b .nil pass0 (pa_cons (pv 0) (pa_cons (pe_callB call_len rfl mL PySem.boot_len (pa_cons (pv 3) pa_nil)) pa_nil))) (fun _ _ => rfl)))
      (pss_one (ps_par (by rfl) scLcu.nd (i := 8) (j := 9) rfl rfl (by decide) rfl rfl (pa_cons (pe_ix ix_tup (pv 10) pe_int (fun _ _ => rfl)) (pa_cons (pe_ix ix_list (pe_lst (pa_cons (pe_tup (pa_cons (pe_op op_sub pe_int (pe_ix ix_tup (pe_ix ix_tup (pv 10) pe_int (fun _ _ => rfl)) pe_int (fun _ _ => rfl))) (pa_cons (pe_ix ix_tup (pe_ix ix_tup (pv 10) pe_int (fun _ _ => rfl)) pe_int (fun _ _ => rfl)) pa_nil))) (pa_cons (pe_ix ix_tup (pv 10) pe_int (fun _ _ => rfl)) pa_nil))) (pe_call GT.ok hr1 rfl GT.g GT.k GT.b .nil pass0 (pa_cons (pv 0) (pa_cons pe_int pa_nil))) (fun _ _ => rfl)) pa_nil)) (by rfl)))) pss_nil)
      (pss_imp (S := sLcuM H p n lim most) (pss_cons (ps_set (i := 11) scLcu.nd rfl (Or.inl rfl) (pe_ifExp (pt_cmpR op_eq (pv 4) pe_str (nomark _)) (pe_op Gd.op_mulS pe_str (pe_op op_add (pv 5) pe_int)) (pe_op op_add_str (pv 4) (pe_callTy call_str_int rfl mS boot_str (pa_cons (pv 5) pa_nil)))))
      (pss_imp (S := sLcuN H p n lim most) (pss_cons (ps_set (i := 12) scLcu.nd rfl (Or.inl rfl) (pe_op op_cat (pv 3) (pe_lst (pa_cons (pe_tup (pa_cons (pv 11) (pa_cons (pv 7) (pa_cons (pv 8) (pa_cons (pv 9) pa_nil))))) pa_nil))))
      (pss_one (ps_set (i := 3) scLcu.nd rfl (Or.inl rfl) (pe_ifExp (pt_cmpR op_le (pe_callB call_len rfl mL PySem.boot_len (pa_cons (pe_call MO.ok hr5 rfl MO.g MO.k MO.b .nil passL (pa_cons (pv 12) pa_nil)) pa_nil)) (pv 1) (nomark _)) (pv 12) (pv 3))))) ?more)) ?name))))) ?body))
      (pss_one (ps_ret (pv 3))))), ?_⟩
    case name =>
      rintro D σ H1 ⟨Hb, st, l, gs, i, pa, un, a, t, u, v6, v10, v11, v12, rfl, hst, hi, kp, kb, bx, ls, le, gd, rw8, new, sub, hpa, hun, fr, kn⟩
      have go : sLcuN H p n lim most D (SLc p lim most l st i v6 (some (.str pa)) (some (.str un)) (some (.ref a)) v10 (some (.str (nmz st i))) v12) H1 := ⟨Hb, st, l, gs, i, pa, un, a, t, u, v6, v10, v12, rfl, hst, hi, kp, kb, bx, ls, le, gd, rw8, new, sub, hpa, hun, fr, fun H'' l' gs' v12' I' => kn H'' l' gs' _ v12' I'⟩
      refine ⟨_, rfl, rfl, _, rfl, ?_⟩
      by_cases c : st = "c"
      · refine if_true_of (decide_eq_true (congrArg V.str c)) ?_
        refine ⟨_, rfl, _, _, rfl, rfl, _, _, rfl, rfl, mul_ok i (by omega), ?_⟩
        unfold nmz at go
        rw [if_pos c] at go
        exact go
      · refine if_false_of (decide_eq_false fun e => c (V.str.inj e)) ?_
        refine ⟨_, rfl, _, rfl, _, rfl, Nat.lt_of_le_of_lt (Nat.log2_le_self _) (by omega), _, _, rfl, rfl, ?_, ?_⟩
        · have h1 := st_len st hst
          have h2 := dig_len i (by omega)
          exact Nat.le_trans (Nat.add_le_add h1 h2) (by decide)
        · unfold nmz at go
          rw [if_neg c] at go
          exact go
    case more =>
      rintro D σ H1 ⟨Hb, st, l, gs, i, pa, un, a, t, u, v6, v10, v12, rfl, hst, hi, kp, kb, bx, ls, le, gd, rw8, new, sub, hpa, hun, fr, kn⟩
      have lb := nmz_lb st hst
      have enm : (nmL st)[i]? = some (nmz st i) := by
        unfold nmL
        rw [List.getElem?_map, List.getElem?_range (by omega)]
        rfl
      generalize nmz st i = nm at enm kn ⊢
      generalize nmL st = zs at enm lb sub kn ⊢
      obtain ⟨nm1, nm2, nm3⟩ := lb.ok nm (List.mem_of_getElem? enm)
      have nin : ∀ g ∈ gs, g.nm ≠ nm := fun g hg e => by
        have h1 := sub g hg
        rw [e] at h1
        obtain ⟨j, hj⟩ := List.getElem?_of_mem h1
        have hji : j < i := by
          have := (List.getElem?_eq_some_iff.mp hj).1
          rw [List.length_take] at this
          omega
        rw [List.getElem?_take_of_lt hji] at hj
        obtain ⟨h3, h4⟩ := List.getElem?_eq_some_iff.mp hj
        obtain ⟨h5, h6⟩ := List.getElem?_eq_some_iff.mp enm
        have := (List.nodup_iff_pairwise_ne.mp lb.nd)
        rw [List.pairwise_iff_getElem] at this
        exact this j i h3 h5 hji (h4.trans h6.symm)
      refine ⟨_, rfl, _, rfl, _, rfl, _, rfl, _, rfl, by show 4 ≤ sizeLine; decide, fun q hq => ⟨by show 1 ≤ sizeLine; decide, fun l2 hl2 => ?_⟩⟩
      have s2 := Same.upd (o := .tup [.str nm, .str pa, .str un, .ref a]) hq
      have q2 : upd H1 q (.tup [.str nm, .str pa, .str un, .ref a]) q = some (.tup [.str nm, .str pa, .str un, .ref a]) := upd_same
      generalize upd H1 q (.tup [.str nm, .str pa, .str un, .ref a]) = H2 at s2 q2 hl2 ⊢
      have s3 := Same.upd (o := .lst [.ref q]) hl2
      have l3 : upd H2 l2 (.lst [.ref q]) l2 = some (.lst [.ref q]) := upd_same
      generalize upd H2 l2 (.lst [.ref q]) = H3 at s3 l3 ⊢
      have s13 := s2.trans s3
      refine ⟨l, l2, _, _, rfl, rfl, s13 _ _ ls.l, l3, ?_, fun l4 hl4 => ?_⟩
      · rw [List.length_map]
        exact Nat.le_trans (show gs.length + 1 ≤ 100 by omega) (by decide)
      have s4 := Same.upd (o := .lst ((gs.map fun g => V.ref g.q) ++ [.ref q])) hl4
      have n4 : upd H3 l4 (.lst ((gs.map fun g => V.ref g.q) ++ [.ref q])) l4 = some (.lst ((gs.map fun g => V.ref g.q) ++ [.ref q])) := upd_same
      have hl40 : H l4 = none := kb.no (bx.ne (none_of s13 hl4)).symm (kp.no (bx.ne (none_of s13 hl4)).symm (none_of s13 hl4))
      generalize upd H3 l4 (.lst ((gs.map fun g => V.ref g.q) ++ [.ref q])) = H4 at s4 n4 ⊢
      have s14 := s13.trans s4
      have mnm : ∀ x ∈ (gs.map lcv).map (·.nm), ∃ g ∈ gs, g.nm = x := fun x hx => by
        obtain ⟨c, hc, e⟩ := List.mem_map.mp hx
        obtain ⟨g, hg, e2⟩ := List.mem_map.mp hc
        exact ⟨g, hg, by rw [← e, ← e2]; rfl⟩
      have pas : PyData.strOk pa = true := by
        rcases List.mem_cons.mp hpa with e | m
        · rw [e]; decide +kernel
        · obtain ⟨g, hg, e⟩ := mnm pa m
          rw [← e]
          exact isName_str (gd.2 (lcv g) (List.mem_map.mpr ⟨g, hg, rfl⟩)).1
      have ls4 : LsC 20 H4 l4 (gs ++ [⟨q, a, nm, pa, un, t, u⟩]) := ⟨by rw [n4, List.map_append]; rfl, fun g hg => by
        rcases List.mem_append.mp hg with hg | hg
        · exact (ls.ok g hg).kt (KT.of s14)
        · rw [List.mem_singleton] at hg
          rw [hg]
          exact ⟨s4 _ _ (s3 _ _ q2), fr.kt (KT.of s14), isName_str nm1, pas, unit_ok hun⟩, by rw [List.length_append]; show gs.length + 1 ≤ 14; omega⟩
      have gd4 : GoodL ((gs ++ [(⟨q, a, nm, pa, un, t, u⟩ : Lc)]).map lcv) := by
        rw [List.map_append]
        refine ⟨M04.good_snoc gd.1 (fun hm => ?_) hpa, fun c hc => ?_⟩
        · rcases List.mem_cons.mp hm with e | m
          · exact nm2 e
          · obtain ⟨g, hg, e⟩ := mnm _ m
            exact nin g hg e
        · rcases List.mem_append.mp hc with hc | hc
          · exact gd.2 c hc
          · have : c = lcv ⟨q, a, nm, pa, un, t, u⟩ := List.mem_singleton.mp hc
            rw [this]
            exact ⟨nm1, nm3, hun⟩
      refine ⟨_, rfl, l4, gs ++ [⟨q, a, nm, pa, un, t, u⟩], 20, rfl, ls4, gd4.1, by decide, by decide, fun p2 xs H5 s5 fo ev _ => ?_⟩
      have lnx : xs.length = (M04.all ((gs ++ [(⟨q, a, nm, pa, un, t, u⟩ : Lc)]).map lcv)).rows.length := by rw [← ev, List.length_map]
      refine ⟨_, _, rfl, .inl ⟨_, SqL.of fo.l, rfl⟩, _, rfl, _, _, rfl, rfl, _, rfl, ?_⟩
      have s15 := s14.trans s5
      have sub4 : ∀ g ∈ gs, g.nm ∈ zs.take (i + 1) := fun g hg => by
        have := sub g hg
        exact List.mem_of_mem_take (i := i) (by rw [List.take_take, Nat.min_eq_left (Nat.le_succ i)]; exact this)
      by_cases c : xs.length ≤ lim
      · refine if_true_of (decide_eq_true (by rw [List.length_map]; omega)) ⟨_, rfl, ?_⟩
        refine kn H5 l4 (gs ++ [⟨q, a, nm, pa, un, t, u⟩]) _ ⟨kp.trans (Kp.same s15), kb, bx.sm s15, ls4.same s5, by rw [List.length_append]; show gs.length + 1 ≤ i + 1; omega, gd4, by omega, hl40, fun g hg => ?_⟩
        rcases List.mem_append.mp hg with hg | hg
        · exact sub4 g hg
        · rw [List.mem_singleton] at hg
          rw [hg, List.take_add_one, enm]
          exact List.mem_append_right _ (List.mem_singleton.mpr rfl)
      · refine if_false_of (decide_eq_false (by rw [List.length_map]; omega)) ⟨_, rfl, ?_⟩
        exact kn H5 l gs _ ⟨kp.trans (Kp.same s15), kb, bx.sm s15, ls.same s15, by omega, gd, rw8, new, sub4⟩
    case body =>
      rintro D σ H1 ⟨Hb, st, l, gs, i, v6, v7, v8, v9, v10, v11, v12, rfl, hst, hi, I, kn⟩
      have lp : l ≠ p := (hb.ne I.new).symm
      refine ⟨by show 1 ≤ sizeLine; decide, fun la hla => ?_⟩
      have K2 := I.k.trans (Kp.same (Same.upd (o := .lst [.str "start"]) hla))
      have B2 := I.b.upd (o := .lst [.str "start"]) hla
      have L2_ := I.ls.same (Same.upd (o := .lst [.str "start"]) hla)
      have A2 : upd H1 la (.lst [.str "start"]) la = some (.lst [.str "start"]) := upd_same
      generalize upd H1 la (.lst [.str "start"]) = H2 at K2 B2 L2_ A2 ⊢
      refine ⟨_, rfl, l, rfl, ⟨_, SqL.of L2_.l⟩, fun D2 hD2 => ?_⟩
      refine lc_list (K := K) (a := l) (xs := gs.map fun g => V.ref g.q) (fun j H' => Same H2 H' ∧ H' D2 = some (.lst ((gs.take j).map fun g => V.str g.nm))) ⟨Same.upd hD2, upd_same⟩ (fun j H' _ ⟨s, _⟩ => SqL.of (s _ _ L2_.l)) ?_ ?_
      · rintro j x H3 hx ⟨s3, ha⟩
        obtain ⟨g, eg, rfl⟩ := map_at hx
        have hj := (List.getElem?_eq_some_iff.mp eg).1
        refine ⟨rfl, _, rfl, g.q, _, 0, _, rfl, rfl, SqT.of (s3 _ _ (L2_.ok g (List.mem_of_getElem? eg)).1), rfl, _, ha, ?_, same_put s3 hD2, ?_⟩
        · rw [List.length_map, List.length_take]
          exact Nat.lt_of_lt_of_le (show min j gs.length < 100 by have := L2_.n; omega) (by decide)
        · rw [upd_same, List.take_add_one, eg, List.map_append]
          rfl
      · rintro H3 ⟨s3, ha⟩
        rw [List.length_map, List.take_length] at ha
        have h14 := L2_.n
        refine ⟨la, D2, _, _, rfl, rfl, s3 _ _ A2, ha, ?_, fun lk hlk => ?_⟩
        · rw [List.length_map]
          exact Nat.le_trans (show 1 + gs.length ≤ 100 by omega) (by decide)
        have s4 := Same.upd (o := .lst ([.str "start"] ++ (gs.map fun g => V.str g.nm))) hlk
        have KN : upd H3 lk (.lst ([.str "start"] ++ (gs.map fun g => V.str g.nm))) lk = some (.lst (.str "start" :: gs.map fun g => V.str g.nm)) := upd_same
        have K4 := K2.trans (Kp.same (s3.trans s4))
        have B4 := (B2.sm s3).sm s4
        have L4 := L2_.same (s3.trans s4)
        generalize upd H3 lk (.lst ([.str "start"] ++ (gs.map fun g => V.str g.nm))) = H4 at K4 B4 L4 KN ⊢
        have lkp : lk ≠ p := fun e => by
          obtain ⟨_, _, _, hp, _⟩ := B2.sm s3
          rw [← e, hlk] at hp
          cases hp
        have ksl : (V.str "start" :: gs.map fun g => V.str g.nm).length = gs.length + 1 := by rw [List.length_cons, List.length_map]
        have kin : ∀ v ∈ (V.str "start" :: gs.map fun g => V.str g.nm), ∃ z : Str, v = .str z ∧ z ∈ ("start" : Str) :: (gs.map lcv).map (·.nm) := fun v hv => by
          rcases List.mem_cons.mp hv with e | m
          · exact ⟨_, e, List.mem_cons_self⟩
          · obtain ⟨g, hg, e⟩ := List.mem_map.mp m
            exact ⟨g.nm, e.symm, List.mem_cons_of_mem _ (List.mem_map.mpr ⟨lcv g, List.mem_map.mpr ⟨g, hg, rfl⟩, rfl⟩)⟩
        refine ⟨_, rfl, _, rfl, _, rfl, _, _, rfl, .inl ⟨_, SqL.of KN, rfl⟩, p, _, _, rfl, B4, by omega, ?_, ?_, fun z5 H5 y5 x5 B5 k5 => ?_⟩
        · rw [ksl]
          omega
        · rw [ksl]
          exact Int.lt_of_le_of_lt (show ((gs.length + 1 : Nat) : Int) ≤ 100 by omega) (by decide)
        obtain ⟨v5, e5, m5⟩ := atI_in y5 x5
        have KN5 := (k5 lk lkp).trans KN
        have K5 := K4.trans (Kp.but k5)
        have L5 := L4.kp B4 (Kp.but k5) lp
        have e6 : ∃ v, atI (V.str "start" :: gs.map fun g => V.str g.nm) (-1) = some v ∧ v ∈ (V.str "start" :: gs.map fun g => V.str g.nm) := by
          have hlt : (V.str "start" :: gs.map fun g => V.str g.nm).length - 1 < (V.str "start" :: gs.map fun g => V.str g.nm).length := by rw [ksl]; omega
          exact ⟨_, atI_end (List.getElem?_eq_getElem hlt), List.getElem_mem hlt⟩
        obtain ⟨v6', e6, m6⟩ := e6
        refine ⟨lk, _, z5, v5, rfl, rfl, SqL.of KN5, e5, _, rfl, _, rfl, lk, _, -1, v6', rfl, rfl, SqL.of KN5, e6, by show 2 ≤ sizeLine; decide, fun lq hlq => ?_⟩
        have K6 := K5.trans (Kp.same (Same.upd (o := .lst [v5, v6']) hlq))
        have B6 := B5.upd (o := .lst [v5, v6']) hlq
        have L6 := L5.same (Same.upd (o := .lst [v5, v6']) hlq)
        have Q6 : upd H5 lq (.lst [v5, v6']) lq = some (.lst [v5, v6']) := upd_same
        have lqp : lq ≠ p := (B5.ne hlq).symm
        generalize upd H5 lq (.lst [v5, v6']) = H6 at K6 B6 L6 Q6 ⊢
        refine ⟨_, rfl, p, 2, _, rfl, B6, by omega, by decide, by decide, fun z7 H7 y7 x7 B7 k7 => ?_⟩
        obtain ⟨v7', e7, m7⟩ := atI_in (xs := [v5, v6']) y7 x7
        have Q7 := (k7 lq lqp).trans Q6
        have K7 := K6.trans (Kp.but k7)
        have L7 := L6.kp B6 (Kp.but k7) lp
        have pa7 : ∃ z : Str, v7' = .str z ∧ z ∈ ("start" : Str) :: (gs.map lcv).map (·.nm) := by
          rcases List.mem_cons.mp m7 with e | m
          · rw [e]; exact kin _ m5
          · rw [List.mem_singleton.mp m]; exact kin _ m6
        obtain ⟨pa, rfl, hpa⟩ := pa7
        refine ⟨lq, _, z7, _, rfl, rfl, SqL.of Q7, e7, ?_⟩
        refine ⟨by show 2 ≤ sizeLine; decide, fun lu hlu => ?_⟩
        have K8 := K7.trans (Kp.same (Same.upd (o := .lst [.str "beats", .str "seconds"]) hlu))
        have B8 := B7.upd (o := .lst [.str "beats", .str "seconds"]) hlu
        have L8 := L7.same (Same.upd (o := .lst [.str "beats", .str "seconds"]) hlu)
        have U8 : upd H7 lu (.lst [.str "beats", .str "seconds"]) lu = some (.lst [.str "beats", .str "seconds"]) := upd_same
        have lup : lu ≠ p := (B7.ne hlu).symm
        generalize upd H7 lu (.lst [.str "beats", .str "seconds"]) = H8 at K8 B8 L8 U8 ⊢
        refine ⟨_, rfl, p, 2, _, rfl, B8, by omega, by decide, by decide, fun z9 H9 y9 x9 B9 k9 => ?_⟩
        obtain ⟨v9', e9, m9⟩ := atI_in (xs := [V.str "beats", .str "seconds"]) y9 x9
        have U9 := (k9 lu lup).trans U8
        have K9 := K8.trans (Kp.but k9)
        have L9 := L8.kp B8 (Kp.but k9) lp
        have un9 : ∃ z : Str, v9' = .str z ∧ isUnit z = true := by
          rcases List.mem_cons.mp m9 with e | m
          · exact ⟨_, e, by decide +kernel⟩
          · exact ⟨_, List.mem_singleton.mp m, by decide +kernel⟩
        obtain ⟨un, rfl, hun⟩ := un9
        refine ⟨lu, _, z9, _, rfl, rfl, SqL.of U9, e9, _, rfl, p, _, rfl, B9, by omega, fun ra ta ua Ha ka Ba fra => ⟨_, _, rfl, ?_⟩⟩
        have Ka := K9.trans ka
        have La := L9.kp B9 ka lp
        have go : ∀ (Hx : Hp) (m : Nat) (un' : Str) (a' : Addr) (t' u' : Int) (v10' : Option V), Kp p Hb Hx → Box Hx p m → m ≤ n + 10 + (i + 1) * 13 → LsC 20 Hx l gs → isUnit un' = true → Fr 20 Hx a' t' u' → sLcuM H p n lim most D (SLc p lim most l st i (some (.ref lk)) (some (.str pa)) (some (.str un')) (some (.ref a')) v10' v11 v12) Hx := fun Hx m un' a' t' u' v10' kx bx hm lx hux frx =>
          ⟨Hb, st, l, gs, i, pa, un', a', t', u', _, v10', v11, v12, rfl, hst, hi, kx, I.kb, bx.mono hm, lx, I.le, I.good, I.rows, I.new, I.sub, hpa, hux, frx, fun H'' l' gs' v11' v12' I' => kn H'' l' gs' _ _ _ _ _ _ _ I'⟩
        refine ⟨_, rfl, by show 0 ≤ sizeLine; decide, fun le hle => ?_⟩
        have Kc := Ka.trans (Kp.same (Same.upd (o := .lst []) hle))
        have Bc := Ba.upd (o := .lst []) hle
        have Lc_ := La.same (Same.upd (o := .lst []) hle)
        have Ec : upd Ha le (.lst []) le = some (.lst []) := upd_same
        have frc := fra.kt (KT.of (Same.upd (o := .lst []) hle))
        generalize upd Ha le (.lst []) = Hc at Kc Bc Lc_ Ec frc ⊢
        refine ⟨l, le, _, rfl, rfl, SqL.of Lc_.l, SqL.of Ec, _, rfl, ?_⟩
        by_cases cg : gs = []
        · refine if_false_of (by rw [cg]; rfl) (iteF (go Hc _ un ra ta ua _ Kc Bc (by omega) Lc_ hun frc))
        have g0 := List.length_pos_iff.mpr cg
        refine if_true_of (by cases gs with | nil => exact absurd rfl cg | cons _ _ => rfl) ?_
        refine ⟨_, rfl, p, 5, _, rfl, Bc, by omega, by decide, by decide, fun zd Hd yd xd Bd kd => ⟨rfl, _, rfl, ?_⟩⟩
        have Kd := Kc.trans (Kp.but kd)
        have Ld := Lc_.kp Bc (Kp.but kd) lp
        have frd := frc.kt (KT.kp Bc (Kp.but kd))
        by_cases cz : zd = 0
        · rw [decide_eq_true (by rw [cz])]
          refine iteT ?_
          refine ⟨_, rfl, _, rfl, _, rfl, _, _, rfl, .inl ⟨_, SqL.of Ld.l, rfl⟩, p, _, _, rfl, Bd, by omega, ?_, ?_, fun ze He ye xe Be ke => ?_⟩
          · rw [List.length_map]
            omega
          · rw [List.length_map]
            exact Int.lt_of_le_of_lt (show ((gs.length : Nat) : Int) ≤ 100 by omega) (by decide)
          have Ke := Kd.trans (Kp.but ke)
          have Le := Ld.kp Bd (Kp.but ke) lp
          obtain ⟨ve, ee, me⟩ := atI_in ye xe
          obtain ⟨g, hg, rfl⟩ := List.mem_map.mp me
          obtain ⟨g1, g2, g3, g4, g5⟩ := Le.ok g hg
          have gun := (I.good.2 (lcv g) (List.mem_map.mpr ⟨g, hg, rfl⟩)).2.2
          refine ⟨l, _, ze, _, rfl, rfl, SqL.of Le.l, ee, ?_⟩
          refine ⟨_, rfl, g.q, _, 2, _, rfl, rfl, SqT.of g1, rfl, ?_⟩
          refine ⟨_, rfl, g.q, _, 3, _, rfl, rfl, SqT.of g1, rfl, g.a, _, 0, _, rfl, rfl, SqT.of g2.at_, rfl, _, _, rfl, rfl, _, rfl, g.q, _, 3, _, rfl, rfl, SqT.of g1, rfl, g.a, _, 1, _, rfl, rfl, SqT.of g2.at_, rfl, by show 2 ≤ sizeLine; decide, fun tq htq => ?_⟩
          have sf := Same.upd (o := .tup [.int (0 - g.t), .int g.u]) htq
          have frn : Fr 20 (upd He tq (.tup [.int (0 - g.t), .int g.u])) tq (0 - g.t) g.u := ⟨upd_same, ⟨g2.rd.1, by have := g2.rd.2; rwa [Int.zero_sub, Int.natAbs_neg]⟩, by have := g2.bt; rwa [Int.zero_sub, Int.natAbs_neg], g2.bu⟩
          have Kf := Ke.trans (Kp.same sf)
          have Bf := Be.sm sf
          have Lf := Le.same sf
          have g1f := sf _ _ g1
          have g2f := g2.kt (KT.of sf)
          generalize upd He tq (.tup [.int (0 - g.t), .int g.u]) = Hf at frn Kf Bf Lf g1f g2f ⊢
          refine ⟨_, rfl, g.q, _, 3, _, rfl, rfl, SqT.of g1f, rfl, by show 2 ≤ sizeLine; decide, fun lv hlv => ?_⟩
          have sg_ := Same.upd (o := .lst [.ref tq, .ref g.a]) hlv
          have Vg : upd Hf lv (.lst [.ref tq, .ref g.a]) lv = some (.lst [.ref tq, .ref g.a]) := upd_same
          have Kg := Kf.trans (Kp.same sg_)
          have Bg := Bf.sm sg_
          have Lg := Lf.same sg_
          have frg := frn.kt (KT.of sg_)
          have g2g := g2f.kt (KT.of sg_)
          have lvp : lv ≠ p := (Bf.ne hlv).symm
          generalize upd Hf lv (.lst [.ref tq, .ref g.a]) = Hg at Vg Kg Bg Lg frg g2g ⊢
          refine ⟨_, rfl, p, 2, _, rfl, Bg, by omega, by decide, by decide, fun zh Hh yh xh Bh kh => ?_⟩
          obtain ⟨vh, eh, mh⟩ := atI_in (xs := [V.ref tq, .ref g.a]) yh xh
          have Vh := (kh lv lvp).trans Vg
          have Kh := Kg.trans (Kp.but kh)
          have Lh := Lg.kp Bg (Kp.but kh) lp
          have frh : ∃ a' t' u', vh = .ref a' ∧ Fr 20 Hh a' t' u' := by
            rcases List.mem_cons.mp mh with e | m
            · exact ⟨_, _, _, e, frg.kt (KT.kp Bg (Kp.but kh))⟩
            · exact ⟨_, _, _, List.mem_singleton.mp m, g2g.kt (KT.kp Bg (Kp.but kh))⟩
          obtain ⟨a', t', u', rfl, frh⟩ := frh
          refine ⟨lv, _, zh, _, rfl, rfl, SqL.of Vh, eh, _, _, rfl, ?_⟩
          exact go Hh _ g.un a' t' u' _ Kh Bh (by omega) Lh gun frh
        · rw [decide_eq_false fun e => cz (V.int.inj e)]
          exact iteF (go Hd _ un ra ta ua _ Kd Bd (by omega) Ld hun frd)
    refine ⟨by show 0 ≤ sizeLine; decide, fun l1' hl1 => ?_⟩
    have s2 := Same.upd (o := .lst []) hl1
    have l12 : upd H l1' (.lst []) l1' = some (.lst []) := upd_same
    have l1p : l1' ≠ p := (hb.ne hl1).symm
    have b2 := hb.sm s2
    generalize upd H l1' (.lst []) = H2 at s2 l12 b2 ⊢
    refine ⟨by show 3 ≤ sizeLine; decide, fun l3 hl3 => ?_⟩
    have s3 := Same.upd (o := .lst [.str "c", .str "x1", .str "beats"]) hl3
    have e3 : upd H2 l3 (.lst [.str "c", .str "x1", .str "beats"]) l3 = some (.lst [.str "c", .str "x1", .str "beats"]) := upd_same
    have l3p : l3 ≠ p := (b2.ne hl3).symm
    have b3 := b2.sm s3
    generalize upd H2 l3 (.lst [.str "c", .str "x1", .str "beats"]) = H3 at s3 e3 b3 ⊢
    refine ⟨_, rfl, p, 3, _, rfl, b3, by omega, by decide, by decide, fun z H4 z0 z1 b4 k4 => ?_⟩
    obtain ⟨v, ev, mv⟩ := atI_in (xs := [V.str "c", .str "x1", .str "beats"]) z0 z1
    obtain ⟨st, rfl, hst⟩ : ∃ st : Str, v = .str st ∧ st ∈ stems := by
      simp only [List.mem_cons, List.not_mem_nil, or_false] at mv
      rcases mv with e | e | e
      · exact ⟨_, e, by decide +kernel⟩
      · exact ⟨_, e, by decide +kernel⟩
      · exact ⟨_, e, by decide +kernel⟩
    refine ⟨l3, _, z, _, rfl, rfl, SqL.of ((k4 l3 l3p).trans e3), ev, _, _, rfl, ?_⟩
    have s23 := s2.trans s3
    have k04 : Kp p H H4 := (Kp.same s23).trans (Kp.but k4)
    have l14 : H4 l1' = some (.lst []) := (k4 l1' l1p).trans (s3 _ _ l12)
    refine ⟨_, rfl, _, rfl, _, _, rfl, rfl, p, _, _, rfl, b4, by omega, by omega, Int.lt_of_le_of_lt (show ((most : Int) + 1) ≤ 100 by omega) (by decide), fun d H5 y5 x5 b5 k5 => ?_⟩
    have k05 := k04.trans (Kp.but k5)
    have l15 := (k5 l1' l1p).trans l14
    refine ⟨d, rfl, by omega, by omega, ?_⟩
    have li0 : LcI H H5 p n lim (nmL st) 0 H5 l1' [] := ⟨Kp.refl p H5, k05, b5.mono (by omega), ⟨l15, (fun g hg => by cases hg), Nat.zero_le _⟩, Nat.le_refl _, ⟨(fun i c e => by cases e), (fun c hc => by cases hc)⟩, l1, hl1, (fun g hg => by cases hg)⟩
    refine for_range (lo := 0) (n := d.toNat) (fun i σ H' => ∃ (l : Addr) (gs : List Lc) (v5 v6 v7 v8 v9 v10 v11 v12 : Option V), σ = [some (.ref p), some (.int (lim : Int)), some (.int (most : Int)), some (.ref l), some (.str st), v5, v6, v7, v8, v9, v10, v11, v12, none] ∧ LcI H H5 p n lim (nmL st) i H' l gs) ⟨l1', [], _, _, _, _, _, _, _, _, rfl, li0⟩ ?_ ?_
    · rintro i σ H6 hi ⟨l, gs, v5, v6, v7, v8, v9, v10, v11, v12, rfl, I⟩
      rw [Int.zero_add]
      exact ⟨H5, st, l, gs, i, _, _, _, _, _, _, _, rfl, hst, by omega, I, fun H'' l' gs' v6 v7 v8 v9 v10 v11 v12 I' => ⟨l', gs', _, _, _, _, _, _, _, _, rfl, I'⟩⟩
    · rintro σ H6 ⟨l, gs, v5, v6, v7, v8, v9, v10, v11, v12, rfl, I⟩
      have hle := I.le
      refine ⟨_, rfl, k l gs st H6 (k05.trans I.k) (I.b.mono (by omega)) I.ls (by omega) I.good I.rows hst (fun g hg => ?_) I.new⟩
      have h1 := I.sub g hg
      exact List.mem_of_mem_take (i := d.toNat) (by rw [List.take_take, Nat.min_eq_left (by omega)]; exact h1)
end
end K34
set_option Elab.async false
set_option linter.all false
set_option maxRecDepth 100000
set_option maxHeartbeats 1000000
set_option exponentiation.threshold 100000
namespace K34
open PySem PySem.Spec PyProof.Rows L2 Fa Fb
abbrev sPas : Stmt := top 60
theorem scPas : FnScope ["_law_cues_here", "_law_name", "_law_parent", "_law_unit", "_law_amount_here"] ["_law_cues_here"] (defScope sPas) := ⟨rfl, rfl, rfl, by decide +kernel, rfl, by decide +kernel, by decide +kernel⟩
abbrev sPln : Stmt := top 61
theorem scPln : FnScope ["_law_sheet", "_law_name", "_law_parent", "_law_unit", "_law_amount_here"] ["_law_sheet"] (defScope sPln) := ⟨rfl, rfl, rfl, by decide +kernel, rfl, by decide +kernel, by decide +kernel⟩
/-- a passed cue -/
def PsI (K : PySem.W.Frag) (H : Hp) (it : Addr) (g : Lc) : Prop := ∃ x, H it = some (.tup [.str g.nm, .str g.pa, .str g.un, x]) ∧ Arg K H x g.t g.u 21
/-- the passed ones at r -/
structure PsL (K : PySem.W.Frag) (H : Hp) (r : Addr) (xs : List Addr) (gs : List Lc) : Prop where
  l : H r = some (.lst (xs.map V.ref))
  len : xs.length = gs.length
  ok : ∀ (i : Nat) it g, xs[i]? = some it → gs[i]? = some g → PsI K H it g
theorem IsA.kt {K : PySem.W.Frag} {H H' : Hp} {x : V} {t u : Int} {n : Nat} (h : IsA K H x t u n) (k : KT H H') : IsA K H' x t u n := by
  obtain ⟨p, dx, e, hp, r⟩ := h
  exact ⟨p, dx, e, k _ _ hp (fun _ e => by cases e), r⟩
theorem Arg.kt {K : PySem.W.Frag} {H H' : Hp} {x : V} {t u : Int} {n : Nat} (h : Arg K H x t u n) (k : KT H H') : Arg K H' x t u n := h.imp (fun h => h.kt k) id
theorem PsI.kt {K : PySem.W.Frag} {H H' : Hp} {it : Addr} {g : Lc} (h : PsI K H it g) (k : KT H H') : PsI K H' it g := let ⟨x, a, b⟩ := h; ⟨x, k _ _ a (fun _ e => by cases e), b.kt k⟩
structure PrF (P : Program) (w : World) (K : PySem.W.Frag) (mg : Str → Option Value) (base : Heap) (f fld : Str) (pa fa : Addr) (fd : FuncData) : Prop where
  pr : PropOf K (CA K) f pa fa
  ok : FnOk P w K mg base (L2.CX P w) 1 fa fd ["self"] (getSp (CA K) fld)
  bi : Binds K fd ["self"] []

def spPas (K : PySem.W.Frag) : Sp := fun vs H Q _ => ∃ (l : Addr) (gs : List Lc) (n : Nat), vs = [.ref l] ∧ LsC n H l gs ∧ 1 ≤ n ∧ n ≤ 200 ∧ ∀ (r : Addr) (xs : List Addr) (H' : Hp), Same H H' → H' r = some (.lst (xs.map V.ref)) → xs.length = gs.length → (∀ (i : Nat) c, (gs.map lcv)[i]? = some c → ∃ it, (xs.map V.ref)[i]? = some (V.ref it) ∧ CueArg K n H' it c) → H r = none → Q (.ref r) H'
/-- the cues of a sheet, told plainly -/
def spPln (K : PySem.W.Frag) : Sp := fun vs H Q _ => ∃ (o : Addr) (mm : Nat) (H0 : Hp) (gs : List Cu), vs = [.ref o] ∧ ShAt K mm H0 H o gs ∧ (∀ g ∈ gs, PyData.strOk g.nm = true ∧ PyData.strOk g.pa = true ∧ PyData.strOk g.un = true) ∧ gs.length ≤ 14 ∧ ∀ (r : Addr) (ls : List Lc) (H' : Hp), Same H H' → LsC mm H' r ls → ls.map lcv = gs.map cv → H r = none → Q (.ref r) H'
section
variable {P : Program} {w : World} {K : PySem.W.Frag} {mg : Str → Option Value} {base : Heap} {f f1 pT pB fT fB : Addr} {fd fd1 fdI fdT fdB : FuncData}
theorem ok_pas (F : FnP K "_law_passed" sPas f fd) (T : AF K mg) (GI : FnOk P w K mg base (L2.CX P w) 4 (aI K) fdI ["self", "top", "bottom"] (spInit K)) (b2 : Binds K fdI ["self", "top", "bottom"] []) : FnOk P w K mg base (L2.CX P w) 6 f fd ["_law_cues_here"] (spPas K) := by
  refine F.ok scPas (fun vs H Q E h => ?_) (fun cdv A outer s H vs Q E hr h => ?_)
  · obtain ⟨l, gs, n, rfl, _⟩ := h
    rfl
  · obtain ⟨l, gs, n, rfl, hl, n1, n2, k⟩ := h
    have hr5 := hr
    refine ⟨_, (pss_one (ps_ret (pe_lc (own := [("_law_name", 1), ("_law_parent", 2), ("_law_unit", 3), ("_law_amount_here", 4)]) (g := gTup K 4 (gCons (gName 1) (gCons (gName 2) (gCons (gName 3) (gCons (gName 4) gNil))))) (te := tTup (tCons (tVar 1) (tCons (tVar 2) (tCons (tVar 3) (tCons (tMake (CA K) (spInit K) [] E0 (tCons (tOp (rIxT K) (tVar 4) (tC (.int 0))) (tCons (tOp (rIxT K) (tVar 4) (tC (.int 1))) tNil))) tNil))))) (by rfl) scPas.nd (pi_list (pv 0)) (blkOk_by (own := [("_law_name", 1), ("_law_parent", 2), ("_law_unit", 3), ("_law_amount_here", 4)]) (N := ["_law_cues_here", "_law_name", "_law_parent", "_law_unit", "_law_amount_here"]) (sc := defScope sPas) (by decide +kernel)) (fun _ _ _ _ _ => (pg_tup (by rfl) (pgs_cons (pg_name (i := 1) scPas.nd rfl (Or.inl rfl)) (pgs_cons (pg_name (i := 2) scPas.nd rfl (Or.inl rfl)) (pgs_cons (pg_name (i := 3) scPas.nd rfl (Or.inl rfl)) (pgs_cons (pg_name (i := 4) scPas.nd rfl (Or.inl rfl)) pgs_nil)))))) (fun _ _ _ _ _ => pts_nil) (fun _ _ _ _ _ => (pe_tup (pa_cons (pv 1) (pa_cons (pv 2) (pa_cons (pv 3) (pa_cons (pe_make T.mkA GI hr5 rfl T.g b2 .nil passL (pa_cons (pe_ix ix_tup (pv 4) pe_int (fun _ _ => rfl)) (pa_cons (pe_ix ix_tup (pv 4) pe_int (fun _ _ => rfl)) pa_nil))) pa_nil))))))))), ?_⟩
    refine ⟨_, rfl, l, rfl, ⟨_, SqL.of hl.l⟩, fun D hD => ?_⟩
    refine lc_list (K := K) (a := l) (xs := gs.map fun g => V.ref g.q) (fun i H' => Same H H' ∧ ∃ xs : List Addr, xs.length = i ∧ H' D = some (.lst (xs.map V.ref)) ∧ ∀ (j : Nat) it g, xs[j]? = some it → gs[j]? = some g → CueArg K n H' it (lcv g)) ⟨Same.upd hD, [], rfl, upd_same, fun j it g e => by cases e⟩ (fun i H' _ ⟨s, _⟩ => SqL.of (s _ _ hl.l)) ?_ ?_
    · rintro i x H1 hx ⟨s1, xs, xn, e1, ok⟩
      obtain ⟨g, eg, rfl⟩ := map_at hx
      have hi := (List.getElem?_eq_some_iff.mp eg).1
      have h14 := hl.n
      obtain ⟨g1, g2, _⟩ := (hl.ok g (List.mem_of_getElem? eg)).kt (KT.of s1)
      refine ⟨g.q, _, rfl, SqT.of g1, rfl, _, _, rfl, _, _, rfl, _, _, rfl, _, _, rfl, rfl, rfl, ?_⟩
      refine ⟨_, rfl, _, rfl, _, rfl, _, rfl, g.a, _, 0, _, rfl, rfl, SqT.of g2.at_, rfl, _, rfl, g.a, _, 1, _, rfl, rfl, SqT.of g2.at_, rfl, fun y dy hy hd hne => spInit_imp (make_fact T (n := n) (a := g.t) (b := g.u) (Int.ne_of_gt g2.rd.1) (by omega) g2.bt g2.bu hy hd hne) fun w1 H2 ⟨hw, t1, u1, s2, ia, ev⟩ => ⟨hw, ?_⟩⟩
      obtain ⟨_, _, _, _, rd1, _⟩ := id ia
      obtain ⟨rfl, rfl⟩ := Am.uniq rd1 g2.rd ev
      refine ⟨by show 4 ≤ sizeLine; decide, fun q hq => ?_⟩
      have s3 := Same.upd (o := .tup [.str g.nm, .str g.pa, .str g.un, .ref y]) hq
      have e3 : upd H2 q (.tup [.str g.nm, .str g.pa, .str g.un, .ref y]) q = some (.tup [.str g.nm, .str g.pa, .str g.un, .ref y]) := upd_same
      generalize upd H2 q (.tup [.str g.nm, .str g.pa, .str g.un, .ref y]) = H3 at s3 e3 ⊢
      have s23 := s2.trans s3
      have e1' := s23 _ _ e1
      have kt : KT H3 (upd H3 D (.lst (xs.map V.ref ++ [V.ref q]))) := KT.put e1'
      refine ⟨_, e1', by rw [List.length_map, xn]; exact Nat.lt_of_lt_of_le (show i < 100 by omega) (by decide), same_put (s1.trans s23) hD, xs ++ [q], by rw [List.length_append, xn]; rfl, by rw [upd_same, List.map_append]; rfl, fun j it g' ej eg' => ?_⟩
      have lift : ∀ {it : Addr} {c : M04.Cue}, (∃ x t u, H3 it = some (.tup [.str c.nm, .str c.pa, .str c.un, x]) ∧ Arg K H3 x t u n ∧ vq t u = c.q) → CueArg K n (upd H3 D (.lst (xs.map V.ref ++ [V.ref q]))) it c := fun {it c} ⟨x, t, u, a1, a2, a3⟩ => ⟨x, t, u, .inr (kt _ _ a1 (fun l e => by cases e)), a2.kt kt, a3⟩
      by_cases cj : j < i
      · rw [List.getElem?_append_left (by omega)] at ej
        obtain ⟨x, t, u, a1, a2, a3⟩ := (ok j it g' ej eg').same s23
        rcases a1 with a1 | a1
        · refine ⟨x, t, u, .inl ?_, a2.kt kt, a3⟩
          rw [upd_ne fun e => ?_]
          · exact a1
          · rw [e, e1'] at a1
            have h1 := Option.some.inj a1
            have h2 := HO.lst.inj h1
            cases xs with
            | nil => cases h2
            | cons x r => cases (List.cons.inj h2).1
        · exact ⟨x, t, u, .inr (kt _ _ a1 (fun l e => by cases e)), a2.kt kt, a3⟩
      · have hj := (List.getElem?_eq_some_iff.mp ej).1
        rw [List.length_append] at hj
        have hj : j < xs.length + 1 := hj
        obtain rfl : j = i := by omega
        rw [List.getElem?_append_right (by omega), xn, Nat.sub_self] at ej
        cases ej
        rw [eg] at eg'
        cases eg'
        exact lift ⟨.ref y, g.t, g.u, e3, .inl (ia.same s3), rfl⟩
    · rintro H1 ⟨s1, xs, xn, e1, ok⟩
      rw [List.length_map] at xn
      refine k D xs H1 s1 e1 xn (fun i c e => ?_) hD
      obtain ⟨g, eg, rfl⟩ := map_at e
      have hi : i < xs.length := by
        rw [xn]
        exact (List.getElem?_eq_some_iff.mp eg).1
      exact ⟨xs[i], by rw [List.getElem?_map, List.getElem?_eq_getElem hi]; rfl, ok i _ g (List.getElem?_eq_getElem hi) eg⟩
theorem ok_pln (F : FnP K "_law_plain" sPln f fd) (T : AF K mg) (M : MF K mg) (CU : MeS P w K mg base "cues" 1 ["self"] (spCs K) f1 fd1) (RT : PrF P w K mg base "top" "_top" pT fT fdT) (RB : PrF P w K mg base "bottom" "_bottom" pB fB fdB) : FnOk P w K mg base (L2.CX P w) 3 f fd ["_law_sheet"] (spPln K) := by
  refine F.ok scPln (fun vs H Q E h => ?_) (fun cdv A outer s H vs Q E hr h => ?_)
  · obtain ⟨o, mm, H0, gs, rfl, _⟩ := h
    rfl
  · obtain ⟨o, mm, H0, gs, rfl, sh, so, n14, k⟩ := h
    have hr1 := hr.mono (show 1 ≤ 2 by decide)
    have hr2 := hr.mono (show 2 ≤ 2 by decide)
    obtain ⟨dx, c, r, d, rs, ho, inn⟩ := id sh
    refine ⟨_, (pss_one (ps_ret (pe_lc (own := [("_law_name", 1), ("_law_parent", 2), ("_law_unit", 3), ("_law_amount_here", 4)]) (g := gTup K 4 (gCons (gName 1) (gCons (gName 2) (gCons (gName 3) (gCons (gName 4) gNil))))) (te := tTup (tCons (tVar 1) (tCons (tVar 2) (tCons (tVar 3) (tCons (tTup (tCons (tProp (CA K) (getSp (CA K) "_top") [] E0 (tVar 4)) (tCons (tProp (CA K) (getSp (CA K) "_bottom") [] E0 (tVar 4)) tNil))) tNil))))) (by rfl) scPln.nd (pi_list (pe_meth0 (pv 0) M.cl CU.me CU.ok hr1 CU.b .nil passL)) (blkOk_by (own := [("_law_name", 1), ("_law_parent", 2), ("_law_unit", 3), ("_law_amount_here", 4)]) (N := ["_law_sheet", "_law_name", "_law_parent", "_law_unit", "_law_amount_here"]) (sc := defScope sPln) (by decide +kernel)) (fun _ _ _ _ _ => (pg_tup (by rfl) (pgs_cons (pg_name (i := 1) scPln.nd rfl (Or.inl rfl)) (pgs_cons (pg_name (i := 2) scPln.nd rfl (Or.inl rfl)) (pgs_cons (pg_name (i := 3) scPln.nd rfl (Or.inl rfl)) (pgs_cons (pg_name (i := 4) scPln.nd rfl (Or.inl rfl)) pgs_nil)))))) (fun _ _ _ _ _ => pts_nil) (fun _ _ _ _ _ => (pe_tup (pa_cons (pv 1) (pa_cons (pv 2) (pa_cons (pv 3) (pa_cons (pe_tup (pa_cons (pe_prop (pv 4) T.cl RT.pr RT.ok hr2 RT.bi .nil passL rfl) (pa_cons (pe_prop (pv 4) T.cl RB.pr RB.ok hr2 RB.bi .nil passL rfl) pa_nil))) pa_nil))))))))), ?_⟩
    refine ⟨_, rfl, o, dx, _, rfl, ho, sh_no c r d (by decide +kernel) (by decide +kernel) (by decide +kernel), o, mm, H0, gs, rfl, sh, fun l H1 s1 hl l0 => ?_⟩
    refine ⟨l, rfl, ⟨_, SqL.of hl⟩, fun D hD => ?_⟩
    refine lc_list (K := K) (a := l) (xs := gs.map fun g => V.ref g.q) (fun i H' => Same H1 H' ∧ ∃ ls : List Lc, ls.map lcv = (gs.take i).map cv ∧ ls.length = i ∧ H' D = some (.lst (ls.map fun g => V.ref g.q)) ∧ ∀ g ∈ ls, LcOk mm H' g) ⟨Same.upd hD, [], rfl, rfl, upd_same, fun g hg => by cases hg⟩ (fun i H' _ ⟨s, _⟩ => SqL.of (s _ _ hl)) ?_ ?_
    · rintro i x H2 hx ⟨s2, ls, ev, en, e1, ok⟩
      obtain ⟨g, eg, rfl⟩ := map_at hx
      have hi := (List.getElem?_eq_some_iff.mp eg).1
      have hg := List.mem_of_getElem? eg
      obtain ⟨g1, g2⟩ := (inn.cok g hg).same (s1.trans s2)
      obtain ⟨pa, da, epa, hpa, rd, b1, b2⟩ := id g2
      cases epa
      refine ⟨g.q, _, rfl, SqT.of g1, rfl, _, _, rfl, _, _, rfl, _, _, rfl, _, _, rfl, rfl, rfl, ?_⟩
      refine ⟨_, rfl, _, rfl, _, rfl, _, rfl, g.a, da, _, rfl, hpa, g.a, da, _, _, rfl, hpa, fl_top _ _, _, rfl, g.a, da, _, rfl, hpa, g.a, da, _, _, rfl, hpa, fl_bot _ _, by show 2 ≤ sizeLine; decide, fun q hq => ?_⟩
      have s3 := Same.upd (o := .tup [.int g.t, .int g.u]) hq
      have e3 : upd H2 q (.tup [.int g.t, .int g.u]) q = some (.tup [.int g.t, .int g.u]) := upd_same
      generalize upd H2 q (.tup [.int g.t, .int g.u]) = H3 at s3 e3 ⊢
      refine ⟨by show 4 ≤ sizeLine; decide, fun q4 hq4 => ?_⟩
      have s4 := Same.upd (o := .tup [.str g.nm, .str g.pa, .str g.un, .ref q]) hq4
      have e4 : upd H3 q4 (.tup [.str g.nm, .str g.pa, .str g.un, .ref q]) q4 = some (.tup [.str g.nm, .str g.pa, .str g.un, .ref q]) := upd_same
      generalize upd H3 q4 (.tup [.str g.nm, .str g.pa, .str g.un, .ref q]) = H4 at s4 e4 ⊢
      have s34 := s3.trans s4
      have e1' := s34 _ _ e1
      obtain ⟨so1, so2, so3⟩ := so g hg
      have new : LcOk mm H4 ⟨q4, q, g.nm, g.pa, g.un, g.t, g.u⟩ := ⟨e4, ⟨s4 _ _ e3, rd, b1, b2⟩, so1, so2, so3⟩
      refine ⟨_, e1', by rw [List.length_map, en]; exact Nat.lt_of_lt_of_le (show i < 100 by omega) (by decide), same_put (s2.trans s34) hD, ls ++ [⟨q4, q, g.nm, g.pa, g.un, g.t, g.u⟩], ?_, by rw [List.length_append, en]; rfl, by rw [upd_same, List.map_append]; rfl, fun y hy => ?_⟩
      · rw [List.map_append, ev, List.take_add_one, eg, List.map_append]
        rfl
      · rcases List.mem_append.mp hy with hy | hy
        · exact ((ok y hy).kt (KT.of s34)).kt (KT.put e1')
        · rw [List.mem_singleton.mp hy]
          exact new.kt (KT.put e1')
    · rintro H2 ⟨s2, ls, ev, en, e1, ok⟩
      rw [List.length_map] at en ev
      rw [List.take_length] at ev
      exact k D ls H2 (s1.trans s2) ⟨e1, ok, by omega⟩ ev (none_of s1 hD)
end
end K34
set_option Elab.async false
set_option linter.all false
set_option maxRecDepth 100000
set_option maxHeartbeats 4000000
/-! o.m(a, ..) where what it raises is caught by the place. -/
namespace Fw
open PySem PySem.Spec PyProof.Rows L2
section
variable {X : Cx} {CX : CXT} {k : Nat} {f C : Addr} {fd : FuncData} {ps : List Str} {sp : Sp} {E : L2.St → XK}
theorem run_at {pn : List (Addr × Obj)} {σ : L2.St} {H : Hp} {s : Shared} {Q : VK} {us : List Value} {vs : List V} (F : FnOk X.prog X.w X.K X.mg X.base CX k f fd ps sp) (hr : Room k X.A) (hb : Binds X.K fd ps []) (px : PassesAt CX X σ (E σ))
    (I : Inv X pn σ H s) (r : Vals vs us) (h : sp vs H Q (E σ)) : wpAny (model X.prog X.w) X.A (call (.ref f) us) (EP X pn σ Q) X.xe s := by
  have bi := hb s us I.kIn (by rw [List.append_nil, ← r.length]; exact F.len _ _ _ _ h)
  rw [List.append_nil] at bi
  refine wpAny_call (codeAny_mono (F.run X.A X.stack s H ⟨us, []⟩ us vs Q (E σ) hr I.env0 bi r h) fun res s2 out => ?_)
  match res, out with
  | .error er, out => exact px pn H s er s2 I out
  | .ok (.ret u), out => exact I.after out
  | .ok .next, out => exact out.elim
  | .ok .brk, out => exact out.elim
  | .ok .cont, out => exact out.elim
def tMethX (C : Addr) (m : Str) (sp : Sp) (E : L2.St → XK) (ta : TE) (t : TA) : TE := fun σ H Q => ta σ H fun x H1 => ∃ a dx fs, x = .ref a ∧ H1 a = some (.ins C dx fs) ∧ fs.lookup m = none ∧ t σ H1 fun vs H2 => sp (.ref a :: vs) H2 Q (E σ)
theorem pe_methX {o e : Expr} {es : List Expr} {m : Str} {ta : TE} {t : TA} {apos pos : Pos} {pl : Sem Bool} (he : PE X o ta) (c : Cls X.K C) (hm : Meth X.K C m f) (F : FnOk X.prog X.w X.K X.mg X.base CX k f fd ps sp) (hr : Room k X.A) (hb : Binds X.K fd ps []) (px : ∀ σ, PassesAt CX X σ (E σ)) (ha : PA X (e :: es) t)
    (hst : starEach (e :: es) X.env = (false, eval e X.env) :: starEach es X.env := by rfl) (hpl : (backTo pos (starEach es X.env)).any (·.1) = false := by rfl)
    (ht : eval (.Call (.Attribute o m apos) (e :: es) [] pos) X.env = (do
      let ov ← eval o X.env
      standAt apos.atName
      let (f, first) ← holding [ov] (getMethod ov m pl)
      callWith pos f first (backTo pos (starEach (e :: es) X.env)) (backToKw pos (keywordEach [] X.env))) := by rfl) :
    PE X (.Call (.Attribute o m apos) (e :: es) [] pos) (tMethX C m sp E ta t) := by
  constructor
  intro pins s σ H Q I h
  refine PySem.W.methodCall_KW (pl := pl) (thn (he.run pins s σ H _ I h) fun u s1 z => ?_) ht
  obtain ⟨x, H1, I1, rx, a, dx, fs, ex, ea, l, q⟩ := z
  subst ex
  obtain rfl : u = Value.ref a := rx
  refine getmeth_ok I1 ea c hm l (PySem.W.callWith_K (first := [.ref a]) (h₀ := X.base) I.ok.mod.kin hm.kp (thn (ha.run pos pins s1 σ H1 _ I1 q) fun us s2 z => ?_) hst hpl)
  obtain ⟨vs, H2, I2, r, q2⟩ := z
  exact ⟨I2.kIn, run_at (us := .ref a :: us) (vs := .ref a :: vs) F hr hb (px σ) I2 (.cons rfl r) q2⟩
end
end Fw
set_option Elab.async false
set_option linter.all false
set_option maxRecDepth 100000
set_option maxHeartbeats 1000000
set_option exponentiation.threshold 100000
namespace K34
open PySem PySem.Spec PyProof.Rows L2 Fa Fb
abbrev sNeg : Stmt := inClass (top 29) 7
abbrev sSMm : Stmt := inClass (top 38) 13
abbrev sSRw : Stmt := inClass (top 38) 9
theorem scNeg : FnScope ["self"] ["self"] (defScope sNeg) := ⟨rfl, rfl, rfl, by decide +kernel, rfl, by decide +kernel, by decide +kernel⟩
theorem scSMm : FnScope ["self", "name"] ["self", "name"] (defScope sSMm) := ⟨rfl, rfl, rfl, by decide +kernel, rfl, by decide +kernel, by decide +kernel⟩
theorem scSRw : FnScope ["self", "name"] ["self", "name"] (defScope sSRw) := ⟨rfl, rfl, rfl, by decide +kernel, rfl, by decide +kernel, by decide +kernel⟩
def spUn (K : PySem.W.Frag) (g : Int → Int) : Sp := fun vs H Q _ => ∃ x t u n, vs = [x] ∧ IsA K H x t u n ∧ n ≤ 8000 ∧ ∀ z H' t' u', Same H H' → IsA K H' z t' u' n → t' * u = g t * u' → Q z H'
section
variable {P : Program} {w : World} {K : PySem.W.Frag} {mg : Str → Option Value} {base : Heap} {f fW fS : Addr} {fd fdW fdS fdI : FuncData} {qv tv : Str} {fV : Addr}
theorem ok_neg (F : FunD K "__neg__" "Amount.__neg__" (defArgs sNeg) (defBody sNeg) (defScope sNeg) [] [] f fd) (T : AF K mg) (GI : FnOk P w K mg base (L2.CX P w) 4 (aI K) fdI ["self", "top", "bottom"] (spInit K)) (bI : Binds K fdI ["self", "top", "bottom"] []) : FnOk P w K mg base (L2.CX P w) 6 f fd ["self"] (spUn K fun t => -t) := by
  refine F.ok scNeg (fun vs H Q E h => ?_) (fun cdv A outer s H vs Q E hr h => ?_)
  · obtain ⟨x, t, u, n, rfl, _⟩ := h
    rfl
  · obtain ⟨x, t, u, n, rfl, ix, hn, q⟩ := h
    obtain ⟨p, dx, rfl, hp, r, b1, b2⟩ := id ix
    refine ⟨_, pss_one (ps_ret (pe_make T.mkA GI hr rfl T.g bI .nil passL (pa_cons (pe_un un_neg (pe_fld (pv 0) rfl)) (pa_cons (pe_fld (pv 0) rfl) pa_nil)))), ?_⟩
    refine ⟨_, rfl, p, CA K, dx, _, _, rfl, hp, T.cl, T.noT, fl_top _ _, _, rfl, ?_⟩
    refine ⟨_, rfl, p, CA K, dx, _, _, rfl, hp, T.cl, T.noB, fl_bot _ _, ?_⟩
    exact make_read T (n := n) (by have := r.1; omega) hn (by rw [Int.natAbs_neg]; exact b1) b2 fun y' H2 t' u' s2 i2 e => q y' H2 t' u' s2 i2 e
def spMm (K : PySem.W.Frag) : Sp := fun vs H Q E => ∃ o mm H0 gs y, vs = [.ref o, y] ∧ ShAt K mm H0 H o gs ∧ ((Tx K H y false ∧ ErrL (CUn K) y H E) ∨ ∃ z : Str, y = .str z ∧ (M04.num (M04.all (gs.map cv)).nums z = none → ErrL (CUn K) y H E) ∧ ∀ n, M04.num (M04.all (gs.map cv)).nums z = some n → Q (.int (n : Int)) H)
theorem ok_sMm (F : FunD K "moment" "Sheet.moment" (defArgs sSMm) (defBody sSMm) (defScope sSMm) [] [] f fd) (M : MF K mg) (CN : Fn P w K mg base "check_known" 3 ["sheet", "name"] (spCN K) fS fdS) : FnOk P w K mg base (L2.CX P w) 4 f fd ["self", "name"] (spMm K) := by
  refine F.ok scSMm (fun vs H Q E h => ?_) (fun cdv A outer s H vs Q E hr h => ?_)
  · obtain ⟨o, mm, H0, gs, y, rfl, _⟩ := h
    rfl
  · obtain ⟨o, mm, H0, gs, y, rfl, sh, k⟩ := h
    have hr3 := hr.mono (show 3 ≤ 3 by decide)
    have hu1 : (A.deeper (envOfC "Sheet.moment" (defScope sSMm) s.heap.objs.size f cdv)).units + 1 < cLine := by
      have := hr.un
      omega
    refine ⟨_, (pss_cons (ps_expr (pe_callS CN.ok hr3 rfl CN.g CN.k CN.b (fun σ => passAt (W := fun cls d _ H => E cls d H) (takes_of rfl rfl rfl rfl) σ) (pa_cons (pv 0) (pa_cons (pv 1) pa_nil))))
      (pss_one (ps_ret (pe_dget hu1 (pe_fld (pv 0) rfl) (pv 1) (fun _ _ => rfl))))), ?_⟩
    obtain ⟨dx, c, r, d, rs, ho, inn⟩ := id sh
    refine ⟨_, rfl, _, rfl, o, mm, H0, gs, y, rfl, sh, ?_⟩
    rcases k with ⟨tx, er⟩ | ⟨z, rfl, er, k⟩
    · exact .inl ⟨tx, er⟩
    · refine .inr ⟨z, rfl, er, fun e => ?_⟩
      obtain ⟨n, en⟩ := Option.isSome_iff_exists.mp e
      have ev : valV (numK (M04.all (gs.map cv)).nums) (Sum.inr z) = some (V.int (n : Int)) := by
        rw [valV_num, en]
        rfl
      exact ⟨_, rfl, o, _, dx, _, _, rfl, ho, M.cl, M.n3, sh_d c r d, _, rfl, d, _, rfl, .inl ⟨_, Sum.inr z, Rd.of inn.dk, rfl, ev.symm⟩, k n en⟩
def spRw (K : PySem.W.Frag) : Sp := fun vs H Q E => ∃ o mm H0 gs y, vs = [.ref o, y] ∧ ShAt K mm H0 H o gs ∧ ((Tx K H y false ∧ ErrL (CUn K) y H E) ∨ ∃ z : Str, y = .str z ∧ (M04.num (M04.all (gs.map cv)).nums z = none → ErrL (CUn K) y H E) ∧
  ∀ n, M04.num (M04.all (gs.map cv)).nums z = some n → ∀ l its H', Same H H' → H' l = some (.lst (its.map fun (g : It) => V.ref g.q)) → H l = none → (∀ g ∈ its, ItOk K (bitsOf mm gs) H' g) → its.length ≤ gs.length → (M04.all (gs.map cv)).rows[n]? = some (rv its) → Q (.ref l) H')
theorem ok_sRw (F : FunD K "row" "Sheet.row" (defArgs sSRw) (defBody sSRw) (defScope sSRw) [] [] f fd) (M : MF K mg) (mLi : mg "list" = none) (MM : MeS P w K mg base "moment" 4 ["self", "name"] (spMm K) fS fdS) : FnOk P w K mg base (L2.CX P w) 5 f fd ["self", "name"] (spRw K) := by
  refine F.ok scSRw (fun vs H Q E h => ?_) (fun cdv A outer s H vs Q E hr h => ?_)
  · obtain ⟨o, mm, H0, gs, y, rfl, _⟩ := h
    rfl
  · obtain ⟨o, mm, H0, gs, y, rfl, sh, k⟩ := h
    have hr4 := hr.mono (show 4 ≤ 4 by decide)
    refine ⟨_, (pss_one (ps_ret (pe_callTy call_list_of rfl mLi (by decide +kernel : bootBuiltins "list" = some (.type "list")) (pa_cons (pe_ix ix_list (pe_fld (pv 0) rfl) (Fw.pe_methX (pv 0) M.cl MM.me MM.ok hr4 MM.b (fun σ => passAt (W := fun cls d _ H => E cls d H) (takes_of rfl rfl rfl rfl) σ) (pa_cons (pv 1) pa_nil)) (fun _ _ => rfl)) pa_nil)))), ?_⟩
    obtain ⟨dx, c, r, d, rs, ho, inn⟩ := id sh
    refine ⟨_, rfl, o, _, dx, _, _, rfl, ho, M.cl, M.n2, sh_r c r d, _, rfl, o, dx, _, rfl, ho, sh_no c r d (by decide +kernel) (by decide +kernel) (by decide +kernel), _, rfl, o, mm, H0, gs, y, rfl, sh, ?_⟩
    rcases k with ⟨tx, er⟩ | ⟨z, rfl, er, k⟩
    · exact .inl ⟨tx, er⟩
    · refine .inr ⟨z, rfl, er, fun n en => ?_⟩
      have lt := M04.all_ok (gs.map cv) _ M04.init_ok _ _ en
      have lt : n < (M04.all (gs.map cv)).rows.length := lt
      have lr : n < rs.length := by
        rw [← inn.rv, List.length_map] at lt
        exact lt
      obtain ⟨zr, er'⟩ : ∃ zr, rs[n]? = some zr := ⟨_, List.getElem?_eq_getElem lr⟩
      obtain ⟨ro, ln, _, _, _⟩ := inn.rok zr (List.mem_of_getElem? er')
      refine ⟨r, _, (n : Int), _, rfl, rfl, SqL.of inn.rl, atI_nat (by rw [List.getElem?_map, er']; rfl), zr.1, _, rfl, .inl (SqL.of ro.l), fun l hl => ?_⟩
      have s1 := Same.upd (o := .lst (zr.2.map fun g => V.ref g.q)) hl
      refine k n en l zr.2 _ s1 upd_same hl (fun g hg => (ro.ok g hg).same s1) ln ?_
      rw [← inn.rv, List.getElem?_map, er']
      rfl
end
end K34
set_option Elab.async false
set_option linter.all false
set_option maxRecDepth 100000
set_option maxHeartbeats 4000000
set_option exponentiation.threshold 100000
namespace K34
open PySem PySem.Spec PyProof.Rows L2 Fa Fb
def spCmp (K : PySem.W.Frag) : Sp := fun vs H Q E => ∃ x y t u n, vs = [x, y] ∧ IsA K H x t u n ∧ ((Bad K H y ∧ Err (CV K) y H E) ∨ ∃ t2 u2 m, Arg K H y t2 u2 m ∧ n + m < 7000 ∧
  ∀ H', Same H H' → Q (.int (if t * u2 - t2 * u = 0 then 0 else if 0 < t * u2 - t2 * u then 1 else -1)) H')
abbrev sCmp : Stmt := inClass (top 29) 10
theorem scCmp : FnScope ["self", "other", "right", "difference"] ["self", "other"] (defScope sCmp) := ⟨rfl, rfl, rfl, by decide +kernel, rfl, by decide +kernel, by decide +kernel⟩
section
variable {P : Program} {w : World} {K : PySem.W.Frag} {mg : Str → Option Value} {base : Heap} {f fS : Addr} {fd fdS fdI : FuncData} {qv tv : Str} {fV : Addr}
abbrev sMul : Stmt := inClass (top 29) 6
theorem scMul : FnScope ["self", "other", "right"] ["self", "other"] (defScope sMul) := ⟨rfl, rfl, rfl, by decide +kernel, rfl, by decide +kernel, by decide +kernel⟩
theorem ok_mul (F : FunD K "__mul__" "Amount.__mul__" (defArgs sMul) (defBody sMul) (defScope sMul) [] [] f fd) (T : AF K mg) (GS : FnOk P w K mg base (L2.CX P w) 6 fS fdS ["value"] (spAs K)) (gS : mg "as_amount" = some (.ref fS)) (kS : PySem.W.keepIn K (.ref fS) = true) (bS : Binds K fdS ["value"] [])
    (GI : FnOk P w K mg base (L2.CX P w) 4 (aI K) fdI ["self", "top", "bottom"] (spInit K)) (bI : Binds K fdI ["self", "top", "bottom"] []) : FnOk P w K mg base (L2.CX P w) 7 f fd ["self", "other"] (spOp K (fun t _ t2 _ => t * t2) (fun _ u _ u2 => u * u2)) := by
  refine F.ok scMul (fun vs H Q E h => ?_) (fun cdv A outer s H vs Q E hr h => ?_)
  · obtain ⟨x, y, t, u, n, rfl, _⟩ := h
    rfl
  · obtain ⟨x, y, t, u, n, rfl, ix, q⟩ := h
    have hr1 := hr.mono (show 5 ≤ 6 by decide)
    refine ⟨_, pss_cons (ps_set (i := 2) scMul.nd rfl (Or.inl rfl) (pe_callS GS hr rfl gS kS bS (fun σ => passAt (W := fun cls d _ H => E cls d H) (takes_of rfl rfl rfl rfl) σ) (pa_cons (pv 1) pa_nil)))
      (pss_one (ps_ret (pe_make T.mkA GI hr1 rfl T.g bI .nil passL (pa_cons (pe_op op_mulW (pe_fld (pv 0) rfl) (pe_fld (pv 2) rfl)) (pa_cons (pe_op op_mulW (pe_fld (pv 0) rfl) (pe_fld (pv 2) rfl)) pa_nil))))), ?_⟩
    refine ⟨_, rfl, y, rfl, ?_⟩
    rcases q with ⟨hb, er⟩ | ⟨t2, u2, m, ar, hnm, q⟩
    · exact .inl ⟨hb, er⟩
    · refine .inr ⟨t2, u2, m, ar, fun z H' sm iz => ?_⟩
      have ix' := ix.same sm
      obtain ⟨p, dx, rfl, hp, r, b1, b2⟩ := id ix'
      obtain ⟨p2, dx2, rfl, hp2, r2, b3, b4⟩ := id iz
      refine ⟨_, rfl, p, CA K, dx, _, _, rfl, hp, T.cl, T.noT, fl_top _ _, ?_⟩
      refine ⟨_, rfl, p2, CA K, dx2, _, _, rfl, hp2, T.cl, T.noT, fl_top _ _, ?_⟩
      refine ⟨_, _, rfl, rfl, mulW_of b1 b3 (by omega), ?_⟩
      refine ⟨_, rfl, p, CA K, dx, _, _, rfl, hp, T.cl, T.noB, fl_bot _ _, ?_⟩
      refine ⟨_, rfl, p2, CA K, dx2, _, _, rfl, hp2, T.cl, T.noB, fl_bot _ _, ?_⟩
      refine ⟨_, _, rfl, rfl, mulW_of b2 b4 (by omega), ?_⟩
      have hu : u * u2 ≠ 0 := Int.mul_ne_zero (by have := r.1; omega) (by have := r2.1; omega)
      refine make_read T (n := n + m + 1) hu (by omega) ?_ ?_ fun y' H2 t' u' s2 i2 e => q y' H2 t' u' (sm.trans s2) i2 e
      · exact pow_step (abs_mul_lt b1 b3) (by omega)
      · exact pow_step (abs_mul_lt b2 b4) (by omega)
theorem ok_cmp (F : FunD K "compare" "Amount.compare" (defArgs sCmp) (defBody sCmp) (defScope sCmp) [] [] f fd) (T : AF K mg) (GS : FnOk P w K mg base (L2.CX P w) 6 fS fdS ["value"] (spAs K)) (gS : mg "as_amount" = some (.ref fS)) (kS : PySem.W.keepIn K (.ref fS) = true) (bS : Binds K fdS ["value"] []) :
    FnOk P w K mg base (L2.CX P w) 7 f fd ["self", "other"] (spCmp K) := by
  refine F.ok scCmp (fun vs H Q E h => ?_) (fun cdv A outer s H vs Q E hr h => ?_)
  · obtain ⟨x, y, t, u, n, rfl, _⟩ := h
    rfl
  · obtain ⟨x, y, t, u, n, rfl, ix, q⟩ := h
    refine ⟨_, pss_cons (ps_set (i := 2) scCmp.nd rfl (Or.inl rfl) (pe_callS GS hr rfl gS kS bS (fun σ => passAt (W := fun cls d _ H => E cls d H) (takes_of rfl rfl rfl rfl) σ) (pa_cons (pv 1) pa_nil)))
      (pss_cons (ps_set (i := 3) scCmp.nd rfl (Or.inl rfl) (pe_op op_sub (pe_op op_mulW (pe_fld (pv 0) rfl) (pe_fld (pv 2) rfl)) (pe_op op_mulW (pe_fld (pv 2) rfl) (pe_fld (pv 0) rfl))))
      (pss_cons (ps_if (pt_cmpR op_eq (pv 3) pe_int (nomark _)) (pss_one (ps_ret pe_int)) pss_nil)
      (pss_one (ps_ret (pe_ifExp (pt_cmpR op_gt (pv 3) pe_int (nomark _)) pe_int (pe_un un_neg pe_int)))))), ?_⟩
    refine ⟨_, rfl, y, rfl, ?_⟩
    rcases q with ⟨hb, er⟩ | ⟨t2, u2, m, ar, hnm, q⟩
    · exact .inl ⟨hb, er⟩
    · refine .inr ⟨t2, u2, m, ar, fun z H' sm iz => ?_⟩
      have ix' := ix.same sm
      have q := q H' sm
      obtain ⟨p, dx, rfl, hp, r, b1, b2⟩ := id ix'
      obtain ⟨p2, dx2, rfl, hp2, r2, b3, b4⟩ := id iz
      refine ⟨_, rfl, p, CA K, dx, _, _, rfl, hp, T.cl, T.noT, fl_top _ _, ?_⟩
      refine ⟨_, rfl, p2, CA K, dx2, _, _, rfl, hp2, T.cl, T.noB, fl_bot _ _, ?_⟩
      refine ⟨_, _, rfl, rfl, mulW_of b1 b4 (by omega), ?_⟩
      refine ⟨_, rfl, p2, CA K, dx2, _, _, rfl, hp2, T.cl, T.noT, fl_top _ _, ?_⟩
      refine ⟨_, rfl, p, CA K, dx, _, _, rfl, hp, T.cl, T.noB, fl_bot _ _, ?_⟩
      refine ⟨_, _, rfl, rfl, mulW_of b3 b2 (by omega), _, _, rfl, rfl, ?_⟩
      refine ⟨_, rfl, rfl, _, rfl, ?_⟩
      by_cases h0 : t * u2 - t2 * u = 0
      · rw [if_pos h0] at q
        refine if_true_of (decide_eq_true (congrArg V.int h0)) q
      · rw [if_neg h0] at q
        refine if_false_of (decide_eq_false fun z => h0 (V.int.inj z)) ?_
        refine ⟨_, rfl, _, _, rfl, rfl, _, rfl, ?_⟩
        by_cases h1 : 0 < t * u2 - t2 * u
        · rw [if_pos h1] at q
          exact if_true_of (decide_eq_true h1) q
        · rw [if_neg h1] at q
          exact if_false_of (decide_eq_false h1) ⟨_, rfl, q⟩
end
end K34
set_option linter.all false
/-! Rows of cues whose units are renamed and whose amounts are multiplied. -/
namespace M34
open PySem M04
structure Nice (ue : Str → Str) (a : Str → Rat) : Prop where
  inj : ∀ x y, ue x = ue y → x = y
  ne : ∀ u, a u ≠ 0
def gq (ue : Str → Str) (a : Str → Rat) (p : Str × Rat) : Str × Rat := (ue p.1, a p.1 * p.2)
def gR (ue : Str → Str) (a : Str → Rat) (r : Row) : Row := r.map (gq ue a)
def gc (ue : Str → Str) (a : Str → Rat) (c : Cue) : Cue := ⟨c.nm, c.pa, ue c.un, a c.un * c.q⟩
def gS (ue : Str → Str) (a : Str → Rat) (s : St) : St := ⟨s.rows.map (gR ue a), s.nums⟩
section
variable {ue : Str → Str} {a : Str → Rat}
theorem mul_inj {x y z : Rat} (h : x ≠ 0) (e : x * y = x * z) : y = z := by
  have e1 : x⁻¹ * (x * y) = x⁻¹ * (x * z) := by rw [e]
  rwa [← Rat.mul_assoc, ← Rat.mul_assoc, Rat.inv_mul_cancel x h, Rat.one_mul, Rat.one_mul] at e1
theorem mul_zero_iff {x y : Rat} (h : x ≠ 0) : x * y = 0 ↔ y = 0 := ⟨fun e => mul_inj h (by rw [e, Rat.mul_zero]), fun e => by rw [e, Rat.mul_zero]⟩
theorem gq_inj (n : Nice ue a) {p q : Str × Rat} (h : gq ue a p = gq ue a q) : p = q := by
  obtain ⟨p1, p2⟩ := p
  obtain ⟨q1, q2⟩ := q
  have h1 : ue p1 = ue q1 := congrArg Prod.fst h
  have h2 : a p1 * p2 = a q1 * q2 := congrArg Prod.snd h
  cases n.inj _ _ h1
  rw [mul_inj (n.ne p1) h2]
theorem gR_inj (n : Nice ue a) : ∀ {r s : Row}, gR ue a r = gR ue a s → r = s
  | [], [], _ => rfl
  | [], y :: s, h => by cases h
  | x :: r, [], h => by cases h
  | x :: r, y :: s, h => by
    have h1 := (List.cons.inj h).1
    have h2 := (List.cons.inj h).2
    rw [gq_inj n h1, gR_inj n h2]
theorem gR_part (n : Nice ue a) (r : Row) (u : Str) : part (gR ue a r) (ue u) = (gR ue a (part r u).1, a u * (part r u).2) := by
  unfold part
  have e : (gR ue a r).getLast? = r.getLast?.map (gq ue a) := List.getLast?_map ..
  rw [e]
  cases h : r.getLast? with
  | none => 
    simp only [Option.map_none]
    rw [Rat.mul_zero]
  | some p =>
    obtain ⟨w, v⟩ := p
    simp only [Option.map_some, gq]
    by_cases c : w = u
    · subst c
      simp [gR, List.map_dropLast]
    · have c2 : ¬ ue w = ue u := fun z => c (n.inj _ _ z)
      simp [c, c2, Rat.mul_zero]
theorem gR_ext (n : Nice ue a) (r : Row) (u : Str) (q : Rat) : ext (gR ue a r) (ue u) (a u * q) = gR ue a (ext r u q) := by
  unfold ext
  rw [gR_part n]
  have e : (gR ue a (part r u).1, a u * (part r u).2).2 + a u * q = a u * ((part r u).2 + q) := by rw [Rat.mul_add]
  rw [e]
  by_cases c : (part r u).2 + q = 0
  · rw [if_pos c, if_pos ((mul_zero_iff (n.ne u)).mpr c)]
  · rw [if_neg c, if_neg fun z => c ((mul_zero_iff (n.ne u)).mp z)]
    simp [gR, gq]
theorem getD_g (l : List Row) (i : Nat) : (l.map (gR ue a)).getD i [] = gR ue a (l.getD i []) := by
  rw [List.getD_eq_getElem?_getD, List.getD_eq_getElem?_getD, List.getElem?_map]
  cases l[i]? <;> rfl
theorem row_g (n : Nice ue a) (s : St) (c : Cue) : row (gS ue a s) (gc ue a c) = gR ue a (row s c) := by
  unfold row
  show ext ((s.rows.map (gR ue a)).getD ((num s.nums c.pa).getD 0) []) (ue c.un) (a c.un * c.q) = _
  rw [getD_g, gR_ext n]
theorem mem_g (n : Nice ue a) {l : List Row} {r : Row} : gR ue a r ∈ l.map (gR ue a) ↔ r ∈ l := by
  refine ⟨fun h => ?_, fun h => List.mem_map_of_mem h⟩
  obtain ⟨z, hz, e⟩ := List.mem_map.mp h
  rwa [← gR_inj n e]
theorem rows_g (n : Nice ue a) (s : St) (c : Cue) : rows (gS ue a s) (gc ue a c) = (rows s c).map (gR ue a) := by
  unfold rows
  rw [row_g n]
  show (if gR ue a (row s c) ∈ s.rows.map (gR ue a) then s.rows.map (gR ue a) else s.rows.map (gR ue a) ++ [gR ue a (row s c)]) = _
  by_cases h : row s c ∈ s.rows
  · rw [if_pos h, if_pos ((mem_g n).mpr h)]
  · rw [if_neg h, if_neg fun z => h ((mem_g n).mp z), List.map_append]
    rfl
theorem idx_g (n : Nice ue a) (l : List Row) (r : Row) : idx (l.map (gR ue a)) (gR ue a r) = idx l r := by
  unfold idx
  rw [List.findIdx_map]
  congr 1
  funext z
  show decide (gR ue a z = gR ue a r) = decide (z = r)
  by_cases c : z = r
  · rw [c]; simp
  · rw [decide_eq_false c, decide_eq_false fun e => c (gR_inj n e)]
theorem step_g (n : Nice ue a) (s : St) (c : Cue) : M04.step (gS ue a s) (gc ue a c) = gS ue a (M04.step s c) := by
  unfold M04.step
  rw [rows_g n, row_g n, idx_g n]
  rfl
theorem all_g (n : Nice ue a) : ∀ (cs : List Cue) (s : St), (cs.map (gc ue a)).foldl M04.step (gS ue a s) = gS ue a (cs.foldl M04.step s)
  | [], s => rfl
  | c :: r, s => by
    show ((r.map (gc ue a)).foldl M04.step (M04.step (gS ue a s) (gc ue a c))) = _
    rw [step_g n]
    exact all_g n r (M04.step s c)
theorem all_gc (n : Nice ue a) (cs : List Cue) : all (cs.map (gc ue a)) = gS ue a (all cs) := all_g n cs init
theorem len_gc (n : Nice ue a) (cs : List Cue) : (all (cs.map (gc ue a))).rows.length = (all cs).rows.length := by
  rw [all_gc n]
  exact List.length_map ..
theorem good_gc {cs : List Cue} (g : Good cs) : Good (cs.map (gc ue a)) := (good_iff _).mpr fun i c e => by
  rw [List.getElem?_map] at e
  cases h : cs[i]? with
  | none => rw [h] at e; cases e
  | some d =>
    rw [h] at e
    cases e
    have := (good_iff cs).mp g i d h
    rw [← List.map_take, List.map_map]
    exact this
end
/-- the other unit -/
def sw (z : Str) : Str := if z = "beats" then "seconds" else if z = "seconds" then "beats" else z
theorem sw_sw (z : Str) : sw (sw z) = z := by
  unfold sw
  by_cases h : z = "beats"
  · rw [if_pos h, if_neg (by decide +kernel), if_pos rfl, h]
  · rw [if_neg h]
    by_cases h2 : z = "seconds"
    · rw [if_pos h2, if_pos rfl, h2]
    · rw [if_neg h2, if_neg h, if_neg h2]
theorem nice_sw : Nice sw fun _ => 1 := ⟨fun x y e => by rw [← sw_sw x, e, sw_sw], fun _ => by decide⟩
theorem nice_neg : Nice id fun _ => -1 := ⟨fun x y e => e, fun _ => by decide⟩
theorem nice_by {u : Str} {b : Rat} (h : 0 < b) : Nice id fun z => if z = u then b else 1 := ⟨fun x y e => e, fun z => by
  show (if z = u then b else 1) ≠ 0
  by_cases c : z = u
  · rw [if_pos c]
    exact Ne.symm (Rat.ne_of_lt h)
  · rw [if_neg c]
    decide⟩
end M34
set_option Elab.async false
set_option linter.all false
set_option maxRecDepth 100000
set_option maxHeartbeats 4000000
/-! isinstance of a caught error of a class of one's own, the error has a dict. -/
namespace Xe
open PySem PySem.W PySem.Spec PySem.Calls PyProof.Rows
section
variable {prog : Program} {w : World} {A : Around} {E : Value → Shared → Prop} {s : Shared} {K : Frag} {x D : Addr} {ox od : Obj}
theorem classD {Q : Option Value → Shared → Prop} (ga : findIn K (.ref D) "__getattribute__" = some (some (.builtin "BaseException.__getattribute__"))) (gt : findIn K (.ref D) "__getattr__" = some none)
    (sb : subIn K (.ref D) (.type "BaseException") = some true) (hd : hasDictIn K D = true) (c1 : findIn K (.ref D) "__class__" = some (some (.builtin "object.__class__")))
    (c2 : specialIn K (.builtin "object.__class__") "__get__" = some (some (.builtin "getset_descriptor.__get__"))) (c3 : takesIn K (.builtin "object.__class__") = some true) (c4 : mroIn K D (.type "object") = some true)
    (X : K.In s.heap) (I : InstAt s.heap x ox D (some od)) (q : Q (some (.ref D)) { s with toks := s.toks + 1 }) : wpAny (model prog w) A (getAttr? (.ref x) "__class__") Q E s := by
  obtain ⟨cd, hcd, _⟩ := any_some hd
  have fo : findObj K D (some od) "__class__" = some (.bind (.builtin "getset_descriptor.__get__") (.builtin "object.__class__")) := findObj_data (by rw [hcd]; rfl) c1 c2 c3
  obtain ⟨hp, g, d, t, os⟩ := s
  have t0 := I.type (M := model prog w)
  have t1 := looks_findIn (M := model prog w) X ga
  have t2 := looks_findIn (M := model prog w) X gt
  have t3 := looks_find (M := model prog w) X I fo
  have isB : Looks (model prog w) hp (isInstance (.ref x) (.type "BaseException")) true := t0.andThen (looks_subIn X sb)
  have n0 : (false && onTheHeap (Value.builtin "BaseException.__getattribute__")) = false := rfl
  have n2 : (Value.builtin "BaseException.__getattribute__" == Value.builtin "object.__getattribute__") = false := by decide +kernel
  have n1 : (onTheHeap (Value.ref D) && Value.builtin "BaseException.__getattribute__" == Value.builtin "object.__getattribute__") = false := by
    rw [n2]
    rfl
  unfold getAttr? getAttrBy? getAttrBy
  refine wpAny_bind (wpAny_mkText (wpAny_bind (wpAny_attempt (wpAny_holding (wpAny_bind (t0.at (wpAny_bind (t1.at ?_))))))))
  show wpAny _ _ (if (onTheHeap (Value.ref D) && Value.builtin "BaseException.__getattribute__" == Value.builtin "object.__getattribute__") = true then _ else _) _ _ _
  rw [n1, if_neg Bool.false_ne_true]
  unfold getAttrByItsOwn hookBefore
  refine wpAny_bind ?_
  rw [if_pos (show onTheHeap (Value.ref D) = true from rfl)]
  refine t2.at ?_
  refine wpAny_bind (wpAny_attempt (wpAny_holding ?_))
  unfold callGetattribute
  rw [n0, if_neg Bool.false_ne_true]
  unfold boundAndCalled
  rw [PySem.F.excAttr_ValueError.ga.bind (.ref x)]
  refine wpAny_bind (wpAny_pure ?_)
  show wpAny _ _ (call (.builtin "BaseException.__getattribute__") [.ref x, .str "__class__" t]) _ _ _
  refine wpAny_call (codeAny_call_builtin PySem.F.excAttr_ValueError.ga.plain PySem.F.entry_bexc_ga ?_)
  refine @check_slot (model prog w) _ _ ⟨hp, g, d, t + 1, os⟩ "BaseException.__getattribute__" "BaseException" "__getattribute__" (.ref x) [.str "__class__" t] [] _ (by decide +kernel) (by decide +kernel) isB (PySem.F.args_bexc_ga (.ref x) (.str "__class__" t)) ?_
  unfold Builtin.«object.__getattribute__»
  refine wpAny_bind (wpAny_of_eq (a := ((Value.ref x : Value), [Value.str "__class__" t])) (by first | rfl | (simp only [slotArgs]; rfl)) ?_)
  refine wpAny_bind (wpAny_pure (wpAny_bind (t0.at (wpAny_bind (t3.at ?_)))))
  show wpAny _ _ (holding [Value.builtin "object.__class__"] (call (.builtin "getset_descriptor.__get__") [.builtin "object.__class__", .ref x, .ref D]) >>= ret) _ _ _
  refine wpAny_bind (wpAny_holding (wpAny_call (class_get (s := ⟨hp, g, d, t + 1, os⟩) (ox := ox) (od := some od) X I c4 ?_)))
  refine wpAny_pure ?_
  show wpAny _ _ (handedOut (.ref D)) _ _ _
  rw [handedOut_of (v := .ref D) rfl]
  first
    | exact wpAny_pure (wpAny_pure q)
    | exact wpAny_pure q
    | exact wpAny_pure (wpAny_bind (wpAny_pure (wpAny_pure q)))
theorem kitD (ga : findIn K (.ref D) "__getattribute__" = some (some (.builtin "BaseException.__getattribute__"))) (gt : findIn K (.ref D) "__getattr__" = some none) (sb : subIn K (.ref D) (.type "BaseException") = some true) (hd : hasDictIn K D = true)
    (c1 : findIn K (.ref D) "__class__" = some (some (.builtin "object.__class__"))) (c2 : specialIn K (.builtin "object.__class__") "__get__" = some (some (.builtin "getset_descriptor.__get__"))) (c3 : takesIn K (.builtin "object.__class__") = some true) (c4 : mroIn K D (.type "object") = some true) :
    KitX K (.ref x) (.ref D) (fun h => InstAt h x ox D (some od)) where
  ty := fun _ _ _ I => I.type
  it := fun _ _ X _ => by
    obtain ⟨cd, hcd, _⟩ := any_some hd
    unfold clsIn at hcd
    split at hcd
    · rename_i _ _ _ _ ho
      intro _ _ _ _ k q
      unfold isType loadHead
      exact wpAny_bind (wpAny_loadPart (k _ _ (X _ _ ho)) (wpAny_pure q))
    · cases hcd
  ne := fun h tp dd its n sl X htp => by
    obtain ⟨cd, hcd, _⟩ := any_some hd
    refine Bool.eq_false_iff.mpr fun q => ?_
    have e : D = tp := Value.ref.inj (beq_iff_eq.mp q)
    subst e
    unfold clsIn at hcd
    split at hcd
    · rename_i _ _ _ _ ho
      have z := (X _ _ ho).symm.trans htp
      cases z
    · cases hcd
  ca := fun X I k => classD ga gt sb hd c1 c2 c3 c4 X I k
end
end Xe
namespace Xe
open PySem PySem.Spec PyProof.Rows L2
def rIsD (K : PySem.W.Frag) (D a : Addr) (cls : Value) (d : Option Addr) : List V → Hp → VK → Prop := fun xs H Q => ∃ (c : V) (cv : Value) (b : Bool) (dd : Addr) (F : Str) (v : V), xs = [.ref a, c] ∧ cls = .ref D ∧ (∀ u, RelV c u → u = cv) ∧ d = some dd ∧ H dd = some (.xd [(F, v)]) ∧ PySem.W.kitOne K (.ref D) cv = some b ∧ Q (.bl b) H
theorem call_isD {X : Cx} {a D : Addr} {d : Option Addr} {oe : Obj} {pn : List (Addr × Obj)} {cls : Value} (C : ExcC X.K D) (hz : Zc cls d oe) (hf : ∃ vs, oe.data = .fields vs) : CallR (X.suite a ((a, oe) :: pn)) (.builtin "isinstance") (rIsD X.K D a cls d) := by
  intro pins s σ H xs us Q I r h
  obtain ⟨c, cv, b, dd, F, v, rfl, ec0, hcv, ed, ea, e, q⟩ := h
  subst ed
  subst ec0
  cases r with
  | cons rx rr =>
    cases rr with
    | cons rt rr =>
      cases rr
      cases rx
      have ec := hcv _ rt
      subst ec
      obtain ⟨hget, _⟩ := I.pin (a, oe) (List.mem_append.mpr (.inl List.mem_cons_self))
      obtain ⟨vs, hv⟩ := hf
      have hx : ObjOk X.prog X.w H s.heap dd (.xd [(F, v)]) := I.hok dd _ ea
      obtain ⟨mA, hns, hr⟩ := hx
      obtain ⟨od, ho, hl⟩ := lookIn_ns hns
      have J : PySem.W.InstAt s.heap a oe D (some od) := ⟨hget, hz.1, by unfold PySem.W.notCls; rw [hv] <;> rfl, by rw [hz.2]; exact ho⟩
      exact PySem.W.kia_one (kitD C.hg C.hk C.hs C.hd C.ha C.hn C.ht C.hm) I.kIn J e (fun z => nomatch z) fun tk => ⟨.bl b, H, I.kept (t' := tk) fun _ _ z => z, rfl, q⟩
end Xe
set_option Elab.async false
set_option linter.all false
set_option maxRecDepth 100000
set_option maxHeartbeats 4000000
/-! C(e, ..), which may raise, at the slots. -/
namespace Xm
open PySem PySem.Spec PyProof.Rows L2
section
variable {X : Cx} {CX : CXT} {k : Nat} {f C : Addr} {fd : FuncData} {ps : List Str} {sp : Sp} {E : L2.St → XK} {x : Str} {p pos : Pos} {e : Expr} {es : List Expr} {t : TA}
def tMakeX (C : Addr) (sp : Sp) (E : L2.St → XK) (t : TA) : TE := fun σ H Q => t σ H fun vs H1 => ∀ z dz, H1 z = none → H1 dz = none → dz ≠ z →
    sp (.ref z :: vs) (upd (upd H1 dz (.own z)) z (.ins C dz [])) (fun v H2 => v = .non ∧ Q (.ref z) H2) (E σ)
theorem run_makeX {pn : List (Addr × Obj)} {σ : L2.St} {H : Hp} {s : Shared} {Q : VK} {us : List Value} {vs : List V} (M : Mk X.K C f) (F : FnOk X.prog X.w X.K X.mg X.base CX k f fd ps sp) (hr : Room (k + 1) X.A) (hb : Binds X.K fd ps [])
    (px : PassesAt CX X σ (E σ)) (I : Inv X pn σ H s) (r : Vals vs us) (h : ∀ z dz, H z = none → H dz = none → dz ≠ z → sp (.ref z :: vs) (upd (upd H dz (.own z)) z (.ins C dz [])) (fun v H2 => v = .non ∧ Q (.ref z) H2) (E σ)) :
    wpAny (model X.prog X.w) X.A (call (.ref C) us) (EP X pn σ Q) X.xe s := by
  have hw := h (s.heap.objs.size + 1) s.heap.objs.size (I.hok.fresh (Nat.le_succ _)) (I.hok.fresh (Nat.le_refl _)) (Nat.ne_of_lt (Nat.lt_succ_self _))
  have J := Inv.made (C := C) I
  have rr : Vals (V.ref (s.heap.objs.size + 1) :: vs) (Value.ref (s.heap.objs.size + 1) :: us) := .cons rfl r
  have len : (Value.ref (s.heap.objs.size + 1) :: us).length = ps.length := rr.length.symm.trans (F.len _ _ _ _ hw)
  have bb := hb _ (Value.ref (s.heap.objs.size + 1) :: us) J.kIn (by rw [List.append_nil]; exact len)
  rw [List.append_nil] at bb
  refine wpAny_call (make_map (f := f) I.kIn M.makes M.init (beq_iff_eq.mp M.fn) (codeAny_mono (F.run _ X.stack _ _ ⟨Value.ref (s.heap.objs.size + 1) :: us, []⟩ (Value.ref (s.heap.objs.size + 1) :: us) _ _ (E σ) (hr.make C us []) (J.env0.make C us []) bb rr hw) fun res s2 out => ?_))
  match res, out with
  | .error er, out => exact px pn _ _ er s2 J out
  | .ok (.ret u), out =>
    obtain ⟨v, H3, I3, rv, ev, q3⟩ := J.after out
    cases ev
    exact ⟨rv, V.ref (s.heap.objs.size + 1), H3, I3, rfl, q3⟩
  | .ok .next, out => exact out.elim
  | .ok .brk, out => exact out.elim
  | .ok .cont, out => exact out.elim
theorem pe_makeX (M : Mk X.K C f) (F : FnOk X.prog X.w X.K X.mg X.base CX k f fd ps sp) (hr : Room (k + 1) X.A) (hg : Gl X x) (hm : X.mg x = some (.ref C)) (hb : Binds X.K fd ps []) (px : ∀ σ, PassesAt CX X σ (E σ)) (ha : PA X (e :: es) t)
    (nd : (x == ("__debug__" : Str)) = false := by decide) (he : starEach (e :: es) X.env = (false, eval e X.env) :: starEach es X.env := by rfl) (hpl : (backTo pos (starEach es X.env)).any (·.1) = false := by rfl) :
    PE X (.Call (.Name x p) (e :: es) [] pos) (tMakeX C sp E t) := by
  refine ⟨fun pn s σ H Q I h => ?_⟩
  refine wpAny_Call_Name_kw (ld_glob I hg hm ?_ nd)
  refine PySem.W.callWith_K (h₀ := X.base) I.ok.mod.kin M.kp (thn (ha.run pos pn s σ H _ I h) fun us s1 ⟨vs, H1, I1, r, q⟩ => ⟨I1.kIn, ?_⟩) he hpl
  exact run_makeX M F hr hb (px σ) I1 r q
end
end Xm
set_option Elab.async false
set_option linter.all false
set_option maxRecDepth 100000
set_option maxHeartbeats 1000000
set_option exponentiation.threshold 100000
namespace K34
open PySem PySem.Spec PyProof.Rows L2 Fa Fb
abbrev sChs : Stmt := top 40
theorem scChs : FnScope ["sheet"] ["sheet"] (defScope sChs) := ⟨rfl, rfl, rfl, by decide +kernel, rfl, by decide +kernel, by decide +kernel⟩
abbrev sOth : Stmt := top 27
theorem scOth : FnScope ["unit"] ["unit"] (defScope sOth) := ⟨rfl, rfl, rfl, by decide +kernel, rfl, by decide +kernel, by decide +kernel⟩
abbrev sExc : Stmt := top 45
theorem scExc : FnScope ["sheet", "name", "parent", "unit", "amount"] ["sheet"] (defScope sExc) := ⟨rfl, rfl, rfl, by decide +kernel, rfl, by decide +kernel, by decide +kernel⟩
abbrev sRev : Stmt := top 46
theorem scRev : FnScope ["sheet", "name", "parent", "unit", "amount"] ["sheet"] (defScope sRev) := ⟨rfl, rfl, rfl, by decide +kernel, rfl, by decide +kernel, by decide +kernel⟩
abbrev CIS (K : PySem.W.Frag) : Addr := He.ga K "InvalidSheet"
def NoSheet (K : PySem.W.Frag) (H : Hp) (y : V) : Prop := ∃ T, TyX K H y T ∧ PySem.W.kitOne K T (.ref (CS K)) = some false
def spChs (K : PySem.W.Frag) : Sp := fun vs H Q E => ∃ y, vs = [y] ∧ ((NoSheet K H y ∧ Err (CIS K) y H E) ∨ ∃ o mm H0 gs, y = .ref o ∧ ShAt K mm H0 H o gs ∧ Q .non H)
theorem Inn.base {K : PySem.W.Frag} {mm : Nat} {H1 H0 H : Hp} {c r d : Addr} {gs : List Cu} {rs : List (Addr × List It)} (h : Inn K mm H1 H c r d gs rs) (b : ∀ q, H1 q = none → H0 q = none) : Inn K mm H0 H c r d gs rs :=
  ⟨h.cl, h.cok, h.rl, fun z hz => let ⟨x, y, z', w⟩ := h.rok z hz; ⟨x, y, b _ z', w⟩, h.rv, h.dk, h.n, h.mm, b _ h.c0, b _ h.r0, b _ h.d0, h.cr, fun q z => b _ (h.old q z)⟩
theorem ShAt.base {K : PySem.W.Frag} {mm : Nat} {H1 H0 H : Hp} {o : Addr} {gs : List Cu} (h : ShAt K mm H1 H o gs) (b : ∀ q, H1 q = none → H0 q = none) : ShAt K mm H0 H o gs := let ⟨dx, c, r, d, rs, x, y⟩ := h; ⟨dx, c, r, d, rs, x, y.base b⟩
structure NgK (P : Program) (w : World) (K : PySem.W.Frag) (mg : Str → Option Value) (base : Heap) (f : Addr) (fd : FuncData) : Prop where
  at_ : PySem.W.findIn K (.ref (CA K)) "__neg__" = some (some (.ref f))
  fn : PySem.W.isFn K (.ref f) = true
  ok : FnOk P w K mg base (L2.CX P w) 6 f fd ["self"] (spUn K fun t => -t)
  b : Binds K fd ["self"] []
theorem vq_neg (t u : Int) : vq (-t) u = -vq t u := by
  unfold vq
  rw [Rat.intCast_neg]
  grind
def GoodS (cs : List M04.Cue) : Prop := M04.Good cs ∧ ∀ c ∈ cs, isName c.nm = true ∧ isUnit c.un = true
theorem GoodL.s {cs : List M04.Cue} (h : GoodL cs) : GoodS cs := ⟨h.1, fun c hc => ⟨(h.2 c hc).1, (h.2 c hc).2.2⟩⟩
/-- a list of i tuples that tell cues -/
def Ts (K : PySem.W.Frag) (n : Nat) (H : Hp) (D : Addr) (i : Nat) (cs : List M04.Cue) : Prop := ∃ xs : List Addr, xs.length = i ∧ H D = some (.lst (xs.map V.ref)) ∧ ∀ (j : Nat) it c, xs[j]? = some it → cs[j]? = some c → CueArg K n H it c
theorem Ts.nil {K : PySem.W.Frag} {n : Nat} {H : Hp} {D : Addr} {cs : List M04.Cue} (h : H D = some (.lst [])) : Ts K n H D 0 cs := ⟨[], rfl, h, fun j it c e => by cases e⟩
theorem Ts.app {K : PySem.W.Frag} {n i : Nat} {H H3 : Hp} {D q : Addr} {cs : List M04.Cue} {c : M04.Cue} {x : V} {t u : Int} (h : Ts K n H D i cs) (s : Same H H3) (e : cs[i]? = some c) (hq : H3 q = some (.tup [.str c.nm, .str c.pa, .str c.un, x])) (ar : Arg K H3 x t u n) (ev : vq t u = c.q) :
    ∃ ys, H3 D = some (.lst ys) ∧ ys.length = i ∧ Ts K n (upd H3 D (.lst (ys ++ [V.ref q]))) D (i + 1) cs := by
  obtain ⟨xs, xn, e1, ok⟩ := h
  have e1' := s _ _ e1
  have kt : KT H3 (upd H3 D (.lst (xs.map V.ref ++ [V.ref q]))) := KT.put e1'
  refine ⟨_, e1', by rw [List.length_map, xn], xs ++ [q], by rw [List.length_append, xn]; rfl, by rw [upd_same, List.map_append]; rfl, fun j it c' ej ec' => ?_⟩
  by_cases cj : j < i
  · rw [List.getElem?_append_left (by omega)] at ej
    obtain ⟨x, t, u, a1, a2, a3⟩ := (ok j it c' ej ec').same s
    rcases a1 with a1 | a1
    · refine ⟨x, t, u, .inl ?_, a2.kt kt, a3⟩
      rw [upd_ne fun e => ?_]
      · exact a1
      · rw [e, e1'] at a1
        have h1 := Option.some.inj a1
        have h2 := HO.lst.inj h1
        cases xs with
        | nil => cases h2
        | cons x r => cases (List.cons.inj h2).1
    · exact ⟨x, t, u, .inr (kt _ _ a1 (fun l e => by cases e)), a2.kt kt, a3⟩
  · have hj := (List.getElem?_eq_some_iff.mp ej).1
    rw [List.length_append] at hj
    have hj : j < xs.length + 1 := hj
    obtain rfl : j = i := by omega
    rw [List.getElem?_append_right (by omega), xn, Nat.sub_self] at ej
    cases ej
    rw [e] at ec'
    cases ec'
    exact ⟨x, t, u, .inr (kt _ _ hq (fun l e => by cases e)), ar.kt kt, ev⟩
/-- what a made sheet does -/
def MkP (K : PySem.W.Frag) (mm : Nat) (H : Hp) (cs : List M04.Cue) (x : Addr) (Q : VK) (E : XK) : Prop := match M34.told isName [] cs with
  | some b => ∀ H', Same H H' → BadE K b H' E
  | none => if 8 < (M04.all cs).rows.length then ∀ H', Same H H' → ErrM (CTm K) (.int 8) H' E else ∀ H' gs, Same H H' → ShAt K mm H H' x gs → gs.map cv = cs → Q .non H'
theorem make_any {K : PySem.W.Frag} {mm : Nat} {cs : List M04.Cue} {H : Hp} {a : Addr} {xs : List V} {Q : VK} {E : XK} (ha : H a = some (.lst xs) ∨ H a = some (.tup xs)) (hl : xs.length = cs.length) (hi : ∀ (i : Nat) c, cs[i]? = some c → ∃ it, xs[i]? = some (V.ref it) ∧ CueArg K mm H it c) (g : ∀ c ∈ cs, isUnit c.un = true ∧ c.nm.length ≤ 1000) (n : cs.length ≤ 20) (m1 : 1 ≤ mm) (m2 : mm ≤ 200)
    {x dx : Addr} (hx : H x = none) (hdx : H dx = none) (hne : dx ≠ x) (k : MkP K mm H cs x Q E) : spSI K [.ref x, .ref a] (upd (upd H dx (.own x)) x (.ins (CS K) dx [])) Q E := by
  have s : Same H (upd (upd H dx (.own x)) x (.ins (CS K) dx [])) := fun q ob hq => by
    rw [upd_ne (ne_of_none hq hx), upd_ne (ne_of_none hq hdx)]
    exact hq
  refine ⟨x, dx, a, xs, cs, mm, rfl, upd_same, ha.imp (s _ _) (s _ _), hl, fun i c e => ?_, g, n, m1, m2, ?_⟩
  · obtain ⟨it, e1, e2⟩ := hi i c e
    exact ⟨it, e1, e2.same s⟩
  · have sb : ∀ {H'}, Bt x (upd (upd H dx (.own x)) x (.ins (CS K) dx [])) H' → Same H H' := fun bt q ob hq => bt _ _ (ne_of_none hq hx) (s _ _ hq)
    unfold MkP at k
    unfold SiP
    cases h : M34.told isName [] cs with
    | some b =>
      rw [h] at k
      exact fun H' bt => k H' (sb bt)
    | none =>
      rw [h] at k
      by_cases c8 : 8 < (M04.all cs).rows.length
      · simp only [if_pos c8] at k ⊢
        exact fun H' bt => k H' (sb bt)
      · simp only [if_neg c8] at k ⊢
        exact fun H' gs bt sh ev => k H' gs (sb bt) (sh.base fun q hq => none_of s hq) ev
theorem mkP_good {K : PySem.W.Frag} {mm : Nat} {cs : List M04.Cue} {H : Hp} {x : Addr} {Q : VK} {E : XK} (g : GoodS cs) (r8 : (M04.all cs).rows.length ≤ 8) (k : ∀ H' gs, Same H H' → ShAt K mm H H' x gs → gs.map cv = cs → Q .non H') : MkP K mm H cs x Q E := by
  unfold MkP
  rw [M34.told_of g.1 fun c hc => (g.2 c hc).1]
  show if _ then _ else _
  rw [if_neg (by omega)]
  exact k
theorem make_ts {K : PySem.W.Frag} {mm i : Nat} {cs : List M04.Cue} {H : Hp} {a : Addr} {Q : VK} {E : XK} (h : Ts K mm H a i cs) (hi : i = cs.length) (g : ∀ c ∈ cs, isUnit c.un = true ∧ c.nm.length ≤ 1000) (n : cs.length ≤ 20) (m1 : 1 ≤ mm) (m2 : mm ≤ 200)
    {x dx : Addr} (hx : H x = none) (hdx : H dx = none) (hne : dx ≠ x) (k : MkP K mm H cs x Q E) : spSI K [.ref x, .ref a] (upd (upd H dx (.own x)) x (.ins (CS K) dx [])) Q E := by
  obtain ⟨xs, xn, e1, ok⟩ := h
  refine make_any (.inl e1) (by rw [List.length_map, xn, hi]) (fun j c e => ?_) g n m1 m2 hx hdx hne k
  have hj : j < xs.length := by
    rw [xn, hi]
    exact (List.getElem?_eq_some_iff.mp e).1
  exact ⟨xs[j], by rw [List.getElem?_map, List.getElem?_eq_getElem hj]; rfl, ok j _ c (List.getElem?_eq_getElem hj) e⟩
def spOth (K : PySem.W.Frag) : Sp := fun vs H Q _ => ∃ z : Str, vs = [.str z] ∧ isUnit z = true ∧ Q (.str (M34.sw z)) H
/-- a sheet made of another by g -/
def spMap (K : PySem.W.Frag) (g : M04.Cue → M04.Cue) : Sp := fun vs H Q E => ∃ y, vs = [y] ∧ ((NoSheet K H y ∧ Err (CIS K) y H E) ∨ ∃ o mm H0 gs, y = .ref o ∧ ShAt K mm H0 H o gs ∧ GoodS (gs.map cv) ∧ (M04.all (gs.map cv)).rows.length ≤ 8 ∧ ∀ x H' hs, Same H H' → ShAt K mm H H' x hs → hs.map cv = (gs.map cv).map g → Q (.ref x) H')
theorem sw_unit {z : Str} (h : isUnit z = true) : isUnit (M34.sw z) = true := by
  unfold isUnit at h
  rw [Bool.or_eq_true, decide_eq_true_iff, decide_eq_true_iff] at h
  rcases h with rfl | rfl <;> decide +kernel
theorem goodS_gc {ue : Str → Str} {a : Str → Rat} {cs : List M04.Cue} (g : GoodS cs) (u : ∀ z, isUnit z = true → isUnit (ue z) = true) : GoodS (cs.map (M34.gc ue a)) := ⟨M34.good_gc g.1, fun c hc => by
  obtain ⟨d, hd, rfl⟩ := List.mem_map.mp hc
  exact ⟨(g.2 d hd).1, u _ (g.2 d hd).2⟩⟩
theorem GoodS.ok {cs : List M04.Cue} (g : GoodS cs) : ∀ c ∈ cs, isUnit c.un = true ∧ c.nm.length ≤ 1000 := fun c hc => ⟨(g.2 c hc).2, Nat.le_trans (isName_len (g.2 c hc).1) (by decide)⟩
section
variable {P : Program} {w : World} {K : PySem.W.Frag} {mg : Str → Option Value} {base : Heap} {f f1 f2 f3 f4 fV fI : Addr} {fd fd1 fd2 fd3 fd4 fdI : FuncData} {qv tv : Str}
theorem ok_chs (F : FnP K "check_sheet" sChs f fd) (T : AF K mg) (MS : MF K mg) (gS : mg "InvalidSheet" = some (.ref (CIS K))) (XS : Xb.Txt P.main.file K qv "value" tv (CIS K) fV) (htop : (P.main.scope.names.lookup ("super" : Str)).isSome = false) (kS : PySem.W.kitOne K (.ref (CS K)) (.ref (CS K)) = some true)
    (ca : PySem.W.findIn K (.ref (CS K)) "__class__" = some (some (.builtin "object.__class__"))) (cm : PySem.W.mroIn K (CS K) (.type "object") = some true) : FnOk P w K mg base (L2.CX P w) 2 f fd ["sheet"] (spChs K) := by
  refine F.ok scChs (fun vs H Q E h => ?_) (fun cdv A outer s H vs Q E hr h => ?_)
  · obtain ⟨y, rfl, _⟩ := h
    rfl
  · obtain ⟨y, rfl, q⟩ := h
    refine ⟨_, (pss_one (ps_if (pt_not (pt_val (pe_isi T.isi (pv 0) (pe_glob (v := .ref (CS K)) rfl MS.g rfl)))) (pss_one (Xb.ps_raiseX (W := fun cls d _ H => E cls d H) rfl XS gS htop hr (takes_of rfl rfl rfl rfl) (pa_cons (pv 0) pa_nil))) pss_nil)), ?_⟩
    rcases q with ⟨⟨Ty, ty, kt⟩, er⟩ | ⟨o, mm, H0, gs, rfl, sh, k⟩
    · exact ⟨_, rfl, _, _, _, _, false, rfl, .own _, ty, kt, _, rfl, iteT ⟨_, rfl, _, rfl, er⟩⟩
    · obtain ⟨dx, c, r, d, rs, ho, inn⟩ := sh
      exact ⟨_, rfl, _, _, _, _, true, rfl, .own _, .base (.ins ho MS.cl ca T.cn T.ct cm), kS, _, rfl, iteF k⟩
theorem ok_oth (F : FnP K "other_unit" sOth f fd) (CK : Fn P w K mg base "check_unit" 2 ["unit"] (spChk K) f1 fd1) : FnOk P w K mg base (L2.CX P w) 3 f fd ["unit"] (spOth K) := by
  refine F.ok scOth (fun vs H Q E h => ?_) (fun cdv A outer s H vs Q E hr h => ?_)
  · obtain ⟨z, rfl, _⟩ := h
    rfl
  · obtain ⟨z, rfl, hu, k⟩ := h
    have hr2 := hr
    refine ⟨_, (pss_cons (ps_expr (pe_call CK.ok hr2 rfl CK.g CK.k CK.b .nil passL (pa_cons (pv 0) pa_nil)))
      (pss_one (ps_ret (pe_ifExp (pt_cmpR op_eq (pv 0) pe_str (nomark _)) pe_str pe_str)))), ?_⟩
    refine ⟨_, rfl, _, rfl, .inr ⟨z, rfl, fun e => ?_, fun _ => ?_⟩⟩
    · rw [hu] at e
      cases e
    · refine ⟨_, rfl, rfl, ?_⟩
      unfold M34.sw at k
      by_cases c : z = "beats"
      · rw [if_pos c] at k
        exact ⟨_, rfl, if_true_of (by subst c; rfl) k⟩
      · rw [if_neg c] at k
        have c2 : z = "seconds" := by
          unfold isUnit at hu
          rw [Bool.or_eq_true, decide_eq_true_iff, decide_eq_true_iff] at hu
          exact hu.resolve_left c
        rw [if_pos c2] at k
        exact ⟨_, rfl, if_false_of (by subst c2; rfl) k⟩
theorem ok_exc (F : FnP K "exchanged" sExc f fd) (T : AF K mg) (M : MF K mg) (MKS : Mk K (CS K) fI) (CH : Fn P w K mg base "check_sheet" 2 ["sheet"] (spChs K) f1 fd1) (CU : MeS P w K mg base "cues" 1 ["self"] (spCs K) f2 fd2) (OU : Fn P w K mg base "other_unit" 3 ["unit"] (spOth K) f3 fd3)
    (SI : FnOk P w K mg base (L2.CX P w) 10 fI fdI ["self", "cues"] (spSI K)) (bS : Binds K fdI ["self", "cues"] []) : FnOk P w K mg base (L2.CX P w) 12 f fd ["sheet"] (spMap K (M34.gc M34.sw fun _ => 1)) := by
  refine F.ok scExc (fun vs H Q E h => ?_) (fun cdv A outer s H vs Q E hr h => ?_)
  · obtain ⟨y, rfl, _⟩ := h
    rfl
  · obtain ⟨y, rfl, c⟩ := h
    have hr1 := hr.mono (show 1 ≤ 11 by decide)
    have hr2 := hr.mono (show 2 ≤ 11 by decide)
    have hr3 := hr.mono (show 3 ≤ 11 by decide)
    have hr6 := hr.mono (show 6 ≤ 11 by decide)
    have hr11 := hr.mono (show 11 ≤ 11 by decide)
    refine ⟨_, (pss_cons (ps_expr (pe_callS CH.ok hr2 rfl CH.g CH.k CH.b (fun σ => passAt (W := fun cls d _ H => E cls d H) (takes_of rfl rfl rfl rfl) σ) (pa_cons (pv 0) pa_nil)))
      (pss_one (ps_ret (pe_make MKS SI hr11 rfl M.g bS .nil passL (pa_cons (pe_lc (own := [("name", 1), ("parent", 2), ("unit", 3), ("amount", 4)]) (g := gTup K 4 (gCons (gName 1) (gCons (gName 2) (gCons (gName 3) (gCons (gName 4) gNil))))) (te := tTup (tCons (tVar 1) (tCons (tVar 2) (tCons (tCall (spOth K) [] E0 (tCons (tVar 3) tNil)) (tCons (tVar 4) tNil))))) (by rfl) scExc.nd (pi_list (pe_meth0 (pv 0) M.cl CU.me CU.ok hr1 CU.b .nil passL)) (blkOk_by (own := [("name", 1), ("parent", 2), ("unit", 3), ("amount", 4)]) (N := ["sheet", "name", "parent", "unit", "amount"]) (sc := defScope sExc) (by decide +kernel)) (fun _ _ _ _ _ => (pg_tup (by rfl) (pgs_cons (pg_name (i := 1) scExc.nd rfl (Or.inl rfl)) (pgs_cons (pg_name (i := 2) scExc.nd rfl (Or.inl rfl)) (pgs_cons (pg_name (i := 3) scExc.nd rfl (Or.inl rfl)) (pgs_cons (pg_name (i := 4) scExc.nd rfl (Or.inl rfl)) pgs_nil)))))) (fun _ _ _ _ _ => pts_nil) (fun _ _ _ _ _ => (pe_tup (pa_cons (pv 1) (pa_cons (pv 2) (pa_cons (pe_call OU.ok hr3 rfl OU.g OU.k OU.b .nil passL (pa_cons (pv 3) pa_nil)) (pa_cons (pv 4) pa_nil))))))) pa_nil))))), ?_⟩
    rcases c with ⟨ns, er⟩ | ⟨o, mm, H0, gs, rfl, sh, gd, r8, k⟩
    · exact ⟨_, rfl, y, rfl, .inl ⟨ns, er⟩⟩
    refine ⟨_, rfl, _, rfl, .inr ⟨o, mm, H0, gs, rfl, sh, ?_⟩⟩
    obtain ⟨dx, c, r, d, rs, ho, inn⟩ := id sh
    refine ⟨_, rfl, o, dx, _, rfl, ho, sh_no c r d (by decide +kernel) (by decide +kernel) (by decide +kernel), o, mm, H0, gs, rfl, sh, fun l H1 s1 hl l0 => ?_⟩
    refine ⟨l, rfl, ⟨_, SqL.of hl⟩, fun D hD => ?_⟩
    refine lc_list (K := K) (a := l) (xs := gs.map fun g => V.ref g.q) (fun i H' => Same H1 H' ∧ Ts K mm H' D i ((gs.map cv).map (M34.gc M34.sw fun _ => 1))) ⟨Same.upd hD, Ts.nil upd_same⟩ (fun i H' _ ⟨s, _⟩ => SqL.of (s _ _ hl)) ?_ ?_
    · rintro i x H2 hx ⟨s2, ts⟩
      obtain ⟨g, eg, rfl⟩ := map_at hx
      have hi := (List.getElem?_eq_some_iff.mp eg).1
      have hg := List.mem_of_getElem? eg
      have h20 := inn.n
      obtain ⟨g1, g2⟩ := (inn.cok g hg).same (s1.trans s2)
      have un := (gd.2 _ (List.mem_map_of_mem hg)).2
      refine ⟨g.q, _, rfl, SqT.of g1, rfl, _, _, rfl, _, _, rfl, _, _, rfl, _, _, rfl, rfl, rfl, ?_⟩
      refine ⟨_, rfl, _, rfl, _, rfl, g.un, rfl, un, _, rfl, by show 4 ≤ sizeLine; decide, fun q hq => ?_⟩
      have s3 := Same.upd (o := .tup [.str g.nm, .str g.pa, .str (M34.sw g.un), .ref g.a]) hq
      have e3 : upd H2 q (.tup [.str g.nm, .str g.pa, .str (M34.sw g.un), .ref g.a]) q = some (.tup [.str g.nm, .str g.pa, .str (M34.sw g.un), .ref g.a]) := upd_same
      generalize upd H2 q (.tup [.str g.nm, .str g.pa, .str (M34.sw g.un), .ref g.a]) = H3 at s3 e3 ⊢
      obtain ⟨ys, e4, yl, ts'⟩ := ts.app (c := M34.gc M34.sw (fun _ => 1) (cv g)) s3 (by rw [List.getElem?_map, List.getElem?_map, eg]; rfl) e3 (.inl (g2.same s3)) (by show _ = 1 * vq g.t g.u; rw [Rat.one_mul])
      exact ⟨_, e4, by rw [yl]; exact Nat.lt_of_lt_of_le (show i < 100 by omega) (by decide), same_put (s2.trans s3) hD, ts'⟩
    · rintro H2 ⟨s2, ts⟩
      rw [List.length_map] at ts
      have gd2 := goodS_gc (a := fun _ => 1) gd (fun z h => sw_unit h)
      refine fun x dx hx hdx hne => ?_
      refine make_ts ts (by rw [List.length_map, List.length_map]) gd2.ok (by rw [List.length_map, List.length_map]; exact inn.n) inn.mm.1 inn.mm.2 hx hdx hne (mkP_good gd2 (by rw [M34.len_gc M34.nice_sw]; exact r8) fun H3 hs s3 sh3 ev3 => ⟨rfl, ?_⟩)
      exact k x H3 hs ((s1.trans s2).trans s3) (sh3.base fun q hq => none_of (s1.trans s2) hq) ev3
theorem ok_rev (F : FnP K "reversed_sheet" sRev f fd) (T : AF K mg) (M : MF K mg) (MKS : Mk K (CS K) fI) (CH : Fn P w K mg base "check_sheet" 2 ["sheet"] (spChs K) f1 fd1) (CU : MeS P w K mg base "cues" 1 ["self"] (spCs K) f2 fd2) (NG : NgK P w K mg base f3 fd3)
    (SI : FnOk P w K mg base (L2.CX P w) 10 fI fdI ["self", "cues"] (spSI K)) (bS : Binds K fdI ["self", "cues"] []) : FnOk P w K mg base (L2.CX P w) 12 f fd ["sheet"] (spMap K (M34.gc id fun _ => -1)) := by
  refine F.ok scRev (fun vs H Q E h => ?_) (fun cdv A outer s H vs Q E hr h => ?_)
  · obtain ⟨y, rfl, _⟩ := h
    rfl
  · obtain ⟨y, rfl, c⟩ := h
    have hr1 := hr.mono (show 1 ≤ 11 by decide)
    have hr2 := hr.mono (show 2 ≤ 11 by decide)
    have hr3 := hr.mono (show 3 ≤ 11 by decide)
    have hr6 := hr.mono (show 6 ≤ 11 by decide)
    have hr11 := hr.mono (show 11 ≤ 11 by decide)
    refine ⟨_, (pss_cons (ps_expr (pe_callS CH.ok hr2 rfl CH.g CH.k CH.b (fun σ => passAt (W := fun cls d _ H => E cls d H) (takes_of rfl rfl rfl rfl) σ) (pa_cons (pv 0) pa_nil)))
      (pss_one (ps_ret (pe_make MKS SI hr11 rfl M.g bS .nil passL (pa_cons (pe_lc (own := [("name", 1), ("parent", 2), ("unit", 3), ("amount", 4)]) (g := gTup K 4 (gCons (gName 1) (gCons (gName 2) (gCons (gName 3) (gCons (gName 4) gNil))))) (te := tTup (tCons (tVar 1) (tCons (tVar 2) (tCons (tVar 3) (tCons (Fb.tUnX (CA K) (spUn K fun t => -t) (fun _ => E0) (tVar 4)) tNil))))) (by rfl) scRev.nd (pi_list (pe_meth0 (pv 0) M.cl CU.me CU.ok hr1 CU.b .nil passL)) (blkOk_by (own := [("name", 1), ("parent", 2), ("unit", 3), ("amount", 4)]) (N := ["sheet", "name", "parent", "unit", "amount"]) (sc := defScope sRev) (by decide +kernel)) (fun _ _ _ _ _ => (pg_tup (by rfl) (pgs_cons (pg_name (i := 1) scRev.nd rfl (Or.inl rfl)) (pgs_cons (pg_name (i := 2) scRev.nd rfl (Or.inl rfl)) (pgs_cons (pg_name (i := 3) scRev.nd rfl (Or.inl rfl)) (pgs_cons (pg_name (i := 4) scRev.nd rfl (Or.inl rfl)) pgs_nil)))))) (fun _ _ _ _ _ => pts_nil) (fun _ _ _ _ _ => (pe_tup (pa_cons (pv 1) (pa_cons (pv 2) (pa_cons (pv 3) (pa_cons (Fb.pe_negX NG.at_ NG.fn NG.ok hr6 NG.b passS (pv 4)) pa_nil))))))) pa_nil))))), ?_⟩
    rcases c with ⟨ns, er⟩ | ⟨o, mm, H0, gs, rfl, sh, gd, r8, k⟩
    · exact ⟨_, rfl, y, rfl, .inl ⟨ns, er⟩⟩
    refine ⟨_, rfl, _, rfl, .inr ⟨o, mm, H0, gs, rfl, sh, ?_⟩⟩
    obtain ⟨dx, c, r, d, rs, ho, inn⟩ := id sh
    refine ⟨_, rfl, o, dx, _, rfl, ho, sh_no c r d (by decide +kernel) (by decide +kernel) (by decide +kernel), o, mm, H0, gs, rfl, sh, fun l H1 s1 hl l0 => ?_⟩
    refine ⟨l, rfl, ⟨_, SqL.of hl⟩, fun D hD => ?_⟩
    refine lc_list (K := K) (a := l) (xs := gs.map fun g => V.ref g.q) (fun i H' => Same H1 H' ∧ Ts K mm H' D i ((gs.map cv).map (M34.gc id fun _ => -1))) ⟨Same.upd hD, Ts.nil upd_same⟩ (fun i H' _ ⟨s, _⟩ => SqL.of (s _ _ hl)) ?_ ?_
    · rintro i x H2 hx ⟨s2, ts⟩
      obtain ⟨g, eg, rfl⟩ := map_at hx
      have hi := (List.getElem?_eq_some_iff.mp eg).1
      have hg := List.mem_of_getElem? eg
      have h20 := inn.n
      have hmm := inn.mm
      obtain ⟨g1, g2⟩ := (inn.cok g hg).same (s1.trans s2)
      obtain ⟨pa, da, epa, hpa, rdg, _⟩ := id g2
      cases epa
      refine ⟨g.q, _, rfl, SqT.of g1, rfl, _, _, rfl, _, _, rfl, _, _, rfl, _, _, rfl, rfl, rfl, ?_⟩
      refine ⟨_, rfl, _, rfl, _, rfl, _, rfl, g.a, da, _, rfl, hpa, .ref g.a, g.t, g.u, mm, rfl, g2, by omega, fun z H3 t' u' s3 iz ez => ?_⟩
      refine ⟨by show 4 ≤ sizeLine; decide, fun q hq => ?_⟩
      have s4 := Same.upd (o := .tup [.str g.nm, .str g.pa, .str g.un, z]) hq
      have e4 : upd H3 q (.tup [.str g.nm, .str g.pa, .str g.un, z]) q = some (.tup [.str g.nm, .str g.pa, .str g.un, z]) := upd_same
      generalize upd H3 q (.tup [.str g.nm, .str g.pa, .str g.un, z]) = H4 at s4 e4 ⊢
      have rz : 0 < u' := by
        obtain ⟨_, _, _, _, r, _⟩ := iz
        exact r.1
      have ev : vq t' u' = -1 * vq g.t g.u := by
        rw [Rat.neg_mul, Rat.one_mul, ← vq_neg]
        exact (vq_eq (Int.ne_of_gt rz) (Int.ne_of_gt rdg.1)).mpr ez
      obtain ⟨ys, e5, yl, ts'⟩ := ts.app (c := M34.gc id (fun _ => -1) (cv g)) (s3.trans s4) (by rw [List.getElem?_map, List.getElem?_map, eg]; rfl) e4 (.inl (iz.same s4)) ev
      exact ⟨_, e5, by rw [yl]; exact Nat.lt_of_lt_of_le (show i < 100 by omega) (by decide), same_put (s2.trans (s3.trans s4)) hD, ts'⟩
    · rintro H2 ⟨s2, ts⟩
      rw [List.length_map] at ts
      have gd2 := goodS_gc (ue := id) (a := fun _ => -1) gd (fun z h => h)
      refine fun x dx hx hdx hne => ?_
      refine make_ts ts (by rw [List.length_map, List.length_map]) gd2.ok (by rw [List.length_map, List.length_map]; exact inn.n) inn.mm.1 inn.mm.2 hx hdx hne (mkP_good gd2 (by rw [M34.len_gc M34.nice_neg]; exact r8) fun H3 hs s3 sh3 ev3 => ⟨rfl, ?_⟩)
      exact k x H3 hs ((s1.trans s2).trans s3) (sh3.base fun q hq => none_of (s1.trans s2) hq) ev3
end
end K34
set_option Elab.async false
set_option linter.all false
set_option maxRecDepth 100000
set_option maxHeartbeats 1000000
set_option exponentiation.threshold 100000
namespace K34
open PySem PySem.Spec PyProof.Rows L2 Fa Fb
abbrev sStr : Stmt := top 47
theorem scStr : FnScope ["sheet", "unit", "by", "name", "parent", "own", "amount"] ["sheet", "unit", "by"] (defScope sStr) := ⟨rfl, rfl, rfl, by decide +kernel, rfl, by decide +kernel, by decide +kernel⟩

abbrev spMul (K : PySem.W.Frag) : Sp := spOp K (fun t _ t2 _ => t * t2) (fun _ u _ u2 => u * u2)
theorem Arg.mono {K : PySem.W.Frag} {H : Hp} {x : V} {t u : Int} {n m : Nat} (h : Arg K H x t u n) (e : n ≤ m) : Arg K H x t u m := h.imp (fun h => h.mono e) fun ⟨a, b, c, d⟩ => ⟨a, b, pow_step c e, by omega⟩
theorem CueArg.mono {K : PySem.W.Frag} {H : Hp} {it : Addr} {c : M04.Cue} {n m : Nat} (h : CueArg K n H it c) (e : n ≤ m) : CueArg K m H it c := let ⟨x, t, u, a, b, d⟩ := h; ⟨x, t, u, a, b.mono e, d⟩
theorem vq_posT {t u : Int} (h : 0 < u) (ht : 0 < t) : 0 < vq t u := by
  have := (vq_lt (t := 0) (u := 1) (t2 := t) (u2 := u) (by decide) h).mp (by omega)
  rwa [vq_zero] at this
/-- all cues of the unit z made by wide -/
abbrev wide (z : Str) (b : Rat) : M04.Cue → M04.Cue := M34.gc id fun w => if w = z then b else 1
def spStr (K : PySem.W.Frag) : Sp := fun vs H Q E => ∃ y uu b, vs = [y, uu, b] ∧ ((NoSheet K H y ∧ Err (CIS K) y H E) ∨ ∃ o mm H0 gs, y = .ref o ∧ ShAt K mm H0 H o gs ∧ ((Tx K H uu false ∧ Err (CU K) uu H E) ∨ ∃ z, uu = .str z ∧ ((isUnit z = false ∧ Err (CU K) uu H E) ∨ (isUnit z = true ∧ ((Bad K H b ∧ Err (CV K) b H E) ∨
  ∃ t u n, Arg K H b t u n ∧ n ≤ 100 ∧ ((t ≤ 0 ∧ ∀ H', Same H H' → Err (CV K) b H' E) ∨ (0 < t ∧ mm + n + 1 ≤ 200 ∧ GoodS (gs.map cv) ∧ (M04.all (gs.map cv)).rows.length ≤ 8 ∧ ∀ x H' hs, Same H H' → ShAt K (mm + n + 1) H H' x hs → hs.map cv = (gs.map cv).map (wide z (vq t u)) → Q (.ref x) H')))))))
section
variable {P : Program} {w : World} {K : PySem.W.Frag} {mg : Str → Option Value} {base : Heap} {f f1 f2 f3 f4 f5 f6 f7 fV fI : Addr} {fd fd1 fd2 fd3 fd4 fd5 fd6 fd7 fdI : FuncData} {qv tv : Str}
theorem ok_str (F : FnP K "stretched" sStr f fd) (T : AF K mg) (M : MF K mg) (MKS : Mk K (CS K) fI) (CH : Fn P w K mg base "check_sheet" 2 ["sheet"] (spChs K) f1 fd1) (CU : MeS P w K mg base "cues" 1 ["self"] (spCs K) f2 fd2) (CK : Fn P w K mg base "check_unit" 2 ["unit"] (spChk K) f3 fd3) (IA : Fn P w K mg base "is_amount" 2 ["value"] (spIsA K) f4 fd4)
    (AS : Fn P w K mg base "as_amount" 6 ["value"] (spAs K) f5 fd5) (CM : MeK P w K mg base "compare" 7 (spCmp K) f6 fd6) (OM : OpK P w K mg base "mul" 7 (spMul K) f7 fd7) (XV : Xb.Txt P.main.file K qv "value" tv (CV K) fV) (htop : (P.main.scope.names.lookup ("super" : Str)).isSome = false)
    (SI : FnOk P w K mg base (L2.CX P w) 10 fI fdI ["self", "cues"] (spSI K)) (bS : Binds K fdI ["self", "cues"] []) : FnOk P w K mg base (L2.CX P w) 12 f fd ["sheet", "unit", "by"] (spStr K) := by
  refine F.ok scStr (fun vs H Q E h => ?_) (fun cdv A outer s H vs Q E hr h => ?_)
  · obtain ⟨y, uu, b, rfl, _⟩ := h
    rfl
  · obtain ⟨y, uu, b, rfl, c⟩ := h
    have hr1 := hr.mono (show 1 ≤ 11 by decide)
    have hr2 := hr.mono (show 2 ≤ 11 by decide)
    have hr6 := hr.mono (show 6 ≤ 11 by decide)
    have hr7 := hr.mono (show 7 ≤ 11 by decide)
    have hr11 := hr.mono (show 11 ≤ 11 by decide)
    refine ⟨_, (pss_cons (ps_expr (pe_callS CH.ok hr2 rfl CH.g CH.k CH.b (fun σ => passAt (W := fun cls d _ H => E cls d H) (takes_of rfl rfl rfl rfl) σ) (pa_cons (pv 0) pa_nil)))
      (pss_cons (ps_expr (pe_callS CK.ok hr2 rfl CK.g CK.k CK.b (fun σ => passAt (W := fun cls d _ H => E cls d H) (takes_of rfl rfl rfl rfl) σ) (pa_cons (pv 1) pa_nil)))
      (pss_cons (ps_if (PW.pt (pw_or (pt_not (pt_val (pe_call IA.ok hr2 rfl IA.g IA.k IA.b .nil passL (pa_cons (pv 2) pa_nil)))) (pw_or1 (pt_cmpR op_le (pe_meth (pe_call AS.ok hr6 rfl AS.g AS.k AS.b .nil passL (pa_cons (pv 2) pa_nil)) T.cl CM.me CM.ok hr7 CM.b .nil passL (pa_cons pe_int pa_nil)) pe_int (nomark _))))) (pss_one (Xb.ps_raiseX (W := fun cls d _ H => E cls d H) rfl XV T.gV htop hr2 (takes_of rfl rfl rfl rfl) (pa_cons (pv 2) pa_nil))) pss_nil)
      (pss_one (ps_ret (pe_make MKS SI hr11 rfl M.g bS .nil passL (pa_cons (pe_lc (own := [("name", 3), ("parent", 4), ("own", 5), ("amount", 6)]) (g := gTup K 4 (gCons (gName 3) (gCons (gName 4) (gCons (gName 5) (gCons (gName 6) gNil))))) (te := tTup (tCons (tVar 3) (tCons (tVar 4) (tCons (tVar 5) (tCons (tIf (tTest (tOp rEq (tVar 5) (tVar 1))) (Fb.tBinX K (CA K) "mul" (spMul K) (fun _ => E0) (tVar 6) (tVar 2)) (tVar 6)) tNil))))) (by rfl) scStr.nd (pi_list (pe_meth0 (pv 0) M.cl CU.me CU.ok hr1 CU.b .nil passL)) (blkOk_by (own := [("name", 3), ("parent", 4), ("own", 5), ("amount", 6)]) (N := ["sheet", "unit", "by", "name", "parent", "own", "amount"]) (sc := defScope sStr) (by decide +kernel)) (fun _ _ _ _ _ => (pg_tup (by rfl) (pgs_cons (pg_name (i := 3) scStr.nd rfl (Or.inl rfl)) (pgs_cons (pg_name (i := 4) scStr.nd rfl (Or.inl rfl)) (pgs_cons (pg_name (i := 5) scStr.nd rfl (Or.inl rfl)) (pgs_cons (pg_name (i := 6) scStr.nd rfl (Or.inl rfl)) pgs_nil)))))) (fun _ _ _ _ _ => pts_nil) (fun _ _ _ _ _ => (pe_tup (pa_cons (pv 3) (pa_cons (pv 4) (pa_cons (pv 5) (pa_cons (pe_ifExp (pt_cmpR op_eq (pv 5) (pv 1) (nomark _)) (pe_binX (op := .Mult) OM.op.own OM.ok hr7 OM.b passS (pv 6) (pv 2)) (pv 6)) pa_nil))))))) pa_nil))))))), ?_⟩
    rcases c with ⟨ns, er⟩ | ⟨o, mm, H0, gs, rfl, sh, c⟩
    · exact ⟨_, rfl, y, rfl, .inl ⟨ns, er⟩⟩
    refine ⟨_, rfl, _, rfl, .inr ⟨o, mm, H0, gs, rfl, sh, ?_⟩⟩
    rcases c with ⟨tx, er⟩ | ⟨z, rfl, c⟩
    · exact ⟨_, rfl, uu, rfl, .inl ⟨tx, er⟩⟩
    rcases c with ⟨hz, er⟩ | ⟨hz, c⟩
    · exact ⟨_, rfl, _, rfl, .inr ⟨z, rfl, fun _ => er, fun e => by rw [hz] at e; cases e⟩⟩
    refine ⟨_, rfl, _, rfl, .inr ⟨z, rfl, (fun e => by rw [hz] at e; cases e), fun _ => ?_⟩⟩
    rcases c with ⟨⟨Ty, hT, ty, wh⟩, er⟩ | ⟨t, u, n, ar, hn, c⟩
    · exact ⟨_, rfl, b, _, false, false, rfl, ty, T.kT Ty hT, wh, false, rfl, if_true_of (by rfl) ⟨_, rfl, _, rfl, er⟩⟩
    obtain ⟨ty1, c1, c2, d1, d2, d3, d4⟩ := arg_am T ar
    refine ⟨_, rfl, b, ty1, c1, c2, rfl, d1, d2, d3, _, rfl, ?_⟩
    rw [d4]
    refine if_false_of (by rfl) ?_
    refine ⟨_, rfl, b, rfl, .inr ⟨t, u, n, ar, fun y1 H1 s1 ia => ?_⟩⟩
    obtain ⟨p1, dx1, rfl, hp1, rd1, _⟩ := id ia
    refine ⟨p1, dx1, _, rfl, hp1, fl_no _ _ (by decide +kernel) (by decide +kernel), _, _, t, u, n, rfl, ia, .inr ⟨0, 1, 1, .inr ⟨rfl, rfl, by decide, by decide⟩, by omega, fun H2 s2 => ?_⟩⟩
    have ec : t * 1 - 0 * u = t := by omega
    rw [ec]
    have s12 := s1.trans s2
    refine ⟨_, _, rfl, rfl, _, rfl, ?_⟩
    rcases c with ⟨h0, er⟩ | ⟨h0, m200, gd, r8, k⟩
    · refine if_true_of (decide_eq_true ?_) ⟨_, rfl, _, rfl, er _ s12⟩
      by_cases e : t = 0
      · rw [if_pos e]
        decide
      · rw [if_neg e, if_neg (by omega)]
        decide
    refine if_false_of (decide_eq_false ?_) ?_
    · rw [if_neg (by omega), if_pos h0]
      decide
    have sh2 := sh.same s12
    obtain ⟨dx, c, r, d, rs, ho, inn⟩ := id sh2
    have h20 := inn.n
    have hmm := inn.mm
    have arb := ar.same s12
    have nb : M34.Nice id fun w => if w = z then vq t u else 1 := M34.nice_by (vq_posT rd1.1 h0)
    refine ⟨_, rfl, o, dx, _, rfl, ho, sh_no c r d (by decide +kernel) (by decide +kernel) (by decide +kernel), o, mm, H0, gs, rfl, sh2, fun l H3 s3 hl l0 => ?_⟩
    refine ⟨l, rfl, ⟨_, SqL.of hl⟩, fun D hD => ?_⟩
    refine lc_list (K := K) (a := l) (xs := gs.map fun g => V.ref g.q) (fun i H' => Same H3 H' ∧ Ts K (mm + n + 1) H' D i ((gs.map cv).map (wide z (vq t u)))) ⟨Same.upd hD, Ts.nil upd_same⟩ (fun i H' _ ⟨s, _⟩ => SqL.of (s _ _ hl)) ?_ ?_
    · rintro i x H4 hx ⟨s4, ts⟩
      obtain ⟨g, eg, rfl⟩ := map_at hx
      have hi := (List.getElem?_eq_some_iff.mp eg).1
      have hg := List.mem_of_getElem? eg
      obtain ⟨g1, g2⟩ := (inn.cok g hg).same (s3.trans s4)
      obtain ⟨pa, da, epa, hpa, rdg, _⟩ := id g2
      cases epa
      refine ⟨g.q, _, rfl, SqT.of g1, rfl, _, _, rfl, _, _, rfl, _, _, rfl, _, _, rfl, rfl, rfl, ?_⟩
      have fin : ∀ (x : V) (t' u' : Int) H5, Same H4 H5 → IsA K H5 x t' u' (mm + n + 1) → vq t' u' = (if g.un = z then vq t u else 1) * vq g.t g.u → 4 ≤ sizeLine ∧ ∀ q, H5 q = none → ∃ ys, upd H5 q (.tup [.str g.nm, .str g.pa, .str g.un, x]) D = some (.lst ys) ∧ ys.length < sizeLine ∧ Same H3 (upd (upd H5 q (.tup [.str g.nm, .str g.pa, .str g.un, x])) D (.lst (ys ++ [.ref q]))) ∧ Ts K (mm + n + 1) (upd (upd H5 q (.tup [.str g.nm, .str g.pa, .str g.un, x])) D (.lst (ys ++ [.ref q]))) D (i + 1) ((gs.map cv).map (wide z (vq t u))) := fun x t' u' H5 s5 ix ev => by
        refine ⟨by decide, fun q hq => ?_⟩
        have s6 := Same.upd (o := .tup [.str g.nm, .str g.pa, .str g.un, x]) hq
        have e6 : upd H5 q (.tup [.str g.nm, .str g.pa, .str g.un, x]) q = some (.tup [.str g.nm, .str g.pa, .str g.un, x]) := upd_same
        generalize upd H5 q (.tup [.str g.nm, .str g.pa, .str g.un, x]) = H6 at s6 e6 ⊢
        obtain ⟨ys, e7, yl, ts'⟩ := ts.app (c := wide z (vq t u) (cv g)) (s5.trans s6) (by rw [List.getElem?_map, List.getElem?_map, eg]; rfl) e6 (.inl (ix.same s6)) ev
        exact ⟨ys, e7, by rw [yl]; exact Nat.lt_of_lt_of_le (show i < 100 by omega) (by decide), same_put (s4.trans (s5.trans s6)) hD, ts'⟩
      refine ⟨_, rfl, _, rfl, _, rfl, _, rfl, _, rfl, rfl, _, rfl, ?_⟩
      by_cases cz : g.un = z
      · refine if_true_of (decide_eq_true (congrArg V.str cz)) ?_
        refine ⟨_, rfl, _, rfl, g.a, da, _, rfl, hpa, OM.op.arg (arb.same (s3.trans s4)), _, _, g.t, g.u, mm, rfl, g2, .inr ⟨t, u, n, arb.same (s3.trans s4), by omega, fun zz H5 t' u' s5 iz ez => ?_⟩⟩
        have rz : 0 < u' := by
          obtain ⟨_, _, _, _, r, _⟩ := iz
          exact r.1
        refine fin zz t' u' H5 s5 iz ?_
        rw [if_pos cz, Rat.mul_comm]
        exact vq_mul (Int.ne_of_gt rdg.1) (Int.ne_of_gt rd1.1) (Int.ne_of_gt rz) ez
      · refine if_false_of (decide_eq_false fun e => cz (V.str.inj e)) ⟨_, rfl, ?_⟩
        refine fin (.ref g.a) g.t g.u H4 (Same.refl _) (g2.mono (by omega)) ?_
        rw [if_neg cz, Rat.one_mul]
    · rintro H4 ⟨s4, ts⟩
      rw [List.length_map] at ts
      have gd2 := goodS_gc (ue := id) (a := fun w => if w = z then vq t u else 1) gd (fun z h => h)
      have s14 := s12.trans (s3.trans s4)
      refine fun x dx hx hdx hne => ?_
      refine make_ts ts (by rw [List.length_map, List.length_map]) gd2.ok (by rw [List.length_map, List.length_map]; exact inn.n) (by omega) m200 hx hdx hne (mkP_good gd2 (by rw [M34.len_gc nb]; exact r8) fun H5 hs s5 sh5 ev5 => ⟨rfl, ?_⟩)
      exact k x H5 hs (s14.trans s5) (sh5.base fun q hq => none_of s14 hq) ev5
end
end K34
set_option Elab.async false
set_option linter.all false
set_option maxRecDepth 100000
set_option maxHeartbeats 1000000
set_option exponentiation.threshold 100000
namespace K34
open PySem PySem.Spec PyProof.Rows L2 Fa Fb
abbrev sAtt : Stmt := top 48
theorem scAtt : FnScope ["sheet", "other", "at", "prefix", "new", "name", "parent", "unit", "amount"] ["sheet", "other", "at", "prefix"] (defScope sAtt) := ⟨rfl, rfl, rfl, by decide +kernel, rfl, by decide +kernel, by decide +kernel⟩
abbrev rAS : R2 := fun x y H Q => ∃ i j, x = V.str i ∧ y = V.str j ∧ i.length + j.length ≤ sizeLine ∧ Q (V.str (i ++ j)) H
/-- the cue c hung up at z, by names that begin with pf -/
def hung (z pf : Str) (c : M04.Cue) : M04.Cue := ⟨pf ++ c.nm, if c.pa = "start" then z else pf ++ c.pa, c.un, c.q⟩
def AttP (K : PySem.W.Frag) (mm : Nat) (H : Hp) (cs : List M04.Cue) (Q : VK) (E : XK) : Prop := match M34.told isName [] cs with
  | some b => ∀ H', Same H H' → BadE K b H' E
  | none => if 8 < (M04.all cs).rows.length then ∀ H', Same H H' → ErrM (CTm K) (.int 8) H' E else ∀ x H' gs, Same H H' → ShAt K mm H H' x gs → gs.map cv = cs → Q (.ref x) H'
theorem attP_mk {K : PySem.W.Frag} {mm : Nat} {H H1 : Hp} {cs : List M04.Cue} {Q : VK} {E : XK} (k : AttP K mm H cs Q E) (s : Same H H1) (x : Addr) : MkP K mm H1 cs x (fun v H2 => v = .non ∧ Q (.ref x) H2) E := by
  unfold MkP
  unfold AttP at k
  cases h : M34.told isName [] cs with
  | some b =>
    rw [h] at k
    exact fun H' s' => k H' (s.trans s')
  | none =>
    rw [h] at k
    by_cases c8 : 8 < (M04.all cs).rows.length
    · simp only [if_pos c8] at k ⊢
      exact fun H' s' => k H' (s.trans s')
    · simp only [if_neg c8] at k ⊢
      exact fun H' gs s' sh ev => ⟨trivial, k x H' gs (s.trans s') (sh.base fun q hq => none_of s hq) ev⟩
def spAtt (K : PySem.W.Frag) : Sp := fun vs H Q E => ∃ y y2 za zp, vs = [y, y2, za, zp] ∧ ((NoSheet K H y ∧ Err (CIS K) y H E) ∨ ∃ o m1 H1 gs, y = .ref o ∧ ShAt K m1 H1 H o gs ∧ ((NoSheet K H y2 ∧ Err (CIS K) y2 H E) ∨ ∃ o2 m2 H2 hs, y2 = .ref o2 ∧ ShAt K m2 H2 H o2 hs ∧
  ((Tx K H za false ∧ ErrL (CUn K) za H E) ∨ ∃ z, za = .str z ∧ ((M04.num (M04.all (gs.map cv)).nums z = none ∧ ErrL (CUn K) za H E) ∨ ((M04.num (M04.all (gs.map cv)).nums z).isSome = true ∧ ((Tx K H zp false ∧ Err (CNm K) zp H E) ∨ ∃ pf : Str, zp = .str pf ∧ pf.length ≤ 100000 ∧ ((isName pf = false ∧ ∀ H', Same H H' → Err (CNm K) zp H' E) ∨
  (isName pf = true ∧ GoodS (gs.map cv) ∧ GoodS (hs.map cv) ∧ gs.length + hs.length ≤ 20 ∧ ∃ m, m1 ≤ m ∧ m2 ≤ m ∧ m ≤ 200 ∧ AttP K m H (gs.map cv ++ (hs.map cv).map (hung z pf)) Q E))))))))
theorem num_in {cs : List M04.Cue} {z : Str} (g : GoodS cs) {c : M04.Cue} (h : c ∈ cs) : c.pa ∈ ("start" : Str) :: cs.map (·.nm) := by
  obtain ⟨i, hi, e⟩ := List.mem_iff_getElem.mp h
  have := ((M04.good_iff cs).mp g.1 i c (by rw [List.getElem?_eq_getElem hi, e])).2
  rcases List.mem_cons.mp this with h | h
  · rw [h]; exact List.mem_cons_self
  · refine List.mem_cons_of_mem _ ?_
    rw [List.map_take] at h
    exact List.mem_of_mem_take h
theorem pa_len {cs : List M04.Cue} (g : GoodS cs) {c : M04.Cue} (h : c ∈ cs) : c.pa.length ≤ 8 := by
  rcases List.mem_cons.mp (num_in (z := "start") g h) with e | e
  · rw [e]; decide +kernel
  · obtain ⟨d, hd, ed⟩ := List.mem_map.mp e
    rw [← ed]
    exact isName_len (g.2 d hd).1
theorem len_app (a b : Str) : (a ++ b).length = a.length + b.length := by
  rw [len_cl, cl_app, List.length_append, len_cl a, len_cl b]
section
variable {P : Program} {w : World} {K : PySem.W.Frag} {mg : Str → Option Value} {base : Heap} {f f1 f2 f3 f4 fV fI : Addr} {fd fd1 fd2 fd3 fd4 fdI : FuncData} {qv tv : Str}
theorem ok_att (F : FnP K "attached" sAtt f fd) (T : AF K mg) (M : MF K mg) (MKS : Mk K (CS K) fI) (hSt : ∃ t, mg "START" = some (.str "start" t)) (CH : Fn P w K mg base "check_sheet" 2 ["sheet"] (spChs K) f1 fd1) (CU : MeS P w K mg base "cues" 1 ["self"] (spCs K) f2 fd2) (CN : Fn P w K mg base "check_known" 3 ["sheet", "name"] (spCN K) f3 fd3) (NA : Fn P w K mg base "is_name" 2 ["value"] (spName K) f4 fd4)
    (gN : mg "InvalidName" = some (.ref (CNm K))) (XN : Xb.Txt P.main.file K qv "value" tv (CNm K) fV) (htop : (P.main.scope.names.lookup ("super" : Str)).isSome = false)
    (SI : FnOk P w K mg base (L2.CX P w) 10 fI fdI ["self", "cues"] (spSI K)) (bS : Binds K fdI ["self", "cues"] []) : FnOk P w K mg base (L2.CX P w) 12 f fd ["sheet", "other", "at", "prefix"] (spAtt K) := by
  obtain ⟨tS, hSt⟩ := hSt
  refine F.ok scAtt (fun vs H Q E h => ?_) (fun cdv A outer s H vs Q E hr h => ?_)
  · obtain ⟨y, y2, za, zp, rfl, _⟩ := h
    rfl
  · obtain ⟨y, y2, za, zp, rfl, c⟩ := h
    have hr1 := hr.mono (show 1 ≤ 11 by decide)
    have hr2 := hr.mono (show 2 ≤ 11 by decide)
    have hr3 := hr.mono (show 3 ≤ 11 by decide)
    have hr11 := hr.mono (show 11 ≤ 11 by decide)
    refine ⟨_, (pss_cons (ps_expr (pe_callS CH.ok hr2 rfl CH.g CH.k CH.b (fun σ => passAt (W := fun cls d _ H => E cls d H) (takes_of rfl rfl rfl rfl) σ) (pa_cons (pv 0) pa_nil)))
      (pss_cons (ps_expr (pe_callS CH.ok hr2 rfl CH.g CH.k CH.b (fun σ => passAt (W := fun cls d _ H => E cls d H) (takes_of rfl rfl rfl rfl) σ) (pa_cons (pv 1) pa_nil)))
      (pss_cons (ps_expr (pe_callS CN.ok hr3 rfl CN.g CN.k CN.b (fun σ => passAt (W := fun cls d _ H => E cls d H) (takes_of rfl rfl rfl rfl) σ) (pa_cons (pv 0) (pa_cons (pv 2) pa_nil))))
      (pss_cons (ps_if (pt_not (pt_val (pe_call NA.ok hr2 rfl NA.g NA.k NA.b .nil passL (pa_cons (pv 3) pa_nil)))) (pss_one (Xb.ps_raiseX (W := fun cls d _ H => E cls d H) rfl XN gN htop hr2 (takes_of rfl rfl rfl rfl) (pa_cons (pv 3) pa_nil))) pss_nil)
      (pss_cons (ps_setLc (i := 4) (own := [("name", 5), ("parent", 6), ("unit", 7), ("amount", 8)]) (g := gTup K 4 (gCons (gName 5) (gCons (gName 6) (gCons (gName 7) (gCons (gName 8) gNil))))) (te := tTup (tCons (tOp rAS (tVar 3) (tVar 5)) (tCons (tIf (tTest (tOp rEq (tVar 6) (tC (.str "start")))) (tVar 2) (tOp rAS (tVar 3) (tVar 6))) (tCons (tVar 7) (tCons (tVar 8) tNil))))) (by rfl) scAtt.nd rfl rfl (sw_true rfl rfl rfl (by decide +kernel)) (pi_list (pe_meth0 (pv 1) M.cl CU.me CU.ok hr1 CU.b .nil passL)) (blkOk_by (own := [("name", 5), ("parent", 6), ("unit", 7), ("amount", 8)]) (N := ["sheet", "other", "at", "prefix", "new", "name", "parent", "unit", "amount"]) (sc := defScope sAtt) (by decide +kernel)) (fun _ _ _ _ _ => (pg_tup (by rfl) (pgs_cons (pg_name (i := 5) scAtt.nd rfl (Or.inl rfl)) (pgs_cons (pg_name (i := 6) scAtt.nd rfl (Or.inl rfl)) (pgs_cons (pg_name (i := 7) scAtt.nd rfl (Or.inl rfl)) (pgs_cons (pg_name (i := 8) scAtt.nd rfl (Or.inl rfl)) pgs_nil)))))) (fun _ _ _ _ _ => pts_nil) (fun _ _ _ _ _ => (pe_tup (pa_cons (pe_op op_add_str (pv 3) (pv 5)) (pa_cons (pe_ifExp (pt_cmpR op_eq (pv 6) (pe_glob (v := .str "start") rfl hSt ⟨tS, rfl⟩) (nomark _)) (pv 2) (pe_op op_add_str (pv 3) (pv 6))) (pa_cons (pv 7) (pa_cons (pv 8) pa_nil)))))))
      (pss_one (ps_ret (Xm.pe_makeX MKS SI hr11 rfl M.g bS (fun σ => passAt (W := fun cls d _ H => E cls d H) (takes_of rfl rfl rfl rfl) σ) (pa_cons (pe_op op_cat (pe_meth0 (pv 0) M.cl CU.me CU.ok hr1 CU.b .nil passL) (pv 4)) pa_nil))))))))), ?_⟩
    rcases c with ⟨ns, er⟩ | ⟨o, m1, H1, gs, rfl, sh, c⟩
    · exact ⟨_, rfl, y, rfl, .inl ⟨ns, er⟩⟩
    refine ⟨_, rfl, _, rfl, .inr ⟨o, m1, H1, gs, rfl, sh, ?_⟩⟩
    rcases c with ⟨ns, er⟩ | ⟨o2, m2, H2, hs, rfl, sh2, c⟩
    · exact ⟨_, rfl, y2, rfl, .inl ⟨ns, er⟩⟩
    refine ⟨_, rfl, _, rfl, .inr ⟨o2, m2, H2, hs, rfl, sh2, ?_⟩⟩
    rcases c with ⟨tx, er⟩ | ⟨z, rfl, c⟩
    · exact ⟨_, rfl, _, rfl, o, m1, H1, gs, za, rfl, sh, .inl ⟨tx, er⟩⟩
    rcases c with ⟨hz, er⟩ | ⟨hz, c⟩
    · exact ⟨_, rfl, _, rfl, o, m1, H1, gs, _, rfl, sh, .inr ⟨z, rfl, fun _ => er, fun e => by rw [hz] at e; cases e⟩⟩
    refine ⟨_, rfl, _, rfl, o, m1, H1, gs, _, rfl, sh, .inr ⟨z, rfl, (fun e => by rw [e] at hz; cases hz), fun _ => ?_⟩⟩
    rcases c with ⟨tx, er⟩ | ⟨pf, rfl, pl, c⟩
    · exact ⟨_, rfl, _, rfl, .inl ⟨tx, _, rfl, iteT ⟨_, rfl, _, rfl, er⟩⟩⟩
    refine ⟨_, rfl, _, rfl, .inr ⟨pf, rfl, pl, fun J1 j1 => ⟨_, rfl, ?_⟩⟩⟩
    rcases c with ⟨hp, er⟩ | ⟨hp, gd, gd2, n20, m, le1, le2, m200, k⟩
    · rw [hp]
      exact iteT ⟨_, rfl, _, rfl, er _ j1⟩
    rw [hp]
    refine iteF ?_
    have shJ := sh.same j1
    have sh2J := sh2.same j1
    obtain ⟨dx, c, r, d, rs, ho, inn⟩ := id shJ
    obtain ⟨dx2, c2, r2, d2, rs2, ho2, inn2⟩ := id sh2J
    have pl8 := isName_len hp
    refine ⟨_, rfl, o2, dx2, _, rfl, ho2, sh_no c2 r2 d2 (by decide +kernel) (by decide +kernel) (by decide +kernel), o2, m2, H2, hs, rfl, sh2J, fun l J2 j2 hl l0 => ?_⟩
    refine ⟨l, rfl, ⟨_, SqL.of hl⟩, fun D hD => ?_⟩
    refine lc_list (K := K) (a := l) (xs := hs.map fun g => V.ref g.q) (fun i H' => Same J2 H' ∧ Ts K m H' D i ((hs.map cv).map (hung z pf))) ⟨Same.upd hD, Ts.nil upd_same⟩ (fun i H' _ ⟨s, _⟩ => SqL.of (s _ _ hl)) ?_ ?_
    · rintro i x J3 hx ⟨s3, ts⟩
      obtain ⟨g, eg, rfl⟩ := map_at hx
      have hi := (List.getElem?_eq_some_iff.mp eg).1
      have hg := List.mem_of_getElem? eg
      have h20 := inn2.n
      obtain ⟨g1, g2⟩ := (inn2.cok g hg).same (j2.trans s3)
      have nl := isName_len (gd2.2 _ (List.mem_map_of_mem hg)).1
      have ql := pa_len gd2 (List.mem_map_of_mem (f := cv) hg)
      have nl : g.nm.length ≤ 8 := nl
      have ql : g.pa.length ≤ 8 := ql
      refine ⟨g.q, _, rfl, SqT.of g1, rfl, _, _, rfl, _, _, rfl, _, _, rfl, _, _, rfl, rfl, rfl, ?_⟩
      have fin : ∀ (pa : Str), pa = (if g.pa = "start" then z else pf ++ g.pa) → 4 ≤ sizeLine ∧ ∀ q, J3 q = none → ∃ ys, upd J3 q (.tup [.str (pf ++ g.nm), .str pa, .str g.un, .ref g.a]) D = some (.lst ys) ∧ ys.length < sizeLine ∧ Same J2 (upd (upd J3 q (.tup [.str (pf ++ g.nm), .str pa, .str g.un, .ref g.a])) D (.lst (ys ++ [.ref q]))) ∧ Ts K m (upd (upd J3 q (.tup [.str (pf ++ g.nm), .str pa, .str g.un, .ref g.a])) D (.lst (ys ++ [.ref q]))) D (i + 1) ((hs.map cv).map (hung z pf)) := fun pa epa => by
        refine ⟨by decide, fun q hq => ?_⟩
        have s6 := Same.upd (o := .tup [.str (pf ++ g.nm), .str pa, .str g.un, .ref g.a]) hq
        have e6 : upd J3 q (.tup [.str (pf ++ g.nm), .str pa, .str g.un, .ref g.a]) q = some (.tup [.str (pf ++ g.nm), .str pa, .str g.un, .ref g.a]) := upd_same
        generalize upd J3 q (.tup [.str (pf ++ g.nm), .str pa, .str g.un, .ref g.a]) = H6 at s6 e6 ⊢
        subst epa
        obtain ⟨ys, e7, yl, ts'⟩ := ts.app (c := hung z pf (cv g)) s6 (by rw [List.getElem?_map, List.getElem?_map, eg]; rfl) e6 (.inl ((g2.mono le2).same s6)) rfl
        exact ⟨ys, e7, by rw [yl]; exact Nat.lt_of_lt_of_le (show i < 100 by omega) (by decide), same_put (s3.trans s6) hD, ts'⟩
      refine ⟨_, rfl, _, rfl, pf, g.nm, rfl, rfl, Nat.le_trans (show _ ≤ 100 by omega) (by decide), _, rfl, rfl, _, rfl, ?_⟩
      by_cases cs : g.pa = "start"
      · refine if_true_of (decide_eq_true (congrArg V.str cs)) ⟨_, rfl, _, rfl, _, rfl, fin z (by rw [if_pos cs])⟩
      · refine if_false_of (decide_eq_false fun e => cs (V.str.inj e)) ⟨_, rfl, _, rfl, pf, g.pa, rfl, rfl, Nat.le_trans (show _ ≤ 100 by omega) (by decide), _, rfl, _, rfl, fin (pf ++ g.pa) (by rw [if_neg cs])⟩
    · rintro J3 ⟨s3, xs, xn, e1, ok⟩
      rw [List.length_map] at xn
      have j23 := j2.trans s3
      refine ⟨_, rfl, o, dx, _, rfl, j23 _ _ ho, sh_no c r d (by decide +kernel) (by decide +kernel) (by decide +kernel), o, m1, H1, gs, rfl, shJ.same j23, fun l2 J4 s4 hl2 l20 => ?_⟩
      have e1' := s4 _ _ e1
      refine ⟨_, rfl, l2, D, _, _, rfl, rfl, hl2, e1', by rw [List.length_map, List.length_map, xn]; exact Nat.le_trans n20 (by decide), fun l3 hl3 => ?_⟩
      have s5 := Same.upd (o := .lst (gs.map (fun g => V.ref g.q) ++ xs.map V.ref)) hl3
      have e5 : upd J4 l3 (.lst (gs.map (fun g => V.ref g.q) ++ xs.map V.ref)) l3 = some (.lst (gs.map (fun g => V.ref g.q) ++ xs.map V.ref)) := upd_same
      generalize upd J4 l3 (.lst (gs.map (fun g => V.ref g.q) ++ xs.map V.ref)) = J5 at s5 e5 ⊢
      have s15 := j1.trans (j23.trans (s4.trans s5))
      refine fun x dx hx hdx hne => ?_
      refine make_any (mm := m) (cs := gs.map cv ++ (hs.map cv).map (hung z pf)) (.inl e5) (by simp only [List.length_append, List.length_map, xn]) (fun i cc ec => ?_) (fun cc hc => ?_) (by simp only [List.length_append, List.length_map]; exact n20) (Nat.le_trans inn.mm.1 le1) m200 hx hdx hne (attP_mk k s15 x)
      · by_cases ci : i < gs.length
        · rw [List.getElem?_append_left (by rw [List.length_map]; exact ci)] at ec
          obtain ⟨g, eg, rfl⟩ := map_at ec
          have hg := List.mem_of_getElem? eg
          obtain ⟨g1, g2⟩ := (inn.cok g hg).same (j23.trans (s4.trans s5))
          exact ⟨g.q, by rw [List.getElem?_append_left (by rw [List.length_map]; exact ci), List.getElem?_map, eg]; rfl, .ref g.a, g.t, g.u, .inr g1, .inl (g2.mono le1), rfl⟩
        · rw [List.getElem?_append_right (by rw [List.length_map]; omega), List.length_map] at ec
          have hj := (List.getElem?_eq_some_iff.mp ec).1
          rw [List.length_map, List.length_map] at hj
          have hj : i - gs.length < xs.length := by omega
          exact ⟨xs[i - gs.length], by rw [List.getElem?_append_right (by rw [List.length_map]; omega), List.length_map, List.getElem?_map, List.getElem?_eq_getElem hj]; rfl, (ok _ _ cc (List.getElem?_eq_getElem hj) ec).same (s4.trans s5)⟩
      · rcases List.mem_append.mp hc with hc | hc
        · exact gd.ok cc hc
        · obtain ⟨d', hd', rfl⟩ := List.mem_map.mp hc
          refine ⟨(gd2.2 d' hd').2, ?_⟩
          have := isName_len (gd2.2 d' hd').1
          show (pf ++ d'.nm).length ≤ 1000
          rw [len_app]
          omega
end
end K34
set_option Elab.async false
set_option linter.all false
set_option maxRecDepth 100000
set_option maxHeartbeats 4000000
/-! l != b of two lists whose items have an own ==, with either answer. -/
namespace Ge
open PySem PySem.SeqAt
open AutoSeq1 (wpAny_loadPart')
open MeetsSeq MeetsSeq2 MeetsSeq3 SeqRoads2 GQ
open Fq (ListB)
section
variable {prog : Program} {w : World} {A : Around} {R : Result → Shared → Prop}
theorem goesN (l b : Addr) (N : Nat) (I : Nat → Shared → Prop) (J : Shared → Prop) (hl : ListB prog w A (fun e s' => R (.error e) s') l b N N I J) (fin : ∀ s, I N s → R (.ok (.ret (.bool false))) s) (no : ∀ s, J s → (∃ (xs ys : Array Value) (n n2 : Nat), s.heap.get? l = some { cls := .type "list", data := .seq xs n } ∧ s.heap.get? b = some { cls := .type "list", data := .seq ys n2 } ∧ xs.size = N ∧ ys.size = N) ∧ R (.ok (.ret (.bool true))) s) (m : Nat) :
    ∀ j : Nat, m + j = N → ∀ s, I j s → wpAny (model prog w) A.in1 (Builtin.«list.__eq__.loop» ⟨[.ref l, .ref b, rawInt j, rawInt 3], []⟩) (FinOf prog w A R) (fun e s' => R (.error e) s') s := by
  induction m with
  | zero =>
    intro j hj s h
    obtain ⟨xs, ys, n, n2, g1, g2, z1, z2, _⟩ := hl _ _ h
    have jN : j = N := by omega
    have done : R (.ok (.ret (.bool false))) s := fin s (jN ▸ h)
    obtain ⟨hp, gl, dr, tk, os⟩ := s
    wp_walk using wpAny_loadPart' g1, wpAny_loadPart' g2
    have e1 : xs[((j : Nat) : Int).toNat]? = none := by
      simp
      omega
    have e2 : ys[((j : Nat) : Int).toNat]? = none := by
      simp
      omega
    rw [e1, e2]
    wp_walk using wpAny_loadPart' g1, wpAny_loadPart' g2
    show R (.ok (.ret (.bool (xs.size != ys.size)))) _
    rw [z1, z2]
    simpa using done
  | succ m ih =>
    intro j hj s h
    obtain ⟨xs, ys, n, n2, g1, g2, z1, z2, turn⟩ := hl _ _ h
    have l1 : j < xs.size := by omega
    have l2 : j < ys.size := by omega
    have one := turn l1 l2 rfl
    obtain ⟨hp, gl, dr, tk, os⟩ := s
    wp_walk using wpAny_loadPart' g1, wpAny_loadPart' g2
    have e1 : xs[((j : Nat) : Int).toNat]? = some xs[j] := by simp [l1]
    have e2 : ys[((j : Nat) : Int).toNat]? = some ys[j] := by simp [l2]
    rw [e1, e2]
    refine wpAny_bind (wpAny_mono one (fun r s2 hr => ?_) fun _ _ z => z)
    rcases hr with ⟨er, h2⟩ | ⟨er, h2⟩
    · subst er
      have rest := ih (j + 1) (by omega) s2 h2
      obtain ⟨hp2, gl2, dr2, tk2, os2⟩ := s2
      wp_walk
      rw [show ((j : Int) + 1) = ((j + 1 : Nat) : Int) by omega]
      refine ⟨plainId_quiet plain_eq_loop _, codeAny_builtin entry_eq_loop ?_⟩
      rw [Around.under_plainId plain_eq_loop _]
      exact rest
    · subst er
      obtain ⟨⟨xs2, ys2, m1, m2, k1, k2, y1, y2⟩, rest⟩ := no s2 h2
      obtain ⟨hp2, gl2, dr2, tk2, os2⟩ := s2
      wp_walk using wpAny_loadPart' k1, wpAny_loadPart' k2
      have f1 : xs2[((j : Nat) : Int).toNat]? = some (xs2[j]'(by omega)) := by simp
      have f2 : ys2[((j : Nat) : Int).toNat]? = some (ys2[j]'(by omega)) := by simp
      rw [f1, f2]
      wp_walk
      exact rest
theorem list_neB (l b : Addr) (N M : Nat) (I : Nat → Shared → Prop) (J : Shared → Prop) (hl : ListB prog w A (fun e s' => R (.error e) s') l b N M I J) (fin : ∀ s, N = M → I N s → R (.ok (.ret (.bool false))) s) (no : ∀ s, J s → (∃ (xs ys : Array Value) (n n2 : Nat), s.heap.get? l = some { cls := .type "list", data := .seq xs n } ∧ s.heap.get? b = some { cls := .type "list", data := .seq ys n2 } ∧ xs.size = N ∧ ys.size = M) ∧ R (.ok (.ret (.bool true))) s) (ne : ∀ s, N ≠ M → I 0 s → R (.ok (.ret (.bool true))) s) {s : Shared} (h : I 0 s) :
    wpAny (model prog w) A.in1 (Builtin.«list.__ne__» ⟨[.ref l, .ref b], []⟩) (FinOf prog w A R) (fun e s' => R (.error e) s') s := by
  obtain ⟨xs, ys, n, n2, g1, g2, z1, z2, _⟩ := hl _ _ h
  by_cases c : N = M
  · subst c
    have rest := goesN (A := A) (R := R) l b N I J hl (fun s q => fin s rfl q) no N 0 (by omega) s h
    obtain ⟨hp, gl, dr, tk, os⟩ := s
    have sub := AutoSeq1.sub_list_list
    have same : ¬ (xs.size != ys.size) = true := by simp [z1, z2]
    wp_walk using wpAny_loadPart' g1, wpAny_loadPart' g2
    refine ⟨plainId_quiet plain_eq_loop _, codeAny_builtin entry_eq_loop ?_⟩
    rw [Around.under_plainId plain_eq_loop _]
    exact rest
  · have rest := ne s c h
    obtain ⟨hp, gl, dr, tk, os⟩ := s
    have sub := AutoSeq1.sub_list_list
    have same : (xs.size != ys.size) = true := by simp [z1, z2, c]
    wp_walk using wpAny_loadPart' g1, wpAny_loadPart' g2
    exact rest
theorem rc_listNe {l b : Addr} {N M : Nat} {E : Value → Shared → Prop} {s : Shared} {Q : Value → Shared → Prop} (hu : A.units < cLine) (I : Nat → Shared → Prop) (J : Shared → Prop) (hl : ListB prog w A E l b N M I J) (fin : ∀ s, N = M → I N s → Q (.bool false) s) (no : ∀ s, J s → (∃ (xs ys : Array Value) (n n2 : Nat), s.heap.get? l = some { cls := .type "list", data := .seq xs n } ∧ s.heap.get? b = some { cls := .type "list", data := .seq ys n2 } ∧ xs.size = N ∧ ys.size = M) ∧ Q (.bool true) s) (ne : ∀ s, N ≠ M → I 0 s → Q (.bool true) s) (h : I 0 s) :
    wpAny (model prog w) A (richCompare .NotEq (.ref l) (.ref b)) Q E s := by
  obtain ⟨xs, ys, n, n2, g1, g2, _, _, _⟩ := hl _ _ h
  refine wpAny_richCompare_same_room (op := .NotEq) ⟨_, g1, rfl⟩ ⟨_, g2, rfl⟩ F.slot_list_ne (call_here F.slot_list_ne ⟨_, g1, rfl⟩ F.entry_list_ne (F.args_list_ne_2 _ _) ?_) hu
  exact list_neB (R := wants (fun v s' => v ≠ .notImplemented ∧ Q v s') E) l b N M I J hl (fun s' c q => ⟨(fun x => nomatch x), fin s' c q⟩) (fun s' q => ⟨(no s' q).1, (fun x => nomatch x), (no s' q).2⟩) (fun s' c q => ⟨(fun x => nomatch x), ne s' c q⟩) h
end
end Ge
namespace Ge
open PySem PySem.Spec PyProof.Rows L2 Fq
def RcN (X : Cx) (n : Nat) (D : EqvB) : Prop :=
  ∀ (A : Around) (pins : List (Addr × Obj)) (s : Shared) (σ : L2.St) (H : Hp) (x y : V) (u v : Value) (b : Bool), Sub X n A → Inv X pins σ H s → RelV x u → RelV y v → D x y b H →
    wpAny (model X.prog X.w) A (richCompare .NotEq u v) (fun r s' => r = .bool (!b) ∧ ∃ H', Inv X pins σ H' s' ∧ Ext H H') X.xe s
variable {X : Cx} {n : Nat} {D : EqvB}
theorem rcN_list (hD : MonB D) (h : EqB X n D) : RcN X (n + 1) (DListB D) := by
  intro A pins s σ H x y u v b sb I rx ry d
  obtain ⟨a, c, xs, ys, rfl, rfl, ha, hb, p⟩ := d
  cases rx
  cases ry
  have rd : ∀ s', LoopI X pins σ H s' → ∃ (its its2 : List Value) (k k2 : Nat), s'.heap.get? a = some { cls := .type "list", data := .seq its.toArray k } ∧ s'.heap.get? c = some { cls := .type "list", data := .seq its2.toArray k2 } ∧ its.toArray.size = xs.length ∧ its2.toArray.size = ys.length ∧ Vals xs its ∧ Vals ys its2 := by
    intro s' q
    obtain ⟨H1, I1, e1⟩ := q
    obtain ⟨z, its, k, r, e⟩ := I1.hok a _ (e1 _ _ ha)
    obtain ⟨z2, its2, k2, r2, e2⟩ := I1.hok c _ (e1 _ _ hb)
    exact ⟨its, its2, k, k2, e, e2, by rw [List.size_toArray, ← r.length], by rw [List.size_toArray, ← r2.length], r, r2⟩
  rcases p with ⟨ne, rfl⟩ | ⟨el, bs, pb, hbs⟩
  · refine rc_listNe (N := xs.length) (M := ys.length) sb.room.units0 (fun i s' => i = 0 ∧ LoopI X pins σ H s') (fun s' => False) (fun i s' q => ?_) (fun s' e q => absurd e ne) (fun s' q => q.elim) (fun s' _ q => ⟨rfl, q.2⟩) ⟨rfl, H, I, Ext.rfl'⟩
    obtain ⟨its, its2, k, k2, e, e2, z1, z2, r, r2⟩ := rd s' q.2
    exact ⟨its.toArray, its2.toArray, k, k2, e, e2, z1, z2, fun _ _ e => absurd e ne⟩
  · refine rc_listNe (N := xs.length) (M := ys.length) sb.room.units0 (fun i s' => LoopI X pins σ H s' ∧ ∀ j, j < i → bs j = true) (fun s' => LoopI X pins σ H s' ∧ b = false) (fun i s' q => ?_) (fun s' _ q => ⟨?_, q.1⟩) (fun s' q => ⟨?_, by rw [q.2]; rfl, q.1⟩) (fun s' e => absurd el e) ⟨⟨H, I, Ext.rfl'⟩, fun j hj => absurd hj (by omega)⟩
    · obtain ⟨its, its2, k, k2, e, e2, z1, z2, r, r2⟩ := rd s' q.1
      refine ⟨its.toArray, its2.toArray, k, k2, e, e2, z1, z2, fun h1 h2 _ => ?_⟩
      refine wpAny_mono (turnB hD h sb pb r r2 i h1 h2 s' q.1) (fun rr s2 z => ?_) fun _ _ z => z
      obtain ⟨er, l2⟩ := z
      cases hb' : bs i with
      | true => exact .inl ⟨by rw [er, hb'], l2, fun j hj => by
          rcases Nat.lt_or_ge j i with c | c
          · exact q.2 j c
          · rw [show j = i by omega]; exact hb'⟩
      | false =>
        refine .inr ⟨by rw [er, hb'], l2, ?_⟩
        rcases hbs with ⟨_, all⟩ | ⟨e, _⟩
        · rw [all i (by omega)] at hb'
          cases hb'
        · exact e
    · rcases hbs with ⟨e, _⟩ | ⟨_, i, hi, e⟩
      · rw [e]; rfl
      · rw [q.2 i hi] at e
        cases e
    · obtain ⟨its, its2, k, k2, e, e2, z1, z2, r, r2⟩ := rd s' q.1
      exact ⟨its.toArray, its2.toArray, k, k2, e, e2, z1, z2⟩
def rNeB (D : EqvB) : R2 := fun x y H Q => ∃ b, D x y b H ∧ ∀ H', Ext H H' → Q (.bl (!b)) H'
theorem op_neB (hD : MonB D) (h : EqB X n D) (hr : Room (n + 1) X.A) : OpR X (compareOp .NotEq) (rNeB (DListB D)) := by
  intro pn s σ H x y v u Q I rx ry hq
  obtain ⟨b, d, q⟩ := hq
  show wpAny (model X.prog X.w) X.A (richCompare .NotEq v u) (EP X pn σ Q) X.xe s
  refine wpAny_mono (rcN_list hD h X.A pn s σ H x y v u b ⟨hr, rfl⟩ I rx ry d) (fun r s' z => ?_) fun _ _ z => z
  obtain ⟨er, H', I', e⟩ := z
  exact ⟨.bl (!b), H', I', er, q H' e⟩
end Ge
set_option Elab.async false
set_option linter.all false
set_option maxRecDepth 100000
set_option maxHeartbeats 1000000
set_option exponentiation.threshold 100000
namespace K34
open PySem PySem.Spec PyProof.Rows L2 Fa Fb
abbrev sUnl : Stmt := top 44
theorem scUnl : FnScope ["one", "other", "new", "name"] ["one", "other"] (defScope sUnl) := ⟨rfl, rfl, rfl, by decide +kernel, rfl, by decide +kernel, by decide +kernel⟩
abbrev sAli : Stmt := top 43
theorem scAli : FnScope ["one", "other"] ["one", "other"] (defScope sAli) := ⟨rfl, rfl, rfl, by decide +kernel, rfl, by decide +kernel, by decide +kernel⟩
/-- the row of a name -/
def rowAt (cs : List M04.Cue) (z : Str) : Option M04.Row := (M04.num (M04.all cs).nums z).bind fun i => (M04.all cs).rows[i]?
/-- the names whose rows differ -/
def unl (cs ds : List M04.Cue) : List Str := ((cs.map (·.nm)).filter fun z => !(M04.num (M04.all ds).nums z).isSome || !decide (rowAt cs z = rowAt ds z)) ++ (ds.map (·.nm)).filter fun z => !(M04.num (M04.all cs).nums z).isSome
def spUnl (K : PySem.W.Frag) : Sp := fun vs H Q _ => ∃ o m1 H1 gs o2 m2 H2 hs, vs = [.ref o, .ref o2] ∧ ShAt K m1 H1 H o gs ∧ ShAt K m2 H2 H o2 hs ∧ ∀ l H', Same H H' → H' l = some (.lst ((unl (gs.map cv) (hs.map cv)).map V.str)) → H l = none → Q (.ref l) H'
def spAli (K : PySem.W.Frag) : Sp := fun vs H Q _ => ∃ o m1 H1 gs o2 m2 H2 hs, vs = [.ref o, .ref o2] ∧ ShAt K m1 H1 H o gs ∧ ShAt K m2 H2 H o2 hs ∧ ∀ H', Same H H' → Q (.bl (decide (unl (gs.map cv) (hs.map cv) = []))) H'
theorem num_nm {cs : List M04.Cue} {z : Str} (h : z ∈ cs.map (·.nm)) : (M04.num (M04.all cs).nums z).isSome = true := (M34.num_mem cs z).mpr (List.mem_cons_of_mem _ h)
theorem unl_len (cs ds : List M04.Cue) : (unl cs ds).length ≤ cs.length + ds.length := by
  unfold unl
  rw [List.length_append]
  refine Nat.add_le_add ?_ ?_
  · exact Nat.le_trans (List.length_filter_le _ _) (by rw [List.length_map]; exact Nat.le_refl _)
  · exact Nat.le_trans (List.length_filter_le _ _) (by rw [List.length_map]; exact Nat.le_refl _)
theorem filter_take {α : Type} {p : α → Bool} {l : List α} {i : Nat} {x : α} (h : l[i]? = some x) : (l.take (i + 1)).filter p = (l.take i).filter p ++ if p x = true then [x] else [] := by
  rw [List.take_add_one, h, List.filter_append]
  congr 1
  show [x].filter p = _
  by_cases c : p x = true
  · rw [if_pos c, List.filter_cons_of_pos c]
    rfl
  · rw [if_neg c, List.filter_cons_of_neg c]
    rfl
section
variable {P : Program} {w : World} {K : PySem.W.Frag} {mg : Str → Option Value} {base : Heap} {f f1 f2 f3 f4 f5 : Addr} {fd fd1 fd2 fd3 fd4 fd5 : FuncData}
theorem ok_unl (F : FnP K "unlike" sUnl f fd) (M : MF K mg) (EQ : EqK P w K mg base f5 fd5) (CH : Fn P w K mg base "check_sheet" 2 ["sheet"] (spChs K) f1 fd1) (NM : MeS P w K mg base "names" 1 ["self"] (spNm K) f2 fd2) (SC : SCn P w K mg base f3 fd3) (RW : MeS P w K mg base "row" 5 ["self", "name"] (spRw K) f4 fd4) : FnOk P w K mg base (L2.CX P w) 6 f fd ["one", "other"] (spUnl K) := by
  refine F.ok scUnl (fun vs H Q E h => ?_) (fun cdv A outer s H vs Q E hr h => ?_)
  · obtain ⟨o, m1, H1, gs, o2, m2, H2, hs, rfl, _⟩ := h
    rfl
  · obtain ⟨o, m1, H1, gs, o2, m2, H2, hs, rfl, sh, sh2, k⟩ := h
    have hr1 := hr.mono (show 1 ≤ 5 by decide)
    have hr2 := hr.mono (show 2 ≤ 5 by decide)
    have hr3 := hr.mono (show 3 ≤ 5 by decide)
    have hr5 := hr.mono (show 5 ≤ 5 by decide)
    refine ⟨_, (pss_cons (ps_expr (pe_callS CH.ok hr2 rfl CH.g CH.k CH.b (fun σ => passAt (W := fun cls d _ H => E cls d H) (takes_of rfl rfl rfl rfl) σ) (pa_cons (pv 0) pa_nil)))
      (pss_cons (ps_expr (pe_callS CH.ok hr2 rfl CH.g CH.k CH.b (fun σ => passAt (W := fun cls d _ H => E cls d H) (takes_of rfl rfl rfl rfl) σ) (pa_cons (pv 1) pa_nil)))
      (pss_cons (ps_setLc (i := 2) (own := [("name", 3)]) (g := gName 3) (tt := (tB (Fo.tInX (CS K) (spSIn K) (fun _ => E0) true (tVar 3) (tVar 0)))) (te := tVar 3) (by rfl) scUnl.nd rfl rfl (sw_true rfl rfl rfl (by decide +kernel)) (pi_list (pe_meth0 (pv 1) M.cl NM.me NM.ok hr1 NM.b .nil passL)) (blkOk_by (own := [("name", 3)]) (N := ["one", "other", "new", "name"]) (sc := defScope sUnl) (by decide +kernel)) (fun _ _ _ _ _ => (pg_name (i := 3) scUnl.nd rfl (Or.inl rfl))) (fun _ _ _ _ _ => pts_one (pt_cmp (Fo.pc_notInX SC.at_ SC.fn SC.ok hr1 SC.b passS (pv 3) (pv 0)))) (fun _ _ _ _ _ => (pv 3)))
      (pss_one (ps_ret (pe_op op_cat (pe_lc (own := [("name", 3)]) (g := gName 3) (tt := tOr (tB (Fo.tInX (CS K) (spSIn K) (fun _ => E0) true (tVar 3) (tVar 1))) (tTest (tOp (Ge.rNeB (Fq.DListB (Fq.DTupB (DMix K)))) (tMeth (CS K) "row" (spRw K) [] E0 (tVar 0) (tCons (tVar 3) tNil)) (tMeth (CS K) "row" (spRw K) [] E0 (tVar 1) (tCons (tVar 3) tNil))))) (te := tVar 3) (by rfl) scUnl.nd (pi_list (pe_meth0 (pv 0) M.cl NM.me NM.ok hr1 NM.b .nil passL)) (blkOk_by (own := [("name", 3)]) (N := ["one", "other", "new", "name"]) (sc := defScope sUnl) (by decide +kernel)) (fun _ _ _ _ _ => (pg_name (i := 3) scUnl.nd rfl (Or.inl rfl))) (fun _ _ _ _ _ => pts_one (PW.pt (pw_or (pt_cmp (Fo.pc_notInX SC.at_ SC.fn SC.ok hr1 SC.b passS (pv 3) (pv 1))) (pw_or1 (pt_cmpR (Ge.op_neB (Fq.monB_tup monB_mix) ((Fq.rcB_tup monB_mix (eqB_mix EQ)).eqB fun _ _ _ _ d => tupB_same d) hr3) (pe_meth (pv 0) M.cl RW.me RW.ok hr5 RW.b .nil passL (pa_cons (pv 3) pa_nil)) (pe_meth (pv 1) M.cl RW.me RW.ok hr5 RW.b .nil passL (pa_cons (pv 3) pa_nil)) (by rfl)))))) (fun _ _ _ _ _ => (pv 3))) (pv 2))))))), ?_⟩
    refine ⟨_, rfl, _, rfl, .inr ⟨o, m1, H1, gs, rfl, sh, ?_⟩⟩
    refine ⟨_, rfl, _, rfl, .inr ⟨o2, m2, H2, hs, rfl, sh2, ?_⟩⟩
    obtain ⟨dx, c, r, d, rs, ho, inn⟩ := id sh
    obtain ⟨dx2, c2, r2, d2, rs2, ho2, inn2⟩ := id sh2
    have n1 := inn.n
    have n2 := inn2.n
    refine ⟨_, rfl, o2, dx2, _, rfl, ho2, sh_no c2 r2 d2 (by decide +kernel) (by decide +kernel) (by decide +kernel), o2, m2, H2, hs, rfl, sh2, fun l J1 j1 hl l0 => ?_⟩
    refine ⟨l, rfl, ⟨_, SqL.of hl⟩, fun D hD => ?_⟩
    refine lc_list (K := K) (a := l) (xs := hs.map fun g => V.str g.nm) (fun i H' => Same J1 H' ∧ H' D = some (.lst (((((hs.map cv).map (·.nm)).take i).filter fun z => !(M04.num (M04.all (gs.map cv)).nums z).isSome).map V.str))) ⟨Same.upd hD, upd_same⟩ (fun i H' _ ⟨s, _⟩ => SqL.of (s _ _ hl)) ?_ ?_
    · rintro i x J2 hx ⟨s2, e2⟩
      obtain ⟨g, eg, rfl⟩ := map_at hx
      have en : ((hs.map cv).map (·.nm))[i]? = some g.nm := by rw [List.getElem?_map, List.getElem?_map, eg]; rfl
      have sJ := sh.same (j1.trans s2)
      obtain ⟨dx', _, _, _, _, ho', _⟩ := id sJ
      refine ⟨rfl, _, rfl, _, rfl, o, dx', _, rfl, ho', o, m1, H1, gs, _, rfl, sJ, .inr ⟨g.nm, rfl, _, rfl, _, rfl, ?_⟩⟩
      rw [filter_take en]
      have hi := (List.getElem?_eq_some_iff.mp eg).1
      cases hb : (M04.num (M04.all (gs.map cv)).nums g.nm).isSome with
      | true => exact iteF ⟨s2, by rw [e2]; simp⟩
      | false =>
        refine iteT ⟨_, rfl, _, e2, ?_, same_put s2 hD, by rw [upd_same]; simp⟩
        have a1 := List.length_filter_le (fun z => !(M04.num (M04.all (gs.map cv)).nums z).isSome) (((hs.map cv).map (·.nm)).take i)
        have a2 : (((hs.map cv).map (·.nm)).take i).length ≤ hs.length := by
          rw [List.length_take, List.length_map, List.length_map]
          omega
        rw [List.length_map]
        exact Nat.lt_of_lt_of_le (show _ < 100 by omega) (by decide)
    rintro J2 ⟨s2, e2⟩
    rw [List.length_map, List.take_of_length_le (by rw [List.length_map, List.length_map]; exact Nat.le_refl _)] at e2
    have j12 := j1.trans s2
    refine ⟨_, rfl, o, dx, _, rfl, j12 _ _ ho, sh_no c r d (by decide +kernel) (by decide +kernel) (by decide +kernel), o, m1, H1, gs, rfl, sh.same j12, fun l3 J3 j3 hl3 l30 => ?_⟩
    have j13 := j12.trans j3
    refine ⟨l3, rfl, ⟨_, SqL.of hl3⟩, fun D3 hD3 => ?_⟩
    refine lc_list (K := K) (a := l3) (xs := gs.map fun g => V.str g.nm) (fun i H' => Same J3 H' ∧ H' D3 = some (.lst (((((gs.map cv).map (·.nm)).take i).filter fun z => !(M04.num (M04.all (hs.map cv)).nums z).isSome || !decide (rowAt (gs.map cv) z = rowAt (hs.map cv) z)).map V.str))) ⟨Same.upd hD3, upd_same⟩ (fun i H' _ ⟨s, _⟩ => SqL.of (s _ _ hl3)) ?_ ?_
    · rintro i x J4 hx ⟨s4, e4⟩
      obtain ⟨g, eg, rfl⟩ := map_at hx
      have en : ((gs.map cv).map (·.nm))[i]? = some g.nm := by rw [List.getElem?_map, List.getElem?_map, eg]; rfl
      have hi := (List.getElem?_eq_some_iff.mp eg).1
      have sA := sh.same (j13.trans s4)
      have sB := sh2.same (j13.trans s4)
      obtain ⟨dxA, cA, rA, dA, _, hoA, _⟩ := id sA
      obtain ⟨dxB, cB, rB, dB, _, hoB, _⟩ := id sB
      have key : ∀ (b : Bool) J5, Same J4 J5 → b = (!(M04.num (M04.all (hs.map cv)).nums g.nm).isSome || !decide (rowAt (gs.map cv) g.nm = rowAt (hs.map cv) g.nm)) → if b = true then (∃ v, some (some (V.str g.nm)) = some (some v) ∧ ∃ ys, J5 D3 = some (.lst ys) ∧ ys.length < sizeLine ∧ Same J3 (upd J5 D3 (.lst (ys ++ [v]))) ∧ upd J5 D3 (.lst (ys ++ [v])) D3 = some (.lst (((((gs.map cv).map (·.nm)).take (i + 1)).filter fun z => !(M04.num (M04.all (hs.map cv)).nums z).isSome || !decide (rowAt (gs.map cv) z = rowAt (hs.map cv) z)).map V.str))) else (Same J3 J5 ∧ J5 D3 = some (.lst (((((gs.map cv).map (·.nm)).take (i + 1)).filter fun z => !(M04.num (M04.all (hs.map cv)).nums z).isSome || !decide (rowAt (gs.map cv) z = rowAt (hs.map cv) z)).map V.str))) := fun b J5 s5 eb => by
        rw [filter_take en, ← eb]
        have e5 := s5 _ _ e4
        cases b with
        | false => exact iteF ⟨s4.trans s5, by rw [e5]; simp⟩
        | true =>
          refine iteT ⟨_, rfl, _, e5, ?_, same_put (s4.trans s5) hD3, by rw [upd_same]; simp⟩
          have a1 := List.length_filter_le (fun z => !(M04.num (M04.all (hs.map cv)).nums z).isSome || !decide (rowAt (gs.map cv) z = rowAt (hs.map cv) z)) (((gs.map cv).map (·.nm)).take i)
          have a2 : (((gs.map cv).map (·.nm)).take i).length ≤ gs.length := by
            rw [List.length_take, List.length_map, List.length_map]
            omega
          rw [List.length_map]
          exact Nat.lt_of_lt_of_le (show _ < 100 by omega) (by decide)
      refine ⟨rfl, _, rfl, _, rfl, o2, dxB, _, rfl, hoB, o2, m2, H2, hs, _, rfl, sB, .inr ⟨g.nm, rfl, _, rfl, _, rfl, ?_⟩⟩
      cases hb : (M04.num (M04.all (hs.map cv)).nums g.nm).isSome with
      | false => exact iteT (key true J4 (Same.refl _) (by rw [hb]; rfl))
      | true =>
        refine iteF ?_
        obtain ⟨jn, ejn⟩ := Option.isSome_iff_exists.mp hb
        obtain ⟨jm, ejm⟩ := Option.isSome_iff_exists.mp (num_nm (cs := gs.map cv) (List.mem_of_getElem? en))
        refine ⟨_, rfl, o, dxA, _, rfl, hoA, sh_no cA rA dA (by decide +kernel) (by decide +kernel) (by decide +kernel), _, rfl, o, m1, H1, gs, _, rfl, sA, .inr ⟨g.nm, rfl, (fun e => by rw [ejm] at e; cases e), fun n hn l5 its J5 s5 e5 n5 ok5 le5 ro5 => ?_⟩⟩
        have sB5 := sB.same s5
        refine ⟨_, rfl, o2, dxB, _, rfl, s5 _ _ hoB, sh_no cB rB dB (by decide +kernel) (by decide +kernel) (by decide +kernel), _, rfl, o2, m2, H2, hs, _, rfl, sB5, .inr ⟨g.nm, rfl, (fun e => by rw [ejn] at e; cases e), fun n' hn' l6 its6 J6 s6 e6 n6 ok6 le6 ro6 => ?_⟩⟩
        have r5 : RowOk K (bitsOf m1 gs) J6 l5 its := ⟨s6 _ _ e5, fun y hy => (ok5 y hy).same s6, by omega⟩
        have r6 : RowOk K (bitsOf m2 hs) J6 l6 its6 := ⟨e6, ok6, by omega⟩
        refine ⟨_, row_eqB r5 r6, fun J7 s7 => ⟨_, rfl, ?_⟩⟩
        have ea : rowAt (gs.map cv) g.nm = some (rv its) := by
          unfold rowAt
          rw [hn]
          exact ro5
        have eb : rowAt (hs.map cv) g.nm = some (rv its6) := by
          unfold rowAt
          rw [hn']
          exact ro6
        refine key _ J7 (s5.trans (s6.trans s7)) ?_
        rw [hb, ea, eb]
        simp
    rintro J4 ⟨s4, e4⟩
    rw [List.length_map, List.take_of_length_le (by rw [List.length_map, List.length_map]; exact Nat.le_refl _)] at e4
    have e2' := s4 _ _ (j3 _ _ e2)
    have ul := unl_len (gs.map cv) (hs.map cv)
    rw [List.length_map, List.length_map] at ul
    have ul2 := ul
    unfold unl at ul2
    rw [List.length_append] at ul2
    refine ⟨_, rfl, D3, D, _, _, rfl, rfl, e4, e2', by rw [List.length_map, List.length_map]; exact Nat.le_trans (show _ ≤ 100 by omega) (by decide), fun l6 hl6 => ?_⟩
    have s6 := Same.upd (o := .lst (((unl (gs.map cv) (hs.map cv)).map V.str))) hl6
    unfold unl at s6 k
    rw [List.map_append] at s6 k
    exact k l6 _ (j13.trans (s4.trans s6)) upd_same (none_of (j13.trans s4) hl6)
theorem ok_ali (F : FnP K "is_alike" sAli f fd) (mL : mg "len" = none) (UL : Fn P w K mg base "unlike" 6 ["one", "other"] (spUnl K) f1 fd1) : FnOk P w K mg base (L2.CX P w) 7 f fd ["one", "other"] (spAli K) := by
  refine F.ok scAli (fun vs H Q E h => ?_) (fun cdv A outer s H vs Q E hr h => ?_)
  · obtain ⟨o, m1, H1, gs, o2, m2, H2, hs, rfl, _⟩ := h
    rfl
  · obtain ⟨o, m1, H1, gs, o2, m2, H2, hs, rfl, sh, sh2, k⟩ := h
    have hr6 := hr.mono (show 6 ≤ 6 by decide)
    refine ⟨_, (pss_one (ps_ret (pe_cmpR op_eq (pe_callB call_len rfl mL PySem.boot_len (pa_cons (pe_call UL.ok hr6 rfl UL.g UL.k UL.b .nil passL (pa_cons (pv 0) (pa_cons (pv 1) pa_nil))) pa_nil)) pe_int (nomark _)))), ?_⟩
    refine ⟨_, rfl, _, rfl, o, m1, H1, gs, o2, m2, H2, hs, rfl, sh, sh2, fun l J1 j1 hl l0 => ?_⟩
    refine ⟨_, _, rfl, .inl ⟨_, SqL.of hl, rfl⟩, rfl, ?_⟩
    rw [List.length_map]
    have e : decide (V.int ((unl (gs.map cv) (hs.map cv)).length : Nat) = V.int 0) = decide (unl (gs.map cv) (hs.map cv) = []) := by
      rw [decide_eq_decide]
      refine ⟨fun h => ?_, fun h => by rw [h]; rfl⟩
      have := V.int.inj h
      exact List.eq_nil_of_length_eq_zero (by omega)
    show Q (.bl (decide (V.int ((unl (gs.map cv) (hs.map cv)).length : Nat) = V.int 0))) J1
    rw [e]
    exact k J1 j1
end
end K34
set_option Elab.async false
set_option linter.all false
set_option maxRecDepth 100000
set_option maxHeartbeats 1000000
set_option exponentiation.threshold 100000
namespace K34
open PySem PySem.Spec PyProof.Rows L2 Fa Fb
abbrev sTms : Stmt := top 62
theorem scTms : FnScope ["_law_cues_here", "_law_unit", "_law_by", "_law_found", "_law_name", "_law_parent", "_law_own", "_law_amount_here"] ["_law_cues_here", "_law_unit", "_law_by"] (defScope sTms) := ⟨rfl, rfl, rfl, by decide +kernel, rfl, by decide +kernel, by decide +kernel⟩
/-- the first i of these cues, told by data, in a list -/
def Ls (m : Nat) (H : Hp) (D : Addr) (i : Nat) (cs : List M04.Cue) : Prop := ∃ ls : List Lc, ls.map lcv = cs.take i ∧ ls.length = i ∧ H D = some (.lst (ls.map fun g => V.ref g.q)) ∧ ∀ g ∈ ls, LcOk m H g
theorem Ls.nil {m : Nat} {H : Hp} {D : Addr} {cs : List M04.Cue} (h : H D = some (.lst [])) : Ls m H D 0 cs := ⟨[], rfl, rfl, h, fun g hg => by cases hg⟩
theorem Ls.app {m i : Nat} {H H3 : Hp} {D q a : Addr} {cs : List M04.Cue} {c : M04.Cue} {t u : Int} (h : Ls m H D i cs) (s : Same H H3) (e : cs[i]? = some c) (hq : H3 q = some (.tup [.str c.nm, .str c.pa, .str c.un, .ref a])) (fr : Fr m H3 a t u) (s1 : PyData.strOk c.nm = true) (s2 : PyData.strOk c.pa = true) (s3 : PyData.strOk c.un = true) (ev : vq t u = c.q) :
    ∃ ys, H3 D = some (.lst ys) ∧ ys.length = i ∧ Ls m (upd H3 D (.lst (ys ++ [V.ref q]))) D (i + 1) cs := by
  obtain ⟨ls, el, en, e1, ok⟩ := h
  have e1' := s _ _ e1
  refine ⟨_, e1', by rw [List.length_map, en], ls ++ [⟨q, a, c.nm, c.pa, c.un, t, u⟩], ?_, by rw [List.length_append, en]; rfl, by rw [upd_same, List.map_append]; rfl, fun y hy => ?_⟩
  · rw [List.map_append, el, List.take_add_one, e]
    congr 1
    show [M04.Cue.mk c.nm c.pa c.un (vq t u)] = [c]
    rw [ev]
  · rcases List.mem_append.mp hy with hy | hy
    · exact ((ok y hy).kt (KT.of s)).kt (KT.put e1')
    · rw [List.mem_singleton.mp hy]
      exact LcOk.kt (H := H3) ⟨hq, fr, s1, s2, s3⟩ (KT.put e1')
theorem Ls.same {m i : Nat} {H H' : Hp} {D : Addr} {cs : List M04.Cue} (h : Ls m H D i cs) (s : Same H H') : Ls m H' D i cs := let ⟨ls, a, b, c, d⟩ := h; ⟨ls, a, b, s _ _ c, fun g hg => (d g hg).kt (KT.of s)⟩
theorem Ls.done {m i : Nat} {H : Hp} {D : Addr} {cs : List M04.Cue} (h : Ls m H D i cs) (hi : i = cs.length) (n : cs.length ≤ 14) : ∃ ls, LsC m H D ls ∧ ls.map lcv = cs := by
  obtain ⟨ls, a, b, c, d⟩ := h
  rw [hi, List.take_length] at a
  exact ⟨ls, ⟨c, d, by omega⟩, a⟩
def spTms (K : PySem.W.Frag) : Sp := fun vs H Q _ => ∃ (l b : Addr) (z : Str) (gs : List Lc) (n m : Nat) (tb ub : Int), vs = [.ref l, .str z, .ref b] ∧ LsC n H l gs ∧ Fr m H b tb ub ∧ n + m ≤ 200 ∧ ∀ r ls H', Same H H' → LsC (n + m) H' r ls → ls.map lcv = (gs.map lcv).map (wide z (vq tb ub)) → H r = none → Q (.ref r) H'
abbrev STm (l b f : Addr) (z : Str) (v4 v5 v6 v7 : Option V) : L2.St := [some (.ref l), some (.str z), some (.ref b), some (.ref f), v4, v5, v6, v7]
def sTmsB (K : PySem.W.Frag) (N : Nat) (H : Hp) (l b : Addr) (gs : List Lc) (z : Str) (tb ub : Int) : TS := fun D σ H' => ∃ (f : Addr) (i : Nat) (g : Lc) (a : Addr) (t u : Int), σ = STm l b f z (some (.str g.nm)) (some (.str g.pa)) (some (.str g.un)) (some (.ref a)) ∧ gs[i]? = some g ∧ Same H H' ∧ Fr N H' a t u ∧ vq t u = (if g.un = z then vq tb ub else 1) * vq g.t g.u ∧ Ls N H' f i ((gs.map lcv).map (wide z (vq tb ub))) ∧ H f = none ∧
  ∀ v4 v5 v6 v7 H'', Same H H'' → Ls N H'' f (i + 1) ((gs.map lcv).map (wide z (vq tb ub))) → D.nx (STm l b f z v4 v5 v6 v7) H''
section
variable {P : Program} {w : World} {K : PySem.W.Frag} {mg : Str → Option Value} {base : Heap} {f f1 : Addr} {fd fd1 : FuncData}
theorem ok_tms (F : FnP K "_law_times" sTms f fd) (LO : Fn P w K mg base "_law_lowest" 1 ["_law_top", "_law_bottom"] spLow f1 fd1) : FnOk P w K mg base (L2.CX P w) 3 f fd ["_law_cues_here", "_law_unit", "_law_by"] (spTms K) := by
  refine F.ok scTms (fun vs H Q E h => ?_) (fun cdv A outer s H vs Q E hr h => ?_)
  · obtain ⟨l, b, z, gs, n, m, tb, ub, rfl, _⟩ := h
    rfl
  · obtain ⟨l, b, z, gs, n, m, tb, ub, rfl, hl, hb, nm, k⟩ := h
    have hr1 := hr.mono (show 1 ≤ 2 by decide)
    have n14 := hl.n
    generalize hN : n + m = N at *
    refine ⟨_, (pss_cons (ps_set (i := 3) scTms.nd rfl (Or.inl rfl) (pe_lst pa_nil))
      (pss_cons (ps_for (passes_of rfl) rfl (pi_list (pv 0)) (pg_tup (by rfl) (pgs_cons (pg_name (i := 4) scTms.nd rfl (Or.inl rfl)) (pgs_cons (pg_name (i := 5) scTms.nd rfl (Or.inl rfl)) (pgs_cons (pg_name (i := 6) scTms.nd rfl (Or.inl rfl)) (pgs_cons (pg_name (i := 7) scTms.nd rfl (Or.inl rfl)) pgs_nil)))))
      (pss_cons (ps_if (pt_cmpR op_eq (pv 6) (pv 1) (nomark _)) (pss_one (ps_set (i := 7) scTms.nd rfl (Or.inl rfl) (pe_call LO.ok hr1 rfl LO.g LO.k LO.b .nil passL (pa_cons (pe_op op_mulW (pe_ix ix_tup (pv 7) pe_int (fun _ _ => rfl)) (pe_ix ix_tup (pv 2) pe_int (fun _ _ => rfl))) (pa_cons (pe_op op_mulW (pe_ix ix_tup (pv 7) pe_int (fun _ _ => rfl)) (pe_ix ix_tup (pv 2) pe_int (fun _ _ => rfl))) pa_nil))))) pss_nil)
      (pss_imp (S := sTmsB K N H l b gs z tb ub) (pss_one (ps_expr (pe_bm PySem.F.plainAttrs_list PySem.F.slot_list_append PySem.F.type_list_append mt_append (pv 3) (pa_cons (pe_tup (pa_cons (pv 4) (pa_cons (pv 5) (pa_cons (pv 6) (pa_cons (pv 7) pa_nil))))) pa_nil)))) ?body)))
      (pss_one (ps_ret (pv 3))))), ?_⟩
    case body =>
      rintro D σ H1 ⟨f, i, g, a, t, u, rfl, eg, s1, fr, ev, ls, f0, kn⟩
      have hi := (List.getElem?_eq_some_iff.mp eg).1
      obtain ⟨c1, c2, c3, c4, c5⟩ := hl.ok g (List.mem_of_getElem? eg)
      obtain ⟨l0, _, _, e0, _⟩ := id ls
      refine ⟨_, rfl, .inl ⟨rfl, _, SqL.of e0⟩, _, rfl, _, rfl, _, rfl, _, rfl, by show 4 ≤ sizeLine; decide, fun q hq => ?_⟩
      have s2 := Same.upd (o := .tup [.str g.nm, .str g.pa, .str g.un, .ref a]) hq
      have e2 : upd H1 q (.tup [.str g.nm, .str g.pa, .str g.un, .ref a]) q = some (.tup [.str g.nm, .str g.pa, .str g.un, .ref a]) := upd_same
      generalize upd H1 q (.tup [.str g.nm, .str g.pa, .str g.un, .ref a]) = H2 at s2 e2 ⊢
      obtain ⟨ys, ey, yl, ls'⟩ := ls.app (c := wide z (vq tb ub) (lcv g)) s2 (by rw [List.getElem?_map, List.getElem?_map, eg]; rfl) e2 (fr.kt (KT.of s2)) c3 c4 c5 ev
      exact ⟨f, ys, _, rfl, rfl, ey, by rw [yl]; exact Nat.lt_of_lt_of_le (show i < 100 by omega) (by decide), kn _ _ _ _ _ (same_put (s1.trans s2) f0) ls'⟩
    refine ⟨by show 0 ≤ sizeLine; decide, fun f hf => ?_⟩
    have s1 := Same.upd (o := .lst []) hf
    have ls0 : Ls N (upd H f (.lst [])) f 0 ((gs.map lcv).map (wide z (vq tb ub))) := Ls.nil upd_same
    generalize upd H f (.lst []) = H1 at s1 ls0 ⊢
    refine ⟨_, rfl, l, rfl, ⟨_, SqL.of (s1 _ _ hl.l)⟩, for_list (K := K) (a := l) (xs := gs.map fun g => V.ref g.q) (fun i σ H' => ∃ v4 v5 v6 v7 : Option V, σ = STm l b f z v4 v5 v6 v7 ∧ Same H H' ∧ Ls N H' f i ((gs.map lcv).map (wide z (vq tb ub)))) ⟨_, _, _, _, rfl, s1, ls0⟩ (fun i σ H' _ ⟨_, _, _, _, _, s, _⟩ => SqL.of (s _ _ hl.l)) ?_ ?_⟩
    · rintro i x σ H2 hx ⟨v4, v5, v6, v7, rfl, s2, ls⟩
      obtain ⟨g, eg, rfl⟩ := map_at hx
      have hi := (List.getElem?_eq_some_iff.mp eg).1
      obtain ⟨c1, c2, c3, c4, c5⟩ := (hl.ok g (List.mem_of_getElem? eg)).kt (KT.of s2)
      have hb2 := hb.kt (KT.of s2)
      refine ⟨g.q, _, rfl, SqT.of c1, rfl, _, _, rfl, _, _, rfl, _, _, rfl, _, _, rfl, rfl, ?_⟩
      refine ⟨_, rfl, _, rfl, rfl, _, rfl, ?_⟩
      by_cases cz : g.un = z
      · refine if_true_of (decide_eq_true (congrArg V.str cz)) ?_
        refine ⟨_, rfl, g.a, _, 0, _, rfl, rfl, SqT.of c2.at_, rfl, _, rfl, b, _, 0, _, rfl, rfl, SqT.of hb2.at_, rfl, _, _, rfl, rfl, mulW_of c2.bt hb2.bt (by omega), ?_⟩
        refine ⟨_, rfl, g.a, _, 1, _, rfl, rfl, SqT.of c2.at_, rfl, _, rfl, b, _, 1, _, rfl, rfl, SqT.of hb2.at_, rfl, _, _, rfl, rfl, mulW_of c2.bu hb2.bu (by omega), ?_⟩
        have hu : g.u * ub ≠ 0 := Int.mul_ne_zero (Int.ne_of_gt c2.rd.1) (Int.ne_of_gt hb2.rd.1)
        refine ⟨_, _, rfl, hu, Nat.lt_of_lt_of_le (abs_mul_lt c2.bu hb2.bu) (Nat.pow_le_pow_right (by decide) (by omega)), fun p t' u' hp rd' ee lt' lu' => ?_⟩
        have s3 := Same.upd (o := .tup [.int t', .int u']) hp
        have e3 : upd H2 p (.tup [.int t', .int u']) p = some (.tup [.int t', .int u']) := upd_same
        generalize upd H2 p (.tup [.int t', .int u']) = H3 at s3 e3 ⊢
        refine ⟨f, i, g, p, t', u', rfl, eg, s2.trans s3, ⟨e3, rd', ?_, ?_⟩, ?_, ls.same s3, hf, fun v4 v5 v6 v7 H'' s'' ls'' => ⟨v4, v5, v6, v7, rfl, s'', ls''⟩⟩
        · rw [← hN]; exact Nat.lt_of_le_of_lt lt' (abs_mul_lt c2.bt hb2.bt)
        · rw [← hN]; exact Nat.lt_of_le_of_lt lu' (abs_mul_lt c2.bu hb2.bu)
        · rw [if_pos cz, Rat.mul_comm]
          exact vq_mul (Int.ne_of_gt c2.rd.1) (Int.ne_of_gt hb2.rd.1) (Int.ne_of_gt rd'.1) ee
      · refine if_false_of (decide_eq_false fun e => cz (V.str.inj e)) ?_
        refine ⟨f, i, g, g.a, g.t, g.u, rfl, eg, s2, c2.mono (by omega), ?_, ls, hf, fun v4 v5 v6 v7 H'' s'' ls'' => ⟨v4, v5, v6, v7, rfl, s'', ls''⟩⟩
        rw [if_neg cz, Rat.one_mul]
    · rintro σ H2 ⟨v4, v5, v6, v7, rfl, s2, ls⟩
      obtain ⟨ds, d1, d2⟩ := ls.done (by rw [List.length_map, List.length_map, List.length_map]) (by rw [List.length_map, List.length_map]; exact n14)
      exact ⟨_, rfl, k f ds H2 s2 d1 d2 hf⟩
end
end K34
set_option Elab.async false
set_option linter.all false
set_option maxRecDepth 100000
set_option maxHeartbeats 8000000
set_option exponentiation.threshold 100000
namespace K34
open PySem PySem.Spec PyProof.Rows L2 Fa Fb
abbrev sTr : Stmt := top 63
theorem scTr : FnScope ["_law_box_here", "_law_sheet", "_law_cues_here", "_law_other", "_law_due_here", "_law_back", "_law_one", "_law_two", "_law_unit", "_law_by", "_law_more", "_law_wide", "_law_both", "_law_twice", "_law_name", "_law_parent", "_law_amount_here"] ["_law_box_here", "_law_sheet", "_law_cues_here"] (defScope sTr) := ⟨rfl, rfl, rfl, by decide +kernel, rfl, by decide +kernel, by decide +kernel⟩
def KR (H H' : Hp) : Prop := ∀ q o, H q = some o → (∀ a b c : Int, o ≠ .lst [.int a, .int b, .int c]) → H' q = some o
theorem KR.kp {H H' : Hp} {p : Addr} {n : Nat} (b : Box H p n) (k : Kp p H H') : KR H H' := fun q o h ne => k q o (fun e => by
  obtain ⟨a, x, c, z, _⟩ := b
  rw [e, z] at h
  exact ne _ _ _ (Option.some.inj h).symm) h
theorem KR.kt {H H' : Hp} (k : KR H H') : KT H H' := fun q o h nl => k q o h fun a b c => nl _
theorem Inn.kp {K : PySem.W.Frag} {mm : Nat} {H0 H H' : Hp} {c r d : Addr} {gs : List Cu} {rs : List (Addr × List It)} {p : Addr} {n m : Nat} (h : Inn K mm H0 H c r d gs rs) (b : Box H p n) (k : Kp p H H') (b' : Box H' p m) : Inn K mm H0 H' c r d gs rs := by
  have kr := KR.kp b k
  have kt := kr.kt
  refine ⟨kr _ _ h.cl (fun a b c z => ?_), fun g hg => ⟨kt _ _ (h.cok g hg).1 (fun l z => by cases z), (h.cok g hg).2.kt kt⟩, kr _ _ h.rl (fun a b c z => ?_), fun z hz => ⟨⟨kr _ _ (h.rok z hz).1.l (fun a b c e => ?_), fun g hg => ⟨kt _ _ ((h.rok z hz).1.ok g hg).1 (fun l e => by cases e), ((h.rok z hz).1.ok g hg).2.kt kt⟩, (h.rok z hz).1.n⟩, (h.rok z hz).2⟩, h.rv, kr _ _ h.dk (fun a b c z => by cases z), h.n, h.mm, h.c0, h.r0, h.d0, h.cr, fun q z => h.old q (k.no (b'.ne z).symm z)⟩
  · cases gs with
    | nil => cases z
    | cons x r => cases z
  · cases rs with
    | nil => cases z
    | cons x r => cases z
  · cases hz2 : z.2 with
    | nil => rw [hz2] at e; cases e
    | cons x r => rw [hz2] at e; cases e
theorem ShAt.kp {K : PySem.W.Frag} {mm : Nat} {H0 H H' : Hp} {o : Addr} {gs : List Cu} {p : Addr} {n m : Nat} (h : ShAt K mm H0 H o gs) (b : Box H p n) (k : Kp p H H') (b' : Box H' p m) : ShAt K mm H0 H' o gs := let ⟨dx, c, r, d, rs, x, y⟩ := h; ⟨dx, c, r, d, rs, (KR.kp b k).kt _ _ x (fun l z => by cases z), y.kp b k b'⟩
def lcd (g : Lc) : PyData := .tuple [.str g.nm, .str g.pa, .str g.un, .tuple [.int g.t, .int g.u]]
theorem lc_dp {K : PySem.W.Frag} {n : Nat} {H : Hp} {g : Lc} (h : LcOk n H g) : Dp K H (.ref g.q) (lcd g) := .tup (SqT.of h.1) (.cons (.str _) (.cons (.str _) (.cons (.str _) (.cons (.tup (SqT.of h.2.1.at_) (.cons (.int _) (.cons (.int _) .nil))) .nil))))
theorem lcs_dp {K : PySem.W.Frag} {n : Nat} {H : Hp} : ∀ {gs : List Lc}, (∀ g ∈ gs, LcOk n H g) → DpAll K H (gs.map fun g => V.ref g.q) (gs.map lcd)
  | [], _ => .nil
  | g :: r, h => .cons (lc_dp (h g List.mem_cons_self)) (lcs_dp fun x hx => h x (List.mem_cons_of_mem _ hx))
theorem lcs_lay : ∀ {gs : List Lc}, (∀ g ∈ gs, PyData.strOk g.nm = true ∧ PyData.strOk g.pa = true ∧ PyData.strOk g.un = true) → PyData.canLayAll0 (gs.map lcd) = true ∧ PyData.depthAll (gs.map lcd) ≤ 2
  | [], _ => ⟨rfl, by simp [PyData.depthAll]⟩
  | g :: r, h => by
    obtain ⟨h1, h2⟩ := lcs_lay (gs := r) fun x hx => h x (List.mem_cons_of_mem _ hx)
    obtain ⟨a, b, c⟩ := h g List.mem_cons_self
    simp only [List.map_cons, lcd, PyData.canLayAll0, PyData.canLay0, PyData.depthAll, PyData.depth, a, b, c, h1]
    exact ⟨rfl, by omega⟩
theorem list_shaped {ds : List PyData} (h : PyData.canLayAll0 ds = true) (n : PyData.depthAll ds ≤ 60) : SeqAt.shaped (.list ds) = true := by
  unfold SeqAt.shaped
  have h3 : PyData.canLay0 (.list ds) = true := by simp only [PyData.canLay0, h]
  have h4 : PyData.depth (.list ds) ≤ 64 := by
    simp only [PyData.depth]
    omega
  rw [h3, decide_eq_true h4]
  rfl
structure EqS (P : Program) (w : World) (K : PySem.W.Frag) (mg : Str → Option Value) (base : Heap) (f : Addr) (fd : FuncData) : Prop where
  at_ : PySem.W.findIn K (.ref (CS K)) "__eq__" = some (some (.ref f))
  fn : PySem.W.isFn K (.ref f) = true
  ok : FnOk P w K mg base (L2.CX P w) 5 f fd ["self", "other"] (spSEq K)
  b : Binds K fd ["self", "other"] []
  ne : PySem.W.findIn K (.ref (CS K)) "__ne__" = some (some (.builtin "object.__ne__"))
  ob : PySem.W.subIn K (.ref (CS K)) (.type "object") = some true
theorem lcd_eqv {g h : Lc} (a : Am.Red g.t g.u) (b : Am.Red h.t h.u) : PyData.eqv (lcd g) (lcd h) = decide (lcv g = lcv h) := by
  have e : PyData.eqv (lcd g) (lcd h) = (decide (g.nm = h.nm) && (decide (g.pa = h.pa) && (decide (g.un = h.un) && (decide (g.t = h.t) && decide (g.u = h.u))))) := by
    simp [lcd, PyData.eqv, PyData.eqvAll]
    try rfl
  rw [e, am_dec a b, cue_dec]
  show _ = decide (g.nm = h.nm ∧ g.pa = h.pa ∧ g.un = h.un ∧ vq g.t g.u = vq h.t h.u)
  rw [← dec4, Bool.and_true]
theorem lcds_eqv : ∀ {gs hs : List Lc}, (∀ g ∈ gs, Am.Red g.t g.u) → (∀ g ∈ hs, Am.Red g.t g.u) → PyData.eqvAll (gs.map lcd) (hs.map lcd) = decide (gs.map lcv = hs.map lcv)
  | [], [], _, _ => rfl
  | [], _ :: _, _, _ => by
    rw [decide_eq_false (by simp)]
    rfl
  | _ :: _, [], _, _ => by
    rw [decide_eq_false (by simp)]
    rfl
  | g :: gs, h :: hs, p, q => by
    have ih := lcds_eqv (gs := gs) (hs := hs) (fun x hx => p x (List.mem_cons_of_mem _ hx)) fun x hx => q x (List.mem_cons_of_mem _ hx)
    have e : PyData.eqvAll ((g :: gs).map lcd) ((h :: hs).map lcd) = (PyData.eqv (lcd g) (lcd h) && PyData.eqvAll (gs.map lcd) (hs.map lcd)) := by simp [PyData.eqvAll]
    rw [e, ih, lcd_eqv (p g List.mem_cons_self) (q h List.mem_cons_self), dec_cons]
    rfl
theorem neS (v : V) : (!decide (v = v)) = false := by rw [decide_eq_true rfl]; rfl
theorem cmpL {K : PySem.W.Frag} {n m : Nat} {H : Hp} {a b : Addr} {gs hs : List Lc} (h : LsC n H a gs) (h2 : LsC m H b hs) : Dp K H (.ref a) (.list (gs.map lcd)) ∧ Dp K H (.ref b) (.list (hs.map lcd)) ∧ SeqAt.shaped (.list (gs.map lcd)) = true ∧ SeqAt.shaped (.list (hs.map lcd)) = true ∧ PyData.eqv (.list (gs.map lcd)) (.list (hs.map lcd)) = decide (gs.map lcv = hs.map lcv) := by
  have y1 := lcs_lay (gs := gs) fun g hg => (h.ok g hg).2.2
  have y2 := lcs_lay (gs := hs) fun g hg => (h2.ok g hg).2.2
  refine ⟨.lst (SqL.of h.l) (lcs_dp h.ok), .lst (SqL.of h2.l) (lcs_dp h2.ok), list_shaped y1.1 (by omega), list_shaped y2.1 (by omega), ?_⟩
  rw [← lcds_eqv (fun g hg => (h.ok g hg).2.1.rd) (fun g hg => (h2.ok g hg).2.1.rd)]
  simp [PyData.eqv]
theorem goodS_str {cs : List M04.Cue} (g : GoodS cs) : ∀ c ∈ cs, PyData.strOk c.nm = true ∧ PyData.strOk c.pa = true ∧ PyData.strOk c.un = true := fun c hc => by
  refine ⟨isName_str (g.2 c hc).1, ?_, unit_ok (g.2 c hc).2⟩
  rcases List.mem_cons.mp (num_in (z := "start") g hc) with e | e
  · rw [e]; decide +kernel
  · obtain ⟨d, hd, ed⟩ := List.mem_map.mp e
    rw [← ed]
    exact isName_str (g.2 d hd).1
theorem pln_str {gs : List Cu} (g : GoodS (gs.map cv)) : ∀ y ∈ gs, PyData.strOk y.nm = true ∧ PyData.strOk y.pa = true ∧ PyData.strOk y.un = true := fun y hy => goodS_str g (cv y) (List.mem_map_of_mem hy)
theorem pln_good {K : PySem.W.Frag} {H : Hp} {o : Addr} {mm : Nat} {H0 : Hp} {gs : List Cu} {Q : VK} {E : XK} (sh : ShAt K mm H0 H o gs) (g : GoodS (gs.map cv)) (n : gs.length ≤ 14) (k : ∀ (r : Addr) (ls : List Lc) (H' : Hp), Same H H' → LsC mm H' r ls → ls.map lcv = gs.map cv → H r = none → Q (.ref r) H') : spPln K [.ref o] H Q E :=
  ⟨o, mm, H0, gs, rfl, sh, fun y hy => goodS_str g (cv y) (List.mem_map_of_mem hy), n, k⟩
theorem map_good {K : PySem.W.Frag} {H : Hp} {o : Addr} {mm : Nat} {H0 : Hp} {gs : List Cu} {Q : VK} {E : XK} {g : M04.Cue → M04.Cue} (sh : ShAt K mm H0 H o gs) (gd : GoodS (gs.map cv)) (r8 : (M04.all (gs.map cv)).rows.length ≤ 8) (k : ∀ x H' hs, Same H H' → ShAt K mm H H' x hs → hs.map cv = (gs.map cv).map g → Q (.ref x) H') : spMap K g [.ref o] H Q E :=
  ⟨_, rfl, .inr ⟨o, mm, H0, gs, rfl, sh, gd, r8, k⟩⟩
theorem str_good {K : PySem.W.Frag} {H : Hp} {o : Addr} {mm : Nat} {H0 : Hp} {gs : List Cu} {z : Str} {b : V} {t u : Int} {n : Nat} {Q : VK} {E : XK} (sh : ShAt K mm H0 H o gs) (gd : GoodS (gs.map cv)) (r8 : (M04.all (gs.map cv)).rows.length ≤ 8) (hz : isUnit z = true) (ar : Arg K H b t u n) (h0 : 0 < t) (hn : mm + n + 1 ≤ 100) (k : ∀ x H' hs, Same H H' → ShAt K (mm + n + 1) H H' x hs → hs.map cv = (gs.map cv).map (wide z (vq t u)) → Q (.ref x) H') : spStr K [.ref o, .str z, b] H Q E :=
  ⟨_, _, _, rfl, .inr ⟨o, mm, H0, gs, rfl, sh, .inr ⟨z, rfl, .inr ⟨hz, .inr ⟨t, u, n, ar, by omega, .inr ⟨h0, by omega, gd, r8, k⟩⟩⟩⟩⟩⟩
theorem make_fr {K : PySem.W.Frag} {mg : Str → Option Value} (T : AF K mg) {H : Hp} {b : Addr} {t u : Int} {n : Nat} (fr : Fr n H b t u) (hn : n ≤ 8000) {y dy : Addr} (hy : H y = none) (hd : H dy = none) (hne : dy ≠ y) {Q : Hp → Prop} {E : XK} (k : ∀ H2, Same H H2 → IsA K H2 (.ref y) t u n → Q H2) : spInit K [.ref y, .int t, .int u] (upd (upd H dy (.own y)) y (.ins (CA K) dy [])) (fun v H2 => v = .non ∧ Q H2) E :=
  spInit_imp (make_fact T (n := n) (a := t) (b := u) (Int.ne_of_gt fr.rd.1) hn fr.bt fr.bu hy hd hne) fun w1 H2 ⟨hw, t1, u1, s2, ia, ev⟩ => ⟨hw, by
    obtain ⟨_, _, _, _, rd1, _⟩ := id ia
    obtain ⟨rfl, rfl⟩ := Am.uniq rd1 fr.rd ev
    exact k H2 s2 ia⟩
theorem pos_fst {t b : Int} (h : 0 < t * b) (hb : 0 < b) : 0 < t := by
  apply Classical.byContradiction
  intro c
  have := Int.mul_le_mul_of_nonneg_right (show t ≤ 0 by omega) (Int.le_of_lt hb)
  rw [Int.zero_mul] at this
  omega
theorem Red.neg {t u : Int} (h : Am.Red t u) : Am.Red (0 - t) u := ⟨h.1, by rw [Int.zero_sub, Int.natAbs_neg]; exact h.2⟩
theorem vq_neg0 (t u : Int) : vq (0 - t) u = -1 * vq t u := by
  rw [Int.zero_sub, vq_neg, Rat.neg_mul, Rat.one_mul]
theorem gc_sw2 (cs : List M04.Cue) : (cs.map (M34.gc M34.sw fun _ => 1)).map (M34.gc M34.sw fun _ => 1) = cs := by
  rw [List.map_map]
  conv => rhs; rw [← List.map_id cs]
  refine List.map_congr_left fun c _ => ?_
  show M04.Cue.mk c.nm c.pa (M34.sw (M34.sw c.un)) (1 * (1 * c.q)) = c
  rw [M34.sw_sw, Rat.one_mul, Rat.one_mul]
theorem gc_neg2 (cs : List M04.Cue) : (cs.map (M34.gc id fun _ => -1)).map (M34.gc id fun _ => -1) = cs := by
  rw [List.map_map]
  conv => rhs; rw [← List.map_id cs]
  refine List.map_congr_left fun c _ => ?_
  show M04.Cue.mk c.nm c.pa c.un (-1 * (-1 * c.q)) = c
  rw [← Rat.mul_assoc, show (-1 : Rat) * -1 = 1 by decide +kernel, Rat.one_mul]
theorem wide_one (z : Str) (cs : List M04.Cue) : cs.map (wide z (vq 1 1)) = cs := by
  conv => rhs; rw [← List.map_id cs]
  refine List.map_congr_left fun c _ => ?_
  show M04.Cue.mk c.nm c.pa c.un ((if c.un = z then vq 1 1 else 1) * c.q) = c
  rw [vq_one, ite_self, Rat.one_mul]
theorem wide_two (z : Str) (a b : Rat) (cs : List M04.Cue) : (cs.map (wide z a)).map (wide z b) = cs.map (wide z (a * b)) := by
  rw [List.map_map]
  refine List.map_congr_left fun c _ => ?_
  show M04.Cue.mk c.nm c.pa c.un ((if c.un = z then b else 1) * ((if c.un = z then a else 1) * c.q)) = M04.Cue.mk c.nm c.pa c.un ((if c.un = z then a * b else 1) * c.q)
  by_cases h : c.un = z
  · rw [if_pos h, if_pos h, if_pos h, ← Rat.mul_assoc, Rat.mul_comm b a]
  · rw [if_neg h, if_neg h, if_neg h, Rat.one_mul, Rat.one_mul]
theorem unitAt (z : Int) (h0 : 0 ≤ z) (h1 : z < 2) : ∃ u : Str, atI [V.str "beats", V.str "seconds"] z = some (.str u) ∧ isUnit u = true := by
  have c : z = 0 ∨ z = 1 := by omega
  rcases c with rfl | rfl
  · exact ⟨"beats", rfl, by decide +kernel⟩
  · exact ⟨"seconds", rfl, by decide +kernel⟩
/-- the law's sheet and its cues -/
structure TrE (K : PySem.W.Frag) (H : Hp) (p o l : Addr) (gs : List Cu) (cs : List Lc) (m : Nat) : Prop where
  bx : Box H p m
  lc : LsC 20 H l cs
  lp : l ≠ p
  gd : GoodL (cs.map lcv)
  sh : ∃ H0, ShAt K 20 H0 H o gs
  ev : gs.map cv = cs.map lcv
  r8 : (M04.all (cs.map lcv)).rows.length ≤ 8
theorem TrE.kp {K : PySem.W.Frag} {H H' : Hp} {p o l : Addr} {gs : List Cu} {cs : List Lc} {m m' : Nat} (h : TrE K H p o l gs cs m) (k : Kp p H H') (b : Box H' p m') : TrE K H' p o l gs cs m' :=
  ⟨b, h.lc.kp h.bx k h.lp, h.lp, h.gd, let ⟨H0, s⟩ := h.sh; ⟨H0, s.kp h.bx k b⟩, h.ev, h.r8⟩
theorem TrE.same {K : PySem.W.Frag} {H H' : Hp} {p o l : Addr} {gs : List Cu} {cs : List Lc} {m : Nat} (h : TrE K H p o l gs cs m) (s : Same H H') : TrE K H' p o l gs cs m := h.kp (Kp.same s) (h.bx.sm s)
theorem TrE.gs {K : PySem.W.Frag} {H : Hp} {p o l : Addr} {gs : List Cu} {cs : List Lc} {m : Nat} (h : TrE K H p o l gs cs m) : GoodS (gs.map cv) := by rw [h.ev]; exact h.gd.s
theorem TrE.n {K : PySem.W.Frag} {H : Hp} {p o l : Addr} {gs : List Cu} {cs : List Lc} {m : Nat} (h : TrE K H p o l gs cs m) : gs.length ≤ 14 := by
  have := congrArg List.length h.ev
  rw [List.length_map, List.length_map] at this
  rw [this]
  exact h.lc.n
theorem TrE.r {K : PySem.W.Frag} {H : Hp} {p o l : Addr} {gs : List Cu} {cs : List Lc} {m : Nat} (h : TrE K H p o l gs cs m) : (M04.all (gs.map cv)).rows.length ≤ 8 := by rw [h.ev]; exact h.r8
def spTr (K : PySem.W.Frag) : Sp := fun vs H Q _ => ∃ p o l gs cs m, vs = [.ref p, .ref o, .ref l] ∧ TrE K H p o l gs cs m ∧ m + 10 ≤ 1000000 ∧ ∀ H', Kp p H H' → Box H' p (m + 5) → Q (.bl true) H'
abbrev STr (p o l : Addr) (v3 v4 v5 v6 v7 v8 v9 v10 v11 : Option V) : L2.St := [some (.ref p), some (.ref o), some (.ref l), v3, v4, v5, v6, v7, v8, v9, v10, v11, none, none, none, none, none]
def sTrA (K : PySem.W.Frag) (H : Hp) (p o l : Addr) (cs : List Lc) (gs : List Cu) (m : Nat) : TS := fun D σ H' => ∃ v3 v4 v5 v6 v7, σ = STr p o l v3 v4 v5 v6 v7 none none none none ∧ Kp p H H' ∧ TrE K H' p o l gs cs m ∧ ∀ H'', Kp p H H'' → Box H'' p (m + 5) → D.rt (.bl true) H''
def sTrB (K : PySem.W.Frag) (H : Hp) (p o l : Addr) (cs : List Lc) (gs : List Cu) (m : Nat) : TS := fun D σ H' => ∃ v3 v4 v5 v6 v7 un by_ mo wi t u t2 u2 H1 hs, σ = STr p o l v3 v4 v5 v6 v7 (some (.str un)) (some (.ref by_)) (some (.ref mo)) (some (.ref wi)) ∧ isUnit un = true ∧ Kp p H H' ∧ TrE K H' p o l gs cs (m + 5) ∧ Fr 4 H' by_ t u ∧ Fr 4 H' mo t2 u2 ∧ 0 < t ∧ 0 < t2 ∧ ShAt K 25 H1 H' wi hs ∧ hs.map cv = (cs.map lcv).map (wide un (vq t u)) ∧ ∀ H'', Kp p H H'' → Box H'' p (m + 5) → D.rt (.bl true) H''
section
variable {P : Program} {w : World} {K : PySem.W.Frag} {mg : Str → Option Value} {base : Heap} {f f1 f2 f3 f4 f5 f6 f7 f8 : Addr} {fd fd1 fd2 fd3 fd4 fd5 fd6 fd7 fd8 fdI : FuncData}
theorem ok_tr (F : FnP K "_law_turned_right" sTr f fd) (T : AF K mg) (M : MF K mg) (EX : Fn P w K mg base "exchanged" 12 ["sheet"] (spMap K (M34.gc M34.sw fun _ => 1)) f1 fd1) (RV : Fn P w K mg base "reversed_sheet" 12 ["sheet"] (spMap K (M34.gc id fun _ => -1)) f2 fd2) (ST : Fn P w K mg base "stretched" 12 ["sheet", "unit", "by"] (spStr K) f3 fd3)
    (PL : Fn P w K mg base "_law_plain" 3 ["_law_sheet"] (spPln K) f4 fd4) (TM : Fn P w K mg base "_law_times" 3 ["_law_cues_here", "_law_unit", "_law_by"] (spTms K) f5 fd5) (GT : Fn0 P w K mg base "_law_take" 1 ["_law_box_here", "_law_many"] spTake f6 fd6) (LO : Fn P w K mg base "_law_lowest" 1 ["_law_top", "_law_bottom"] spLow f7 fd7)
    (EQS : EqS P w K mg base f8 fd8) (GI : FnOk P w K mg base (L2.CX P w) 4 (aI K) fdI ["self", "top", "bottom"] (spInit K)) (bA : Binds K fdI ["self", "top", "bottom"] []) : FnOk P w K mg base (L2.CX P w) 13 f fd ["_law_box_here", "_law_sheet", "_law_cues_here"] (spTr K) := by
  refine F.ok scTr (fun vs H Q E h => ?_) (fun cdv A outer s H vs Q E hr h => ?_)
  · obtain ⟨p, o, l, gs, cs, m, rfl, _⟩ := h
    rfl
  · obtain ⟨p, o, l, gs, cs, m, rfl, env, hm, k⟩ := h
    have hu : (A.deeper (envOfC "_law_turned_right" (defScope sTr) s.heap.objs.size f cdv)).units + 64 < cLine := by
      have := hr.un
      omega
    have hu1 : (A.deeper (envOfC "_law_turned_right" (defScope sTr) s.heap.objs.size f cdv)).units + 1 < cLine := by
      have := hr.un
      omega
    have hr1 := hr.mono (show 1 ≤ 12 by decide)
    have hr3 := hr.mono (show 3 ≤ 12 by decide)
    have hr5 := hr.mono (show 5 ≤ 12 by decide)
    have hr7 := hr.mono (show 7 ≤ 12 by decide)
    have hr12 := hr.mono (show 12 ≤ 12 by decide)
    refine ⟨_, (pss_cons (ps_set (i := 3) scTr.nd rfl (Or.inr rfl) (pe_disp (pps_cons pe_str pe_str (pps_cons pe_str pe_str pps_nil)) rfl rfl (by simp) (by decide)))
      (pss_cons (ps_setLc (i := 4) (own := [("_law_name", 14), ("_law_parent", 15), ("_law_unit", 8), ("_law_amount_here", 16)]) (g := gTup K 4 (gCons (gName 14) (gCons (gName 15) (gCons (gName 8) (gCons (gName 16) gNil))))) (te := tTup (tCons (tVar 14) (tCons (tVar 15) (tCons (tDGet (tVar 3) (tVar 8)) (tCons (tVar 16) tNil))))) (by rfl) scTr.nd rfl rfl (sw_true rfl rfl rfl (by decide +kernel)) (pi_list (pv 2)) (blkOk_by (own := [("_law_name", 14), ("_law_parent", 15), ("_law_unit", 8), ("_law_amount_here", 16)]) (N := ["_law_box_here", "_law_sheet", "_law_cues_here", "_law_other", "_law_due_here", "_law_back", "_law_one", "_law_two", "_law_unit", "_law_by", "_law_more", "_law_wide", "_law_both", "_law_twice", "_law_name", "_law_parent", "_law_amount_here"]) (sc := defScope sTr) (by decide +kernel)) (fun _ _ _ _ _ => (pg_tup (by rfl) (pgs_cons (pg_name (i := 14) scTr.nd rfl (Or.inl rfl)) (pgs_cons (pg_name (i := 15) scTr.nd rfl (Or.inl rfl)) (pgs_cons (pg_name (i := 8) scTr.nd rfl (Or.inl rfl)) (pgs_cons (pg_name (i := 16) scTr.nd rfl (Or.inl rfl)) pgs_nil)))))) (fun _ _ _ _ _ => pts_nil) (fun _ _ _ _ _ => (pe_tup (pa_cons (pv 14) (pa_cons (pv 15) (pa_cons (pe_dget hu1 (pv 3) (pv 8) (fun _ _ => rfl)) (pa_cons (pv 16) pa_nil)))))))
      (pss_cons (ps_setLc (i := 5) (own := [("_law_name", 14), ("_law_parent", 15), ("_law_unit", 8), ("_law_amount_here", 16)]) (g := gTup K 4 (gCons (gName 14) (gCons (gName 15) (gCons (gName 8) (gCons (gName 16) gNil))))) (te := tTup (tCons (tVar 14) (tCons (tVar 15) (tCons (tVar 8) (tCons (tTup (tCons (tOp (rI0 fun i j => .int (i - j)) (tC (.int 0)) (tOp (rIxT K) (tVar 16) (tC (.int 0)))) (tCons (tOp (rIxT K) (tVar 16) (tC (.int 1))) tNil))) tNil))))) (by rfl) scTr.nd rfl rfl (sw_true rfl rfl rfl (by decide +kernel)) (pi_list (pv 2)) (blkOk_by (own := [("_law_name", 14), ("_law_parent", 15), ("_law_unit", 8), ("_law_amount_here", 16)]) (N := ["_law_box_here", "_law_sheet", "_law_cues_here", "_law_other", "_law_due_here", "_law_back", "_law_one", "_law_two", "_law_unit", "_law_by", "_law_more", "_law_wide", "_law_both", "_law_twice", "_law_name", "_law_parent", "_law_amount_here"]) (sc := defScope sTr) (by decide +kernel)) (fun _ _ _ _ _ => (pg_tup (by rfl) (pgs_cons (pg_name (i := 14) scTr.nd rfl (Or.inl rfl)) (pgs_cons (pg_name (i := 15) scTr.nd rfl (Or.inl rfl)) (pgs_cons (pg_name (i := 8) scTr.nd rfl (Or.inl rfl)) (pgs_cons (pg_name (i := 16) scTr.nd rfl (Or.inl rfl)) pgs_nil)))))) (fun _ _ _ _ _ => pts_nil) (fun _ _ _ _ _ => (pe_tup (pa_cons (pv 14) (pa_cons (pv 15) (pa_cons (pv 8) (pa_cons (pe_tup (pa_cons (pe_op op_sub pe_int (pe_ix ix_tup (pv 16) pe_int (fun _ _ => rfl))) (pa_cons (pe_ix ix_tup (pv 16) pe_int (fun _ _ => rfl)) pa_nil))) pa_nil)))))))
      (pss_cons (ps_par (by rfl) scTr.nd (i := 6) (j := 7) rfl rfl (by decide) rfl rfl (pa_cons (pe_call EX.ok hr12 rfl EX.g EX.k EX.b .nil passL (pa_cons (pv 1) pa_nil)) (pa_cons (pe_call RV.ok hr12 rfl RV.g RV.k RV.b .nil passL (pa_cons (pv 1) pa_nil)) pa_nil)) (by rfl))
      (pss_cons (ps_if (PW.pt (pw_or (pt_cmpR (op_neD hu) (pe_call PL.ok hr3 rfl PL.g PL.k PL.b .nil passL (pa_cons (pv 6) pa_nil)) (pv 4) (nomark _)) (pw_or (pt_cmpR (op_neD hu) (pe_call PL.ok hr3 rfl PL.g PL.k PL.b .nil passL (pa_cons (pv 7) pa_nil)) (pv 5) (nomark _)) (pw_or (pt_cmp (Fn.pe_neX EQS.at_ EQS.fn EQS.ne EQS.ob EQS.ok hr7 EQS.b passS (pe_call EX.ok hr12 rfl EX.g EX.k EX.b .nil passL (pa_cons (pv 6) pa_nil)) (pv 1))) (pw_or1 (pt_cmp (Fn.pe_neX EQS.at_ EQS.fn EQS.ne EQS.ob EQS.ok hr7 EQS.b passS (pe_call RV.ok hr12 rfl RV.g RV.k RV.b .nil passL (pa_cons (pv 7) pa_nil)) (pv 1)))))))) (pss_one (ps_ret pe_bl)) pss_nil)
      (pss_imp (S := sTrA K H p o l cs gs m) (pss_cons (ps_par (by rfl) scTr.nd (i := 8) (j := 9) rfl rfl (by decide) rfl rfl (pa_cons (pe_ix ix_list (pe_lst (pa_cons pe_str (pa_cons pe_str pa_nil))) (pe_call GT.ok hr1 rfl GT.g GT.k GT.b .nil pass0 (pa_cons (pv 0) (pa_cons pe_int pa_nil))) (fun _ _ => rfl)) (pa_cons (pe_call LO.ok hr1 rfl LO.g LO.k LO.b .nil passL (pa_cons (pe_op op_add pe_int (pe_call GT.ok hr1 rfl GT.g GT.k GT.b .nil pass0 (pa_cons (pv 0) (pa_cons pe_int pa_nil)))) (pa_cons (pe_op op_add pe_int (pe_call GT.ok hr1 rfl GT.g GT.k GT.b .nil pass0 (pa_cons (pv 0) (pa_cons pe_int pa_nil)))) pa_nil))) pa_nil)) (by rfl))
      (pss_cons (ps_set (i := 10) scTr.nd rfl (Or.inl rfl) (pe_call LO.ok hr1 rfl LO.g LO.k LO.b .nil passL (pa_cons (pe_op op_add pe_int (pe_call GT.ok hr1 rfl GT.g GT.k GT.b .nil pass0 (pa_cons (pv 0) (pa_cons pe_int pa_nil)))) (pa_cons (pe_op op_add pe_int (pe_call GT.ok hr1 rfl GT.g GT.k GT.b .nil pass0 (pa_cons (pv 0) (pa_cons pe_int pa_nil)))) pa_nil))))
      (pss_cons (ps_set (i := 11) scTr.nd rfl (Or.inl rfl) (pe_call ST.ok hr12 rfl ST.g ST.k ST.b .nil passL (pa_cons (pv 1) (pa_cons (pv 8) (pa_cons (pe_make T.mkA GI hr5 rfl T.g bA .nil passL (pa_cons (pe_ix ix_tup (pv 9) pe_int (fun _ _ => rfl)) (pa_cons (pe_ix ix_tup (pv 9) pe_int (fun _ _ => rfl)) pa_nil))) pa_nil)))))
      (pss_cons (ps_if (PW.pt (pw_or (pt_cmpR (op_neD hu) (pe_call PL.ok hr3 rfl PL.g PL.k PL.b .nil passL (pa_cons (pv 11) pa_nil)) (pe_call TM.ok hr3 rfl TM.g TM.k TM.b .nil passL (pa_cons (pv 2) (pa_cons (pv 8) (pa_cons (pv 9) pa_nil)))) (nomark _)) (pw_or1 (pt_cmp (Fn.pe_neX EQS.at_ EQS.fn EQS.ne EQS.ob EQS.ok hr7 EQS.b passS (pe_call ST.ok hr12 rfl ST.g ST.k ST.b .nil passL (pa_cons (pv 1) (pa_cons (pv 8) (pa_cons pe_int pa_nil)))) (pv 1)))))) (pss_one (ps_ret pe_bl)) pss_nil)
      (pss_cons (ps_if (pt_cmpR (op_neD hu) (pe_call PL.ok hr3 rfl PL.g PL.k PL.b .nil passL (pa_cons (pe_call ST.ok hr12 rfl ST.g ST.k ST.b .nil passL (pa_cons (pv 1) (pa_cons (pv 8) (pa_cons pe_int pa_nil)))) pa_nil)) (pe_call TM.ok hr3 rfl TM.g TM.k TM.b .nil passL (pa_cons (pv 2) (pa_cons (pv 8) (pa_cons (pe_tup (pa_cons pe_int (pa_cons pe_int pa_nil))) pa_nil)))) (nomark _)) (pss_one (ps_ret pe_bl)) pss_nil)
      (pss_imp (S := sTrB K H p o l cs gs m) (pss_cons (ps_set (i := 12) scTr.nd rfl (Or.inl rfl) (pe_call LO.ok hr1 rfl LO.g LO.k LO.b .nil passL (pa_cons (pe_op op_mulW (pe_ix ix_tup (pv 9) pe_int (fun _ _ => rfl)) (pe_ix ix_tup (pv 10) pe_int (fun _ _ => rfl))) (pa_cons (pe_op op_mulW (pe_ix ix_tup (pv 9) pe_int (fun _ _ => rfl)) (pe_ix ix_tup (pv 10) pe_int (fun _ _ => rfl))) pa_nil))))
      (pss_cons (ps_set (i := 13) scTr.nd rfl (Or.inl rfl) (pe_call ST.ok hr12 rfl ST.g ST.k ST.b .nil passL (pa_cons (pv 11) (pa_cons (pv 8) (pa_cons (pe_make T.mkA GI hr5 rfl T.g bA .nil passL (pa_cons (pe_ix ix_tup (pv 10) pe_int (fun _ _ => rfl)) (pa_cons (pe_ix ix_tup (pv 10) pe_int (fun _ _ => rfl)) pa_nil))) pa_nil)))))
      (pss_one (ps_ret (pe_and (pe_cmp (pe_eqX EQS.at_ EQS.fn EQS.ok hr5 EQS.b passS (pv 13) (pe_call ST.ok hr12 rfl ST.g ST.k ST.b .nil passL (pa_cons (pv 1) (pa_cons (pv 8) (pa_cons (pe_make T.mkA GI hr5 rfl T.g bA .nil passL (pa_cons (pe_ix ix_tup (pv 12) pe_int (fun _ _ => rfl)) (pa_cons (pe_ix ix_tup (pv 12) pe_int (fun _ _ => rfl)) pa_nil))) pa_nil)))))) (pe_one (pe_cmpR (op_eqD hu) (pe_call PL.ok hr3 rfl PL.g PL.k PL.b .nil passL (pa_cons (pv 1) pa_nil)) (pv 2) (nomark _)))))))) ?cb)))))) ?ca)))))), ?_⟩
    case ca =>
      rintro D σ J1 ⟨v3, v4, v5, v6, v7, rfl, k1, e1, kn⟩
      refine ⟨by show 2 ≤ sizeLine; decide, fun la hla => ?_⟩
      have s2 := Same.upd (o := .lst [V.str "beats", V.str "seconds"]) hla
      have x2 : upd J1 la (.lst [V.str "beats", V.str "seconds"]) la = some (.lst [V.str "beats", V.str "seconds"]) := upd_same
      have e2 := e1.same s2
      have lap : la ≠ p := (e1.bx.ne hla).symm
      generalize upd J1 la (.lst [V.str "beats", V.str "seconds"]) = J2 at s2 x2 e2 ⊢
      refine ⟨_, rfl, p, 2, _, rfl, e2.bx, by omega, by decide, by decide, fun z3 J3 y3 w3 b3 k3 => ?_⟩
      have e3 := e2.kp (Kp.but k3) b3
      obtain ⟨un, eun, hun⟩ := unitAt z3 y3 w3
      refine ⟨la, _, z3, _, rfl, rfl, SqL.of (Kp.but k3 _ _ lap x2), eun, ?_⟩
      refine ⟨_, rfl, p, 9, _, rfl, e3.bx, by omega, by decide, by decide, fun z4 J4 y4 w4 b4 k4 => ⟨_, _, rfl, rfl, ?_⟩⟩
      have e4 := e3.kp (Kp.but k4) b4
      refine ⟨_, rfl, p, 9, _, rfl, e4.bx, by omega, by decide, by decide, fun z5 J5 y5 w5 b5 k5 => ⟨_, _, rfl, rfl, ?_⟩⟩
      have e5 := e4.kp (Kp.but k5) b5
      refine ⟨1 + z4, 1 + z5, rfl, by omega, Nat.lt_of_lt_of_le (show (1 + z5).natAbs < 16 by omega) (by decide), fun by_ t u hq rd ee lt lu => ?_⟩
      have s6 := Same.upd (o := .tup [.int t, .int u]) hq
      have x6 : upd J5 by_ (.tup [.int t, .int u]) by_ = some (.tup [.int t, .int u]) := upd_same
      have e6 := e5.same s6
      generalize upd J5 by_ (.tup [.int t, .int u]) = J6 at s6 x6 e6 ⊢
      have f6 : Fr 4 J6 by_ t u := ⟨x6, rd, Nat.lt_of_le_of_lt lt (by show _ < 16; omega), Nat.lt_of_le_of_lt lu (by show _ < 16; omega)⟩
      have tp : 0 < t := by
        have h1 : 0 < (1 + z4) * u := Int.mul_pos (by omega) rd.1
        rw [← ee] at h1
        exact pos_fst h1 (by omega)
      refine ⟨_, _, rfl, _, rfl, p, 9, _, rfl, e6.bx, by omega, by decide, by decide, fun z7 J7 y7 w7 b7 k7 => ⟨_, _, rfl, rfl, ?_⟩⟩
      have e7 := e6.kp (Kp.but k7) b7
      refine ⟨_, rfl, p, 9, _, rfl, e7.bx, by omega, by decide, by decide, fun z8 J8 y8 w8 b8 k8 => ⟨_, _, rfl, rfl, ?_⟩⟩
      have e8 := e7.kp (Kp.but k8) b8
      refine ⟨1 + z7, 1 + z8, rfl, by omega, Nat.lt_of_lt_of_le (show (1 + z8).natAbs < 16 by omega) (by decide), fun mo t2 u2 hq2 rd2 ee2 lt2 lu2 => ?_⟩
      have s9 := Same.upd (o := .tup [.int t2, .int u2]) hq2
      have x9 : upd J8 mo (.tup [.int t2, .int u2]) mo = some (.tup [.int t2, .int u2]) := upd_same
      have e9 := e8.same s9
      generalize upd J8 mo (.tup [.int t2, .int u2]) = J9 at s9 x9 e9 ⊢
      have f9 : Fr 4 J9 mo t2 u2 := ⟨x9, rd2, Nat.lt_of_le_of_lt lt2 (by show _ < 16; omega), Nat.lt_of_le_of_lt lu2 (by show _ < 16; omega)⟩
      have tp2 : 0 < t2 := by
        have h1 : 0 < (1 + z7) * u2 := Int.mul_pos (by omega) rd2.1
        rw [← ee2] at h1
        exact pos_fst h1 (by omega)
      have f69 : Fr 4 J9 by_ t u := ((f6.kt (KT.kp e6.bx (Kp.but k7))).kt (KT.kp e7.bx (Kp.but k8))).kt (KT.of s9)
      have k19 : Kp p J1 J9 := (Kp.same s2).trans ((Kp.but k3).trans ((Kp.but k4).trans ((Kp.but k5).trans ((Kp.same s6).trans ((Kp.but k7).trans ((Kp.but k8).trans (Kp.same s9)))))))
      have b9 := e9.bx
      refine ⟨_, rfl, _, rfl, _, rfl, by_, _, 0, _, rfl, rfl, SqT.of f69.at_, rfl, _, rfl, by_, _, 1, _, rfl, rfl, SqT.of f69.at_, rfl, fun y dy hy hdy hne => make_fr T f69 (by decide) hy hdy hne fun J10 s10 ia => ?_⟩
      have e10 := e9.same s10
      obtain ⟨H010, sh10⟩ := e10.sh
      refine ⟨_, _, _, rfl, .inr ⟨o, 20, H010, gs, rfl, sh10, .inr ⟨un, rfl, .inr ⟨hun, .inr ⟨t, u, 4, .inl ia, by decide, .inr ⟨tp, by decide, e10.gs, e10.r, fun wi J11 hs s11 shw ew => ?_⟩⟩⟩⟩⟩⟩
      have e11 := e10.same s11
      have s911 := s10.trans s11
      have f11 := f69.kt (KT.of s911)
      have fm11 := f9.kt (KT.of s911)
      rw [e1.ev] at ew
      have gdw : GoodS (hs.map cv) := by rw [ew]; exact goodS_gc env.gd.s (fun z h => h)
      have lw : hs.length ≤ 14 := by
        have := congrArg List.length ew
        rw [List.length_map, List.length_map, List.length_map] at this
        have := env.lc.n
        omega
      refine ⟨_, rfl, _, _, _, _, rfl, shw, pln_str gdw, lw, fun ra as J12 s12 lA eA rA0 => ?_⟩
      have e12 := e11.same s12
      refine ⟨_, rfl, _, rfl, _, rfl, l, by_, un, cs, 20, 4, t, u, rfl, e12.lc, f11.kt (KT.of s12), by decide, fun rt ts J13 s13 lT eT rT0 => ?_⟩
      obtain ⟨a1, a2, a3, a4, a5⟩ := cmpL (K := K) (lA.same s13) lT
      refine ⟨_, _, a1, a2, a3, a4, _, rfl, ?_⟩
      rw [a5, eA, eT, ew]
      refine if_false_of (by rw [decide_eq_true rfl]; rfl) ?_
      have e13 := e12.same s13
      obtain ⟨H013, sh13⟩ := e13.sh
      refine ⟨_, rfl, _, rfl, _, _, _, rfl, .inr ⟨_, _, _, _, rfl, sh13, .inr ⟨un, rfl, .inr ⟨hun, .inr ⟨1, 1, 1, (.inr ⟨rfl, rfl, by decide, by decide⟩), by decide, .inr ⟨by decide, by decide, e13.gs, e13.r, fun x3 J14 gs3 s14 sh14 ev3 => ?_⟩⟩⟩⟩⟩⟩
      have e14 := e13.same s14
      obtain ⟨H014, sho⟩ := e14.sh
      obtain ⟨dz, _, _, _, _, hox, _⟩ := id sh14
      obtain ⟨dy, _, _, _, _, hoy, _⟩ := id sho
      refine ⟨_, rfl, x3, dz, _, rfl, hox, .inl ⟨o, dy, _, rfl, hoy⟩, x3, _, _, gs3, _, rfl, sh14, .inl ⟨o, 20, H014, gs, rfl, sho, fun J15 s15 => ⟨_, rfl, _, rfl, ?_⟩⟩⟩
      rw [ev3, wide_one]
      refine if_false_of (by rw [decide_eq_true rfl]; rfl) ?_
      have e15 := e14.same s15
      obtain ⟨H015, sh15⟩ := e15.sh
      refine ⟨_, rfl, _, rfl, _, _, _, rfl, .inr ⟨_, _, _, _, rfl, sh15, .inr ⟨un, rfl, .inr ⟨hun, .inr ⟨3, 1, 2, (.inr ⟨rfl, rfl, by decide, by decide⟩), by decide, .inr ⟨by decide, by decide, e15.gs, e15.r, fun x4 J16 gs4 s16 sh16 ev4 => ?_⟩⟩⟩⟩⟩⟩
      have e16 := e15.same s16
      rw [e1.ev] at ev4
      have gd4 : GoodS (gs4.map cv) := by rw [ev4]; exact goodS_gc env.gd.s (fun z h => h)
      have l4 : gs4.length ≤ 14 := by
        have := congrArg List.length ev4
        rw [List.length_map, List.length_map, List.length_map] at this
        have := env.lc.n
        omega
      refine ⟨_, _, _, _, rfl, sh16, pln_str gd4, l4, fun rb bs J17 s17 lB eB rB0 => ?_⟩
      have e17 := e16.same s17
      refine ⟨_, rfl, _, rfl, by show 2 ≤ sizeLine; decide, fun q3 hq3 => ?_⟩
      have s18 := Same.upd (o := .tup [.int 3, .int 1]) hq3
      have x18 : upd J17 q3 (.tup [.int 3, .int 1]) q3 = some (.tup [.int 3, .int 1]) := upd_same
      generalize upd J17 q3 (.tup [.int 3, .int 1]) = J18 at s18 x18 ⊢
      have e18 := e17.same s18
      have f3 : Fr 2 J18 q3 3 1 := ⟨x18, ⟨by decide, by decide⟩, by decide, by decide⟩
      refine ⟨l, q3, un, cs, 20, 2, 3, 1, rfl, e18.lc, f3, by decide, fun rt2 ts2 J19 s19 lT2 eT2 rT20 => ?_⟩
      obtain ⟨b1, b2, b3', b4', b5'⟩ := cmpL (K := K) ((lB.same s18).same s19) lT2
      refine ⟨_, _, b1, b2, b3', b4', _, rfl, ?_⟩
      rw [b5', eB, eT2, ev4]
      refine if_false_of (by rw [decide_eq_true rfl]; rfl) ?_
      have sE := s12.trans (s13.trans (s14.trans (s15.trans (s16.trans (s17.trans (s18.trans s19))))))
      have s9E := s911.trans sE
      exact ⟨_, _, _, _, _, un, by_, mo, wi, t, u, t2, u2, J10, hs, rfl, hun, k1.trans (k19.trans (Kp.same s9E)), (e9.same s9E).kp (Kp.refl _ _) (b9.sm s9E), f69.kt (KT.of s9E), f9.kt (KT.of s9E), tp, tp2, shw.same sE, ew, kn⟩
    case cb =>
      rintro D σ J1 ⟨v3, v4, v5, v6, v7, un, by_, mo, wi, t, u, t2, u2, H1, hs, rfl, hun, k1, e1, fb, fm, t0, t20, shw, ew, kn⟩
      refine ⟨_, rfl, by_, _, 0, _, rfl, rfl, SqT.of fb.at_, rfl, _, rfl, mo, _, 0, _, rfl, rfl, SqT.of fm.at_, rfl, _, _, rfl, rfl, mulW_of fb.bt fm.bt (by decide), ?_⟩
      refine ⟨_, rfl, by_, _, 1, _, rfl, rfl, SqT.of fb.at_, rfl, _, rfl, mo, _, 1, _, rfl, rfl, SqT.of fm.at_, rfl, _, _, rfl, rfl, mulW_of fb.bu fm.bu (by decide), ?_⟩
      have hu0 : 0 < u * u2 := Int.mul_pos fb.rd.1 fm.rd.1
      have bt := abs_mul_lt fb.bt fm.bt
      have bu := abs_mul_lt fb.bu fm.bu
      refine ⟨_, _, rfl, Int.ne_of_gt hu0, Nat.lt_of_lt_of_le bu (Nat.pow_le_pow_right (by decide) (by decide)), fun bo t3 u3 hq rd ee lt lu => ?_⟩
      have s2 := Same.upd (o := .tup [.int t3, .int u3]) hq
      have x2 : upd J1 bo (.tup [.int t3, .int u3]) bo = some (.tup [.int t3, .int u3]) := upd_same
      have e2 := e1.same s2
      generalize upd J1 bo (.tup [.int t3, .int u3]) = J2 at s2 x2 e2 ⊢
      have fo : Fr 8 J2 bo t3 u3 := ⟨x2, rd, Nat.lt_of_le_of_lt lt bt, Nat.lt_of_le_of_lt lu bu⟩
      have t30 : 0 < t3 := by
        have h1 : 0 < t * t2 * u3 := Int.mul_pos (Int.mul_pos t0 t20) rd.1
        rw [← ee] at h1
        exact pos_fst h1 hu0
      have ev3 : vq t3 u3 = vq t u * vq t2 u2 := vq_mul (Int.ne_of_gt fb.rd.1) (Int.ne_of_gt fm.rd.1) (Int.ne_of_gt rd.1) ee
      have fm2 := fm.kt (KT.of s2)
      have shw2 := shw.same s2
      have gdw : GoodS (hs.map cv) := by rw [ew]; exact goodS_gc env.gd.s (fun z h => h)
      have rw8 : (M04.all (hs.map cv)).rows.length ≤ 8 := by
        rw [ew, M34.len_gc (M34.nice_by (vq_posT fb.rd.1 t0))]
        exact env.r8
      refine ⟨_, rfl, _, rfl, _, rfl, mo, _, 0, _, rfl, rfl, SqT.of fm2.at_, rfl, _, rfl, mo, _, 1, _, rfl, rfl, SqT.of fm2.at_, rfl, fun y dy hy hdy hne => make_fr T fm2 (by decide) hy hdy hne fun J3 s3 ia => ?_⟩
      refine ⟨_, _, _, rfl, .inr ⟨wi, 25, _, hs, rfl, shw2.same s3, .inr ⟨un, rfl, .inr ⟨hun, .inr ⟨t2, u2, 4, .inl ia, by decide, .inr ⟨t20, by decide, gdw, rw8, fun tw J4 ts s4 sht et => ?_⟩⟩⟩⟩⟩⟩
      have s24 := s3.trans s4
      have e4 := e2.same s24
      have fo4 := fo.kt (KT.of s24)
      refine ⟨_, rfl, _, rfl, _, rfl, _, rfl, bo, _, 0, _, rfl, rfl, SqT.of fo4.at_, rfl, _, rfl, bo, _, 1, _, rfl, rfl, SqT.of fo4.at_, rfl, fun y2 dy2 hy2 hdy2 hne2 => make_fr T fo4 (by decide) hy2 hdy2 hne2 fun J5 s5 ia2 => ?_⟩
      have e5 := e4.same s5
      obtain ⟨H05, sh5⟩ := e5.sh
      refine ⟨_, _, _, rfl, .inr ⟨o, 20, _, gs, rfl, sh5, .inr ⟨un, rfl, .inr ⟨hun, .inr ⟨t3, u3, 8, .inl ia2, by decide, .inr ⟨t30, by decide, e5.gs, e5.r, fun x6 J6 gs6 s6 sh6 ev6 => ?_⟩⟩⟩⟩⟩⟩
      have sht6 := (sht.same s5).same s6
      obtain ⟨dz, _, _, _, _, hox, _⟩ := id sht6
      obtain ⟨dy, _, _, _, _, hoy, _⟩ := id sh6
      refine ⟨tw, dz, _, rfl, hox, .inl ⟨x6, dy, _, rfl, hoy⟩, tw, _, _, ts, _, rfl, sht6, .inl ⟨x6, _, _, gs6, rfl, sh6, fun J7 s7 => ⟨_, rfl, ?_⟩⟩⟩
      have eqE : ts.map cv = gs6.map cv := by rw [et, ew, ev6, e1.ev, wide_two, ev3]
      rw [decide_eq_true eqE]
      have e7 := (e5.same s6).same s7
      obtain ⟨H07, sh7⟩ := e7.sh
      refine if_true_of rfl ⟨_, rfl, _, _, _, _, rfl, sh7, pln_str e7.gs, e7.n, fun ra as J8 s8 lA eA rA0 => ?_⟩
      have e8 := e7.same s8
      obtain ⟨a1, a2, a3, a4, a5⟩ := cmpL (K := K) lA e8.lc
      refine ⟨_, rfl, _, _, a1, a2, a3, a4, ?_⟩
      rw [a5, eA, e1.ev, decide_eq_true rfl]
      exact kn J8 (k1.trans (Kp.same (s2.trans (s24.trans (s5.trans (s6.trans (s7.trans s8))))))) e8.bx
    intro d hd
    refine ⟨upd_same, [(Sum.inr "beats", .str "seconds"), (Sum.inr "seconds", .str "beats")], rfl, by decide, ?_⟩
    have em : mergeK [] [((Sum.inr ("beats" : Str) : Key), V.str "seconds"), (Sum.inr ("seconds" : Str), V.str "beats")] = [((Sum.inr ("beats" : Str) : Key), V.str "seconds"), (Sum.inr ("seconds" : Str), V.str "beats")] := rfl
    rw [em, upd_upd]
    have vv : ∀ z : Str, isUnit z = true → valV [((Sum.inr ("beats" : Str) : Key), V.str "seconds"), (Sum.inr ("seconds" : Str), V.str "beats")] (Sum.inr z) = some (.str (M34.sw z)) := fun z hz => by
      unfold isUnit at hz
      rw [Bool.or_eq_true, decide_eq_true_iff, decide_eq_true_iff] at hz
      rcases hz with rfl | rfl <;> rfl
    have s1 := Same.upd (o := .dK [((Sum.inr ("beats" : Str) : Key), V.str "seconds"), (Sum.inr ("seconds" : Str), V.str "beats")]) hd
    have e1 : upd H d (.dK [((Sum.inr ("beats" : Str) : Key), V.str "seconds"), (Sum.inr ("seconds" : Str), V.str "beats")]) d = some (.dK [((Sum.inr ("beats" : Str) : Key), V.str "seconds"), (Sum.inr ("seconds" : Str), V.str "beats")]) := upd_same
    show tSeq _ _ _ _ (upd H d (.dK [((Sum.inr ("beats" : Str) : Key), V.str "seconds"), (Sum.inr ("seconds" : Str), V.str "beats")]))
    generalize upd H d (.dK [((Sum.inr ("beats" : Str) : Key), V.str "seconds"), (Sum.inr ("seconds" : Str), V.str "beats")]) = H1 at s1 e1 ⊢
    have n14 := env.lc.n
    have en1 := env.same s1
    refine ⟨_, rfl, l, rfl, ⟨_, SqL.of en1.lc.l⟩, fun D hD => ?_⟩
    refine lc_list (K := K) (a := l) (xs := cs.map fun g => V.ref g.q) (fun i H' => Same H1 H' ∧ Ls 20 H' D i ((cs.map lcv).map (M34.gc M34.sw fun _ => 1))) ⟨Same.upd hD, Ls.nil upd_same⟩ (fun i H' _ ⟨s, _⟩ => SqL.of (s _ _ en1.lc.l)) ?_ ?_
    · rintro i x H2 hx ⟨s2, ls⟩
      obtain ⟨g, eg, rfl⟩ := map_at hx
      have hi := (List.getElem?_eq_some_iff.mp eg).1
      have hg := List.mem_of_getElem? eg
      obtain ⟨g1, g2, g3, g4, g5⟩ := (en1.lc.ok g hg).kt (KT.of s2)
      have un := (env.gd.2 _ (List.mem_map_of_mem hg)).2.2
      have su := unit_ok (sw_unit un)
      refine ⟨g.q, _, rfl, SqT.of g1, rfl, _, _, rfl, _, _, rfl, _, _, rfl, _, _, rfl, rfl, rfl, ?_⟩
      refine ⟨_, rfl, _, rfl, _, rfl, _, rfl, d, _, rfl, .inl ⟨_, Sum.inr g.un, Rd.of (s2 _ _ e1), rfl, (vv g.un un).symm⟩, _, rfl, by show 4 ≤ sizeLine; decide, fun q hq => ?_⟩
      have s3 := Same.upd (o := .tup [.str g.nm, .str g.pa, .str (M34.sw g.un), .ref g.a]) hq
      have e3 : upd H2 q (.tup [.str g.nm, .str g.pa, .str (M34.sw g.un), .ref g.a]) q = some (.tup [.str g.nm, .str g.pa, .str (M34.sw g.un), .ref g.a]) := upd_same
      generalize upd H2 q (.tup [.str g.nm, .str g.pa, .str (M34.sw g.un), .ref g.a]) = H3 at s3 e3 ⊢
      obtain ⟨ys, e4, yl, ls'⟩ := ls.app (c := M34.gc M34.sw (fun _ => 1) (lcv g)) s3 (by rw [List.getElem?_map, List.getElem?_map, eg]; rfl) e3 (g2.kt (KT.of s3)) g3 g4 su (by show _ = 1 * vq g.t g.u; rw [Rat.one_mul])
      exact ⟨_, e4, by rw [yl]; exact Nat.lt_of_lt_of_le (show i < 100 by omega) (by decide), same_put (s2.trans s3) hD, ls'⟩
    rintro H2 ⟨s2, ls⟩
    rw [List.length_map] at ls
    obtain ⟨due, lD, eD⟩ := ls.done (by rw [List.length_map, List.length_map]) (by rw [List.length_map, List.length_map]; exact n14)
    have en2 := en1.same s2
    refine ⟨_, rfl, l, rfl, ⟨_, SqL.of en2.lc.l⟩, fun D2 hD2 => ?_⟩
    refine lc_list (K := K) (a := l) (xs := cs.map fun g => V.ref g.q) (fun i H' => Same H2 H' ∧ Ls 20 H' D2 i ((cs.map lcv).map (M34.gc id fun _ => -1))) ⟨Same.upd hD2, Ls.nil upd_same⟩ (fun i H' _ ⟨s, _⟩ => SqL.of (s _ _ en2.lc.l)) ?_ ?_
    · rintro i x H3 hx ⟨s3, ls⟩
      obtain ⟨g, eg, rfl⟩ := map_at hx
      have hi := (List.getElem?_eq_some_iff.mp eg).1
      have hg := List.mem_of_getElem? eg
      obtain ⟨g1, g2, g3, g4, g5⟩ := (en2.lc.ok g hg).kt (KT.of s3)
      refine ⟨g.q, _, rfl, SqT.of g1, rfl, _, _, rfl, _, _, rfl, _, _, rfl, _, _, rfl, rfl, rfl, ?_⟩
      refine ⟨_, rfl, _, rfl, _, rfl, _, rfl, g.a, _, 0, _, rfl, rfl, SqT.of g2.at_, rfl, _, _, rfl, rfl, _, rfl, g.a, _, 1, _, rfl, rfl, SqT.of g2.at_, rfl, by show 2 ≤ sizeLine; decide, fun q0 hq0 => ?_⟩
      have s4 := Same.upd (o := .tup [.int (0 - g.t), .int g.u]) hq0
      have e4 : upd H3 q0 (.tup [.int (0 - g.t), .int g.u]) q0 = some (.tup [.int (0 - g.t), .int g.u]) := upd_same
      generalize upd H3 q0 (.tup [.int (0 - g.t), .int g.u]) = H4 at s4 e4 ⊢
      refine ⟨by show 4 ≤ sizeLine; decide, fun q hq => ?_⟩
      have s5 := Same.upd (o := .tup [.str g.nm, .str g.pa, .str g.un, .ref q0]) hq
      have e5 : upd H4 q (.tup [.str g.nm, .str g.pa, .str g.un, .ref q0]) q = some (.tup [.str g.nm, .str g.pa, .str g.un, .ref q0]) := upd_same
      generalize upd H4 q (.tup [.str g.nm, .str g.pa, .str g.un, .ref q0]) = H5 at s5 e5 ⊢
      have fr : Fr 20 H5 q0 (0 - g.t) g.u := ⟨s5 _ _ e4, Red.neg g2.rd, by rw [Int.zero_sub, Int.natAbs_neg]; exact g2.bt, g2.bu⟩
      obtain ⟨ys, e6, yl, ls'⟩ := ls.app (c := M34.gc id (fun _ => -1) (lcv g)) (s4.trans s5) (by rw [List.getElem?_map, List.getElem?_map, eg]; rfl) e5 fr g3 g4 g5 (vq_neg0 _ _)
      exact ⟨_, e6, by rw [yl]; exact Nat.lt_of_lt_of_le (show i < 100 by omega) (by decide), same_put (s3.trans (s4.trans s5)) hD2, ls'⟩
    rintro H3 ⟨s3, ls2⟩
    rw [List.length_map] at ls2
    obtain ⟨bck, lB, eB⟩ := ls2.done (by rw [List.length_map, List.length_map]) (by rw [List.length_map, List.length_map]; exact n14)
    have en3 := en2.same s3
    have lD3 := lD.same s3
    obtain ⟨H03, sh3⟩ := en3.sh
    refine ⟨_, rfl, _, rfl, .inr ⟨_, _, _, _, rfl, sh3, en3.gs, en3.r, fun x1 H4 gs1 s4 sh1 ev1 => ?_⟩⟩
    have en4 := en3.same s4
    obtain ⟨H04, sh4⟩ := en4.sh
    refine ⟨_, rfl, _, rfl, .inr ⟨_, _, _, _, rfl, sh4, en4.gs, en4.r, fun x2 H5 gs2 s5 sh2 ev2 => ?_⟩⟩
    have en5 := en4.same s5
    have sh15 := sh1.same s5
    rw [en3.ev] at ev1
    rw [en4.ev] at ev2
    have gd1 : GoodS (gs1.map cv) := by rw [ev1]; exact goodS_gc env.gd.s (fun z h => sw_unit h)
    have gd2 : GoodS (gs2.map cv) := by rw [ev2]; exact goodS_gc env.gd.s (fun z h => h)
    have r1 : (M04.all (gs1.map cv)).rows.length ≤ 8 := by rw [ev1, M34.len_gc M34.nice_sw]; exact env.r8
    have r2 : (M04.all (gs2.map cv)).rows.length ≤ 8 := by rw [ev2, M34.len_gc M34.nice_neg]; exact env.r8
    have l1 : gs1.length ≤ 14 := by
      have := congrArg List.length ev1
      rw [List.length_map, List.length_map, List.length_map] at this
      omega
    have l2 : gs2.length ≤ 14 := by
      have := congrArg List.length ev2
      rw [List.length_map, List.length_map, List.length_map] at this
      omega
    refine ⟨_, _, rfl, _, rfl, _, _, _, _, rfl, sh15, pln_str gd1, l1, fun ra as H6 s6 lA eA rA0 => ?_⟩
    have lD6 := (lD3.same (s4.trans s5)).same s6
    obtain ⟨a1, a2, a3, a4, a5⟩ := cmpL (K := K) lA lD6
    refine ⟨_, rfl, _, _, a1, a2, a3, a4, _, rfl, ?_⟩
    rw [a5, eA, eD, ev1]
    refine if_false_of (by rw [decide_eq_true rfl]; rfl) ?_
    refine ⟨_, rfl, _, _, _, _, rfl, (sh2.same s6), pln_str gd2, l2, fun rb bs H7 s7 lB' eB' rB0 => ?_⟩
    have lB7 := ((lB.same (s4.trans s5)).same s6).same s7
    obtain ⟨b1, b2, b3, b4, b5⟩ := cmpL (K := K) lB' lB7
    refine ⟨_, rfl, _, _, b1, b2, b3, b4, _, rfl, ?_⟩
    rw [b5, eB', eB, ev2]
    refine if_false_of (by rw [decide_eq_true rfl]; rfl) ?_
    have s57 := s6.trans s7
    refine ⟨_, rfl, _, rfl, .inr ⟨_, _, _, _, rfl, (sh15.same s57), gd1, r1, fun x3 H8 gs3 s8 sh38 ev3 => ?_⟩⟩
    have en8 := en5.same (s57.trans s8)
    obtain ⟨H08, sh8⟩ := en8.sh
    obtain ⟨dz, _, _, _, _, hox, _⟩ := id sh38
    obtain ⟨dy, _, _, _, _, hoy, _⟩ := id sh8
    refine ⟨_, rfl, x3, dz, _, rfl, hox, .inl ⟨o, dy, _, rfl, hoy⟩, x3, 20, _, gs3, _, rfl, sh38, .inl ⟨o, 20, H08, gs, rfl, sh8, fun H9 s9 => ⟨_, rfl, _, rfl, ?_⟩⟩⟩
    rw [ev3, ev1, gc_sw2, env.ev]
    refine if_false_of (by rw [decide_eq_true rfl]; rfl) ?_
    have s79 := s8.trans s9
    refine ⟨_, rfl, _, rfl, .inr ⟨_, _, _, _, rfl, ((sh2.same s57).same s79), gd2, r2, fun x4 H10 gs4 s10 sh410 ev4 => ?_⟩⟩
    have en10 := en8.same (s9.trans s10)
    obtain ⟨H010, sh10⟩ := en10.sh
    obtain ⟨dz2, _, _, _, _, hox2, _⟩ := id sh410
    obtain ⟨dy2, _, _, _, _, hoy2, _⟩ := id sh10
    refine ⟨_, rfl, x4, dz2, _, rfl, hox2, .inl ⟨o, dy2, _, rfl, hoy2⟩, x4, 20, _, gs4, _, rfl, sh410, .inl ⟨o, 20, H010, gs, rfl, sh10, fun H11 s11 => ⟨_, rfl, _, rfl, ?_⟩⟩⟩
    rw [ev4, ev2, gc_neg2, env.ev]
    refine if_false_of (by rw [decide_eq_true rfl]; rfl) ?_
    have s01 := ((s1.trans (s2.trans s3)).trans (s4.trans s5)).trans (s57.trans (s79.trans (s10.trans s11)))
    exact ⟨_, _, _, _, _, rfl, Kp.same s01, env.same s01, fun H'' k'' b'' => k H'' k'' b''⟩
end
end K34
set_option Elab.async false
set_option linter.all false
set_option maxRecDepth 100000
set_option maxHeartbeats 1000000
set_option exponentiation.threshold 100000
namespace K34
open PySem PySem.Spec PyProof.Rows L2 Fa Fb
abbrev sNmd : Stmt := top 68
theorem scNmd : FnScope ["_law_word", "_law_small", "_law_sign"] ["_law_word"] (defScope sNmd) := ⟨rfl, rfl, rfl, by decide +kernel, rfl, by decide +kernel, by decide +kernel⟩
abbrev rNiS : R2 := fun x y H Q => ∃ c z, x = V.str { cps := #[c] } ∧ y = V.str z ∧ Q (V.bl !decide (c ∈ z.cps.toList)) H
def spNmd : Sp := fun vs H Q _ => ∃ z : Str, vs = [.str z] ∧ z.length ≤ 1000 ∧ ∀ H', Same H H' → Q (.bl (isName z)) H'
theorem filter_all {α : Type} {p : α → Bool} (l : List α) : (l.filter fun x => !p x).isEmpty = l.all p := by
  induction l with
  | nil => rfl
  | cons x r ih =>
    cases c : p x with
    | true => simp [c, ih]
    | false => simp [c]
section
variable {P : Program} {w : World} {K : PySem.W.Frag} {mg : Str → Option Value} {base : Heap} {f : Addr} {fd : FuncData} {aU : Addr}
theorem ok_nmd (F : FnP K "_law_is_named" sNmd f fd) (T : AF K mg) (V : VF K mg aU) (mL : mg "len" = none) : FnOk P w K mg base (L2.CX P w) 1 f fd ["_law_word"] spNmd := by
  refine F.ok scNmd (fun vs H Q E h => ?_) (fun cdv A outer s H vs Q E hr h => ?_)
  · obtain ⟨z, rfl, _⟩ := h
    rfl
  · obtain ⟨z, rfl, hz, q⟩ := h
    have hu : (A.deeper (envOfC "_law_is_named" (defScope sNmd) s.heap.objs.size f cdv)).units + 64 < cLine := by
      have := hr.un
      omega
    refine ⟨_, (pss_cons (ps_set (i := 1) scNmd.nd rfl (Or.inr rfl) pe_str)
      (pss_cons (ps_if (PW.pt (pw_or (pt_not (pt_val (pe_isi T.isi (pv 0) (pe_ty V.str boot_str)))) (pw_or (pt_not (pt_chain op_lt op_lt pe_int (pe_callB call_len_str rfl mL PySem.boot_len (pa_cons (pv 0) pa_nil)) pe_int)) (pw_or1 (pt_cmpR op_notIn_sign (pe_ix ix_str (pv 0) pe_int (fun _ _ => rfl)) (pv 1) (by rfl)))))) (pss_one (ps_ret pe_bl)) pss_nil)
      (pss_one (ps_ret (pe_cmpR (Fk.op_eqNil hu) (pe_lc (own := [("_law_sign", 2)]) (g := gName 2) (tt := tTest (tOp rNiS (tVar 2) (tOp rAS (tVar 1) (tC (.str "0123456789"))))) (te := tVar 2) (by rfl) scNmd.nd (pi_str (pv 0)) (blkOk_by (own := [("_law_sign", 2)]) (N := ["_law_word", "_law_small", "_law_sign"]) (sc := defScope sNmd) (by decide +kernel)) (fun _ _ _ _ _ => (pg_name (i := 2) scNmd.nd rfl (Or.inl rfl))) (fun _ _ _ _ _ => pts_one (pt_cmpR op_notIn_sign (pv 2) (pe_op op_add_str (pv 1) pe_str) (by rfl))) (fun _ _ _ _ _ => (pv 2))) (pe_lst pa_nil) (nomark _)))))), ?_⟩
    have hz2 : z.length ≤ sizeLine := Nat.le_trans hz (by decide)
    refine ⟨_, rfl, .str z, _, _, _, true, rfl, .ty "str", TyX.base (.str z), tx_str, true, rfl, iteF ?_⟩
    refine ⟨_, rfl, z, rfl, hz2, _, _, rfl, rfl, _, rfl, ?_⟩
    by_cases c1 : 1 ≤ z.length
    · refine if_true_of (decide_eq_true (by omega)) ⟨_, _, rfl, rfl, _, rfl, ?_⟩
      by_cases c2 : z.length ≤ 8
      · rw [decide_eq_true (show (z.length : Int) < 9 by omega)]
        refine iteF ?_
        have h0 : 0 < z.cps.toList.length := by
          have : z.cps.toList.length = z.length := by simp [Str.length]
          omega
        have hh : z.cps.toList.head? = some z.cps.toList[0] := by rw [List.head?_eq_getElem?, List.getElem?_eq_getElem h0]
        refine ⟨_, rfl, z, _, _, rfl, rfl, hz2, atI_nat (j := 0) (List.getElem?_eq_getElem h0), _, rfl, _, _, rfl, rfl, _, rfl, ?_⟩
        unfold isName at q
        rw [decide_eq_true c1, decide_eq_true c2, hh] at q
        by_cases c3 : z.cps.toList[0] ∈ LET.cps.toList
        · rw [decide_eq_true c3]
          refine iteF ?_
          refine ⟨_, rfl, z, rfl, fun D hD => ?_⟩
          refine lc_signs (fun i H' => Same H H' ∧ H' D = some (.lst (((z.cps.toList.take i).filter fun x => !decide (x ∈ (LET ++ DIG).cps.toList)).map fun x => L2.V.str ⟨#[x]⟩))) ⟨Same.upd hD, upd_same⟩ ?_ ?_
          · rintro i ch H1 hc ⟨s1, hl⟩
            have hc2 : z.cps.toList[i]? = some ch := by rw [Array.getElem?_toList]; exact hc
            refine ⟨rfl, _, rfl, _, rfl, LET, DIG, rfl, rfl, by decide +kernel, ch, LET ++ DIG, rfl, rfl, _, rfl, ?_⟩
            rw [filter_take hc2]
            cases c4 : decide (ch ∈ (LET ++ DIG).cps.toList) with
            | true => exact iteF ⟨s1, by rw [hl]; simp⟩
            | false =>
              refine iteT ⟨_, rfl, _, hl, ?_, same_put s1 hD, by rw [upd_same]; simp⟩
              have a1 := List.length_filter_le (fun x => !decide (x ∈ (LET ++ DIG).cps.toList)) (z.cps.toList.take i)
              have a2 : (z.cps.toList.take i).length ≤ z.length := by
                rw [List.length_take]
                have : z.cps.toList.length = z.length := by simp [Str.length]
                omega
              rw [List.length_map]
              exact Nat.lt_of_lt_of_le (show _ < 2000 by omega) (by decide)
          · rintro H1 ⟨s1, hl⟩
            rw [List.take_of_length_le (by simp)] at hl
            refine ⟨by show 0 ≤ sizeLine; decide, fun b hb => ?_⟩
            have s2 := Same.upd (o := .lst []) hb
            refine ⟨D, b, _, rfl, rfl, SqL.of (s2 _ _ hl), SqL.of upd_same, ?_⟩
            have q' := q _ (s1.trans s2)
            simp only [decide_eq_true c3, Bool.true_and] at q'
            have e5 : (((z.cps.toList.filter fun x => !decide (x ∈ (LET ++ DIG).cps.toList)).map fun x => L2.V.str ⟨#[x]⟩)).isEmpty = only z (LET ++ DIG) := by
              rw [List.isEmpty_map, filter_all]
              rfl
            show Q (.bl (List.isEmpty _)) _
            rw [e5]
            exact q'
        · rw [decide_eq_false c3]
          refine iteT ?_
          have q' := q H (Same.refl _)
          simp only [decide_eq_false c3, Bool.false_and, Bool.and_false] at q'
          exact q'
      · rw [decide_eq_false (show ¬ (z.length : Int) < 9 by omega)]
        refine iteT ?_
        have q' := q H (Same.refl _)
        unfold isName at q'
        rw [decide_eq_false c2, Bool.and_false, Bool.false_and] at q'
        exact q'
    · refine if_false_of (decide_eq_false (by omega)) ⟨_, rfl, iteT ?_⟩
      have q' := q H (Same.refl _)
      unfold isName at q'
      rw [decide_eq_false c1, Bool.false_and, Bool.false_and] at q'
      exact q'
end
end K34
set_option Elab.async false
set_option linter.all false
set_option maxRecDepth 100000
set_option maxHeartbeats 1000000
set_option exponentiation.threshold 100000
namespace K34
open PySem PySem.Spec PyProof.Rows L2 Fa Fb
abbrev sUl : Stmt := top 65
theorem scUl : FnScope ["_law_cues_here", "_law_more", "_law_rows_here", "_law_others", "_law_found", "_law_name"] ["_law_cues_here", "_law_more"] (defScope sUl) := ⟨rfl, rfl, rfl, by decide +kernel, rfl, by decide +kernel, by decide +kernel⟩
theorem start_all : ∀ (cs : List M04.Cue) (s : M04.St), s.nums[0]? = some (("start" : Str), (0 : Nat)) → s.rows[0]? = some [] → (cs.foldl M04.step s).nums[0]? = some (("start" : Str), (0 : Nat)) ∧ (cs.foldl M04.step s).rows[0]? = some []
  | [], s, h1, h2 => ⟨h1, h2⟩
  | c :: r, s, h1, h2 => by
    have l1 := (List.getElem?_eq_some_iff.mp h1).1
    have l2 := (List.getElem?_eq_some_iff.mp h2).1
    refine start_all r (M04.step s c) ?_ ?_
    · show (s.nums ++ _)[0]? = _
      rw [List.getElem?_append_left l1]
      exact h1
    · show (M04.rows s c)[0]? = _
      rw [M04.rows_at s c l2]
      exact h2
theorem rowAt_start (cs : List M04.Cue) : rowAt cs "start" = some [] := by
  obtain ⟨h1, h2⟩ := start_all cs M04.init rfl rfl
  have e : M04.num (M04.all cs).nums "start" = some 0 := by
    unfold M04.num
    cases hn : (M04.all cs).nums with
    | nil =>
      have h1 : (M04.all cs).nums[0]? = some (("start" : Str), (0 : Nat)) := h1
      rw [hn] at h1; cases h1
    | cons z r =>
      have h1 : (M04.all cs).nums[0]? = some (("start" : Str), (0 : Nat)) := h1
      rw [hn] at h1
      cases h1
      rfl
  unfold rowAt
  rw [e]
  exact h2
theorem num_start (cs : List M04.Cue) : (M04.num (M04.all cs).nums "start").isSome = true := (M34.num_mem cs "start").mpr List.mem_cons_self
theorem Rd.same {H H' : Hp} {a : Addr} {u : HO} (h : Rd H a u) (s : Same H H') : Rd H' a u := h.imp (s _ _) fun ⟨o, e⟩ => ⟨o, s _ _ e⟩
theorem same_unlock {H H' : Hp} {d : Addr} {od : Obj} {u : HO} (hd : H d = some u) (s : Same (upd H d (.frz od u)) H') : Same H (upd H' d u) := fun q o h => by
  by_cases e : q = d
  · rw [e] at h ⊢
    rw [hd] at h
    rw [upd_same, h]
  · rw [upd_ne e]
    exact s q o (by rw [upd_ne e]; exact h)
/-- the rows by name, to be read -/
structure RwX (N : Nat) (H : Hp) (d : Addr) (cs : List M04.Cue) (es : List En) : Prop where
  rd : Rd H d (.dK (enK es))
  ok : ∀ e ∈ es, LRow N H e.2.1 e.2.2
  tab : ent es = M04.tab (M04.all cs)
theorem RwX.same {N : Nat} {H H' : Hp} {d : Addr} {cs : List M04.Cue} {es : List En} (h : RwX N H d cs es) (s : Same H H') : RwX N H' d cs es := ⟨Rd.same h.rd s, fun e he => (h.ok e he).kt (KT.of s), h.tab⟩
theorem RwX.lock {N : Nat} {H : Hp} {d d2 : Addr} {cs : List M04.Cue} {es : List En} {od : Obj} {u : List (Key × V)} (h : RwX N H d cs es) (hd : H d2 = some (.dK u)) : RwX N (upd H d2 (.frz od (.dK u))) d cs es := by
  refine ⟨?_, fun e he => (h.ok e he).put (.inr ⟨_, hd⟩), h.tab⟩
  by_cases e : d = d2
  · subst e
    rcases h.rd with r | ⟨o, r⟩
    · rw [hd] at r
      cases r
      exact .inr ⟨od, upd_same⟩
    · rw [hd] at r
      cases r
  · exact h.rd.imp (fun r => by rw [upd_ne e]; exact r) fun ⟨o, r⟩ => ⟨o, by rw [upd_ne e]; exact r⟩
theorem en_names {cs : List M04.Cue} {es : List En} (h : ent es = M04.tab (M04.all cs)) : es.map (·.1) = ("start" : Str) :: cs.map (·.nm) := by
  have e1 : (ent es).map (fun z => z.1) = es.map (·.1) := by
    unfold ent
    rw [List.map_map]
    rfl
  rw [← e1, h, M04.tab_nm, M04.names_all]
theorem en_none {cs : List M04.Cue} {es : List En} {x : Str} (h : ent es = M04.tab (M04.all cs)) (e : M04.num (M04.all cs).nums x = none) : valV (enK es) (Sum.inr x) = none := by
  have f1 : (ent es).find? (fun z => decide (z.1 = x)) = (es.find? fun z => decide (z.1 = x)).map fun e => (e.1, some (lrv e.2.2)) := by
    unfold ent
    rw [List.find?_map]
    rfl
  have f2 : (M04.tab (M04.all cs)).find? (fun z => decide (z.1 = x)) = ((M04.all cs).nums.find? fun z => decide (z.1 = x)).map fun z => (z.1, (M04.all cs).rows[z.2]?) := by
    unfold M04.tab
    rw [List.find?_map]
    rfl
  have f3 : valV (enK es) (Sum.inr x) = (es.find? fun z => decide (z.1 = x)).map fun e => V.ref e.2.1 := by
    unfold valV enK
    rw [List.find?_map, Option.map_map]
    congr 1
    congr 1
    funext z
    show decide ((Sum.inr z.1 : Key) = Sum.inr x) = decide (z.1 = x)
    by_cases c : z.1 = x
    · simp [c]
    · rw [decide_eq_false c, decide_eq_false fun e => c (Sum.inr.inj e)]
  rw [h, f2] at f1
  unfold M04.num at e
  rw [Option.map_eq_none_iff.mp e] at f1
  rw [f3, Option.map_eq_none_iff.mp f1.symm]
  rfl
theorem en_some {cs : List M04.Cue} {es : List En} {x : Str} (h : ent es = M04.tab (M04.all cs)) (e : (M04.num (M04.all cs).nums x).isSome = true) : ∃ p hs, (x, p, hs) ∈ es ∧ rowAt cs x = some (lrv hs) ∧ valV (enK es) (Sum.inr x) = some (.ref p) := by
  obtain ⟨i, ei⟩ := Option.isSome_iff_exists.mp e
  have jl : i < (M04.all cs).rows.length := M04.all_ok _ _ M04.init_ok _ _ ei
  obtain ⟨p, hs, a, b, c⟩ := find_en h ei (List.getElem?_eq_getElem jl)
  refine ⟨p, hs, a, ?_, c⟩
  unfold rowAt
  rw [ei, b]
  exact List.getElem?_eq_getElem jl
def spUl (K : PySem.W.Frag) : Sp := fun vs H Q _ => ∃ (l l2 : Addr) (gs hs : List Lc) (n : Nat), vs = [.ref l, .ref l2] ∧ LsC n H l gs ∧ LsC n H l2 hs ∧ M04.Good (gs.map lcv) ∧ M04.Good (hs.map lcv) ∧ 1 ≤ n ∧ n ≤ 200 ∧ ∀ r H', Same H H' → H' r = some (.lst ((unl (gs.map lcv) (hs.map lcv)).map V.str)) → H r = none → Q (.ref r) H'
/-- whether a name's rows differ -/
def dif (A B : List M04.Cue) (z : Str) : Bool := !(M04.num (M04.all B).nums z).isSome || !decide (rowAt A z = rowAt B z)
theorem dif_start (A B : List M04.Cue) : dif A B "start" = false := by
  unfold dif
  rw [num_start, rowAt_start, rowAt_start, decide_eq_true rfl]
  rfl
theorem unl_eq (A B : List M04.Cue) {NA NB : List Str} (ha : NA = ("start" : Str) :: A.map (·.nm)) (hb : NB = ("start" : Str) :: B.map (·.nm)) : unl A B = NA.filter (dif A B) ++ NB.filter fun z => !(M04.num (M04.all A).nums z).isSome := by
  rw [ha, hb, List.filter_cons_of_neg (by rw [dif_start]; decide), List.filter_cons_of_neg (by rw [num_start]; decide)]
  rfl
section
variable {P : Program} {w : World} {K : PySem.W.Frag} {mg : Str → Option Value} {base : Heap} {f f1 : Addr} {fd fd1 : FuncData}
theorem ok_ul (F : FnP K "_law_unlike" sUl f fd) (RW : Fn P w K mg base "_law_rows" 4 ["_law_cues_here"] (spRws K) f1 fd1) : FnOk P w K mg base (L2.CX P w) 5 f fd ["_law_cues_here", "_law_more"] (spUl K) := by
  refine F.ok scUl (fun vs H Q E h => ?_) (fun cdv A outer s H vs Q E hr h => ?_)
  · obtain ⟨l, l2, gs, hs, n, rfl, _⟩ := h
    rfl
  · obtain ⟨l, l2, gs, hs, n, rfl, hl, hl2, ga, gb, n1, n2, k⟩ := h
    have hu : (A.deeper (envOfC "_law_unlike" (defScope sUl) s.heap.objs.size f cdv)).units + 64 < cLine := by
      have := hr.un
      omega
    have hu1 : (A.deeper (envOfC "_law_unlike" (defScope sUl) s.heap.objs.size f cdv)).units + 1 < cLine := by
      have := hr.un
      omega
    have hr4 := hr.mono (show 4 ≤ 4 by decide)
    refine ⟨_, (pss_cons (ps_asg (pe_tup (pa_cons (pe_call RW.ok hr4 rfl RW.g RW.k RW.b .nil passL (pa_cons (pv 0) pa_nil)) (pa_cons (pe_call RW.ok hr4 rfl RW.g RW.k RW.b .nil passL (pa_cons (pv 1) pa_nil)) pa_nil))) (pg_tup (by rfl) (pgs_cons (pg_name (i := 2) scUl.nd rfl (Or.inr rfl)) (pgs_cons (pg_name (i := 3) scUl.nd rfl (Or.inr rfl)) pgs_nil))))
      (pss_cons (ps_lock (ps_setLc (i := 4) (own := [("_law_name", 5)]) (g := gName 5) (tt := tOr (tB (tDNotIn (tVar 5) (tVar 3))) (tTest (tOp (rNeD K) (tDGet (tVar 2) (tVar 5)) (tDGet (tVar 3) (tVar 5))))) (te := tVar 5) (by rfl) scUl.nd rfl rfl (sw_true rfl rfl rfl (by decide +kernel)) (pi_keys (pv 2)) (blkOk_by (own := [("_law_name", 5)]) (N := ["_law_cues_here", "_law_more", "_law_rows_here", "_law_others", "_law_found", "_law_name"]) (sc := defScope sUl) (by decide +kernel)) (fun _ _ _ _ _ => (pg_name (i := 5) scUl.nd rfl (Or.inl rfl))) (fun _ _ _ _ _ => pts_one (PW.pt (pw_or (pt_cmp (pc_dnotin hu1 (pv 5) (pv 3))) (pw_or1 (pt_cmpR (op_neD hu) (pe_dget hu1 (pv 2) (pv 5) (fun _ _ => rfl)) (pe_dget hu1 (pv 3) (pv 5) (fun _ _ => rfl)) (nomark _)))))) (fun _ _ _ _ _ => (pv 5))))
      (pss_one (ps_ret (pe_op op_cat (pv 4) (pe_lock (pe_lc (own := [("_law_name", 5)]) (g := gName 5) (tt := (tB (tDNotIn (tVar 5) (tVar 2)))) (te := tVar 5) (by rfl) scUl.nd (pi_keys (pv 3)) (blkOk_by (own := [("_law_name", 5)]) (N := ["_law_cues_here", "_law_more", "_law_rows_here", "_law_others", "_law_found", "_law_name"]) (sc := defScope sUl) (by decide +kernel)) (fun _ _ _ _ _ => (pg_name (i := 5) scUl.nd rfl (Or.inl rfl))) (fun _ _ _ _ _ => pts_one (pt_cmp (pc_dnotin hu1 (pv 5) (pv 2)))) (fun _ _ _ _ _ => (pv 5))))))))), ?_⟩
    have g14 := hl.n
    have h14 := hl2.n
    refine ⟨_, rfl, l, gs, n, rfl, hl, ga, n1, n2, fun d H1 es s1 rw1 => ?_⟩
    refine ⟨_, rfl, l2, hs, n, rfl, hl2.same s1, gb, n1, n2, fun d2 H2' es2 s2' rw2' => ?_⟩
    refine ⟨by show 2 ≤ sizeLine; decide, fun q hq => ?_⟩
    have s2 := s2'.trans (Same.upd (o := .tup [.ref d, .ref d2]) hq)
    have rw2 := rw2'.same (Same.upd (o := .tup [.ref d, .ref d2]) hq)
    have e2 : upd H2' q (.tup [.ref d, .ref d2]) q = some (.tup [.ref d, .ref d2]) := upd_same
    generalize upd H2' q (.tup [.ref d, .ref d2]) = H2 at s2 rw2 e2 ⊢
    refine ⟨q, _, rfl, SqT.of e2, rfl, _, _, rfl, _, _, rfl, rfl, ?_⟩
    have rwA : RwX _ H2 d (gs.map lcv) es := ⟨.inl (s2 _ _ rw1.dk), fun e he => (rw1.ok e he).1.kt (KT.of s2), rw1.tab⟩
    have rwB : RwX _ H2 d2 (hs.map lcv) es2 := ⟨.inl rw2.dk, fun e he => (rw2.ok e he).1, rw2.tab⟩
    have dkA := s2 _ _ rw1.dk
    have dkB := rw2.dk
    have s12 := s1.trans s2
    have nA := en_names rwA.tab
    have nB := en_names rwB.tab
    have lA : es.length ≤ 15 := by
      have := congrArg List.length nA
      rw [List.length_map, List.length_cons, List.length_map, List.length_map] at this
      omega
    have lB : es2.length ≤ 15 := by
      have := congrArg List.length nB
      rw [List.length_map, List.length_cons, List.length_map, List.length_map] at this
      omega
    refine ⟨d, _, dkA, trivial, fun od => ?_⟩
    have rwA3 := rwA.lock (od := od) dkA
    have rwB3 := rwB.lock (od := od) dkA
    have hF : upd H2 d (.frz od (.dK (enK es))) d = some (.frz od (.dK (enK es))) := upd_same
    have un := fun H' (s : Same (upd H2 d (.frz od (.dK (enK es)))) H') => same_unlock dkA s
    have fre : ∀ q, upd H2 d (.frz od (.dK (enK es))) q = none → q ≠ d ∧ H2 q = none := fun q hq => by
      by_cases e : q = d
      · rw [e, upd_same] at hq
        cases hq
      · rw [upd_ne e] at hq
        exact ⟨e, hq⟩
    generalize upd H2 d (.frz od (.dK (enK es))) = F1 at rwA3 rwB3 hF un fre ⊢
    refine ⟨_, rfl, d, od, rfl, .inl ⟨_, hF, fun D hD => ?_⟩⟩
    refine lc_it walk_keys (fun j H' => Same F1 H' ∧ H' D = some (.lst ((((es.map (·.1)).take j).filter (dif (gs.map lcv) (hs.map lcv))).map V.str))) ⟨Same.upd hD, upd_same⟩ (fun j H' _ ⟨s, _⟩ => s _ _ hF) ?_ ?_
    · rintro j x H3 H4 hj ⟨s3, e3⟩ ⟨rfl, kk, vv, ek, rfl⟩
      unfold enK at ek
      rw [List.getElem?_map] at ek
      cases ee : es[j]? with
      | none => rw [ee] at ek; cases ek
      | some e =>
      rw [ee] at ek
      cases ek
      have en : (es.map (·.1))[j]? = some e.1 := by rw [List.getElem?_map, ee]; rfl
      have hj2 := (List.getElem?_eq_some_iff.mp ee).1
      have key : ∀ (b : Bool), b = dif (gs.map lcv) (hs.map lcv) e.1 → if b = true then (∃ v, some (some (V.str e.1)) = some (some v) ∧ ∃ ys, H4 D = some (.lst ys) ∧ ys.length < sizeLine ∧ Same F1 (upd H4 D (.lst (ys ++ [v]))) ∧ upd H4 D (.lst (ys ++ [v])) D = some (.lst ((((es.map (·.1)).take (j + 1)).filter (dif (gs.map lcv) (hs.map lcv))).map V.str))) else (Same F1 H4 ∧ H4 D = some (.lst ((((es.map (·.1)).take (j + 1)).filter (dif (gs.map lcv) (hs.map lcv))).map V.str))) := fun b eb => by
        rw [filter_take en, ← eb]
        cases b with
        | false => exact iteF ⟨s3, by rw [e3]; simp⟩
        | true =>
          refine iteT ⟨_, rfl, _, e3, ?_, same_put s3 hD, by rw [upd_same]; simp⟩
          have a1 := List.length_filter_le (dif (gs.map lcv) (hs.map lcv)) ((es.map (·.1)).take j)
          have a2 : ((es.map (·.1)).take j).length ≤ es.length := by
            rw [List.length_take, List.length_map]
            omega
          rw [List.length_map]
          exact Nat.lt_of_lt_of_le (show _ < 100 by omega) (by decide)
      have rwA4 := rwA3.same s3
      have rwB4 := rwB3.same s3
      have inA : (M04.num (M04.all (gs.map lcv)).nums e.1).isSome = true := (M34.num_mem _ _).mpr (by rw [← nA]; exact List.mem_of_getElem? en)
      cases hb : M04.num (M04.all (hs.map lcv)).nums e.1 with
      | none =>
        refine ⟨rfl, _, rfl, _, rfl, d2, none, rfl, .inl ⟨_, Sum.inr e.1, rwB4.rd, rfl, (en_none rwB4.tab hb).symm⟩, _, rfl, iteT (key true ?_)⟩
        unfold dif
        rw [hb]
        rfl
      | some i2 =>
        obtain ⟨p2, r2, m2, ra2, v2⟩ := en_some rwB4.tab (by rw [hb]; rfl)
        obtain ⟨p1, r1, m1, ra1, v1⟩ := en_some rwA4.tab inA
        have lr1 := rwA4.ok _ m1
        have lr2 := rwB4.ok _ m2
        refine ⟨rfl, _, rfl, _, rfl, d2, some (.ref p2), rfl, .inl ⟨_, Sum.inr e.1, rwB4.rd, rfl, v2.symm⟩, _, rfl, iteF ?_⟩
        refine ⟨_, rfl, _, rfl, d, _, rfl, .inl ⟨_, Sum.inr e.1, rwA4.rd, rfl, v1.symm⟩, _, rfl, _, rfl, d2, _, rfl, .inl ⟨_, Sum.inr e.1, rwB4.rd, rfl, v2.symm⟩, ?_⟩
        refine ⟨_, _, row_dp lr1, row_dp lr2, rowd_shaped _ lr1.str, rowd_shaped _ lr2.str, _, rfl, ?_⟩
        rw [rowd_eqv lr1.red lr2.red]
        refine key _ ?_
        unfold dif
        rw [hb, ra1, ra2]
        show (!decide (lrv r1 = lrv r2)) = (!true || !decide (some (lrv r1) = some (lrv r2)))
        rw [Bool.not_true, Bool.false_or]
        congr 1
        rw [decide_eq_decide]
        exact ⟨fun h => by rw [h], fun h => Option.some.inj h⟩
    rintro H3 ⟨s3, e3⟩
    have Dd := (fre D hD).1
    unfold enK at e3
    rw [List.length_map, List.take_of_length_le (by rw [List.length_map]; exact Nat.le_refl _)] at e3
    refine ⟨s3 _ _ hF, ?_⟩
    have s23 := un H3 s3
    have e4 : upd H3 d (.dK (enK es)) D = some (.lst (((es.map (·.1)).filter (dif (gs.map lcv) (hs.map lcv))).map V.str)) := by rw [upd_ne Dd]; exact e3
    generalize upd H3 d (.dK (enK es)) = H4 at s23 e4 ⊢
    have rwA5 := rwA.same s23
    have dkB5 := s23 _ _ dkB
    refine ⟨_, rfl, d2, _, dkB5, trivial, fun od2 => ?_⟩
    have rwA6 := rwA5.lock (od := od2) dkB5
    have hF2 : upd H4 d2 (.frz od2 (.dK (enK es2))) d2 = some (.frz od2 (.dK (enK es2))) := upd_same
    have un2 := fun H' (s : Same (upd H4 d2 (.frz od2 (.dK (enK es2)))) H') => same_unlock dkB5 s
    have fre2 : ∀ q, upd H4 d2 (.frz od2 (.dK (enK es2))) q = none → q ≠ d2 ∧ H4 q = none := fun q hq => by
      by_cases e : q = d2
      · rw [e, upd_same] at hq
        cases hq
      · rw [upd_ne e] at hq
        exact ⟨e, hq⟩
    have Dd2 : D ≠ d2 := fun e => by
      rw [e, dkB5] at e4
      cases e4
    generalize upd H4 d2 (.frz od2 (.dK (enK es2))) = F2 at rwA6 hF2 un2 fre2 ⊢
    refine ⟨_, rfl, d2, od2, rfl, .inl ⟨_, hF2, fun D2 hD2 => ?_⟩⟩
    refine lc_it walk_keys (fun j H' => Same F2 H' ∧ H' D2 = some (.lst ((((es2.map (·.1)).take j).filter fun z => !(M04.num (M04.all (gs.map lcv)).nums z).isSome).map V.str))) ⟨Same.upd hD2, upd_same⟩ (fun j H' _ ⟨s, _⟩ => s _ _ hF2) ?_ ?_
    · rintro j x H5 H6 hj ⟨s5, e5⟩ ⟨rfl, kk, vv, ek, rfl⟩
      unfold enK at ek
      rw [List.getElem?_map] at ek
      cases ee : es2[j]? with
      | none => rw [ee] at ek; cases ek
      | some e =>
      rw [ee] at ek
      cases ek
      have en : (es2.map (·.1))[j]? = some e.1 := by rw [List.getElem?_map, ee]; rfl
      have hj2 := (List.getElem?_eq_some_iff.mp ee).1
      have rwA7 := rwA6.same s5
      rw [filter_take en]
      cases hb : M04.num (M04.all (gs.map lcv)).nums e.1 with
      | none =>
        refine ⟨rfl, _, rfl, _, rfl, d, none, rfl, .inl ⟨_, Sum.inr e.1, rwA7.rd, rfl, (en_none rwA7.tab hb).symm⟩, _, rfl, iteT ?_⟩
        refine ⟨_, rfl, _, e5, ?_, same_put s5 hD2, by rw [upd_same]; simp [hb, kV]⟩
        have a1 := List.length_filter_le (fun z => !(M04.num (M04.all (gs.map lcv)).nums z).isSome) ((es2.map (·.1)).take j)
        have a2 : ((es2.map (·.1)).take j).length ≤ es2.length := by
          rw [List.length_take, List.length_map]
          omega
        rw [List.length_map]
        exact Nat.lt_of_lt_of_le (show _ < 100 by omega) (by decide)
      | some i2 =>
        obtain ⟨p2, r2, m2, ra2, v2⟩ := en_some rwA7.tab (by rw [hb]; rfl)
        exact ⟨rfl, _, rfl, _, rfl, d, some (.ref p2), rfl, .inl ⟨_, Sum.inr e.1, rwA7.rd, rfl, v2.symm⟩, _, rfl, iteF ⟨s5, by rw [e5]; simp [hb]⟩⟩
    rintro H5 ⟨s5, e5⟩
    have D2d := (fre2 D2 hD2).1
    unfold enK at e5
    rw [List.length_map, List.take_of_length_le (by rw [List.length_map]; exact Nat.le_refl _)] at e5
    refine ⟨s5 _ _ hF2, ?_⟩
    have s45 := un2 H5 s5
    have e6 : upd H5 d2 (.dK (enK es2)) D2 = some (.lst (((es2.map (·.1)).filter fun z => !(M04.num (M04.all (gs.map lcv)).nums z).isSome).map V.str)) := by rw [upd_ne D2d]; exact e5
    have e7 := s45 _ _ e4
    generalize upd H5 d2 (.dK (enK es2)) = H6 at s45 e6 e7 ⊢
    have ue := unl_eq (gs.map lcv) (hs.map lcv) nA nB
    have ul := unl_len (gs.map lcv) (hs.map lcv)
    rw [ue, List.length_append, List.length_map, List.length_map] at ul
    refine ⟨D, D2, _, _, rfl, rfl, e7, e6, by rw [List.length_map, List.length_map]; exact Nat.le_trans (show _ ≤ 100 by omega) (by decide), fun l6 hl6 => ?_⟩
    have sF := s12.trans (s23.trans s45)
    have s6 := Same.upd (o := .lst ((unl (gs.map lcv) (hs.map lcv)).map V.str)) hl6
    rw [ue, List.map_append] at s6 k
    exact k l6 _ (sF.trans s6) upd_same (none_of sF hl6)
end
end K34
set_option Elab.async false
set_option linter.all false
set_option maxRecDepth 100000
set_option maxHeartbeats 4000000
/-! l.remove(x) of a list of data: the first equal one goes. -/
namespace Gf
open PySem PySem.Spec PyProof.Rows L2
variable {X : Cx}
def rRemoveD (K : PySem.W.Frag) : V → List V → Hp → VK → Prop := fun x xs H Q => ∃ (a : Addr) (y : V) (vs : List V) (d : PyData) (ds : List PyData) (j : Nat) (z : PyData), x = V.ref a ∧ xs = [y] ∧ H a = some (.lst vs) ∧ DpAll K H vs ds ∧ Dp K H y d ∧
  SeqAt.shaped (.list ds) = true ∧ SeqAt.shaped d = true ∧ ds[j]? = some z ∧ PyData.eqv z d = true ∧ (∀ (m : Nat) (z' : PyData), m < j → ds[m]? = some z' → PyData.eqv z' d = false) ∧ Q .non (upd H a (.lst (vs.eraseIdx j)))
theorem mt_removeD (hu : X.A.units + 65 < cLine) : MtM X "list.remove" (rRemoveD X.K) := by
  intro pins s σ H x xs v us Q I rx rxs h
  obtain ⟨a, y, vs, d, ds, j, z, rfl, rfl, hH, ha, hy, sl, sd, hz, hzj, hno, q⟩ := h
  cases rx
  obtain ⟨uy, rfl, ry⟩ := rxs.one
  obtain ⟨bs, r1⟩ := Dp.reads I d y uy hy ry
  have hxs : PyData.canLayAll0 ds = true := SeqAt.canLay_of_shaped sl
  have hroom : X.A.units + 1 + min (PyData.depthAll ds) d.depth < cLine := room_in_shaped sd hu
  obtain ⟨zl, its, n, r, hl, ho⟩ := I.lstM hH
  obtain ⟨as, h4⟩ := Dp.readsAll I ds _ its ha r
  have hn : its.length = ds.length := SeqAt.ReadsAll.length ds its as h4
  have hmap : its.map (SeqAt.readOf s.heap) = ds := SeqAt.readsAll_map ds its as hxs h4
  obtain ⟨hjd, _⟩ := List.getElem?_eq_some_iff.mp hz
  have hjl : j < its.length := by omega
  have hj : j < its.toArray.size := by simpa using hjl
  have at_ : ∀ (m : Nat) (hm : m < its.toArray.size) (z' : PyData), ds[m]? = some z' → SeqAt.readOf s.heap its.toArray[m] = z' := by
    intro m hm z' hz'
    have hml : m < its.length := by simpa using hm
    rw [← hmap, List.getElem?_map, List.getElem?_eq_getElem hml] at hz'
    have e1 : SeqAt.readOf s.heap its[m] = z' := Option.some.inj (show some (SeqAt.readOf s.heap its[m]) = some z' from hz')
    simpa using e1
  refine call_meets PySem.F.slot_list_remove ⟨_, ho, rfl⟩ PySem.F.entry_list_remove (PySem.F.args_list_remove_2 _ _)
    (SeqAt.list_removeAt a its.toArray n none #[] uy (fun u => PyData.eqv (SeqAt.readOf s.heap u) d) j hj ?_ ?_ (by rw [List.size_toArray, ← hl]; exact zl)) ⟨ho, SeqAt.items_eqAt (vs := its.toArray) (show ReadsAll s.heap its.toArray.toList ds as from h4) r1 hxs (SeqAt.canLay_of_shaped sd) hroom, ?_⟩
  · show PyData.eqv (SeqAt.readOf s.heap its.toArray[j]) d = true
    rw [at_ j hj z hz]
    exact hzj
  · intro m hm hmj
    have hm2 : m < ds.length := by
      rw [← hn]
      simpa using hm
    show PyData.eqv (SeqAt.readOf s.heap its.toArray[m]) d = false
    rw [at_ m hm ds[m] (List.getElem?_eq_getElem hm2)]
    exact hno m ds[m] hmj (List.getElem?_eq_getElem hm2)
  · have rr := r.eraseIdx j
    refine ⟨.non, _, I.lset (its' := its.eraseIdx j) (t' := s.toks) hH ho ?_ rr ?_, rfl, q⟩
    · show its.toArray.eraseIdxIfInBounds j = (its.eraseIdx j).toArray
      rw [List.eraseIdxIfInBounds_toArray]
    · have := List.length_eraseIdx_le (l := vs) (i := j)
      omega
end Gf
set_option Elab.async false
set_option linter.all false
set_option maxRecDepth 100000
set_option maxHeartbeats 1000000
namespace K34
open PySem
/-! rows of cues in another order -/
theorem num_of_mem {cs : List M04.Cue} (g : M04.Good cs) {z : Str × Nat} (h : z ∈ (M04.all cs).nums) : M04.num (M04.all cs).nums z.1 = some z.2 := by
  have nd : ((M04.all cs).nums.map (·.1)).Nodup := by
    rw [M04.names_all]
    exact M04.names_nodup g
  unfold M04.num
  rw [M04.find_nm (a := z.2) nd h]
  rfl
theorem rowAt_mem {cs : List M04.Cue} (g : M04.Good cs) {x : Str} {r : M04.Row} (h : (x, some r) ∈ M04.tab (M04.all cs)) : rowAt cs x = some r := by
  unfold M04.tab at h
  obtain ⟨z, hz, e⟩ := List.mem_map.mp h
  have e1 : z.1 = x := congrArg Prod.fst e
  have e2 : (M04.all cs).rows[z.2]? = some r := congrArg Prod.snd e
  unfold rowAt
  rw [← e1, num_of_mem g hz]
  exact e2
theorem mem_tab {cs : List M04.Cue} {x : Str} {i : Nat} {r : M04.Row} (e : M04.num (M04.all cs).nums x = some i) (er : (M04.all cs).rows[i]? = some r) : (x, some r) ∈ M04.tab (M04.all cs) := by
  unfold M04.num at e
  cases en : (M04.all cs).nums.find? fun z => decide (z.1 = x) with
  | none => rw [en] at e; cases e
  | some z =>
    rw [en] at e
    cases e
    have zx : z.1 = x := of_decide_eq_true (List.find?_some (p := fun z : Str × Nat => decide (z.1 = x)) en)
    unfold M04.tab
    refine List.mem_map.mpr ⟨z, List.mem_of_find?_eq_some en, ?_⟩
    rw [zx]
    show (x, _) = _
    rw [show (M04.all cs).rows[z.2]? = some r from er]
theorem rowAt_at {cs : List M04.Cue} (g : M04.Good cs) {i : Nat} {c : M04.Cue} (e : cs[i]? = some c) : ∃ r, rowAt cs c.pa = some r ∧ M04.row (M04.all (cs.take i)) c = M04.ext r c.un c.q ∧ rowAt cs c.nm = some (M04.ext r c.un c.q) := by
  obtain ⟨g1, g2⟩ := g i c e
  obtain ⟨j, ej⟩ := Option.isSome_iff_exists.mp g2
  have jl : j < (M04.all (cs.take i)).rows.length := M04.all_ok _ _ M04.init_ok _ _ ej
  have er := List.getElem?_eq_getElem jl
  have m1 := M04.tab_pre cs i (mem_tab ej er)
  have er2 : M04.row (M04.all (cs.take i)) c = M04.ext (M04.all (cs.take i)).rows[j] c.un c.q := by
    unfold M04.row
    rw [ej, Option.getD_some, List.getD_eq_getElem?_getD, er, Option.getD_some]
  refine ⟨_, rowAt_mem g m1, er2, ?_⟩
  rw [← er2]
  exact rowAt_mem g (M04.tab_mem g e)
theorem rowAt_sub {cs ds : List M04.Cue} (g : M04.Good cs) (h : M04.Good ds) (sub : ∀ c ∈ ds, c ∈ cs) : ∀ (n i : Nat) c, i < n → ds[i]? = some c → rowAt ds c.nm = rowAt cs c.nm
  | 0, i, c, hi, e => absurd hi (Nat.not_lt_zero _)
  | n + 1, i, c, hi, e => by
    obtain ⟨r, r1, _, r3⟩ := rowAt_at h e
    obtain ⟨k, hk, ek⟩ := List.mem_iff_getElem.mp (sub c (List.mem_of_getElem? e))
    obtain ⟨r', r1', _, r3'⟩ := rowAt_at g (show cs[k]? = some c by rw [List.getElem?_eq_getElem hk, ek])
    have ep : rowAt ds c.pa = rowAt cs c.pa := by
      have hp := ((M04.good_iff ds).mp h i c e).2
      rcases List.mem_cons.mp hp with hp | hp
      · rw [hp, rowAt_start, rowAt_start]
      · obtain ⟨d, hd, ed⟩ := List.mem_map.mp hp
        obtain ⟨j, hj, ej⟩ := List.mem_iff_getElem.mp hd
        have hj2 : j < i := by
          rw [List.length_take] at hj
          omega
        have e2 : ds[j]? = some d := by
          have : (ds.take i)[j]? = some d := by rw [List.getElem?_eq_getElem hj, ej]
          rw [List.getElem?_take, if_pos hj2] at this
          exact this
        have := rowAt_sub g h sub n j d (by omega) e2
        rw [← ed]
        exact this
    rw [r3, r3']
    rw [r1, r1'] at ep
    cases ep
    rfl
theorem rows_sub {cs ds : List M04.Cue} (g : M04.Good cs) (h : M04.Good ds) (sub : ∀ c ∈ ds, c ∈ cs) : (M04.all ds).rows.length ≤ (M04.all cs).rows.length := by
  have mem : ∀ {x r}, rowAt cs x = some r → r ∈ (M04.all cs).rows := fun {x r} e => by
    unfold rowAt at e
    cases en : M04.num (M04.all cs).nums x with
    | none => rw [en] at e; cases e
    | some i =>
      rw [en] at e
      exact List.mem_of_getElem? e
  refine M04.rows_few h (mem (rowAt_start cs)) fun i c e => ?_
  obtain ⟨r, r1, r2, r3⟩ := rowAt_at h e
  rw [r2]
  refine mem (x := c.nm) ?_
  rw [← rowAt_sub g h sub (i + 1) i c (by omega) e]
  exact r3
/-- what is left has one that can be told -/
theorem left_some {cs : List M04.Cue} (g : M04.Good cs) (F : List Str) (h : (cs.filter fun c => decide (c.nm ∉ F)) ≠ []) : ∃ c, c ∈ (cs.filter fun c => decide (c.nm ∉ F)) ∧ c.pa ∈ ("start" : Str) :: F := by
  cases e : cs.filter fun c => decide (c.nm ∉ F) with
  | nil => exact absurd e h
  | cons c r =>
    obtain ⟨l1, l2, e1, e2, e3, e4⟩ := List.filter_eq_cons_iff.mp e
    refine ⟨c, List.mem_cons_self, ?_⟩
    have ec : cs[l1.length]? = some c := by rw [e1, List.getElem?_append_right (Nat.le_refl _), Nat.sub_self]; rfl
    have hp := ((M04.good_iff cs).mp g _ c ec).2
    rw [e1, List.take_left'] at hp
    · rcases List.mem_cons.mp hp with hp | hp
      · rw [hp]; exact List.mem_cons_self
      · obtain ⟨d, hd, ed⟩ := List.mem_map.mp hp
        have := e2 d hd
        rw [decide_eq_true_iff, Classical.not_not] at this
        rw [← ed]
        exact List.mem_cons_of_mem _ this
    · rfl
end K34
set_option Elab.async false
set_option linter.all false
set_option maxRecDepth 100000
set_option maxHeartbeats 1000000
set_option exponentiation.threshold 100000
namespace K34
open PySem PySem.Spec PyProof.Rows L2 Fa Fb
abbrev sMx : Stmt := top 64
theorem scMx : FnScope ["_law_box_here", "_law_cues_here", "_law_found", "_law_names", "_law_left", "_law_some", "_law_cue"] ["_law_box_here", "_law_cues_here"] (defScope sMx) := ⟨rfl, rfl, rfl, by decide +kernel, rfl, by decide +kernel, by decide +kernel⟩
theorem inV_strs (z : Str) (zs : List Str) : inV (.str z) (zs.map V.str) = decide (z ∈ zs) := by
  unfold inV
  rw [List.any_map, Bool.eq_iff_iff, List.any_eq_true, decide_eq_true_iff]
  constructor
  · rintro ⟨y, hy, e⟩
    have e : (y == z) = true := e
    rw [← beq_iff_eq.mp e]
    exact hy
  · intro h
    exact ⟨z, h, by show (z == z) = true; exact beq_iff_eq.mpr rfl⟩
theorem flat_strs (zs : List Str) : (zs.map V.str).all flatV = true := by
  rw [List.all_map, List.all_eq_true]
  intro x _
  rfl
theorem er_filter : ∀ (l : List Lc) (j : Nat) (g : Lc), (l.map (·.nm)).Nodup → l[j]? = some g → l.filter (fun h => decide (h.nm ≠ g.nm)) = l.eraseIdx j
  | [], j, g, _, e => by cases e
  | x :: r, 0, g, nd, e => by
    cases e
    rw [List.filter_cons_of_neg (by simp)]
    have h1 := (List.nodup_cons.mp nd).1
    rw [List.eraseIdx_cons_zero]
    refine List.filter_eq_self.mpr fun y hy => decide_eq_true fun e => h1 ?_
    show x.nm ∈ r.map (·.nm)
    rw [← e]
    exact List.mem_map_of_mem hy
  | x :: r, j + 1, g, nd, e => by
    have e : r[j]? = some g := e
    have h1 := List.nodup_cons.mp nd
    have ne : x.nm ≠ g.nm := fun z => h1.1 (by
      show x.nm ∈ r.map (·.nm)
      rw [z]
      exact List.mem_map_of_mem (List.mem_of_getElem? e))
    rw [List.filter_cons_of_pos (by simpa using ne), List.eraseIdx_cons_succ, er_filter r j g h1.2 e]
theorem er_map {α β : Type} (f : α → β) : ∀ (l : List α) (j : Nat), (l.map f).eraseIdx j = (l.eraseIdx j).map f
  | [], j => rfl
  | x :: r, 0 => rfl
  | x :: r, j + 1 => by
    rw [List.map_cons, List.eraseIdx_cons_succ, List.eraseIdx_cons_succ, List.map_cons, er_map f r j]
theorem nd_ne {l : List Lc} (nd : (l.map (·.nm)).Nodup) {i j : Nat} {g h : Lc} (hi : l[i]? = some h) (hj : l[j]? = some g) (lt : i < j) : h.nm ≠ g.nm := by
  rw [List.nodup_iff_pairwise_ne, List.pairwise_iff_getElem] at nd
  obtain ⟨a1, a2⟩ := List.getElem?_eq_some_iff.mp hi
  obtain ⟨b1, b2⟩ := List.getElem?_eq_some_iff.mp hj
  have := nd i j (by rw [List.length_map]; exact a1) (by rw [List.length_map]; exact b1) lt
  rw [List.getElem_map, List.getElem_map, a2, b2] at this
  exact this
/-- what is left of gs behind those told -/
def lft (gs fgs : List Lc) : List Lc := gs.filter fun g => decide (g.nm ∉ fgs.map (·.nm))
def spMx (K : PySem.W.Frag) : Sp := fun vs H Q _ => ∃ (p l : Addr) (gs : List Lc) (n m : Nat), vs = [.ref p, .ref l] ∧ Box H p m ∧ LsC n H l gs ∧ l ≠ p ∧ M04.Good (gs.map lcv) ∧ m + 20 ≤ 1000000 ∧ ∀ r fgs H', Kp p H H' → Box H' p (m + 14) → LsC n H' r fgs → H r = none → (∀ g ∈ fgs, g ∈ gs) → M04.Good (fgs.map lcv) → Q (.ref r) H'
structure MxI (K : PySem.W.Frag) (n : Nat) (H H' : Hp) (p l fd nmA lf : Addr) (gs fgs : List Lc) (m : Nat) : Prop where
  kp : Kp p H H'
  bx : Box H' p (m + fgs.length)
  lc : LsC n H' l gs
  fl : H' fd = some (.lst (fgs.map fun g => V.ref g.q))
  nl : H' nmA = some (.lst ((("start" : Str) :: fgs.map (·.nm)).map V.str))
  ll : H' lf = some (.lst ((lft gs fgs).map fun g => V.ref g.q))
  fdp : fd ≠ p
  nmp : nmA ≠ p
  lfp : lf ≠ p
  fn : fd ≠ nmA
  fdl : fd ≠ lf
  nml : nmA ≠ lf
  fd0 : H fd = none
  nm0 : H nmA = none
  lf0 : H lf = none
  sub : ∀ g ∈ fgs, g ∈ gs
  gd : M04.Good (fgs.map lcv)
  n14 : fgs.length + (lft gs fgs).length = gs.length
abbrev SMx (p l fd nmA lf : Addr) (v5 v6 : Option V) : L2.St := [some (.ref p), some (.ref l), some (.ref fd), some (.ref nmA), some (.ref lf), v5, v6]
def sMxB (K : PySem.W.Frag) (n : Nat) (H : Hp) (p l : Addr) (gs : List Lc) (m : Nat) : TS := fun D σ H' => ∃ fd nmA lf fgs v5 v6, σ = SMx p l fd nmA lf v5 v6 ∧ MxI K n H H' p l fd nmA lf gs fgs m ∧ lft gs fgs ≠ [] ∧ ∀ fgs' v5 v6 H'', MxI K n H H'' p l fd nmA lf gs fgs' m → (lft gs fgs').length < (lft gs fgs).length → D.nx (SMx p l fd nmA lf v5 v6) H''
theorem MxI.same {K : PySem.W.Frag} {n : Nat} {H H1 H2 : Hp} {p l fd nmA lf : Addr} {gs fgs : List Lc} {m : Nat} (h : MxI K n H H1 p l fd nmA lf gs fgs m) (s : Same H1 H2) : MxI K n H H2 p l fd nmA lf gs fgs m :=
  { h with kp := h.kp.trans (Kp.same s), bx := h.bx.sm s, lc := h.lc.same s, fl := s _ _ h.fl, nl := s _ _ h.nl, ll := s _ _ h.ll }
section
variable {P : Program} {w : World} {K : PySem.W.Frag} {mg : Str → Option Value} {base : Heap} {f f1 : Addr} {fd fd1 : FuncData}
theorem ok_mx (F : FnP K "_law_mixed" sMx f fd) (mL : mg "len" = none) (mLi : mg "list" = none) (GT : Fn0 P w K mg base "_law_take" 1 ["_law_box_here", "_law_many"] spTake f1 fd1) : FnOk P w K mg base (L2.CX P w) 2 f fd ["_law_box_here", "_law_cues_here"] (spMx K) := by
  refine F.ok scMx (fun vs H Q E h => ?_) (fun cdv A outer s H vs Q E hr h => ?_)
  · obtain ⟨p, l, gs, n, m, rfl, _⟩ := h
    rfl
  · obtain ⟨p, l, gs, n, m, rfl, hb, hl, lp, good, hm, k⟩ := h
    have hu : (A.deeper (envOfC "_law_mixed" (defScope sMx) s.heap.objs.size f cdv)).units + 64 < cLine := by
      have := hr.un
      omega
    have hu65 : (A.deeper (envOfC "_law_mixed" (defScope sMx) s.heap.objs.size f cdv)).units + 65 < cLine := by
      have := hr.un
      omega
    have hr1 := hr.mono (show 1 ≤ 1 by decide)
    have g14 := hl.n
    refine ⟨_, (pss_cons (ps_asg (pe_tup (pa_cons (pe_lst pa_nil) (pa_cons (pe_lst (pa_cons pe_str pa_nil)) (pa_cons (pe_callTy call_list_of rfl mLi (by decide +kernel : bootBuiltins "list" = some (.type "list")) (pa_cons (pv 1) pa_nil)) pa_nil)))) (pg_tup (by rfl) (pgs_cons (pg_name (i := 2) scMx.nd rfl (Or.inl rfl)) (pgs_cons (pg_name (i := 3) scMx.nd rfl (Or.inr rfl)) (pgs_cons (pg_name (i := 4) scMx.nd rfl (Or.inl rfl)) pgs_nil)))))
      (pss_cons (ps_while (passes_of rfl) (pt_cmpR (Fk.op_neNil hu) (pv 4) (pe_lst pa_nil) (nomark _))
      (pss_imp (S := sMxB K n H p l gs m) (pss_cons (ps_setLc (i := 5) (own := [("_law_cue", 6)]) (g := gName 6) (tt := tTest (tOp (rIn K false) (tOp (rIxT K) (tVar 6) (tC (.int 1))) (tVar 3))) (te := tVar 6) (by rfl) scMx.nd rfl rfl (sw_true rfl rfl rfl (by decide +kernel)) (pi_list (pv 4)) (blkOk_by (own := [("_law_cue", 6)]) (N := ["_law_box_here", "_law_cues_here", "_law_found", "_law_names", "_law_left", "_law_some", "_law_cue"]) (sc := defScope sMx) (by decide +kernel)) (fun _ _ _ _ _ => (pg_name (i := 6) scMx.nd rfl (Or.inl rfl))) (fun _ _ _ _ _ => pts_one (pt_cmpR op_in_seq (pe_ix ix_tup (pv 6) pe_int (fun _ _ => rfl)) (pv 3) (by rfl))) (fun _ _ _ _ _ => (pv 6)))
      (pss_cons (ps_set (i := 6) scMx.nd rfl (Or.inl rfl) (pe_ix ix_list (pv 5) (pe_call GT.ok hr1 rfl GT.g GT.k GT.b .nil pass0 (pa_cons (pv 0) (pa_cons (pe_callB call_len rfl mL PySem.boot_len (pa_cons (pv 5) pa_nil)) pa_nil))) (fun _ _ => rfl)))
      (pss_cons (ps_expr (pe_bm PySem.F.plainAttrs_list PySem.F.slot_list_append PySem.F.type_list_append mt_append (pv 2) (pa_cons (pv 6) pa_nil)))
      (pss_cons (ps_expr (pe_bm PySem.F.plainAttrs_list PySem.F.slot_list_append PySem.F.type_list_append mt_append (pv 3) (pa_cons (pe_ix ix_tup (pv 6) pe_int (fun _ _ => rfl)) pa_nil)))
      (pss_one (ps_expr (pe_bm PySem.F.plainAttrs_list PySem.F.slot_list_remove PySem.F.type_list_remove (Gf.mt_removeD hu65) (pv 4) (pa_cons (pv 6) pa_nil)))))))) ?body))
      (pss_one (ps_ret (pv 2))))), ?_⟩
    case body =>
      rintro D σ H1 ⟨fd, nmA, lf, fgs, v5, v6, rfl, I, hne, kn⟩
      have nd : ((lft gs fgs).map (·.nm)).Nodup := by
        have h1 := M04.names_nodup good
        rw [List.map_map] at h1
        have h2 : (gs.map (·.nm)).Nodup := (List.nodup_cons.mp h1).2
        exact h2.sublist (List.Sublist.map _ List.filter_sublist)
      have ll14 : (lft gs fgs).length ≤ 14 := by have := I.n14; omega
      have f14 : fgs.length ≤ 14 := by have := I.n14; omega
      have lnF : l ≠ fd := fun e => by
        have h1 := hl.l
        rw [e, I.fd0] at h1
        cases h1
      have lnN : l ≠ nmA := fun e => by
        have h1 := hl.l
        rw [e, I.nm0] at h1
        cases h1
      have lnL : l ≠ lf := fun e => by
        have h1 := hl.l
        rw [e, I.lf0] at h1
        cases h1
      refine ⟨_, rfl, lf, rfl, ⟨_, SqL.of I.ll⟩, fun S hS => ?_⟩
      refine lc_list (K := K) (a := lf) (xs := (lft gs fgs).map fun g => V.ref g.q) (fun i H' => Same H1 H' ∧ H' S = some (.lst ((((lft gs fgs).take i).filter fun g => decide (g.pa ∈ ("start" : Str) :: fgs.map (·.nm))).map fun g => V.ref g.q))) ⟨Same.upd hS, upd_same⟩ (fun i H' _ ⟨s, _⟩ => SqL.of (s _ _ I.ll)) ?_ ?_
      · rintro i x H2 hx ⟨s2, e2⟩
        obtain ⟨g, eg, rfl⟩ := map_at hx
        have hi := (List.getElem?_eq_some_iff.mp eg).1
        have hg : g ∈ gs := (List.mem_filter.mp (List.mem_of_getElem? eg)).1
        obtain ⟨g1, g2, g3, g4, g5⟩ := (I.lc.ok g hg).kt (KT.of s2)
        refine ⟨rfl, _, rfl, g.q, _, 1, _, rfl, rfl, SqT.of g1, rfl, _, rfl, nmA, _, rfl, .inl (SqL.of (s2 _ _ I.nl)), rfl, flat_strs _, _, rfl, ?_⟩
        rw [inV_strs, filter_take eg]
        cases hb : decide (g.pa ∈ ("start" : Str) :: fgs.map (·.nm)) with
        | false => exact iteF ⟨s2, by rw [e2]; simp⟩
        | true =>
          refine iteT ⟨_, rfl, _, e2, ?_, same_put s2 hS, by rw [upd_same]; simp⟩
          have a1 := List.length_filter_le (fun g : Lc => decide (g.pa ∈ ("start" : Str) :: fgs.map (·.nm))) ((lft gs fgs).take i)
          have a2 : ((lft gs fgs).take i).length ≤ (lft gs fgs).length := by
            rw [List.length_take]
            omega
          rw [List.length_map]
          exact Nat.lt_of_lt_of_le (show _ < 100 by omega) (by decide)
      rintro H2 ⟨s2, e2⟩
      rw [List.length_map, List.take_length] at e2
      have I2 := I.same s2
      have Sp : S ≠ p := (I.bx.ne hS).symm
      have hS0 : H S = none := I.kp.no Sp hS
      obtain ⟨c0, hc0, hp0⟩ := left_some good (fgs.map (·.nm)) (by
        intro e
        apply hne
        unfold lft
        rw [List.filter_map, List.map_eq_nil_iff] at e
        exact e)
      have lpos : 0 < ((lft gs fgs).filter fun g => decide (g.pa ∈ ("start" : Str) :: fgs.map (·.nm))).length := by
        rw [List.filter_map] at hc0
        obtain ⟨g, hg, eg⟩ := List.mem_map.mp hc0
        refine List.length_pos_of_mem (a := g) (List.mem_filter.mpr ⟨hg, decide_eq_true ?_⟩)
        rw [← eg] at hp0
        exact hp0
      have l100 : ((lft gs fgs).filter fun g => decide (g.pa ∈ ("start" : Str) :: fgs.map (·.nm))).length ≤ 14 := Nat.le_trans (List.length_filter_le _ _) ll14
      refine ⟨_, rfl, _, rfl, _, rfl, _, _, rfl, .inl ⟨_, SqL.of e2, rfl⟩, p, _, _, rfl, I2.bx, by omega, by rw [List.length_map]; omega, Int.lt_of_lt_of_le (show _ < (100 : Int) by rw [List.length_map]; omega) (by decide), fun z H3 z0 z1 b3 k3 => ?_⟩
      obtain ⟨v, ev, mv⟩ := atI_in z0 z1
      refine ⟨S, _, z, v, rfl, rfl, SqL.of (Kp.but k3 _ _ Sp e2), ev, ?_⟩
      obtain ⟨g, hg, rfl⟩ := List.mem_map.mp mv
      obtain ⟨hgl, hgp⟩ := List.mem_filter.mp hg
      have hgp := of_decide_eq_true hgp
      have hgs : g ∈ gs := (List.mem_filter.mp hgl).1
      have hgn : g.nm ∉ fgs.map (·.nm) := by
        have := (List.mem_filter.mp hgl).2
        exact of_decide_eq_true this
      have lc3 := I2.lc.kp I2.bx (Kp.but k3) lp
      have fl3 := Kp.but k3 _ _ I.fdp I2.fl
      have nl3 := Kp.but k3 _ _ I.nmp I2.nl
      have ll3 := Kp.but k3 _ _ I.lfp I2.ll
      have kp3 := I2.kp.trans (Kp.but k3)
      obtain ⟨c1, c2, c3, c4, c5⟩ := id (lc3.ok g hgs)
      refine ⟨_, rfl, .inl ⟨rfl, _, SqL.of fl3⟩, _, rfl, fd, _, _, rfl, rfl, fl3, by rw [List.length_map]; exact Nat.lt_of_lt_of_le (show _ < 100 by omega) (by decide), ?_⟩
      have ktA : KT H3 (upd H3 fd (.lst (fgs.map (fun g => V.ref g.q) ++ [V.ref g.q]))) := KT.put fl3
      have x4 : upd H3 fd (.lst (fgs.map (fun g => V.ref g.q) ++ [V.ref g.q])) fd = some (.lst (fgs.map (fun g => V.ref g.q) ++ [V.ref g.q])) := upd_same
      have nl4 : upd H3 fd (.lst (fgs.map (fun g => V.ref g.q) ++ [V.ref g.q])) nmA = some (.lst (((("start" : Str) :: fgs.map (·.nm)).map V.str))) := by rw [upd_ne (Ne.symm I.fn)]; exact nl3
      have ll4 : upd H3 fd (.lst (fgs.map (fun g => V.ref g.q) ++ [V.ref g.q])) lf = some (.lst ((lft gs fgs).map fun g => V.ref g.q)) := by rw [upd_ne (Ne.symm I.fdl)]; exact ll3
      have bx4 : Box (upd H3 fd (.lst (fgs.map (fun g => V.ref g.q) ++ [V.ref g.q]))) p (m + fgs.length + 1) := b3.put I.fdp
      have kp4 : Kp p H (upd H3 fd (.lst (fgs.map (fun g => V.ref g.q) ++ [V.ref g.q]))) := kp3.put I.fd0
      have ll4' : upd H3 fd (.lst (fgs.map (fun g => V.ref g.q) ++ [V.ref g.q])) l = some (.lst (gs.map fun g => V.ref g.q)) := (upd_ne lnF).trans lc3.l
      have lc4 : LsC n (upd H3 fd (.lst (fgs.map (fun g => V.ref g.q) ++ [V.ref g.q]))) l gs := ⟨ll4', fun y hy => (lc3.ok y hy).kt ktA, lc3.n⟩
      generalize upd H3 fd (.lst (fgs.map (fun g => V.ref g.q) ++ [V.ref g.q])) = H4 at x4 nl4 ll4 bx4 kp4 lc4 ⊢
      obtain ⟨d1, d2, _, _, _⟩ := id (lc4.ok g hgs)
      refine ⟨_, rfl, .inl ⟨rfl, _, SqL.of nl4⟩, _, rfl, g.q, _, 0, _, rfl, rfl, SqT.of d1, rfl, nmA, _, _, rfl, rfl, nl4, by rw [List.length_map, List.length_cons, List.length_map]; exact Nat.lt_of_lt_of_le (show _ < 100 by omega) (by decide), ?_⟩
      have ktB : KT H4 (upd H4 nmA (.lst ((("start" : Str) :: fgs.map (·.nm)).map V.str ++ [V.str g.nm]))) := KT.put nl4
      have nl5 : upd H4 nmA (.lst ((("start" : Str) :: fgs.map (·.nm)).map V.str ++ [V.str g.nm])) nmA = some (.lst ((("start" : Str) :: (fgs ++ [g]).map (·.nm)).map V.str)) := by
        rw [upd_same, List.map_append (f := fun x : Lc => x.nm), ← List.cons_append, List.map_append]
        rfl
      have fl5 : upd H4 nmA (.lst ((("start" : Str) :: fgs.map (·.nm)).map V.str ++ [V.str g.nm])) fd = some (.lst ((fgs ++ [g]).map fun g => V.ref g.q)) := by
        rw [upd_ne I.fn, x4, List.map_append]
        rfl
      have ll5 : upd H4 nmA (.lst ((("start" : Str) :: fgs.map (·.nm)).map V.str ++ [V.str g.nm])) lf = some (.lst ((lft gs fgs).map fun g => V.ref g.q)) := by rw [upd_ne (Ne.symm I.nml)]; exact ll4
      have bx5 : Box (upd H4 nmA (.lst ((("start" : Str) :: fgs.map (·.nm)).map V.str ++ [V.str g.nm]))) p (m + fgs.length + 1) := bx4.put I.nmp
      have kp5 : Kp p H (upd H4 nmA (.lst ((("start" : Str) :: fgs.map (·.nm)).map V.str ++ [V.str g.nm]))) := kp4.put I.nm0
      have lc5' : upd H4 nmA (.lst ((("start" : Str) :: fgs.map (·.nm)).map V.str ++ [V.str g.nm])) l = some (.lst (gs.map fun g => V.ref g.q)) := (upd_ne lnN).trans lc4.l
      have lc5 : LsC n (upd H4 nmA (.lst ((("start" : Str) :: fgs.map (·.nm)).map V.str ++ [V.str g.nm]))) l gs := ⟨lc5', fun y hy => (lc4.ok y hy).kt ktB, lc4.n⟩
      generalize upd H4 nmA (.lst ((("start" : Str) :: fgs.map (·.nm)).map V.str ++ [V.str g.nm])) = H5 at nl5 fl5 ll5 bx5 kp5 lc5 ⊢
      obtain ⟨j, hj, ej⟩ := List.mem_iff_getElem.mp hgl
      have ej2 : (lft gs fgs)[j]? = some g := by rw [List.getElem?_eq_getElem hj, ej]
      have okl : ∀ y ∈ lft gs fgs, LcOk n H5 y := fun y hy => lc5.ok y ((List.mem_filter.mp hy).1)
      have lay := lcs_lay (gs := lft gs fgs) fun y hy => (okl y hy).2.2
      have lay1 := lcs_lay (gs := [g]) fun y hy => by rw [List.mem_singleton.mp hy]; exact (lc5.ok g hgs).2.2
      have sh1 : SeqAt.shaped (lcd g) = true := by
        have hh : (lcd g).canLay0 = true := by
          have := lay1.1
          simpa [PyData.canLayAll0] using this
        have h4 : PyData.depth (lcd g) ≤ 64 := by
          have := lay1.2
          simp [PyData.depthAll] at this
          omega
        unfold SeqAt.shaped
        rw [hh, decide_eq_true h4]
        rfl
      refine ⟨_, rfl, .inl ⟨rfl, _, SqL.of ll5⟩, _, rfl, lf, _, _, lcd g, (lft gs fgs).map lcd, j, lcd g, rfl, rfl, ll5, lcs_dp okl, lc_dp (lc5.ok g hgs), list_shaped lay.1 (by omega), sh1, by rw [List.getElem?_map, ej2]; rfl, ?_, fun m' z' hm' ez => ?_, ?_⟩
      · rw [lcd_eqv (lc5.ok g hgs).2.1.rd (lc5.ok g hgs).2.1.rd, decide_eq_true rfl]
      · obtain ⟨h, eh, rfl⟩ := map_at ez
        rw [lcd_eqv (okl h (List.mem_of_getElem? eh)).2.1.rd (lc5.ok g hgs).2.1.rd]
        refine decide_eq_false fun e => ?_
        have en : h.nm = g.nm := congrArg M04.Cue.nm e
        exact nd_ne nd eh ej2 hm' en
      have ktC : KT H5 (upd H5 lf (.lst (((lft gs fgs).map fun g => V.ref g.q).eraseIdx j))) := KT.put ll5
      have el : (lft gs fgs).eraseIdx j = lft gs (fgs ++ [g]) := by
        rw [← er_filter _ j g nd ej2]
        unfold lft
        rw [List.filter_filter]
        refine List.filter_congr fun y _ => ?_
        rw [Bool.eq_iff_iff, Bool.and_eq_true, decide_eq_true_iff, decide_eq_true_iff, decide_eq_true_iff]
        simp [not_or, and_comm]
      have elen : (lft gs (fgs ++ [g])).length + 1 = (lft gs fgs).length := by
        rw [← el, List.length_eraseIdx, if_pos hj]
        omega
      have fne : H fd = none := I.fd0
      refine kn (fgs ++ [g]) _ _ _ ⟨kp5.put I.lf0, ?_, ⟨?_, fun y hy => (lc5.ok y hy).kt ktC, lc5.n⟩, ?_, ?_, ?_, I.fdp, I.nmp, I.lfp, I.fn, I.fdl, I.nml, I.fd0, I.nm0, I.lf0, fun y hy => ?_, ?_, ?_⟩ (by omega)
      · rw [List.length_append]
        exact bx5.put I.lfp
      · exact (upd_ne lnL).trans lc5.l
      · rw [upd_ne I.fdl]
        exact fl5
      · rw [upd_ne I.nml]
        exact nl5
      · rw [upd_same, er_map, el]
      · rcases List.mem_append.mp hy with hy | hy
        · exact I.sub y hy
        · rw [List.mem_singleton.mp hy]
          exact hgs
      · rw [List.map_append]
        have h1 := (List.nodup_cons.mp (M04.names_nodup good)).1
        refine M04.good_snoc I.gd ?_ ?_
        · rw [List.map_map]
          intro h
          rcases List.mem_cons.mp h with h | h
          · apply h1
            rw [List.map_map]
            have h : g.nm = "start" := h
            rw [← h]
            exact List.mem_map_of_mem (f := (fun x : M04.Cue => x.nm) ∘ lcv) hgs
          · exact hgn h
        · rw [List.map_map]
          exact hgp
      · rw [List.length_append, List.length_singleton]
        have := I.n14
        omega
    refine ⟨by show 0 ≤ sizeLine; decide, fun fd hfd => ?_⟩
    have s1 := Same.upd (o := .lst []) hfd
    have e1 : upd H fd (.lst []) fd = some (.lst []) := upd_same
    generalize upd H fd (.lst []) = H1 at s1 e1 ⊢
    refine ⟨by show 1 ≤ sizeLine; decide, fun nmA hnm => ?_⟩
    have s2 := Same.upd (o := .lst [.str "start"]) hnm
    have e2 : upd H1 nmA (.lst [.str "start"]) nmA = some (.lst [.str "start"]) := upd_same
    have f12 : fd ≠ nmA := ne_of_none e1 hnm
    generalize upd H1 nmA (.lst [.str "start"]) = H2 at s2 e2 ⊢
    have lc2 := hl.same (s1.trans s2)
    refine ⟨_, rfl, l, _, rfl, .inl (SqL.of lc2.l), fun lf hlf => ?_⟩
    have s3 := Same.upd (o := .lst (gs.map fun g => V.ref g.q)) hlf
    have e3 : upd H2 lf (.lst (gs.map fun g => V.ref g.q)) lf = some (.lst (gs.map fun g => V.ref g.q)) := upd_same
    have f13 : fd ≠ lf := ne_of_none (s2 _ _ e1) hlf
    have f23 : nmA ≠ lf := ne_of_none e2 hlf
    generalize upd H2 lf (.lst (gs.map fun g => V.ref g.q)) = H3 at s3 e3 ⊢
    refine ⟨by show 3 ≤ sizeLine; decide, fun q hq => ?_⟩
    have s4 := Same.upd (o := .tup [.ref fd, .ref nmA, .ref lf]) hq
    have e4 : upd H3 q (.tup [.ref fd, .ref nmA, .ref lf]) q = some (.tup [.ref fd, .ref nmA, .ref lf]) := upd_same
    generalize upd H3 q (.tup [.ref fd, .ref nmA, .ref lf]) = H4 at s4 e4 ⊢
    refine ⟨q, _, rfl, SqT.of e4, rfl, _, _, rfl, _, _, rfl, _, _, rfl, rfl, ?_⟩
    have s14 := s1.trans (s2.trans (s3.trans s4))
    have nm0 : H nmA = none := none_of s1 hnm
    have lf0 : H lf = none := none_of (s1.trans s2) hlf
    have I0 : MxI K n H H4 p l fd nmA lf gs [] m := ⟨Kp.same s14, hb.sm s14, hl.same s14, s4 _ _ (s3 _ _ (s2 _ _ e1)), s4 _ _ (s3 _ _ e2), by
      have e5 := s4 _ _ e3
      have : lft gs [] = gs := List.filter_eq_self.mpr fun y _ => rfl
      rw [this]
      exact e5, (hb.ne hfd).symm, (hb.ne nm0).symm, (hb.ne lf0).symm, f12, f13, f23, hfd, nm0, lf0, (fun g hg => by cases hg), (fun i c e => by cases e), by
      have : lft gs [] = gs := List.filter_eq_self.mpr fun y _ => rfl
      rw [this]
      exact Nat.zero_add _⟩
    refine ⟨fun k σ H' => ∃ fd nmA lf fgs v5 v6, σ = SMx p l fd nmA lf v5 v6 ∧ MxI K n H H' p l fd nmA lf gs fgs m ∧ k = (lft gs fgs).length, ⟨_, fd, nmA, lf, [], _, _, rfl, I0, rfl⟩, ?_⟩
    rintro k' σ H5 ⟨fd, nmA, lf, fgs, v5, v6, rfl, I, rfl⟩
    refine ⟨_, rfl, by show 0 ≤ sizeLine; decide, fun b hb' => ?_⟩
    have s6 := Same.upd (o := .lst []) hb'
    have e6 : upd H5 b (.lst []) b = some (.lst []) := upd_same
    have I6 := I.same s6
    generalize upd H5 b (.lst []) = H6 at s6 e6 I6 ⊢
    refine ⟨lf, b, _, rfl, rfl, SqL.of I6.ll, SqL.of e6, _, rfl, ?_⟩
    cases hc : lft gs fgs with
    | nil =>
      refine iteF ⟨_, rfl, k fd fgs H6 I6.kp (I6.bx.mono ?_) ⟨I6.fl, fun y hy => I6.lc.ok y (I6.sub y hy), ?_⟩ I6.fd0 I6.sub I6.gd⟩
      · have := I6.n14
        omega
      · have := I6.n14
        omega
    | cons g r =>
      refine iteT ⟨fun σ' H' => ∃ k2, k2 < (lft gs fgs).length ∧ ∃ fd nmA lf fgs v5 v6, σ' = SMx p l fd nmA lf v5 v6 ∧ MxI K n H H' p l fd nmA lf gs fgs m ∧ k2 = (lft gs fgs).length, fun σ' H' ⟨k2, h1, h2⟩ => ⟨k2, by rw [← hc]; exact h1, h2⟩, fd, nmA, lf, fgs, _, _, rfl, I6, by rw [hc]; exact List.cons_ne_nil _ _, fun fgs' v5 v6 H'' I'' lt => ⟨_, lt, fd, nmA, lf, fgs', v5, v6, rfl, I'', rfl⟩⟩
end
end K34
set_option Elab.async false
set_option linter.all false
set_option maxRecDepth 100000
set_option maxHeartbeats 1000000
set_option exponentiation.threshold 100000
namespace K34
open PySem PySem.Spec PyProof.Rows L2 Fa Fb
abbrev sAr : Stmt := top 66
theorem scAr : FnScope ["_law_box_here", "_law_sheet", "_law_cues_here", "_law_more", "_law_some", "_law_other", "_law_found"] ["_law_box_here", "_law_sheet", "_law_cues_here", "_law_more"] (defScope sAr) := ⟨rfl, rfl, rfl, by decide +kernel, rfl, by decide +kernel, by decide +kernel⟩
theorem boot_repr : bootBuiltins "repr" = some (.builtin "repr") := by decide +kernel
theorem call_repr_bl {X : Cx} : CallR X (.builtin "repr") (fun xs H Q => ∃ b, xs = [.bl b] ∧ Q (.str (if b then "True" else "False")) H) := by
  intro pins s σ H xs us Q I r h
  obtain ⟨b, rfl, q⟩ := h
  obtain ⟨u, rfl, r1⟩ := vals1 r
  cases r1
  exact PySem.P.repr_of_bool ⟨.str _, H, I.tok _, ⟨_, rfl⟩, q⟩
/-- texts as data -/
def sd (zs : List Str) : PyData := .list (zs.map .str)
theorem strs_dp {K : PySem.W.Frag} {H : Hp} : ∀ zs : List Str, DpAll K H (zs.map V.str) (zs.map PyData.str)
  | [] => .nil
  | z :: r => .cons (.str z) (strs_dp r)
theorem sd_dp {K : PySem.W.Frag} {H : Hp} {a : Addr} {zs : List Str} (h : H a = some (.lst (zs.map V.str))) : Dp K H (.ref a) (sd zs) := .lst (SqL.of h) (strs_dp zs)
theorem strs_lay : ∀ {zs : List Str}, (∀ z ∈ zs, PyData.strOk z = true) → PyData.canLayAll0 (zs.map PyData.str) = true ∧ PyData.depthAll (zs.map PyData.str) ≤ 1
  | [], _ => ⟨rfl, by simp [PyData.depthAll]⟩
  | z :: r, h => by
    obtain ⟨h1, h2⟩ := strs_lay (zs := r) fun x hx => h x (List.mem_cons_of_mem _ hx)
    have a := h z List.mem_cons_self
    simp only [List.map_cons, PyData.canLayAll0, PyData.canLay0, PyData.depthAll, PyData.depth, a, h1]
    exact ⟨rfl, by omega⟩
theorem sd2_lay {za zb : List Str} (h : ∀ z ∈ za, PyData.strOk z = true) (h2 : ∀ z ∈ zb, PyData.strOk z = true) : SeqAt.shaped (.list [sd za, sd zb]) = true ∧ PyData.eqv (.list [sd za, sd zb]) (.list [sd za, sd zb]) = true := by
  obtain ⟨a1, a2⟩ := strs_lay h
  obtain ⟨b1, b2⟩ := strs_lay h2
  have e1 : (PyData.list [sd za, sd zb]).canLay0 = true := by simp [sd, PyData.canLay0, PyData.canLayAll0, a1, b1]
  have e2 : (PyData.list [sd za, sd zb]).depth ≤ 64 := by
    simp only [sd, PyData.depth, PyData.depthAll]
    omega
  refine ⟨?_, SeqAt.eqv_refl _ e1⟩
  unfold SeqAt.shaped
  rw [e1, decide_eq_true e2]
  rfl
theorem unl_mem {A B : List M04.Cue} {z : Str} (h : z ∈ unl A B) : z ∈ A.map (·.nm) ∨ z ∈ B.map (·.nm) := by
  unfold unl at h
  rcases List.mem_append.mp h with h | h
  · exact .inl (List.mem_filter.mp h).1
  · exact .inr (List.mem_filter.mp h).1
theorem unl_str {A B : List M04.Cue} (ga : GoodS A) (gb : GoodS B) : ∀ z ∈ unl A B, PyData.strOk z = true := fun z hz => by
  rcases unl_mem hz with h | h
  · obtain ⟨c, hc, e⟩ := List.mem_map.mp h
    rw [← e]
    exact isName_str (ga.2 c hc).1
  · obtain ⟨c, hc, e⟩ := List.mem_map.mp h
    rw [← e]
    exact isName_str (gb.2 c hc).1
/-- the cues that are put against the law's -/
structure SoOk (H : Hp) (x : Addr) (ss : List Lc) : Prop where
  lc : LsC 20 H x ss
  gd : GoodS (ss.map lcv)
  r8 : (M04.all (ss.map lcv)).rows.length ≤ 8
theorem SoOk.same {H H' : Hp} {x : Addr} {ss : List Lc} (h : SoOk H x ss) (s : Same H H') : SoOk H' x ss := ⟨h.lc.same s, h.gd, h.r8⟩
theorem sub_good {gs fgs : List Lc} (g : GoodS (gs.map lcv)) (r8 : (M04.all (gs.map lcv)).rows.length ≤ 8) (sub : ∀ y ∈ fgs, y ∈ gs) (gd : M04.Good (fgs.map lcv)) : GoodS (fgs.map lcv) ∧ (M04.all (fgs.map lcv)).rows.length ≤ 8 := by
  have sb : ∀ c ∈ fgs.map lcv, c ∈ gs.map lcv := fun c hc => by
    obtain ⟨y, hy, rfl⟩ := List.mem_map.mp hc
    exact List.mem_map_of_mem (sub y hy)
  exact ⟨⟨gd, fun c hc => g.2 c (sb c hc)⟩, Nat.le_trans (rows_sub g.1 gd sb) r8⟩
theorem zz_good {cs : List M04.Cue} (g : GoodS cs) (nz : ∀ c ∈ cs, c.nm ≠ "zz1") (q : Rat) : GoodS (cs.take 1 ++ [⟨"zz1", "start", "beats", q⟩]) := by
  have ns : ("zz1" : Str) ≠ "start" := by decide +kernel
  refine ⟨M04.good_snoc (M04.good_take g.1 1) (fun h => ?_) List.mem_cons_self, fun c hc => ?_⟩
  · rcases List.mem_cons.mp h with h | h
    · exact ns h
    · obtain ⟨d, hd, ed⟩ := List.mem_map.mp h
      exact nz d (List.mem_of_mem_take hd) ed
  · rcases List.mem_append.mp hc with hc | hc
    · exact g.2 c (List.mem_of_mem_take hc)
    · rw [List.mem_singleton.mp hc]
      exact ⟨(show isName "zz1" = true by decide +kernel), (show isUnit "beats" = true by decide +kernel)⟩
def spAr (K : PySem.W.Frag) : Sp := fun vs H Q _ => ∃ p o l l2 gs cs ms m, vs = [.ref p, .ref o, .ref l, .ref l2] ∧ TrE K H p o l gs cs m ∧ LsC 20 H l2 ms ∧ l2 ≠ p ∧ GoodS (ms.map lcv) ∧ (M04.all (ms.map lcv)).rows.length ≤ 8 ∧ (∀ c ∈ cs.map lcv, c.nm ≠ "zz1") ∧ m + 50 ≤ 1000000 ∧ ∀ H', Kp p H H' → Box H' p (m + 28) → Q (.bl true) H'
abbrev SAr (p o l l2 : Addr) (v4 v5 v6 : Option V) : L2.St := [some (.ref p), some (.ref o), some (.ref l), some (.ref l2), v4, v5, v6]
def sArB (K : PySem.W.Frag) (H : Hp) (p o l : Addr) (gs : List Cu) (cs : List Lc) : TS := fun D σ H' => ∃ l2 x ss v5 v6 m, σ = SAr p o l l2 (some (.ref x)) v5 v6 ∧ SoOk H' x ss ∧ TrE K H' p o l gs cs m ∧ ∀ v5 v6 H'', Same H' H'' → D.nx (SAr p o l l2 (some (.ref x)) v5 v6) H''
section
variable {P : Program} {w : World} {K : PySem.W.Frag} {mg : Str → Option Value} {base : Heap} {f f1 f2 f3 f4 f5 f6 fI : Addr} {fd fd1 fd2 fd3 fd4 fd5 fd6 fdI : FuncData}
theorem ok_ar (F : FnP K "_law_alike_right" sAr f fd) (M : MF K mg) (MKS : Mk K (CS K) fI) (mR : mg "repr" = none) (MX : Fn P w K mg base "_law_mixed" 2 ["_law_box_here", "_law_cues_here"] (spMx K) f1 fd1) (PA : Fn P w K mg base "_law_passed" 6 ["_law_cues_here"] (spPas K) f2 fd2) (UL : Fn P w K mg base "unlike" 6 ["one", "other"] (spUnl K) f3 fd3) (LU : Fn P w K mg base "_law_unlike" 5 ["_law_cues_here", "_law_more"] (spUl K) f4 fd4)
    (AL : Fn P w K mg base "is_alike" 7 ["one", "other"] (spAli K) f5 fd5) (EQS : EqS P w K mg base f6 fd6) (SI : FnOk P w K mg base (L2.CX P w) 10 fI fdI ["self", "cues"] (spSI K)) (bS : Binds K fdI ["self", "cues"] []) : FnOk P w K mg base (L2.CX P w) 12 f fd ["_law_box_here", "_law_sheet", "_law_cues_here", "_law_more"] (spAr K) := by
  refine F.ok scAr (fun vs H Q E h => ?_) (fun cdv A outer s H vs Q E hr h => ?_)
  · obtain ⟨p, o, l, l2, gs, cs, ms, m, rfl, _⟩ := h
    rfl
  · obtain ⟨p, o, l, l2, gs, cs, ms, m, rfl, env, hl2, l2p, g2, r82, nz, hm, k⟩ := h
    have hu : (A.deeper (envOfC "_law_alike_right" (defScope sAr) s.heap.objs.size f cdv)).units + 64 < cLine := by
      have := hr.un
      omega
    have hr2 := hr.mono (show 2 ≤ 11 by decide)
    have hr5 := hr.mono (show 5 ≤ 11 by decide)
    have hr6 := hr.mono (show 6 ≤ 11 by decide)
    have hr7 := hr.mono (show 7 ≤ 11 by decide)
    have hr11 := hr.mono (show 11 ≤ 11 by decide)
    refine ⟨_, (pss_cons (ps_for (passes_of rfl) rfl (pi_list (pe_lst (pa_cons (pe_call MX.ok hr2 rfl MX.g MX.k MX.b .nil passL (pa_cons (pv 0) (pa_cons (pv 2) pa_nil))) (pa_cons (pe_call MX.ok hr2 rfl MX.g MX.k MX.b .nil passL (pa_cons (pv 0) (pa_cons (pv 3) pa_nil))) (pa_cons (pe_op op_cat (pe_slice sl_list (pv 2) po_none (po_some pe_int)) (pe_lst (pa_cons (pe_tup (pa_cons pe_str (pa_cons pe_str (pa_cons pe_str (pa_cons (pe_tup (pa_cons pe_int (pa_cons pe_int pa_nil))) pa_nil))))) pa_nil))) pa_nil))))) (pg_name (i := 4) scAr.nd rfl (Or.inl rfl))
      (pss_imp (S := sArB K H p o l gs cs) (pss_cons (ps_set (i := 5) scAr.nd rfl (Or.inl rfl) (pe_make MKS SI hr11 rfl M.g bS .nil passL (pa_cons (pe_call PA.ok hr6 rfl PA.g PA.k PA.b .nil passL (pa_cons (pv 4) pa_nil)) pa_nil)))
      (pss_cons (ps_set (i := 6) scAr.nd rfl (Or.inl rfl) (pe_lst (pa_cons (pe_call UL.ok hr6 rfl UL.g UL.k UL.b .nil passL (pa_cons (pv 1) (pa_cons (pv 5) pa_nil))) (pa_cons (pe_call UL.ok hr6 rfl UL.g UL.k UL.b .nil passL (pa_cons (pv 5) (pa_cons (pv 1) pa_nil))) pa_nil))))
      (pss_cons (ps_if (pt_cmpR (op_neD hu) (pv 6) (pe_lst (pa_cons (pe_call LU.ok hr5 rfl LU.g LU.k LU.b .nil passL (pa_cons (pv 2) (pa_cons (pv 4) pa_nil))) (pa_cons (pe_call LU.ok hr5 rfl LU.g LU.k LU.b .nil passL (pa_cons (pv 4) (pa_cons (pv 2) pa_nil))) pa_nil))) (nomark _)) (pss_one (ps_ret pe_bl)) pss_nil)
      (pss_one (ps_if (PW.pt (pw_or (pt_cmpR op_ne (pe_callB call_repr_bl rfl mR boot_repr (pa_cons (pe_call AL.ok hr7 rfl AL.g AL.k AL.b .nil passL (pa_cons (pv 1) (pa_cons (pv 5) pa_nil))) pa_nil)) (pe_callB call_repr_bl rfl mR boot_repr (pa_cons (pe_cmpR (Fk.op_eqNil hu) (pe_ix ix_list (pv 6) pe_int (fun _ _ => rfl)) (pe_lst pa_nil) (nomark _)) pa_nil)) (nomark _)) (pw_or1 (pt_cmpR op_ne (pe_cmp (pe_eqX EQS.at_ EQS.fn EQS.ok hr5 EQS.b passS (pv 1) (pv 5))) (pe_cmpR (op_eqD hu) (pv 4) (pv 2) (nomark _)) (nomark _))))) (pss_one (ps_ret pe_bl)) pss_nil))))) ?body))
      (pss_one (ps_ret pe_bl))), ?_⟩
    case body =>
      rintro D σ H1 ⟨l2, x, ss, v5, v6, m, rfl, so, env, kn⟩
      refine ⟨_, rfl, x, ss, 20, rfl, so.lc, by decide, by decide, fun r xs H2 s2 hr' xl xi r0 => ?_⟩
      have so2 := so.same s2
      have en2 := env.same s2
      refine fun o2 dx hx hdx hne => ?_
      refine make_any (mm := 20) (cs := ss.map lcv) (.inl hr') (by rw [List.length_map, List.length_map, xl]) xi so.gd.ok (by rw [List.length_map]; exact Nat.le_trans so.lc.n (by decide)) (by decide) (by decide) hx hdx hne (mkP_good so.gd so.r8 fun H3 hs s3 sh3 ev3 => ⟨rfl, ?_⟩)
      have so3 := so2.same s3
      have en3 := en2.same s3
      obtain ⟨H03, sho⟩ := en3.sh
      refine ⟨_, rfl, _, rfl, o, 20, H03, gs, o2, 20, _, hs, rfl, sho, sh3, fun u1 H4 s4 e4 u10 => ?_⟩
      refine ⟨_, rfl, _, rfl, o2, 20, _, hs, o, 20, H03, gs, rfl, sh3.same s4, sho.same s4, fun u2 H5 s5 e5 u20 => ?_⟩
      refine ⟨by show 2 ≤ sizeLine; decide, fun fo hfo => ?_⟩
      have s6 := Same.upd (o := .lst [.ref u1, .ref u2]) hfo
      have e6 : upd H5 fo (.lst [.ref u1, .ref u2]) fo = some (.lst [.ref u1, .ref u2]) := upd_same
      generalize upd H5 fo (.lst [.ref u1, .ref u2]) = H6 at s6 e6 ⊢
      have s36 := s4.trans (s5.trans s6)
      have so6 := so3.same s36
      have en6 := en3.same s36
      refine ⟨_, rfl, _, rfl, _, rfl, l, x, cs, ss, 20, rfl, en6.lc, so6.lc, env.gd.1, so.gd.1, by decide, by decide, fun w1 H7 s7 e7 w10 => ?_⟩
      have so7 := so6.same s7
      have en7 := en6.same s7
      refine ⟨_, rfl, _, rfl, x, l, ss, cs, 20, rfl, so7.lc, en7.lc, so.gd.1, env.gd.1, by decide, by decide, fun w2 H8 s8 e8 w20 => ?_⟩
      refine ⟨by show 2 ≤ sizeLine; decide, fun fw hfw => ?_⟩
      have s9 := Same.upd (o := .lst [.ref w1, .ref w2]) hfw
      have e9 : upd H8 fw (.lst [.ref w1, .ref w2]) fw = some (.lst [.ref w1, .ref w2]) := upd_same
      generalize upd H8 fw (.lst [.ref w1, .ref w2]) = H9 at s9 e9 ⊢
      have s69 := s7.trans (s8.trans s9)
      rw [ev3, env.ev] at e4 e5
      have u1' := (s5.trans (s6.trans s69)) _ _ e4
      have u2' := (s6.trans s69) _ _ e5
      have w1' := (s8.trans s9) _ _ e7
      have w2' := s9 _ _ e8
      have fo' := s69 _ _ e6
      have q1 := unl_str env.gd.s so.gd
      have q2 := unl_str so.gd env.gd.s
      obtain ⟨y1, y2⟩ := sd2_lay q1 q2
      refine ⟨_, _, .lst (SqL.of fo') (.cons (sd_dp u1') (.cons (sd_dp u2') .nil)), .lst (SqL.of e9) (.cons (sd_dp w1') (.cons (sd_dp w2') .nil)), y1, y1, _, rfl, ?_⟩
      rw [y2]
      refine if_false_of (by rfl) ?_
      have s39 := s36.trans s69
      have en9 := en3.same s39
      have so9 := so3.same s39
      obtain ⟨H09, sh9⟩ := en9.sh
      refine ⟨_, rfl, _, rfl, o, 20, H09, gs, o2, 20, _, hs, rfl, sh9, sh3.same s39, fun H10 s10 => ⟨_, rfl, ?_⟩⟩
      refine ⟨_, rfl, fo, _, 0, _, rfl, rfl, SqL.of (s10 _ _ fo'), rfl, by show 0 ≤ sizeLine; decide, fun b hb => ?_⟩
      have s11 := Same.upd (o := .lst []) hb
      have e11 : upd H10 b (.lst []) b = some (.lst []) := upd_same
      generalize upd H10 b (.lst []) = H11 at s11 e11 ⊢
      refine ⟨u1, b, _, rfl, rfl, SqL.of (s11 _ _ (s10 _ _ u1')), SqL.of e11, _, rfl, rfl, _, rfl, ?_⟩
      have ee : ((unl (cs.map lcv) (ss.map lcv)).map V.str).isEmpty = decide (unl (gs.map cv) (hs.map cv) = []) := by
        rw [ev3, env.ev]
        cases unl (cs.map lcv) (ss.map lcv) with
        | nil => rfl
        | cons _ _ => rfl
      rw [ee]
      refine if_false_of (neS _) ?_
      have s311 := s39.trans (s10.trans s11)
      have sh311 := sh3.same s311
      obtain ⟨H011, sh11⟩ := (en3.same s311).sh
      obtain ⟨dz, _, _, _, _, hox, _⟩ := id sh11
      obtain ⟨dy, _, _, _, _, hoy, _⟩ := id sh311
      refine ⟨_, rfl, _, rfl, o, dz, _, rfl, hox, .inl ⟨o2, dy, _, rfl, hoy⟩, o, 20, H011, gs, _, rfl, sh11, .inl ⟨o2, 20, _, hs, rfl, sh311, fun H12 s12 => ?_⟩⟩
      have en12 := (en3.same s311).same s12
      have so12 := (so3.same s311).same s12
      obtain ⟨a1, a2, a3, a4, a5⟩ := cmpL (K := K) so12.lc en12.lc
      refine ⟨_, rfl, _, rfl, _, _, a1, a2, a3, a4, rfl, _, rfl, ?_⟩
      have e5' : decide (gs.map cv = hs.map cv) = decide (ss.map lcv = cs.map lcv) := by
        rw [env.ev, ev3, decide_eq_decide]
        exact eq_comm
      rw [a5, e5']
      refine if_false_of (neS _) ?_
      exact kn _ _ H12 (s2.trans (s3.trans (s311.trans s12)))
    refine ⟨_, rfl, _, rfl, p, l, cs, 20, m, rfl, env.bx, env.lc, env.lp, env.gd.1, by omega, fun r1 f1 J1 k1 b1 lc1 r10 sub1 gd1 => ?_⟩
    have en1 := env.kp k1 b1
    have r1p : r1 ≠ p := (env.bx.ne r10).symm
    refine ⟨_, rfl, _, rfl, p, l2, ms, 20, m + 14, rfl, b1, hl2.kp env.bx k1 l2p, l2p, g2.1, by omega, fun r2 f2 J2 k2 b2 lc2 r20 sub2 gd2 => ?_⟩
    have en2 := en1.kp k2 b2
    have lc12 := lc1.kp b1 k2 r1p
    obtain ⟨ga1, ga2⟩ := sub_good env.gd.s env.r8 sub1 gd1
    obtain ⟨gb1, gb2⟩ := sub_good g2 r82 sub2 gd2
    refine ⟨_, rfl, _, rfl, l, _, rfl, SqL.of en2.lc.l, fun l3 hl3 => ?_⟩
    have ec : cutV (cs.map fun g => V.ref g.q) none (some 1) = (cs.take 1).map fun g => V.ref g.q := by
      cases cs with
      | nil => rfl
      | cons x r =>
        unfold cutV
        rw [show (some (1 : Int)) = some ((1 : Nat) : Int) from rfl, HT.sIx_nat, HT.sIx_none, List.length_map, List.drop_zero, Nat.sub_zero, List.map_take]
        rw [Nat.min_eq_left (by rw [List.length_cons]; omega)]
    rw [ec]
    have s3 := Same.upd (o := .lst ((cs.take 1).map fun g => V.ref g.q)) hl3
    have e3 : upd J2 l3 (.lst ((cs.take 1).map fun g => V.ref g.q)) l3 = some (.lst ((cs.take 1).map fun g => V.ref g.q)) := upd_same
    generalize upd J2 l3 (.lst ((cs.take 1).map fun g => V.ref g.q)) = J3 at s3 e3 ⊢
    refine ⟨by show 2 ≤ sizeLine; decide, fun q1 hq1 => ?_⟩
    have s4 := Same.upd (o := .tup [.int 1, .int 1]) hq1
    have e4 : upd J3 q1 (.tup [.int 1, .int 1]) q1 = some (.tup [.int 1, .int 1]) := upd_same
    generalize upd J3 q1 (.tup [.int 1, .int 1]) = J4 at s4 e4 ⊢
    refine ⟨by show 4 ≤ sizeLine; decide, fun q2 hq2 => ?_⟩
    have s5 := Same.upd (o := .tup [.str "zz1", .str "start", .str "beats", .ref q1]) hq2
    have e5 : upd J4 q2 (.tup [.str "zz1", .str "start", .str "beats", .ref q1]) q2 = some (.tup [.str "zz1", .str "start", .str "beats", .ref q1]) := upd_same
    generalize upd J4 q2 (.tup [.str "zz1", .str "start", .str "beats", .ref q1]) = J5 at s5 e5 ⊢
    refine ⟨by show 1 ≤ sizeLine; decide, fun l6 hl6 => ?_⟩
    have s6 := Same.upd (o := .lst [.ref q2]) hl6
    have e6 : upd J5 l6 (.lst [.ref q2]) l6 = some (.lst [.ref q2]) := upd_same
    generalize upd J5 l6 (.lst [.ref q2]) = J6 at s6 e6 ⊢
    have s36 := s4.trans (s5.trans s6)
    refine ⟨l3, l6, _, _, rfl, rfl, s36 _ _ e3, e6, ?_, fun l7 hl7 => ?_⟩
    · rw [List.length_map, List.length_take]
      exact Nat.le_trans (show _ ≤ 10 by show min 1 cs.length + 1 ≤ 10; omega) (by decide)
    have s7 := Same.upd (o := .lst ((cs.take 1).map (fun g => V.ref g.q) ++ [.ref q2])) hl7
    have e7 : upd J6 l7 (.lst ((cs.take 1).map (fun g => V.ref g.q) ++ [.ref q2])) l7 = some (.lst ((cs.take 1).map (fun g => V.ref g.q) ++ [.ref q2])) := upd_same
    generalize upd J6 l7 (.lst ((cs.take 1).map (fun g => V.ref g.q) ++ [.ref q2])) = J7 at s7 e7 ⊢
    refine ⟨by show 3 ≤ sizeLine; decide, fun L hL => ?_⟩
    have s8 := Same.upd (o := .lst [.ref r1, .ref r2, .ref l7]) hL
    have e8 : upd J7 L (.lst [.ref r1, .ref r2, .ref l7]) L = some (.lst [.ref r1, .ref r2, .ref l7]) := upd_same
    generalize upd J7 L (.lst [.ref r1, .ref r2, .ref l7]) = J8 at s8 e8 ⊢
    have s28 := s3.trans (s36.trans (s7.trans s8))
    have en8 := en2.same s28
    have zc := zz_good (q := vq 1 1) env.gd.s nz
    have zok : LcOk 20 J8 ⟨q2, q1, "zz1", "start", "beats", 1, 1⟩ := ⟨(s6.trans (s7.trans s8)) _ _ e5, ⟨(s5.trans (s6.trans (s7.trans s8))) _ _ e4, ⟨(show (0 : Int) < 1 by decide), (show Nat.gcd 1 1 = 1 by decide)⟩, (show (1 : Nat) < 2 ^ 20 by decide), (show (1 : Nat) < 2 ^ 20 by decide)⟩, (show PyData.strOk "zz1" = true by decide +kernel), (show PyData.strOk "start" = true by decide +kernel), (show PyData.strOk "beats" = true by decide +kernel)⟩
    have em : (cs.take 1 ++ [(⟨q2, q1, "zz1", "start", "beats", 1, 1⟩ : Lc)]).map lcv = (cs.map lcv).take 1 ++ [⟨"zz1", "start", "beats", vq 1 1⟩] := by rw [List.map_append, List.map_take]; rfl
    have z3 : SoOk J8 l7 (cs.take 1 ++ [⟨q2, q1, "zz1", "start", "beats", 1, 1⟩]) := ⟨⟨by rw [List.map_append]; exact s8 _ _ e7, fun y hy => by
      rcases List.mem_append.mp hy with hy | hy
      · exact en8.lc.ok y (List.mem_of_mem_take hy)
      · rw [List.mem_singleton.mp hy]
        exact zok, by rw [List.length_append, List.length_take, List.length_singleton]; omega⟩, by rw [em]; exact zc, by
      have := M04.rows_len ((cs.take 1 ++ [(⟨q2, q1, "zz1", "start", "beats", 1, 1⟩ : Lc)]).map lcv)
      rw [List.length_map, List.length_append, List.length_take, List.length_singleton] at this
      omega⟩
    have each : ∀ (i : Nat) x, [V.ref r1, V.ref r2, V.ref l7][i]? = some x → ∃ a ss, x = .ref a ∧ SoOk J8 a ss := fun i x ex => by
      match i, ex with
      | 0, ex => cases ex; exact ⟨r1, f1, rfl, lc12.same s28, ga1, ga2⟩
      | 1, ex => cases ex; exact ⟨r2, f2, rfl, lc2.same s28, gb1, gb2⟩
      | 2, ex => cases ex; exact ⟨l7, _, rfl, z3⟩
    refine ⟨L, rfl, ⟨_, SqL.of e8⟩, for_list (K := K) (a := L) (xs := [.ref r1, .ref r2, .ref l7]) (fun i σ H' => ∃ v4 v5 v6, σ = SAr p o l l2 v4 v5 v6 ∧ Same J8 H') ⟨_, _, _, rfl, Same.refl _⟩ (fun i σ H' _ ⟨_, _, _, _, s⟩ => SqL.of (s _ _ e8)) ?_ ?_⟩
    · rintro i x σ J9 hx ⟨v4, v5, v6, rfl, s9⟩
      obtain ⟨a, ss, rfl, so⟩ := each i x hx
      exact ⟨l2, a, ss, v5, v6, _, rfl, so.same s9, en8.same s9, fun v5 v6 H'' s'' => ⟨_, v5, v6, rfl, s9.trans s''⟩⟩
    · rintro σ J9 ⟨v4, v5, v6, rfl, s9⟩
      exact k J9 ((k1.trans k2).trans (Kp.same (s28.trans s9))) (((b2.sm s28).sm s9).mono (by omega))
end
end K34
set_option Elab.async false
set_option linter.all false
set_option maxRecDepth 100000
set_option maxHeartbeats 1000000
set_option exponentiation.threshold 100000
namespace K34
open PySem PySem.Spec PyProof.Rows L2 Fa Fb
abbrev sDue : Stmt := top 67
theorem scDue : FnScope ["_law_cues_here", "_law_more", "_law_at", "_law_prefix", "_law_names", "_law_as_new", "_law_found", "_law_name", "_law_parent", "_law_unit", "_law_amount_here", "_law_cue"] ["_law_cues_here", "_law_more", "_law_at", "_law_prefix"] (defScope sDue) := ⟨rfl, rfl, rfl, by decide +kernel, rfl, by decide +kernel, by decide +kernel⟩
theorem told_app {g : Str → Bool} : ∀ {a pre b : List M04.Cue}, M34.told g pre a = none → M34.told g pre (a ++ b) = M34.told g (pre ++ a) b
  | [], pre, b, _ => by rw [List.append_nil, List.nil_append]
  | c :: r, pre, b, h => by
    unfold M34.told at h
    cases hb : M34.bad g (M04.all pre).nums c with
    | some x => rw [hb] at h; cases h
    | none =>
      rw [hb] at h
      have ih := told_app (a := r) (pre := pre ++ [c]) (b := b) h
      rw [List.append_assoc] at ih
      show (match M34.bad g (M04.all pre).nums c with | some b => some b | none => M34.told g (pre ++ [c]) (r ++ b)) = _
      rw [hb]
      exact ih
theorem app_inj {p a b : Str} (h : p ++ a = p ++ b) : a = b := by
  have := congrArg cl h
  rw [cl_app, cl_app] at this
  exact cl_ext (List.append_cancel_left this)
abbrev nmsOf (cs : List M04.Cue) : List Str := ("start" : Str) :: cs.map (·.nm)
theorem isSome_in {cs : List M04.Cue} {z : Str} : (M04.num (M04.all cs).nums z).isSome = decide (z ∈ nmsOf cs) := by
  rw [Bool.eq_iff_iff, decide_eq_true_iff]
  exact M34.num_mem cs z
theorem bad_hung {A B : List M04.Cue} {z pf : Str} (hz : z ∈ nmsOf A) (gb : M04.Good B) {i : Nat} {c : M04.Cue} (e : B[i]? = some c) : M34.bad isName (M04.all (A ++ (B.take i).map (hung z pf))).nums (hung z pf c) = if isName (pf ++ c.nm) = false then some (.name (pf ++ c.nm)) else if pf ++ c.nm ∈ nmsOf A then some (.dup (pf ++ c.nm)) else none := by
  obtain ⟨b1, b2⟩ := (M04.good_iff B).mp gb i c e
  have en : nmsOf (A ++ (B.take i).map (hung z pf)) = nmsOf A ++ ((B.take i).map (·.nm)).map fun y => pf ++ y := by
    unfold nmsOf
    rw [List.map_append, List.map_map, List.map_map, List.cons_append]
    rfl
  have hpa : (M04.num (M04.all (A ++ (B.take i).map (hung z pf))).nums (hung z pf c).pa).isSome = true := by
    rw [isSome_in, decide_eq_true_iff, en]
    show (if c.pa = "start" then z else pf ++ c.pa) ∈ _
    by_cases cs : c.pa = "start"
    · rw [if_pos cs]
      exact List.mem_append_left _ hz
    · rw [if_neg cs]
      rcases List.mem_cons.mp b2 with h | h
      · exact absurd h cs
      · exact List.mem_append_right _ (List.mem_map_of_mem h)
  have hnm : (M04.num (M04.all (A ++ (B.take i).map (hung z pf))).nums (pf ++ c.nm)).isSome = decide (pf ++ c.nm ∈ nmsOf A) := by
    rw [isSome_in, en, decide_eq_decide]
    refine ⟨fun h => ?_, fun h => List.mem_append_left _ h⟩
    rcases List.mem_append.mp h with h | h
    · exact h
    · obtain ⟨y, hy, ey⟩ := List.mem_map.mp h
      rw [app_inj ey] at hy
      exact absurd (List.mem_cons_of_mem _ hy) b1
  unfold M34.bad
  show (if isName (pf ++ c.nm) = false then some (M34.Bad.name (pf ++ c.nm)) else if (M04.num (M04.all (A ++ (B.take i).map (hung z pf))).nums (pf ++ c.nm)).isSome = true then some (M34.Bad.dup (pf ++ c.nm)) else if (M04.num (M04.all (A ++ (B.take i).map (hung z pf))).nums (hung z pf c).pa).isSome = false then some (M34.Bad.unk (hung z pf c).pa) else none) = _
  rw [hpa, hnm]
  by_cases h1 : isName (pf ++ c.nm) = false
  · rw [if_pos h1, if_pos h1]
  · rw [if_neg h1, if_neg h1]
    by_cases h2 : pf ++ c.nm ∈ nmsOf A
    · rw [if_pos (decide_eq_true h2), if_pos h2]
    · rw [if_neg (by rw [decide_eq_false h2]; decide), if_neg h2, if_neg (by decide)]
theorem told_names {g : Str → Bool} {cs : List M04.Cue} (h : M34.told g [] cs = none) : ∀ c ∈ cs, g c.nm = true := fun c hc => by
  obtain ⟨i, hi, e⟩ := List.mem_iff_getElem.mp hc
  exact (M34.bad_none.mp (M34.told_none.mp h i c (by rw [List.getElem?_eq_getElem hi, e]))).1
/-- what a call is told to give -/
inductive Ans | err (tag : Str) (v : V) | cues (cs : List M04.Cue)
def ansT (B : Option M34.Bad) (cs : List M04.Cue) : Ans := match B with
  | some (.name y) => .err "name" (.str y)
  | some (.dup y) => .err "twice" (.str y)
  | some (.unk y) => .err "cue" (.str y)
  | none => if 8 < (M04.all cs).rows.length then .err "many" (.int 8) else .cues cs
def ansA (A B : List M04.Cue) (z pf : Str) : Ans := if z ∈ nmsOf A then (if isName pf = false then .err "name" (.str pf) else ansT (M34.told isName [] (A ++ B.map (hung z pf))) (A ++ B.map (hung z pf))) else .err "cue" (.str z)
def AnsV (H : Hp) (r : Addr) (a : Ans) : Prop := match a with
  | .err tag v => H r = some (.lst [.str tag, v])
  | .cues cs => ∃ f ls n, H r = some (.lst [.str "cues", .ref f]) ∧ LsC n H f ls ∧ n ≤ 30 ∧ ls.map lcv = cs
def spDue (K : PySem.W.Frag) : Sp := fun vs H Q _ => ∃ (l l2 : Addr) (z pf : Str) (gs hs : List Lc) (n : Nat), vs = [.ref l, .ref l2, .str z, .str pf] ∧ LsC n H l gs ∧ LsC n H l2 hs ∧ GoodS (gs.map lcv) ∧ GoodS (hs.map lcv) ∧ gs.length + hs.length ≤ 14 ∧ 1 ≤ n ∧ n ≤ 30 ∧ pf.length ≤ 100 ∧ ∀ r H', Same H H' → AnsV H' r (ansA (gs.map lcv) (hs.map lcv) z pf) → Q (.ref r) H'
abbrev SDu (l l2 nmA d f : Addr) (z pf : Str) (v7 v8 v9 v10 : Option V) : L2.St := [some (.ref l), some (.ref l2), some (.str z), some (.str pf), some (.ref nmA), some (.ref d), some (.ref f), v7, v8, v9, v10, none]
/-- behind i cues -/
structure DuI (n : Nat) (H H' : Hp) (l l2 nmA d f : Addr) (z pf : Str) (gs hs : List Lc) (i : Nat) : Prop where
  s : Same H H'
  nl : H' nmA = some (.lst ((nmsOf (gs.map lcv)).map V.str))
  fl : Ls n H' f (gs.length + i) (gs.map lcv ++ (hs.map lcv).map (hung z pf))
  dk : ∃ kvs, H' d = some (.dK kvs) ∧ kvs.length ≤ i + 1 ∧ ∀ y ∈ nmsOf ((hs.map lcv).take i), valV kvs (Sum.inr y) = some (.str (if y = "start" then z else pf ++ y))
  d0 : H d = none
  f0 : H f = none
  df : d ≠ f
  nf : nmA ≠ f
  nd : nmA ≠ d
  tl : M34.told isName [] (gs.map lcv ++ ((hs.map lcv).take i).map (hung z pf)) = none
section
variable {P : Program} {w : World} {K : PySem.W.Frag} {mg : Str → Option Value} {base : Heap} {f f1 f2 : Addr} {fd fd1 fd2 : FuncData}
theorem ok_due (F : FnP K "_law_due" sDue f fd) (mL : mg "len" = none) (mLi : mg "list" = none) (NM : Fn P w K mg base "_law_is_named" 1 ["_law_word"] spNmd f1 fd1) (MO : Fn P w K mg base "_law_moments" 5 ["_law_cues_here"] (spMom K) f2 fd2) : FnOk P w K mg base (L2.CX P w) 6 f fd ["_law_cues_here", "_law_more", "_law_at", "_law_prefix"] (spDue K) := by
  refine F.ok scDue (fun vs H Q E h => ?_) (fun cdv A outer s H vs Q E hr h => ?_)
  · obtain ⟨l, l2, z, pf, gs, hs, n, rfl, _⟩ := h
    rfl
  · obtain ⟨l, l2, z, pf, gs, hs, n, rfl, hl, hl2, ga, gb, n14, n1, n200, pl, k⟩ := h
    have hu1 : (A.deeper (envOfC "_law_due" (defScope sDue) s.heap.objs.size f cdv)).units + 1 < cLine := by
      have := hr.un
      omega
    have hr1 := hr.mono (show 1 ≤ 5 by decide)
    have hr5 := hr.mono (show 5 ≤ 5 by decide)
    have g14 := hl.n
    have h14 := hl2.n
    refine ⟨_, (pss_cons (ps_set (i := 4) scDue.nd rfl (Or.inl rfl) (pe_op op_cat (pe_lst (pa_cons pe_str pa_nil)) (pe_lc (own := [("_law_cue", 11)]) (g := gName 11) (te := tOp (rIxT K) (tVar 11) (tC (.int 0))) (by rfl) scDue.nd (pi_list (pv 0)) (blkOk_by (own := [("_law_cue", 11)]) (N := ["_law_cues_here", "_law_more", "_law_at", "_law_prefix", "_law_names", "_law_as_new", "_law_found", "_law_name", "_law_parent", "_law_unit", "_law_amount_here", "_law_cue"]) (sc := defScope sDue) (by decide +kernel)) (fun _ _ _ _ _ => (pg_name (i := 11) scDue.nd rfl (Or.inl rfl))) (fun _ _ _ _ _ => pts_nil) (fun _ _ _ _ _ => (pe_ix ix_tup (pv 11) pe_int (fun _ _ => rfl))))))
      (pss_cons (ps_if (pt_cmpR op_notIn_seq (pv 2) (pv 4) (by rfl)) (pss_one (ps_ret (pe_lst (pa_cons pe_str (pa_cons (pv 2) pa_nil))))) pss_nil)
      (pss_cons (ps_if (pt_not (pt_val (pe_call NM.ok hr1 rfl NM.g NM.k NM.b .nil passL (pa_cons (pv 3) pa_nil)))) (pss_one (ps_ret (pe_lst (pa_cons pe_str (pa_cons (pv 3) pa_nil))))) pss_nil)
      (pss_cons (ps_par (by rfl) scDue.nd (i := 5) (j := 6) rfl rfl (by decide) rfl rfl (pa_cons (pe_disp (pps_cons pe_str (pv 2) pps_nil) rfl rfl (by simp) (by decide)) (pa_cons (pe_callTy call_list_of rfl mLi (by decide +kernel : bootBuiltins "list" = some (.type "list")) (pa_cons (pv 0) pa_nil)) pa_nil)) (by rfl))
      (pss_cons (ps_for (passes_of rfl) rfl (pi_list (pv 1)) (pg_tup (by rfl) (pgs_cons (pg_name (i := 7) scDue.nd rfl (Or.inl rfl)) (pgs_cons (pg_name (i := 8) scDue.nd rfl (Or.inl rfl)) (pgs_cons (pg_name (i := 9) scDue.nd rfl (Or.inl rfl)) (pgs_cons (pg_name (i := 10) scDue.nd rfl (Or.inl rfl)) pgs_nil)))))
      (pss_cons (ps_if (pt_not (pt_val (pe_call NM.ok hr1 rfl NM.g NM.k NM.b .nil passL (pa_cons (pe_op op_add_str (pv 3) (pv 7)) pa_nil)))) (pss_one (ps_ret (pe_lst (pa_cons pe_str (pa_cons (pe_op op_add_str (pv 3) (pv 7)) pa_nil))))) pss_nil)
      (pss_cons (ps_if (pt_cmpR op_in_seq (pe_op op_add_str (pv 3) (pv 7)) (pv 4) (by rfl)) (pss_one (ps_ret (pe_lst (pa_cons pe_str (pa_cons (pe_op op_add_str (pv 3) (pv 7)) pa_nil))))) pss_nil)
      (pss_cons (ps_dput hu1 (pv 5) (pv 7) (pe_op op_add_str (pv 3) (pv 7)) (by rfl))
      (pss_one (ps_expr (pe_bm PySem.F.plainAttrs_list PySem.F.slot_list_append PySem.F.type_list_append mt_append (pv 6) (pa_cons (pe_tup (pa_cons (pe_op op_add_str (pv 3) (pv 7)) (pa_cons (pe_dget hu1 (pv 5) (pv 8) (fun _ _ => rfl)) (pa_cons (pv 9) (pa_cons (pv 10) pa_nil))))) pa_nil))))))))
      (pss_one (ps_ret (pe_ifExp (pt_cmpR op_gt (pe_callB call_len rfl mL PySem.boot_len (pa_cons (pe_call MO.ok hr5 rfl MO.g MO.k MO.b .nil passL (pa_cons (pv 6) pa_nil)) pa_nil)) pe_int (nomark _)) (pe_lst (pa_cons pe_str (pa_cons pe_int pa_nil))) (pe_lst (pa_cons pe_str (pa_cons (pv 6) pa_nil))))))))))), ?_⟩
    refine ⟨by show 1 ≤ sizeLine; decide, fun la hla => ?_⟩
    have s1 := Same.upd (o := .lst [.str "start"]) hla
    have e1 : upd H la (.lst [.str "start"]) la = some (.lst [.str "start"]) := upd_same
    generalize upd H la (.lst [.str "start"]) = H1 at s1 e1 ⊢
    have hl1 := hl.same s1
    refine ⟨_, rfl, l, rfl, ⟨_, SqL.of hl1.l⟩, fun D hD => ?_⟩
    refine lc_list (K := K) (a := l) (xs := gs.map fun g => V.ref g.q) (fun i H' => Same H1 H' ∧ H' D = some (.lst ((((gs.map lcv).map (·.nm)).take i).map V.str))) ⟨Same.upd hD, upd_same⟩ (fun i H' _ ⟨s, _⟩ => SqL.of (s _ _ hl1.l)) ?_ ?_
    · rintro i x H2 hx ⟨s2, e2⟩
      obtain ⟨g, eg, rfl⟩ := map_at hx
      have hi := (List.getElem?_eq_some_iff.mp eg).1
      obtain ⟨c1, _⟩ := (hl1.ok g (List.mem_of_getElem? eg)).kt (KT.of s2)
      refine ⟨rfl, _, rfl, g.q, _, 0, _, rfl, rfl, SqT.of c1, rfl, _, e2, ?_, same_put s2 hD, ?_⟩
      · rw [List.length_map, List.length_take]
        exact Nat.lt_of_lt_of_le (show _ < 100 by omega) (by decide)
      · rw [upd_same, List.take_add_one, List.getElem?_map, List.getElem?_map, eg, List.map_append]
        rfl
    rintro H2 ⟨s2, e2⟩
    rw [List.length_map, List.take_of_length_le (by rw [List.length_map, List.length_map]; exact Nat.le_refl _)] at e2
    refine ⟨la, D, _, _, rfl, rfl, s2 _ _ e1, e2, ?_, fun nmA hnm => ?_⟩
    · rw [List.length_map, List.length_map, List.length_map]
      exact Nat.le_trans (show 1 + gs.length ≤ 100 by omega) (by decide)
    have s3 := Same.upd (o := .lst ([V.str "start"] ++ ((gs.map lcv).map (·.nm)).map V.str)) hnm
    have e3 : upd H2 nmA (.lst ([V.str "start"] ++ ((gs.map lcv).map (·.nm)).map V.str)) nmA = some (.lst ((nmsOf (gs.map lcv)).map V.str)) := upd_same
    generalize upd H2 nmA (.lst ([V.str "start"] ++ ((gs.map lcv).map (·.nm)).map V.str)) = H3 at s3 e3 ⊢
    have s13 := s1.trans (s2.trans s3)
    unfold ansA at k
    refine ⟨_, rfl, _, rfl, nmA, _, rfl, .inl (SqL.of e3), rfl, flat_strs _, _, rfl, ?_⟩
    rw [inV_strs]
    by_cases hz : z ∈ nmsOf (gs.map lcv)
    rotate_left
    · rw [if_neg hz] at k
      refine if_true_of (by rw [decide_eq_false hz]; rfl) ⟨_, rfl, by show 2 ≤ sizeLine; decide, fun r hr' => ?_⟩
      exact k r _ (s13.trans (Same.upd hr')) upd_same
    rw [if_pos hz] at k
    refine if_false_of (by rw [decide_eq_true hz]; rfl) ?_
    refine ⟨_, rfl, pf, rfl, Nat.le_trans pl (by decide), fun H4 s4 => ⟨_, rfl, ?_⟩⟩
    have s14 := s13.trans s4
    cases hp : isName pf with
    | false =>
      rw [if_pos hp] at k
      refine iteT ⟨_, rfl, by show 2 ≤ sizeLine; decide, fun r hr' => ?_⟩
      exact k r _ (s14.trans (Same.upd hr')) upd_same
    | true =>
    rw [if_neg (by rw [hp]; decide)] at k
    refine iteF ?_
    have pl8 := isName_len hp
    intro d hd
    refine ⟨_, rfl, upd_same, [(Sum.inr "start", .str z)], rfl, (by show 1 ≤ 15; decide), ?_⟩
    have em : mergeK [] [((Sum.inr ("start" : Str) : Key), V.str z)] = [((Sum.inr ("start" : Str) : Key), V.str z)] := rfl
    rw [em, upd_upd]
    have s5 := Same.upd (o := .dK [((Sum.inr ("start" : Str) : Key), V.str z)]) hd
    have e5 : upd H4 d (.dK [((Sum.inr ("start" : Str) : Key), V.str z)]) d = some (.dK [((Sum.inr ("start" : Str) : Key), V.str z)]) := upd_same
    have e53 := s5 _ _ (s4 _ _ e3)
    have nd : nmA ≠ d := ne_of_none (s4 _ _ e3) hd
    show tCons _ _ _ _ _
    generalize upd H4 d (.dK [((Sum.inr ("start" : Str) : Key), V.str z)]) = H5 at s5 e5 e53 ⊢
    have s15 := s14.trans s5
    have hl5 := hl.same s15
    refine ⟨_, rfl, l, _, rfl, .inl (SqL.of hl5.l), fun f hf => ⟨_, _, rfl, ?_⟩⟩
    have s6 := Same.upd (o := .lst (gs.map fun g => V.ref g.q)) hf
    have e6 : upd H5 f (.lst (gs.map fun g => V.ref g.q)) f = some (.lst (gs.map fun g => V.ref g.q)) := upd_same
    have df : d ≠ f := ne_of_none e5 hf
    have nf : nmA ≠ f := ne_of_none e53 hf
    generalize upd H5 f (.lst (gs.map fun g => V.ref g.q)) = H6 at s6 e6 ⊢
    have s16 := s15.trans s6
    have hl6 := hl.same s16
    have hl26 := hl2.same s16
    have I0 : DuI n H H6 l l2 nmA d f z pf gs hs 0 := ⟨s16, s6 _ _ e53, ⟨gs, by rw [Nat.add_zero, List.take_append_of_le_length (by rw [List.length_map]; exact Nat.le_refl _), List.take_of_length_le (by rw [List.length_map]; exact Nat.le_refl _)], rfl, e6, fun g hg => hl6.ok g hg⟩, ⟨_, s6 _ _ e5, Nat.le_refl _, fun y hy => by
      have : y = "start" := by
        rw [List.take_zero] at hy
        exact List.mem_singleton.mp hy
      subst this
      rfl⟩, none_of s14 hd, none_of s15 hf, df, nf, nd, by
      rw [List.take_zero, List.map_nil, List.append_nil]
      exact M34.told_of ga.1 fun c hc => (ga.2 c hc).1⟩
    refine ⟨_, rfl, l2, rfl, ⟨_, SqL.of hl26.l⟩, for_list (K := K) (a := l2) (xs := hs.map fun g => V.ref g.q) (fun i σ H' => ∃ v7 v8 v9 v10, σ = SDu l l2 nmA d f z pf v7 v8 v9 v10 ∧ i ≤ hs.length ∧ DuI n H H' l l2 nmA d f z pf gs hs i) ⟨_, _, _, _, rfl, Nat.zero_le _, I0⟩ (fun i σ H' _ ⟨_, _, _, _, _, _, I⟩ => SqL.of (I.s _ _ hl2.l)) ?_ ?_⟩
    · rintro i x σ H7 hx ⟨v7, v8, v9, v10, rfl, _, I⟩
      obtain ⟨g, eg, rfl⟩ := map_at hx
      have hi := (List.getElem?_eq_some_iff.mp eg).1
      have hg := List.mem_of_getElem? eg
      obtain ⟨c1, c2, c3, c4, c5⟩ := (hl2.ok g hg).kt (KT.of I.s)
      have eb : (hs.map lcv)[i]? = some (lcv g) := by rw [List.getElem?_map, eg]; rfl
      have nl8 := isName_len (gb.2 _ (List.mem_map_of_mem (f := lcv) hg)).1
      have nl8 : g.nm.length ≤ 8 := nl8
      have bnd : pf.length + g.nm.length ≤ sizeLine := Nat.le_trans (show _ ≤ 100 by omega) (by decide)
      have bh := bad_hung (z := z) (pf := pf) hz gb.1 eb
      have split : gs.map lcv ++ (hs.map lcv).map (hung z pf) = (gs.map lcv ++ ((hs.map lcv).take i).map (hung z pf)) ++ (hung z pf (lcv g) :: ((hs.map lcv).drop (i + 1)).map (hung z pf)) := by
        have h1 : hs.map lcv = (hs.map lcv).take i ++ (lcv g :: (hs.map lcv).drop (i + 1)) := by
          obtain ⟨hj, ej⟩ := List.getElem?_eq_some_iff.mp eb
          rw [← ej, ← List.drop_eq_getElem_cons hj, List.take_append_drop]
        rw [List.append_assoc]
        congr 1
        conv => lhs; rw [h1]
        rw [List.map_append, List.map_cons]
      have tld : M34.told isName [] (gs.map lcv ++ (hs.map lcv).map (hung z pf)) = match M34.bad isName (M04.all (gs.map lcv ++ ((hs.map lcv).take i).map (hung z pf))).nums (hung z pf (lcv g)) with
          | some b => some b
          | none => M34.told isName ((gs.map lcv ++ ((hs.map lcv).take i).map (hung z pf)) ++ [hung z pf (lcv g)]) (((hs.map lcv).drop (i + 1)).map (hung z pf)) := by
        rw [split, told_app I.tl, List.nil_append]
        rfl
      rw [bh] at tld
      refine ⟨g.q, _, rfl, SqT.of c1, rfl, _, _, rfl, _, _, rfl, _, _, rfl, _, _, rfl, rfl, ?_⟩
      refine ⟨_, rfl, _, rfl, pf, g.nm, rfl, rfl, bnd, pf ++ g.nm, rfl, by rw [len_app]; omega, fun H8 s8 => ⟨_, rfl, ?_⟩⟩
      have I8s := I.s.trans s8
      cases h1 : isName (pf ++ g.nm) with
      | false =>
        rw [if_pos (show isName (pf ++ (lcv g).nm) = false from h1)] at tld
        rw [tld] at k
        refine iteT ⟨_, rfl, _, rfl, pf, g.nm, rfl, rfl, bnd, by show 2 ≤ sizeLine; decide, fun r hr' => ?_⟩
        exact k r _ (I8s.trans (Same.upd hr')) upd_same
      | true =>
      rw [if_neg (show ¬ isName (pf ++ (lcv g).nm) = false by show ¬ isName (pf ++ g.nm) = false; rw [h1]; decide)] at tld
      refine iteF ?_
      have nl8' := s8 _ _ I.nl
      refine ⟨_, rfl, _, rfl, pf, g.nm, rfl, rfl, bnd, _, rfl, nmA, _, rfl, .inl (SqL.of nl8'), rfl, flat_strs _, _, rfl, ?_⟩
      rw [inV_strs]
      by_cases h2 : pf ++ g.nm ∈ nmsOf (gs.map lcv)
      · rw [if_pos (show pf ++ (lcv g).nm ∈ nmsOf (gs.map lcv) from h2)] at tld
        rw [tld] at k
        refine if_true_of (by rw [decide_eq_true h2]; rfl) ⟨_, rfl, _, rfl, pf, g.nm, rfl, rfl, bnd, by show 2 ≤ sizeLine; decide, fun r hr' => ?_⟩
        exact k r _ (I8s.trans (Same.upd hr')) upd_same
      rw [if_neg (show ¬ pf ++ (lcv g).nm ∈ nmsOf (gs.map lcv) from h2)] at tld
      refine if_false_of (by rw [decide_eq_false h2]; rfl) ?_
      obtain ⟨kvs, hdk, kl, kv⟩ := I.dk
      have hdk8 := s8 _ _ hdk
      refine ⟨_, rfl, _, rfl, pf, g.nm, rfl, rfl, bnd, _, rfl, _, rfl, d, _, rfl, .inl ⟨kvs, Sum.inr g.nm, hdk8, rfl, Nat.lt_of_lt_of_le (show _ < 100 by omega) (by decide), rfl⟩, ?_⟩
      have ndd : NoTI H8 d := .inr ⟨_, hdk8⟩
      have fl8 := I.fl.same s8
      obtain ⟨ls, l1, l2', l3, l4⟩ := id fl8
      have fl9 : Ls n (upd H8 d (.dK (putK kvs (Sum.inr g.nm) (V.str (pf ++ g.nm))))) f (gs.length + i) (gs.map lcv ++ (hs.map lcv).map (hung z pf)) := ⟨ls, l1, l2', by rw [upd_ne (Ne.symm I.df)]; exact l3, fun y hy => ⟨by rw [upd_ne (ndd.tup (l4 y hy).1)]; exact (l4 y hy).1, (l4 y hy).2.1.put ndd, (l4 y hy).2.2⟩⟩
      have nl9 : upd H8 d (.dK (putK kvs (Sum.inr g.nm) (V.str (pf ++ g.nm)))) nmA = some (.lst ((nmsOf (gs.map lcv)).map V.str)) := by rw [upd_ne I.nd]; exact nl8'
      have dk9 : upd H8 d (.dK (putK kvs (Sum.inr g.nm) (V.str (pf ++ g.nm)))) d = some (.dK (putK kvs (Sum.inr g.nm) (V.str (pf ++ g.nm)))) := upd_same
      have s9 : Same H (upd H8 d (.dK (putK kvs (Sum.inr g.nm) (V.str (pf ++ g.nm))))) := same_put I8s I.d0
      have fr9 : Fr n (upd H8 d (.dK (putK kvs (Sum.inr g.nm) (V.str (pf ++ g.nm))))) g.a g.t g.u := (c2.kt (KT.of s8)).put ndd
      generalize upd H8 d (.dK (putK kvs (Sum.inr g.nm) (V.str (pf ++ g.nm)))) = H9 at fl9 nl9 dk9 s9 fr9 ⊢
      have kl2 := length_putK kvs (Sum.inr g.nm) (V.str (pf ++ g.nm))
      obtain ⟨b1, b2⟩ := (M04.good_iff _).mp gb.1 i _ eb
      have gst : g.nm ≠ "start" := fun e => b1 (by show g.nm ∈ _; rw [e]; exact List.mem_cons_self)
      have kv2 : ∀ y ∈ nmsOf ((hs.map lcv).take (i + 1)), valV (putK kvs (Sum.inr g.nm) (V.str (pf ++ g.nm))) (Sum.inr y) = some (.str (if y = "start" then z else pf ++ y)) := fun y hy => by
        rw [valV_put]
        by_cases ey : y = g.nm
        · subst ey
          rw [if_pos rfl, if_neg gst]
        · rw [if_neg fun e => ey (Sum.inr.inj e)]
          refine kv y ?_
          rcases List.mem_cons.mp hy with h | h
          · rw [h]; exact List.mem_cons_self
          · rw [List.take_add_one, eb, List.map_append] at h
            rcases List.mem_append.mp h with h | h
            · exact List.mem_cons_of_mem _ h
            · exact absurd (List.mem_singleton.mp h) ey
      have vpa := kv2 g.pa (by
        rcases List.mem_cons.mp b2 with h | h
        · show g.pa ∈ _
          rw [show g.pa = "start" from h]; exact List.mem_cons_self
        · refine List.mem_cons_of_mem _ ?_
          rw [List.take_add_one, List.map_append]
          exact List.mem_append_left _ h)
      obtain ⟨ls9, a1, a2, a3, a4⟩ := id fl9
      refine ⟨_, rfl, .inl ⟨rfl, _, SqL.of a3⟩, _, rfl, _, rfl, pf, g.nm, rfl, rfl, bnd, _, rfl, _, rfl, d, _, rfl, .inl ⟨_, Sum.inr g.pa, Rd.of dk9, rfl, vpa.symm⟩, _, rfl, _, rfl, by show 4 ≤ sizeLine; decide, fun q hq => ?_⟩
      have s10 := Same.upd (o := .tup [.str (pf ++ g.nm), .str (if g.pa = "start" then z else pf ++ g.pa), .str g.un, .ref g.a]) hq
      have e10 : upd H9 q (.tup [.str (pf ++ g.nm), .str (if g.pa = "start" then z else pf ++ g.pa), .str g.un, .ref g.a]) q = some (.tup [.str (pf ++ g.nm), .str (if g.pa = "start" then z else pf ++ g.pa), .str g.un, .ref g.a]) := upd_same
      generalize upd H9 q (.tup [.str (pf ++ g.nm), .str (if g.pa = "start" then z else pf ++ g.pa), .str g.un, .ref g.a]) = H10 at s10 e10 ⊢
      have tl2 : M34.told isName [] (gs.map lcv ++ ((hs.map lcv).take (i + 1)).map (hung z pf)) = none := by
        rw [List.take_add_one, eb, List.map_append, ← List.append_assoc]
        rw [told_app I.tl, List.nil_append]
        show (match M34.bad isName (M04.all (gs.map lcv ++ ((hs.map lcv).take i).map (hung z pf))).nums (hung z pf (lcv g)) with | some b => some b | none => M34.told isName _ []) = none
        rw [bh, if_neg (show ¬ isName (pf ++ (lcv g).nm) = false by show ¬ isName (pf ++ g.nm) = false; rw [h1]; decide), if_neg (show ¬ pf ++ (lcv g).nm ∈ nmsOf (gs.map lcv) from h2)]
        rfl
      have gt2 := M34.told_good tl2
      have ein : hung z pf (lcv g) ∈ gs.map lcv ++ ((hs.map lcv).take (i + 1)).map (hung z pf) := by
        rw [List.take_add_one, eb, List.map_append]
        exact List.mem_append_right _ (List.mem_append_right _ (List.mem_singleton.mpr rfl))
      have paS : PyData.strOk (if g.pa = "start" then z else pf ++ g.pa) = true := by
        by_cases cs : g.pa = "start"
        · rw [if_pos cs]
          rcases List.mem_cons.mp hz with h | h
          · rw [h]; decide +kernel
          · obtain ⟨y, hy, ey⟩ := List.mem_map.mp h
            rw [← ey]
            exact isName_str (ga.2 y hy).1
        · rw [if_neg cs]
          rcases List.mem_cons.mp b2 with h | h
          · exact absurd h cs
          · obtain ⟨y, hy, ey⟩ := List.mem_map.mp h
            have h3 := told_names I.tl (hung z pf y) (List.mem_append_right _ (List.mem_map_of_mem hy))
            have h3 : isName (pf ++ y.nm) = true := h3
            rw [show g.pa = y.nm from ey.symm]
            exact isName_str h3
      obtain ⟨ys, ey, yl, ls'⟩ := fl9.app (c := hung z pf (lcv g)) s10 (by rw [List.getElem?_append_right (by rw [List.length_map]; omega), List.length_map, Nat.add_sub_cancel_left, List.getElem?_map, eb]; rfl) e10 (fr9.kt (KT.of s10)) (isName_str h1) paS c5 rfl
      refine ⟨f, ys, _, rfl, rfl, ey, by rw [yl]; exact Nat.lt_of_lt_of_le (show _ < 100 by omega) (by decide), ?_⟩
      refine ⟨_, _, _, _, rfl, hi, same_put (s9.trans s10) I.f0, by rw [upd_ne I.nf]; exact s10 _ _ nl9, ls', ⟨_, by rw [upd_ne I.df]; exact s10 _ _ dk9, by omega, kv2⟩, I.d0, I.f0, I.df, I.nf, I.nd, tl2⟩
    · rintro σ H7 ⟨v7, v8, v9, v10, rfl, _, I⟩
      rw [List.length_map] at I
      have tl := I.tl
      rw [List.take_of_length_le (by rw [List.length_map]; exact Nat.le_refl _)] at tl
      rw [tl] at k
      obtain ⟨ls, lc7, lv7⟩ := I.fl.done (by rw [List.length_append, List.length_map, List.length_map, List.length_map]) (by rw [List.length_append, List.length_map, List.length_map, List.length_map]; exact n14)
      have gd7 : M04.Good (ls.map lcv) := by rw [lv7]; exact M34.told_good tl
      refine ⟨_, rfl, f, ls, n, rfl, lc7, gd7, n1, Nat.le_trans n200 (by decide), fun p fs H8 s8 fo ev p0 => ?_⟩
      have el : fs.length = (M04.all (gs.map lcv ++ (hs.map lcv).map (hung z pf))).rows.length := by
        rw [← lv7, ← ev, List.length_map]
      refine ⟨_, _, rfl, .inl ⟨_, SqL.of fo.l, rfl⟩, _, _, rfl, rfl, _, rfl, ?_⟩
      rw [List.length_map]
      unfold ansT at k
      by_cases c8 : 8 < (M04.all (gs.map lcv ++ (hs.map lcv).map (hung z pf))).rows.length
      · simp only [if_pos c8] at k
        refine if_true_of (decide_eq_true (by rw [el]; omega)) ⟨by show 2 ≤ sizeLine; decide, fun r hr' => ?_⟩
        exact k r _ ((I.s.trans s8).trans (Same.upd hr')) upd_same
      · simp only [if_neg c8] at k
        refine if_false_of (decide_eq_false (by rw [el]; omega)) ⟨_, rfl, by show 2 ≤ sizeLine; decide, fun r hr' => ?_⟩
        have sr := Same.upd (o := .lst [.str "cues", .ref f]) hr'
        exact k r _ ((I.s.trans s8).trans sr) ⟨f, ls, n, upd_same, (lc7.same s8).same sr, n200, lv7⟩
end
end K34
set_option Elab.async false
set_option linter.all false
set_option maxRecDepth 100000
set_option maxHeartbeats 1000000
/-! f(a, .., k = v) where what it raises is caught by the place; one keyword-only parameter. -/
namespace Gb
open PySem PySem.Spec PyProof.Rows L2
section
variable {X : Cx} {CX : CXT} {k n : Nat} {f : Addr} {fd : FuncData} {ps ks : List Str} {sp : Sp} {E : L2.St → XK} {x : Str} {p pos : Pos} {e : Expr} {es : List Expr} {kws : List Keyword} {t tk : TA} {g : List Value → List Value → List Value} {gV : List V → List V → List V}
def tCallNS (n m : Nat) (sp : Sp) (gV : List V → List V → List V) (E : L2.St → XK) (t tk : TA) : TE := fun σ H Q => t σ H fun vs H1 => tk σ H1 fun zs H2 => vs.length = n ∧ zs.length = m ∧ sp (gV vs zs) H2 Q (E σ)
theorem run_ns {pins : List (Addr × Obj)} {σ : L2.St} {H : Hp} {s : Shared} {Q : VK} {us ws : List Value} {vs zs : List V} (F : FnOk X.prog X.w X.K X.mg X.base CX k f fd ps sp) (hr : Room k X.A) (hb : KBn X.K fd ps n ks g gV) (px : PassesAt CX X σ (E σ))
    (I : Inv X pins σ H s) (r : Vals vs us) (rz : Vals zs ws) (l1 : vs.length = n) (l2 : zs.length = ks.length) (h : sp (gV vs zs) H Q (E σ)) : wpAny (model X.prog X.w) X.A (call (.ref f) us (ks.zip ws)) (EP X pins σ Q) X.xe s := by
  have r2 := hb.rel r rz
  refine wpAny_call (codeAny_mono (F.run X.A X.stack s H ⟨us, ks.zip ws⟩ (g us ws) (gV vs zs) Q (E σ) hr I.env0 (hb.to s us ws I.kIn (r.length.symm.trans l1) (rz.length.symm.trans l2)) r2 h) fun r s' hq => ?_)
  cases r with
  | error e => exact px pins H s e s' I hq
  | ok fl =>
    cases fl with
    | ret u => exact I.after hq
    | next => exact False.elim hq
    | brk => exact False.elim hq
    | cont => exact False.elim hq
theorem pe_callNS (F : FnOk X.prog X.w X.K X.mg X.base CX k f fd ps sp) (hr : Room k X.A) (hg : Gl X x) (hm : X.mg x = some (.ref f)) (hk : PySem.W.keepIn X.K (.ref f) = true) (hb : KBn X.K fd ps n ks g gV) (px : ∀ σ, PassesAt CX X σ (E σ))
    (ha : PA X (e :: es) t) (hkw : PK X kws tk) (hall : (backToKw pos (keywordEach kws X.env)).all (·.1.isSome) = true := by rfl) (hks : (backToKw pos (keywordEach kws X.env)).filterMap (·.1) = ks := by rfl)
    (hdb : (x == ("__debug__" : Str)) = false := by decide) (he : starEach (e :: es) X.env = (false, eval e X.env) :: starEach es X.env := by rfl)
    (hpl : ((backTo pos (starEach (e :: es) X.env)).any (·.1) || (backToKw pos (keywordEach kws X.env)).any (·.1.isNone)) = false := by rfl) :
    PE X (.Call (.Name x p) (e :: es) kws pos) (tCallNS n ks.length sp gV E t tk) := by
  refine ⟨fun pins s σ H Q I h => ?_⟩
  refine wpAny_Call_Name_kw (ld_glob I hg hm ?_ hdb)
  refine PySem.W.callWith_KW (h₀ := X.base) I.ok.mod.kin hk hall (thn (ha.run pos pins s σ H _ I h) fun us s1 ⟨vs, H1, I1, r, q⟩ => ?_) hpl he
  refine thn (hkw.run pos pins s1 σ H1 _ I1 q) fun ws s2 ⟨zs, H2, I2, rz, l1, l2, q2⟩ => ⟨I2.kIn, ?_⟩
  rw [hks]
  exact run_ns F hr hb (px σ) I2 r rz l1 l2 q2
end
/-- one keyword, given; no positional defaults -/
theorem kbn {K : PySem.W.Frag} {x qual : Str} {params : Arguments} {body : List Stmt} {scope : Scope} {kws : List (Str × V)} {f : Addr} {fd : FuncData} {ps : List Str} {n : Nat} {k : Str} (F : FunD K x qual params body scope [] kws f fd)
    (h : ∀ (kV doc pm : Value) (an : Option Addr) (cdv ct : Value) (us : List Value) (w : Value), us.length = n → bindArgs (PySem.W.fnOf x qual params body scope .none kV doc pm an cdv ct) ⟨us, [(k, w)]⟩ = pure (ps.zip (us ++ [w]))) : KBn K fd ps n [k] (fun us ws => us ++ ws) (fun vs zs => vs ++ zs) := by
  obtain ⟨oc, od, dV, kV, doc, pm, an, cdv, ct, osl, rfl, lk, hcd, hD, hK⟩ := F.ex
  rcases hD with ⟨_, rfl⟩ | ⟨e, _⟩
  · refine ⟨fun s us ws _ l1 l2 => ?_, fun r1 r2 => r1.append r2⟩
    match ws, l2 with
    | [w], _ => exact .of_eq (h kV doc pm an cdv ct us w l1)
  · exact absurd rfl e
/-- the keyword's default, from what stands at the def -/
def kwAt (K : PySem.W.Frag) (f : Addr) (x : Str) : Addr := match K.lookup f with
  | some ⟨_, _, .func fd, _⟩ => (match fd.kwdefaults with
    | .ref D => (match PySem.W.nsIn K D x with
      | some (some (.ref T)) => T
      | _ => 0)
    | _ => 0)
  | _ => 0
end Gb
set_option Elab.async false
set_option linter.all false
set_option maxRecDepth 100000
set_option maxHeartbeats 4000000
/-! try with several clauses «except A as e». -/
namespace Ft
open PySem PySem.Spec PyProof.Rows L2
abbrev Cl : Type := Value × (Addr → Value → Option Addr → TS)
/-- what the clauses wish, slot i the name of all of them -/
def wAll (K : PySem.W.Frag) (i : Nat) (Wo : WX) (D : Ends) : List Cl → WX
  | [] => Wo
  | (c, ts) :: r => fun cls d σ H => ∃ b, PySem.W.exmOne K cls c = some b ∧
      (b = true → ∀ a, H a = none → ts a cls d { nx := fun σ' H' => D.nx (σ'.set i none) H', rt := D.rt, bk := fun σ' H' => D.bk (σ'.set i none) H', ct := fun σ' H' => D.ct (σ'.set i none) H' } (σ.set i (some (.ref a))) H) ∧ (b = false → wAll K i Wo D r cls d σ H)
inductive Hds (X : Cx) (n : Str) : List ExceptHandler → List Cl → Prop
  | nil : Hds X n [] []
  | cons {x : Str} {c : Value} {ts : Addr → Value → Option Addr → TS} {b0 : Stmt} {su : List Stmt} {np ps : Pos} {hds : List ExceptHandler} {l : List Cl} (hc : Names X x c)
      (hs : ∀ (a : Addr) (oe : Obj) (cls : Value) (d : Option Addr) (pn : List (Addr × Obj)), Zc cls d oe → (∃ vs, oe.data = .fields vs) → PSs (X.suite a ((a, oe) :: pn)) (b0 :: su) (ts a cls d)) (r : Hds X n hds l) : Hds X n (.ExceptHandler (some (.Name x np)) (some n) (b0 :: su) ps :: hds) ((c, ts) :: l)
section
variable {X : Cx} {n : Str} {i : Nat} {body : List Stmt} {h0 : ExceptHandler} {hds : List ExceptHandler} {l : List Cl} {pos : Pos} {tb : WX → TS} {Wo : WX}
theorem ps_try_all (hst : X.stack = X.env :: X.outer) (hf : X.env.frame = some X.env.locals) (hN : X.N.Nodup) (hi : X.N[i]? = some n) (hln : X.env.kindOf n = some .local) (tk : Takes X Wo)
    (hb : ∀ (W : WX) (pn : List (Addr × Obj)) (xe : Value → Shared → Prop), Takes (X.tr pn xe) W → PassesOwn (model X.prog X.w) X.A X.env xe → PSs (X.tr pn xe) body (tb W)) (hh : Hds X n (h0 :: hds) l) :
    PS X (.Try body (h0 :: hds) [] [] pos) (fun D σ H => tb (wAll X.K i Wo D l) D σ H) := by
  constructor
  intro pn0 s σ H D I h
  have ok := I.ok
  have frames : X.A.frames = some (X.env :: X.outer) := ok.frames.trans (congrArg some hst)
  have locN : Loc X.env.scope n := .inl hln
  refine wpAny_Try_except ?_
  refine wpAny_mono ((hb (wAll X.K i Wo D l) (X.pn ++ pn0) (fun er t1 => wpAny (model X.prog X.w) X.A (noteFrame er X.env) (fun _ t2 => wpAny (model X.prog X.w) X.A (setFlight er none) (fun _ t3 =>
    wpAny (model X.prog X.w) X.A (handleBy er X.env (h0 :: hds)) (SP X pn0 D) X.xe t3) X.xe t2) X.xe t1) (fun u s2 air => ?_) PassesOwn.looking).run [] s σ H D (I.toTry _) h) (fun fl t1 done => ?_) (fun er t1 z => z)
  · obtain ⟨a, B, sI, pn1, σ1, H1, cls, d, rfl, J0, nb, up, sky, na, os, ag, w⟩ := air
    have J : Inv X pn0 σ1 H1 sI := J0.ofTry ok
    have sky2 : Sky B (X.env :: X.outer) a (Zc cls d) X.env.locals s2.heap := hst ▸ sky
    show wpAny (model X.prog X.w) X.A (noteFrame (.ref a) X.env) _ _ _
    refine Sky.land Zc.steady frames hf sky2 fun g3 fly up3 => ?_
    have J3 : Inv X pn0 σ1 H1 { s2 with heap := g3 } := J.landed nb fly.1 (up.trans up3) os ag
    obtain ⟨o3, w3, at3, z3, d3⟩ := fly.there
    have apart : a ∉ frs (X.env :: X.outer) := fun hm => by
      obtain ⟨_, o', e', nf⟩ := fly.2.2.1.mem hm
      rw [at3] at e'
      cases e'
      exact nf _ d3
    have nL : a ≠ X.env.locals := fun z => apart (List.mem_filterMap.mpr ⟨X.env, List.mem_cons_self, by rw [hf, z]⟩)
    have nF : a ∉ X.fs := fun hm => by
      obtain ⟨ev, hev, q⟩ := List.mem_filterMap.mp hm
      exact apart (List.mem_filterMap.mpr ⟨ev, List.mem_cons_of_mem _ hev, q⟩)
    have S3 := J3.suite at3 d3 na nL nF
    have go : ∀ {hs' : List ExceptHandler} {l' : List Cl}, Hds X n hs' l' → wAll X.K i Wo D l' cls d σ1 H1 → wpAny (model X.prog X.w) X.A (handleBy (.ref a) X.env hs') (SP X pn0 D) X.xe { s2 with heap := g3 } := by
      intro hs' l' hk
      induction hk with
      | nil =>
        intro w
        refine wpAny_handleBy_nil ?_
        obtain ⟨k1, k2, k3, oe, vs, T, oT, ts', he, hz, hd, hone, hr⟩ := id fly
        unfold PySem.passOn
        refine wpAny_bind (wpAny_field he hd hone ?_)
        rw [if_neg (show ¬ ((Value.ref T == Value.none) = true) by simp)]
        have away : wpAny (model X.prog X.w) X.A (setFlight (.ref a) X.env.frame) (fun _ t4 => wpAny (model X.prog X.w) X.A (throw (.ref a) : Sem Flow) (SP X pn0 D) X.xe t4) X.xe { s2 with heap := g3 } := by
          rw [hf]
          refine HandSPX.setFlight_upZ fly fun g4 hg4 up4 => wpAny_throw (tk _ _ ?_)
          exact ⟨a, B, sI, pn0, σ1, H1, cls, d, rfl, J, nb, (up.trans up3).trans up4, .inr (.inr (hst.symm ▸ hg4)), na, os, ag, w⟩
        first
          | exact wpAny_bind (wpAny_pure (wpAny_bind away))
          | exact wpAny_bind away
      | @cons x c ts b0 su np ps hds2 l2 hc hsu r ih =>
        intro w
        obtain ⟨b, hb1, hyes, hno⟩ := w
        refine wpAny_handleBy_cons (codeAny_handlers_test ?_) (by intro q; cases q)
        have tyA : PySem.W.Looks (model X.prog X.w) g3 (typeOf (.ref a)) cls := fun A Q E t k q => wpAny_typeOf_ref (k _ _ at3) (z3.1.symm ▸ q)
        have looks := PySem.W.exm_one (M := model X.prog X.w) (J3.kIn) tyA hb1
        have test : ∀ {Q E : Value → Shared → Prop}, Q c { s2 with heap := g3 } → wpAny (model X.prog X.w) (X.A.mark (some (.ref a))) (eval (.Name x np) X.env) Q E { s2 with heap := g3 } := by
          intro Q E q
          rcases hc with ⟨hg, hdbg, hm | ⟨hm, hv, hnn⟩⟩
          · exact ld_glob (X := X.suite a ((a, o3) :: (X.pn ++ pn0))) S3 hg hm q hdbg
          · exact ld_blt (X := X.suite a ((a, o3) :: (X.pn ++ pn0))) S3 hg hm hv q hnn hdbg
        refine test (looks.here ?_)
        cases b with
        | false => exact ih (hno rfl)
        | true =>
          refine codeAny_handlers_suite_as ?_
          refine HandSPX.lands_againZ fly fun g4 fly4 up4 => ?_
          have J4 : Inv X pn0 σ1 H1 { s2 with heap := g4 } := J.landed nb fly4.1 ((up.trans up3).trans up4) os ag
          obtain ⟨o4, w4, at4, z4, d4⟩ := fly4.there
          have S4 := J4.suite at4 d4 na nL nF
          refine store_ok (X := X.suite a ((a, o4) :: (X.pn ++ pn0))) (v := .ref a) S4 hN hi locN rfl (fun t5 S5 => ?_) (.inr hln)
          refine wpAny_mono ((hsu a o4 cls d (X.pn ++ pn0) z4 ⟨_, d4⟩).run [] t5 _ H1 _ S5 (hyes rfl a na)) (fun fl t6 done => ?_) (fun _ _ z => z.elim)
          have tidy : ∀ {σ6 : L2.St} {H6 : Hp} {Q : Shared → Prop}, Inv (X.suite a ((a, o4) :: (X.pn ++ pn0))) [] σ6 H6 t6 → (∀ t7, Inv X pn0 (σ6.set i none) H6 t7 → Q t7) →
              wpAny (model X.prog X.w) X.A (do bindName X.env n .none; unbindBehindTheSuite X.env n ps) (fun _ t7 => Q t7) X.xe t6 := fun {σ6 H6 Q} S6 hq => gone_ok (S6.unsuite ok) hN hi hln hq
          match fl, done with
          | .next, ⟨σ6, H6, S6, q6⟩ => exact tidy S6 fun t7 J7 => ⟨_, _, J7, q6⟩
          | .brk, ⟨σ6, H6, S6, q6⟩ => exact tidy S6 fun t7 J7 => ⟨_, _, J7, q6⟩
          | .cont, ⟨σ6, H6, S6, q6⟩ => exact tidy S6 fun t7 J7 => ⟨_, _, J7, q6⟩
          | .ret u, ⟨v6, σ6, H6, S6, r6, q6⟩ => exact tidy S6 fun t7 J7 => ⟨_, _, _, J7, r6, q6⟩
    exact go hh w
  · match fl, done with
    | .next, ⟨σ2, H2, J2, q⟩ => exact wpAny_execs_nil ⟨σ2, H2, J2.ofTry ok, q⟩
    | .brk, ⟨σ2, H2, J2, q⟩ => exact ⟨σ2, H2, J2.ofTry ok, q⟩
    | .cont, ⟨σ2, H2, J2, q⟩ => exact ⟨σ2, H2, J2.ofTry ok, q⟩
    | .ret u, ⟨v, σ2, H2, J2, r, q⟩ => exact ⟨v, σ2, H2, J2.ofTry ok, r, q⟩
end
end Ft
set_option Elab.async false
set_option linter.all false
set_option maxRecDepth 100000
set_option maxHeartbeats 1000000
set_option exponentiation.threshold 100000
namespace K34
open PySem PySem.Spec PyProof.Rows L2 Fa Fb
abbrev sTld : Stmt := top 69
theorem scTld : FnScope ["_law_way", "_law_things", "e", "_law_one", "_law_two", "_law_three", "_law_four"] ["_law_way", "_law_things"] (defScope sTld) := ⟨rfl, rfl, rfl, by decide +kernel, rfl, by decide +kernel, by decide +kernel⟩

def tsT (C : Addr) (nm fld : Str) : Addr → Value → Option Addr → TS := fun a cls d => tRet (tLst (tCons (tC (.str nm)) (tCons (Xb.tByX C fld a cls d (tVar 2)) tNil)))
def clT (K : PySem.W.Frag) : List Ft.Cl := [(.ref (CIS K), tsT (CIS K) "sheet" "value"), (.ref (CUn K), tsT (CUn K) "cue" "label"), (.ref (CNm K), tsT (CNm K) "name" "value"), (.ref (CDp K), tsT (CDp K) "twice" "label"), (.ref (CU K), tsT (CU K) "unit" "value"), (.ref (CV K), tsT (CV K) "amount" "value"), (.ref (CTm K), tsT (CTm K) "many" "most")]
/-- no class of these is under an earlier one -/
def nots (K : PySem.W.Frag) : List (Addr × Addr) := [(CUn K, CIS K), (CNm K, CIS K), (CNm K, CUn K), (CDp K, CIS K), (CDp K, CUn K), (CDp K, CNm K), (CU K, CIS K), (CU K, CUn K), (CU K, CNm K), (CU K, CDp K), (CV K, CIS K), (CV K, CUn K), (CV K, CNm K), (CV K, CDp K), (CV K, CU K), (CTm K, CIS K), (CTm K, CUn K), (CTm K, CNm K), (CTm K, CDp K), (CTm K, CU K), (CTm K, CV K)]
def NotX (K : PySem.W.Frag) : Prop := ∀ p ∈ nots K, PySem.W.exmOne K (.ref p.1) (.ref p.2) = some false
/-- the answer: the name and the thing -/
abbrev Rt (H : Hp) (Q : VK) (nm : Str) (y : V) : Prop := ∀ l H', Same H H' → H' l = some (.lst [.str nm, y]) → H l = none → Q (.ref l) H'
def TlA (K : PySem.W.Frag) (H : Hp) (gs : List Cu) (m1 : Nat) (x2 x3 x4 : V) (Q : VK) : Prop := (NoSheet K H x2 ∧ Rt H Q "sheet" x2) ∨ ∃ o2 m2 H2 hs, x2 = .ref o2 ∧ ShAt K m2 H2 H o2 hs ∧ ((Tx K H x3 false ∧ Rt H Q "cue" x3) ∨ ∃ z, x3 = .str z ∧ ((M04.num (M04.all (gs.map cv)).nums z = none ∧ Rt H Q "cue" x3) ∨ ((M04.num (M04.all (gs.map cv)).nums z).isSome = true ∧
  ((Tx K H x4 false ∧ Rt H Q "name" x4) ∨ ∃ pf : Str, x4 = .str pf ∧ pf.length ≤ 100000 ∧ ((isName pf = false ∧ Rt H Q "name" x4) ∨ (isName pf = true ∧ GoodS (gs.map cv) ∧ GoodS (hs.map cv) ∧ gs.length + hs.length ≤ 14 ∧ m1 ≤ 30 ∧ m2 ≤ 30 ∧ ∀ r H', Same H H' → AnsV H' r (ansT (M34.told isName [] (gs.map cv ++ (hs.map cv).map (hung z pf))) (gs.map cv ++ (hs.map cv).map (hung z pf))) → H r = none → Q (.ref r) H'))))))
def TlS (K : PySem.W.Frag) (H : Hp) (x2 x3 : V) (Q : VK) : Prop := (Tx K H x2 false ∧ Rt H Q "unit" x2) ∨ ∃ z, x2 = .str z ∧ ((isUnit z = false ∧ Rt H Q "unit" x2) ∨ (isUnit z = true ∧ ((Bad K H x3 ∧ Rt H Q "amount" x3) ∨ ∃ t : Int, x3 = .int t ∧ t ≤ 0 ∧ -2 < t ∧ Rt H Q "amount" x3)))
def spTld (K : PySem.W.Frag) : Sp := fun vs H Q _ => ∃ (way : Int) (th : Addr) (x1 x2 x3 x4 : V), vs = [.int way, .ref th] ∧ H th = some (.lst [x1, x2, x3, x4]) ∧ ((NoSheet K H x1 ∧ Rt H Q "sheet" x1) ∨ ∃ o m1 H1 gs, x1 = .ref o ∧ ShAt K m1 H1 H o gs ∧ ((way = 0 ∧ TlA K H gs m1 x2 x3 x4 Q) ∨ (way = 1 ∧ TlS K H x2 x3 Q)))
section
variable {P : Program} {w : World} {K : PySem.W.Frag} {mg : Str → Option Value} {base : Heap} {f f1 f2 f3 f4 f5 fIS fUC fNM fDP fIU fIA fTM : Addr} {fd fd1 fd2 fd3 fd4 fd5 : FuncData} {qIS tIS qUC tUC qNM tNM qDP tDP qIU tIU qIA tIA qTM tTM : Str}
theorem ok_tld (F : FnP K "_law_told" sTld f fd) (PL : Fn P w K mg base "_law_plain" 3 ["_law_sheet"] (spPln K) f1 fd1) (AT : Fn P w K mg base "attached" 12 ["sheet", "other", "at", "prefix"] (spAtt K) f2 fd2) (ST : Fn P w K mg base "stretched" 12 ["sheet", "unit", "by"] (spStr K) f3 fd3)
    (EX : Fn P w K mg base "exchanged" 12 ["sheet"] (spMap K (M34.gc M34.sw fun _ => 1)) f4 fd4) (RV : Fn P w K mg base "reversed_sheet" 12 ["sheet"] (spMap K (M34.gc id fun _ => -1)) f5 fd5)
    (gIS : mg "InvalidSheet" = some (.ref (CIS K))) (gUC : mg "UnknownCue" = some (.ref (CUn K))) (gNM : mg "InvalidName" = some (.ref (CNm K))) (gDP : mg "Duplicate" = some (.ref (CDp K))) (gIU : mg "InvalidUnit" = some (.ref (CU K))) (gIA : mg "InvalidAmount" = some (.ref (CV K))) (gTM : mg "TooMany" = some (.ref (CTm K)))
    (XIS : Xb.Txt P.main.file K qIS "value" tIS (CIS K) fIS) (XUC : Xk.Txt P.main.file K qUC "label" tUC (CUn K) fUC) (XNM : Xb.Txt P.main.file K qNM "value" tNM (CNm K) fNM) (XDP : Xb.Txt P.main.file K qDP "label" tDP (CDp K) fDP) (XIU : Xb.Txt P.main.file K qIU "value" tIU (CU K) fIU) (XIA : Xb.Txt P.main.file K qIA "value" tIA (CV K) fIA) (XTM : Xl.Txt P.main.file K qTM "most" tTM (CTm K) fTM) (nx : NotX K) : FnOk P w K mg base (L2.CX P w) 13 f fd ["_law_way", "_law_things"] (spTld K) := by
  refine F.ok scTld (fun vs H Q E h => ?_) (fun cdv A outer s H vs Q E hr h => ?_)
  · obtain ⟨way, th, x1, x2, x3, x4, rfl, _⟩ := h
    rfl
  · obtain ⟨way, th, x1, x2, x3, x4, rfl, hth, c⟩ := h
    have hr3 := hr.mono (show 3 ≤ 12 by decide)
    have hr12 := hr.mono (show 12 ≤ 12 by decide)
    refine ⟨_, (pss_cons (ps_asg (pv 1) (pg_lst (by rfl) (pgs_cons (pg_name (i := 3) scTld.nd rfl (Or.inl rfl)) (pgs_cons (pg_name (i := 4) scTld.nd rfl (Or.inl rfl)) (pgs_cons (pg_name (i := 5) scTld.nd rfl (Or.inl rfl)) (pgs_cons (pg_name (i := 6) scTld.nd rfl (Or.inl rfl)) pgs_nil)))))) (pss_one (Ft.ps_try_all (n := "e") (i := 2) (l := clT K) (Wo := fun cls d _ H => E cls d H) rfl rfl scTld.nd rfl rfl (takes_of rfl rfl rfl rfl)
        (fun W pn xe tk _ => pss_cons (ps_if (pt_cmpR op_eq (pv 0) pe_int (nomark _)) (pss_one (ps_ret (pe_lst (pa_cons pe_str (pa_cons (pe_call PL.ok hr3 rfl PL.g PL.k PL.b .nil passL (pa_cons (pe_callS AT.ok hr12 rfl AT.g AT.k AT.b (fun σ => passAt tk σ) (pa_cons (pv 3) (pa_cons (pv 4) (pa_cons (pv 5) (pa_cons (pv 6) pa_nil))))) pa_nil)) pa_nil))))) pss_nil) (pss_cons (ps_if (pt_cmpR op_eq (pv 0) pe_int (nomark _)) (pss_one (ps_ret (pe_lst (pa_cons pe_str (pa_cons (pe_call PL.ok hr3 rfl PL.g PL.k PL.b .nil passL (pa_cons (pe_callS ST.ok hr12 rfl ST.g ST.k ST.b (fun σ => passAt tk σ) (pa_cons (pv 3) (pa_cons (pv 4) (pa_cons (pv 5) pa_nil)))) pa_nil)) pa_nil))))) pss_nil) (pss_one (ps_ret (pe_lst (pa_cons pe_str (pa_cons (pe_call PL.ok hr3 rfl PL.g PL.k PL.b .nil passL (pa_cons (pe_ifExp (pt_cmpR op_eq (pv 0) pe_int (nomark _)) (pe_callS EX.ok hr12 rfl EX.g EX.k EX.b (fun σ => passAt tk σ) (pa_cons (pv 3) pa_nil)) (pe_callS RV.ok hr12 rfl RV.g RV.k RV.b (fun σ => passAt tk σ) (pa_cons (pv 3) pa_nil))) pa_nil)) pa_nil)))))))
        (.cons ⟨rfl, by decide, Or.inl gIS⟩ (fun a oe cls d pn hz hf => pss_one (ps_ret (pe_lst (pa_cons pe_str (pa_cons (Xb.pe_byX XIS hz hf (pv 2)) pa_nil)))))
          (.cons ⟨rfl, by decide, Or.inl gUC⟩ (fun a oe cls d pn hz hf => pss_one (ps_ret (pe_lst (pa_cons pe_str (pa_cons (Xk.pe_byX XUC hz hf (pv 2)) pa_nil)))))
          (.cons ⟨rfl, by decide, Or.inl gNM⟩ (fun a oe cls d pn hz hf => pss_one (ps_ret (pe_lst (pa_cons pe_str (pa_cons (Xb.pe_byX XNM hz hf (pv 2)) pa_nil)))))
          (.cons ⟨rfl, by decide, Or.inl gDP⟩ (fun a oe cls d pn hz hf => pss_one (ps_ret (pe_lst (pa_cons pe_str (pa_cons (Xb.pe_byX XDP hz hf (pv 2)) pa_nil)))))
          (.cons ⟨rfl, by decide, Or.inl gIU⟩ (fun a oe cls d pn hz hf => pss_one (ps_ret (pe_lst (pa_cons pe_str (pa_cons (Xb.pe_byX XIU hz hf (pv 2)) pa_nil)))))
          (.cons ⟨rfl, by decide, Or.inl gIA⟩ (fun a oe cls d pn hz hf => pss_one (ps_ret (pe_lst (pa_cons pe_str (pa_cons (Xb.pe_byX XIA hz hf (pv 2)) pa_nil)))))
          (.cons ⟨rfl, by decide, Or.inl gTM⟩ (fun a oe cls d pn hz hf => pss_one (ps_ret (pe_lst (pa_cons pe_str (pa_cons (Xl.pe_byX XTM hz hf (pv 2)) pa_nil)))))
          .nil)))))))))), ?_⟩
    have suite : ∀ (C : Addr) (nm fld : Str) (bad : V) (a d : Addr) (v0 v1 v2 v3 v4 v5 : V) (H1 : Hp) (D : Ends), D.rt = Q → Same H H1 → H1 d = none → Rt H Q nm bad →
        tsT C nm fld a (.ref C) (some d) D [some v0, some v1, some (.ref a), some v2, some v3, some v4, some v5] (upd H1 d (.xd [(fld, bad)])) := by
      intro C nm fld bad a d v0 v1 v2 v3 v4 v5 H1 D hD s1 hd k
      refine ⟨_, rfl, rfl, rfl, d, bad, rfl, upd_same, by show 2 ≤ sizeLine; decide, fun l hl => ?_⟩
      rw [hD]
      exact k l _ (s1.trans ((Same.upd hd).trans (Same.upd hl))) upd_same (none_of (s1.trans (Same.upd hd)) hl)
    have er0 : ∀ (bad : V) (v0 v1 v2 v3 v4 v5 : V) (D : Ends), D.rt = Q → Rt H Q "sheet" bad → ∀ J, Same H J → Err (CIS K) bad J (WE (Ft.wAll K 2 (fun cls d _ H => E cls d H) D (clT K)) [some v0, some v1, none, some v2, some v3, some v4, some v5]) := fun bad v0 v1 v2 v3 v4 v5 D hD k J sJ d hd =>
      ⟨true, XIS.te, fun _ a _ => suite (CIS K) "sheet" "value" bad a d v0 v1 v2 v3 v4 v5 J _ hD sJ hd k, fun z => by cases z⟩
    have er1 : ∀ (bad : V) (v0 v1 v2 v3 v4 v5 : V) (D : Ends), D.rt = Q → Rt H Q "cue" bad → ∀ J, Same H J → ErrL (CUn K) bad J (WE (Ft.wAll K 2 (fun cls d _ H => E cls d H) D (clT K)) [some v0, some v1, none, some v2, some v3, some v4, some v5]) := fun bad v0 v1 v2 v3 v4 v5 D hD k J sJ d hd =>
      ⟨false, nx (CUn K, CIS K) (by simp [nots]), (fun z => by cases z), fun _ => ⟨true, XUC.te, fun _ a _ => suite (CUn K) "cue" "label" bad a d v0 v1 v2 v3 v4 v5 J _ hD sJ hd k, fun z => by cases z⟩⟩
    have er2 : ∀ (bad : V) (v0 v1 v2 v3 v4 v5 : V) (D : Ends), D.rt = Q → Rt H Q "name" bad → ∀ J, Same H J → Err (CNm K) bad J (WE (Ft.wAll K 2 (fun cls d _ H => E cls d H) D (clT K)) [some v0, some v1, none, some v2, some v3, some v4, some v5]) := fun bad v0 v1 v2 v3 v4 v5 D hD k J sJ d hd =>
      ⟨false, nx (CNm K, CIS K) (by simp [nots]), (fun z => by cases z), fun _ => ⟨false, nx (CNm K, CUn K) (by simp [nots]), (fun z => by cases z), fun _ => ⟨true, XNM.te, fun _ a _ => suite (CNm K) "name" "value" bad a d v0 v1 v2 v3 v4 v5 J _ hD sJ hd k, fun z => by cases z⟩⟩⟩
    have er3 : ∀ (bad : V) (v0 v1 v2 v3 v4 v5 : V) (D : Ends), D.rt = Q → Rt H Q "twice" bad → ∀ J, Same H J → ErrL (CDp K) bad J (WE (Ft.wAll K 2 (fun cls d _ H => E cls d H) D (clT K)) [some v0, some v1, none, some v2, some v3, some v4, some v5]) := fun bad v0 v1 v2 v3 v4 v5 D hD k J sJ d hd =>
      ⟨false, nx (CDp K, CIS K) (by simp [nots]), (fun z => by cases z), fun _ => ⟨false, nx (CDp K, CUn K) (by simp [nots]), (fun z => by cases z), fun _ => ⟨false, nx (CDp K, CNm K) (by simp [nots]), (fun z => by cases z), fun _ => ⟨true, XDP.te, fun _ a _ => suite (CDp K) "twice" "label" bad a d v0 v1 v2 v3 v4 v5 J _ hD sJ hd k, fun z => by cases z⟩⟩⟩⟩
    have er4 : ∀ (bad : V) (v0 v1 v2 v3 v4 v5 : V) (D : Ends), D.rt = Q → Rt H Q "unit" bad → ∀ J, Same H J → Err (CU K) bad J (WE (Ft.wAll K 2 (fun cls d _ H => E cls d H) D (clT K)) [some v0, some v1, none, some v2, some v3, some v4, some v5]) := fun bad v0 v1 v2 v3 v4 v5 D hD k J sJ d hd =>
      ⟨false, nx (CU K, CIS K) (by simp [nots]), (fun z => by cases z), fun _ => ⟨false, nx (CU K, CUn K) (by simp [nots]), (fun z => by cases z), fun _ => ⟨false, nx (CU K, CNm K) (by simp [nots]), (fun z => by cases z), fun _ => ⟨false, nx (CU K, CDp K) (by simp [nots]), (fun z => by cases z), fun _ => ⟨true, XIU.te, fun _ a _ => suite (CU K) "unit" "value" bad a d v0 v1 v2 v3 v4 v5 J _ hD sJ hd k, fun z => by cases z⟩⟩⟩⟩⟩
    have er5 : ∀ (bad : V) (v0 v1 v2 v3 v4 v5 : V) (D : Ends), D.rt = Q → Rt H Q "amount" bad → ∀ J, Same H J → Err (CV K) bad J (WE (Ft.wAll K 2 (fun cls d _ H => E cls d H) D (clT K)) [some v0, some v1, none, some v2, some v3, some v4, some v5]) := fun bad v0 v1 v2 v3 v4 v5 D hD k J sJ d hd =>
      ⟨false, nx (CV K, CIS K) (by simp [nots]), (fun z => by cases z), fun _ => ⟨false, nx (CV K, CUn K) (by simp [nots]), (fun z => by cases z), fun _ => ⟨false, nx (CV K, CNm K) (by simp [nots]), (fun z => by cases z), fun _ => ⟨false, nx (CV K, CDp K) (by simp [nots]), (fun z => by cases z), fun _ => ⟨false, nx (CV K, CU K) (by simp [nots]), (fun z => by cases z), fun _ => ⟨true, XIA.te, fun _ a _ => suite (CV K) "amount" "value" bad a d v0 v1 v2 v3 v4 v5 J _ hD sJ hd k, fun z => by cases z⟩⟩⟩⟩⟩⟩
    have er6 : ∀ (bad : V) (v0 v1 v2 v3 v4 v5 : V) (D : Ends), D.rt = Q → Rt H Q "many" bad → ∀ J, Same H J → ErrM (CTm K) bad J (WE (Ft.wAll K 2 (fun cls d _ H => E cls d H) D (clT K)) [some v0, some v1, none, some v2, some v3, some v4, some v5]) := fun bad v0 v1 v2 v3 v4 v5 D hD k J sJ d hd =>
      ⟨false, nx (CTm K, CIS K) (by simp [nots]), (fun z => by cases z), fun _ => ⟨false, nx (CTm K, CUn K) (by simp [nots]), (fun z => by cases z), fun _ => ⟨false, nx (CTm K, CNm K) (by simp [nots]), (fun z => by cases z), fun _ => ⟨false, nx (CTm K, CDp K) (by simp [nots]), (fun z => by cases z), fun _ => ⟨false, nx (CTm K, CU K) (by simp [nots]), (fun z => by cases z), fun _ => ⟨false, nx (CTm K, CV K) (by simp [nots]), (fun z => by cases z), fun _ => ⟨true, XTM.te, fun _ a _ => suite (CTm K) "many" "most" bad a d v0 v1 v2 v3 v4 v5 J _ hD sJ hd k, fun z => by cases z⟩⟩⟩⟩⟩⟩⟩
    refine ⟨_, rfl, th, _, rfl, SqL.of hth, rfl, _, _, rfl, _, _, rfl, _, _, rfl, _, _, rfl, rfl, ?_⟩
    refine ⟨_, rfl, rfl, _, rfl, ?_⟩
    rcases c with ⟨ns, k⟩ | ⟨o, m1, H1, gs, rfl, sh, c⟩
    · by_cases w0 : way = 0
      · refine if_true_of (decide_eq_true (congrArg V.int w0)) ?_
        exact ⟨_, rfl, _, rfl, _, rfl, _, rfl, _, _, _, _, rfl, .inl ⟨ns, er0 _ _ _ _ _ _ _ _ rfl k _ (Same.refl _)⟩⟩
      refine if_false_of (decide_eq_false fun e => w0 (V.int.inj e)) ⟨_, rfl, rfl, _, rfl, ?_⟩
      by_cases w1 : way = 1
      · refine if_true_of (decide_eq_true (congrArg V.int w1)) ?_
        exact ⟨_, rfl, _, rfl, _, rfl, _, _, _, rfl, .inl ⟨ns, er0 _ _ _ _ _ _ _ _ rfl k _ (Same.refl _)⟩⟩
      refine if_false_of (decide_eq_false fun e => w1 (V.int.inj e)) ⟨_, rfl, rfl, _, rfl, ?_⟩
      by_cases w2 : way = 2
      · exact if_true_of (decide_eq_true (congrArg V.int w2)) ⟨_, rfl, _, rfl, .inl ⟨ns, er0 _ _ _ _ _ _ _ _ rfl k _ (Same.refl _)⟩⟩
      · exact if_false_of (decide_eq_false fun e => w2 (V.int.inj e)) ⟨_, rfl, _, rfl, .inl ⟨ns, er0 _ _ _ _ _ _ _ _ rfl k _ (Same.refl _)⟩⟩
    rcases c with ⟨rfl, c⟩ | ⟨rfl, c⟩
    · refine if_true_of (by rfl) ?_
      refine ⟨_, rfl, _, rfl, _, rfl, _, rfl, _, _, _, _, rfl, .inr ⟨o, m1, H1, gs, rfl, sh, ?_⟩⟩
      rcases c with ⟨ns, k⟩ | ⟨o2, m2, H2, hs, rfl, sh2, c⟩
      · exact .inl ⟨ns, er0 _ _ _ _ _ _ _ _ rfl k _ (Same.refl _)⟩
      refine .inr ⟨o2, m2, H2, hs, rfl, sh2, ?_⟩
      rcases c with ⟨tx, k⟩ | ⟨z, rfl, c⟩
      · exact .inl ⟨tx, er1 _ _ _ _ _ _ _ _ rfl k _ (Same.refl _)⟩
      refine .inr ⟨z, rfl, ?_⟩
      rcases c with ⟨hz, k⟩ | ⟨hz, c⟩
      · exact .inl ⟨hz, er1 _ _ _ _ _ _ _ _ rfl k _ (Same.refl _)⟩
      refine .inr ⟨hz, ?_⟩
      rcases c with ⟨tx, k⟩ | ⟨pf, rfl, pl, c⟩
      · exact .inl ⟨tx, er2 _ _ _ _ _ _ _ _ rfl k _ (Same.refl _)⟩
      refine .inr ⟨pf, rfl, pl, ?_⟩
      rcases c with ⟨hp, k⟩ | ⟨hp, g1, g2, n14, hm1, hm2, k⟩
      · exact .inl ⟨hp, er2 _ _ _ _ _ _ _ _ rfl k⟩
      refine .inr ⟨hp, g1, g2, by omega, 30, hm1, hm2, by decide, ?_⟩
      unfold AttP
      cases ht : M34.told isName [] (gs.map cv ++ (hs.map cv).map (hung z pf)) with
      | some b =>
        rw [ht] at k
        cases b with
        | name y => exact er2 _ _ _ _ _ _ _ _ rfl fun r H' s' e' n' => k r H' s' e' n'
        | dup y => exact er3 _ _ _ _ _ _ _ _ rfl fun r H' s' e' n' => k r H' s' e' n'
        | unk y => exact er1 _ _ _ _ _ _ _ _ rfl fun r H' s' e' n' => k r H' s' e' n'
      | none =>
        rw [ht] at k
        unfold ansT at k
        by_cases c8 : 8 < (M04.all (gs.map cv ++ (hs.map cv).map (hung z pf))).rows.length
        · simp only [if_pos c8] at k ⊢
          exact er6 _ _ _ _ _ _ _ _ rfl fun r H' s' e' n' => k r H' s' e' n'
        · simp only [if_neg c8] at k ⊢
          intro x H' xs s' shx evx
          have gdx : GoodS (xs.map cv) := by
            rw [evx]
            refine ⟨M34.told_good ht, fun c hc => ⟨told_names ht c hc, ?_⟩⟩
            rcases List.mem_append.mp hc with hc | hc
            · exact (g1.2 c hc).2
            · obtain ⟨d, hd, rfl⟩ := List.mem_map.mp hc
              exact (g2.2 d hd).2
          have lx : xs.length ≤ 14 := by
            have := congrArg List.length evx
            rw [List.length_map, List.length_append, List.length_map, List.length_map, List.length_map] at this
            omega
          refine ⟨_, _, _, _, rfl, shx, pln_str gdx, lx, fun r ls H3 s3 lc e3 r0 => ?_⟩
          refine ⟨by show 2 ≤ sizeLine; decide, fun l hl => ?_⟩
          have s4 := Same.upd (o := .lst [.str "cues", .ref r]) hl
          exact k l _ (s'.trans (s3.trans s4)) ⟨r, ls, 30, upd_same, lc.same s4, Nat.le_refl _, e3.trans evx⟩ (none_of (s'.trans s3) hl)
    · refine if_false_of (by rfl) ⟨_, rfl, rfl, _, rfl, if_true_of (by rfl) ?_⟩
      refine ⟨_, rfl, _, rfl, _, rfl, _, _, _, rfl, .inr ⟨o, m1, H1, gs, rfl, sh, ?_⟩⟩
      rcases c with ⟨tx, k⟩ | ⟨z, rfl, c⟩
      · exact .inl ⟨tx, er4 _ _ _ _ _ _ _ _ rfl k _ (Same.refl _)⟩
      refine .inr ⟨z, rfl, ?_⟩
      rcases c with ⟨hz, k⟩ | ⟨hz, c⟩
      · exact .inl ⟨hz, er4 _ _ _ _ _ _ _ _ rfl k _ (Same.refl _)⟩
      refine .inr ⟨hz, ?_⟩
      rcases c with ⟨hb, k⟩ | ⟨t, rfl, t0, t1, k⟩
      · exact .inl ⟨hb, er5 _ _ _ _ _ _ _ _ rfl k _ (Same.refl _)⟩
      · exact .inr ⟨t, 1, 2, .inr ⟨rfl, rfl, by show t.natAbs < 4; omega, by decide⟩, by decide, .inl ⟨t0, er5 _ _ _ _ _ _ _ _ rfl k⟩⟩
end
end K34
set_option Elab.async false
set_option linter.all false
set_option maxRecDepth 100000
set_option maxHeartbeats 4000000
/-! try whose error meets one of the first clauses «except A as e»; what stands behind them is of no account. -/
namespace Gg
open PySem PySem.Spec PyProof.Rows L2
abbrev Cl : Type := Value × (Addr → Value → Option Addr → TS)
/-- what the clauses wish, slot i the name of all of them -/
def wAll (K : PySem.W.Frag) (i : Nat) (D : Ends) : List Cl → WX
  | [] => fun _ _ _ _ => False
  | (c, ts) :: r => fun cls d σ H => ∃ b, PySem.W.exmOne K cls c = some b ∧
      (b = true → ∀ a, H a = none → ts a cls d { nx := fun σ' H' => D.nx (σ'.set i none) H', rt := D.rt, bk := fun σ' H' => D.bk (σ'.set i none) H', ct := fun σ' H' => D.ct (σ'.set i none) H' } (σ.set i (some (.ref a))) H) ∧ (b = false → wAll K i D r cls d σ H)
inductive Hds (X : Cx) (n : Str) : List ExceptHandler → List Cl → Prop
  | nil {hds : List ExceptHandler} : Hds X n hds []
  | cons {x : Str} {c : Value} {ts : Addr → Value → Option Addr → TS} {b0 : Stmt} {su : List Stmt} {np ps : Pos} {hds : List ExceptHandler} {l : List Cl} (hc : Names X x c)
      (hs : ∀ (a : Addr) (oe : Obj) (cls : Value) (d : Option Addr) (pn : List (Addr × Obj)), Zc cls d oe → (∃ vs, oe.data = .fields vs) → PSs (X.suite a ((a, oe) :: pn)) (b0 :: su) (ts a cls d)) (r : Hds X n hds l) : Hds X n (.ExceptHandler (some (.Name x np)) (some n) (b0 :: su) ps :: hds) ((c, ts) :: l)
section
variable {X : Cx} {n : Str} {i : Nat} {body : List Stmt} {h0 : ExceptHandler} {hds : List ExceptHandler} {l : List Cl} {pos : Pos} {tb : WX → TS}
theorem ps_try_all (hst : X.stack = X.env :: X.outer) (hf : X.env.frame = some X.env.locals) (hN : X.N.Nodup) (hi : X.N[i]? = some n) (hln : X.env.kindOf n = some .local)
    (hb : ∀ (W : WX) (pn : List (Addr × Obj)) (xe : Value → Shared → Prop), Takes (X.tr pn xe) W → PassesOwn (model X.prog X.w) X.A X.env xe → PSs (X.tr pn xe) body (tb W)) (hh : Hds X n (h0 :: hds) l) :
    PS X (.Try body (h0 :: hds) [] [] pos) (fun D σ H => tb (wAll X.K i D l) D σ H) := by
  constructor
  intro pn0 s σ H D I h
  have ok := I.ok
  have frames : X.A.frames = some (X.env :: X.outer) := ok.frames.trans (congrArg some hst)
  have locN : Loc X.env.scope n := .inl hln
  refine wpAny_Try_except ?_
  refine wpAny_mono ((hb (wAll X.K i D l) (X.pn ++ pn0) (fun er t1 => wpAny (model X.prog X.w) X.A (noteFrame er X.env) (fun _ t2 => wpAny (model X.prog X.w) X.A (setFlight er none) (fun _ t3 =>
    wpAny (model X.prog X.w) X.A (handleBy er X.env (h0 :: hds)) (SP X pn0 D) X.xe t3) X.xe t2) X.xe t1) (fun u s2 air => ?_) PassesOwn.looking).run [] s σ H D (I.toTry _) h) (fun fl t1 done => ?_) (fun er t1 z => z)
  · obtain ⟨a, B, sI, pn1, σ1, H1, cls, d, rfl, J0, nb, up, sky, na, os, ag, w⟩ := air
    have J : Inv X pn0 σ1 H1 sI := J0.ofTry ok
    have sky2 : Sky B (X.env :: X.outer) a (Zc cls d) X.env.locals s2.heap := hst ▸ sky
    show wpAny (model X.prog X.w) X.A (noteFrame (.ref a) X.env) _ _ _
    refine Sky.land Zc.steady frames hf sky2 fun g3 fly up3 => ?_
    have J3 : Inv X pn0 σ1 H1 { s2 with heap := g3 } := J.landed nb fly.1 (up.trans up3) os ag
    obtain ⟨o3, w3, at3, z3, d3⟩ := fly.there
    have apart : a ∉ frs (X.env :: X.outer) := fun hm => by
      obtain ⟨_, o', e', nf⟩ := fly.2.2.1.mem hm
      rw [at3] at e'
      cases e'
      exact nf _ d3
    have nL : a ≠ X.env.locals := fun z => apart (List.mem_filterMap.mpr ⟨X.env, List.mem_cons_self, by rw [hf, z]⟩)
    have nF : a ∉ X.fs := fun hm => by
      obtain ⟨ev, hev, q⟩ := List.mem_filterMap.mp hm
      exact apart (List.mem_filterMap.mpr ⟨ev, List.mem_cons_of_mem _ hev, q⟩)
    have S3 := J3.suite at3 d3 na nL nF
    have go : ∀ {hs' : List ExceptHandler} {l' : List Cl}, Hds X n hs' l' → wAll X.K i D l' cls d σ1 H1 → wpAny (model X.prog X.w) X.A (handleBy (.ref a) X.env hs') (SP X pn0 D) X.xe { s2 with heap := g3 } := by
      intro hs' l' hk
      induction hk with
      | nil =>
        intro w
        exact False.elim w
      | @cons x c ts b0 su np ps hds2 l2 hc hsu r ih =>
        intro w
        obtain ⟨b, hb1, hyes, hno⟩ := w
        refine wpAny_handleBy_cons (codeAny_handlers_test ?_) (by intro q; cases q)
        have tyA : PySem.W.Looks (model X.prog X.w) g3 (typeOf (.ref a)) cls := fun A Q E t k q => wpAny_typeOf_ref (k _ _ at3) (z3.1.symm ▸ q)
        have looks := PySem.W.exm_one (M := model X.prog X.w) (J3.kIn) tyA hb1
        have test : ∀ {Q E : Value → Shared → Prop}, Q c { s2 with heap := g3 } → wpAny (model X.prog X.w) (X.A.mark (some (.ref a))) (eval (.Name x np) X.env) Q E { s2 with heap := g3 } := by
          intro Q E q
          rcases hc with ⟨hg, hdbg, hm | ⟨hm, hv, hnn⟩⟩
          · exact ld_glob (X := X.suite a ((a, o3) :: (X.pn ++ pn0))) S3 hg hm q hdbg
          · exact ld_blt (X := X.suite a ((a, o3) :: (X.pn ++ pn0))) S3 hg hm hv q hnn hdbg
        refine test (looks.here ?_)
        cases b with
        | false => exact ih (hno rfl)
        | true =>
          refine codeAny_handlers_suite_as ?_
          refine HandSPX.lands_againZ fly fun g4 fly4 up4 => ?_
          have J4 : Inv X pn0 σ1 H1 { s2 with heap := g4 } := J.landed nb fly4.1 ((up.trans up3).trans up4) os ag
          obtain ⟨o4, w4, at4, z4, d4⟩ := fly4.there
          have S4 := J4.suite at4 d4 na nL nF
          refine store_ok (X := X.suite a ((a, o4) :: (X.pn ++ pn0))) (v := .ref a) S4 hN hi locN rfl (fun t5 S5 => ?_) (.inr hln)
          refine wpAny_mono ((hsu a o4 cls d (X.pn ++ pn0) z4 ⟨_, d4⟩).run [] t5 _ H1 _ S5 (hyes rfl a na)) (fun fl t6 done => ?_) (fun _ _ z => z.elim)
          have tidy : ∀ {σ6 : L2.St} {H6 : Hp} {Q : Shared → Prop}, Inv (X.suite a ((a, o4) :: (X.pn ++ pn0))) [] σ6 H6 t6 → (∀ t7, Inv X pn0 (σ6.set i none) H6 t7 → Q t7) →
              wpAny (model X.prog X.w) X.A (do bindName X.env n .none; unbindBehindTheSuite X.env n ps) (fun _ t7 => Q t7) X.xe t6 := fun {σ6 H6 Q} S6 hq => gone_ok (S6.unsuite ok) hN hi hln hq
          match fl, done with
          | .next, ⟨σ6, H6, S6, q6⟩ => exact tidy S6 fun t7 J7 => ⟨_, _, J7, q6⟩
          | .brk, ⟨σ6, H6, S6, q6⟩ => exact tidy S6 fun t7 J7 => ⟨_, _, J7, q6⟩
          | .cont, ⟨σ6, H6, S6, q6⟩ => exact tidy S6 fun t7 J7 => ⟨_, _, J7, q6⟩
          | .ret u, ⟨v6, σ6, H6, S6, r6, q6⟩ => exact tidy S6 fun t7 J7 => ⟨_, _, _, J7, r6, q6⟩
    exact go hh w
  · match fl, done with
    | .next, ⟨σ2, H2, J2, q⟩ => exact wpAny_execs_nil ⟨σ2, H2, J2.ofTry ok, q⟩
    | .brk, ⟨σ2, H2, J2, q⟩ => exact ⟨σ2, H2, J2.ofTry ok, q⟩
    | .cont, ⟨σ2, H2, J2, q⟩ => exact ⟨σ2, H2, J2.ofTry ok, q⟩
    | .ret u, ⟨v, σ2, H2, J2, r, q⟩ => exact ⟨v, σ2, H2, J2.ofTry ok, r, q⟩
end
end Gg
set_option Elab.async false
set_option linter.all false
set_option maxRecDepth 100000
set_option maxHeartbeats 1000000
set_option exponentiation.threshold 100000
namespace K34
open PySem PySem.Spec PyProof.Rows L2 Fa Fb
abbrev sSr : Stmt := top 71
theorem scSr : FnScope ["e", "_law_other"] [] (defScope sSr) := ⟨rfl, rfl, rfl, by decide +kernel, rfl, by decide +kernel, by decide +kernel⟩

def tsS (K : PySem.W.Frag) : Addr → Value → Option Addr → TS := fun a cls d => tRet (tOp rEq (Xb.tByX (CDp K) "label" a cls d (tVar 0)) (tC (.str "start")))
def clS (K : PySem.W.Frag) : List Gg.Cl := [(.ref (CDp K), tsS K)]
abbrev cA : M04.Cue := ⟨"art", "start", "beats", 1⟩
abbrev cB : M04.Cue := ⟨"chorus2", "art", "beats", 1⟩
theorem good_ab : GoodS [cA, cB] := by
  have h0 : M04.Good [] := fun i c e => by cases e
  have h1 : M04.Good ([] ++ [cA]) := M04.good_snoc h0 (by decide +kernel) (by decide +kernel)
  have h2 : M04.Good (([] ++ [cA]) ++ [cB]) := M04.good_snoc h1 (by decide +kernel) (by decide +kernel)
  refine ⟨h2, fun c hc => ?_⟩
  rcases List.mem_cons.mp hc with rfl | hc
  · exact ⟨(show isName "art" = true by decide +kernel), (show isUnit "beats" = true by decide +kernel)⟩
  · rw [List.mem_singleton.mp hc]
    exact ⟨(show isName "chorus2" = true by decide +kernel), (show isUnit "beats" = true by decide +kernel)⟩
theorem told_start : M34.told isName [] ([] ++ [cA, cB].map (hung "start" "st")) = some (.dup "start") := by
  have h := bad_hung (A := []) (B := [cA, cB]) (z := "start") (pf := "st") (i := 0) (c := cA) (by decide +kernel) good_ab.1 rfl
  have e : ("st" ++ "art" : Str) = "start" := by decide +kernel
  have h : M34.bad isName (M04.all []).nums (hung "start" "st" cA) = some (.dup "start") := by
    have h2 : M34.bad isName (M04.all ([] ++ ([cA, cB].take 0).map (hung "start" "st"))).nums (hung "start" "st" cA) = if isName ("st" ++ "art") = false then some (.name ("st" ++ "art")) else if ("st" ++ "art" : Str) ∈ nmsOf [] then some (.dup ("st" ++ "art")) else none := h
    rw [e, if_neg (by decide +kernel), if_pos (by decide +kernel)] at h2
    exact h2
  show (match M34.bad isName (M04.all []).nums (hung "start" "st" cA) with | some b => some b | none => M34.told isName ([] ++ [hung "start" "st" cA]) [hung "start" "st" cB]) = _
  rw [h]
def spSr (K : PySem.W.Frag) : Sp := fun vs H Q _ => vs = [] ∧ ∀ H', Same H H' → Q (.bl true) H'
section
variable {P : Program} {w : World} {K : PySem.W.Frag} {mg : Str → Option Value} {base : Heap} {f f2 fI fDP : Addr} {fd fd2 fdI : FuncData} {qDP tDP : Str}
theorem ok_sr (F : FnP K "_law_start_right" sSr f fd) (M : MF K mg) (MKS : Mk K (CS K) fI) (AT : Fn P w K mg base "attached" 12 ["sheet", "other", "at", "prefix"] (spAtt K) f2 fd2) (gDP : mg "Duplicate" = some (.ref (CDp K))) (XDP : Xb.Txt P.main.file K qDP "label" tDP (CDp K) fDP)
    (SI : FnOk P w K mg base (L2.CX P w) 10 fI fdI ["self", "cues"] (spSI K)) (bS : Binds K fdI ["self", "cues"] []) : FnOk P w K mg base (L2.CX P w) 13 f fd [] (spSr K) := by
  refine F.ok scSr (fun vs H Q E h => ?_) (fun cdv A outer s H vs Q E hr h => ?_)
  · obtain ⟨rfl, _⟩ := h
    rfl
  · obtain ⟨rfl, k⟩ := h
    have hr11 := hr.mono (show 11 ≤ 12 by decide)
    have hr12 := hr.mono (show 12 ≤ 12 by decide)
    refine ⟨_, (pss_cons (ps_set (i := 1) scSr.nd rfl (Or.inl rfl) (pe_make MKS SI hr11 rfl M.g bS .nil passL (pa_cons (pe_lst (pa_cons (pe_tup (pa_cons pe_str (pa_cons pe_str (pa_cons pe_str (pa_cons pe_int pa_nil))))) (pa_cons (pe_tup (pa_cons pe_str (pa_cons pe_str (pa_cons pe_str (pa_cons pe_int pa_nil))))) pa_nil))) pa_nil))) (pss_cons (Gg.ps_try_all (n := "e") (i := 0) (l := clS K) rfl rfl scSr.nd rfl rfl
        (fun W pn xe tk _ => pss_one (ps_expr (pe_callS AT.ok hr12 rfl AT.g AT.k AT.b (fun σ => passAt tk σ) (pa_cons (pe_make MKS SI hr11 rfl M.g bS .nil passL (pa_cons (pe_lst pa_nil) pa_nil)) (pa_cons (pv 1) (pa_cons pe_str (pa_cons pe_str pa_nil)))))))
        (.cons ⟨rfl, by decide, Or.inl gDP⟩ (fun a oe cls d pn hz hf => pss_one (ps_ret (pe_cmpR op_eq (Xb.pe_byX XDP hz hf (pv 0)) pe_str (nomark _)))) .nil)) (pss_one (ps_ret pe_bl)))), ?_⟩
    refine ⟨by show 4 ≤ sizeLine; decide, fun q1 hq1 => ?_⟩
    have s1 := Same.upd (o := .tup [.str "art", .str "start", .str "beats", .int 1]) hq1
    have e1 : upd H q1 (.tup [.str "art", .str "start", .str "beats", .int 1]) q1 = some (.tup [.str "art", .str "start", .str "beats", .int 1]) := upd_same
    generalize upd H q1 (.tup [.str "art", .str "start", .str "beats", .int 1]) = H1 at s1 e1 ⊢
    refine ⟨by show 4 ≤ sizeLine; decide, fun q2 hq2 => ?_⟩
    have s2 := Same.upd (o := .tup [.str "chorus2", .str "art", .str "beats", .int 1]) hq2
    have e2 : upd H1 q2 (.tup [.str "chorus2", .str "art", .str "beats", .int 1]) q2 = some (.tup [.str "chorus2", .str "art", .str "beats", .int 1]) := upd_same
    generalize upd H1 q2 (.tup [.str "chorus2", .str "art", .str "beats", .int 1]) = H2 at s2 e2 ⊢
    refine ⟨by show 2 ≤ sizeLine; decide, fun l hl => ?_⟩
    have s3 := Same.upd (o := .lst [.ref q1, .ref q2]) hl
    have e3 : upd H2 l (.lst [.ref q1, .ref q2]) l = some (.lst [.ref q1, .ref q2]) := upd_same
    generalize upd H2 l (.lst [.ref q1, .ref q2]) = H3 at s3 e3 ⊢
    have e13 := s3 _ _ (s2 _ _ e1)
    have e23 := s3 _ _ e2
    have one : ∀ {J : Hp}, Arg K J (.int 1) 1 1 1 := .inr ⟨rfl, rfl, by decide, by decide⟩
    have rl := M04.rows_len [cA, cB]
    refine fun o dx ho hdx hne => ?_
    refine make_any (mm := 1) (cs := [cA, cB]) (.inl e3) rfl (fun i c e => ?_) good_ab.ok (by decide) (by decide) (by decide) ho hdx hne (mkP_good good_ab (Nat.le_trans rl (by decide)) fun H4 gs s4 sh4 ev4 => ⟨rfl, ?_⟩)
    · match i, e with
      | 0, e => cases e; exact ⟨q1, rfl, .int 1, 1, 1, .inr e13, one, vq_one⟩
      | 1, e => cases e; exact ⟨q2, rfl, .int 1, 1, 1, .inr e23, one, vq_one⟩
    refine ⟨by show 0 ≤ sizeLine; decide, fun l2 hl2 => ?_⟩
    have s5 := Same.upd (o := .lst []) hl2
    have e5 : upd H4 l2 (.lst []) l2 = some (.lst []) := upd_same
    generalize upd H4 l2 (.lst []) = H5 at s5 e5 ⊢
    refine fun o2 dx2 ho2 hdx2 hne2 => ?_
    have g0 : GoodS [] := ⟨fun i c e => (by cases e), fun c hc => (by cases hc)⟩
    refine make_any (mm := 1) (cs := []) (.inl e5) rfl (fun i c e => by cases e) g0.ok (by decide) (by decide) (by decide) ho2 hdx2 hne2 (mkP_good g0 (by decide +kernel) fun H6 gs2 s6 sh6 ev6 => ⟨rfl, ?_⟩)
    have gl2 : gs2 = [] := List.map_eq_nil_iff.mp ev6
    have s56 := s5.trans s6
    have sF := (s1.trans (s2.trans s3)).trans (s4.trans s56)
    have gl : gs.length = 2 := by
      have := congrArg List.length ev4
      rw [List.length_map] at this
      exact this
    refine ⟨_, rfl, _, _, _, _, rfl, .inr ⟨o2, 1, _, gs2, rfl, sh6, .inr ⟨o, 1, _, gs, rfl, sh4.same s56, .inr ⟨"start", rfl, .inr ⟨num_start _, .inr ⟨"st", rfl, by decide +kernel, .inr ⟨by decide +kernel, by rw [ev6]; exact g0, by rw [ev4]; exact good_ab, by rw [gl, gl2]; decide, 1, Nat.le_refl _, Nat.le_refl _, by decide, ?_⟩⟩⟩⟩⟩⟩⟩
    rw [ev4, ev6]
    unfold AttP
    rw [told_start]
    intro H7 s7 d hd
    refine ⟨true, XDP.te, fun _ a _ => ?_, fun z => by cases z⟩
    refine ⟨_, rfl, rfl, rfl, d, .str "start", rfl, upd_same, ?_⟩
    refine ⟨rfl, ?_⟩
    show Q (.bl (decide (V.str "start" = V.str "start"))) _
    rw [decide_eq_true rfl]
    exact k _ (sF.trans (s7.trans (Same.upd hd)))
end
end K34
set_option Elab.async false
set_option linter.all false
set_option maxRecDepth 100000
set_option maxHeartbeats 4000000
/-! a dict == a text: False -/
namespace Gh
open PySem PySem.SeqAt
open AutoSeq1 (wpAny_loadPart')
open MeetsSeq MeetsSeq2 MeetsSeq3 SeqRoads2
theorem dict_ne_declines_str (l : Addr) (o : Obj) (b : Str) (u : Tok) :
    Meets (Builtin.«dict.__ne__» ⟨[.ref l, .str b u], []⟩) (fun _ R s => (s.heap.get? l = some o ∧ o.cls = .type "dict" ∧ ∃ es ep, o.data = .dict es ep) ∧ R (.ok (.ret .notImplemented)) s) :=
  .of_wp fun prog w A R s h => by
    obtain ⟨hp, g, d, tk, os⟩ := s
    obtain ⟨⟨hl, hc, es, ep, hd⟩, h⟩ := h
    obtain ⟨c, dd, da, sl⟩ := o
    simp only at hc hd
    subst hc hd
    have f1 := F.sub_str_dict
    wp_walk using wpAny_loadPart' hl, wpAny_load hl
    exact ⟨_, rfl, h⟩
theorem str_ne_declines_dict (l : Addr) (o : Obj) (b : Str) (u : Tok) :
    Meets (Builtin.«str.__ne__» ⟨[.str b u, .ref l], []⟩) (fun _ R s => (s.heap.get? l = some o ∧ o.cls = .type "dict" ∧ ∃ es ep, o.data = .dict es ep) ∧ R (.ok (.ret .notImplemented)) s) :=
  .of_wp fun prog w A R s h => by
    obtain ⟨hp, g, d, tk, os⟩ := s
    obtain ⟨⟨hl, hc, es, ep, hd⟩, h⟩ := h
    obtain ⟨c, dd, da, sl⟩ := o
    simp only at hc hd
    subst hc hd
    wp_walk using wpAny_loadPart' hl, wpAny_load hl
    exact ⟨_, rfl, h⟩
end Gh
namespace Gh
open PySem PySem.Spec PyProof.Rows L2
theorem op_neDS {X : Cx} (hu : X.A.units < cLine) : OpR X (compareOp .NotEq) (fun x y H Q => ∃ a kvs z, x = .ref a ∧ y = .str z ∧ H a = some (.dK kvs) ∧ Q (.bl true) H) := by
  intro pins s σ H x y v u Q I rx ry h
  obtain ⟨a, kvs, z, rfl, rfl, ha, q⟩ := h
  cases rx
  obtain ⟨t, rfl⟩ := ry
  obtain ⟨_, h1, vs, kv, hd⟩ := dk_of I.hok ha
  obtain ⟨o, es, ep, ho, hc, hdat, _⟩ := hd
  have f : s.heap.get? a = some o ∧ o.cls = .type "dict" ∧ ∃ es ep, o.data = .dict es ep := ⟨ho, hc.1, es, ep, hdat⟩
  show wpAny (model X.prog X.w) X.A (richCompare .NotEq (.ref a) (.str z t)) (EP X pins σ Q) X.xe s
  exact SeqAt.rc_ne_decline_or (k := false) ⟨_, ho, hc.1⟩ (typeIs_str s z t) (by decide) F.sub_str_dict F.slot_dict_ne F.slot_str_ne_refl
    (fun _ hq => call_meets F.slot_dict_ne ⟨_, ho, hc.1⟩ F.entry_dict_ne (F.args_dict_ne_2 _ _) (dict_ne_declines_str a o z t) ⟨f, hq⟩)
    (fun _ hq => call_meets F.slot_str_ne_refl (typeIs_str s z t) F.entry_str_ne (F.args_str_ne_2 _ _) (str_ne_declines_dict a o z t) ⟨f, hq⟩)
    (fun _ hq => wpAny_of_eq (rfl : isSame (.ref a) (.str z t) = pure false) hq) (.inr hu) ⟨.bl true, H, I, rfl, q⟩
end Gh
set_option Elab.async false
set_option linter.all false
set_option maxRecDepth 100000
set_option maxHeartbeats 4000000
set_option exponentiation.threshold 100000
namespace K34
open PySem PySem.Spec PyProof.Rows L2 Fa Fb
abbrev sOdd : Stmt := top 70
theorem scOdd : FnScope ["_law_sheet", "_law_thing", "_law_found", "_law_way"] ["_law_sheet"] (defScope sOdd) := ⟨rfl, rfl, rfl, by decide +kernel, rfl, by decide +kernel, by decide +kernel⟩
def DSm : Eqv := fun x y _ => (flatV x = true ∧ flatV y = true ∧ eqV x y = true) ∨ ∃ a, x = .ref a ∧ y = .ref a
theorem monSm : Mon DSm := fun _ _ _ _ _ d => d
theorem eqG_sm {X : Cx} : EqG X 0 DSm := by
  refine EqG.or (D := DFlat) (D' := fun x y _ => ∃ a, x = .ref a ∧ y = .ref a) eqG_flat ?_
  intro A pins s σ H x y u v sb I rx ry d
  obtain ⟨a, rfl, rfl⟩ := d
  cases rx
  cases ry
  exact SeqAt.EqAt.same (A := A) (s := s) (.ref a) X.prog X.w X.xe _ ⟨rfl, H, I, Ext.rfl'⟩
abbrev ShD (d : PyData) : Prop := d.showable = true ∧ d.depth ≤ 20 ∧ d.shown.length ≤ sizeLine
def d1 (d : PyData) : PyData := .list [.list [.str "sheet", d], .list [.str "sheet", d], .list [.str "sheet", d], .list [.str "sheet", d]]
def d2 (a b : Str) (d : PyData) : PyData := .list [.list [.str a, d], .list [.str b, d]]
def NeOk (K : PySem.W.Frag) (H : Hp) (x : V) : Prop := ∀ Q : VK, Q (.bl true) H → rNe x (.str "zz9zz") H Q ∨ (rNeD K x (.str "zz9zz") H Q ∨ ∃ a kvs z, x = .ref a ∧ V.str "zz9zz" = .str z ∧ H a = some (.dK kvs) ∧ Q (.bl true) H)
structure Tg1 (K : PySem.W.Frag) (H : Hp) (gs : List Cu) (x : V) (d : PyData) : Prop where
  sv : Fg.Sv H x d
  ns : NoSheet K H x
  cu : Tx K H x false ∨ ∃ z, x = .str z ∧ M04.num (M04.all (gs.map cv)).nums z = none
  tu : Tx K H x false ∨ ∃ z, x = .str z ∧ isUnit z = false
  am : Bad K H x ∨ ∃ t : Int, x = .int t ∧ t ≤ 0 ∧ -2 < t
structure Tg (K : PySem.W.Frag) (H : Hp) (gs : List Cu) (x : V) (d : PyData) : Prop where
  go : ∀ {J}, Same H J → Tg1 K J gs x d
  k1 : ShD (d1 d)
  k2 : ShD (d2 "sheet" "cue" d)
  k3 : ShD (d2 "unit" "amount" d)
  sm : DSm x x H
  ne : x = .str "zz9zz" ∨ ∀ {J}, Same H J → Tx K J x false ∧ NeOk K J x
theorem Tg.same {K : PySem.W.Frag} {H H' : Hp} {gs : List Cu} {x : V} {d : PyData} (h : Tg K H gs x d) (s : Same H H') : Tg K H' gs x d := ⟨fun sJ => h.go (s.trans sJ), h.k1, h.k2, h.k3, h.sm, h.ne.imp id fun g {J} sJ => g (s.trans sJ)⟩
theorem things34 {K : PySem.W.Frag} {gs : List Cu} {H : Hp} {q5 q6 : Addr} (kTS : ∀ T ∈ tys, PySem.W.kitOne K (.type T) (.ref (CS K)) = some false) (zz : M04.num (M04.all (gs.map cv)).nums "zz9zz" = none) (h5 : H q5 = some (.lst [.str "start"])) (h6 : H q6 = some (.dK [])) :
    ∀ x ∈ [V.non, .bl true, .int 0, .str "zz9zz", .ref q5, .ref q6], ∃ d, Tg K H gs x d := by
  have kt : ∀ {T : String} {b1 b2 : Bool} {J : Hp} {x : V}, T ∈ tys → TyX K J x (.type T) → kitB T "int" = some b1 → kitB T "bool" = some b2 → (b1 && !b2) = false → Bad K J x := fun hT ty a b c => ⟨_, hT, ty, _, _, _, ty, kit_ty a, kit_ty b, c.symm⟩
  have ns : ∀ {T : String} {x : V} {J : Hp}, T ∈ tys → TyX K J x (.type T) → NoSheet K J x := fun hT ty => ⟨_, ty, kTS _ hT⟩
  have tx : ∀ {T : String} {x : V} {J : Hp}, TyX K J x (.type T) → kitB T "str" = some false → Tx K J x false := fun ty a => ⟨_, ty, kit_ty a⟩
  intro x hx
  simp only [List.mem_cons, List.not_mem_nil, or_false] at hx
  rcases hx with rfl | rfl | rfl | rfl | rfl | rfl
  · refine ⟨.none, ⟨fun {J} sJ => ⟨.non, ns (by decide) (.base .non), .inl (tx (.base .non) (by decide +kernel)), .inl (tx (.base .non) (by decide +kernel)), .inl (kt (b1 := false) (b2 := false) (by decide) (.base .non) (by decide +kernel) (by decide +kernel) rfl)⟩, ⟨by decide +kernel, by decide +kernel, by decide +kernel⟩, ⟨by decide +kernel, by decide +kernel, by decide +kernel⟩, ⟨by decide +kernel, by decide +kernel, by decide +kernel⟩, .inl ⟨rfl, rfl, rfl⟩, .inr fun {J} sJ => ⟨tx (.base .non) (by decide +kernel), fun Q q => .inl ⟨rfl, q⟩⟩⟩⟩
  · refine ⟨.bool true, ⟨fun {J} sJ => ⟨.bl _, ns (by decide) (.base (.bl _)), .inl (tx (.base (.bl _)) (by decide +kernel)), .inl (tx (.base (.bl _)) (by decide +kernel)), .inl (kt (b1 := true) (b2 := true) (by decide) (.base (.bl _)) (by decide +kernel) (by decide +kernel) rfl)⟩, ⟨by decide +kernel, by decide +kernel, by decide +kernel⟩, ⟨by decide +kernel, by decide +kernel, by decide +kernel⟩, ⟨by decide +kernel, by decide +kernel, by decide +kernel⟩, .inl ⟨rfl, rfl, rfl⟩, .inr fun {J} sJ => ⟨tx (.base (.bl _)) (by decide +kernel), fun Q q => .inl ⟨rfl, q⟩⟩⟩⟩
  · refine ⟨.int 0, ⟨fun {J} sJ => ⟨.int _, ns (by decide) (.base (.int _)), .inl (tx (.base (.int _)) (by decide +kernel)), .inl (tx (.base (.int _)) (by decide +kernel)), .inr ⟨0, rfl, by decide, by decide⟩⟩, ⟨by decide +kernel, by decide +kernel, by decide +kernel⟩, ⟨by decide +kernel, by decide +kernel, by decide +kernel⟩, ⟨by decide +kernel, by decide +kernel, by decide +kernel⟩, .inl ⟨rfl, rfl, rfl⟩, .inr fun {J} sJ => ⟨tx (.base (.int _)) (by decide +kernel), fun Q q => .inl ⟨rfl, q⟩⟩⟩⟩
  · refine ⟨.str "zz9zz", ⟨fun {J} sJ => ⟨.str _, ns (by decide) (.base (.str _)), .inr ⟨_, rfl, zz⟩, .inr ⟨_, rfl, by decide +kernel⟩, .inl (kt (b1 := false) (b2 := false) (by decide) (.base (.str _)) (by decide +kernel) (by decide +kernel) rfl)⟩, ⟨by decide +kernel, by decide +kernel, by decide +kernel⟩, ⟨by decide +kernel, by decide +kernel, by decide +kernel⟩, ⟨by decide +kernel, by decide +kernel, by decide +kernel⟩, .inl ⟨rfl, rfl, by decide +kernel⟩, .inl rfl⟩⟩
  · refine ⟨.list [.str "start"], ⟨fun {J} sJ => ⟨.lst (sJ _ _ h5) (.cons (.str _) .nil), ns (T := "list") (by decide) (.base (.lst (sJ _ _ h5))), .inl (tx (T := "list") (.base (.lst (sJ _ _ h5))) (by decide +kernel)), .inl (tx (T := "list") (.base (.lst (sJ _ _ h5))) (by decide +kernel)), .inl (kt (T := "list") (b1 := false) (b2 := false) (by decide) (.base (.lst (sJ _ _ h5))) (by decide +kernel) (by decide +kernel) rfl)⟩, ⟨by decide +kernel, by decide +kernel, by decide +kernel⟩, ⟨by decide +kernel, by decide +kernel, by decide +kernel⟩, ⟨by decide +kernel, by decide +kernel, by decide +kernel⟩, .inr ⟨_, rfl, rfl⟩, .inr fun {J} sJ => ⟨tx (T := "list") (.base (.lst (sJ _ _ h5))) (by decide +kernel), fun Q q => .inr (.inl ⟨.list [.str "start"], .str "zz9zz", .lst (SqL.of (sJ _ _ h5)) (.cons (.str _) .nil), .str _, by decide +kernel, by decide +kernel, q⟩)⟩⟩⟩
  · refine ⟨.dict [], ⟨fun {J} sJ => ⟨.dic (sJ _ _ h6), ns (T := "dict") (by decide) (.base (.dK (sJ _ _ h6))), .inl (tx (T := "dict") (.base (.dK (sJ _ _ h6))) (by decide +kernel)), .inl (tx (T := "dict") (.base (.dK (sJ _ _ h6))) (by decide +kernel)), .inl (kt (T := "dict") (b1 := false) (b2 := false) (by decide) (.base (.dK (sJ _ _ h6))) (by decide +kernel) (by decide +kernel) rfl)⟩, ⟨by decide +kernel, by decide +kernel, by decide +kernel⟩, ⟨by decide +kernel, by decide +kernel, by decide +kernel⟩, ⟨by decide +kernel, by decide +kernel, by decide +kernel⟩, .inr ⟨_, rfl, rfl⟩, .inr fun {J} sJ => ⟨tx (T := "dict") (.base (.dK (sJ _ _ h6))) (by decide +kernel), fun Q q => .inr (.inr ⟨_, _, _, rfl, rfl, sJ _ _ h6, q⟩)⟩⟩⟩
def sOd1 (K : PySem.W.Frag) (o : Addr) (m1 : Nat) (H1 : Hp) (gs : List Cu) : TS := fun D σ H' => ∃ (x : V) (d : PyData) (v2 : Option V), σ = [some (.ref o), some x, v2, none] ∧ ShAt K m1 H1 H' o gs ∧ Tg K H' gs x d ∧ ∀ v2 J, Same H' J → D.nx [some (.ref o), some x, v2, none] J
def spOdd (K : PySem.W.Frag) : Sp := fun vs H Q _ => ∃ o m1 H1 gs, vs = [.ref o] ∧ ShAt K m1 H1 H o gs ∧ M04.num (M04.all (gs.map cv)).nums "zz9zz" = none ∧ ∀ H', Same H H' → Q (.bl true) H'
section
variable {P : Program} {w : World} {K : PySem.W.Frag} {mg : Str → Option Value} {base : Heap} {f f1 : Addr} {fd fd1 : FuncData}
theorem ok_odd (F : FnP K "_law_odd_right" sOdd f fd) (hS : Fg.SysD K) (mR : mg "repr" = none) (mG : mg "range" = none) (kTS : ∀ T ∈ tys, PySem.W.kitOne K (.type T) (.ref (CS K)) = some false) (TL : Fn P w K mg base "_law_told" 13 ["_law_way", "_law_things"] (spTld K) f1 fd1) : Fg.FnG P w K mg base (L2.CX P w) 14 f fd ["_law_sheet"] (spOdd K) := by
  refine Fg.okG F scOdd (fun vs H Q E h => ?_) (fun cdv A outer s H vs Q E G hr h => ?_)
  · obtain ⟨o, m1, H1, gs, rfl, _⟩ := h
    rfl
  · obtain ⟨o, m1, H1, gs, rfl, sh, zz, k⟩ := h
    have hu : (A.deeper (envOfC "_law_odd_right" (defScope sOdd) s.heap.objs.size f cdv)).units + 64 < cLine := by
      have := hr.un
      omega
    have hu0 : (A.deeper (envOfC "_law_odd_right" (defScope sOdd) s.heap.objs.size f cdv)).units < cLine := by omega
    have hr1 := hr.mono (show 1 ≤ 13 by decide)
    have hr13 := hr.mono (show 13 ≤ 13 by decide)
    refine ⟨_, (pss_cons (ps_for (passes_of rfl) rfl (pi_list (pe_lst (pa_cons pe_non (pa_cons pe_bl (pa_cons pe_int (pa_cons pe_str (pa_cons (pe_lst (pa_cons pe_str pa_nil)) (pa_cons pe_dnewK pa_nil)))))))) (pg_name (i := 1) scOdd.nd rfl (Or.inr rfl))
      (pss_imp (S := sOd1 K o m1 H1 gs) (pss_cons (ps_if (pt_cmpR op_ne (pe_callB (Fg.call_reprD hS G hu) rfl mR boot_repr (pa_cons (pe_lc (own := [("_law_way", 3)]) (g := gName 3) (te := tCall (spTld K) [] E0 (tCons (tVar 3) (tCons (tOp rRep (tLst (tCons (tVar 1) tNil)) (tC (.int 4))) tNil))) (by rfl) scOdd.nd (pi_range1 rfl mG (pa_cons pe_int pa_nil)) (blkOk_by (own := [("_law_way", 3)]) (N := ["_law_sheet", "_law_thing", "_law_found", "_law_way"]) (sc := defScope sOdd) (by decide +kernel)) (fun _ _ _ _ _ => (pg_name (i := 3) scOdd.nd rfl (Or.inl rfl))) (fun _ _ _ _ _ => pts_nil) (fun _ _ _ _ _ => (pe_call TL.ok hr13 rfl TL.g TL.k TL.b .nil passL (pa_cons (pv 3) (pa_cons (pe_op op_rep (pe_lst (pa_cons (pv 1) pa_nil)) pe_int) pa_nil))))) pa_nil)) (pe_callB (Fg.call_reprD hS G hu) rfl mR boot_repr (pa_cons (pe_op op_rep (pe_lst (pa_cons (pe_lst (pa_cons pe_str (pa_cons (pv 1) pa_nil))) pa_nil)) pe_int) pa_nil)) (nomark _)) (pss_one (ps_ret pe_bl)) pss_nil)
      (pss_cons (ps_set (i := 2) scOdd.nd rfl (Or.inl rfl) (pe_lst (pa_cons (pe_call TL.ok hr13 rfl TL.g TL.k TL.b .nil passL (pa_cons pe_int (pa_cons (pe_lst (pa_cons (pv 0) (pa_cons (pv 1) (pa_cons (pv 1) (pa_cons (pv 1) pa_nil))))) pa_nil))) (pa_cons (pe_call TL.ok hr13 rfl TL.g TL.k TL.b .nil passL (pa_cons pe_int (pa_cons (pe_lst (pa_cons (pv 0) (pa_cons (pv 0) (pa_cons (pv 1) (pa_cons (pv 1) pa_nil))))) pa_nil))) pa_nil))))
      (pss_cons (ps_if (pt_cmpR op_ne (pe_callB (Fg.call_reprD hS G hu) rfl mR boot_repr (pa_cons (pv 2) pa_nil)) (pe_callB (Fg.call_reprD hS G hu) rfl mR boot_repr (pa_cons (pe_lst (pa_cons (pe_lst (pa_cons pe_str (pa_cons (pv 1) pa_nil))) (pa_cons (pe_lst (pa_cons pe_str (pa_cons (pv 1) pa_nil))) pa_nil))) pa_nil)) (nomark _)) (pss_one (ps_ret pe_bl)) pss_nil)
      (pss_cons (ps_set (i := 2) scOdd.nd rfl (Or.inl rfl) (pe_lst (pa_cons (pe_call TL.ok hr13 rfl TL.g TL.k TL.b .nil passL (pa_cons pe_int (pa_cons (pe_lst (pa_cons (pv 0) (pa_cons (pv 1) (pa_cons (pv 1) (pa_cons pe_non pa_nil))))) pa_nil))) (pa_cons (pe_call TL.ok hr13 rfl TL.g TL.k TL.b .nil passL (pa_cons pe_int (pa_cons (pe_lst (pa_cons (pv 0) (pa_cons pe_str (pa_cons (pv 1) (pa_cons pe_non pa_nil))))) pa_nil))) pa_nil))))
      (pss_cons (ps_if (pt_cmpR op_ne (pe_callB (Fg.call_reprD hS G hu) rfl mR boot_repr (pa_cons (pv 2) pa_nil)) (pe_callB (Fg.call_reprD hS G hu) rfl mR boot_repr (pa_cons (pe_lst (pa_cons (pe_lst (pa_cons pe_str (pa_cons (pv 1) pa_nil))) (pa_cons (pe_lst (pa_cons pe_str (pa_cons (pv 1) pa_nil))) pa_nil))) pa_nil)) (nomark _)) (pss_one (ps_ret pe_bl)) pss_nil)
      (pss_one (ps_if (PW.pt (pw_and (pt_cmpR (Fe.op_or op_ne (Fe.op_or (op_neD hu) (Gh.op_neDS hu0))) (pv 1) pe_str (nomark _)) (pw_and1 (pt_cmpR (Fe.op_neG monSm eqG_sm hr1) (pe_call TL.ok hr13 rfl TL.g TL.k TL.b .nil passL (pa_cons pe_int (pa_cons (pe_lst (pa_cons (pv 0) (pa_cons (pv 0) (pa_cons pe_str (pa_cons (pv 1) pa_nil))))) pa_nil))) (pe_lst (pa_cons pe_str (pa_cons (pv 1) pa_nil))) (nomark _))))) (pss_one (ps_ret pe_bl)) pss_nil))))))) ?c1))
      (pss_one (ps_ret (pe_cmpR (op_eqD hu) (pe_call TL.ok hr13 rfl TL.g TL.k TL.b .nil passL (pa_cons pe_int (pa_cons (pe_lst (pa_cons (pv 0) (pa_cons pe_str (pa_cons (pe_op op_sub pe_int pe_int) (pa_cons pe_non pa_nil))))) pa_nil))) (pe_lst (pa_cons pe_str (pa_cons (pe_op op_sub pe_int pe_int) pa_nil))) (nomark _))))), ?_⟩
    case c1 =>
      rintro D σ J0 ⟨x, d, v2, rfl, sh, th, kk⟩
      have S0 := Same.refl J0
      refine ⟨4, rfl, by decide, by decide, fun D1 hD1 => ?_⟩
      refine lc_range (lo := 0) (n := 4) (fun i H' => Same J0 H' ∧ ∃ rs : List Addr, rs.length = i ∧ H' D1 = some (.lst (rs.map V.ref)) ∧ ∀ r ∈ rs, H' r = some (.lst [.str "sheet", x])) ⟨Same.upd hD1, [], rfl, upd_same, fun r hr => by cases hr⟩ ?_ ?_
      · rintro i J1 hi ⟨s1, rs, rl, e1, ok⟩
        refine ⟨rfl, _, rfl, _, rfl, by show 1 ≤ sizeLine; decide, fun a ha => ?_⟩
        have s2 := Same.upd (o := .lst [x]) ha
        have e2 : upd J1 a (.lst [x]) a = some (.lst [x]) := upd_same
        generalize upd J1 a (.lst [x]) = J2 at s2 e2 ⊢
        refine ⟨a, 4, [x], rfl, rfl, e2, by decide, by decide, by show 1 * 4 ≤ sizeLine; decide, fun b hb => ?_⟩
        have s3 := Same.upd (o := .lst (List.replicate (4 : Int).toNat [x]).flatten) hb
        have e3 : upd J2 b (.lst (List.replicate (4 : Int).toNat [x]).flatten) b = some (.lst [x, x, x, x]) := upd_same
        generalize upd J2 b (.lst (List.replicate (4 : Int).toNat [x]).flatten) = J3 at s3 e3 ⊢
        have s13 := s1.trans (s2.trans s3)
        refine ⟨_, b, x, x, x, x, rfl, e3, .inl ⟨(th.go s13).ns, fun r J4 s4 e4 r0 => ?_⟩⟩
        have e1' := (s2.trans (s3.trans s4)) _ _ e1
        have old : ∀ q, q ∈ rs ++ [r] → J4 q = some (.lst [.str "sheet", x]) := fun q hq => by
          rcases List.mem_append.mp hq with hq | hq
          · exact (s2.trans (s3.trans s4)) _ _ (ok q hq)
          · rw [List.mem_singleton.mp hq]; exact e4
        refine ⟨_, e1', by rw [List.length_map, rl]; exact Nat.lt_of_lt_of_le (show i < 100 by omega) (by decide), same_put (s13.trans s4) hD1, rs ++ [r], by rw [List.length_append, rl]; rfl, by rw [upd_same, List.map_append]; rfl, fun q hq => ?_⟩
        rw [upd_ne fun e => ?_]
        · exact old q hq
        · have h1 := old q hq
          rw [e, e1'] at h1
          cases rs with
          | nil => cases h1
          | cons y ys => cases h1
      rintro J1 ⟨s1, rs, rl, e1, ok⟩
      have sv1 : Fg.Sv J1 (.ref D1) (d1 d) := by
        match rs, rl, e1, ok with
        | [r1, r2, r3, r4], _, e1, ok =>
          have g := (th.go s1).sv
          exact .lst e1 (.cons (.lst (ok r1 (by simp)) (.cons (.str _) (.cons g .nil))) (.cons (.lst (ok r2 (by simp)) (.cons (.str _) (.cons g .nil))) (.cons (.lst (ok r3 (by simp)) (.cons (.str _) (.cons g .nil))) (.cons (.lst (ok r4 (by simp)) (.cons (.str _) (.cons g .nil))) .nil))))
      refine ⟨D1, d1 d, rfl, sv1, th.k1.1, th.k1.2.1, th.k1.2.2, ?_⟩
      refine ⟨_, rfl, by show 2 ≤ sizeLine; decide, fun a ha => ?_⟩
      have s2 := Same.upd (o := .lst [V.str "sheet", x]) ha
      have e2 : upd J1 a (.lst [V.str "sheet", x]) a = some (.lst [V.str "sheet", x]) := upd_same
      generalize upd J1 a (.lst [V.str "sheet", x]) = J2 at s2 e2 ⊢
      refine ⟨by show 1 ≤ sizeLine; decide, fun b hb => ?_⟩
      have s3 := Same.upd (o := .lst [V.ref a]) hb
      have e3 : upd J2 b (.lst [V.ref a]) b = some (.lst [V.ref a]) := upd_same
      generalize upd J2 b (.lst [V.ref a]) = J3 at s3 e3 ⊢
      refine ⟨b, 4, [.ref a], rfl, rfl, e3, by decide, by decide, by show 1 * 4 ≤ sizeLine; decide, fun c hc => ?_⟩
      have s4 := Same.upd (o := .lst (List.replicate (4 : Int).toNat [V.ref a]).flatten) hc
      have e4 : upd J3 c (.lst (List.replicate (4 : Int).toNat [V.ref a]).flatten) c = some (.lst [V.ref a, .ref a, .ref a, .ref a]) := upd_same
      generalize upd J3 c (.lst (List.replicate (4 : Int).toNat [V.ref a]).flatten) = J4 at s4 e4 ⊢
      have ea := (s3.trans s4) _ _ e2
      have s04 := s1.trans (s2.trans (s3.trans s4))
      have gA : Fg.Sv J4 (.ref a) (.list [.str "sheet", d]) := .lst ea (.cons (.str _) (.cons (th.go s04).sv .nil))
      refine ⟨c, d1 d, rfl, .lst e4 (.cons gA (.cons gA (.cons gA (.cons gA .nil)))), th.k1.1, th.k1.2.1, th.k1.2.2, rfl, _, rfl, if_false_of (by rw [decide_eq_true rfl]; rfl) ?_⟩
      refine ⟨_, rfl, _, rfl, _, rfl, _, rfl, by show 4 ≤ sizeLine; decide, fun a2 ha => ?_⟩
      have sa2 := Same.upd (o := .lst [V.ref o, x, x, x]) ha
      have ea2 : upd J4 a2 (.lst [V.ref o, x, x, x]) a2 = some (.lst [V.ref o, x, x, x]) := upd_same
      generalize upd J4 a2 (.lst [V.ref o, x, x, x]) = A2 at sa2 ea2 ⊢
      have Sa2 := s04.trans sa2
      refine ⟨_, a2, _, _, _, _, rfl, ea2, .inr ⟨o, m1, H1, gs, rfl, sh.same Sa2, .inl ⟨rfl, .inl ⟨(th.go Sa2).ns, fun r2 B2 t2 e2 _ => ?_⟩⟩⟩⟩
      have Sb2 := Sa2.trans t2
      refine ⟨_, rfl, _, rfl, _, rfl, _, rfl, by show 4 ≤ sizeLine; decide, fun b2 hb => ?_⟩
      have sb2 := Same.upd (o := .lst [V.ref o, .ref o, x, x]) hb
      have eb2 : upd B2 b2 (.lst [V.ref o, .ref o, x, x]) b2 = some (.lst [V.ref o, .ref o, x, x]) := upd_same
      generalize upd B2 b2 (.lst [V.ref o, .ref o, x, x]) = C2 at sb2 eb2 ⊢
      have Sc2 := Sb2.trans sb2
      have go2 : ∀ Q : VK, Rt C2 Q "cue" x → TlA K C2 gs m1 (.ref o) x x Q := fun Q rt => .inr ⟨o, m1, H1, gs, rfl, sh.same Sc2, (th.go Sc2).cu.imp (fun h => ⟨h, rt⟩) fun ⟨z, e, h⟩ => ⟨z, e, .inl ⟨h, rt⟩⟩⟩
      refine ⟨_, b2, _, _, _, _, rfl, eb2, .inr ⟨o, m1, H1, gs, rfl, sh.same Sc2, .inl ⟨rfl, go2 _ fun q2 D2 u2 f2 _ => ?_⟩⟩⟩
      have Sd2 := Sc2.trans u2
      refine ⟨by show 2 ≤ sizeLine; decide, fun l2 hl => ?_⟩
      have sl2 := Same.upd (o := .lst [V.ref r2, .ref q2]) hl
      have el2 : upd D2 l2 (.lst [V.ref r2, .ref q2]) l2 = some (.lst [V.ref r2, .ref q2]) := upd_same
      generalize upd D2 l2 (.lst [V.ref r2, .ref q2]) = E2 at sl2 el2 ⊢
      have Se2 := Sd2.trans sl2
      have er2 := (sb2.trans (u2.trans sl2)) _ _ e2
      have eq2 := sl2 _ _ f2
      have g2 := (th.go Se2).sv
      refine ⟨_, rfl, l2, d2 "sheet" "cue" d, rfl, .lst el2 (.cons (.lst er2 (.cons (.str _) (.cons g2 .nil))) (.cons (.lst eq2 (.cons (.str _) (.cons g2 .nil))) .nil)), th.k2.1, th.k2.2.1, th.k2.2.2, ?_⟩
      refine ⟨_, rfl, by show 2 ≤ sizeLine; decide, fun x2 hx => ?_⟩
      have sx2 := Same.upd (o := .lst [V.str "sheet", x]) hx
      have ex2 : upd E2 x2 (.lst [V.str "sheet", x]) x2 = some (.lst [V.str "sheet", x]) := upd_same
      generalize upd E2 x2 (.lst [V.str "sheet", x]) = F2 at sx2 ex2 ⊢
      refine ⟨_, rfl, by show 2 ≤ sizeLine; decide, fun y2 hy => ?_⟩
      have sy2 := Same.upd (o := .lst [V.str "cue", x]) hy
      have ey2 : upd F2 y2 (.lst [V.str "cue", x]) y2 = some (.lst [V.str "cue", x]) := upd_same
      generalize upd F2 y2 (.lst [V.str "cue", x]) = G2 at sy2 ey2 ⊢
      refine ⟨by show 2 ≤ sizeLine; decide, fun z2 hz => ?_⟩
      have sz2 := Same.upd (o := .lst [V.ref x2, .ref y2]) hz
      have ez2 : upd G2 z2 (.lst [V.ref x2, .ref y2]) z2 = some (.lst [V.ref x2, .ref y2]) := upd_same
      generalize upd G2 z2 (.lst [V.ref x2, .ref y2]) = K2 at sz2 ez2 ⊢
      have Sz2 := Se2.trans (sx2.trans (sy2.trans sz2))
      have h2 := (th.go Sz2).sv
      refine ⟨z2, d2 "sheet" "cue" d, rfl, .lst ez2 (.cons (.lst ((sy2.trans sz2) _ _ ex2) (.cons (.str _) (.cons h2 .nil))) (.cons (.lst (sz2 _ _ ey2) (.cons (.str _) (.cons h2 .nil))) .nil)), th.k2.1, th.k2.2.1, th.k2.2.2, rfl, _, rfl, if_false_of (by rw [decide_eq_true rfl]; rfl) ?_⟩
      refine ⟨_, rfl, _, rfl, _, rfl, by show 4 ≤ sizeLine; decide, fun a3 ha => ?_⟩
      have sa3 := Same.upd (o := .lst [V.ref o, x, x, .non]) ha
      have ea3 : upd K2 a3 (.lst [V.ref o, x, x, .non]) a3 = some (.lst [V.ref o, x, x, .non]) := upd_same
      generalize upd K2 a3 (.lst [V.ref o, x, x, .non]) = A3 at sa3 ea3 ⊢
      have Sa3 := Sz2.trans sa3
      have ga3 : ∀ Q : VK, Rt A3 Q "unit" x → TlS K A3 x x Q := fun Q rt => (th.go Sa3).tu.imp (fun h => ⟨h, rt⟩) fun ⟨z, e, h⟩ => ⟨z, e, .inl ⟨h, rt⟩⟩
      refine ⟨_, a3, _, _, _, _, rfl, ea3, .inr ⟨o, m1, H1, gs, rfl, sh.same Sa3, .inr ⟨rfl, ga3 _ fun r3 B3 t3 e3 _ => ?_⟩⟩⟩
      have Sb3 := Sa3.trans t3
      refine ⟨_, rfl, _, rfl, by show 4 ≤ sizeLine; decide, fun b3 hb => ?_⟩
      have sb3 := Same.upd (o := .lst [V.ref o, .str "beats", x, .non]) hb
      have eb3 : upd B3 b3 (.lst [V.ref o, .str "beats", x, .non]) b3 = some (.lst [V.ref o, .str "beats", x, .non]) := upd_same
      generalize upd B3 b3 (.lst [V.ref o, .str "beats", x, .non]) = C3 at sb3 eb3 ⊢
      have Sc3 := Sb3.trans sb3
      have gb3 : ∀ Q : VK, Rt C3 Q "amount" x → TlS K C3 (.str "beats") x Q := fun Q rt => .inr ⟨"beats", rfl, .inr ⟨by decide +kernel, (th.go Sc3).am.imp (fun h => ⟨h, rt⟩) fun ⟨t, e, h0, h1⟩ => ⟨t, e, h0, h1, rt⟩⟩⟩
      refine ⟨_, b3, _, _, _, _, rfl, eb3, .inr ⟨o, m1, H1, gs, rfl, sh.same Sc3, .inr ⟨rfl, gb3 _ fun q3 D3 u3 f3 _ => ?_⟩⟩⟩
      have Sd3 := Sc3.trans u3
      refine ⟨by show 2 ≤ sizeLine; decide, fun l3 hl => ?_⟩
      have sl3 := Same.upd (o := .lst [V.ref r3, .ref q3]) hl
      have el3 : upd D3 l3 (.lst [V.ref r3, .ref q3]) l3 = some (.lst [V.ref r3, .ref q3]) := upd_same
      generalize upd D3 l3 (.lst [V.ref r3, .ref q3]) = E3 at sl3 el3 ⊢
      have Se3 := Sd3.trans sl3
      have er3 := (sb3.trans (u3.trans sl3)) _ _ e3
      have eq3 := sl3 _ _ f3
      have g3 := (th.go Se3).sv
      refine ⟨_, rfl, l3, d2 "unit" "amount" d, rfl, .lst el3 (.cons (.lst er3 (.cons (.str _) (.cons g3 .nil))) (.cons (.lst eq3 (.cons (.str _) (.cons g3 .nil))) .nil)), th.k3.1, th.k3.2.1, th.k3.2.2, ?_⟩
      refine ⟨_, rfl, by show 2 ≤ sizeLine; decide, fun x3 hx => ?_⟩
      have sx3 := Same.upd (o := .lst [V.str "unit", x]) hx
      have ex3 : upd E3 x3 (.lst [V.str "unit", x]) x3 = some (.lst [V.str "unit", x]) := upd_same
      generalize upd E3 x3 (.lst [V.str "unit", x]) = F3 at sx3 ex3 ⊢
      refine ⟨_, rfl, by show 2 ≤ sizeLine; decide, fun y3 hy => ?_⟩
      have sy3 := Same.upd (o := .lst [V.str "amount", x]) hy
      have ey3 : upd F3 y3 (.lst [V.str "amount", x]) y3 = some (.lst [V.str "amount", x]) := upd_same
      generalize upd F3 y3 (.lst [V.str "amount", x]) = G3 at sy3 ey3 ⊢
      refine ⟨by show 2 ≤ sizeLine; decide, fun z3 hz => ?_⟩
      have sz3 := Same.upd (o := .lst [V.ref x3, .ref y3]) hz
      have ez3 : upd G3 z3 (.lst [V.ref x3, .ref y3]) z3 = some (.lst [V.ref x3, .ref y3]) := upd_same
      generalize upd G3 z3 (.lst [V.ref x3, .ref y3]) = K3 at sz3 ez3 ⊢
      have Sz3 := Se3.trans (sx3.trans (sy3.trans sz3))
      have h3 := (th.go Sz3).sv
      refine ⟨z3, d2 "unit" "amount" d, rfl, .lst ez3 (.cons (.lst ((sy3.trans sz3) _ _ ex3) (.cons (.str _) (.cons h3 .nil))) (.cons (.lst (sz3 _ _ ey3) (.cons (.str _) (.cons h3 .nil))) .nil)), th.k3.1, th.k3.2.1, th.k3.2.2, rfl, _, rfl, if_false_of (by rw [decide_eq_true rfl]; rfl) ?_⟩
      rcases th.ne with hx | ne
      · refine ⟨_, rfl, .inl ⟨by rw [hx]; rfl, _, rfl, if_false_of (by rw [hx, decide_eq_true rfl]; rfl) (kk _ _ Sz3)⟩⟩
      · refine ⟨_, rfl, (ne Sz3).2 _ ⟨_, rfl, if_true_of rfl ?_⟩⟩
        refine ⟨_, rfl, _, rfl, _, rfl, by show 4 ≤ sizeLine; decide, fun a ha => ?_⟩
        have sa := Same.upd (o := .lst [V.ref o, .ref o, .str "start", x]) ha
        have ea' : upd K3 a (.lst [V.ref o, .ref o, .str "start", x]) a = some (.lst [V.ref o, .ref o, .str "start", x]) := upd_same
        generalize upd K3 a (.lst [V.ref o, .ref o, .str "start", x]) = M1 at sa ea' ⊢
        have Sm := Sz3.trans sa
        have txm := (ne Sm).1
        refine ⟨_, a, _, _, _, _, rfl, ea', .inr ⟨o, m1, H1, gs, rfl, sh.same Sm, .inl ⟨rfl, .inr ⟨o, m1, H1, gs, rfl, sh.same Sm, .inr ⟨"start", rfl, .inr ⟨num_start _, .inl ⟨txm, fun r M2 t2' e2' _ => ?_⟩⟩⟩⟩⟩⟩⟩
        refine ⟨_, rfl, by show 2 ≤ sizeLine; decide, fun r2' hr2' => ?_⟩
        have sr := Same.upd (o := .lst [V.str "name", x]) hr2'
        have er : upd M2 r2' (.lst [V.str "name", x]) r2' = some (.lst [V.str "name", x]) := upd_same
        generalize upd M2 r2' (.lst [V.str "name", x]) = M3 at sr er ⊢
        refine ⟨⟨r, r2', _, _, rfl, rfl, sr _ _ e2', er, Prs.cons (.inl ⟨rfl, rfl, by decide +kernel⟩) (Prs.cons th.sm Prs.nil)⟩, fun M4 s4' => ⟨_, rfl, if_false_of rfl (kk _ _ (Sm.trans (t2'.trans (sr.trans s4'))))⟩⟩
    refine ⟨by show 1 ≤ sizeLine; decide, fun q5 h5 => ?_⟩
    have s5 := Same.upd (o := .lst [.str "start"]) h5
    have e5 : upd H q5 (.lst [.str "start"]) q5 = some (.lst [.str "start"]) := upd_same
    generalize upd H q5 (.lst [.str "start"]) = J1 at s5 e5 ⊢
    intro q6 h6
    have s6 := Same.upd (o := .dK []) h6
    have e6 : upd J1 q6 (.dK []) q6 = some (.dK []) := upd_same
    refine ⟨by show 6 ≤ sizeLine; decide, fun L hL => ?_⟩
    generalize upd J1 q6 (.dK []) = J2 at s6 e6 hL ⊢
    have s7 := Same.upd (o := .lst [V.non, .bl true, .int 0, .str "zz9zz", .ref q5, .ref q6]) hL
    have e7 : upd J2 L (.lst [V.non, .bl true, .int 0, .str "zz9zz", .ref q5, .ref q6]) L = some (.lst [V.non, .bl true, .int 0, .str "zz9zz", .ref q5, .ref q6]) := upd_same
    generalize upd J2 L (.lst [V.non, .bl true, .int 0, .str "zz9zz", .ref q5, .ref q6]) = J3 at s7 e7 ⊢
    have s03 := s5.trans (s6.trans s7)
    have ths := things34 (K := K) (gs := gs) (H := J3) kTS zz ((s6.trans s7) _ _ e5) (s7 _ _ e6)
    refine ⟨L, rfl, ⟨_, SqL.of e7⟩, for_list (K := K) (a := L) (xs := [V.non, .bl true, .int 0, .str "zz9zz", .ref q5, .ref q6]) (fun i σ H' => ∃ v1 v2, σ = [some (.ref o), v1, v2, none] ∧ Same J3 H') ⟨_, _, rfl, Same.refl _⟩ (fun i σ H' _ ⟨_, _, _, s⟩ => SqL.of (s _ _ e7)) ?_ ?_⟩
    · rintro i x σ J4 hx ⟨v1, v2, rfl, s4⟩
      obtain ⟨d, th⟩ := ths x (List.mem_of_getElem? hx)
      exact ⟨x, d, v2, rfl, sh.same (s03.trans s4), th.same s4, fun v2 J s => ⟨_, v2, rfl, s4.trans s⟩⟩
    · rintro σ J4 ⟨v1, v2, rfl, s4⟩
      have s04 := s03.trans s4
      refine ⟨_, rfl, _, _, rfl, rfl, by show 4 ≤ sizeLine; decide, fun l4 h4 => ?_⟩
      have s8 := Same.upd (o := .lst [V.ref o, .str "beats", .int (0 - 1), .non]) h4
      have e8 : upd J4 l4 (.lst [V.ref o, .str "beats", .int (0 - 1), .non]) l4 = some (.lst [V.ref o, .str "beats", .int (0 - 1), .non]) := upd_same
      generalize upd J4 l4 (.lst [V.ref o, .str "beats", .int (0 - 1), .non]) = J5 at s8 e8 ⊢
      have s05 := s04.trans s8
      refine ⟨1, l4, _, _, _, _, rfl, e8, .inr ⟨o, m1, H1, gs, rfl, sh.same s05, .inr ⟨rfl, .inr ⟨"beats", rfl, .inr ⟨by decide +kernel, .inr ⟨0 - 1, rfl, by decide, by decide, fun r J6 s6' e9 r0 => ?_⟩⟩⟩⟩⟩⟩
      refine ⟨_, _, rfl, rfl, by show 2 ≤ sizeLine; decide, fun r2 hr2 => ?_⟩
      have s10 := Same.upd (o := .lst [V.str "amount", .int (0 - 1)]) hr2
      have e10 : upd J6 r2 (.lst [V.str "amount", .int (0 - 1)]) r2 = some (.lst [V.str "amount", .int (0 - 1)]) := upd_same
      generalize upd J6 r2 (.lst [V.str "amount", .int (0 - 1)]) = J7 at s10 e10 ⊢
      refine ⟨.list [.str "amount", .int (0 - 1)], .list [.str "amount", .int (0 - 1)], .lst (SqL.of (s10 _ _ e9)) (.cons (.str _) (.cons (.int _) .nil)), .lst (SqL.of e10) (.cons (.str _) (.cons (.int _) .nil)), by decide +kernel, by decide +kernel, ?_⟩
      rw [show PyData.eqv (.list [.str "amount", .int (0 - 1)]) (.list [.str "amount", .int (0 - 1)]) = true by decide +kernel]
      exact k J7 (s05.trans (s6'.trans s10))
end
end K34
set_option Elab.async false
set_option linter.all false
set_option maxRecDepth 100000
set_option maxHeartbeats 1000000
set_option exponentiation.threshold 100000
namespace K34
open PySem PySem.Spec PyProof.Rows L2 Fa Fb
/-- short data -/
structure Sd (k w : Nat) (d : PyData) : Prop where
  sh : d.showable = true
  cl : d.canLay0 = true
  dp : d.depth ≤ k
  wt : d.weight ≤ w
  it : d.intsShort 13 = true
theorem Sd.mono {k w k2 w2 : Nat} {d : PyData} (h : Sd k w d) (a : k ≤ k2) (b : w ≤ w2) : Sd k2 w2 d := ⟨h.sh, h.cl, Nat.le_trans h.dp a, Nat.le_trans h.wt b, h.it⟩
theorem Sd.all {k w : Nat} : ∀ {ds : List PyData}, (∀ d ∈ ds, Sd k w d) → PyData.showableAll ds = true ∧ PyData.canLayAll0 ds = true ∧ PyData.depthAll ds ≤ k ∧ PyData.weightAll ds ≤ ds.length * (w + 1) ∧ PyData.intsShortAll 13 ds = true
  | [], _ => ⟨rfl, rfl, Nat.zero_le _, Nat.zero_le _, rfl⟩
  | d :: r, h => by
    obtain ⟨a, b, c, e, f⟩ := Sd.all fun x hx => h x (List.mem_cons_of_mem _ hx)
    obtain ⟨a1, b1, c1, e1, f1⟩ := h d List.mem_cons_self
    refine ⟨?_, ?_, ?_, ?_, ?_⟩
    · show (PyData.showable d && PyData.showableAll r) = true
      rw [a1, a]; rfl
    · show (PyData.canLay0 d && PyData.canLayAll0 r) = true
      rw [b1, b]; rfl
    · show max (PyData.depth d) (PyData.depthAll r) ≤ k
      omega
    · show PyData.weight d + 1 + PyData.weightAll r ≤ (r.length + 1) * (w + 1)
      rw [Nat.succ_mul]
      omega
    · show (PyData.intsShort 13 d && PyData.intsShortAll 13 r) = true
      rw [f1, f]; rfl
theorem Sd.list {k w m : Nat} {ds : List PyData} (h : ∀ d ∈ ds, Sd k w d) (n : ds.length ≤ m) : Sd (k + 1) (m * (w + 1)) (.list ds) := by
  obtain ⟨a, b, c, e, f⟩ := Sd.all h
  refine ⟨a, b, ?_, Nat.le_trans (show PyData.weightAll ds ≤ _ from e) (Nat.mul_le_mul_right _ n), f⟩
  show PyData.depthAll ds + 1 ≤ k + 1
  omega
theorem Sd.tuple {k w m : Nat} {ds : List PyData} (h : ∀ d ∈ ds, Sd k w d) (n : ds.length ≤ m) : Sd (k + 1) (m * (w + 1)) (.tuple ds) := by
  obtain ⟨a, b, c, e, f⟩ := Sd.all h
  refine ⟨a, b, ?_, Nat.le_trans (show PyData.weightAll ds ≤ _ from e) (Nat.mul_le_mul_right _ n), f⟩
  show PyData.depthAll ds + 1 ≤ k + 1
  omega
theorem Sd.int {i : Int} (h : i.natAbs < 10 ^ 12) : Sd 0 40 (.int i) := by
  have lg : i.natAbs.log2 < 40 := by
    by_cases c : i.natAbs = 0
    · rw [c]; decide
    · exact (Nat.log2_lt c).mpr (Nat.lt_trans h (by decide))
  refine ⟨decide_eq_true (Nat.lt_trans lg (by decide)), rfl, Nat.le_refl _, ?_, decide_eq_true (PyData.shown_int_le h)⟩
  show (if i == 0 then 0 else i.natAbs.log2 + 1) ≤ 40
  split <;> omega
theorem Sd.ok {k w : Nat} {d : PyData} (h : Sd k w d) (a : k ≤ 20) (b : w ≤ 2 ^ 20) : d.showable = true ∧ d.depth ≤ 20 ∧ d.shown.length ≤ sizeLine := by
  refine ⟨h.sh, Nat.le_trans h.dp a, PyData.shown_fits_of_layable0 (B := 13) (by decide) (by decide) ?_ h.it⟩
  show (PyData.canLay0 d && decide (PyData.depth d ≤ 64) && decide (PyData.weight d ≤ 2 ^ 20)) = true
  rw [h.cl, decide_eq_true (Nat.le_trans h.dp (Nat.le_trans a (by decide))), decide_eq_true (Nat.le_trans h.wt b)]
  rfl
theorem sv_map {α : Type} {H : Hp} {f : α → V} {g : α → PyData} : ∀ {xs : List α}, (∀ x ∈ xs, Fg.Sv H (f x) (g x)) → Fg.SvA H (xs.map f) (xs.map g)
  | [], _ => .nil
  | x :: r, h => .cons (h x List.mem_cons_self) (sv_map fun y hy => h y (List.mem_cons_of_mem _ hy))
theorem Sd.str {z : Str} {w : Nat} (h : PyData.strOk z = true) (n : z.length ≤ w) : Sd 0 w (.str z) := ⟨rfl, h, Nat.le_refl _, n, rfl⟩
theorem lcd_sd {n : Nat} {H : Hp} {g : Lc} (h : LcOk n H g) (n30 : n ≤ 30) (a : g.nm.length ≤ 100) (b : g.pa.length ≤ 100) (c : g.un.length ≤ 100) : Sd 2 900 (lcd g) := by
  have hi : ∀ i : Int, i.natAbs < 2 ^ n → i.natAbs < 10 ^ 12 := fun i hi => Nat.lt_trans (Nat.lt_of_lt_of_le hi (Nat.pow_le_pow_right (by decide) n30)) (by decide)
  have tu : Sd 1 (2 * 41) (.tuple [.int g.t, .int g.u]) := Sd.tuple (fun d hd => by
    rcases List.mem_cons.mp hd with rfl | hd
    · exact Sd.int (hi _ h.2.1.bt)
    · rw [List.mem_singleton.mp hd]
      exact Sd.int (hi _ h.2.1.bu)) (Nat.le_refl _)
  refine (Sd.tuple (k := 1) (w := 100) (m := 4) (fun d hd => ?_) (Nat.le_refl _)).mono (by decide) (by decide)
  rcases List.mem_cons.mp hd with rfl | hd
  · exact (Sd.str h.2.2.1 a).mono (by decide) (Nat.le_refl _)
  rcases List.mem_cons.mp hd with rfl | hd
  · exact (Sd.str h.2.2.2.1 b).mono (by decide) (Nat.le_refl _)
  rcases List.mem_cons.mp hd with rfl | hd
  · exact (Sd.str h.2.2.2.2 c).mono (by decide) (Nat.le_refl _)
  · rw [List.mem_singleton.mp hd]
    exact tu.mono (by decide) (by decide)
theorem lcs_sv {n : Nat} {H : Hp} : ∀ {gs : List Lc}, (∀ g ∈ gs, LcOk n H g) → Fg.SvA H (gs.map fun g => V.ref g.q) (gs.map lcd)
  | [], _ => .nil
  | g :: r, h => .cons (.tup (h g List.mem_cons_self).1 (.cons (.str _) (.cons (.str _) (.cons (.str _) (.cons (.tup (h g List.mem_cons_self).2.1.at_ (.cons (.int _) (.cons (.int _) .nil))) .nil))))) (lcs_sv fun x hx => h x (List.mem_cons_of_mem _ hx))
/-- what of an answer can be shown -/
def AnsOk : Ans → Prop
  | .err tag v => PyData.strOk tag = true ∧ tag.length ≤ 100 ∧ ((∃ y, v = .str y ∧ PyData.strOk y = true ∧ y.length ≤ 300) ∨ v = .int 8)
  | .cues cs => ∀ c ∈ cs, c.nm.length ≤ 100 ∧ c.pa.length ≤ 100 ∧ c.un.length ≤ 100
theorem lcds_same : ∀ {gs hs : List Lc}, (∀ g ∈ gs, Am.Red g.t g.u) → (∀ g ∈ hs, Am.Red g.t g.u) → gs.map lcv = hs.map lcv → gs.map lcd = hs.map lcd
  | [], [], _, _, _ => rfl
  | [], _ :: _, _, _, e => by cases e
  | _ :: _, [], _, _, e => by cases e
  | g :: gs, h :: hs, p, q, e => by
    have e1 := (List.cons.inj e).1
    have e2 := (List.cons.inj e).2
    have ih := lcds_same (fun x hx => p x (List.mem_cons_of_mem _ hx)) (fun x hx => q x (List.mem_cons_of_mem _ hx)) e2
    have a1 : g.nm = h.nm := congrArg M04.Cue.nm e1
    have a2 : g.pa = h.pa := congrArg M04.Cue.pa e1
    have a3 : g.un = h.un := congrArg M04.Cue.un e1
    obtain ⟨a4, a5⟩ := vq_inj (p g List.mem_cons_self) (q h List.mem_cons_self) (congrArg M04.Cue.q e1)
    show lcd g :: gs.map lcd = lcd h :: hs.map lcd
    rw [ih]
    unfold lcd
    rw [a1, a2, a3, a4, a5]
theorem ans_two {H H2 : Hp} {r r2 : Addr} {a : Ans} (h : AnsV H r a) (h2 : AnsV H2 r2 a) (ok : AnsOk a) : ∃ d, Fg.Sv H (.ref r) d ∧ Fg.Sv H2 (.ref r2) d ∧ ShD d := by
  cases a with
  | err tag v =>
    obtain ⟨k1, k2, k3⟩ := ok
    rcases k3 with ⟨y, rfl, k3, k4⟩ | rfl
    · exact ⟨.list [.str tag, .str y], .lst h (.cons (.str _) (.cons (.str _) .nil)), .lst h2 (.cons (.str _) (.cons (.str _) .nil)), (Sd.list (k := 0) (w := 300) (m := 2) (fun d hd => by
        rcases List.mem_cons.mp hd with rfl | hd
        · exact Sd.str k1 (by omega)
        · rw [List.mem_singleton.mp hd]
          exact Sd.str k3 k4) (Nat.le_refl _)).ok (by decide) (by decide)⟩
    · exact ⟨.list [.str tag, .int 8], .lst h (.cons (.str _) (.cons (.int _) .nil)), .lst h2 (.cons (.str _) (.cons (.int _) .nil)), (Sd.list (k := 0) (w := 300) (m := 2) (fun d hd => by
        rcases List.mem_cons.mp hd with rfl | hd
        · exact Sd.str k1 (by omega)
        · rw [List.mem_singleton.mp hd]
          exact (Sd.int (by decide)).mono (Nat.le_refl _) (by decide)) (Nat.le_refl _)).ok (by decide) (by decide)⟩
  | cues cs =>
    obtain ⟨f, ls, n, e1, lc, n30, ev⟩ := h
    obtain ⟨f2, ls2, n2, e2, lc2, _, ev2⟩ := h2
    have es := lcds_same (fun g hg => (lc.ok g hg).2.1.rd) (fun g hg => (lc2.ok g hg).2.1.rd) (ev.trans ev2.symm)
    refine ⟨.list [.str "cues", .list (ls.map lcd)], .lst e1 (.cons (.str _) (.cons (.lst lc.l (lcs_sv lc.ok)) .nil)), .lst e2 (.cons (.str _) (.cons (by rw [es]; exact .lst lc2.l (lcs_sv lc2.ok)) .nil)), ?_⟩
    have inner : Sd 3 (14 * 901) (.list (ls.map lcd)) := Sd.list (fun d hd => by
      obtain ⟨g, hg, rfl⟩ := List.mem_map.mp hd
      have := ok (lcv g) (by rw [← ev]; exact List.mem_map_of_mem hg)
      exact lcd_sd (lc.ok g hg) n30 this.1 this.2.1 this.2.2) (by rw [List.length_map]; exact lc.n)
    refine (Sd.list (k := 3) (w := 14 * 901) (m := 2) (fun d hd => ?_) (Nat.le_refl _)).ok (by decide) (by decide)
    rcases List.mem_cons.mp hd with rfl | hd
    · exact (Sd.str (show PyData.strOk "cues" = true by decide +kernel) (show ("cues" : Str).length ≤ 10 by decide +kernel)).mono (by decide) (by decide)
    · rw [List.mem_singleton.mp hd]
      exact inner
end K34
set_option Elab.async false
set_option linter.all false
set_option maxRecDepth 100000
set_option maxHeartbeats 1000000
namespace K34
open PySem PySem.Spec PyProof.Rows L2 Fa Fb
theorem strOk_app {a b : Str} (h : PyData.strOk a = true) (h2 : PyData.strOk b = true) : PyData.strOk (a ++ b) = true := by
  unfold PyData.strOk at *
  rw [← Array.all_toList] at *
  have e : (a ++ b).cps.toList = a.cps.toList ++ b.cps.toList := cl_app a b
  rw [e, List.all_append, h, h2]
  rfl
theorem told_some {g : Str → Bool} : ∀ {r pre : List M04.Cue} {b : M34.Bad}, M34.told g pre r = some b → ∃ c ∈ r, b = .name c.nm ∨ b = .dup c.nm ∨ b = .unk c.pa
  | [], pre, b, h => by cases h
  | c :: r, pre, b, h => by
    unfold M34.told at h
    cases hb : M34.bad g (M04.all pre).nums c with
    | some x =>
      rw [hb] at h
      cases h
      refine ⟨c, List.mem_cons_self, ?_⟩
      unfold M34.bad at hb
      split at hb
      · exact .inl (Option.some.inj hb).symm
      · split at hb
        · exact .inr (.inl (Option.some.inj hb).symm)
        · split at hb
          · exact .inr (.inr (Option.some.inj hb).symm)
          · cases hb
    | none =>
      rw [hb] at h
      obtain ⟨d, hd, e⟩ := told_some h
      exact ⟨d, List.mem_cons_of_mem _ hd, e⟩
theorem unit_len {z : Str} (h : isUnit z = true) : z.length ≤ 100 := by
  unfold isUnit at h
  rw [Bool.or_eq_true, decide_eq_true_iff, decide_eq_true_iff] at h
  rcases h with rfl | rfl <;> decide +kernel
theorem ansA_ok {A B : List M04.Cue} {z pf : Str} (ga : GoodS A) (gb : GoodS B) (z1 : PyData.strOk z = true) (z2 : z.length ≤ 50) (p1 : PyData.strOk pf = true) (p2 : pf.length ≤ 50) : AnsOk (ansA A B z pf) := by
  have kc : ∀ c ∈ A ++ B.map (hung z pf), (PyData.strOk c.nm = true ∧ c.nm.length ≤ 100) ∧ (PyData.strOk c.pa = true ∧ c.pa.length ≤ 100) ∧ c.un.length ≤ 100 := fun c hc => by
    rcases List.mem_append.mp hc with hc | hc
    · have s := goodS_str ga c hc
      have n := isName_len (ga.2 c hc).1
      have p := pa_len ga hc
      exact ⟨⟨s.1, by omega⟩, ⟨s.2.1, by omega⟩, unit_len (ga.2 c hc).2⟩
    · obtain ⟨d, hd, rfl⟩ := List.mem_map.mp hc
      have s := goodS_str gb d hd
      have n := isName_len (gb.2 d hd).1
      have p := pa_len gb hd
      refine ⟨⟨strOk_app p1 s.1, by show (pf ++ d.nm).length ≤ 100; rw [len_app]; omega⟩, ?_, unit_len (gb.2 d hd).2⟩
      show PyData.strOk (if d.pa = "start" then z else pf ++ d.pa) = true ∧ (if d.pa = "start" then z else pf ++ d.pa).length ≤ 100
      by_cases c : d.pa = "start"
      · rw [if_pos c]; exact ⟨z1, by omega⟩
      · rw [if_neg c]; exact ⟨strOk_app p1 s.2.1, by rw [len_app]; omega⟩
  have t1 : PyData.strOk "cue" = true ∧ ("cue" : Str).length ≤ 100 := by decide +kernel
  have t2 : PyData.strOk "name" = true ∧ ("name" : Str).length ≤ 100 := by decide +kernel
  have t3 : PyData.strOk "twice" = true ∧ ("twice" : Str).length ≤ 100 := by decide +kernel
  have t4 : PyData.strOk "many" = true ∧ ("many" : Str).length ≤ 100 := by decide +kernel
  unfold ansA
  by_cases hz : z ∈ nmsOf A
  · rw [if_pos hz]
    by_cases hp : isName pf = false
    · rw [if_pos hp]
      exact ⟨t2.1, t2.2, .inl ⟨_, rfl, p1, by omega⟩⟩
    · rw [if_neg hp]
      unfold ansT
      cases ht : M34.told isName [] (A ++ B.map (hung z pf)) with
      | some b =>
        obtain ⟨c, hc, e⟩ := told_some ht
        have k := kc c hc
        rcases e with rfl | rfl | rfl
        · exact ⟨t2.1, t2.2, .inl ⟨_, rfl, k.1.1, Nat.le_trans k.1.2 (by decide)⟩⟩
        · exact ⟨t3.1, t3.2, .inl ⟨_, rfl, k.1.1, Nat.le_trans k.1.2 (by decide)⟩⟩
        · exact ⟨t1.1, t1.2, .inl ⟨_, rfl, k.2.1.1, Nat.le_trans k.2.1.2 (by decide)⟩⟩
      | none =>
        show AnsOk (if 8 < (M04.all (A ++ B.map (hung z pf))).rows.length then .err "many" (.int 8) else .cues (A ++ B.map (hung z pf)))
        by_cases c8 : 8 < (M04.all (A ++ B.map (hung z pf))).rows.length
        · rw [if_pos c8]
          exact ⟨t4.1, t4.2, .inr rfl⟩
        · rw [if_neg c8]
          exact fun c hc => ⟨(kc c hc).1.2, (kc c hc).2.1.2, (kc c hc).2.2⟩
  · rw [if_neg hz]
    exact ⟨t1.1, t1.2, .inl ⟨_, rfl, z1, by omega⟩⟩
theorem tlA_of {K : PySem.W.Frag} {H : Hp} {gs hs : List Cu} {o2 : Addr} {z pf : Str} {Q : VK} {H2 : Hp} (sh2 : ShAt K 20 H2 H o2 hs) (ga : GoodS (gs.map cv)) (gb : GoodS (hs.map cv)) (n : gs.length + hs.length ≤ 14) (pl : pf.length ≤ 100)
    (k : ∀ r H', Same H H' → AnsV H' r (ansA (gs.map cv) (hs.map cv) z pf) → H r = none → Q (.ref r) H') : TlA K H gs 20 (.ref o2) (.str z) (.str pf) Q := by
  refine .inr ⟨o2, 20, H2, hs, rfl, sh2, .inr ⟨z, rfl, ?_⟩⟩
  unfold ansA at k
  cases hz : M04.num (M04.all (gs.map cv)).nums z with
  | none =>
    have hn : z ∉ nmsOf (gs.map cv) := fun h => by
      have := (M34.num_mem _ _).mpr h
      rw [hz] at this
      cases this
    rw [if_neg hn] at k
    exact .inl ⟨rfl, fun l H' s' e' n' => k l H' s' e' n'⟩
  | some i =>
    have hn : z ∈ nmsOf (gs.map cv) := (M34.num_mem _ _).mp (by rw [hz]; rfl)
    rw [if_pos hn] at k
    refine .inr ⟨rfl, .inr ⟨pf, rfl, Nat.le_trans pl (by decide), ?_⟩⟩
    cases hp : isName pf with
    | false =>
      rw [if_pos hp] at k
      exact .inl ⟨rfl, fun l H' s' e' n' => k l H' s' e' n'⟩
    | true =>
      rw [if_neg (by rw [hp]; decide)] at k
      exact .inr ⟨rfl, ga, gb, n, by decide, by decide, k⟩
/-- names with a b before are new -/
theorem b_names : ∀ st ∈ stems, ∀ st2 ∈ stems, ∀ z ∈ (nmL st2).take 5, isName ("b" ++ z) = true ∧ ("b" ++ z) ∉ nmL st ∧ ("b" ++ z : Str) ≠ "start" ∧ ("b" ++ z : Str) ≠ "zz9zz" ∧ ("b" ++ z : Str) ≠ "zz1" := by decide +kernel
theorem zz_names : ∀ st ∈ stems, ∀ z ∈ nmL st, z ≠ "zz1" := by decide +kernel
/-- the last cue by another name -/
theorem rows_last (A : List M04.Cue) (c d : M04.Cue) (h1 : c.pa = d.pa) (h2 : c.un = d.un) (h3 : c.q = d.q) : (M04.all (A ++ [c])).rows = (M04.all (A ++ [d])).rows := by
  rw [M04.all_app, M04.all_app]
  show M04.rows _ c = M04.rows _ d
  unfold M04.rows M04.row
  rw [h1, h2, h3]
end K34
namespace K34
open PySem PySem.Spec PyProof.Rows L2 Fa Fb
/-- a cue with the name N changed to N2 -/
def rn (N N2 : Str) (z : Str) : Str := if z = N then N2 else z
def ren (N N2 : Str) (c : M04.Cue) : M04.Cue := ⟨rn N N2 c.nm, rn N N2 c.pa, c.un, c.q⟩
theorem ren_last {A : List M04.Cue} {c : M04.Cue} {N2 : Str} (g : M04.Good (A ++ [c])) : (A ++ [c]).map (ren c.nm N2) = A ++ [⟨N2, c.pa, c.un, c.q⟩] ∧ M04.Good A ∧ c.pa ∈ ("start" : Str) :: A.map (·.nm) ∧ c.nm ∉ ("start" : Str) :: A.map (·.nm) := by
  have gi := (M04.good_iff _).mp g
  have lastE : (A ++ [c])[A.length]? = some c := by rw [List.getElem?_append_right (Nat.le_refl _), Nat.sub_self]; rfl
  obtain ⟨l1, l2⟩ := gi _ c lastE
  have et : (A ++ [c]).take A.length = A := List.take_left' rfl
  rw [et] at l1 l2
  · have gA : M04.Good A := by
      have := M04.good_take g A.length
      rwa [et] at this
    refine ⟨?_, gA, l2, l1⟩
    rw [List.map_append]
    have e1 : A.map (ren c.nm N2) = A := by
      conv => rhs; rw [← List.map_id A]
      refine List.map_congr_left fun d hd => ?_
      have n1 : d.nm ≠ c.nm := fun e => l1 (by rw [← e]; exact List.mem_cons_of_mem _ (List.mem_map_of_mem hd))
      have n2 : d.pa ≠ c.nm := fun e => by
        obtain ⟨i, hi, ei⟩ := List.mem_iff_getElem.mp hd
        have := ((M04.good_iff A).mp gA i d (by rw [List.getElem?_eq_getElem hi, ei])).2
        rw [e] at this
        rcases List.mem_cons.mp this with h | h
        · exact l1 (by rw [h]; exact List.mem_cons_self)
        · exact l1 (List.mem_cons_of_mem _ (by rw [List.map_take] at h; exact List.mem_of_mem_take h))
      show M04.Cue.mk (rn c.nm N2 d.nm) (rn c.nm N2 d.pa) d.un d.q = d
      unfold rn
      rw [if_neg n1, if_neg n2]
    rw [e1]
    congr 1
    have n3 : c.pa ≠ c.nm := fun e => l1 (by rw [← e]; exact l2)
    show [M04.Cue.mk (rn c.nm N2 c.nm) (rn c.nm N2 c.pa) c.un c.q] = _
    unfold rn
    rw [if_pos rfl, if_neg n3]
theorem valV_one (N N2 z : Str) : (valV [((Sum.inr N : Key), V.str N2)] (Sum.inr z)).getD (.str z) = .str (rn N N2 z) := by
  unfold rn
  by_cases c : z = N
  · subst c
    rw [if_pos rfl, valV_pos rfl]
    rfl
  · rw [if_neg c, valV_neg fun e => c (Sum.inr.inj e).symm]
    rfl
end K34
set_option Elab.async false
set_option linter.all false
set_option maxRecDepth 100000
set_option maxHeartbeats 8000000
set_option exponentiation.threshold 100000
namespace K34
open PySem PySem.Spec PyProof.Rows L2 Fa Fb
abbrev sLaw : Stmt := top 72
theorem scLaw : FnScope ["_law_script", "_law_k", "_law_box_here", "_law_cues_here", "_law_more", "_law_names", "_law_sheet", "_law_other", "_law_turn", "_law_at", "_law_prefix", "_law_found", "_law_due_here", "_law_cue"] ["_law_script"] (defScope sLaw) := ⟨rfl, rfl, rfl, by decide +kernel, rfl, by decide +kernel, by decide +kernel⟩
structure FnS2 (P : Program) (w : World) (K : PySem.W.Frag) (mg : Str → Option Value) (base : Heap) (x : Str) (lev : Nat) (ps : List Str) (sp : Sp) (f : Addr) (fd : FuncData) : Prop where
  ok : Fg.FnG P w K mg base (L2.CX P w) lev f fd ps sp
  g : mg x = some (.ref f)
  k : PySem.W.keepIn K (.ref f) = true
  b : Binds K fd ps []
abbrev aS (K : PySem.W.Frag) : Addr := He.ma K (CS K) "__init__"
def spLaw (K : PySem.W.Frag) : Sp := fun vs H Q _ => ∃ (a : Addr) (ns : List Int), vs = [.ref a] ∧ SqL K H a (ns.map V.int) ∧ ns.length ≤ 63 ∧ ∀ H', Q (.bl true) H'
/-- the law's two lists of cues -/
structure LwE (H : Hp) (p l lm : Addr) (cs ms : List Lc) (m : Nat) : Prop where
  bx : Box H p m
  lc : LsC 20 H l cs
  lk : LsC 20 H lm ms
  lp : l ≠ p
  mp : lm ≠ p
  gd : GoodL (cs.map lcv)
  gm : GoodL (ms.map lcv)
  r8 : (M04.all (cs.map lcv)).rows.length ≤ 8
  rm : (M04.all (ms.map lcv)).rows.length ≤ 8
  n5 : cs.length ≤ 5
  m5 : ms.length ≤ 5
  nz : ∀ c ∈ cs.map lcv, c.nm ≠ "zz1"
theorem LwE.kp {H H' : Hp} {p l lm : Addr} {cs ms : List Lc} {m m' : Nat} (h : LwE H p l lm cs ms m) (k : Kp p H H') (b : Box H' p m') : LwE H' p l lm cs ms m' :=
  { h with bx := b, lc := h.lc.kp h.bx k h.lp, lk := h.lk.kp h.bx k h.mp }
/-- and their sheets -/
structure LwF (K : PySem.W.Frag) (H : Hp) (p o o2 l lm : Addr) (gs hs : List Cu) (cs ms : List Lc) (m : Nat) : Prop where
  e : LwE H p l lm cs ms m
  sh : ∃ H0, ShAt K 20 H0 H o gs
  sh2 : ∃ H0, ShAt K 20 H0 H o2 hs
  ev : gs.map cv = cs.map lcv
  ev2 : hs.map cv = ms.map lcv
theorem LwF.kp {K : PySem.W.Frag} {H H' : Hp} {p o o2 l lm : Addr} {gs hs : List Cu} {cs ms : List Lc} {m m' : Nat} (h : LwF K H p o o2 l lm gs hs cs ms m) (k : Kp p H H') (b : Box H' p m') : LwF K H' p o o2 l lm gs hs cs ms m' :=
  ⟨h.e.kp k b, let ⟨H0, s⟩ := h.sh; ⟨H0, s.kp h.e.bx k b⟩, let ⟨H0, s⟩ := h.sh2; ⟨H0, s.kp h.e.bx k b⟩, h.ev, h.ev2⟩
theorem LwF.same {K : PySem.W.Frag} {H H' : Hp} {p o o2 l lm : Addr} {gs hs : List Cu} {cs ms : List Lc} {m : Nat} (h : LwF K H p o o2 l lm gs hs cs ms m) (s : Same H H') : LwF K H' p o o2 l lm gs hs cs ms m := h.kp (Kp.same s) (h.e.bx.sm s)
theorem LwF.tr {K : PySem.W.Frag} {H : Hp} {p o o2 l lm : Addr} {gs hs : List Cu} {cs ms : List Lc} {m : Nat} (h : LwF K H p o o2 l lm gs hs cs ms m) : TrE K H p o l gs cs m := ⟨h.e.bx, h.e.lc, h.e.lp, h.e.gd, h.sh, h.ev, h.e.r8⟩
theorem zz_none {gs : List Cu} {cs : List M04.Cue} (ev : gs.map cv = cs) (g : GoodL cs) : M04.num (M04.all (gs.map cv)).nums "zz9zz" = none := by
  rw [ev]
  refine M04.num_none.mpr fun h => ?_
  rw [M04.names_all] at h
  rcases List.mem_cons.mp h with h | h
  · exact absurd h (by decide +kernel)
  · obtain ⟨c, hc, e⟩ := List.mem_map.mp h
    exact (g.2 c hc).2.1 e
abbrev SLw (a : Addr) (kk : Option V) (p l lm : Addr) (v5 v6 v7 v8 v9 v10 v11 v12 : Option V) : L2.St := [some (.ref a), kk, some (.ref p), some (.ref l), some (.ref lm), v5, v6, v7, v8, v9, v10, v11, v12, none]
theorem AnsV.same {H H' : Hp} {r : Addr} {a : Ans} (h : AnsV H r a) (s : Same H H') : AnsV H' r a := by
  cases a with
  | err t v => exact s _ _ h
  | cues cs => obtain ⟨f, ls, n, a, b, c, d⟩ := h; exact ⟨f, ls, n, s _ _ a, b.same s, c, d⟩
def sLw1 (K : PySem.W.Frag) : TS := fun D σ H' => ∃ a kk p l lm cs ms m v5 v6 v7 v8 v9 v10 v11 v12, σ = SLw a kk p l lm v5 v6 v7 v8 v9 v10 v11 v12 ∧ LwE H' p l lm cs ms m ∧ m ≤ 1000 ∧ ∀ v5 v6 v7 v8 v9 v10 v11 v12 H'', Kp p H' H'' → D.nx (SLw a kk p l lm v5 v6 v7 v8 v9 v10 v11 v12) H''
/-- the names that are asked for -/
abbrev askN (cs : List Lc) : List Str := (("start" : Str) :: cs.map (·.nm)) ++ [("zz9zz" : Str), "c9"]
def sLw2 (K : PySem.W.Frag) : TS := fun D σ H' => ∃ a kk p o o2 l lm nmA gs hs cs ms m v8 v9 v10 v11 v12, σ = SLw a kk p l lm (some (.ref nmA)) (some (.ref o)) (some (.ref o2)) v8 v9 v10 v11 v12 ∧ LwF K H' p o o2 l lm gs hs cs ms m ∧ m ≤ 2000 ∧ nmA ≠ p ∧ H' nmA = some (.lst ((askN cs).map V.str)) ∧ ∀ v5 v6 v7 v8 v9 v10 v11 v12 H'', Kp p H' H'' → D.nx (SLw a kk p l lm v5 v6 v7 v8 v9 v10 v11 v12) H''
section
variable {P : Program} {w : World} {K : PySem.W.Frag} {mg : Str → Option Value} {base : Heap} {f f1 f2 f3 f4 f5 f6 f7 f8 f9 fa fb fc fe fg : Addr} {fd fd1 fd2 fd3 fd4 fd5 fd6 fd7 fd8 fd9 fda fdb fdc fde fdg fdI : FuncData}
theorem ok_law (F : FnP K "law" sLaw f fd) (hS : Fg.SysD K) (T : AF K mg) (M : MF K mg) (MKS : Mk K (CS K) (aS K)) (mL : mg "len" = none) (mG : mg "range" = none) (mMax : mg "max" = none) (mMin : mg "min" = none) (mR : mg "repr" = none)
    (BC : Fn0 P w K mg base "_law_cell" 1 ["_law_script", "_law_k"] (spCel K) f1 fd1) (BB : Fn0 P w K mg base "_law_box" 1 ["_law_cell_here"] spBox f2 fd2) (GT : Fn0 P w K mg base "_law_take" 1 ["_law_box_here", "_law_many"] spTake f3 fd3) (LC : Fn P w K mg base "_law_cues" 6 ["_law_box_here", "_law_limit", "_law_most_cues"] spLcu f4 fd4) (PA : Fn P w K mg base "_law_passed" 6 ["_law_cues_here"] (spPas K) f5 fd5)
    (TR : Fn P w K mg base "_law_turned_right" 13 ["_law_box_here", "_law_sheet", "_law_cues_here"] (spTr K) f6 fd6) (OD : FnS2 P w K mg base "_law_odd_right" 14 ["_law_sheet"] (spOdd K) f7 fd7) (AR : Fn P w K mg base "_law_alike_right" 12 ["_law_box_here", "_law_sheet", "_law_cues_here", "_law_more"] (spAr K) f8 fd8)
    (TL : Fn P w K mg base "_law_told" 13 ["_law_way", "_law_things"] (spTld K) f9 fd9) (DU : Fn P w K mg base "_law_due" 6 ["_law_cues_here", "_law_more", "_law_at", "_law_prefix"] (spDue K) fa fda) (PL : Fn P w K mg base "_law_plain" 3 ["_law_sheet"] (spPln K) fb fdb) (AT : Fn P w K mg base "attached" 12 ["sheet", "other", "at", "prefix"] (spAtt K) fc fdc)
    (SR : Fn P w K mg base "_law_start_right" 13 [] (spSr K) fe fde) (EQS : EqS P w K mg base fg fdg) (SI : FnOk P w K mg base (L2.CX P w) 10 (aS K) fdI ["self", "cues"] (spSI K)) (bS : Binds K fdI ["self", "cues"] []) : Fg.FnG P w K mg base (L2.CX P w) 15 f fd ["_law_script"] (spLaw K) := by
  refine Fg.okG F scLaw (fun vs H Q E h => ?_) (fun cdv A outer s H vs Q E G hr h => ?_)
  · obtain ⟨a, ns, rfl, _⟩ := h
    rfl
  · obtain ⟨a, ns, rfl, ha, hn, q⟩ := h
    have hu : (A.deeper (envOfC "law" (defScope sLaw) s.heap.objs.size f cdv)).units + 64 < cLine := by
      have := hr.un
      omega
    have hu1 : (A.deeper (envOfC "law" (defScope sLaw) s.heap.objs.size f cdv)).units + 1 < cLine := by
      have := hr.un
      omega
    have hr1 := hr.mono (show 1 ≤ 14 by decide)
    have hr3 := hr.mono (show 3 ≤ 14 by decide)
    have hr6 := hr.mono (show 6 ≤ 14 by decide)
    have hr7 := hr.mono (show 7 ≤ 14 by decide)
    have hr11 := hr.mono (show 11 ≤ 14 by decide)
    have hr12 := hr.mono (show 12 ≤ 14 by decide)
    have hr13 := hr.mono (show 13 ≤ 14 by decide)
    have hr14 := hr.mono (show 14 ≤ 14 by decide)
    refine ⟨_, (pss_cons (ps_for (passes_of rfl) rfl (pi_range1 rfl mG (pa_cons (pe_callB (call_max2 rfl) rfl mMax (by decide +kernel) (pa_cons pe_int (pa_cons (pe_callB (call_min2 rfl) rfl mMin (by decide +kernel) (pa_cons pe_int (pa_cons (pe_callB call_len rfl mL PySem.boot_len (pa_cons (pv 0) pa_nil)) pa_nil))) pa_nil))) pa_nil)) (pg_name (i := 1) scLaw.nd rfl (Or.inl rfl))
      (pss_cons (ps_set (i := 2) scLaw.nd rfl (Or.inl rfl) (pe_call BB.ok hr1 rfl BB.g BB.k BB.b .nil pass0 (pa_cons (pe_call BC.ok hr1 rfl BC.g BC.k BC.b .nil pass0 (pa_cons (pv 0) (pa_cons (pv 1) pa_nil))) pa_nil)))
      (pss_cons (ps_par (by rfl) scLaw.nd (i := 3) (j := 4) rfl rfl (by decide) rfl rfl (pa_cons (pe_call LC.ok hr6 rfl LC.g LC.k LC.b .nil passL (pa_cons (pv 2) (pa_cons pe_int (pa_cons pe_int pa_nil)))) (pa_cons (pe_call LC.ok hr6 rfl LC.g LC.k LC.b .nil passL (pa_cons (pv 2) (pa_cons pe_int (pa_cons pe_int pa_nil)))) pa_nil)) (by rfl))
      (pss_cons (ps_if (PW.pt (pw_and (pt_cmpR (Fk.op_neNil hu) (pv 3) (pe_lst pa_nil) (nomark _)) (pw_and (pt_cmpR (Fk.op_neNil hu) (pv 4) (pe_lst pa_nil) (nomark _)) (pw_and1 (pt_cmpR op_eq (pe_call GT.ok hr1 rfl GT.g GT.k GT.b .nil pass0 (pa_cons (pv 2) (pa_cons pe_int pa_nil))) pe_int (nomark _)))))) (pss_cons (ps_set (i := 5) scLaw.nd rfl (Or.inr rfl) (pe_disp (pps_cons (pe_ix ix_tup (pe_ix ix_list (pv 3) (pe_un un_neg pe_int) (fun _ _ => rfl)) pe_int (fun _ _ => rfl)) (pe_op op_add_str pe_str (pe_ix ix_tup (pe_ix ix_list (pv 4) (pe_un un_neg pe_int) (fun _ _ => rfl)) pe_int (fun _ _ => rfl))) pps_nil) rfl rfl (by simp) (by decide)))
      (pss_one (ps_setLc (i := 3) (own := [("_law_cue", 13)]) (g := gName 13) (te := tTup (tCons (tDGet2 (tVar 5) (tOp (rIxT K) (tVar 13) (tC (.int 0))) (tOp (rIxT K) (tVar 13) (tC (.int 0)))) (tCons (tDGet2 (tVar 5) (tOp (rIxT K) (tVar 13) (tC (.int 1))) (tOp (rIxT K) (tVar 13) (tC (.int 1)))) (tCons (tOp (rIxT K) (tVar 13) (tC (.int 2))) (tCons (tOp (rIxT K) (tVar 13) (tC (.int 3))) tNil))))) (by rfl) scLaw.nd rfl rfl (sw_true rfl rfl rfl (by decide +kernel)) (pi_list (pv 3)) (blkOk_by (own := [("_law_cue", 13)]) (N := ["_law_script", "_law_k", "_law_box_here", "_law_cues_here", "_law_more", "_law_names", "_law_sheet", "_law_other", "_law_turn", "_law_at", "_law_prefix", "_law_found", "_law_due_here", "_law_cue"]) (sc := defScope sLaw) (by decide +kernel)) (fun _ _ _ _ _ => (pg_name (i := 13) scLaw.nd rfl (Or.inl rfl))) (fun _ _ _ _ _ => pts_nil) (fun _ _ _ _ _ => (pe_tup (pa_cons (pe_dget2 hu1 (pv 5) (pe_ix ix_tup (pv 13) pe_int (fun _ _ => rfl)) (pe_ix ix_tup (pv 13) pe_int (fun _ _ => rfl)) ⟨rfl, rfl, rfl, rfl⟩) (pa_cons (pe_dget2 hu1 (pv 5) (pe_ix ix_tup (pv 13) pe_int (fun _ _ => rfl)) (pe_ix ix_tup (pv 13) pe_int (fun _ _ => rfl)) ⟨rfl, rfl, rfl, rfl⟩) (pa_cons (pe_ix ix_tup (pv 13) pe_int (fun _ _ => rfl)) (pa_cons (pe_ix ix_tup (pv 13) pe_int (fun _ _ => rfl)) pa_nil))))))))) pss_nil)
      (pss_imp (S := sLw1 K) (pss_cons (ps_par (by rfl) scLaw.nd (i := 6) (j := 7) rfl rfl (by decide) rfl rfl (pa_cons (pe_make MKS SI hr11 rfl M.g bS .nil passL (pa_cons (pe_call PA.ok hr6 rfl PA.g PA.k PA.b .nil passL (pa_cons (pv 3) pa_nil)) pa_nil)) (pa_cons (pe_make MKS SI hr11 rfl M.g bS .nil passL (pa_cons (pe_call PA.ok hr6 rfl PA.g PA.k PA.b .nil passL (pa_cons (pv 4) pa_nil)) pa_nil)) pa_nil)) (by rfl))
      (pss_cons (ps_if (PW.pt (pw_or (pt_not (pt_val (pe_call TR.ok hr13 rfl TR.g TR.k TR.b .nil passL (pa_cons (pv 2) (pa_cons (pv 6) (pa_cons (pv 3) pa_nil)))))) (pw_or1 (pt_not (pt_val (Fg.pe_callG G OD.ok hr14 rfl OD.g OD.k OD.b passS (pa_cons (pv 6) pa_nil))))))) (pss_one (ps_ret pe_bl)) pss_nil)
      (pss_cons (ps_if (pt_not (pt_val (pe_call AR.ok hr12 rfl AR.g AR.k AR.b .nil passL (pa_cons (pv 2) (pa_cons (pv 6) (pa_cons (pv 3) (pa_cons (pv 4) pa_nil))))))) (pss_one (ps_ret pe_bl)) pss_nil)
      (pss_cons (ps_set (i := 5) scLaw.nd rfl (Or.inr rfl) (pe_op op_cat (pe_op op_cat (pe_lst (pa_cons pe_str pa_nil)) (pe_lc (own := [("_law_cue", 13)]) (g := gName 13) (te := (tOp (rIxT K) (tVar 13) (tC (.int 0)))) (by rfl) scLaw.nd (pi_list (pv 3)) (blkOk_by (own := [("_law_cue", 13)]) (N := ["_law_script", "_law_k", "_law_box_here", "_law_cues_here", "_law_more", "_law_names", "_law_sheet", "_law_other", "_law_turn", "_law_at", "_law_prefix", "_law_found", "_law_due_here", "_law_cue"]) (sc := defScope sLaw) (by decide +kernel)) (fun _ _ _ _ _ => (pg_name (i := 13) scLaw.nd rfl (Or.inl rfl))) (fun _ _ _ _ _ => pts_nil) (fun _ _ _ _ _ => (pe_ix ix_tup (pv 13) pe_int (fun _ _ => rfl))))) (pe_lst (pa_cons pe_str (pa_cons pe_str pa_nil)))))
      (pss_imp (S := sLw2 K) (pss_cons (ps_for (passes_of rfl) rfl (pi_range1 rfl mG (pa_cons pe_int pa_nil)) (pg_name (i := 8) scLaw.nd rfl (Or.inl rfl))
      (pss_cons (ps_set (i := 9) scLaw.nd rfl (Or.inl rfl) (pe_ix ix_list (pv 5) (pe_call GT.ok hr1 rfl GT.g GT.k GT.b .nil pass0 (pa_cons (pv 2) (pa_cons (pe_callB call_len rfl mL PySem.boot_len (pa_cons (pv 5) pa_nil)) pa_nil))) (fun _ _ => rfl)))
      (pss_cons (ps_set (i := 10) scLaw.nd rfl (Or.inl rfl) (pe_ix ix_list (pe_lst (pa_cons pe_str (pa_cons pe_str (pa_cons pe_str (pa_cons pe_str (pa_cons pe_str (pa_cons pe_str (pa_cons pe_str (pa_cons pe_str (pa_cons pe_str pa_nil)))))))))) (pe_call GT.ok hr1 rfl GT.g GT.k GT.b .nil pass0 (pa_cons (pv 2) (pa_cons pe_int pa_nil))) (fun _ _ => rfl)))
      (pss_cons (ps_par (by rfl) scLaw.nd (i := 11) (j := 12) rfl rfl (by decide) rfl rfl (pa_cons (pe_call TL.ok hr13 rfl TL.g TL.k TL.b .nil passL (pa_cons pe_int (pa_cons (pe_lst (pa_cons (pv 6) (pa_cons (pv 7) (pa_cons (pv 9) (pa_cons (pv 10) pa_nil))))) pa_nil))) (pa_cons (pe_call DU.ok hr6 rfl DU.g DU.k DU.b .nil passL (pa_cons (pv 3) (pa_cons (pv 4) (pa_cons (pv 9) (pa_cons (pv 10) pa_nil))))) pa_nil)) (by rfl))
      (pss_one (ps_if (PW.pt (pw_or (pt_cmpR op_ne (pe_callB (Fg.call_reprD hS G hu) rfl mR boot_repr (pa_cons (pv 11) pa_nil)) (pe_callB (Fg.call_reprD hS G hu) rfl mR boot_repr (pa_cons (pv 12) pa_nil)) (nomark _)) (pw_or (pt_cmpR (op_neD hu) (pe_call PL.ok hr3 rfl PL.g PL.k PL.b .nil passL (pa_cons (pv 6) pa_nil)) (pv 3) (nomark _)) (pw_or1 (pt_cmpR (op_neD hu) (pe_call PL.ok hr3 rfl PL.g PL.k PL.b .nil passL (pa_cons (pv 7) pa_nil)) (pv 4) (nomark _)))))) (pss_one (ps_ret pe_bl)) pss_nil))))))
      (pss_one (ps_if (pt_cmp (Fn.pe_neX EQS.at_ EQS.fn EQS.ne EQS.ob EQS.ok hr7 EQS.b passS (pe_call AT.ok hr12 rfl AT.g AT.k AT.b .nil passL (pa_cons (pv 6) (pa_cons (pe_make MKS SI hr11 rfl M.g bS .nil passL (pa_cons (pe_lst pa_nil) pa_nil)) (pa_cons pe_str (pa_cons pe_str pa_nil))))) (pv 6))) (pss_one (ps_ret pe_bl)) pss_nil))) ?c2))))) ?c1)))))
      (pss_one (ps_ret (pe_call0 SR.ok hr13 rfl SR.g SR.k SR.b .nil passL)))), ?_⟩
    case c1 =>
      rintro D σ H1 ⟨a, kk, p, l, lm, cs, ms, m, v5, v6, v7, v8, v9, v10, v11, v12, rfl, e, hm, kn⟩
      refine ⟨_, rfl, l, cs, 20, rfl, e.lc, by decide, by decide, fun r xs H2 s2 hr' xl xi r0 => ?_⟩
      have e2 := e.kp (Kp.same s2) (e.bx.sm s2)
      refine fun o dx hx hdx hne => ?_
      refine make_any (mm := 20) (cs := cs.map lcv) (.inl hr') (by rw [List.length_map, List.length_map, xl]) xi e.gd.s.ok (by rw [List.length_map]; exact Nat.le_trans e.lc.n (by decide)) (by decide) (by decide) hx hdx hne (mkP_good e.gd.s e.r8 fun H3 gs s3 sh3 ev3 => ⟨rfl, ?_⟩)
      have e3 := e2.kp (Kp.same s3) (e2.bx.sm s3)
      refine ⟨_, rfl, lm, ms, 20, rfl, e3.lk, by decide, by decide, fun r2 xs2 H4 s4 hr2 xl2 xi2 r20 => ?_⟩
      have e4 := e3.kp (Kp.same s4) (e3.bx.sm s4)
      refine fun o2 dx2 hx2 hdx2 hne2 => ?_
      refine make_any (mm := 20) (cs := ms.map lcv) (.inl hr2) (by rw [List.length_map, List.length_map, xl2]) xi2 e.gm.s.ok (by rw [List.length_map]; exact Nat.le_trans e.lk.n (by decide)) (by decide) (by decide) hx2 hdx2 hne2 (mkP_good e.gm.s e.rm fun H5 hs s5 sh5 ev5 => ⟨rfl, ?_⟩)
      have s15 := s2.trans (s3.trans (s4.trans s5))
      have F5 : LwF K H5 p o o2 l lm gs hs cs ms m := ⟨e4.kp (Kp.same s5) (e4.bx.sm s5), ⟨_, sh3.same (s4.trans s5)⟩, ⟨_, sh5⟩, ev3, ev5⟩
      refine ⟨_, _, rfl, _, rfl, _, rfl, _, rfl, p, o, l, gs, cs, m, rfl, F5.tr, by omega, fun H6 k6 b6 => ⟨_, rfl, if_false_of (by rfl) ?_⟩⟩
      have F6 := F5.kp k6 b6
      obtain ⟨H06, sh6⟩ := F6.sh
      refine ⟨_, rfl, o, 20, H06, gs, rfl, sh6, zz_none ev3 e.gd, fun H7 s7 => ⟨_, rfl, if_false_of (by rfl) ?_⟩⟩
      have F7 := F6.same s7
      refine ⟨_, rfl, _, rfl, _, rfl, _, rfl, p, o, l, lm, gs, cs, ms, m + 5, rfl, F7.tr, F7.e.lk, F7.e.mp, e.gm.s, e.rm, e.nz, by omega, fun H8 k8 b8 => ⟨_, rfl, if_false_of (by rfl) ?_⟩⟩
      have F8 := F7.kp k8 b8
      have c5 := e.n5
      refine ⟨by show 1 ≤ sizeLine; decide, fun la hla => ?_⟩
      have s9 := Same.upd (o := .lst [.str "start"]) hla
      have x9 : upd H8 la (.lst [.str "start"]) la = some (.lst [.str "start"]) := upd_same
      generalize upd H8 la (.lst [.str "start"]) = H9 at s9 x9 ⊢
      have F9 := F8.same s9
      refine ⟨_, rfl, l, rfl, ⟨_, SqL.of F9.e.lc.l⟩, fun D2 hD2 => ?_⟩
      refine lc_list (K := K) (a := l) (xs := cs.map fun g => V.ref g.q) (fun i H' => Same H9 H' ∧ H' D2 = some (.lst (((cs.map (·.nm)).take i).map V.str))) ⟨Same.upd hD2, upd_same⟩ (fun i H' _ ⟨s, _⟩ => SqL.of (s _ _ F9.e.lc.l)) ?_ ?_
      · rintro i x J hx ⟨sJ, eJ⟩
        obtain ⟨g, eg, rfl⟩ := map_at hx
        have hi := (List.getElem?_eq_some_iff.mp eg).1
        obtain ⟨g1, _⟩ := (F9.e.lc.ok g (List.mem_of_getElem? eg)).kt (KT.of sJ)
        refine ⟨rfl, _, rfl, g.q, _, 0, _, rfl, rfl, SqT.of g1, rfl, _, eJ, ?_, same_put sJ hD2, ?_⟩
        · rw [List.length_map, List.length_take, List.length_map]
          exact Nat.lt_of_lt_of_le (show _ < 100 by omega) (by decide)
        · rw [upd_same, List.take_add_one, List.getElem?_map, eg, List.map_append]
          rfl
      rintro H10 ⟨s10, x10⟩
      rw [List.length_map, List.take_of_length_le (by rw [List.length_map]; exact Nat.le_refl _)] at x10
      refine ⟨la, D2, _, _, rfl, rfl, s10 _ _ x9, x10, ?_, fun l3 hl3 => ?_⟩
      · rw [List.length_map, List.length_map]
        exact Nat.le_trans (show 1 + cs.length ≤ 100 by omega) (by decide)
      have s11 := Same.upd (o := .lst ([V.str "start"] ++ (cs.map (·.nm)).map V.str)) hl3
      have x11 : upd H10 l3 (.lst ([V.str "start"] ++ (cs.map (·.nm)).map V.str)) l3 = some (.lst ([V.str "start"] ++ (cs.map (·.nm)).map V.str)) := upd_same
      generalize upd H10 l3 (.lst ([V.str "start"] ++ (cs.map (·.nm)).map V.str)) = H11 at s11 x11 ⊢
      refine ⟨by show 2 ≤ sizeLine; decide, fun l4 hl4 => ?_⟩
      have s12 := Same.upd (o := .lst [V.str "zz9zz", .str "c9"]) hl4
      have x12 : upd H11 l4 (.lst [V.str "zz9zz", .str "c9"]) l4 = some (.lst [V.str "zz9zz", .str "c9"]) := upd_same
      generalize upd H11 l4 (.lst [V.str "zz9zz", .str "c9"]) = H12 at s12 x12 ⊢
      refine ⟨l3, l4, _, _, rfl, rfl, s12 _ _ x11, x12, ?_, fun nmA hnm => ?_⟩
      · rw [List.length_append, List.length_map, List.length_map]
        exact Nat.le_trans (show 1 + cs.length + 2 ≤ 100 by omega) (by decide)
      have s13 := Same.upd (o := .lst (([V.str "start"] ++ (cs.map (·.nm)).map V.str) ++ [V.str "zz9zz", .str "c9"])) hnm
      have en : (([V.str "start"] ++ (cs.map (·.nm)).map V.str) ++ [V.str "zz9zz", .str "c9"]) = (askN cs).map V.str := by rw [List.map_append]; rfl
      have x13 : upd H12 nmA (.lst (([V.str "start"] ++ (cs.map (·.nm)).map V.str) ++ [V.str "zz9zz", .str "c9"])) nmA = some (.lst ((askN cs).map V.str)) := by rw [upd_same, en]
      generalize upd H12 nmA (.lst (([V.str "start"] ++ (cs.map (·.nm)).map V.str) ++ [V.str "zz9zz", .str "c9"])) = H13 at s13 x13 ⊢
      have s8C := s9.trans (s10.trans (s11.trans (s12.trans s13)))
      have F13 := F8.same s8C
      have np : nmA ≠ p := (Box.ne (F8.e.bx.sm (s9.trans (s10.trans (s11.trans s12)))) hnm).symm
      exact ⟨a, kk, p, o, o2, l, lm, nmA, gs, hs, cs, ms, m + 5 + 28, _, _, _, _, _, rfl, F13, by omega, np, x13, fun v5 v6 v7 v8 v9 v10 v11 v12 H'' k'' => kn _ _ _ _ _ _ _ _ H'' ((Kp.same s15).trans (k6.trans ((Kp.same s7).trans (k8.trans ((Kp.same s8C).trans k'')))))⟩
    case c2 =>
      rintro D σ H1 ⟨a, kk, p, o, o2, l, lm, nmA, gs, hs, cs, ms, m, v8, v9, v10, v11, v12, rfl, F1, hm, np, hnm, kn⟩
      have c5 := F1.e.n5
      have m5 := F1.e.m5
      have gS := F1.e.gd.s
      have mS := F1.e.gm.s
      have gG : GoodS (gs.map cv) := by rw [F1.ev]; exact gS
      have hG : GoodS (hs.map cv) := by rw [F1.ev2]; exact mS
      have gl : gs.length = cs.length := by
        have := congrArg List.length F1.ev
        rwa [List.length_map, List.length_map] at this
      have hl : hs.length = ms.length := by
        have := congrArg List.length F1.ev2
        rwa [List.length_map, List.length_map] at this
      have zall : ∀ z ∈ askN cs, PyData.strOk z = true ∧ z.length ≤ 50 := fun z hz => by
        rcases List.mem_append.mp hz with hz | hz
        · rcases List.mem_cons.mp hz with rfl | hz
          · decide +kernel
          · obtain ⟨g, hg, rfl⟩ := List.mem_map.mp hz
            have := (gS.2 (lcv g) (List.mem_map_of_mem hg)).1
            exact ⟨isName_str this, Nat.le_trans (isName_len this) (by decide)⟩
        · rcases List.mem_cons.mp hz with rfl | hz
          · decide +kernel
          · rw [List.mem_singleton.mp hz]; decide +kernel
      have pall : ∀ z ∈ [("b" : Str), "c", "x", "abcdef", "abcdefgh", "", "1", "start", "be"], PyData.strOk z = true ∧ z.length ≤ 50 := by decide +kernel
      refine ⟨5, rfl, by decide, by decide, ?_⟩
      refine for_range (lo := 0) (n := 5) (fun i σ H' => ∃ v8 v9 v10 v11 v12, σ = SLw a kk p l lm (some (.ref nmA)) (some (.ref o)) (some (.ref o2)) v8 v9 v10 v11 v12 ∧ Kp p H1 H' ∧ Box H' p (m + i * 2)) ⟨_, _, _, _, _, rfl, Kp.refl _ _, F1.e.bx⟩ ?_ ?_
      · rintro i σ H2 hi ⟨v8, v9, v10, v11, v12, rfl, k2, b2⟩
        have F2 := F1.kp k2 b2
        have hnm2 := k2 _ _ np hnm
        have al : (askN cs).length = cs.length + 3 := by
          show ((("start" : Str) :: cs.map (fun g : Lc => g.nm)) ++ [("zz9zz" : Str), "c9"]).length = _
          rw [List.length_append, List.length_cons, List.length_map]
          rfl
        refine ⟨_, rfl, _, rfl, _, rfl, _, _, rfl, .inl ⟨_, SqL.of hnm2, rfl⟩, p, _, _, rfl, b2, by omega, by rw [List.length_map, al]; omega, Int.lt_of_lt_of_le (show _ < (100 : Int) by rw [List.length_map, al]; omega) (by decide), fun z H3 z0 z1 b3 k3 => ?_⟩
        have F3 := F2.kp (Kp.but k3) b3
        obtain ⟨v, ev, mv⟩ := atI_in z0 z1
        refine ⟨nmA, _, z, v, rfl, rfl, SqL.of (Kp.but k3 _ _ np hnm2), ev, ?_⟩
        obtain ⟨za, hza, rfl⟩ := List.mem_map.mp mv
        obtain ⟨zo, zl⟩ := zall za hza
        refine ⟨by show 9 ≤ sizeLine; decide, fun lq hlq => ?_⟩
        have s4 := Same.upd (o := .lst ([("b" : Str), "c", "x", "abcdef", "abcdefgh", "", "1", "start", "be"].map V.str)) hlq
        have x4 : upd H3 lq (.lst ([("b" : Str), "c", "x", "abcdef", "abcdefgh", "", "1", "start", "be"].map V.str)) lq = some (.lst ([("b" : Str), "c", "x", "abcdef", "abcdefgh", "", "1", "start", "be"].map V.str)) := upd_same
        have F4 := F3.same s4
        have lqp : lq ≠ p := (b3.ne hlq).symm
        show tCall _ _ _ _ _ (upd H3 lq (.lst ([("b" : Str), "c", "x", "abcdef", "abcdefgh", "", "1", "start", "be"].map V.str))) _
        generalize upd H3 lq (.lst ([("b" : Str), "c", "x", "abcdef", "abcdefgh", "", "1", "start", "be"].map V.str)) = H4 at s4 x4 F4 ⊢
        refine ⟨_, rfl, p, 9, _, rfl, F4.e.bx, by omega, by decide, by decide, fun z2 H5 z20 z21 b5 k5 => ?_⟩
        have F5 := F4.kp (Kp.but k5) b5
        obtain ⟨w2, ew2, mw2⟩ := atI_in (xs := [("b" : Str), "c", "x", "abcdef", "abcdefgh", "", "1", "start", "be"].map V.str) z20 z21
        refine ⟨lq, _, z2, w2, rfl, rfl, SqL.of (Kp.but k5 _ _ lqp x4), ew2, ?_⟩
        obtain ⟨pf, hpf, rfl⟩ := List.mem_map.mp mw2
        obtain ⟨po, pl⟩ := pall pf hpf
        refine ⟨_, rfl, _, rfl, _, rfl, _, rfl, by show 4 ≤ sizeLine; decide, fun th hth => ?_⟩
        have s6 := Same.upd (o := .lst [V.ref o, .ref o2, .str za, .str pf]) hth
        have x6 : upd H5 th (.lst [V.ref o, .ref o2, .str za, .str pf]) th = some (.lst [V.ref o, .ref o2, .str za, .str pf]) := upd_same
        have F6 := F5.same s6
        generalize upd H5 th (.lst [V.ref o, .ref o2, .str za, .str pf]) = H6 at s6 x6 F6 ⊢
        obtain ⟨H06, sh6⟩ := F6.sh
        obtain ⟨H062, sh62⟩ := F6.sh2
        refine ⟨0, th, _, _, _, _, rfl, x6, .inr ⟨o, 20, H06, gs, rfl, sh6, .inl ⟨rfl, tlA_of sh62 gG hG (by omega) (by omega) fun r H7 s7 av r0 => ?_⟩⟩⟩
        have F7 := F6.same s7
        refine ⟨_, rfl, _, rfl, _, rfl, _, rfl, l, lm, za, pf, cs, ms, 20, rfl, F7.e.lc, F7.e.lk, gS, mS, by omega, by decide, by decide, by omega, fun r2 H8 s8 av2 => ⟨_, _, rfl, ?_⟩⟩
        have F8 := F7.same s8
        rw [F1.ev, F1.ev2] at av
        obtain ⟨d, sv1, sv2, k1', k2', k3'⟩ := ans_two (av.same s8) av2 (ansA_ok gS mS zo zl po pl)
        refine ⟨_, rfl, r, d, rfl, sv1, k1', k2', k3', _, rfl, r2, d, rfl, sv2, k1', k2', k3', rfl, _, rfl, if_false_of (by rw [decide_eq_true rfl]; rfl) ?_⟩
        obtain ⟨H08, sh8⟩ := F8.sh
        refine ⟨_, rfl, _, _, _, _, rfl, sh8, pln_str gG, by omega, fun ra as H9 s9 lA eA rA0 => ?_⟩
        have F9 := F8.same s9
        obtain ⟨a1, a2, a3, a4, a5⟩ := cmpL (K := K) lA F9.e.lc
        refine ⟨_, rfl, _, _, a1, a2, a3, a4, _, rfl, ?_⟩
        rw [a5, eA, F1.ev]
        refine if_false_of (by rw [decide_eq_true rfl]; rfl) ?_
        obtain ⟨H09, sh9⟩ := F9.sh2
        refine ⟨_, rfl, _, _, _, _, rfl, sh9, pln_str hG, by omega, fun rb bs' H10 s10 lB eB rB0 => ?_⟩
        have F10 := F9.same s10
        obtain ⟨b1, b2', b3', b4, b5'⟩ := cmpL (K := K) lB F10.e.lk
        refine ⟨_, rfl, _, _, b1, b2', b3', b4, _, rfl, ?_⟩
        rw [b5', eB, F1.ev2]
        refine if_false_of (by rw [decide_eq_true rfl]; rfl) ?_
        exact ⟨_, _, _, _, _, rfl, k2.trans ((Kp.but k3).trans ((Kp.same s4).trans ((Kp.but k5).trans (Kp.same (s6.trans (s7.trans (s8.trans (s9.trans s10)))))))), F10.e.bx.mono (by omega)⟩
      · rintro σ H2 ⟨v8, v9, v10, v11, v12, rfl, k2, b2⟩
        have F2 := F1.kp k2 b2
        refine ⟨_, rfl, by show 0 ≤ sizeLine; decide, fun l2 hl2 => ?_⟩
        have s3 := Same.upd (o := .lst []) hl2
        have x3 : upd H2 l2 (.lst []) l2 = some (.lst []) := upd_same
        have F3 := F2.same s3
        generalize upd H2 l2 (.lst []) = H3 at s3 x3 F3 ⊢
        have g0 : GoodS [] := ⟨fun i c e => (by cases e), fun c hc => (by cases hc)⟩
        refine fun o3 dx hx hdx hne => ?_
        refine make_any (mm := 1) (cs := []) (.inl x3) rfl (fun i c e => by cases e) g0.ok (by decide) (by decide) (by decide) hx hdx hne (mkP_good g0 (by decide +kernel) fun H4 gs3 s4 sh4 ev4 => ⟨rfl, ?_⟩)
        have F4 := F3.same s4
        have gl3 : gs3 = [] := List.map_eq_nil_iff.mp ev4
        obtain ⟨H04, sho⟩ := F4.sh
        refine ⟨_, _, _, _, rfl, .inr ⟨o, 20, H04, gs, rfl, sho, .inr ⟨o3, 1, _, gs3, rfl, sh4, .inr ⟨"start", rfl, .inr ⟨num_start _, .inr ⟨"a", rfl, by decide +kernel, .inr ⟨by decide +kernel, gG, by rw [ev4]; exact g0, by rw [gl3, gl]; show cs.length + 0 ≤ 20; omega, 20, Nat.le_refl _, by decide, by decide, ?_⟩⟩⟩⟩⟩⟩⟩
        rw [ev4, List.map_nil, List.append_nil]
        unfold AttP
        rw [M34.told_of gG.1 fun c hc => (gG.2 c hc).1]
        show if _ then _ else _
        rw [if_neg (by rw [F1.ev]; have := F1.e.r8; omega)]
        intro x5 H5 gs5 s5 sh5 ev5
        have F5 := F4.same s5
        obtain ⟨H05, sho5⟩ := F5.sh
        obtain ⟨dz, _, _, _, _, hox, _⟩ := id sh5
        obtain ⟨dy, _, _, _, _, hoy, _⟩ := id sho5
        refine ⟨_, rfl, x5, dz, _, rfl, hox, .inl ⟨o, dy, _, rfl, hoy⟩, x5, 20, _, gs5, _, rfl, sh5, .inl ⟨o, 20, H05, gs, rfl, sho5, fun H6 s6 => ⟨_, rfl, _, rfl, ?_⟩⟩⟩
        rw [ev5]
        refine if_false_of (by rw [decide_eq_true rfl]; rfl) ?_
        exact kn _ _ _ _ _ _ _ _ H6 (k2.trans (Kp.same (s3.trans (s4.trans (s5.trans s6)))))
    refine ⟨_, rfl, _, (ns.map V.int).length, rfl, .inl ⟨_, ha, rfl⟩, _, _, rfl, _, _, rfl, _, rfl, ?_, ?_, ?_⟩
    · split <;> (try split) <;> omega
    · split <;> (try split) <;> omega
    refine for_range (lo := 0) (n := Int.toNat (if (if ((ns.map V.int).length : Int) < 5 then ((ns.map V.int).length : Int) else 5) > 2 then (if ((ns.map V.int).length : Int) < 5 then ((ns.map V.int).length : Int) else 5) else 2)) (fun i σ H' => Same H H' ∧ ∃ v1 v2 v3 v4 v5 v6 v7 v8 v9 v10 v11 v12 : Option V, σ = [some (.ref a), v1, v2, v3, v4, v5, v6, v7, v8, v9, v10, v11, v12, none]) ⟨Same.refl _, _, _, _, _, _, _, _, _, _, _, _, _, rfl⟩ ?_ ?_
    rotate_left
    · rintro σ H1 ⟨s1, v1, v2, v3, v4, v5, v6, v7, v8, v9, v10, v11, v12, rfl⟩
      exact ⟨rfl, fun H2 s2 => q H2⟩
    rintro j σ H1 hj0 ⟨s1, v1, v2, v3, v4, v5, v6, v7, v8, v9, v10, v11, v12, rfl⟩
    have hj : j < 5 := by
      revert hj0
      split <;> (try split) <;> omega
    rw [Int.zero_add]
    refine ⟨_, rfl, _, rfl, a, ns, j, rfl, ha.ext s1, by omega, fun c => ⟨c, rfl, fun p H2 hp1 hk2 hb2 => ?_⟩⟩
    refine ⟨_, rfl, p, 0, 5, 5, rfl, hb2, by decide, by decide, by decide, by decide, fun l cs st H3 k3 b3 lc3 n5 gd r5 hst hnm l0 => ?_⟩
    have lp : l ≠ p := (hb2.ne l0).symm
    refine ⟨_, rfl, p, 0 + 200, 5, 5, rfl, b3, by decide, by decide, by decide, by decide, fun lm ms st2 H4 k4 b4 lm4 m5 gm rm5 hst2 hnm2 lm0 => ⟨_, _, rfl, ?_⟩⟩
    have mp : lm ≠ p := (b3.ne lm0).symm
    have lc4 := lc3.kp b3 k4 lp
    have sall : ∀ J, Kp p H2 J → Same H J := fun J kJ q' o' hq => by
      have h1 := s1 _ _ hq
      have qp : q' ≠ p := fun e => by
        rw [e, hp1] at h1
        cases h1
      exact kJ _ _ qp ((hk2 q' qp).trans h1)
    have k24 := k3.trans k4
    have nzc : ∀ c ∈ cs.map lcv, c.nm ≠ "zz1" := fun c hc => by
      obtain ⟨g, hg, rfl⟩ := List.mem_map.mp hc
      exact zz_names st hst g.nm (List.mem_of_mem_take (hnm g hg))
    have E4 : LwE H4 p l lm cs ms (0 + 200 + 200) := ⟨b4, lc4, lm4, lp, mp, gd, gm, Nat.le_trans r5 (by decide), Nat.le_trans rm5 (by decide), n5, m5, nzc⟩
    have go : ∀ (D : Ends), (∀ l' v5 v6 v7 v8 v9 v10 v11 v12 H'', Same H H'' → D.nx (SLw a (some (.int (j : Int))) p l' lm v5 v6 v7 v8 v9 v10 v11 v12) H'') → ∀ (cs' : List Lc) (l' : Addr) (m' : Nat) (v5' : Option V) H5, LwE H5 p l' lm cs' ms m' → m' ≤ 1000 → Kp p H2 H5 → sLw1 K D (SLw a (some (.int (j : Int))) p l' lm v5' v6 v7 v8 v9 v10 v11 v12) H5 := fun D hD cs' l' m' v5' H5 e5 hm5 k5 =>
      ⟨a, _, p, l', lm, cs', ms, m', v5', v6, v7, v8, v9, v10, v11, v12, rfl, e5, hm5, fun v5 v6 v7 v8 v9 v10 v11 v12 H'' k'' => hD _ _ _ _ _ _ _ _ _ H'' (sall _ (k5.trans k''))⟩
    refine ⟨_, rfl, by show 0 ≤ sizeLine; decide, fun b1 hb1 => ?_⟩
    have t5 := Same.upd (o := .lst []) hb1
    have x5 : upd H4 b1 (.lst []) b1 = some (.lst []) := upd_same
    have E5 := E4.kp (Kp.same t5) (b4.sm t5)
    have k25 := k24.trans (Kp.same t5)
    generalize upd H4 b1 (.lst []) = H5 at t5 x5 E5 k25 ⊢
    refine ⟨l, b1, _, rfl, rfl, SqL.of E5.lc.l, SqL.of x5, _, rfl, ?_⟩
    by_cases c0 : cs = []
    · refine if_false_of (by rw [c0]; rfl) (if_false_of rfl ?_)
      refine go _ (fun l' w5 w6 w7 w8 w9 w10 w11 w12 H'' s'' => ?_) cs l _ v5 H5 E5 (by decide) k25
      exact ⟨s'', _, _, _, _, _, _, _, _, _, _, _, _, rfl⟩
    refine if_true_of (by cases cs with | nil => exact absurd rfl c0 | cons _ _ => rfl) ?_
    refine ⟨_, rfl, by show 0 ≤ sizeLine; decide, fun b2 hb2' => ?_⟩
    have t6 := Same.upd (o := .lst []) hb2'
    have x6 : upd H5 b2 (.lst []) b2 = some (.lst []) := upd_same
    have E6 := E5.kp (Kp.same t6) (E5.bx.sm t6)
    have k26 := k25.trans (Kp.same t6)
    generalize upd H5 b2 (.lst []) = H6 at t6 x6 E6 k26 ⊢
    refine ⟨lm, b2, _, rfl, rfl, SqL.of E6.lk.l, SqL.of x6, _, rfl, ?_⟩
    by_cases d0 : ms = []
    · refine if_false_of (by rw [d0]; rfl) (if_false_of rfl ?_)
      refine go _ (fun l' w5 w6 w7 w8 w9 w10 w11 w12 H'' s'' => ?_) cs l _ v5 H6 E6 (by decide) k26
      exact ⟨s'', _, _, _, _, _, _, _, _, _, _, _, _, rfl⟩
    refine if_true_of (by cases ms with | nil => exact absurd rfl d0 | cons _ _ => rfl) ?_
    refine ⟨_, rfl, p, 2, _, rfl, E6.bx, by decide, by decide, by decide, fun z H7 z0 z1 b7 k7 => ?_⟩
    have E7 := E6.kp (Kp.but k7) b7
    have k27 := k26.trans (Kp.but k7)
    refine ⟨rfl, _, rfl, ?_⟩
    by_cases hz : z = 0
    rotate_left
    · refine if_false_of (decide_eq_false fun e => hz (V.int.inj e)) ?_
      refine go _ (fun l' w5 w6 w7 w8 w9 w10 w11 w12 H'' s'' => ?_) cs l _ v5 H7 E7 (by decide) k27
      exact ⟨s'', _, _, _, _, _, _, _, _, _, _, _, _, rfl⟩
    refine if_true_of (decide_eq_true (congrArg V.int hz)) ?_
    obtain ⟨Ac, g, rfl⟩ : ∃ Ac g, cs = Ac ++ [g] := ⟨_, _, (List.dropLast_concat_getLast c0).symm⟩
    obtain ⟨Bm, g2, rfl⟩ : ∃ Bm g2, ms = Bm ++ [g2] := ⟨_, _, (List.dropLast_concat_getLast d0).symm⟩
    have hgm : g ∈ Ac ++ [g] := List.mem_append_right _ (List.mem_singleton.mpr rfl)
    have hg2m : g2 ∈ Bm ++ [g2] := List.mem_append_right _ (List.mem_singleton.mpr rfl)
    obtain ⟨c1, c2, c3, c4, c5⟩ := id (E7.lc.ok g hgm)
    obtain ⟨e1, e2, e3, e4, e5⟩ := id (E7.lk.ok g2 hg2m)
    obtain ⟨bn1, bn2, bn3, bn4, bn5⟩ := b_names st hst st2 hst2 g2.nm (hnm2 g2 hg2m)
    have bnd : ("b" : Str).length + g2.nm.length ≤ sizeLine := by
      have := isName_len (gm.2 _ (List.mem_map_of_mem (f := lcv) hg2m)).1
      have : g2.nm.length ≤ 8 := this
      exact Nat.le_trans (show _ ≤ 100 by show ("b" : Str).length + _ ≤ 100; rw [show ("b" : Str).length = 1 by decide +kernel]; omega) (by decide)
    have atL : ∀ {α : Type} (X : List Lc) (y : Lc), atI ((X ++ [y]).map fun g => V.ref g.q) (-1) = some (V.ref y.q) := fun X y => atI_end (by rw [List.length_map, List.length_append, List.length_singleton, Nat.add_sub_cancel, List.getElem?_map, List.getElem?_append_right (Nat.le_refl _), Nat.sub_self]; rfl)
    intro d hd
    have u7 := Same.upd (o := .dK []) hd
    have l7 := u7 _ _ E7.lc.l
    have lk7 := u7 _ _ E7.lk.l
    refine ⟨_, rfl, _, rfl, l, _, -1, _, rfl, rfl, SqL.of l7, atL (α := Unit) Ac g, g.q, _, 0, _, rfl, rfl, SqT.of (u7 _ _ c1), rfl, _, rfl, _, rfl, lm, _, -1, _, rfl, rfl, SqL.of lk7, atL (α := Unit) Bm g2, g2.q, _, 0, _, rfl, rfl, SqT.of (u7 _ _ e1), rfl, "b", g2.nm, rfl, rfl, bnd, upd_same, [(Sum.inr g.nm, .str ("b" ++ g2.nm))], rfl, (by show 1 ≤ 15; decide), ?_⟩
    have em : mergeK [] [((Sum.inr g.nm : Key), V.str ("b" ++ g2.nm))] = [((Sum.inr g.nm : Key), V.str ("b" ++ g2.nm))] := rfl
    rw [em, upd_upd]
    have u8 := Same.upd (o := .dK [((Sum.inr g.nm : Key), V.str ("b" ++ g2.nm))]) hd
    have x8 : upd H7 d (.dK [((Sum.inr g.nm : Key), V.str ("b" ++ g2.nm))]) d = some (.dK [((Sum.inr g.nm : Key), V.str ("b" ++ g2.nm))]) := upd_same
    have E8 := E7.kp (Kp.same u8) (E7.bx.sm u8)
    have k28 := k27.trans (Kp.same u8)
    generalize upd H7 d (.dK [((Sum.inr g.nm : Key), V.str ("b" ++ g2.nm))]) = H8 at u8 x8 E8 k28 ⊢
    refine ⟨_, rfl, l, rfl, ⟨_, SqL.of E8.lc.l⟩, fun D2 hD2 => ?_⟩
    obtain ⟨rl1, rl2, rl3, rl4⟩ := ren_last (A := Ac.map lcv) (c := lcv g) (N2 := "b" ++ g2.nm) (by have := gd.1; rwa [List.map_append] at this)
    have cse : (Ac ++ [g]).map lcv = Ac.map lcv ++ [lcv g] := List.map_append
    have g5 : (Ac ++ [g]).length ≤ 5 := n5
    refine lc_list (K := K) (a := l) (xs := (Ac ++ [g]).map fun g => V.ref g.q) (fun i H' => Same H8 H' ∧ Ls 20 H' D2 i (((Ac ++ [g]).map lcv).map (ren g.nm ("b" ++ g2.nm)))) ⟨Same.upd hD2, Ls.nil upd_same⟩ (fun i H' _ ⟨s, _⟩ => SqL.of (s _ _ E8.lc.l)) ?_ ?_
    · rintro i x H9 hx ⟨s9, ls⟩
      obtain ⟨y, ey, rfl⟩ := map_at hx
      have hi := (List.getElem?_eq_some_iff.mp ey).1
      have hy := List.mem_of_getElem? ey
      obtain ⟨y1, y2, y3, y4, y5⟩ := (E8.lc.ok y hy).kt (KT.of s9)
      have rd := Rd.of (s9 _ _ x8)
      refine ⟨rfl, _, rfl, d, rfl, .inl ⟨_, rd⟩, _, rfl, y.q, _, 0, _, rfl, rfl, SqT.of y1, rfl, _, rfl, y.q, _, 0, _, rfl, rfl, SqT.of y1, rfl, _, .inl ⟨_, Sum.inr y.nm, rd, rfl, rfl⟩, _, rfl, d, rfl, .inl ⟨_, rd⟩, _, rfl, y.q, _, 1, _, rfl, rfl, SqT.of y1, rfl, _, rfl, y.q, _, 1, _, rfl, rfl, SqT.of y1, rfl, _, .inl ⟨_, Sum.inr y.pa, rd, rfl, rfl⟩, _, rfl, y.q, _, 2, _, rfl, rfl, SqT.of y1, rfl, _, rfl, y.q, _, 3, _, rfl, rfl, SqT.of y1, rfl, by show 4 ≤ sizeLine; decide, fun w hw => ?_⟩
      rw [valV_one, valV_one]
      have s10 := Same.upd (o := .tup [.str (rn g.nm ("b" ++ g2.nm) y.nm), .str (rn g.nm ("b" ++ g2.nm) y.pa), .str y.un, .ref y.a]) hw
      have x10 : upd H9 w (.tup [.str (rn g.nm ("b" ++ g2.nm) y.nm), .str (rn g.nm ("b" ++ g2.nm) y.pa), .str y.un, .ref y.a]) w = some (.tup [.str (rn g.nm ("b" ++ g2.nm) y.nm), .str (rn g.nm ("b" ++ g2.nm) y.pa), .str y.un, .ref y.a]) := upd_same
      generalize upd H9 w (.tup [.str (rn g.nm ("b" ++ g2.nm) y.nm), .str (rn g.nm ("b" ++ g2.nm) y.pa), .str y.un, .ref y.a]) = H10 at s10 x10 ⊢
      have so : ∀ zz, PyData.strOk zz = true → PyData.strOk (rn g.nm ("b" ++ g2.nm) zz) = true := fun zz hz' => by
        unfold rn
        split
        · exact isName_str bn1
        · exact hz'
      obtain ⟨ys, ey', yl, ls'⟩ := ls.app (c := ren g.nm ("b" ++ g2.nm) (lcv y)) s10 (by rw [List.getElem?_map, List.getElem?_map, ey]; rfl) x10 (y2.kt (KT.of s10)) (so _ y3) (so _ y4) y5 rfl
      exact ⟨_, ey', by rw [yl]; exact Nat.lt_of_lt_of_le (show i < 100 by omega) (by decide), same_put (s9.trans s10) hD2, ls'⟩
    rintro H9 ⟨s9, ls⟩
    rw [List.length_map] at ls
    obtain ⟨cn, lcn, evn⟩ := ls.done (by rw [List.length_map, List.length_map]) (by rw [List.length_map, List.length_map]; omega)
    rw [cse] at evn
    have evn := evn.trans rl1
    have E9 := E8.kp (Kp.same s9) (E8.bx.sm s9)
    have cl : cn.length ≤ 5 := by
      have h1 := congrArg List.length evn
      rw [List.length_map, List.length_append, List.length_map, List.length_singleton] at h1
      rw [List.length_append, List.length_singleton] at g5
      omega
    have nA : ("b" ++ g2.nm : Str) ∉ ("start" : Str) :: (Ac.map lcv).map (·.nm) := fun h => by
      rcases List.mem_cons.mp h with h | h
      · exact bn3 h
      · obtain ⟨c, hc, ec⟩ := List.mem_map.mp h
        obtain ⟨y, hy, rfl⟩ := List.mem_map.mp hc
        refine bn2 ?_
        rw [← ec]
        exact List.mem_of_mem_take (hnm y (List.mem_append_left _ hy))
    have old : ∀ c ∈ Ac.map lcv, c ∈ (Ac ++ [g]).map lcv := fun c hc => by rw [cse]; exact List.mem_append_left _ hc
    have gdn : GoodL (cn.map lcv) := by
      rw [evn]
      refine ⟨M04.good_snoc rl2 nA rl3, fun c hc => ?_⟩
      rcases List.mem_append.mp hc with hc | hc
      · exact gd.2 c (old c hc)
      · rw [List.mem_singleton.mp hc]
        exact ⟨bn1, bn4, (gd.2 (lcv g) (by rw [cse]; exact List.mem_append_right _ (List.mem_singleton.mpr rfl))).2.2⟩
    have rn8 : (M04.all (cn.map lcv)).rows.length ≤ 8 := by
      rw [evn, rows_last (Ac.map lcv) ⟨"b" ++ g2.nm, (lcv g).pa, (lcv g).un, (lcv g).q⟩ (lcv g) rfl rfl rfl, ← cse]
      exact Nat.le_trans r5 (by decide)
    have nzn : ∀ c ∈ cn.map lcv, c.nm ≠ "zz1" := fun c hc => by
      rw [evn] at hc
      rcases List.mem_append.mp hc with hc | hc
      · exact nzc c (old c hc)
      · rw [List.mem_singleton.mp hc]
        exact bn5
    have D2p : D2 ≠ p := (E8.bx.ne hD2).symm
    have EN : LwE H9 p D2 lm cn (Bm ++ [g2]) (0 + 200 + 200 + 1) := ⟨E9.bx, lcn, E9.lk, D2p, mp, gdn, gm, rn8, Nat.le_trans rm5 (by decide), cl, m5, nzn⟩
    refine go _ (fun l' w5 w6 w7 w8 w9 w10 w11 w12 H'' s'' => ?_) cn D2 _ _ H9 EN (by decide) (k28.trans (Kp.same s9))
    exact ⟨s'', _, _, _, _, _, _, _, _, _, _, _, _, rfl⟩
end
end K34
set_option Elab.async false
set_option linter.all false
set_option maxRecDepth 100000
set_option maxHeartbeats 0
set_option exponentiation.threshold 100000
namespace K34
open PySem PySem.Spec PyProof.Rows L2 Fa Fb
theorem strsB_ok : ∀ (us : List Value) (zs : List Str), strsB us zs = true → Vals (zs.map V.str) us
  | [], [], _ => .nil
  | .str x t :: l, z :: r, h => by
    obtain ⟨a, b⟩ := He.ba h
    have e := of_decide_eq_true a
    subst e
    exact .cons ⟨t, rfl⟩ (strsB_ok l r b)
theorem tupB_of {K : PySem.W.Frag} {a : Addr} {zs : List Str} (h : tupB K a zs = true) (H : Hp) : SqT K H a (zs.map V.str) := by
  unfold tupB at h
  split at h
  · rename_i t d its n sl e
    obtain ⟨h1, h⟩ := He.ba h
    obtain ⟨h2, h3⟩ := He.ba h
    have e1 := of_decide_eq_true h1
    subst e1
    exact .inr ⟨_, its, n, e, rfl, rfl, of_decide_eq_true h2, strsB_ok _ _ h3⟩
  · cases h
theorem prB_of {K : PySem.W.Frag} {f : Str} (h : prB K f = true) : PropOf K (CA K) f (pa K f) (ga2 K f) := by
  obtain ⟨h1, h⟩ := He.ba h
  obtain ⟨h2, h⟩ := He.ba h
  obtain ⟨h3, h4⟩ := He.ba h
  refine ⟨He.eqO_ok h1, He.eqO_ok h2, of_decide_eq_true h3, ?_⟩
  have h5 : (match PySem.W.recIn K (pa K f) "property" with
  | some (.ref g :: _) => decide (g = ga2 K f)
  | _ => false) = true := h4
  split at h5
  · rename_i g r e
    exact ⟨r, by rw [e, of_decide_eq_true h5]⟩
  · cases h5
theorem sysB_of {K : PySem.W.Frag} (h : sysB K = true) : Fg.SysD K := by
  unfold sysB at h
  split at h
  · rename_i c dd es ep sl e
    exact ⟨c, dd, es, ep, sl, e⟩
  · cases h
theorem meB_of {K : PySem.W.Frag} {m : Str} (h : meB K m = true) : Meth K (CA K) m (He.ma K (CA K) m) := by
  obtain ⟨h1, h⟩ := He.ba h
  obtain ⟨h2, h3⟩ := He.ba h
  exact ⟨He.eqO_ok h1, h2, h3⟩
theorem nm_most : Xb.Nm "most" := ⟨rfl, rfl, rfl, rfl, by decide, by decide, by decide, fun _ _ _ _ _ _ _ _ _ _ _ _ _ => rfl⟩
theorem nm_label : Xb.Nm "label" := ⟨rfl, rfl, rfl, rfl, by decide, by decide, by decide, fun _ _ _ _ _ _ _ _ _ _ _ _ _ => rfl⟩
theorem smB_of {K : PySem.W.Frag} {m : Str} (h : smB K m = true) : Meth K (CS K) m (He.ma K (CS K) m) := by
  obtain ⟨h1, h⟩ := He.ba h
  obtain ⟨h2, h3⟩ := He.ba h
  exact ⟨He.eqO_ok h1, h2, h3⟩
theorem opF_of {K : PySem.W.Frag} {nm : String} {m : Str} (h : opB K nm m = true) (sf : PySem.W.selfFirst K (CA K) = true) (sub : ∀ T ∈ tys, PySem.W.subIn K (.type T) (.ref (CA K)) = some false) : OpF K nm (He.ma K (CA K) m) := by
  obtain ⟨h1, h⟩ := He.ba h
  obtain ⟨h2, h⟩ := He.ba h
  obtain ⟨h3, h4⟩ := He.ba h
  refine ⟨⟨sf, He.eqO_ok h1, h2, He.eqO_ok h3⟩, fun T hT => ?_⟩
  obtain ⟨a, b⟩ := He.ba (List.all_eq_true.mp h4 T hT)
  obtain ⟨fo, hfo⟩ := Option.isSome_iff_exists.mp a
  obtain ⟨ro, hro⟩ := Option.isSome_iff_exists.mp b
  exact ⟨fo, ro, hfo, hro, sub T hT⟩
end K34
set_option Elab.async false
set_option linter.all false
set_option maxRecDepth 100000
set_option maxHeartbeats 4000000
set_option exponentiation.threshold 100000
namespace K34
open PySem PySem.Spec PyProof.Rows L2 Fa Fb
abbrev PP : Program := PySem.Challenge.pw_anytempo_k34_sheets_turned_and_joined
theorem facts {w : World} {K : PySem.W.Frag} {h : Heap} {mg : Str → Option Value} {f : Addr} (X : K.In h) (G : h.Ns mainGlobals mg) (hfa : mg ("law" : Str) = some (.ref f)) (c : Hd.obsK ds chk K = Hd.valK ds) :
    ∃ fd : FuncData, (∀ (s : Shared) (v : Value), BindsTo s fd ⟨[v], []⟩ [("_law_script", v)]) ∧ ∀ base : Heap, K.In base → base.Ns mainGlobals mg → Fg.FnG PP w K mg base (L2.CX PP w) 15 f fd ["_law_script"] (spLaw K) := by
  have ck : Hd.allB _ = true := Hd.says_chk c
  have cg := Hd.allB_at ck 0
  have cf := Hd.allB_at ck 1
  have cc : Hd.allB _ = true := (Hd.allB_at ck 2)
  have cm : Hd.allB _ = true := (Hd.allB_at ck 3)
  have glo : ∀ x ∈ glos, mg x = some (.ref (He.ga K x)) := fun x hx => PySem.W.mg_of X G (He.eqO_ok (List.all_eq_true.mp cg x hx))
  have fre : ∀ x ∈ frees, mg x = none := fun x hx => PySem.W.mg_none_of X G (He.eqO_ok (List.all_eq_true.mp cf x hx))
  have G_Amount := glo "Amount" (by simp [glos, glos0, glos1, glos2])
  have G_Sheet := glo "Sheet" (by simp [glos, glos0, glos1, glos2])
  have G_InvalidInteger := glo "InvalidInteger" (by simp [glos, glos0, glos1, glos2])
  have G_InvalidAmount := glo "InvalidAmount" (by simp [glos, glos0, glos1, glos2])
  have G_InvalidUnit := glo "InvalidUnit" (by simp [glos, glos0, glos1, glos2])
  have G_InvalidSheet := glo "InvalidSheet" (by simp [glos, glos0, glos1, glos2])
  have G_InvalidName := glo "InvalidName" (by simp [glos, glos0, glos1, glos2])
  have G_Duplicate := glo "Duplicate" (by simp [glos, glos0, glos1, glos2])
  have G_TooMany := glo "TooMany" (by simp [glos, glos0, glos1, glos2])
  have G_UnknownCue := glo "UnknownCue" (by simp [glos, glos0, glos1, glos2])
  have G_UNITS := glo "UNITS" (by simp [glos, glos0, glos1, glos2])
  have G__law_cell := glo "_law_cell" (by simp [glos, glos0, glos1, glos2])
  have G__law_box := glo "_law_box" (by simp [glos, glos0, glos1, glos2])
  have G__law_take := glo "_law_take" (by simp [glos, glos0, glos1, glos2])
  have G_is_whole := glo "is_whole" (by simp [glos, glos0, glos1, glos2])
  have G_is_amount := glo "is_amount" (by simp [glos, glos0, glos1, glos2])
  have G_as_amount := glo "as_amount" (by simp [glos, glos0, glos1, glos2])
  have G_has_only := glo "has_only" (by simp [glos, glos0, glos1, glos2])
  have G_is_name := glo "is_name" (by simp [glos, glos0, glos1, glos2])
  have G_is_unit := glo "is_unit" (by simp [glos, glos0, glos1, glos2])
  have G_check_unit := glo "check_unit" (by simp [glos, glos0, glos1, glos2])
  have G_is_listing := glo "is_listing" (by simp [glos, glos0, glos1, glos2])
  have G_parted := glo "parted" (by simp [glos, glos0, glos1, glos2])
  have G_extended := glo "extended" (by simp [glos, glos0, glos1, glos2])
  have G__law_lowest := glo "_law_lowest" (by simp [glos, glos0, glos1, glos2])
  have G_check_cue := glo "check_cue" (by simp [glos, glos0, glos1, glos2])
  have G_check_known := glo "check_known" (by simp [glos, glos0, glos1, glos2])
  have G__law_added := glo "_law_added" (by simp [glos, glos0, glos1, glos2])
  have G__law_led := glo "_law_led" (by simp [glos, glos0, glos1, glos2])
  have G__law_rows := glo "_law_rows" (by simp [glos, glos0, glos1, glos2])
  have G__law_moments := glo "_law_moments" (by simp [glos, glos0, glos1, glos2])
  have G__law_amount := glo "_law_amount" (by simp [glos, glos0, glos1, glos2])
  have G__law_cues := glo "_law_cues" (by simp [glos, glos0, glos1, glos2])
  have G__law_passed := glo "_law_passed" (by simp [glos, glos0, glos1, glos2])
  have G__law_plain := glo "_law_plain" (by simp [glos, glos0, glos1, glos2])
  have G_check_sheet := glo "check_sheet" (by simp [glos, glos0, glos1, glos2])
  have G_other_unit := glo "other_unit" (by simp [glos, glos0, glos1, glos2])
  have G_exchanged := glo "exchanged" (by simp [glos, glos0, glos1, glos2])
  have G_reversed_sheet := glo "reversed_sheet" (by simp [glos, glos0, glos1, glos2])
  have G_stretched := glo "stretched" (by simp [glos, glos0, glos1, glos2])
  have G_attached := glo "attached" (by simp [glos, glos0, glos1, glos2])
  have G_unlike := glo "unlike" (by simp [glos, glos0, glos1, glos2])
  have G_is_alike := glo "is_alike" (by simp [glos, glos0, glos1, glos2])
  have G__law_times := glo "_law_times" (by simp [glos, glos0, glos1, glos2])
  have G__law_turned_right := glo "_law_turned_right" (by simp [glos, glos0, glos1, glos2])
  have G__law_is_named := glo "_law_is_named" (by simp [glos, glos0, glos1, glos2])
  have G__law_unlike := glo "_law_unlike" (by simp [glos, glos0, glos1, glos2])
  have G__law_mixed := glo "_law_mixed" (by simp [glos, glos0, glos1, glos2])
  have G__law_alike_right := glo "_law_alike_right" (by simp [glos, glos0, glos1, glos2])
  have G__law_due := glo "_law_due" (by simp [glos, glos0, glos1, glos2])
  have G__law_told := glo "_law_told" (by simp [glos, glos0, glos1, glos2])
  have G__law_start_right := glo "_law_start_right" (by simp [glos, glos0, glos1, glos2])
  have G__law_odd_right := glo "_law_odd_right" (by simp [glos, glos0, glos1, glos2])
  have R_abs := fre "abs" (by simp [frees])
  have R_all := fre "all" (by simp [frees])
  have R_bool := fre "bool" (by simp [frees])
  have R_int := fre "int" (by simp [frees])
  have R_isinstance := fre "isinstance" (by simp [frees])
  have R_len := fre "len" (by simp [frees])
  have R_list := fre "list" (by simp [frees])
  have R_max := fre "max" (by simp [frees])
  have R_min := fre "min" (by simp [frees])
  have R_range := fre "range" (by simp [frees])
  have R_repr := fre "repr" (by simp [frees])
  have R_str := fre "str" (by simp [frees])
  have R_tuple := fre "tuple" (by simp [frees])
  obtain ⟨fdinit, ginit⟩ := Hd.says_def c 0
  obtain ⟨fdtop, gtop⟩ := Hd.says_def c 1
  obtain ⟨fdbot, gbot⟩ := Hd.says_def c 2
  obtain ⟨fdeq, geq⟩ := Hd.says_def c 3
  obtain ⟨fdadd, gadd⟩ := Hd.says_def c 4
  obtain ⟨fdmul, gmul⟩ := Hd.says_def c 5
  obtain ⟨fdneg, gneg⟩ := Hd.says_def c 6
  obtain ⟨fdcmp, gcmp⟩ := Hd.says_def c 7
  obtain ⟨fdsi, gsi⟩ := Hd.says_def c 8
  obtain ⟨fdtel, gtel⟩ := Hd.says_def c 9
  obtain ⟨fdsin, gsin⟩ := Hd.says_def c 10
  obtain ⟨fdseq, gseq⟩ := Hd.says_def c 11
  obtain ⟨fdsnm, gsnm⟩ := Hd.says_def c 12
  obtain ⟨fdscs, gscs⟩ := Hd.says_def c 13
  obtain ⟨fdsrw, gsrw⟩ := Hd.says_def c 14
  obtain ⟨fdsmm, gsmm⟩ := Hd.says_def c 15
  obtain ⟨fdDlawcell, gDlawcell⟩ := Hd.says_def c 16
  obtain ⟨fdDlawbox, gDlawbox⟩ := Hd.says_def c 17
  obtain ⟨fdDlawtake, gDlawtake⟩ := Hd.says_def c 18
  obtain ⟨fdDiswhole, gDiswhole⟩ := Hd.says_def c 19
  obtain ⟨fdDisamount, gDisamount⟩ := Hd.says_def c 20
  obtain ⟨fdDasamount, gDasamount⟩ := Hd.says_def c 21
  obtain ⟨fdDhasonly, gDhasonly⟩ := Hd.says_def c 22
  obtain ⟨fdDisname, gDisname⟩ := Hd.says_def c 23
  obtain ⟨fdDisunit, gDisunit⟩ := Hd.says_def c 24
  obtain ⟨fdDcheckunit, gDcheckunit⟩ := Hd.says_def c 25
  obtain ⟨fdDislisting, gDislisting⟩ := Hd.says_def c 26
  obtain ⟨fdDparted, gDparted⟩ := Hd.says_def c 27
  obtain ⟨fdDextended, gDextended⟩ := Hd.says_def c 28
  obtain ⟨fdDlawlowest, gDlawlowest⟩ := Hd.says_def c 29
  obtain ⟨fdDcheckcue, gDcheckcue⟩ := Hd.says_def c 30
  obtain ⟨fdDcheckknown, gDcheckknown⟩ := Hd.says_def c 31
  obtain ⟨fdDlawadded, gDlawadded⟩ := Hd.says_def c 32
  obtain ⟨fdDlawled, gDlawled⟩ := Hd.says_def c 33
  obtain ⟨fdDlawrows, gDlawrows⟩ := Hd.says_def c 34
  obtain ⟨fdDlawmoments, gDlawmoments⟩ := Hd.says_def c 35
  obtain ⟨fdDlawamount, gDlawamount⟩ := Hd.says_def c 36
  obtain ⟨fdDlawcues, gDlawcues⟩ := Hd.says_def c 37
  obtain ⟨fdDlawpassed, gDlawpassed⟩ := Hd.says_def c 38
  obtain ⟨fdDlawplain, gDlawplain⟩ := Hd.says_def c 39
  obtain ⟨fdDchecksheet, gDchecksheet⟩ := Hd.says_def c 40
  obtain ⟨fdDotherunit, gDotherunit⟩ := Hd.says_def c 41
  obtain ⟨fdDexchanged, gDexchanged⟩ := Hd.says_def c 42
  obtain ⟨fdDreversedsheet, gDreversedsheet⟩ := Hd.says_def c 43
  obtain ⟨fdDstretched, gDstretched⟩ := Hd.says_def c 44
  obtain ⟨fdDattached, gDattached⟩ := Hd.says_def c 45
  obtain ⟨fdDunlike, gDunlike⟩ := Hd.says_def c 46
  obtain ⟨fdDisalike, gDisalike⟩ := Hd.says_def c 47
  obtain ⟨fdDlawtimes, gDlawtimes⟩ := Hd.says_def c 48
  obtain ⟨fdDlawturnedright, gDlawturnedright⟩ := Hd.says_def c 49
  obtain ⟨fdDlawisnamed, gDlawisnamed⟩ := Hd.says_def c 50
  obtain ⟨fdDlawunlike, gDlawunlike⟩ := Hd.says_def c 51
  obtain ⟨fdDlawmixed, gDlawmixed⟩ := Hd.says_def c 52
  obtain ⟨fdDlawalikeright, gDlawalikeright⟩ := Hd.says_def c 53
  obtain ⟨fdDlawdue, gDlawdue⟩ := Hd.says_def c 54
  obtain ⟨fdDlawtold, gDlawtold⟩ := Hd.says_def c 55
  obtain ⟨fdDlawstartright, gDlawstartright⟩ := Hd.says_def c 56
  obtain ⟨fdDlawoddright, gDlawoddright⟩ := Hd.says_def c 57
  obtain ⟨fdDlaw, gDlaw⟩ := Hd.says_def c 58
  obtain ⟨fdxInvalidInteger, gxInvalidInteger⟩ := Hd.says_def c 59
  obtain ⟨fdxInvalidAmount, gxInvalidAmount⟩ := Hd.says_def c 60
  obtain ⟨fdxInvalidUnit, gxInvalidUnit⟩ := Hd.says_def c 61
  obtain ⟨fdxInvalidSheet, gxInvalidSheet⟩ := Hd.says_def c 62
  obtain ⟨fdxInvalidName, gxInvalidName⟩ := Hd.says_def c 63
  obtain ⟨fdxDuplicate, gxDuplicate⟩ := Hd.says_def c 64
  obtain ⟨fdxTooMany, gxTooMany⟩ := Hd.says_def c 65
  obtain ⟨fdxUnknownCue, gxUnknownCue⟩ := Hd.says_def c 66
  have Finit := ginit.funD
  have Ftop := gtop.funD
  have Fbot := gbot.funD
  have Feq := geq.funD
  have Fadd := gadd.funD
  have Fmul := gmul.funD
  have Fneg := gneg.funD
  have Fcmp := gcmp.funD
  have Fsi := gsi.funD
  have Ftel := gtel.funD
  have Fsin := gsin.funD
  have Fseq := gseq.funD
  have Fsnm := gsnm.funD
  have Fscs := gscs.funD
  have Fsrw := gsrw.funD
  have Fsmm := gsmm.funD
  have FDlawcell := gDlawcell.funD
  have FDlawbox := gDlawbox.funD
  have FDlawtake := gDlawtake.funD
  have FDiswhole := gDiswhole.funD
  have FDisamount := gDisamount.funD
  have FDasamount := gDasamount.funD
  have FDhasonly := gDhasonly.funD
  have FDisname := gDisname.funD
  have FDisunit := gDisunit.funD
  have FDcheckunit := gDcheckunit.funD
  have FDislisting := gDislisting.funD
  have FDparted := gDparted.funD
  have FDextended := gDextended.funD
  have FDlawlowest := gDlawlowest.funD
  have FDcheckcue := gDcheckcue.funD
  have FDcheckknown := gDcheckknown.funD
  have FDlawadded := gDlawadded.funD
  have FDlawled := gDlawled.funD
  have FDlawrows := gDlawrows.funD
  have FDlawmoments := gDlawmoments.funD
  have FDlawamount := gDlawamount.funD
  have FDlawcues := gDlawcues.funD
  have FDlawpassed := gDlawpassed.funD
  have FDlawplain := gDlawplain.funD
  have FDchecksheet := gDchecksheet.funD
  have FDotherunit := gDotherunit.funD
  have FDexchanged := gDexchanged.funD
  have FDreversedsheet := gDreversedsheet.funD
  have FDstretched := gDstretched.funD
  have FDattached := gDattached.funD
  have FDunlike := gDunlike.funD
  have FDisalike := gDisalike.funD
  have FDlawtimes := gDlawtimes.funD
  have FDlawturnedright := gDlawturnedright.funD
  have FDlawisnamed := gDlawisnamed.funD
  have FDlawunlike := gDlawunlike.funD
  have FDlawmixed := gDlawmixed.funD
  have FDlawalikeright := gDlawalikeright.funD
  have FDlawdue := gDlawdue.funD
  have FDlawtold := gDlawtold.funD
  have FDlawstartright := gDlawstartright.funD
  have FDlawoddright := gDlawoddright.funD
  have FDlaw := gDlaw.funD
  have bDlawcell : Binds K fdDlawcell ["_law_script", "_law_k"] [] := FDlawcell.bindsN fun _ _ _ _ _ _ us hl => match us, hl with | [_, _], _ => rfl
  have bDlawbox : Binds K fdDlawbox ["_law_cell_here"] [] := FDlawbox.bindsN fun _ _ _ _ _ _ us hl => match us, hl with | [_], _ => rfl
  have bDlawtake : Binds K fdDlawtake ["_law_box_here", "_law_many"] [] := FDlawtake.bindsN fun _ _ _ _ _ _ us hl => match us, hl with | [_, _], _ => rfl
  have bDiswhole : Binds K fdDiswhole ["value"] [] := FDiswhole.bindsN fun _ _ _ _ _ _ us hl => match us, hl with | [_], _ => rfl
  have bDisamount : Binds K fdDisamount ["value"] [] := FDisamount.bindsN fun _ _ _ _ _ _ us hl => match us, hl with | [_], _ => rfl
  have bDasamount : Binds K fdDasamount ["value"] [] := FDasamount.bindsN fun _ _ _ _ _ _ us hl => match us, hl with | [_], _ => rfl
  have bDhasonly : Binds K fdDhasonly ["text", "characters"] [] := FDhasonly.bindsN fun _ _ _ _ _ _ us hl => match us, hl with | [_, _], _ => rfl
  have bDisname : Binds K fdDisname ["value"] [] := FDisname.bindsN fun _ _ _ _ _ _ us hl => match us, hl with | [_], _ => rfl
  have bDisunit : Binds K fdDisunit ["value"] [] := FDisunit.bindsN fun _ _ _ _ _ _ us hl => match us, hl with | [_], _ => rfl
  have bDcheckunit : Binds K fdDcheckunit ["unit"] [] := FDcheckunit.bindsN fun _ _ _ _ _ _ us hl => match us, hl with | [_], _ => rfl
  have bDislisting : Binds K fdDislisting ["value"] [] := FDislisting.bindsN fun _ _ _ _ _ _ us hl => match us, hl with | [_], _ => rfl
  have bDparted : Binds K fdDparted ["row", "unit"] [] := FDparted.bindsN fun _ _ _ _ _ _ us hl => match us, hl with | [_, _], _ => rfl
  have bDextended : Binds K fdDextended ["row", "unit", "amount"] [] := FDextended.bindsN fun _ _ _ _ _ _ us hl => match us, hl with | [_, _, _], _ => rfl
  have bDlawlowest : Binds K fdDlawlowest ["_law_top", "_law_bottom"] [] := FDlawlowest.bindsN fun _ _ _ _ _ _ us hl => match us, hl with | [_, _], _ => rfl
  have bDcheckcue : Binds K fdDcheckcue ["item", "known"] [] := FDcheckcue.bindsN fun _ _ _ _ _ _ us hl => match us, hl with | [_, _], _ => rfl
  have bDcheckknown : Binds K fdDcheckknown ["sheet", "name"] [] := FDcheckknown.bindsN fun _ _ _ _ _ _ us hl => match us, hl with | [_, _], _ => rfl
  have bDlawadded : Binds K fdDlawadded ["_law_one", "_law_other"] [] := FDlawadded.bindsN fun _ _ _ _ _ _ us hl => match us, hl with | [_, _], _ => rfl
  have bDlawled : Binds K fdDlawled ["_law_row", "_law_unit", "_law_amount_here"] [] := FDlawled.bindsN fun _ _ _ _ _ _ us hl => match us, hl with | [_, _, _], _ => rfl
  have bDlawrows : Binds K fdDlawrows ["_law_cues_here"] [] := FDlawrows.bindsN fun _ _ _ _ _ _ us hl => match us, hl with | [_], _ => rfl
  have bDlawmoments : Binds K fdDlawmoments ["_law_cues_here"] [] := FDlawmoments.bindsN fun _ _ _ _ _ _ us hl => match us, hl with | [_], _ => rfl
  have bDlawamount : Binds K fdDlawamount ["_law_box_here"] [] := FDlawamount.bindsN fun _ _ _ _ _ _ us hl => match us, hl with | [_], _ => rfl
  have bDlawcues : Binds K fdDlawcues ["_law_box_here", "_law_limit", "_law_most_cues"] [] := FDlawcues.bindsN fun _ _ _ _ _ _ us hl => match us, hl with | [_, _, _], _ => rfl
  have bDlawpassed : Binds K fdDlawpassed ["_law_cues_here"] [] := FDlawpassed.bindsN fun _ _ _ _ _ _ us hl => match us, hl with | [_], _ => rfl
  have bDlawplain : Binds K fdDlawplain ["_law_sheet"] [] := FDlawplain.bindsN fun _ _ _ _ _ _ us hl => match us, hl with | [_], _ => rfl
  have bDchecksheet : Binds K fdDchecksheet ["sheet"] [] := FDchecksheet.bindsN fun _ _ _ _ _ _ us hl => match us, hl with | [_], _ => rfl
  have bDotherunit : Binds K fdDotherunit ["unit"] [] := FDotherunit.bindsN fun _ _ _ _ _ _ us hl => match us, hl with | [_], _ => rfl
  have bDexchanged : Binds K fdDexchanged ["sheet"] [] := FDexchanged.bindsN fun _ _ _ _ _ _ us hl => match us, hl with | [_], _ => rfl
  have bDreversedsheet : Binds K fdDreversedsheet ["sheet"] [] := FDreversedsheet.bindsN fun _ _ _ _ _ _ us hl => match us, hl with | [_], _ => rfl
  have bDstretched : Binds K fdDstretched ["sheet", "unit", "by"] [] := FDstretched.bindsN fun _ _ _ _ _ _ us hl => match us, hl with | [_, _, _], _ => rfl
  have bDattached : Binds K fdDattached ["sheet", "other", "at", "prefix"] [] := FDattached.bindsN fun _ _ _ _ _ _ us hl => match us, hl with | [_, _, _, _], _ => rfl
  have bDunlike : Binds K fdDunlike ["one", "other"] [] := FDunlike.bindsN fun _ _ _ _ _ _ us hl => match us, hl with | [_, _], _ => rfl
  have bDisalike : Binds K fdDisalike ["one", "other"] [] := FDisalike.bindsN fun _ _ _ _ _ _ us hl => match us, hl with | [_, _], _ => rfl
  have bDlawtimes : Binds K fdDlawtimes ["_law_cues_here", "_law_unit", "_law_by"] [] := FDlawtimes.bindsN fun _ _ _ _ _ _ us hl => match us, hl with | [_, _, _], _ => rfl
  have bDlawturnedright : Binds K fdDlawturnedright ["_law_box_here", "_law_sheet", "_law_cues_here"] [] := FDlawturnedright.bindsN fun _ _ _ _ _ _ us hl => match us, hl with | [_, _, _], _ => rfl
  have bDlawisnamed : Binds K fdDlawisnamed ["_law_word"] [] := FDlawisnamed.bindsN fun _ _ _ _ _ _ us hl => match us, hl with | [_], _ => rfl
  have bDlawunlike : Binds K fdDlawunlike ["_law_cues_here", "_law_more"] [] := FDlawunlike.bindsN fun _ _ _ _ _ _ us hl => match us, hl with | [_, _], _ => rfl
  have bDlawmixed : Binds K fdDlawmixed ["_law_box_here", "_law_cues_here"] [] := FDlawmixed.bindsN fun _ _ _ _ _ _ us hl => match us, hl with | [_, _], _ => rfl
  have bDlawalikeright : Binds K fdDlawalikeright ["_law_box_here", "_law_sheet", "_law_cues_here", "_law_more"] [] := FDlawalikeright.bindsN fun _ _ _ _ _ _ us hl => match us, hl with | [_, _, _, _], _ => rfl
  have bDlawdue : Binds K fdDlawdue ["_law_cues_here", "_law_more", "_law_at", "_law_prefix"] [] := FDlawdue.bindsN fun _ _ _ _ _ _ us hl => match us, hl with | [_, _, _, _], _ => rfl
  have bDlawtold : Binds K fdDlawtold ["_law_way", "_law_things"] [] := FDlawtold.bindsN fun _ _ _ _ _ _ us hl => match us, hl with | [_, _], _ => rfl
  have bDlawstartright : Binds K fdDlawstartright ([] : List Str) [] := FDlawstartright.bindsN fun _ _ _ _ _ _ us hl => match us, hl with | [], _ => rfl
  have bDlawoddright : Binds K fdDlawoddright ["_law_sheet"] [] := FDlawoddright.bindsN fun _ _ _ _ _ _ us hl => match us, hl with | [_], _ => rfl
  have btop : Binds K fdtop ["self"] [] := Ftop.bindsN fun _ _ _ _ _ _ us hl => match us, hl with | [_], _ => rfl
  have bbot : Binds K fdbot ["self"] [] := Fbot.bindsN fun _ _ _ _ _ _ us hl => match us, hl with | [_], _ => rfl
  have beq : Binds K fdeq ["self", "other"] [] := Feq.bindsN fun _ _ _ _ _ _ us hl => match us, hl with | [_, _], _ => rfl
  have badd : Binds K fdadd ["self", "other"] [] := Fadd.bindsN fun _ _ _ _ _ _ us hl => match us, hl with | [_, _], _ => rfl
  have bmul : Binds K fdmul ["self", "other"] [] := Fmul.bindsN fun _ _ _ _ _ _ us hl => match us, hl with | [_, _], _ => rfl
  have bneg : Binds K fdneg ["self"] [] := Fneg.bindsN fun _ _ _ _ _ _ us hl => match us, hl with | [_], _ => rfl
  have bcmp : Binds K fdcmp ["self", "other"] [] := Fcmp.bindsN fun _ _ _ _ _ _ us hl => match us, hl with | [_, _], _ => rfl
  have bsi : Binds K fdsi ["self", "cues"] [] := Fsi.bindsN fun _ _ _ _ _ _ us hl => match us, hl with | [_, _], _ => rfl
  have btel : Binds K fdtel ["self", "item"] [] := Ftel.bindsN fun _ _ _ _ _ _ us hl => match us, hl with | [_, _], _ => rfl
  have bsin : Binds K fdsin ["self", "value"] [] := Fsin.bindsN fun _ _ _ _ _ _ us hl => match us, hl with | [_, _], _ => rfl
  have bseq : Binds K fdseq ["self", "other"] [] := Fseq.bindsN fun _ _ _ _ _ _ us hl => match us, hl with | [_, _], _ => rfl
  have bsnm : Binds K fdsnm ["self"] [] := Fsnm.bindsN fun _ _ _ _ _ _ us hl => match us, hl with | [_], _ => rfl
  have bscs : Binds K fdscs ["self"] [] := Fscs.bindsN fun _ _ _ _ _ _ us hl => match us, hl with | [_], _ => rfl
  have bsrw : Binds K fdsrw ["self", "name"] [] := Fsrw.bindsN fun _ _ _ _ _ _ us hl => match us, hl with | [_, _], _ => rfl
  have bsmm : Binds K fdsmm ["self", "name"] [] := Fsmm.bindsN fun _ _ _ _ _ _ us hl => match us, hl with | [_, _], _ => rfl
  have sub : ∀ T ∈ tys, PySem.W.subIn K (.type T) (.ref (CA K)) = some false := fun T hT => of_decide_eq_true (List.all_eq_true.mp (Hd.allB_at cc 19) T hT)
  have sf : PySem.W.selfFirst K (CA K) = true := Hd.allB_at cc 20
  have A : AF K mg :=
    { cl := ⟨Hd.allB_at cc 0, Hd.allB_at cc 1, Hd.allB_at cc 2, He.eqO_ok (Hd.allB_at cc 3)⟩
      noT := He.eqO_ok (Hd.allB_at cc 4)
      noB := He.eqO_ok (Hd.allB_at cc 5)
      mkA := ⟨Hd.allB_at cc 6, He.eqO_ok (Hd.allB_at cc 7), Hd.allB_at cc 8, Hd.allB_at cc 9⟩
      g := G_Amount
      isi := R_isinstance
      int := R_int
      bool := R_bool
      gcd := PySem.W.mg_of X G (He.eqO_ok (Hd.allB_at cc 10))
      gI := G_InvalidInteger
      gV := G_InvalidAmount
      kI := of_decide_eq_true (Hd.allB_at cc 11)
      kB := of_decide_eq_true (Hd.allB_at cc 12)
      kS := of_decide_eq_true (Hd.allB_at cc 13)
      kT := fun T hT => of_decide_eq_true (List.all_eq_true.mp (Hd.allB_at cc 14) T hT)
      ca := He.eqO_ok (Hd.allB_at cc 15)
      cn := He.eqO_ok (Hd.allB_at cc 16)
      ct := of_decide_eq_true (Hd.allB_at cc 17)
      cm := of_decide_eq_true (Hd.allB_at cc 18) }
  have xInvalidInteger := Hd.exc_txt Xb.nm_value gxInvalidInteger (Hd.allB_at ck 35) ⟨_, _, _, _, _, _, _, _, _, _, _, _, _, rfl, rfl, rfl, rfl⟩
  have xInvalidAmount := Hd.exc_txt Xb.nm_value gxInvalidAmount (Hd.allB_at ck 36) ⟨_, _, _, _, _, _, _, _, _, _, _, _, _, rfl, rfl, rfl, rfl⟩
  have xInvalidUnit := Hd.exc_txt Xb.nm_value gxInvalidUnit (Hd.allB_at ck 37) ⟨_, _, _, _, _, _, _, _, _, _, _, _, _, rfl, rfl, rfl, rfl⟩
  have xInvalidSheet := Hd.exc_txt Xb.nm_value gxInvalidSheet (Hd.allB_at ck 38) ⟨_, _, _, _, _, _, _, _, _, _, _, _, _, rfl, rfl, rfl, rfl⟩
  have xInvalidName := Hd.exc_txt Xb.nm_value gxInvalidName (Hd.allB_at ck 39) ⟨_, _, _, _, _, _, _, _, _, _, _, _, _, rfl, rfl, rfl, rfl⟩
  have xDuplicate := Hd.exc_txt nm_label gxDuplicate (Hd.allB_at ck 40) ⟨_, _, _, _, _, _, _, _, _, _, _, _, _, rfl, rfl, rfl, rfl⟩
  have xTooMany := Hd.exc_txtL nm_most gxTooMany (Hd.allB_at ck 41) ⟨_, _, _, _, _, _, _, _, _, _, _, _, _, rfl, rfl, rfl, rfl⟩
  have xUnknownCue := Hd.exc_txtK nm_label gxUnknownCue (Hd.allB_at ck 42) ⟨_, _, _, _, _, _, _, _, _, _, _, _, _, rfl, rfl, rfl, rfl⟩
  have M : MF K mg := ⟨⟨Hd.allB_at cm 0, Hd.allB_at cm 1, Hd.allB_at cm 2, He.eqO_ok (Hd.allB_at cm 3)⟩, He.eqO_ok (Hd.allB_at cm 4), He.eqO_ok (Hd.allB_at cm 5), He.eqO_ok (Hd.allB_at cm 6), G_Sheet⟩
  have MKS : Mk K (CS K) (aS K) := ⟨Hd.allB_at cm 7, He.eqO_ok (Hd.allB_at cm 8), Hd.allB_at cm 9, Hd.allB_at cm 10⟩
  have mE := meB_of (Hd.allB_at ck 4)
  have neE := He.eqO_ok (Hd.allB_at ck 5)
  have obE := of_decide_eq_true (Hd.allB_at ck 6)
  have oA := opF_of (Hd.allB_at ck 7) sf sub
  have oM := opF_of (Hd.allB_at ck 8) sf sub
  have mN := meB_of (Hd.allB_at ck 11)
  have mC := meB_of (Hd.allB_at ck 12)
  have m_tel := smB_of (Hd.allB_at ck 15)
  have m_sin := smB_of (Hd.allB_at ck 16)
  have m_seq := smB_of (Hd.allB_at ck 17)
  have m_snm := smB_of (Hd.allB_at ck 18)
  have m_scs := smB_of (Hd.allB_at ck 19)
  have m_srw := smB_of (Hd.allB_at ck 20)
  have m_smm := smB_of (Hd.allB_at ck 21)
  have nca := of_decide_eq_true (Hd.allB_at ck 22)
  have kS := of_decide_eq_true (Hd.allB_at ck 23)
  have cmS := of_decide_eq_true (Hd.allB_at ck 26)
  have caS := He.eqO_ok (Hd.allB_at ck 25)
  have kTS : ∀ T ∈ tys, PySem.W.kitOne K (.type T) (.ref (CS K)) = some false := fun T hT => of_decide_eq_true (List.all_eq_true.mp (Hd.allB_at ck 24) T hT)
  have nx : NotX K := fun p hp => of_decide_eq_true (List.all_eq_true.mp (Hd.allB_at ck 27) p hp)
  have hS := sysB_of (Hd.allB_at ck 28)
  have mStart := He.str_ok X G (Hd.allB_at ck 34)
  have mMost := He.int_ok X G (Hd.allB_at ck 31)
  have V : VF K mg (He.ga K "UNITS") :=
    { str := R_str, len := R_len, all := R_all, letters := He.str_ok X G (Hd.allB_at ck 32), digits := He.str_ok X G (Hd.allB_at ck 33), longest := He.int_ok X G (Hd.allB_at ck 30), units := G_UNITS, unitsT := fun H => tupB_of (Hd.allB_at ck 29) H }
  have hlaw := glo "law" (by simp [glos, glos0, glos1, glos2])
  cases hfa.symm.trans hlaw
  have htop : (PP.main.scope.names.lookup ("super" : Str)).isSome = false := by decide +kernel
  have blaw := FDlaw.bindsA (ps := ["_law_script"]) fun _ _ _ _ _ _ us hl => match us, hl with | [_], _ => rfl
  refine ⟨fdDlaw, fun s v => blaw s [v] rfl, fun base _ _ => ?_⟩
  obtain ⟨dv, hds, bI⟩ := Finit.binds1 (ps := ["self", "top", "bottom"]) 2 0 (by simp [dC]) rfl (fun _ _ _ _ _ _ _ us its hu hi => match us, its, hu, hi with | [_, _], [_], _, _ => ⟨_, rfl, rfl⟩)
  obtain ⟨ds2', hds2, bI2⟩ := Finit.binds1 (ps := ["self", "top", "bottom"]) 3 1 (by simp [dC]) rfl (fun _ _ _ _ _ _ _ us its hu hi => match us, its, hu, hi with | [_, _, _], [_], _, _ => ⟨_, rfl, rfl⟩)
  cases hds2
  have OI : FnOk PP w K mg base (L2.CX PP w) 4 (aI K) fdinit ["self", "top", "bottom"] (spInit K) := ok_init Finit A FDiswhole G_is_whole xInvalidInteger htop
  have OS : FnOk PP w K mg base (L2.CX PP w) 6 _ fdDasamount ["value"] (spAs K) := ok_as FDasamount A FDiswhole G_is_whole FDisamount G_is_amount Finit xInvalidInteger xInvalidAmount htop
  have Oadd : OpK PP w K mg base "add" 7 (spAdd K) _ fdadd := ⟨oA, ok_add Fadd A OS G_as_amount FDasamount.kp bDasamount OI bI2, badd⟩
  have Omul : OpK PP w K mg base "mul" 7 (spMul K) _ fdmul := ⟨oM, ok_mul Fmul A OS G_as_amount FDasamount.kp bDasamount OI bI2, bmul⟩
  have Eq : EqK PP w K mg base _ fdeq := ⟨mE.at_, mE.fn, ok_eq Feq A, beq, neE, obE⟩
  have Ptop : PrF PP w K mg base "top" "_top" _ _ fdtop := ⟨prB_of (Hd.allB_at ck 13), ok_top Ftop A, btop⟩
  have Pbottom : PrF PP w K mg base "bottom" "_bottom" _ _ fdbot := ⟨prB_of (Hd.allB_at ck 14), ok_bot Fbot A, bbot⟩
  have VDasamount : Fn PP w K mg base "as_amount" 6 ["value"] (spAs K) _ fdDasamount := ⟨OS, G_as_amount, FDasamount.kp, bDasamount⟩
  have NG : NgK PP w K mg base _ fdneg := ⟨mN.at_, mN.fn, ok_neg Fneg A OI bI2, bneg⟩
  have Mcompare : MeK PP w K mg base "compare" 7 (spCmp K) _ fdcmp := ⟨mC, ok_cmp Fcmp A OS G_as_amount FDasamount.kp bDasamount, bcmp⟩
  have VDlawcell : Fn0 PP w K mg base "_law_cell" 1 ["_law_script", "_law_k"] (spCel K) _ fdDlawcell := ⟨ok_cell FDlawcell R_len, G__law_cell, FDlawcell.kp, bDlawcell⟩
  have VDlawbox : Fn0 PP w K mg base "_law_box" 1 ["_law_cell_here"] spBox _ fdDlawbox := ⟨ok_box FDlawbox R_max, G__law_box, FDlawbox.kp, bDlawbox⟩
  have VDlawtake : Fn0 PP w K mg base "_law_take" 1 ["_law_box_here", "_law_many"] spTake _ fdDlawtake := ⟨ok_take FDlawtake, G__law_take, FDlawtake.kp, bDlawtake⟩
  have VDisamount : Fn PP w K mg base "is_amount" 2 ["value"] (spIsA K) _ fdDisamount := ⟨ok_isA FDisamount A FDiswhole G_is_whole, G_is_amount, FDisamount.kp, bDisamount⟩
  have VDhasonly : Fn PP w K mg base "has_only" 1 ["text", "characters"] spHas _ fdDhasonly := ⟨ok_has FDhasonly R_all, G_has_only, FDhasonly.kp, bDhasonly⟩
  have VDisname : Fn PP w K mg base "is_name" 2 ["value"] (spName K) _ fdDisname := ⟨ok_name FDisname A V VDhasonly.ok G_has_only FDhasonly.kp bDhasonly, G_is_name, FDisname.kp, bDisname⟩
  have VDisunit : Fn PP w K mg base "is_unit" 1 ["value"] (spText K isUnit) _ fdDisunit := ⟨ok_unit FDisunit A V, G_is_unit, FDisunit.kp, bDisunit⟩
  have VDcheckunit : Fn PP w K mg base "check_unit" 2 ["unit"] (spChk K) _ fdDcheckunit := ⟨ok_chk FDcheckunit VDisunit.ok G_is_unit FDisunit.kp bDisunit G_InvalidUnit xInvalidUnit htop, G_check_unit, FDcheckunit.kp, bDcheckunit⟩
  have VDislisting : Fn PP w K mg base "is_listing" 1 ["value"] (spLs K) _ fdDislisting := ⟨ok_ls FDislisting A R_list R_tuple, G_is_listing, FDislisting.kp, bDislisting⟩
  have VDparted : Fn PP w K mg base "parted" 6 ["row", "unit"] (spPart K) _ fdDparted := ⟨ok_par FDparted A R_len R_list OI hds bI, G_parted, FDparted.kp, bDparted⟩
  have VDextended : Fn PP w K mg base "extended" 8 ["row", "unit", "amount"] (spExt K) _ fdDextended := ⟨ok_ext FDextended A Eq Oadd VDparted OI hds bI, G_extended, FDextended.kp, bDextended⟩
  have VDlawlowest : Fn PP w K mg base "_law_lowest" 1 ["_law_top", "_law_bottom"] spLow _ fdDlawlowest := ⟨ok_low FDlawlowest R_abs, G__law_lowest, FDlawlowest.kp, bDlawlowest⟩
  have VDcheckcue : Fn PP w K mg base "check_cue" 3 ["item", "known"] (spCC K) _ fdDcheckcue := ⟨ok_cc FDcheckcue A V R_len VDislisting VDisname VDcheckunit VDisamount G_InvalidName xInvalidName G_Duplicate xDuplicate G_UnknownCue xUnknownCue htop, G_check_cue, FDcheckcue.kp, bDcheckcue⟩
  have S_tell : MeS PP w K mg base "_tell" 9 ["self", "item"] (spTell K) _ fdtel := ⟨m_tel, ok_tel Ftel A M Eq VDasamount VDextended, btel⟩
  have SI : FnOk PP w K mg base (L2.CX PP w) 10 (aS K) fdsi ["self", "cues"] (spSI K) := ok_si Fsi M nca R_len mStart mMost G_TooMany xTooMany htop VDislisting VDcheckcue S_tell
  have SC : SCn PP w K mg base _ fdsin := ⟨m_sin.at_, m_sin.fn, ok_sIn Fsin A V M, bsin⟩
  have EQS : EqS PP w K mg base _ fdseq := ⟨m_seq.at_, m_seq.fn, ok_sEq Fseq A M Eq kS caS cmS, bseq, He.eqO_ok (Hd.allB_at ck 9), of_decide_eq_true (Hd.allB_at ck 10)⟩
  have Scues : MeS PP w K mg base "cues" 1 ["self"] (spCs K) _ fdscs := ⟨m_scs, ok_sCs Fscs M R_list, bscs⟩
  have Snames : MeS PP w K mg base "names" 1 ["self"] (spNm K) _ fdsnm := ⟨m_snm, ok_sNm Fsnm M, bsnm⟩
  have VDcheckknown : Fn PP w K mg base "check_known" 3 ["sheet", "name"] (spCN K) _ fdDcheckknown := ⟨ok_cn FDcheckknown M SC G_UnknownCue xUnknownCue htop, G_check_known, FDcheckknown.kp, bDcheckknown⟩
  have VDlawadded : Fn PP w K mg base "_law_added" 2 ["_law_one", "_law_other"] spAdd2 _ fdDlawadded := ⟨ok_add2 FDlawadded VDlawlowest, G__law_added, FDlawadded.kp, bDlawadded⟩
  have VDlawled : Fn PP w K mg base "_law_led" 3 ["_law_row", "_law_unit", "_law_amount_here"] spLed _ fdDlawled := ⟨ok_led FDlawled VDlawadded, G__law_led, FDlawled.kp, bDlawled⟩
  have VDlawrows : Fn PP w K mg base "_law_rows" 4 ["_law_cues_here"] (spRws K) _ fdDlawrows := ⟨ok_rws FDlawrows VDlawled, G__law_rows, FDlawrows.kp, bDlawrows⟩
  have VDlawmoments : Fn PP w K mg base "_law_moments" 5 ["_law_cues_here"] (spMom K) _ fdDlawmoments := ⟨ok_mom FDlawmoments R_len R_range VDlawrows, G__law_moments, FDlawmoments.kp, bDlawmoments⟩
  have VDlawamount : Fn PP w K mg base "_law_amount" 2 ["_law_box_here"] spLam _ fdDlawamount := ⟨ok_lam FDlawamount VDlawtake VDlawlowest, G__law_amount, FDlawamount.kp, bDlawamount⟩
  have VDlawcues : Fn PP w K mg base "_law_cues" 6 ["_law_box_here", "_law_limit", "_law_most_cues"] spLcu _ fdDlawcues := ⟨ok_lcu FDlawcues R_len R_range R_str VDlawtake VDlawamount VDlawmoments, G__law_cues, FDlawcues.kp, bDlawcues⟩
  have VDlawpassed : Fn PP w K mg base "_law_passed" 6 ["_law_cues_here"] (spPas K) _ fdDlawpassed := ⟨ok_pas FDlawpassed A OI bI2, G__law_passed, FDlawpassed.kp, bDlawpassed⟩
  have VDlawplain : Fn PP w K mg base "_law_plain" 3 ["_law_sheet"] (spPln K) _ fdDlawplain := ⟨ok_pln FDlawplain A M Scues Ptop Pbottom, G__law_plain, FDlawplain.kp, bDlawplain⟩
  have Smoment : MeS PP w K mg base "moment" 4 ["self", "name"] (spMm K) _ fdsmm := ⟨m_smm, ok_sMm Fsmm M VDcheckknown, bsmm⟩
  have Srow : MeS PP w K mg base "row" 5 ["self", "name"] (spRw K) _ fdsrw := ⟨m_srw, ok_sRw Fsrw M R_list Smoment, bsrw⟩
  have VDchecksheet : Fn PP w K mg base "check_sheet" 2 ["sheet"] (spChs K) _ fdDchecksheet := ⟨ok_chs FDchecksheet A M G_InvalidSheet xInvalidSheet htop kS caS cmS, G_check_sheet, FDchecksheet.kp, bDchecksheet⟩
  have VDotherunit : Fn PP w K mg base "other_unit" 3 ["unit"] (spOth K) _ fdDotherunit := ⟨ok_oth FDotherunit VDcheckunit, G_other_unit, FDotherunit.kp, bDotherunit⟩
  have VDexchanged : Fn PP w K mg base "exchanged" 12 ["sheet"] (spMap K (M34.gc M34.sw fun _ => 1)) _ fdDexchanged := ⟨ok_exc FDexchanged A M MKS VDchecksheet Scues VDotherunit SI bsi, G_exchanged, FDexchanged.kp, bDexchanged⟩
  have VDreversedsheet : Fn PP w K mg base "reversed_sheet" 12 ["sheet"] (spMap K (M34.gc id fun _ => -1)) _ fdDreversedsheet := ⟨ok_rev FDreversedsheet A M MKS VDchecksheet Scues NG SI bsi, G_reversed_sheet, FDreversedsheet.kp, bDreversedsheet⟩
  have VDstretched : Fn PP w K mg base "stretched" 12 ["sheet", "unit", "by"] (spStr K) _ fdDstretched := ⟨ok_str FDstretched A M MKS VDchecksheet Scues VDcheckunit VDisamount VDasamount Mcompare Omul xInvalidAmount htop SI bsi, G_stretched, FDstretched.kp, bDstretched⟩
  have VDattached : Fn PP w K mg base "attached" 12 ["sheet", "other", "at", "prefix"] (spAtt K) _ fdDattached := ⟨ok_att FDattached A M MKS mStart VDchecksheet Scues VDcheckknown VDisname G_InvalidName xInvalidName htop SI bsi, G_attached, FDattached.kp, bDattached⟩
  have VDunlike : Fn PP w K mg base "unlike" 6 ["one", "other"] (spUnl K) _ fdDunlike := ⟨ok_unl FDunlike M Eq VDchecksheet Snames SC Srow, G_unlike, FDunlike.kp, bDunlike⟩
  have VDisalike : Fn PP w K mg base "is_alike" 7 ["one", "other"] (spAli K) _ fdDisalike := ⟨ok_ali FDisalike R_len VDunlike, G_is_alike, FDisalike.kp, bDisalike⟩
  have VDlawtimes : Fn PP w K mg base "_law_times" 3 ["_law_cues_here", "_law_unit", "_law_by"] (spTms K) _ fdDlawtimes := ⟨ok_tms FDlawtimes VDlawlowest, G__law_times, FDlawtimes.kp, bDlawtimes⟩
  have VDlawturnedright : Fn PP w K mg base "_law_turned_right" 13 ["_law_box_here", "_law_sheet", "_law_cues_here"] (spTr K) _ fdDlawturnedright := ⟨ok_tr FDlawturnedright A M VDexchanged VDreversedsheet VDstretched VDlawplain VDlawtimes VDlawtake VDlawlowest EQS OI bI2, G__law_turned_right, FDlawturnedright.kp, bDlawturnedright⟩
  have VDlawisnamed : Fn PP w K mg base "_law_is_named" 1 ["_law_word"] spNmd _ fdDlawisnamed := ⟨ok_nmd FDlawisnamed A V R_len, G__law_is_named, FDlawisnamed.kp, bDlawisnamed⟩
  have VDlawunlike : Fn PP w K mg base "_law_unlike" 5 ["_law_cues_here", "_law_more"] (spUl K) _ fdDlawunlike := ⟨ok_ul FDlawunlike VDlawrows, G__law_unlike, FDlawunlike.kp, bDlawunlike⟩
  have VDlawmixed : Fn PP w K mg base "_law_mixed" 2 ["_law_box_here", "_law_cues_here"] (spMx K) _ fdDlawmixed := ⟨ok_mx FDlawmixed R_len R_list VDlawtake, G__law_mixed, FDlawmixed.kp, bDlawmixed⟩
  have VDlawalikeright : Fn PP w K mg base "_law_alike_right" 12 ["_law_box_here", "_law_sheet", "_law_cues_here", "_law_more"] (spAr K) _ fdDlawalikeright := ⟨ok_ar FDlawalikeright M MKS R_repr VDlawmixed VDlawpassed VDunlike VDlawunlike VDisalike EQS SI bsi, G__law_alike_right, FDlawalikeright.kp, bDlawalikeright⟩
  have VDlawdue : Fn PP w K mg base "_law_due" 6 ["_law_cues_here", "_law_more", "_law_at", "_law_prefix"] (spDue K) _ fdDlawdue := ⟨ok_due FDlawdue R_len R_list VDlawisnamed VDlawmoments, G__law_due, FDlawdue.kp, bDlawdue⟩
  have VDlawtold : Fn PP w K mg base "_law_told" 13 ["_law_way", "_law_things"] (spTld K) _ fdDlawtold := ⟨ok_tld FDlawtold VDlawplain VDattached VDstretched VDexchanged VDreversedsheet G_InvalidSheet G_UnknownCue G_InvalidName G_Duplicate G_InvalidUnit G_InvalidAmount G_TooMany xInvalidSheet xUnknownCue xInvalidName xDuplicate xInvalidUnit xInvalidAmount xTooMany nx, G__law_told, FDlawtold.kp, bDlawtold⟩
  have VDlawstartright : Fn PP w K mg base "_law_start_right" 13 [] (spSr K) _ fdDlawstartright := ⟨ok_sr FDlawstartright M MKS VDattached G_Duplicate xDuplicate SI bsi, G__law_start_right, FDlawstartright.kp, bDlawstartright⟩
  have VDlawoddright : FnS2 PP w K mg base "_law_odd_right" 14 ["_law_sheet"] (spOdd K) _ fdDlawoddright := ⟨ok_odd FDlawoddright hS R_repr R_range kTS VDlawtold, G__law_odd_right, FDlawoddright.kp, bDlawoddright⟩
  exact ok_law FDlaw hS A M MKS R_len R_range R_max R_min R_repr VDlawcell VDlawbox VDlawtake VDlawcues VDlawpassed VDlawturnedright VDlawoddright VDlawalikeright VDlawtold VDlawdue VDlawplain VDattached VDlawstartright EQS SI bsi
end K34
set_option Elab.async false
set_option linter.all false
set_option maxRecDepth 100000
set_option maxHeartbeats 0
namespace K34
open PySem PySem.Spec PyProof.Rows L2
theorem noX (P : Program) (w : World) (H : Hp) (s : Shared) (e : Value) (s' : Shared) : L2.CX P w [] H s (fun _ _ _ => False) e s' → False := fun ⟨_, _, _, _, _, _, _, _, _, _, _, _, z⟩ => z
end K34
open PySem PySem.W PySem.Calls PyProof.Rows
theorem PySem.Challenge.cw_anytempo_k34_sheets_turned_and_joined_holds : PySem.Challenge.rw_anytempo_k34_sheets_turned_and_joined.Holds := by
  w_on; o_law
  refine HandSHeadRun.head_imp (r := OpenLaw.row PySem.Challenge.rw_anytempo_k34_sheets_turned_and_joined) (q := view (OpenLaw.row PySem.Challenge.rw_anytempo_k34_sheets_turned_and_joined).prog [0, 72]) (H := K34.hk) (ob := Hd.obL K34.asL K34.ds K34.chk) (M := 20000) (loose := K34.nms) (d := HandSHeadRun.topDef (OpenLaw.row PySem.Challenge.rw_anytempo_k34_sheets_turned_and_joined).prog 72) (kwd := [])
    (Hd.obL_eq K34.asL K34.ds K34.chk) K34.run (by kernel_rfl) (by kernel_rfl) (by kernel_rfl) (by rfl) (by first | assumption | decide +kernel) (by decide +kernel) ⟨rfl, rfl, rfl, rfl, rfl, by decide +kernel⟩ ?hw ?hc
  case hw => w_witness2
  case hc =>
    refine Fg.walk_ofG (l := PySem.Challenge.rw_anytempo_k34_sheets_turned_and_joined) (n := 63) (k := 15) (x := "_law_script") (CX := fun w => L2.CX K34.PP w) rfl (by decide) (by kernel_rfl) ⟨rfl, by decide, by decide⟩ ?F (fun w => K34.noX K34.PP w)
    intro w mg fa h Y G hmg0
    obtain ⟨K, KX, c⟩ := Y
    have hmg : mg ("law" : PySem.Str) = some (.ref fa) := by
      have e : (HandSHeadRun.topDef (OpenLaw.row PySem.Challenge.rw_anytempo_k34_sheets_turned_and_joined).prog 72).name = ("law" : PySem.Str) := by kernel_rfl
      rw [← e]
      exact hmg0
    obtain ⟨fd, hb, hF⟩ := K34.facts (w := w) KX G hmg c
    exact ⟨K, fd, K34.spLaw K, KX, hb, fun H a ns hl _ hS => ⟨a, ns, rfl, hS, hl, fun _ => rfl⟩, hF⟩
